/-
  CONTRACT of package rate's All.
-/
import Derived.Test.YtpjmpgienhdccaaDoorRateC
namespace Go.Proofs.YtpjmpgienhdccaaDoor
open Go.ChangeShapes Go.WideShapes Go.ChangeAt Go.RowKit
set_option linter.unusedVariables false
set_option linter.unusedSimpArgs false


instance decRt : DecidableEq Rt := fun a b => if h : sameR a b = true then isTrue (sameR_eq h) else isFalse (fun e => h (e ▸ sameR_refl a))
theorem rate_info : (Tryd.prog.info? 27).map (fun i => (i.zero, i.size, i.bytes)) = some (some (.agg #[.int .i64 0, .int .i64 0, .int .i64 0, .int .i64 0, .int .i64 0]), 5, 40) := by kernel_rfl
theorem Rt.one (u : Rt) : ∀ v ∈ u.cells, v.oneCell' = true := by
  intro v hv
  simp only [Rt.cells, List.mem_cons, List.not_mem_nil, or_false] at hv
  rcases hv with rfl | rfl | rfl | rfl | rfl <;> rfl
def d0 : Rt := ⟨0, 0, 0, 0, 0⟩
abbrev OwnR (w : World) (B : Nat) (v : Value) (n : Nat) (l : List Rt) : Prop := OwnS Rt.cells 5 w B 27 v n l
abbrev RowR (w : World) (A : Option Addr) (n : Nat) (l : List Rt) : Prop := RowS Rt.cells 5 d0 w A n l
/-- one more rate. -/
theorem app_r {ops : Array Oper} {rest : List Oper} {o : Oper} {a : Act} {w : World} {Q : Exit → Act → World → Prop} (hgd : o.guard = none) (s x : Operand)
    (ho : o.op = .call { callee := .builtin .append, args := #[s, x], argTypes := #[23, 23] })
    (B k : Nat) (lv : Value) (l : List Rt) (hs : a.eval s = lv) (hP : OwnR w B lv k l) (u : Rt) (ad : Addr) (c : Nat) (hx : a.eval x = .slice (some ad) 1 c) (hc : ∀ j v, u.cells[j]? = some v → w.cell? (ad.add j) = some v)
    (hk : k ≤ 100000) (hB : B ≤ w.heap.size)
    (h : ∀ g' cap' w', Hid (OwnR w' B (.slice (some ⟨g', 0, none⟩) (k + 1) cap') (k + 1) (l ++ [u])) → Hid (Below B w w') → wpList Tryd.prog ops Q rest (a.put o.dst (.slice (some ⟨g', 0, none⟩) (k + 1) cap')) w') : wpList Tryd.prog ops Q (o :: rest) a w := by
  obtain ⟨i0, hi0, hz0, hz1, hz2⟩ := info_parts rate_info
  exact app_s hgd s x 23 ho 27 i0 _ 40 Tryd.underlying23 hi0 hz0 hz1 hz2 rfl (by omega) B k lv l hs hP u ad c hx rfl hc u.one (by omega) (by omega) hB h

/-! ### the lists of package rate, loop by loop -/
def rk (m : Int) (a b c d : Nat) : Rt := ⟨m, a, (b : Int) + 1, widthI c, d⟩
def L3 (m : Int) (a b c k : Nat) : List Rt := (List.range k).map fun d => rk m a b c d
def L2 (m : Int) (q3 a b k : Nat) : List Rt := (List.range k).flatMap fun c => L3 m a b c q3
def L1 (m : Int) (q2 q3 a k : Nat) : List Rt := (List.range k).flatMap fun b => L2 m q3 a b q2
def M1 (m : Int) (q1 q2 q3 k : Nat) : List Rt := (List.range k).flatMap fun a => L1 m q2 q3 a q1
def M2 (m : Int) (q1 q2 q3 a b : Nat) : List Rt := M1 m q1 q2 q3 a ++ L1 m q2 q3 a b
def M3 (m : Int) (q1 q2 q3 a b c : Nat) : List Rt := M2 m q1 q2 q3 a b ++ L2 m q3 a b c
def M4 (m : Int) (q1 q2 q3 a b c d : Nat) : List Rt := M3 m q1 q2 q3 a b c ++ L3 m a b c d
section
variable (m : Int) (q1 q2 q3 a b c d : Nat)
theorem M1_zero : M1 m q1 q2 q3 0 = [] := rfl
theorem M2_zero : M2 m q1 q2 q3 a 0 = M1 m q1 q2 q3 a := by simp [M2, L1]
theorem M3_zero : M3 m q1 q2 q3 a b 0 = M2 m q1 q2 q3 a b := by simp [M3, L2]
theorem M4_zero : M4 m q1 q2 q3 a b c 0 = M3 m q1 q2 q3 a b c := by simp [M4, L3]
theorem M2_end : M2 m q1 q2 q3 a q1 = M1 m q1 q2 q3 (a + 1) := by simp [M2, M1, List.range_succ, List.flatMap_append]
theorem M3_end : M3 m q1 q2 q3 a b q2 = M2 m q1 q2 q3 a (b + 1) := by simp [M3, M2, L1, List.range_succ, List.flatMap_append]
theorem M4_end : M4 m q1 q2 q3 a b c q3 = M3 m q1 q2 q3 a b (c + 1) := by simp [M4, M3, L2, List.range_succ, List.flatMap_append]
theorem M4_step : M4 m q1 q2 q3 a b c (d + 1) = M4 m q1 q2 q3 a b c d ++ [rk m a b c d] := by simp [M4, L3, List.range_succ]
theorem len_flat {f : Nat → List Rt} {q : Nat} (h : ∀ i, (f i).length ≤ q) : ∀ k, ((List.range k).flatMap f).length ≤ k * q
  | 0 => by simp
  | k + 1 => by
    rw [List.range_succ, List.flatMap_append, List.length_append, Nat.succ_mul]
    have h1 := len_flat h k
    have h2 := h k
    simp only [List.flatMap_cons, List.flatMap_nil, List.append_nil]
    omega
theorem L3_len : (L3 m a b c d).length = d := by simp [L3]
theorem L2_len (h3 : q3 ≤ 3) : (L2 m q3 a b c).length ≤ c * 3 := len_flat (fun i => by rw [L3_len]; exact h3) c
theorem L1_len (h2 : q2 ≤ 4) (h3 : q3 ≤ 3) : (L1 m q2 q3 a b).length ≤ b * 12 := len_flat (fun i => by have := L2_len m q3 a i q2 h3; omega) b
theorem M1_len (h1 : q1 ≤ 8) (h2 : q2 ≤ 4) (h3 : q3 ≤ 3) : (M1 m q1 q2 q3 a).length ≤ a * 96 := len_flat (fun i => by have := L1_len m q2 q3 i q1 h2 h3; omega) a
theorem M4_len (h1 : q1 ≤ 8) (h2 : q2 ≤ 4) (h3 : q3 ≤ 3) (ha : a ≤ 12) (hb : b ≤ 8) (hc : c ≤ 4) (hd : d ≤ 3) : (M4 m q1 q2 q3 a b c d).length ≤ 2000 := by
  have e1 := M1_len m q1 q2 q3 a h1 h2 h3
  have e2 := L1_len m q2 q3 a b h2 h3
  have e3 := L2_len m q3 a b c h3
  have e4 := L3_len m a b c d
  unfold M4 M3 M2
  simp only [List.length_append]
  omega
end
def kN (m : Int) (i : Nat) : Nat := (kI m i).toNat
theorem kI_in (m : Int) : (0 ≤ kI m 0 ∧ kI m 0 ≤ 12) ∧ (0 ≤ kI m 1 ∧ kI m 1 ≤ 8) ∧ (0 ≤ kI m 2 ∧ kI m 2 ≤ 4) ∧ (0 ≤ kI m 3 ∧ kI m 3 ≤ 3) := by
  unfold kI
  by_cases h1 : m = 1
  · rw [h1, kind_1]; decide
  by_cases h2 : m = 2
  · rw [h2, kind_2]; decide
  by_cases h3 : m = 3
  · rw [h3, kind_3]; decide
  by_cases h4 : m = 4
  · rw [h4, kind_4]; decide
  · rw [kind_0 h1 h2 h3 h4]; decide
theorem all_k1 : M1 1 1 1 1 8 = allR 1 := by decide +kernel
theorem all_k2 : M1 2 4 2 2 8 = allR 2 := by decide +kernel
theorem all_k3 : M1 3 8 4 2 10 = allR 3 := by decide +kernel
theorem all_k4 : M1 4 8 4 3 12 = allR 4 := by decide +kernel
theorem all_is (m : Int) : M1 m (kN m 1) (kN m 2) (kN m 3) (kN m 0) = allR m := by
  by_cases h1 : m = 1
  · subst h1; exact all_k1
  by_cases h2 : m = 2
  · subst h2; exact all_k2
  by_cases h3 : m = 3
  · subst h3; exact all_k3
  by_cases h4 : m = 4
  · subst h4; exact all_k4
  · rw [all_none ⟨h1, h2, h3, h4⟩]
    have : kN m 0 = 0 := by unfold kN kI; rw [kind_0 h1 h2 h3 h4]; rfl
    rw [this, M1_zero]
theorem all_le (m : Int) : (allR m).length ≤ 1152 := allTo_len m 1152
def OutAll (m : Int) (w : World) (e : Ending) (w' : World) : Prop := ∃ A c, e = .returned (.slice A (allR m).length c) ∧ RowR w' A (allR m).length (allR m) ∧ (allR m).length ≤ c ∧ Below w.heap.size w w'
theorem OutAll.of {m : Int} {w w' : World} {B n : Nat} {v : Value} (hO : OwnR w' B v n (allR m)) (hb : Below w.heap.size w w') : OutAll m w (.returned v) w' := by
  have hl := hO.2
  subst hl
  obtain ⟨A, c, rfl, hr, hc⟩ := hO.row (d := d0) (fun a => a.cells_len) (by have := all_le m; unfold maxLen; omega)
  exact ⟨A, c, rfl, hr, hc, hb⟩
set_option maxRecDepth 100000 in
set_option maxHeartbeats 8000000 in
theorem all_any (m : Int) (w : World) :
    Calls Tryd.prog 9 #[.int .i64 m] w fun e w' => OutAll m w e w' := by
  obtain ⟨⟨i0, j0⟩, ⟨i1, j1⟩, ⟨i2, j2⟩, i3, j3⟩ := kI_in m
  have HALL := Lib.hid (all_is m)
  have hC : (kindC m).size = 13 := by unfold kindC; rw [kc_size, kindI_len]
  go_enter Tryd.func9, Tryd.ntmps9
  go_wp2_with (fail)
  refine (kindOf_any m w).mono ?_
  rintro e w3 ⟨rfl, hB⟩
  have HB4 := Lib.hid (hB.alloc hB.size (.cells (kindC m) 40))
  have HK := Lib.hid (heap_alloc_last w3 (.cells (kindC m) 40))
  have hgk : w3.heap.size < (World.alloc w3 (.cells (kindC m) 40)).heap.size := lt_blk HK.out
  have k0 : (World.alloc w3 (.cells (kindC m) 40)).cell? ⟨w3.heap.size, 0, none⟩ = some (.int .i64 (kN m 0 : Nat)) := by rw [kc_cell HK.out 0 (by omega)]; unfold kN; rw [Int.toNat_of_nonneg i0]
  have HK1 := Lib.hid (show ∀ w', Below (World.alloc w3 (.cells (kindC m) 40)).heap.size (World.alloc w3 (.cells (kindC m) 40)) w' → w'.cell? ⟨w3.heap.size, 1, none⟩ = some (.int .i64 (kN m 1 : Nat)) ∧ w'.cell? ⟨w3.heap.size, 2, none⟩ = some (.int .i64 (kN m 2 : Nat)) ∧ w'.cell? ⟨w3.heap.size, 3, none⟩ = some (.int .i64 (kN m 3 : Nat)) from fun w' hb => by
    have hk := (hb.block _ (lt_blk HK.out)).trans HK.out
    rw [kc_cell hk 1 (by omega), kc_cell hk 2 (by omega), kc_cell hk 3 (by omega)]
    unfold kN
    rw [Int.toNat_of_nonneg i1, Int.toNat_of_nonneg i2, Int.toNat_of_nonneg i3]
    exact ⟨rfl, rfl, rfl⟩)
  have l0 : kN m 0 ≤ 12 := by unfold kN; omega
  have l1 : kN m 1 ≤ 8 := by unfold kN; omega
  have l2 : kN m 2 ≤ 4 := by unfold kN; omega
  have l3 : kN m 3 ≤ 3 := by unfold kN; omega
  clear i0 j0 i1 j1 i2 j2 i3 j3 hB
  generalize kN m 0 = q0 at *
  generalize kN m 1 = q1 at *
  generalize kN m 2 = q2 at *
  generalize kN m 3 = q3 at *
  go_wp2_with (refine wpList_store_row rfl 40 (.tmp 3) (.tmp 10) rfl w3.heap.size (kindC m) rfl rfl 40 zk (heap_alloc_last _ _) (by rw [hC]; exact sizeKind) (by rw [hC]; rfl) (kc_one _) ?_; rw [World.setRow_alloc_new]; generalize World.alloc w3 _ = w4 at *; generalize w3.heap.size = gk at *)
  clear k0 hC HK
  go_loopw [4, 13] (fun v i wr => ∃ a n : Nat, a ≤ q0 ∧ i = .int .i64 a ∧ OwnR wr w4.heap.size v n (M1 m q1 q2 q3 a) ∧ Below w4.heap.size w4 wr) (fun _ i _ => q0 - (intOf i).toNat)
  case atStart => exact ⟨0, 0, by omega, rfl, OwnS.nil _ _ _, Below.refl _ _⟩
  case round =>
    obtain ⟨a, n1, ha, rfl, hown, hbel⟩ := hrel
    have HO := Lib.hid hown
    have HB := Lib.hid hbel
    clear hown hbel
    obtain ⟨kk1, kk2, kk3⟩ := HK1.out _ HB.out
    by_cases hlt : a < q0
    · clear kk2 kk3
      have hlt1 := hlt
      clear hlt
      go_wp2
      clear kk1
      obtain ⟨wq1, rfl⟩ : ∃ wq, wq = wr := ⟨_, rfl⟩
      go_loopw [4, 18] (fun v i wr => ∃ b n : Nat, b ≤ q1 ∧ i = .int .i64 b ∧ OwnR wr w4.heap.size v n (M2 m q1 q2 q3 a b) ∧ Below w4.heap.size w4 wr) (fun _ i _ => q1 - (intOf i).toNat)
      case atStart => exact ⟨0, n1, by omega, rfl, by rw [M2_zero]; exact HO.out, HB.out⟩
      case round =>
        obtain ⟨b, n2, hb, rfl, hown, hbel⟩ := hrel
        clear HO HB
        have HO := Lib.hid hown
        have HB := Lib.hid hbel
        clear hown hbel
        obtain ⟨kk1, kk2, kk3⟩ := HK1.out _ HB.out
        by_cases hlt : b < q1
        · clear kk1 kk3
          have hlt2 := hlt
          clear hlt
          go_wp2
          clear kk2
          obtain ⟨wq2, rfl⟩ : ∃ wq, wq = wr := ⟨_, rfl⟩
          go_loopw [4, 23] (fun v i wr => ∃ c n : Nat, c ≤ q2 ∧ i = .int .i64 c ∧ OwnR wr w4.heap.size v n (M3 m q1 q2 q3 a b c) ∧ Below w4.heap.size w4 wr) (fun _ i _ => q2 - (intOf i).toNat)
          case atStart => exact ⟨0, n2, by omega, rfl, by rw [M3_zero]; exact HO.out, HB.out⟩
          case round =>
            obtain ⟨c, n3, hc, rfl, hown, hbel⟩ := hrel
            clear HO HB
            have HO := Lib.hid hown
            have HB := Lib.hid hbel
            clear hown hbel
            obtain ⟨kk1, kk2, kk3⟩ := HK1.out _ HB.out
            by_cases hlt : c < q2
            · clear kk1 kk2
              have hlt3 := hlt
              clear hlt
              go_wp2
              clear kk3
              obtain ⟨wq3, rfl⟩ : ∃ wq, wq = wr := ⟨_, rfl⟩
              go_loopw [4, 28] (fun v i wr => ∃ d n : Nat, d ≤ q3 ∧ i = .int .i64 d ∧ OwnR wr w4.heap.size v n (M4 m q1 q2 q3 a b c d) ∧ Below w4.heap.size w4 wr) (fun _ i _ => q3 - (intOf i).toNat)
              case atStart => exact ⟨0, n3, by omega, rfl, by rw [M4_zero]; exact HO.out, HB.out⟩
              case round =>
                obtain ⟨d, n4, hd, rfl, hown, hbel⟩ := hrel
                clear HO HB
                have HO := Lib.hid hown
                have HB := Lib.hid hbel
                clear hown hbel
                obtain ⟨kk1, kk2, kk3⟩ := HK1.out _ HB.out
                by_cases hlt : d < q3
                · clear kk1 kk2 kk3
                  have hlen := M4_len m q1 q2 q3 a b c d l1 l2 l3 (by omega) (by omega) (by omega) (by omega)
                  rw [HO.out.2] at hlen
                  go_wp2_with (fail)
                  refine (width_any c wr (by omega) (by omega)).mono ?_
                  rintro e w5 ⟨rfl, rfl⟩
                  have HW := Lib.hid (M4_step m q1 q2 q3 a b c d)
                  have HU := Lib.hid (show rk m a b c d = ⟨m, a, (b : Int) + 1, widthI c, d⟩ from rfl)
                  generalize widthI (c : Int) = wd at *
                  go_wp2_with (refine app_r rfl (.tmp 31) (.tmp 40) rfl w4.heap.size n4 u4 (M4 m q1 q2 q3 a b c d) rfl (HO.out.below ((Below.refl wr.heap.size wr).alloc (Nat.le_refl _) _)) ⟨m, a, (b : Int) + 1, wd, d⟩ ⟨wr.heap.size, 0, none⟩ 1 rfl (World.news_of_block (cs := #[.int .i64 m, .int .i64 a, .int .i64 ((b : Int) + 1), .int .i64 wd, .int .i64 d]) (t := 27) (fr := (0, 0)) (heap_alloc_new wr _)) (by omega) (by have := HB.out.size; simp; omega) ?_; intro g5 cap5 w5 hO5 hb5; have HO5 := hO5; have HB5 := Lib.hid ((HB.out.alloc HB.out.size _).trans hb5.out); clear hO5 hb5 HO HB)
                  go_roundw
                  case rel => exact ⟨d + 1, n4 + 1, by omega, by go_num, by rw [HW.out, HU.out]; exact HO5.out, HB5.out⟩
                  case measure => simp [intOf]; omega
                · clear kk1 kk2 kk3
                  have HOE := Lib.hid (show OwnR wr w4.heap.size u4 n4 (M3 m q1 q2 q3 a b (c + 1)) by
                    have hh : d = q3 := by omega
                    have := HO.out
                    rw [hh, M4_end] at this
                    exact this)
                  clear HO
                  go_wp2
                  go_roundw
                  case rel => exact ⟨c + 1, n4, by omega, by go_num, HOE.out, HB.out⟩
                  case measure => simp [intOf]; omega
            · clear kk1 kk2 kk3
              have HOE := Lib.hid (show OwnR wr w4.heap.size u4 n3 (M2 m q1 q2 q3 a (b + 1)) by
                have hh : c = q2 := by omega
                have := HO.out
                rw [hh, M3_end] at this
                exact this)
              clear HO
              go_wp2
              go_roundw
              case rel => exact ⟨b + 1, n3, by omega, by go_num, HOE.out, HB.out⟩
              case measure => simp [intOf]; omega
        · clear kk1 kk2 kk3
          have HOE := Lib.hid (show OwnR wr w4.heap.size u4 n2 (M1 m q1 q2 q3 (a + 1)) by
            have hh : b = q1 := by omega
            have := HO.out
            rw [hh, M2_end] at this
            exact this)
          clear HO
          go_wp2
          go_roundw
          case rel => exact ⟨a + 1, n2, by omega, by go_num, HOE.out, HB.out⟩
          case measure => simp [intOf]; omega
    · clear kk1 kk2 kk3
      have HOE := Lib.hid (show OwnR wr w4.heap.size u4 n1 (allR m) by
        have hh : a = q0 := by omega
        have := HO.out
        rw [hh, HALL.out] at this
        exact this)
      clear HO
      have hd : decide ((a : Int) < (q0 : Int)) = false := by simp; omega
      go_wp2
      go_ret
      exact OutAll.of HOE.out (HB4.out.trans (HB.out.mono HB4.out.size))
end Go.Proofs.YtpjmpgienhdccaaDoor
