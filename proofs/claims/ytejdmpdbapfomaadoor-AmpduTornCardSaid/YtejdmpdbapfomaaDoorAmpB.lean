/-
  CONTRACTS of the two lens, of light, of SameParts.
-/
import Derived.Test.YtejdmpdbapfomaaDoorAmpA
namespace Go.Proofs.YtejdmpdbapfomaaDoor
open Go.ChangeShapes Go.WideShapes Go.ChangeAt Go.RowKit
set_option linter.unusedVariables false
set_option linter.unusedSimpArgs false

set_option maxRecDepth 100000 in
set_option maxHeartbeats 8000000 in
theorem reflens_any (A : Option Addr) (n c : Nat) (l : List (List Int)) (w : World) (h : RowP w A n l) (hn : n ≤ 1000000) :
    Calls Tryd.prog 28 #[.slice A n c] w fun e w' => ∃ B k, e = .returned (.slice B n k) ∧ RowB .i64 w' B n (lensI l) ∧ Below w.heap.size w w' := by
  obtain ⟨i0, hi0, hz0, hz1, hz2⟩ := info_parts int_info
  have HR := Lib.hid h
  have HLL := Lib.hid h.len
  have HW := Lib.hid h.lens
  clear h
  go_enter Tryd.func28, Tryd.ntmps28
  go_wp2
  go_loopw [3, 4] (fun v i wr => ∃ k : Nat, k ≤ n ∧ i = .int .i64 k ∧ wr.ownsRow w.heap.size 3 1 v k ((lensI (l.take k)).map (Value.int .i64)) ∧ Below w.heap.size w wr) (fun _ i _ => n - (intOf i).toNat)
  case atStart => exact ⟨0, by omega, rfl, World.ownsRow_nil _ _ _ _, Below.refl _ _⟩
  case round =>
    obtain ⟨k, hk, rfl, hown, hbel⟩ := hrel
    have HO := Lib.hid hown
    have HB := Lib.hid hbel
    clear hown hbel
    by_cases hlt : k < n
    · obtain ⟨b, off, a, m, ca, rfl, hc, hr, -⟩ := (HR.out.below HB.out).el k hlt
      have hml := hr.le
      unfold maxLen at hml
      have HS := Lib.hid (lensI_take l k (by rw [HLL.out]; exact hlt))
      rw [hr.len] at HS
      clear hr
      generalize lensI (l.take k) = acc at *
      go_wp2_with (at_builtin; refine wpList_append_own _ rfl (.tmp 11) (.tmp 17) 41 rfl w.heap.size 3 i0 _ 1 8 Tryd.underlying41 hi0 hz0 hz1 hz2 rfl (by omega) _ k _ rfl (HO.out.alloc _) ⟨wr.heap.size, 0, none⟩ 1 1 [.int .i64 (m : Int)] rfl rfl (cell_one_new _ _ _) (by intro u hu; simp at hu; subst hu; rfl) (by unfold maxLen; omega) (by omega) (by have := HB.out.size; simp; omega) ?_; intro v' w2 hown' hgrow' _; have HO3 := Lib.hid (show w2.ownsRow w.heap.size 3 1 v' (k + 1) ((lensI (l.take (k + 1))).map (Value.int .i64)) by rw [HS.out, List.map_append]; exact hown'); have HB3 := Lib.hid ((HB.out.alloc HB.out.size _).grown hgrow' (by have := HB.out.size; simp; omega) (by intro q hq; exact (HO.out.lt q hq).1)); clear hown' hgrow' HO HB hc)
      go_roundw
      case rel => exact ⟨k + 1, by omega, by go_num, HO3.out, HB3.out⟩
      case measure => simp [intOf]; omega
    · have hk' : k = n := by omega
      subst hk'
      have HE := Lib.hid (show l.take k = l from List.take_of_length_le (by rw [HLL.out]; omega))
      rw [HE.out] at HO
      have hll : (lensI l).length = k := by rw [lensI_len, HLL.out]
      obtain ⟨B, kk, rfl, hR⟩ := own_ints (l := lensI l) (v := _) (by rw [hll]; exact HO.out) (by rw [hll]; unfold maxLen; omega) (by
        intro a ha
        unfold lensI at ha
        simp only [List.mem_map] at ha
        obtain ⟨p, hp, rfl⟩ := ha
        have := HW.out p hp
        unfold maxLen at this
        omega)
      rw [hll] at hR
      have HRR := Lib.hid hR
      clear hR HO
      rw [hll]
      clear hll
      go_wp2
      go_ret
      exact ⟨_, _, rfl, HRR.out, HB.out⟩
set_option maxRecDepth 100000 in
set_option maxHeartbeats 8000000 in
theorem lawlens_any (A : Option Addr) (n c : Nat) (l : List (List Int)) (w : World) (h : RowP w A n l) (hn : n ≤ 1000000) :
    Calls Tryd.prog 20 #[.slice A n c] w fun e w' => ∃ B k, e = .returned (.slice B n k) ∧ RowB .i64 w' B n (lensI l) ∧ Below w.heap.size w w' := by
  obtain ⟨i0, hi0, hz0, hz1, hz2⟩ := info_parts int_info
  have HR := Lib.hid h
  have HLL := Lib.hid h.len
  have HW := Lib.hid h.lens
  clear h
  go_enter Tryd.func20, Tryd.ntmps20
  go_wp2
  go_loopw [3, 4] (fun v i wr => ∃ k : Nat, k ≤ n ∧ i = .int .i64 k ∧ wr.ownsRow w.heap.size 3 1 v k ((lensI (l.take k)).map (Value.int .i64)) ∧ Below w.heap.size w wr) (fun _ i _ => n - (intOf i).toNat)
  case atStart => exact ⟨0, by omega, rfl, World.ownsRow_nil _ _ _ _, Below.refl _ _⟩
  case round =>
    obtain ⟨k, hk, rfl, hown, hbel⟩ := hrel
    have HO := Lib.hid hown
    have HB := Lib.hid hbel
    clear hown hbel
    by_cases hlt : k < n
    · obtain ⟨b, off, a, m, ca, rfl, hc, hr, -⟩ := (HR.out.below HB.out).el k hlt
      have hml := hr.le
      unfold maxLen at hml
      have HS := Lib.hid (lensI_take l k (by rw [HLL.out]; exact hlt))
      rw [hr.len] at HS
      clear hr
      generalize lensI (l.take k) = acc at *
      go_wp2_with (at_builtin; refine wpList_append_own _ rfl (.tmp 11) (.tmp 17) 41 rfl w.heap.size 3 i0 _ 1 8 Tryd.underlying41 hi0 hz0 hz1 hz2 rfl (by omega) _ k _ rfl (HO.out.alloc _) ⟨wr.heap.size, 0, none⟩ 1 1 [.int .i64 (m : Int)] rfl rfl (cell_one_new _ _ _) (by intro u hu; simp at hu; subst hu; rfl) (by unfold maxLen; omega) (by omega) (by have := HB.out.size; simp; omega) ?_; intro v' w2 hown' hgrow' _; have HO3 := Lib.hid (show w2.ownsRow w.heap.size 3 1 v' (k + 1) ((lensI (l.take (k + 1))).map (Value.int .i64)) by rw [HS.out, List.map_append]; exact hown'); have HB3 := Lib.hid ((HB.out.alloc HB.out.size _).grown hgrow' (by have := HB.out.size; simp; omega) (by intro q hq; exact (HO.out.lt q hq).1)); clear hown' hgrow' HO HB hc)
      go_roundw
      case rel => exact ⟨k + 1, by omega, by go_num, HO3.out, HB3.out⟩
      case measure => simp [intOf]; omega
    · have hk' : k = n := by omega
      subst hk'
      have HE := Lib.hid (show l.take k = l from List.take_of_length_le (by rw [HLL.out]; omega))
      rw [HE.out] at HO
      have hll : (lensI l).length = k := by rw [lensI_len, HLL.out]
      obtain ⟨B, kk, rfl, hR⟩ := own_ints (l := lensI l) (v := _) (by rw [hll]; exact HO.out) (by rw [hll]; unfold maxLen; omega) (by
        intro a ha
        unfold lensI at ha
        simp only [List.mem_map] at ha
        obtain ⟨p, hp, rfl⟩ := ha
        have := HW.out p hp
        unfold maxLen at this
        omega)
      rw [hll] at hR
      have HRR := Lib.hid hR
      clear hR HO
      rw [hll]
      clear hll
      go_wp2
      go_ret
      exact ⟨_, _, rfl, HRR.out, HB.out⟩

/-! ### light -/
def totalP (l : List (List Int)) : Nat := l.foldl (fun n p => n + p.length) 0
theorem total_take {l : List (List Int)} {k : Nat} (hk : k < l.length) : totalP (l.take (k + 1)) = totalP (l.take k) + (l.getD k []).length := by
  unfold totalP
  rw [List.take_succ_eq_append_getElem hk, List.foldl_append]
  simp [List.getD, hk]
theorem total_acc (l : List (List Int)) : ∀ a : Nat, l.foldl (fun n p => n + p.length) a = a + totalP l := by
  unfold totalP
  induction l with
  | nil => intro a; simp
  | cons p r ih =>
    intro a
    rw [List.foldl_cons, ih (a + p.length), List.foldl_cons, ih (0 + p.length)]
    omega
theorem total_mem {l : List (List Int)} {p : List Int} (h : p ∈ l) : p.length ≤ totalP l := by
  induction l with
  | nil => exact absurd h List.not_mem_nil
  | cons q r ih =>
    have e : totalP (q :: r) = q.length + totalP r := by
      have := total_acc r (0 + q.length)
      unfold totalP at this ⊢
      rw [List.foldl_cons]
      omega
    rcases List.mem_cons.1 h with rfl | h
    · omega
    · have := ih h; omega
theorem total_le {l : List (List Int)} {B : Nat} (h : ∀ p ∈ l, p.length ≤ B) : ∀ k, k ≤ l.length → totalP (l.take k) ≤ k * B
  | 0, _ => by simp [totalP]
  | k + 1, hk => by
    rw [total_take (by omega)]
    have h1 := total_le h k (by omega)
    have h2 := h _ (mem_getP (show k < l.length by omega))
    rw [Nat.succ_mul]
    omega
/-- what light answers: if it says so they are few, and, where each is as memory can be, short. -/
def OutL (l : List (List Int)) (n : Nat) (e : Ending) : Prop := ∃ v : Bool, e = .returned (.bool v) ∧ (v = true → n ≤ 70 ∧ ((∀ p ∈ l, p.length ≤ 140737488355328) → totalP l ≤ 8000))
set_option maxRecDepth 100000 in
set_option maxHeartbeats 4000000 in
theorem light_any (A : Option Addr) (n c : Nat) (l : List (List Int)) (w : World) (h : RowP w A n l) :
    Calls Tryd.prog 9 #[.slice A n c] w fun e w' => OutL l n e ∧ w = w' := by
  have hle := h.le
  have HLL := Lib.hid h.len
  by_cases hm : 70 < n
  · have hd : decide ((70 : Int) < (n : Int)) = true := by simp; omega
    have hd2 : decide (70 < n) = true := by simp; omega
    have HV := Lib.hid (show OutL l n (.returned (.bool false)) from ⟨false, rfl, fun h => by cases h⟩)
    clear h hle
    go_enter Tryd.func9, Tryd.ntmps9
    go_wp2
    go_ret
    exact ⟨HV.out, rfl⟩
  have hd : decide ((70 : Int) < (n : Int)) = false := by simp; omega
  have hd2 : decide (70 < n) = false := by simp; omega
  have HR := Lib.hid h
  clear h hle
  go_enter Tryd.func9, Tryd.ntmps9
  go_wp2
  go_loop [3, 4] (fun a i => ∃ (k : Nat) (z : Int), k ≤ n ∧ i = .int .i64 k ∧ a = .int .i64 z ∧ (-9223372036854775808 ≤ z ∧ z ≤ 9223372036854775807) ∧ ((∀ p ∈ l, p.length ≤ 140737488355328) → z = (totalP (l.take k) : Nat))) (fun _ i => n - (intOf i).toNat)
  case atStart => exact ⟨0, 0, by omega, rfl, rfl, by omega, fun _ => rfl⟩
  case round =>
    obtain ⟨k, z, hk, rfl, rfl, hz, htot⟩ := hrel
    have HT := Lib.hid htot
    clear htot
    by_cases hlt : k < n
    · obtain ⟨b, off, a, m, ca, rfl, hc, hr, -⟩ := HR.out.el k hlt
      have hml := hr.le
      unfold maxLen at hml
      have HS := Lib.hid (show -9223372036854775808 ≤ wrap64 (z + (m : Int)) ∧ wrap64 (z + (m : Int)) ≤ 9223372036854775807 by unfold wrap64; omega)
      have HN := Lib.hid (show (∀ p ∈ l, p.length ≤ 140737488355328) → wrap64 (z + (m : Int)) = (totalP (l.take (k + 1)) : Nat) by
        intro hp
        have h1 := HT.out hp
        have h2 := total_take (l := l) (k := k) (by rw [HLL.out]; exact hlt)
        have h3 := total_le hp k (by rw [HLL.out]; omega)
        have h4 := hp _ (mem_getP (show k < l.length by rw [HLL.out]; exact hlt))
        have h5 : k * 140737488355328 ≤ 70 * 140737488355328 := Nat.mul_le_mul_right _ (by omega)
        rw [h2, h1, hr.len]
        rw [hr.len] at h4
        unfold wrap64
        omega)
      clear hr
      go_wp2
      go_round
      case rel => exact ⟨k + 1, wrap64 (z + (m : Int)), by omega, by go_num, rfl, HS.out, HN.out⟩
      case measure => simp [intOf]; omega
    · have hk' : k = n := by omega
      subst hk'
      have HV := Lib.hid (show OutL l k (.returned (.bool (decide (z ≤ 8000)))) from ⟨_, rfl, fun h => ⟨by omega, fun hp => by
        have h1 := HT.out hp
        rw [List.take_of_length_le (by rw [HLL.out]; omega)] at h1
        have h2 := of_decide_eq_true h
        omega⟩⟩)
      go_wp2
      go_ret
      exact ⟨HV.out, rfl⟩

/-! ### SameParts -/
def sameP (a b : List (List Int)) : Bool := decide (a = b)
theorem sameP_step {a b : List (List Int)} {k : Nat} (h : a.take k = b.take k) (ha : k < a.length) (hb : k < b.length) (e : a.getD k [] = b.getD k []) : a.take (k + 1) = b.take (k + 1) := by
  rw [List.take_succ_eq_append_getElem ha, List.take_succ_eq_append_getElem hb, h]
  simp [List.getD, ha, hb] at e
  rw [e]
theorem sameP_not {a b : List (List Int)} {k : Nat} (e : a.getD k [] ≠ b.getD k []) : sameP a b = false := by
  unfold sameP; simp; rintro rfl; exact e rfl
theorem sameP_all {a b : List (List Int)} {k : Nat} (h : a.take k = b.take k) (ha : a.length ≤ k) (hb : b.length ≤ k) : sameP a b = true := by
  rw [List.take_of_length_le ha, List.take_of_length_le hb] at h
  unfold sameP; simp [h]
theorem sameP_len {a b : List (List Int)} (h : a.length ≠ b.length) : sameP a b = false := by
  unfold sameP; simp; rintro rfl; exact h rfl
theorem drew_add {w w0 : World} {n m : Nat} (h : w0 = w.drewN n) : w0.drewN m = w.drewN (n + m) := by rw [h]; simp [World.drewN, Nat.add_assoc]
theorem sameP_refl (a : List (List Int)) : sameP a a = true := by simp [sameP]
set_option maxRecDepth 100000 in
set_option maxHeartbeats 4000000 in
theorem sameParts_any (a b : Option Addr) (la ca lb cb : Nat) (x y : List (List Int)) (w : World) (ha : RowP w a la x) (hb : RowP w b lb y) :
    Calls Tryd.prog 16 #[.slice a la ca, .slice b lb cb] w fun e w' => e = .returned (.bool (sameP x y)) ∧ ∃ n, w' = w.drewN n := by
  have ba := ha.le
  have bb := hb.le
  unfold maxLen at ba bb
  have Ta := Lib.hid ha.len
  have Tb := Lib.hid hb.len
  have Ha := Lib.hid ha
  have Hb := Lib.hid hb
  clear ha hb
  by_cases hl : la = lb
  · subst hl
    have hne : ((la : Int) != (la : Int)) = false := by simp
    go_enter Tryd.func16, Tryd.ntmps16
    go_wp2
    go_loopw [5] (fun i wr => ∃ k n : Nat, k ≤ la ∧ i = .int .i64 k ∧ x.take k = y.take k ∧ wr = w.drewN n) (fun i _ => la - (intOf i).toNat)
    case atStart => exact ⟨0, 0, by omega, rfl, by simp, rfl⟩
    case round =>
      obtain ⟨k, n, hk, rfl, hxy, hw0⟩ := hrel
      have HXY := Lib.hid hxy
      have HW := Lib.hid hw0
      have HRA := Lib.hid (show RowP wr a la x by rw [hw0]; exact Ha.out.drewN n)
      have HRB := Lib.hid (show RowP wr b la y by rw [hw0]; exact Hb.out.drewN n)
      clear hxy hw0
      by_cases hlt : k < la
      · obtain ⟨b1, o1, a1, m1, c1, rfl, d1, r1, -⟩ := HRA.out.el k hlt
        obtain ⟨b2, o2, a2, m2, c2, rfl, d2, r2, -⟩ := HRB.out.el k hlt
        have hi : (k : Int) < (la : Int) := by omega
        have HC := Lib.hid (fun m => quiet_left (w := wr) (n := m) (same_any a1 a2 m1 c1 m2 c2 _ _ (wr.drewN m) (r1.drewN m) (r2.drewN m)))
        have HST := Lib.hid (fun e => sameP_step (a := x) (b := y) HXY.out (by rw [Ta.out]; exact hlt) (by rw [Tb.out]; exact hlt) e)
        have HNOT := Lib.hid (fun e => sameP_not (a := x) (b := y) (k := k) e)
        clear r1 r2
        cases hs : sameB (x.getD k []) (y.getD k [])
        · have HN := Lib.hid (HNOT.out (by intro e; rw [e, sameB_refl] at hs; cases hs))
          rw [hs] at HC
          clear hs
          go_wp2
          go_quiet ((go_at_call 14; exact HC.out _))
          go_wp2
          go_ret
          exact ⟨ret_bool HN.out.symm, _, drew_add HW.out⟩
        · have HN := Lib.hid (HST.out (sameB_eq hs))
          rw [hs] at HC
          clear hs
          go_wp2
          go_quiet ((go_at_call 14; exact HC.out _))
          go_wp2
          go_roundw
          case rel => exact ⟨k + 1, _, by omega, by go_num, HN.out, drew_add HW.out⟩
          case measure => simp [intOf]; omega
      · have hk' : k = la := by omega
        subst hk'
        have HN := Lib.hid (sameP_all HXY.out (by rw [Ta.out]; omega) (by rw [Tb.out]; omega))
        go_wp2
        go_ret
        exact ⟨ret_bool HN.out.symm, _, HW.out⟩
  · have hne : ((la : Int) != (lb : Int)) = true := by simp; omega
    have HN := Lib.hid (sameP_len (a := x) (b := y) (by rw [Ta.out, Tb.out]; exact hl))
    clear Ha Hb
    go_enter Tryd.func16, Tryd.ntmps16
    go_wp2
    go_ret
    exact ⟨ret_bool HN.out.symm, 0, rfl⟩
end Go.Proofs.YtejdmpdbapfomaaDoor
