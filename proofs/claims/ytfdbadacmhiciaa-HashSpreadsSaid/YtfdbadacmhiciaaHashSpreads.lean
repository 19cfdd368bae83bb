/-
  muezzin/muezzinlaw12.HashSpreads returns true, for all arguments; no condition.
-/
import Derived.Test.YtfdbadacmhiciaaHashA
import Derived.Test.YtfdbadacmhiciaaPlain
import Derived.WalkKit
import Derived.ProofKit
import Derived.OpenShut
import Derived.ChangeOld
import Derived.Below
namespace Go.Proofs.Ytfdbadacmhiciaa.hashSpreads
open Go.ChangeShapes Go.WideShapes Go.ChangeAt Go.RowKit
set_option linter.unusedVariables false
set_option linter.unusedSimpArgs false

theorem own : ownKnob Try.prog.godebug = none := by kernel_rfl
theorem laidOut : laidOutB Try.prog = true := by kernel_rfl


theorem wrap_uv' (v : Int) : ∃ x : BitVec 32, v % 4294967296 = uv x := by
  have h : 0 ≤ v % 4294967296 ∧ v % 4294967296 ≤ 4294967295 := by omega
  obtain ⟨x, hx⟩ := uv_of h.1 h.2
  exact ⟨x, hx.symm⟩
set_option maxRecDepth 100000 in
/-- a bucket of whatever is asked. -/
theorem bucket_wrap (v : Int) (b : BitVec 32) (w : World) :
    Calls Try.prog 9 #[.int .u32 (v % 4294967296), .int .u32 (uv b)] w fun e w' => (∃ k : Nat, k < 16 ∧ e = .returned (.int .i64 (k : Nat))) ∧ w = w' := by
  obtain ⟨x, hx⟩ := wrap_uv' v
  rw [hx]
  refine (bucket_any x b w).mono ?_
  rintro e w1 ⟨rfl, rfl⟩
  exact ⟨⟨_, bkt_lt x b, rfl⟩, rfl⟩
/-- counts in a row of cells. -/
def rowC (l : List Int) : Array Value := (l.map (Value.int .i64)).toArray
theorem rowC_size (l : List Int) : (rowC l).size = l.length := by simp [rowC]
theorem rowC_set (l : List Int) (i : Nat) (v : Int) : (rowC l).setIfInBounds i (.int .i64 v) = rowC (l.set i v) := by
  unfold rowC
  rw [List.setIfInBounds_toArray, List.map_set]
theorem rowC_cell {w : World} {g : Nat} {l : List Int} {t : TypeId} (h : w.heap[g]? = some (.cells (rowC l) t (0, 0))) (i : Nat) (hi : i < l.length) : w.cell? ⟨g, i, none⟩ = some (.int .i64 (l.getD i 0)) := by
  have e := (block_range h) i (.int .i64 (l.getD i 0)) (by simp [rowC, List.getD, hi])
  simpa using e
def sumC : List Int → Int
  | [] => 0
  | x :: l => x + sumC l
theorem sum_set : ∀ (l : List Int) (i : Nat), i < l.length → sumC (l.set i (l.getD i 0 + 1)) = sumC l + 1
  | x :: l, 0, _ => by simp [sumC, List.getD]; omega
  | x :: l, i + 1, h => by
    have := sum_set l i (by simpa using h)
    simp only [List.set_cons_succ, sumC, List.getD_cons_succ]
    omega
theorem sum_take : ∀ (l : List Int) (i : Nat), i < l.length → sumC (l.take (i + 1)) = sumC (l.take i) + l.getD i 0
  | x :: l, 0, _ => by simp [sumC, List.getD]
  | x :: l, i + 1, h => by
    have := sum_take l i (by simpa using h)
    simp only [List.take_succ_cons, sumC, List.getD_cons_succ]
    omega
/-- each of them is one of at most that many. -/
def Low (l : List Int) (n : Nat) : Prop := ∀ i, 0 ≤ l.getD i 0 ∧ l.getD i 0 ≤ n
theorem low_zero : Low (List.replicate 16 0) 0 := by
  intro i
  have : (List.replicate 16 (0 : Int)).getD i 0 = 0 := by rw [List.getD_eq_getElem?_getD, List.getElem?_replicate]; split <;> rfl
  rw [this]; decide
theorem Low.up {l : List Int} {n : Nat} (h : Low l n) (i : Nat) (hi : i < l.length) : Low (l.set i (l.getD i 0 + 1)) (n + 1) := by
  intro j
  have a := h i
  have b := h j
  rcases Nat.decEq i j with hj | rfl
  · have : (l.set i (l.getD i 0 + 1)).getD j 0 = l.getD j 0 := by simp [List.getD, List.getElem?_set, hj]
    rw [this]; omega
  · have : (l.set i (l.getD i 0 + 1)).getD i 0 = l.getD i 0 + 1 := by simp [List.getD, List.getElem?_set, hi]
    rw [this]; omega
theorem sum_low : ∀ (l : List Int) (n k : Nat), Low l n → 0 ≤ sumC (l.take k) ∧ sumC (l.take k) ≤ n * k
  | [], n, k, _ => by simp [sumC]; exact Int.mul_nonneg (by omega) (by omega)
  | x :: l, n, 0, _ => by simp [sumC]
  | x :: l, n, k + 1, h => by
    have := sum_low l n k (fun i => by simpa [List.getD] using h (i + 1))
    have h0 : 0 ≤ x ∧ x ≤ n := by simpa [List.getD] using h 0
    have e : (n : Int) * ((k + 1 : Nat) : Int) = n * k + n := by push_cast; rw [Int.mul_add, Int.mul_one]
    simp only [List.take_succ_cons, sumC]
    omega
theorem below_setRow {B : Nat} {a w : World} (h : Below B a w) {g : Nat} (hg : B ≤ g) (cs : Array Value) : Below B a (w.setRow g cs) :=
  h.trans ⟨rfl, rfl, rfl, by simp [World.setRow], fun k hk => setRow_other w g k cs (by omega)⟩

/-! ### THE WALK -/
set_option maxRecDepth 100000 in
set_option maxHeartbeats 8000000 in
theorem walk (n0 : Int) (n1 : Int) (n2 : Int) (w : World) (w0 : (Lit.int .u32 n0).wf = true) (w1 : (Lit.int .u32 n1).wf = true) (w2 : (Lit.int .i64 n2).wf = true) :
    Calls Try.prog 5 #[.int .u32 n0, .int .u32 n1, .int .i64 n2] w fun e w' => e = .returned (.bool true) ∧ Below w.heap.size w w' := by
  obtain ⟨a, h0⟩ := uv_of (wf_u32 w0).1 (wf_u32 w0).2
  obtain ⟨b, h1⟩ := uv_of (wf_u32 w1).1 (wf_u32 w1).2
  subst h0 h1
  have HW := Shut.mk w2
  have HN0 := nmod_lo n2 4 (by decide)
  have HN1 := nmod_hi n2 4 (by decide)
  clear w0 w1 w2
  go_enter Try.func5, Try.ntmps5
  go_wp2_with (fail)
  refine (first_any _).mono ?_
  rintro e wn ⟨rfl, rfl⟩
  go_wp2_with (fail)
  refine (number_any n2 4 _ HW.out (by decide) (by decide)).mono ?_
  rintro e wn ⟨rfl, rfl⟩
  obtain ⟨n, hn⟩ := Int.eq_ofNat_of_zero_le HN0
  have hn4 : n < 4 := by omega
  rw [hn]
  clear HN0 HN1 hn HW
  have HB := Shut.mk ((Below.refl w.heap.size w).alloc (Nat.le_refl _) (.cells (rowC (List.replicate 16 0)) 29 (0, 0)))
  have HC := Shut.mk ((MapKept.heap_alloc w (.cells (rowC (List.replicate 16 0)) 29 (0, 0))).1)
  go_wp2_with (fail)
  generalize hz : World.alloc w _ = w1
  replace HB : Shut (Below w.heap.size w w1) := ⟨by rw [← hz]; exact HB.out⟩
  replace HC : Shut (w1.heap[w.heap.size]? = some (.cells (rowC (List.replicate 16 0)) 29 (0, 0))) := ⟨by rw [← hz]; exact HC.out⟩
  clear hz
  have hS0 : w.heap.size = w.heap.size := rfl
  generalize hs : w.heap.size = s at *
  go_loopw [9] (fun i wr => ∃ (k : Nat) (l : List Int), k ≤ 256 ∧ i = .int .u32 k ∧ wr.heap[s]? = some (.cells (rowC l) 29 (0, 0)) ∧ l.length = 16 ∧ sumC l = k ∧ Low l k ∧ Below s w wr) (fun i _ => 256 - (intOf i).toNat)
  case atStart => exact ⟨0, List.replicate 16 0, by omega, rfl, HC.out, rfl, by decide, low_zero, HB.out⟩
  case round =>
    obtain ⟨k, l, hk, rfl, hc, hl, hsum, hlow, hbel⟩ := hrel
    have HB2 := Shut.mk hbel
    have HC2 := Shut.mk hc
    have HL := Shut.mk hl
    have HSUM := Shut.mk hsum
    have HLOW := Shut.mk hlow
    clear hbel hc hl hsum hlow HB HC
    by_cases hlt : k < 256
    case pos =>
      go_wp2_with (fail)
      refine (bucket_wrap _ b _).mono ?_
      rintro e wn ⟨⟨q, hq, rfl⟩, rfl⟩
      have HQ := Shut.mk (show q < l.length by rw [HL.out]; exact hq)
      have g0 := rowC_cell HC2.out q HQ.out
      obtain ⟨c, hcc⟩ : ∃ c, l.getD q 0 = c := ⟨_, rfl⟩
      have c0 := (HLOW.out q).1
      have c1 := (HLOW.out q).2
      rw [hcc] at g0 c0 c1
      have HCC := Shut.mk hcc
      clear hcc
      have f0 : wr.frozen? ⟨s, q, none⟩ = false := by simp [World.frozen?, HC2.out]
      have HW2 := Shut.mk (setCell_eq_setRow wr s q (rowC l) 29 (0, 0) (.int .i64 (c + 1)) HC2.out)
      go_wp2_with (fail)
      rw [HW2.out, rowC_set]
      have E := HCC.out
      subst E
      refine ⟨⟨k + 1, l.set q (l.getD q 0 + 1), by omega, by rw [show ((k + 1 : Nat) : Int) = (k : Int) + 1 by omega], setRow_heap wr s _ _ _ (0, 0) HC2.out, by rw [List.length_set]; exact HL.out, by rw [sum_set l q HQ.out, HSUM.out]; omega, HLOW.out.up q HQ.out, below_setRow HB2.out (Nat.le_refl _) _⟩, ?_⟩
      simp [intOf]
      omega
    case neg =>
      obtain rfl : k = 256 := by omega
      clear hlt hk
      have HT := Shut.mk (show sumC (l.take 16) = 256 by rw [List.take_of_length_le (by rw [HL.out]; exact Nat.le_refl _)]; exact HSUM.out)
      go_wp2_with (fail)
      go_loopw [11, 12] (fun v i wq => ∃ j : Nat, j ≤ 16 ∧ i = .int .i64 j ∧ v = .int .i64 (sumC (l.take j)) ∧ wq = wr) (fun _ i _ => 16 - (intOf i).toNat)
      case atStart => exact ⟨0, by omega, rfl, rfl, rfl⟩
      case round =>
        obtain ⟨j, hj, rfl, rfl, rfl⟩ := hrel
        by_cases hlt : j < 16
        case pos =>
          have HJ := Shut.mk (show j < l.length by rw [HL.out]; exact hlt)
          have g0 := rowC_cell HC2.out j HJ.out
          have HS2 := Shut.mk (sum_take l j HJ.out)
          have b1 := (sum_low l 256 j HLOW.out).1
          have b2 := (sum_low l 256 j HLOW.out).2
          have c0 := (HLOW.out j).1
          have c1 := (HLOW.out j).2
          obtain ⟨c, hcc⟩ : ∃ c, l.getD j 0 = c := ⟨_, rfl⟩
          rw [hcc] at g0 c0 c1 HS2
          clear hcc
          obtain ⟨v, hv⟩ : ∃ v, sumC (l.take j) = v := ⟨_, rfl⟩
          rw [hv] at b1 b2 HS2 ⊢
          have b3 : v ≤ 4096 := by omega
          clear hv b2
          go_wp2_with (fail)
          refine ⟨⟨j + 1, by omega, by rw [show ((j + 1 : Nat) : Int) = (j : Int) + 1 by omega], by rw [HS2.out], trivial⟩, ?_⟩
          simp [intOf]
          omega
        case neg =>
          obtain rfl : j = 16 := by omega
          rw [HT.out]
          clear hlt hj
          go_wp2
          go_ret
          exact ⟨rfl, by rw [hs]; exact HB2.out⟩

/-! ### THE ROW -/
set_option maxRecDepth 100000 in
theorem lifted (os : Os) (started : os.Started) (H : Type) (enc : TypeId × Value → H) :
    ReturnsInHanded {} Try.checked os 5 .any (Rows.hashSpreadsSpec.pre6 enc Try.prog Try.f5 Rows.hashSpreadsRow.domain false) (Rows.hashSpreadsSpec.post enc Try.prog Try.f5 false true false false) := by
  refine returnsInHanded_of_change (C := Try.checked) own started (by kernel_rfl) Try.func5
    (ChangeSpec.witness6 (enc := enc) (C := Try.checked) false ⟨#[], #[.int .u32 0, .int .u32 0, .int .i64 0], []⟩ 8 (by kernel_rfl) (by kernel_rfl) (by kernel_rfl) (by kernel_rfl)) ?_
  intro W base args ds gs before hval0 hW hcnd _
  have hval : ∀ (j : Nat) t v, Try.f5.params[j]? = some t → args[j]? = some v → Value.okWide Try.prog W .any base t v := hval0
  have hW' := hW
  obtain ⟨p, q, hA0, hV, rfl, hfz, hnd⟩ := hW
  have hA : DataW.TrodAll enc Try.prog W 0 (fun _ => true) true Try.f5.params.toList args.toList ds p := hA0
  rw [Try.params5] at hA hval
  obtain ⟨v0, vs0, d0, ds0, p0, q0', hargs, rfl, rfl, h0, r0⟩ := trodAll_cons hA
  obtain ⟨v1, vs1, d1, ds1, p1, q1', rfl, rfl, rfl, h1, r1⟩ := trodAll_cons r0
  obtain ⟨v2, vs2, d2, ds2, p2, q2', rfl, rfl, rfl, h2, r2⟩ := trodAll_cons r1
  obtain ⟨rfl, rfl, rfl⟩ := trodAll_nil r2
  obtain rfl : args = #[v0, v1, v2] := by cases args; simp_all
  obtain ⟨rfl, rfl⟩ := trodVars_none hV
  have k0 := h0
  have lt0 : ∀ x ∈ p0, x.block < W.heap.size := by obtain ⟨m, hm⟩ := k0; exact DataW.trod_lt m _ _ _ hm
  have k1 := h1
  have lt1 : ∀ x ∈ p1, x.block < W.heap.size := by obtain ⟨m, hm⟩ := k1; exact DataW.trod_lt m _ _ _ hm
  have k2 := h2
  have lt2 : ∀ x ∈ p2, x.block < W.heap.size := by obtain ⟨m, hm⟩ := k2; exact DataW.trod_lt m _ _ _ hm
  obtain ⟨n0, rfl, rfl, rfl, w0⟩ := open_int Try.underlying22 (hval 0 22 v0 rfl rfl) h0
  obtain ⟨n1, rfl, rfl, rfl, w1⟩ := open_int Try.underlying22 (hval 1 22 v1 rfl rfl) h1
  obtain ⟨n2, rfl, rfl, rfl, w2⟩ := open_int Try.underlying3 (hval 2 3 v2 rfl rfl) h2
  clear hA0 hval0
  refine (walk n0 n1 n2 W w0 w1 w2).mono fun e W' ⟨he, bel⟩ => ?_
  subst he
  exact ⟨_, rfl, _, _, _, [], _, [], hW', trodAll_mk1 (shut_bool Try.underlying4 _), (trodAll_cons_mk (Below.trod laidOut (by kernel_rfl) (of_decide_eq_true (by kernel_rfl)) k0 bel lt0) (trodAll_cons_mk (Below.trod laidOut (by kernel_rfl) (of_decide_eq_true (by kernel_rfl)) k1 bel lt1) (trodAll_cons_mk (Below.trod laidOut (by kernel_rfl) (of_decide_eq_true (by kernel_rfl)) k2 bel lt2) trodAll_mk0))), rfl, bel.frame _, fun h => by cases h⟩

theorem over : Rows.hashSpreadsRow.holds Try.pinned (OpenSpec.ofChange Rows.hashSpreadsSpec) :=
  OpenClaim.holds_of_wide 5 Try.f5 rfl rfl rfl rfl rfl rfl rfl ⟨rfl, rfl, rfl, rfl, rfl⟩ rfl rfl rfl rfl rfl (by kernel_rfl) Try.func5 (by kernel_rfl)
    (of_decide_eq_true (by kernel_rfl)) (by unfold Func.isWrapper; first | (rw [if_pos (by decide +kernel)]; kernel_rfl) | (rw [if_neg (by decide +kernel)]; exact ⟨rfl, rfl⟩))
    (fun os started H enc _ => lifted os started H enc)
theorem proved : Rows.HashSpreadsSaid := over
#print axioms proved
end Go.Proofs.Ytfdbadacmhiciaa.hashSpreads
