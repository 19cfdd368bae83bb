/-
  CONTRACTS of package ampdu: fill, Len, lengths, inRange, tooMany; of the lens, AggLen, light.
-/
import Derived.Test.YtejdmpdbapfomaaDoorBase
import Derived.Test.YtejdmpdbapfomaaDoorStoreO
import Derived.Test.YtejdmpdbapfomaaDoorRowP
import Derived.Test.YtejdmpdbapfomaaDoorAmpN
namespace Go.Proofs.YtejdmpdbapfomaaDoor
open Go.ChangeShapes Go.WideShapes Go.ChangeAt Go.RowKit
set_option linter.unusedVariables false
set_option linter.unusedSimpArgs false

def S5 : List Nat := [101, 102, 103, 104, 106]
theorem five14 : ∀ c ∈ S5, c ∈ S14 := by decide
theorem Sent.five {w : World} {E : Nat → Addr} (h : Sent w E S14) : Sent w E S5 := h.sub five14
/-! ### lengths of parts -/
def lensI (l : List (List Int)) : List Int := l.map fun p => (p.length : Int)
theorem lensI_len (l : List (List Int)) : (lensI l).length = l.length := by simp [lensI]
theorem lensI_at (l : List (List Int)) (i : Nat) (hi : i < l.length) : (lensI l).getD i 0 = ((l.getD i []).length : Int) := by simp [lensI, List.getD, hi]
theorem lensI_take (l : List (List Int)) (k : Nat) (hk : k < l.length) : lensI (l.take (k + 1)) = lensI (l.take k) ++ [((l.getD k []).length : Int)] := by
  unfold lensI
  rw [List.take_succ_eq_append_getElem hk, List.map_append]
  simp only [List.map_cons, List.map_nil, List.getD, List.getElem?_eq_getElem hk, Option.getD_some]
theorem mem_getP {l : List (List Int)} {i : Nat} (h : i < l.length) : l.getD i [] ∈ l := by
  have : l.getD i [] = l[i] := by simp [List.getD, h]
  rw [this]; exact List.getElem_mem h
theorem RowP.lens {w : World} {A : Option Addr} {n : Nat} {l : List (List Int)} (h : RowP w A n l) : ∀ p ∈ l, p.length ≤ maxLen := by
  intro p hp
  obtain ⟨i, hi, rfl⟩ := List.getElem_of_mem hp
  obtain ⟨b, off, a, m, c, -, -, hr, -⟩ := h.el i (by have := h.len; omega)
  have h1 := hr.len
  have h2 := hr.le
  have e : l.getD i [] = l[i] := by simp [List.getD, hi]
  rw [e] at h1
  omega
theorem aggLen_step {xs : List Int} {k : Nat} (hk : k < xs.length) : aggLen (xs.take (k + 1)) = (aggLen (xs.take k) + 3) / 4 * 4 + 4 + max (xs.getD k 0) 0 := by
  rw [List.take_succ_eq_append_getElem hk, aggLen_snoc]; simp [List.getD, hk]
theorem int_info : (Tryd.prog.info? 3).map (fun i => (i.zero, i.size, i.bytes)) = some (some (.int .i64 0), 1, 8) := by kernel_rfl
/-- a row of ints of the call's own, nil let in, as a row. -/
theorem own_ints {w : World} {base : Nat} {v : Value} {l : List Int} (h : w.ownsRow base 3 1 v l.length (l.map (Value.int .i64))) (hm : l.length ≤ maxLen) (hw : ∀ a ∈ l, -9223372036854775808 ≤ a ∧ a ≤ 9223372036854775807) :
    ∃ A k, v = .slice A l.length k ∧ RowB .i64 w A l.length l := by
  have hwf : ∀ i, i < l.length → IntKind.i64.min ≤ l.getD i 0 ∧ l.getD i 0 ≤ IntKind.i64.max := fun i hi => by
    have := hw _ (mem_getD hi)
    simpa [IntKind.min, IntKind.max, IntKind.signed, IntKind.bits] using this
  rcases h.2 with ⟨rfl, h0⟩ | ⟨g, cap, cur, rfl, hb, hg, hn, hc, hs, ht⟩
  · rw [h0]
    exact ⟨none, 0, rfl, ⟨h0, by unfold maxLen; omega, fun i hi => by omega, fun hp => by omega⟩⟩
  · refine ⟨_, _, rfl, ⟨rfl, hm, hwf, fun hp => ⟨g, 0, rfl, fun i hi => ?_⟩⟩⟩
    have hO : OwnB w base 3 .i64 g l.length cap l := h
    rw [Nat.zero_add]; exact hO.cell i hi
theorem RowB.w64 {w : World} {A : Option Addr} {n : Nat} {xs : List Int} (h : RowB .i64 w A n xs) (i : Nat) (hi : i < n) : -9223372036854775808 ≤ xs.getD i 0 ∧ xs.getD i 0 ≤ 9223372036854775807 := by
  have := h.wf i hi
  simpa [IntKind.min, IntKind.max, IntKind.signed, IntKind.bits] using this

/-! ### fill, tooMany -/
set_option maxRecDepth 100000 in
theorem fill_any (n : Nat) (w : World) (hn : n ≤ 10000000000000) :
    Calls Tryd.prog 26 #[.int .i64 n] w fun e w' => e = .returned (.int .i64 (pad n : Nat)) ∧ w = w' := by
  have HE := Lib.hid (show (4 - (n : Int) % 4) % 4 = ((pad n : Nat) : Int) by unfold pad; omega)
  go_enter Tryd.func26, Tryd.ntmps26
  go_wp2
  go_ret
  exact ⟨ret_int HE.out, rfl⟩
def manyB (p a : Int) : Bool := decide (64 < p) || decide (65535 < a)
set_option maxRecDepth 100000 in
theorem many_any (p a : Int) (w : World) :
    Calls Tryd.prog 25 #[.int .i64 p, .int .i64 a] w fun e w' => e = .returned (.bool (manyB p a)) ∧ w = w' := by
  cases e1 : decide (64 < p)
  · have HE := Lib.hid (show decide (65535 < a) = manyB p a by unfold manyB; rw [e1]; rfl)
    go_enter Tryd.func25, Tryd.ntmps25
    go_wp2
    go_ret
    exact ⟨ret_bool HE.out, rfl⟩
  · have HE := Lib.hid (show true = manyB p a by unfold manyB; rw [e1]; rfl)
    go_enter Tryd.func25, Tryd.ntmps25
    go_wp2
    go_ret
    exact ⟨ret_bool HE.out, rfl⟩

/-! ### Len, AggLen -/
set_option maxRecDepth 100000 in
set_option maxHeartbeats 4000000 in
theorem len_any (A : Option Addr) (n c : Nat) (xs : List Int) (w : World) (h : RowB .i64 w A n xs) (hx : ∀ x ∈ xs, x ≤ 1000000) (hn : n ≤ 1000000) :
    Calls Tryd.prog 19 #[.slice A n c] w fun e w' => e = .returned (.int .i64 (aggLen xs)) ∧ w = w' := by
  have HR := Lib.hid h
  have HX := Lib.hid hx
  clear h hx
  go_enter Tryd.func19, Tryd.ntmps19
  go_wp2
  go_loop [3, 8] (fun a i => ∃ k q : Nat, k ≤ n ∧ i = .int .i64 k ∧ a = .int .i64 q ∧ aggLen (xs.take k) = q ∧ q ≤ k * 1000008) (fun _ i => n - (intOf i).toNat)
  case atStart => exact ⟨0, 0, by omega, rfl, rfl, rfl, by omega⟩
  case round =>
    obtain ⟨k, q, hk, rfl, rfl, hag, hq⟩ := hrel
    by_cases hlt : k < n
    · obtain ⟨b, off, rfl, hc⟩ := HR.out.el k hlt
      have hw := HR.out.w64 k hlt
      have hv := HX.out _ (mem_getD (show k < xs.length by rw [HR.out.len]; exact hlt))
      have HS := Lib.hid (aggLen_step (xs := xs) (k := k) (by rw [HR.out.len]; exact hlt))
      rw [hag] at HS
      have hq2 : q ≤ 1000008000000 := by have := Nat.mul_le_mul_right 1000008 (show k ≤ 1000000 by omega); omega
      generalize xs.getD k 0 = v at *
      clear hag
      have hp : pad q ≤ 3 := by unfold pad; omega
      have HP := Lib.hid (show q + pad q = (q + 3) / 4 * 4 by unfold pad; omega)
      rcases (by omega : v < 0 ∨ 0 ≤ v) with hs | hs
      · have hm1 : decide (v < 0) = true := by simpa using hs
        have hm2 : decide (0 ≤ v) = false := by simp; omega
        have hmx : max v 0 = 0 := by omega
        rw [hmx] at HS
        go_wp2_with (go_at_call 26; refine (fill_any q _ (by omega)).mono ?_; rintro e w' ⟨rfl, rfl⟩)
        go_round
        case rel => exact ⟨k + 1, q + pad q + 4, by omega, by go_num, ret_val (by omega), by rw [HS.out, HP.out]; omega, by omega⟩
        case measure => simp [intOf]; omega
      · have hm1 : decide (v < 0) = false := by simp; omega
        have hm2 : decide (0 ≤ v) = true := by simpa using hs
        have hmx : max v 0 = v := by omega
        rw [hmx] at HS
        obtain ⟨u, rfl⟩ := Int.eq_ofNat_of_zero_le hs
        go_wp2_with (go_at_call 26; refine (fill_any q _ (by omega)).mono ?_; rintro e w' ⟨rfl, rfl⟩)
        go_round
        case rel => exact ⟨k + 1, q + pad q + 4 + u, by omega, by go_num, ret_val (by omega), by rw [HS.out, HP.out]; omega, by omega⟩
        case measure => simp [intOf]; omega
    · have hk' : k = n := by omega
      subst hk'
      have HS := Lib.hid (show aggLen xs = q by rw [← hag, List.take_of_length_le (by rw [HR.out.len]; omega)])
      clear hag
      go_wp2
      go_ret
      exact ⟨ret_int HS.out.symm, rfl⟩
set_option maxRecDepth 100000 in
set_option maxHeartbeats 4000000 in
theorem agglen_any (A : Option Addr) (n c : Nat) (xs : List Int) (w : World) (h : RowB .i64 w A n xs) (hx : ∀ x ∈ xs, x ≤ 1000000) (hn : n ≤ 1000000) :
    Calls Tryd.prog 21 #[.slice A n c] w fun e w' => e = .returned (.int .i64 (aggLen xs)) ∧ w = w' := by
  have HR := Lib.hid h
  have HX := Lib.hid hx
  clear h hx
  go_enter Tryd.func21, Tryd.ntmps21
  go_wp2
  go_loop [3, 4] (fun a i => ∃ k q : Nat, k ≤ n ∧ i = .int .i64 k ∧ a = .int .i64 q ∧ aggLen (xs.take k) = q ∧ q ≤ k * 1000008) (fun _ i => n - (intOf i).toNat)
  case atStart => exact ⟨0, 0, by omega, rfl, rfl, rfl, by omega⟩
  case round =>
    obtain ⟨k, q, hk, rfl, rfl, hag, hq⟩ := hrel
    by_cases hlt : k < n
    · obtain ⟨b, off, rfl, hc⟩ := HR.out.el k hlt
      have hw := HR.out.w64 k hlt
      have hv := HX.out _ (mem_getD (show k < xs.length by rw [HR.out.len]; exact hlt))
      have HS := Lib.hid (aggLen_step (xs := xs) (k := k) (by rw [HR.out.len]; exact hlt))
      rw [hag] at HS
      have hq2 : q ≤ 1000008000000 := by have := Nat.mul_le_mul_right 1000008 (show k ≤ 1000000 by omega); omega
      generalize xs.getD k 0 = v at *
      clear hag
      rcases (by omega : v < 0 ∨ 0 ≤ v) with hs | hs
      · have hm1 : decide (v < 0) = true := by simpa using hs
        have hm2 : decide (0 ≤ v) = false := by simp; omega
        have hmx : max v 0 = 0 := by omega
        rw [hmx] at HS
        go_wp2
        go_round
        case rel => exact ⟨k + 1, (q + 3) / 4 * 4 + 4, by omega, by go_num, ret_val (by omega), by rw [HS.out]; omega, by omega⟩
        case measure => simp [intOf]; omega
      · have hm1 : decide (v < 0) = false := by simp; omega
        have hm2 : decide (0 ≤ v) = true := by simpa using hs
        have hmx : max v 0 = v := by omega
        rw [hmx] at HS
        obtain ⟨u, rfl⟩ := Int.eq_ofNat_of_zero_le hs
        go_wp2
        go_round
        case rel => exact ⟨k + 1, (q + 3) / 4 * 4 + 4 + u, by omega, by go_num, ret_val (by omega), by rw [HS.out]; omega, by omega⟩
        case measure => simp [intOf]; omega
    · have hk' : k = n := by omega
      subst hk'
      have HS := Lib.hid (show aggLen xs = q by rw [← hag, List.take_of_length_le (by rw [HR.out.len]; omega)])
      clear hag
      go_wp2
      go_ret
      exact ⟨ret_int HS.out.symm, rfl⟩

/-! ### inRange -/
def inR (xs : List Int) : Bool := decide (0 < xs.length) && xs.all fun x => decide (1 ≤ x) && decide (x ≤ 4095)
theorem inR_bad {xs : List Int} {k : Nat} (hk : k < xs.length) (h : ¬ (1 ≤ xs.getD k 0 ∧ xs.getD k 0 ≤ 4095)) : inR xs = false := by
  unfold inR
  rw [Bool.and_eq_false_iff]
  refine .inr ?_
  rw [List.all_eq_false]
  refine ⟨_, mem_getD hk, ?_⟩
  simp only [Bool.and_eq_true, decide_eq_true_eq]
  exact h
theorem inR_good {xs : List Int} (h : ∀ i, i < xs.length → 1 ≤ xs.getD i 0 ∧ xs.getD i 0 ≤ 4095) : inR xs = decide (0 < xs.length) := by
  unfold inR
  have : (xs.all fun x => decide (1 ≤ x) && decide (x ≤ 4095)) = true := by
    rw [List.all_eq_true]
    intro x hx
    obtain ⟨i, hi, rfl⟩ := List.getElem_of_mem hx
    have := h i hi
    simp only [Bool.and_eq_true, decide_eq_true_eq]
    simpa [List.getD, hi] using this
  rw [this, Bool.and_true]
set_option maxRecDepth 100000 in
set_option maxHeartbeats 4000000 in
theorem inRange_any (A : Option Addr) (n c : Nat) (xs : List Int) (w : World) (h : RowB .i64 w A n xs) :
    Calls Tryd.prog 24 #[.slice A n c] w fun e w' => e = .returned (.bool (inR xs)) ∧ w = w' := by
  have hle := h.le
  unfold maxLen at hle
  have HR := Lib.hid h
  clear h
  go_enter Tryd.func24, Tryd.ntmps24
  go_wp2
  go_loop [7] (fun i => ∃ k : Nat, k ≤ n ∧ i = .int .i64 k ∧ ∀ i, i < k → 1 ≤ xs.getD i 0 ∧ xs.getD i 0 ≤ 4095) (fun i => n - (intOf i).toNat)
  case atStart => exact ⟨0, by omega, rfl, fun i hi => by omega⟩
  case round =>
    obtain ⟨k, hk, rfl, hall⟩ := hrel
    have HA := Lib.hid hall
    clear hall
    by_cases hlt : k < n
    · obtain ⟨b, off, rfl, hc⟩ := HR.out.el k hlt
      have hw := HR.out.w64 k hlt
      have HV := Lib.hid (inR_bad (xs := xs) (k := k) (by rw [HR.out.len]; exact hlt))
      have HN := Lib.hid (show 1 ≤ xs.getD k 0 ∧ xs.getD k 0 ≤ 4095 → ∀ i, i < k + 1 → 1 ≤ xs.getD i 0 ∧ xs.getD i 0 ≤ 4095 from fun h i hi => by
        rcases Nat.lt_or_ge i k with h1 | h1
        · exact HA.out i h1
        · rw [show i = k by omega]; exact h)
      generalize xs.getD k 0 = v at *
      cases e1 : decide (v < 1)
      · have e1' : decide (v ≤ 0) = false := by simp at e1 ⊢; omega
        cases e2 : decide (4095 < v)
        · have HN2 := Lib.hid (HN.out (by simp at e1 e2; omega))
          go_wp2
          go_round
          case rel => exact ⟨k + 1, by omega, by go_num, HN2.out⟩
          case measure => simp [intOf]; omega
        · have HB := Lib.hid (HV.out (by simp at e2; omega))
          go_wp2
          go_ret
          exact ⟨ret_bool HB.out.symm, rfl⟩
      · have e1' : decide (v ≤ 0) = true := by simp at e1 ⊢; omega
        have HB := Lib.hid (HV.out (by simp at e1; omega))
        go_wp2
        go_ret
        exact ⟨ret_bool HB.out.symm, rfl⟩
    · have hk' : k = n := by omega
      subst hk'
      have HB := Lib.hid (show decide (0 < k) = inR xs by rw [inR_good (by rw [HR.out.len]; exact HA.out), HR.out.len])
      go_wp2
      go_ret
      exact ⟨ret_bool HB.out, rfl⟩

/-! ### lengths -/
theorem zerosI (n : Nat) : (madeCells (Value.int .i64 0).cells (n * 1)).toList = (List.replicate n (0 : Int)).map (Value.int .i64) := by
  rw [Nat.mul_one, List.map_replicate]; exact toList_madeCells_one _ _
theorem set_step (l : List Int) (xs : List Int) (k : Nat) (hk : k < l.length) : (l.take k ++ xs.drop k).set k (l.getD k 0) = l.take (k + 1) ++ xs.drop (k + 1) ∨ xs.length ≤ k := by
  by_cases hx : k < xs.length
  · refine .inl ?_
    rw [List.drop_eq_getElem_cons hx, List.set_append_right _ _ (by simp; omega), List.take_succ_eq_append_getElem hk]
    have : k - (l.take k).length = 0 := by simp; omega
    rw [this, List.set_cons_zero, List.append_assoc]
    simp [List.getD, hk]
  · exact .inr (by omega)
set_option maxRecDepth 100000 in
set_option maxHeartbeats 8000000 in
theorem lengths_any (A : Option Addr) (n c : Nat) (l : List (List Int)) (w : World) (h : RowP w A n l) (hn : n ≤ 1000000) :
    Calls Tryd.prog 23 #[.slice A n c] w fun e w' => ∃ g, e = .returned (.slice (some ⟨g, 0, none⟩) n n) ∧ OwnB w' w.heap.size 3 .i64 g n n (lensI l) ∧ Below w.heap.size w w' := by
  obtain ⟨i0, hi0, hz0, hz1, hz2⟩ := info_parts int_info
  have HR := Lib.hid h
  have HLL := Lib.hid h.len
  clear h
  go_enter Tryd.func23, Tryd.ntmps23
  go_wp2_with (at_make; refine wpList_make_full _ rfl _ _ 41 rfl w.heap.size 3 i0 (.int .i64 0) 1 Tryd.underlying41 hi0 hz0 hz1 _ _ _ _ n rfl rfl (by omega) (by omega) (by rw [hz2]; omega) (by unfold maxLen; omega) (Nat.le_refl _) ?_; intro w1 hown1 hgrow1; rw [zerosI] at hown1; have HO := Lib.hid (show OwnB w1 w.heap.size 3 .i64 w.heap.size n n (List.replicate n 0) from hown1); have HB := Lib.hid ((Below.refl w.heap.size w).grown hgrow1 (Nat.le_refl _) (by simp)); clear hown1 hgrow1)
  have HO2 := Lib.hid (show OwnB w1 w.heap.size 3 .i64 w.heap.size n n ((lensI l).take 0 ++ (List.replicate n 0).drop 0) by simpa using HO.out)
  clear HO
  go_loopw [11] (fun i wr => ∃ k : Nat, k ≤ n ∧ i = .int .i64 k ∧ OwnB wr w.heap.size 3 .i64 w.heap.size n n ((lensI l).take k ++ (List.replicate n 0).drop k) ∧ Below w.heap.size w wr) (fun i _ => n - (intOf i).toNat)
  case atStart => exact ⟨0, by omega, rfl, HO2.out, HB.out⟩
  case round =>
    obtain ⟨k, hk, rfl, hown, hbel⟩ := hrel
    clear HO2 HB
    have HO := Lib.hid hown
    have HB := Lib.hid hbel
    clear hown hbel
    by_cases hlt : k < n
    · obtain ⟨b, off, a, m, ca, rfl, hc, hr, -⟩ := (HR.out.below HB.out).el k hlt
      have hml := hr.le
      unfold maxLen at hml
      have hlm := hr.len
      have HS := Lib.hid ((set_step (lensI l) (List.replicate n 0) k (by rw [lensI_len, HLL.out]; exact hlt)).resolve_right (by simp; omega))
      rw [lensI_at l k (by rw [HLL.out]; exact hlt), hlm] at HS
      clear hr hlm
      go_wp2_with (refine wpList_store_own rfl 3 (.tmp 20) (.tmp 19) rfl w.heap.size 3 .i64 w.heap.size k n n _ _ _ rfl rfl HO.out hlt sizeI64 HS.out ?_; intro w5 hO hk2 hb; have HO3 := hO; have HB3 := Lib.hid (hb.out _ _ HB.out (Nat.le_refl _)); clear hO hk2 hb HO HB)
      go_roundw
      case rel => exact ⟨k + 1, by omega, by go_num, HO3.out, HB3.out⟩
      case measure => simp [intOf]; omega
    · have hk' : k = n := by omega
      subst hk'
      have HO4 := Lib.hid (show OwnB wr w.heap.size 3 .i64 w.heap.size k k (lensI l) by
        have := HO.out
        rwa [List.take_of_length_le (by rw [lensI_len, HLL.out]; omega), List.drop_of_length_le (by simp), List.append_nil] at this)
      go_wp2
      go_ret
      exact ⟨_, rfl, HO4.out, HB.out⟩
end Go.Proofs.YtejdmpdbapfomaaDoor
