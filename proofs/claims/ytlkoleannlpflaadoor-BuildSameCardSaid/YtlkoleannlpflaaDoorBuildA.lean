/-
  CONTRACTS of package build's mayGo and of ampdu.Len and the reference's AggLen (rows of numbers that are no greater than a million).
-/
import Derived.Test.YtlkoleannlpflaaDoorAirA
import Derived.Test.YtlkoleannlpflaaDoorBuildM
import Derived.Test.YtlkoleannlpflaaDoorShutA
namespace Go.Proofs.YtlkoleannlpflaaDoor
open Go.ChangeShapes Go.WideShapes Go.ChangeAt Go.RowKit
set_option linter.unusedVariables false
set_option linter.unusedSimpArgs false

abbrev Lm.arr (m : Lm) : Array Value := #[.int .i64 m.c, .int .i64 m.b, .int .i64 m.t]
abbrev Lm.val (m : Lm) : Value := .agg m.arr
theorem sizeLim : (Tryd.prog.info? 25).map (·.size) = some 3 := by kernel_rfl
theorem sizeLim2 : (Tryd.prog.info? 31).map (·.size) = some 3 := by kernel_rfl
theorem lm_cell {w : World} {g : Nat} {m : Lm} {t : TypeId} {fr : Nat × Nat} (h : w.heap[g]? = some (.cells m.arr t fr)) (i : Nat) : w.cell? ⟨g, i, none⟩ = m.arr[i]? := by
  simp only [World.cell?, h]
  rfl
theorem two_last (w : World) (o1 o2 : Obj) : ((w.alloc o1).alloc o2).heap[w.heap.size]? = some o1 ∧ ((w.alloc o1).alloc o2).heap[w.heap.size + 1]? = some o2 ∧ Below w.heap.size w ((w.alloc o1).alloc o2) := by
  have h1 := heap_alloc_last w o1
  have h2 := heap_alloc_last (w.alloc o1) o2
  have hs : (w.alloc o1).heap.size = w.heap.size + 1 := by simp
  rw [hs] at h2
  have b1 := (Below.refl w.heap.size w).alloc (Nat.le_refl _) o1
  have b2 := (Below.refl (w.alloc o1).heap.size (w.alloc o1)).alloc (Nat.le_refl _) o2
  exact ⟨(b2.block _ (lt_blk h1)).trans h1, h2, b1.alloc b1.size o2⟩
theorem aggLen_step {xs : List Int} {k : Nat} (hk : k < xs.length) : aggLen (xs.take (k + 1)) = (aggLen (xs.take k) + 3) / 4 * 4 + 4 + max (xs.getD k 0) 0 := by
  rw [List.take_succ_eq_append_getElem hk, aggLen_snoc]; simp [List.getD, hk]
theorem RowB.w64 {w : World} {A : Option Addr} {n : Nat} {xs : List Int} (h : RowB .i64 w A n xs) (i : Nat) (hi : i < n) : -9223372036854775808 ≤ xs.getD i 0 ∧ xs.getD i 0 ≤ 9223372036854775807 := by
  have := h.wf i hi
  simpa [IntKind.min, IntKind.max, IntKind.signed, IntKind.bits] using this
/-! ### mayGo -/
theorem go_bad {xs : List Int} {k : Nat} (hk : k < xs.length) (h : ¬ (1 ≤ xs.getD k 0 ∧ xs.getD k 0 ≤ 4095)) : xs.all lenOk = false := by
  rw [List.all_eq_false]
  refine ⟨_, mem_getD hk, ?_⟩
  rw [lenOk_iff]
  exact h
theorem go_good {xs : List Int} (h : ∀ i, i < xs.length → 1 ≤ xs.getD i 0 ∧ xs.getD i 0 ≤ 4095) : xs.all lenOk = true := by
  rw [List.all_eq_true]
  intro x hx
  obtain ⟨i, hi, rfl⟩ := List.getElem_of_mem hx
  have := h i hi
  rw [lenOk_iff]
  simpa [List.getD, hi] using this
set_option maxRecDepth 100000 in
set_option maxHeartbeats 4000000 in
theorem maygo_any (A : Option Addr) (n c : Nat) (xs : List Int) (w : World) (h : RowB .i64 w A n xs) :
    Calls Tryd.prog 20 #[.slice A n c] w fun e w' => e = .returned (.bool (xs.all lenOk)) ∧ w = w' := by
  have hle := h.le
  unfold maxLen at hle
  have HR := Lib.hid h
  clear h
  go_enter Tryd.func20, Tryd.ntmps20
  go_wp2
  go_loop [7] (fun i => ∃ k : Nat, k ≤ n ∧ i = .int .i64 k ∧ ∀ i, i < k → 1 ≤ xs.getD i 0 ∧ xs.getD i 0 ≤ 4095) (fun i => n - (intOf i).toNat)
  case atStart => exact ⟨0, by omega, rfl, fun i hi => by omega⟩
  case round =>
    obtain ⟨k, hk, rfl, hall⟩ := hrel
    have HA := Lib.hid hall
    clear hall
    by_cases hlt : k < n
    · obtain ⟨b, off, rfl, hc⟩ := HR.out.el k hlt
      have hw := HR.out.w64 k hlt
      have HV := Lib.hid (go_bad (xs := xs) (k := k) (by rw [HR.out.len]; exact hlt))
      have HN := Lib.hid (show 1 ≤ xs.getD k 0 ∧ xs.getD k 0 ≤ 4095 → ∀ i, i < k + 1 → 1 ≤ xs.getD i 0 ∧ xs.getD i 0 ≤ 4095 from fun h i hi => by
        rcases Nat.lt_or_ge i k with h1 | h1
        · exact HA.out i h1
        · rw [show i = k by omega]; exact h)
      generalize xs.getD k 0 = v at *
      cases e1 : decide (v < 1)
      · have e1' : decide (v ≤ 0) = false := by simp at e1 ⊢; omega
        cases e2 : decide (4095 < v)
        · have HN2 := Lib.hid (HN.out (by simp at e1 e2; omega))
          go_wp2
          go_round
          case rel => exact ⟨k + 1, by omega, by go_num, HN2.out⟩
          case measure => simp [intOf]; omega
        · have HB := Lib.hid (HV.out (by simp at e2; omega))
          go_wp2
          go_ret
          exact ⟨ret_bool HB.out.symm, rfl⟩
      · have e1' : decide (v ≤ 0) = true := by simp at e1 ⊢; omega
        have HB := Lib.hid (HV.out (by simp at e1; omega))
        go_wp2
        go_ret
        exact ⟨ret_bool HB.out.symm, rfl⟩
    · have hk' : k = n := by omega
      subst hk'
      have HB := Lib.hid (show true = xs.all lenOk by rw [go_good (by rw [HR.out.len]; exact HA.out)])
      go_wp2
      go_ret
      exact ⟨ret_bool HB.out, rfl⟩
/-! ### fill -/
set_option maxRecDepth 100000 in
theorem fill_any (n : Nat) (w : World) (hn : n ≤ 10000000000000) :
    Calls Tryd.prog 32 #[.int .i64 n] w fun e w' => e = .returned (.int .i64 (pad n : Nat)) ∧ w = w' := by
  have HE := Lib.hid (show (4 - (n : Int) % 4) % 4 = ((pad n : Nat) : Int) by unfold pad; omega)
  go_enter Tryd.func32, Tryd.ntmps32
  go_wp2
  go_ret
  exact ⟨ret_int HE.out, rfl⟩
/-! ### Len, AggLen -/
set_option maxRecDepth 100000 in
set_option maxHeartbeats 4000000 in
theorem len_any (A : Option Addr) (n c : Nat) (xs : List Int) (w : World) (h : RowB .i64 w A n xs) (hx : ∀ x ∈ xs, x ≤ 1000000) (hn : n ≤ 1000000) :
    Calls Tryd.prog 22 #[.slice A n c] w fun e w' => e = .returned (.int .i64 (aggLen xs)) ∧ w = w' := by
  have HR := Lib.hid h
  have HX := Lib.hid hx
  clear h hx
  go_enter Tryd.func22, Tryd.ntmps22
  go_wp2
  go_loop [3, 8] (fun a i => ∃ k q : Nat, k ≤ n ∧ i = .int .i64 k ∧ a = .int .i64 q ∧ aggLen (xs.take k) = q ∧ q ≤ k * 1000008) (fun _ i => n - (intOf i).toNat)
  case atStart => exact ⟨0, 0, by omega, rfl, rfl, rfl, by omega⟩
  case round =>
    obtain ⟨k, q, hk, rfl, rfl, hag, hq⟩ := hrel
    by_cases hlt : k < n
    · obtain ⟨b, off, rfl, hc⟩ := HR.out.el k hlt
      have hw := HR.out.w64 k hlt
      have hv := HX.out _ (mem_getD (show k < xs.length by rw [HR.out.len]; exact hlt))
      have HS := Lib.hid (aggLen_step (xs := xs) (k := k) (by rw [HR.out.len]; exact hlt))
      rw [hag] at HS
      have hq2 : q ≤ 1000008000000 := by have := Nat.mul_le_mul_right 1000008 (show k ≤ 1000000 by omega); omega
      generalize xs.getD k 0 = v at *
      clear hag
      have hp : pad q ≤ 3 := by unfold pad; omega
      have HP := Lib.hid (show q + pad q = (q + 3) / 4 * 4 by unfold pad; omega)
      rcases (by omega : v < 0 ∨ 0 ≤ v) with hs | hs
      · have hm1 : decide (v < 0) = true := by simpa using hs
        have hm2 : decide (0 ≤ v) = false := by simp; omega
        have hmx : max v 0 = 0 := by omega
        rw [hmx] at HS
        go_wp2_with (go_at_call 32; refine (fill_any q _ (by omega)).mono ?_; rintro e w' ⟨rfl, rfl⟩)
        go_round
        case rel => exact ⟨k + 1, q + pad q + 4, by omega, by go_num, ret_val (by omega), by rw [HS.out, HP.out]; omega, by omega⟩
        case measure => simp [intOf]; omega
      · have hm1 : decide (v < 0) = false := by simp; omega
        have hm2 : decide (0 ≤ v) = true := by simpa using hs
        have hmx : max v 0 = v := by omega
        rw [hmx] at HS
        obtain ⟨u, rfl⟩ := Int.eq_ofNat_of_zero_le hs
        go_wp2_with (go_at_call 32; refine (fill_any q _ (by omega)).mono ?_; rintro e w' ⟨rfl, rfl⟩)
        go_round
        case rel => exact ⟨k + 1, q + pad q + 4 + u, by omega, by go_num, ret_val (by omega), by rw [HS.out, HP.out]; omega, by omega⟩
        case measure => simp [intOf]; omega
    · have hk' : k = n := by omega
      subst hk'
      have HS := Lib.hid (show aggLen xs = q by rw [← hag, List.take_of_length_le (by rw [HR.out.len]; omega)])
      clear hag
      go_wp2
      go_ret
      exact ⟨ret_int HS.out.symm, rfl⟩
set_option maxRecDepth 100000 in
set_option maxHeartbeats 4000000 in
theorem agglen_any (A : Option Addr) (n c : Nat) (xs : List Int) (w : World) (h : RowB .i64 w A n xs) (hx : ∀ x ∈ xs, x ≤ 1000000) (hn : n ≤ 1000000) :
    Calls Tryd.prog 16 #[.slice A n c] w fun e w' => e = .returned (.int .i64 (aggLen xs)) ∧ w = w' := by
  have HR := Lib.hid h
  have HX := Lib.hid hx
  clear h hx
  go_enter Tryd.func16, Tryd.ntmps16
  go_wp2
  go_loop [3, 4] (fun a i => ∃ k q : Nat, k ≤ n ∧ i = .int .i64 k ∧ a = .int .i64 q ∧ aggLen (xs.take k) = q ∧ q ≤ k * 1000008) (fun _ i => n - (intOf i).toNat)
  case atStart => exact ⟨0, 0, by omega, rfl, rfl, rfl, by omega⟩
  case round =>
    obtain ⟨k, q, hk, rfl, rfl, hag, hq⟩ := hrel
    by_cases hlt : k < n
    · obtain ⟨b, off, rfl, hc⟩ := HR.out.el k hlt
      have hw := HR.out.w64 k hlt
      have hv := HX.out _ (mem_getD (show k < xs.length by rw [HR.out.len]; exact hlt))
      have HS := Lib.hid (aggLen_step (xs := xs) (k := k) (by rw [HR.out.len]; exact hlt))
      rw [hag] at HS
      have hq2 : q ≤ 1000008000000 := by have := Nat.mul_le_mul_right 1000008 (show k ≤ 1000000 by omega); omega
      generalize xs.getD k 0 = v at *
      clear hag
      rcases (by omega : v < 0 ∨ 0 ≤ v) with hs | hs
      · have hm1 : decide (v < 0) = true := by simpa using hs
        have hm2 : decide (0 ≤ v) = false := by simp; omega
        have hmx : max v 0 = 0 := by omega
        rw [hmx] at HS
        go_wp2
        go_round
        case rel => exact ⟨k + 1, (q + 3) / 4 * 4 + 4, by omega, by go_num, ret_val (by omega), by rw [HS.out]; omega, by omega⟩
        case measure => simp [intOf]; omega
      · have hm1 : decide (v < 0) = false := by simp; omega
        have hm2 : decide (0 ≤ v) = true := by simpa using hs
        have hmx : max v 0 = v := by omega
        rw [hmx] at HS
        obtain ⟨u, rfl⟩ := Int.eq_ofNat_of_zero_le hs
        go_wp2
        go_round
        case rel => exact ⟨k + 1, (q + 3) / 4 * 4 + 4 + u, by omega, by go_num, ret_val (by omega), by rw [HS.out]; omega, by omega⟩
        case measure => simp [intOf]; omega
    · have hk' : k = n := by omega
      subst hk'
      have HS := Lib.hid (show aggLen xs = q by rw [← hag, List.take_of_length_le (by rw [HR.out.len]; omega)])
      clear hag
      go_wp2
      go_ret
      exact ⟨ret_int HS.out.symm, rfl⟩

end Go.Proofs.YtlkoleannlpflaaDoor
