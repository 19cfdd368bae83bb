/-
  CONTRACTS of sort.Search over a function that makes memory, of build.Choose and its closure, of the reference's Choose.
-/
import Derived.Test.YtlkoleannlpflaaDoorBuildC
import Derived.Deep.RegionHeld3
namespace Go.Proofs.YtlkoleannlpflaaDoor
open Go.ChangeShapes Go.WideShapes Go.ChangeAt Go.RowKit Go.Deep
set_option linter.unusedVariables false
set_option linter.unusedSimpArgs false

set_option maxRecDepth 100000 in
set_option maxHeartbeats 8000000 in
theorem search_any (a b c : Value) (n : Nat) (p : Nat → Bool) (w : World) (hn : n ≤ 1000000000000000)
    (hf : ∀ i : Nat, i < n → ∀ w', Below w.heap.size w w' → Calls Tryd.prog 18 #[.int .i64 (i : Int), a, b, c] w' fun e w'' => e = .returned (.bool (p i)) ∧ Below w'.heap.size w' w'') :
    Calls Tryd.prog 17 #[.int .i64 (n : Int), .func (.func 18) #[] #[a, b, c]] w fun e w' => (∃ k : Nat, e = .returned (.int .i64 (k : Int)) ∧ k ≤ n ∧ (0 < k → p (k - 1) = false) ∧ (k < n → p k = true)) ∧ Below w.heap.size w w' := by
  have HF := Shut.mk hf
  clear hf
  go_enter Tryd.func17, Tryd.ntmps17
  go_wp2_with (fail)
  go_loopw [5, 6] (fun s5 s6 wr => ∃ lo hi : Nat, s5 = .int .i64 lo ∧ s6 = .int .i64 hi ∧ lo ≤ hi ∧ hi ≤ n ∧ (0 < lo → p (lo - 1) = false) ∧ (hi < n → p hi = true) ∧ Below w.heap.size w wr) (fun s5 s6 _ => (intOf s6).toNat - (intOf s5).toNat)
  case atStart => exact ⟨0, n, rfl, rfl, Nat.zero_le _, Nat.le_refl _, fun h => absurd h (Nat.lt_irrefl _), fun h => absurd h (Nat.lt_irrefl _), Below.refl _ _⟩
  case round =>
    obtain ⟨lo, hi, rfl, rfl, hlh, hin, h1, h2, hb⟩ := hrel
    have H1 := Shut.mk h1
    have H2 := Shut.mk h2
    have HB := Shut.mk hb
    clear h1 h2 hb
    by_cases hlt : lo < hi
    · have HC := Shut.mk (HF.out ((lo + hi) / 2) (by omega) wr HB.out)
      rw [show (((lo + hi) / 2 : Nat) : Int) = ((lo : Int) + (hi : Int)) / 2 by omega] at HC
      go_wp2_with (fail)
      cases hp : p ((lo + hi) / 2) <;> rw [hp] at HC
      · have HP := Shut.mk hp
        clear hp
        refine HC.out.mono ?_
        rintro e w2 ⟨rfl, hb⟩
        have HB2 := Shut.mk (HB.out.trans (hb.mono HB.out.size))
        clear hb
        go_wp2_with (fail)
        go_roundw
        case rel => exact ⟨(lo + hi) / 2 + 1, hi, by go_num, rfl, by omega, hin, fun _ => HP.out, H2.out, HB2.out⟩
        case measure => simp [intOf]; omega
      · have HP := Shut.mk hp
        clear hp
        refine HC.out.mono ?_
        rintro e w2 ⟨rfl, hb⟩
        have HB2 := Shut.mk (HB.out.trans (hb.mono HB.out.size))
        clear hb
        go_wp2_with (fail)
        go_roundw
        case rel => exact ⟨lo, (lo + hi) / 2, rfl, by go_num, by omega, by omega, H1.out, fun _ => HP.out, HB2.out⟩
        case measure => simp [intOf]; omega
    · obtain rfl : hi = lo := by omega
      go_wp2_with (fail)
      go_ret
      exact ⟨⟨hi, rfl, hin, H1.out, H2.out⟩, HB.out⟩
set_option maxRecDepth 100000 in
set_option maxHeartbeats 8000000 in
theorem closure_any (r : Rt) (m : Lm) (A : Option Addr) (n c : Nat) (xs : List Int) (gr gm gs i : Nat) (w : World) (hT : Tab w) (h : RowB .i64 w A n xs) (hc : n ≤ c) (hi : i < n)
    (hr : w.heap[gr]? = some (.cells r.arr 23)) (hm : w.heap[gm]? = some (.cells m.arr 25)) (hs : w.cell? ⟨gs, 0, none⟩ = some (.slice A n c)) :
    Calls Tryd.prog 18 #[.int .i64 (i : Int), .pointer (some ⟨gr, 0, none⟩), .pointer (some ⟨gm, 0, none⟩), .pointer (some ⟨gs, 0, none⟩)] w fun e w' => e = .returned (.bool (!fitsB r m (xs.take (i + 1)))) ∧ Below w.heap.size w w' := by
  have HT := Shut.mk hT
  have HR := Shut.mk h
  have HR0 := Shut.mk hr
  have HM0 := Shut.mk hm
  have HS0 := Shut.mk hs
  have hle := h.le
  unfold maxLen at hle
  clear hT h hr hm hs
  go_enter Tryd.func18, Tryd.ntmps18
  obtain ⟨b, off, rfl, hel⟩ := HR.out.cells (by omega)
  have HEL := Shut.mk hel
  clear hel
  have HG' := Shut.mk (fun (w' : World) (hB : Below w.heap.size w w') => (hB.block _ (lt_blk HR0.out)).trans HR0.out)
  have HM' := Shut.mk (fun (w' : World) (hB : Below w.heap.size w w') => (hB.block _ (lt_blk HM0.out)).trans HM0.out)
  have HS' := Shut.mk (fun (w' : World) (hB : Below w.heap.size w w') => below_at hB HS0.out)
  obtain ⟨q, hq⟩ : ∃ q, q = i + 1 := ⟨_, rfl⟩
  have HF := Shut.mk (fun (w' : World) (hB : Below w.heap.size w w') => fits_any r m (some ⟨b, off, none⟩) q c (xs.take q) w' (HT.out.below hB) ((HR.out.first q (by omega)).below hB))
  rw [← hq]
  have hw1 : IntKind.i64.wrap ((i : Int) + 1) = (q : Int) := by rw [IntWalk.i64_in _ ⟨by omega, by omega⟩]; omega
  have hqc : q ≤ c := by omega
  have hqc2 : (q : Int) ≤ (c : Int) := by omega
  clear hq
  go_wp2_with (fail)
  refine wp_region_held_drew (S := fun w' => Below w.heap.size w w') (by kernel_rfl) (Below.refl _ _).drew (fun hHeld => ?_)
  generalize World.drew w = w5 at *
  have HB5 := Lib.hid hHeld
  refine wpAnyH_take (i := 0) (v := .agg (Rt.arr r)) rfl (by kernel_rfl) (by kernel_rfl) (by kernel_rfl) (fun _ _ _ h => h) (yieldsIf_load_mid (by rfl) 23 (.tmp 1) rfl gr (0) rfl ((Rt.arr r)).toList _ (fun w' hw' => block_range (HG'.out w' hw')) Tryd.underlying23 rfl sizeRate) (by assumption) ?_
  try simp only [Act.put, List.getElem_toArray, List.getElem_cons_zero, List.getElem_cons_succ, List.setIfInBounds_toArray, List.set_cons_zero, List.set_cons_succ]
  refine wpAnyH_take (i := 1) (v := .agg (Lm.arr m)) rfl (by kernel_rfl) (by kernel_rfl) (by kernel_rfl) (fun _ _ _ h => h) (yieldsIf_load_mid (by rfl) 25 (.tmp 2) rfl gm (0) rfl ((Lm.arr m)).toList _ (fun w' hw' => block_range (HM'.out w' hw')) Tryd.underlying25 rfl sizeLim) (by assumption) ?_
  try simp only [Act.put, List.getElem_toArray, List.getElem_cons_zero, List.getElem_cons_succ, List.setIfInBounds_toArray, List.set_cons_zero, List.set_cons_succ]
  refine wpAnyH_take (i := 2) (v := ?_) rfl (by kernel_rfl) (by kernel_rfl) (by kernel_rfl) (fun _ _ _ h => h) (Or.inl ⟨by rfl, ?_⟩) (by assumption) ?_
  rotate_left
  · intro w hSw
    have hx := HS'.out w hSw
    clear hSw
    go_simp
    try with_reducible rfl
  try simp only [Act.put, List.getElem_toArray, List.getElem_cons_zero, List.getElem_cons_succ, List.setIfInBounds_toArray, List.set_cons_zero, List.set_cons_succ]
  refine wpAnyH_take (i := 3) (v := ?_) rfl (by kernel_rfl) (by kernel_rfl) (by kernel_rfl) (fun _ _ _ h => h) (Or.inl ⟨by rfl, ?_⟩) (by assumption) ?_
  rotate_left
  · intro w hSw
    clear hSw
    go_simp
    try with_reducible rfl
  try simp only [Act.put, List.getElem_toArray, List.getElem_cons_zero, List.getElem_cons_succ, List.setIfInBounds_toArray, List.set_cons_zero, List.set_cons_succ]
  refine wpAnyH_take (i := 4) (v := ?_) rfl (by kernel_rfl) (by kernel_rfl) (by kernel_rfl) (fun _ _ _ h => h) (Or.inl ⟨by rfl, ?_⟩) (by assumption) ?_
  rotate_left
  · intro w hSw
    clear hSw
    go_simp
    try with_reducible rfl
  try simp only [Act.put, List.getElem_toArray, List.getElem_cons_zero, List.getElem_cons_succ, List.setIfInBounds_toArray, List.set_cons_zero, List.set_cons_succ]
  refine wpAnyH_take (i := 5) (v := ?_) rfl (by kernel_rfl) (by kernel_rfl) (by kernel_rfl) (fun _ _ _ h => h) (Or.inl ⟨by rfl, ?_⟩) (by assumption) ?_
  rotate_left
  · intro w hSw
    clear hSw
    go_simp
    try with_reducible rfl
  try simp only [Act.put, List.getElem_toArray, List.getElem_cons_zero, List.getElem_cons_succ, List.setIfInBounds_toArray, List.set_cons_zero, List.set_cons_succ]
  refine wpAnyH_ready (rs := [6]) (by kernel_rfl) (by simp) ?_
  refine AllReadyH.cons rfl (fun K hK => ?_) AllReadyH.nil
  go_simp
  refine (HF.out w5 HB5.out).mono ?_
  rintro e' w6 ⟨rfl, hb⟩
  have HB6 := Lib.hid (HB5.out.trans (hb.mono HB5.out.size))
  clear hb hHeld HB5
  refine hK.out _ _ HB6.out (fun hHeld => ?_)
  clear hK K
  try simp only [Act.put, List.getElem_toArray, List.getElem_cons_zero, List.getElem_cons_succ, List.setIfInBounds_toArray, List.set_cons_zero, List.set_cons_succ]
  refine wpAnyH_take (i := 7) (v := ?_) rfl (by kernel_rfl) (by kernel_rfl) (by kernel_rfl) (fun _ _ _ h => h) (Or.inl ⟨by rfl, ?_⟩) (by assumption) ?_
  rotate_left
  · intro w hSw
    clear hSw
    go_simp
    try with_reducible rfl
  try simp only [Act.put, List.getElem_toArray, List.getElem_cons_zero, List.getElem_cons_succ, List.setIfInBounds_toArray, List.set_cons_zero, List.set_cons_succ]
  refine wpAnyH_take (i := 8) (v := ?_) rfl (by kernel_rfl) (by kernel_rfl) (by kernel_rfl) (fun _ _ _ h => h) (Or.inl ⟨by rfl, ?_⟩) (by assumption) ?_
  rotate_left
  · intro w hSw
    clear hSw
    go_simp
    try with_reducible rfl
  try simp only [Act.put, List.getElem_toArray, List.getElem_cons_zero, List.getElem_cons_succ, List.setIfInBounds_toArray, List.set_cons_zero, List.set_cons_succ]
  refine wpAnyH_done (by kernel_rfl) ?_ _
  try simp only [Act.put, List.getElem_toArray, List.getElem_cons_zero, List.getElem_cons_succ, List.setIfInBounds_toArray, List.set_cons_zero, List.set_cons_succ]
  go_wp2_with (fail)
  go_ret
  exact ⟨rfl, HB6.out⟩
end Go.Proofs.YtlkoleannlpflaaDoor
