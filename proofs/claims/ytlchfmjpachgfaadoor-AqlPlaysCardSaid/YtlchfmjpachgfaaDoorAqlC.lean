/-
  CONTRACTS of package aql: Add, Sub, May.
-/
import Derived.Test.YtlchfmjpachgfaaDoorAqlB
import Derived.Test.YtlchfmjpachgfaaDoorHeldD
import Derived.StillTailTactics
import Derived.LoopTactic
namespace Go.Proofs.YtlchfmjpachgfaaDoor
open Go.ChangeShapes Go.WideShapes Go.ChangeAt Go.RowKit Go.Deep
set_option linter.unusedVariables false
set_option linter.unusedSimpArgs false

theorem only_below {w w1 : World} {g : Nat} (h : Below w.heap.size w w1) (cs : Array Value) : Only (· = g) w (w1.setRow g cs) := Only.setRow (S := (· = g)) (Only.of_quiet h) (g := g) (fun _ => rfl) cs
theorem AqlCut {w : World} {g : Nat} {q : Aq} {a : Nat} (hg : IsAq w g q) (hi : InvA q) (ha : a < 17) (v : Int) : ∃ pre post : List Value, pre.length = 2 + a * 2 ∧
    (∀ w' : World, IsAq w' g q → w'.heap[g]? = some (.cells (pre ++ s2 (vA q a) ++ post).toArray 54 (0, 0))) ∧
    (∀ w' : World, IsAq w' g q → IsAq (w'.setRow g (pre ++ s2 v ++ post).toArray) g (putA q a v)) := by
  obtain ⟨pre, post, hp, hc, hset⟩ := c36_cut q.st q.wh (vA q) ha
  have h1 : ∀ w' : World, IsAq w' g q → w'.heap[g]? = some (.cells (pre ++ s2 (vA q a) ++ post).toArray 54 (0, 0)) := fun w' h => by rw [← hc]; exact h
  exact ⟨pre, post, hp, h1, fun w' h => IsAq.put (by unfold At36; rw [← hset]; exact setRow_heap w' g _ _ _ (0, 0) (h1 w' h)) hi ha⟩

/-! ### Add -/
theorem of_below {w w' : World} (h : Below w.heap.size w w') : Below w.heap.size w (World.drew w') := h.drew
set_option maxRecDepth 100000 in
set_option maxHeartbeats 8000000 in
theorem add_in (g : Nat) (q : Aq) (a : Nat) (n : Int) (w : World) (hg : IsAq w g q) (hi : InvA q) (hb : allA q ≤ 4611686018427387904) (ha : aidB a = true) (hn : airB n = true) :
    Calls Tryd.prog 11 #[.pointer (some ⟨g, 0, none⟩), .int .i64 (a : Nat), .int .i64 n] w fun r w' => r = .returned .nilIface ∧ IsAq w' g (putA q a (vA q a + n)) ∧ Only (· = g) w w' := by
  have HI := Shut.mk (is_any_a (a : Int) w)
  have HF := Shut.mk (fits_any n w)
  rw [ha] at HI
  rw [hn] at HF
  have hn2 : 0 ≤ n ∧ n ≤ 1099511627776 := by unfold airB at hn; simpa using hn
  have ha17 : a < 17 := by have := aidB_iff.1 ha; omega
  obtain ⟨pre, post, hp, hc1, hc2⟩ := AqlCut hg hi ha17 (vA q a + n)
  have HG := Shut.mk hg
  have HPL := Shut.mk hp
  have HC1 := Shut.mk hc1
  have HC2 := Shut.mk hc2
  have HR := Shut.mk fun (w' : World) (h : IsAq w' g q) => show w'.rangeAt g (2 + a * 2) [.int .u64 0, .int .u64 (vA q a)] from At36.range h ha17
  have HV := Shut.mk (show 0 ≤ vA q a ∧ 0 ≤ n ∧ vA q a + n < 18446744073709551616 by have h1 := vA_nonneg hi a; have h2 := vA_le hi a; omega)
  generalize vA q a = x at *
  have y1 : IntKind.u64.wrap n = n := IntWalk.u64_in _ ⟨by omega, by omega⟩
  have ha0 : (0 : Int) ≤ (a : Int) := by omega
  have ha1 : (a : Int) < 17 := by omega
  have hStart : Below w.heap.size w (World.drew w) := (Below.refl _ _).drew
  clear hg hi hb ha hn hn2 ha17 hp hc1 hc2
  go_enter Tryd.func11, Tryd.ntmps11
  go_wp2_with (fail)
  refine HI.out.mono ?_
  rintro r w' ⟨rfl, rfl⟩
  go_wp2_with (fail)
  refine HF.out.mono ?_
  rintro r w' ⟨rfl, rfl⟩
  go_wp2_with (fail)
  refine wp_region_D (fun w' => Below w.heap.size w w') 15 (by kernel_rfl) hStart (fun hHeld hC => ?_)
  refine dP 0 hC hHeld ?_; clear hC; intro hC
  refine dP 1 hC hHeld ?_; clear hC; intro hC
  refine dP 2 hC hHeld ?_; clear hC; intro hC
  refine dP 3 hC hHeld ?_; clear hC; intro hC
  refine dP 4 hC hHeld ?_; clear hC; intro hC
  refine dP 5 hC hHeld ?_; clear hC; intro hC
  refine dP 6 hC hHeld ?_; clear hC; intro hC
  refine wpAnyD_take (i := 7) (v := .agg ([.int .u64 0, .int .u64 x]).toArray) 40 rfl (by kernel_rfl) hC (by kernel_rfl) (by kernel_rfl) (by kernel_rfl) (by decide) (fun _ _ _ h => h) (yieldsIf_load_mid (by rfl) 51 (.tmp 22) rfl g (2 + a * 2) rfl ([.int .u64 0, .int .u64 x]) _ (fun w' hSw => HR.out _ (HG.out.below hSw)) Tryd.underlying51 rfl sizeS) (fun _ => hHeld) ?_
  try simp only [Act.put, List.getElem_toArray, List.getElem_cons_zero, List.getElem_cons_succ, List.setIfInBounds_toArray, List.set_cons_zero, List.set_cons_succ]
  clear hC
  intro hC
  refine dP 8 hC hHeld ?_; clear hC; intro hC
  refine dP 9 hC hHeld ?_; clear hC; intro hC
  refine dP 10 hC hHeld ?_; clear hC; intro hC
  refine dP 12 hC hHeld ?_; clear hC; intro hC
  refine dP 13 hC hHeld ?_; clear hC; intro hC
  refine wpAnyD_one (i := 11) (by kernel_rfl) rfl hC (fun K hK => ?_)
  clear hC
  go_simp
  refine (plus_any x n _ HV.out.1 HV.out.2.1 HV.out.2.2).mono ?_
  rintro e' w1 ⟨rfl, hB⟩
  have hHeld2 := hHeld.trans (hB.mono hHeld.size)
  clear hB
  clear hHeld
  have hHeld := hHeld2
  clear hHeld2
  refine hK.out _ _ (fun _ => hHeld) (fun hC => ?_)
  clear hK K
  try simp only [Act.put, List.getElem_toArray, List.getElem_cons_zero, List.getElem_cons_succ, List.setIfInBounds_toArray, List.set_cons_zero, List.set_cons_succ]
  refine dP 14 hC hHeld ?_; clear hC; intro hC
  refine wpAnyD_one (i := 15) (by kernel_rfl) rfl hC (fun K hK => ?_)
  clear hC
  refine step_store_part rfl 51 (.tmp 30) (.tmp 27) rfl g (2 + a * 2) (.agg #[.int .u64 0, .int .u64 (x + n)]) rfl rfl 54 pre (s2 x) (s2 (x + n)) post (HC1.out _ (HG.out.below hHeld)) HPL.out rfl rfl sizeS (by simp [s2, Value.oneCell']) ?_
  have HX2 := Shut.mk (HC2.out _ (HG.out.below hHeld))
  have HO2 := Shut.mk (only_below (g := g) hHeld (pre ++ s2 (x + n) ++ post).toArray)
  generalize hq : World.setRow w1 g _ = w2 at *
  clear hq
  refine hK.out _ _ (past (by kernel_rfl)) (fun hC => ?_)
  clear hK K
  try simp only [Act.put, List.getElem_toArray, List.getElem_cons_zero, List.getElem_cons_succ, List.setIfInBounds_toArray, List.set_cons_zero, List.set_cons_succ]
  refine wpAnyD_done (by kernel_rfl) ?_ _
  try simp only [Act.put, List.getElem_toArray, List.getElem_cons_zero, List.getElem_cons_succ, List.setIfInBounds_toArray, List.set_cons_zero, List.set_cons_succ]
  clear hC hHeld
  go_wp2_with (fail)
  go_ret
  exact ⟨rfl, HX2.out, HO2.out⟩
set_option maxRecDepth 100000 in
set_option maxHeartbeats 8000000 in
theorem add_no (g : Nat) (a n : Int) (w : World) (E : Nat → Addr) (he : w.cell? ⟨0, 0, none⟩ = some (errP (E 103))) (h : aidB a = false ∨ airB n = false) :
    Calls Tryd.prog 11 #[.pointer (some ⟨g, 0, none⟩), .int .i64 a, .int .i64 n] w fun r w' => r = .returned (errP (E 103)) ∧ w = w' := by
  generalize E 103 = er at *
  have HI := Shut.mk (is_any_a a w)
  have HF := Shut.mk (fits_any n w)
  cases h1 : aidB a with
  | false =>
    rw [h1] at HI
    clear h h1 HF
    go_enter Tryd.func11, Tryd.ntmps11
    go_wp2_with (fail)
    refine HI.out.mono ?_
    rintro r w' ⟨rfl, rfl⟩
    go_wp2_with (fail)
    go_ret
    exact ⟨rfl, rfl⟩
  | true =>
    rw [h1] at HI
    rw [h.resolve_left (by simp [h1])] at HF
    clear h h1
    go_enter Tryd.func11, Tryd.ntmps11
    go_wp2_with (fail)
    refine HI.out.mono ?_
    rintro r w' ⟨rfl, rfl⟩
    go_wp2_with (fail)
    refine HF.out.mono ?_
    rintro r w' ⟨rfl, rfl⟩
    go_wp2_with (fail)
    go_ret
    exact ⟨rfl, rfl⟩

/-! ### Sub -/
set_option maxRecDepth 100000 in
set_option maxHeartbeats 8000000 in
theorem sub_no (g : Nat) (a n : Int) (w : World) (E : Nat → Addr) (he : w.cell? ⟨0, 0, none⟩ = some (errP (E 103))) (h : aidB a = false ∨ airB n = false) :
    Calls Tryd.prog 13 #[.pointer (some ⟨g, 0, none⟩), .int .i64 a, .int .i64 n] w fun r w' => r = .returned (errP (E 103)) ∧ w = w' := by
  generalize E 103 = er at *
  have HI := Shut.mk (is_any_a a w)
  have HF := Shut.mk (fits_any n w)
  cases h1 : aidB a with
  | false =>
    rw [h1] at HI
    clear h h1 HF
    go_enter Tryd.func13, Tryd.ntmps13
    go_wp2_with (fail)
    refine HI.out.mono ?_
    rintro r w' ⟨rfl, rfl⟩
    go_wp2_with (fail)
    go_ret
    exact ⟨rfl, rfl⟩
  | true =>
    rw [h1] at HI
    rw [h.resolve_left (by simp [h1])] at HF
    clear h h1
    go_enter Tryd.func13, Tryd.ntmps13
    go_wp2_with (fail)
    refine HI.out.mono ?_
    rintro r w' ⟨rfl, rfl⟩
    go_wp2_with (fail)
    refine HF.out.mono ?_
    rintro r w' ⟨rfl, rfl⟩
    go_wp2_with (fail)
    go_ret
    exact ⟨rfl, rfl⟩
set_option maxRecDepth 100000 in
set_option maxHeartbeats 8000000 in
theorem sub_less (g : Nat) (q : Aq) (a : Nat) (n : Int) (w : World) (E : Nat → Addr) (he : w.cell? ⟨1, 0, none⟩ = some (errP (E 110))) (hg : IsAq w g q) (hi : InvA q) (hb : allA q ≤ 4611686018427387904) (ha : aidB a = true) (hn : airB n = true) (hl : vA q a < n) :
    Calls Tryd.prog 13 #[.pointer (some ⟨g, 0, none⟩), .int .i64 (a : Nat), .int .i64 n] w fun r w' => r = .returned (errP (E 110)) ∧ Below w.heap.size w w' := by
  generalize E 110 = er at *
  have HI := Shut.mk (is_any_a (a : Int) w)
  have HF := Shut.mk (fits_any n w)
  rw [ha] at HI
  rw [hn] at HF
  have HOF := Shut.mk (of_any g q (a : Int) w hg hi hb)
  rw [ofA_v ha] at HOF
  generalize vA q a = x at *
  have HE := Shut.mk he
  clear hg hi hb ha hn he
  go_enter Tryd.func13, Tryd.ntmps13
  go_wp2_with (fail)
  refine HI.out.mono ?_
  rintro r w' ⟨rfl, rfl⟩
  go_wp2_with (fail)
  refine HF.out.mono ?_
  rintro r w' ⟨rfl, rfl⟩
  go_wp2_with (fail)
  refine HOF.out.mono ?_
  rintro r w2 ⟨rfl, hb⟩
  have he2 : w2.cell? ⟨1, 0, none⟩ = some (errP er) := below_at hb HE.out
  have HB := Shut.mk hb
  clear hb
  go_wp2_with (fail)
  go_ret
  exact ⟨rfl, HB.out⟩
set_option maxRecDepth 100000 in
set_option maxHeartbeats 8000000 in
theorem sub_in (g : Nat) (q : Aq) (a : Nat) (n : Int) (w : World) (hg : IsAq w g q) (hi : InvA q) (hb : allA q ≤ 4611686018427387904) (ha : aidB a = true) (hn : airB n = true) (hl : n ≤ vA q a) :
    Calls Tryd.prog 13 #[.pointer (some ⟨g, 0, none⟩), .int .i64 (a : Nat), .int .i64 n] w fun r w' => r = .returned .nilIface ∧ IsAq w' g (putA q a (vA q a - n)) ∧ Only (· = g) w w' := by
  have HI := Shut.mk (is_any_a (a : Int) w)
  have HF := Shut.mk (fits_any n w)
  rw [ha] at HI
  rw [hn] at HF
  have hn2 : 0 ≤ n ∧ n ≤ 1099511627776 := by unfold airB at hn; simpa using hn
  have ha17 : a < 17 := by have := aidB_iff.1 ha; omega
  obtain ⟨pre, post, hp, hc1, hc2⟩ := AqlCut hg hi ha17 (vA q a - n)
  have HG := Shut.mk hg
  have HPL := Shut.mk hp
  have HC1 := Shut.mk hc1
  have HC2 := Shut.mk hc2
  have HR := Shut.mk fun (w' : World) (h : IsAq w' g q) => show w'.rangeAt g (2 + a * 2) [.int .u64 0, .int .u64 (vA q a)] from At36.range h ha17
  have HOF := Shut.mk (of_any g q (a : Int) w hg hi hb)
  rw [ofA_v ha] at HOF
  have HV := Shut.mk (show 0 ≤ n ∧ n ≤ vA q a ∧ vA q a < 18446744073709551616 by have h2 := vA_le hi a; omega)
  generalize vA q a = x at *
  have y1 : IntKind.u64.wrap n = n := IntWalk.u64_in _ ⟨by omega, by omega⟩
  have ha0 : (0 : Int) ≤ (a : Int) := by omega
  have ha1 : (a : Int) < 17 := by omega
  have hl2 : ¬ x < n := by omega
  clear hg hi hb ha hn hn2 ha17 hp hc1 hc2 hl
  go_enter Tryd.func13, Tryd.ntmps13
  go_wp2_with (fail)
  refine HI.out.mono ?_
  rintro r w' ⟨rfl, rfl⟩
  go_wp2_with (fail)
  refine HF.out.mono ?_
  rintro r w' ⟨rfl, rfl⟩
  go_wp2_with (fail)
  refine HOF.out.mono ?_
  rintro r w2 ⟨rfl, hb⟩
  have hStart : Below w.heap.size w (World.drew w2) := hb.drew
  clear hb
  go_wp2_with (fail)
  refine wp_region_D (fun w' => Below w.heap.size w w') 15 (by kernel_rfl) hStart (fun hHeld hC => ?_)
  refine dP 0 hC hHeld ?_; clear hC; intro hC
  refine dP 1 hC hHeld ?_; clear hC; intro hC
  refine dP 2 hC hHeld ?_; clear hC; intro hC
  refine dP 3 hC hHeld ?_; clear hC; intro hC
  refine dP 4 hC hHeld ?_; clear hC; intro hC
  refine dP 5 hC hHeld ?_; clear hC; intro hC
  refine dP 6 hC hHeld ?_; clear hC; intro hC
  refine wpAnyD_take (i := 7) (v := .agg ([.int .u64 0, .int .u64 x]).toArray) 40 rfl (by kernel_rfl) hC (by kernel_rfl) (by kernel_rfl) (by kernel_rfl) (by decide) (fun _ _ _ h => h) (yieldsIf_load_mid (by rfl) 51 (.tmp 28) rfl g (2 + a * 2) rfl ([.int .u64 0, .int .u64 x]) _ (fun w' hSw => HR.out _ (HG.out.below hSw)) Tryd.underlying51 rfl sizeS) (fun _ => hHeld) ?_
  try simp only [Act.put, List.getElem_toArray, List.getElem_cons_zero, List.getElem_cons_succ, List.setIfInBounds_toArray, List.set_cons_zero, List.set_cons_succ]
  clear hC
  intro hC
  refine dP 8 hC hHeld ?_; clear hC; intro hC
  refine dP 9 hC hHeld ?_; clear hC; intro hC
  refine dP 10 hC hHeld ?_; clear hC; intro hC
  refine dP 12 hC hHeld ?_; clear hC; intro hC
  refine dP 13 hC hHeld ?_; clear hC; intro hC
  refine wpAnyD_one (i := 11) (by kernel_rfl) rfl hC (fun K hK => ?_)
  clear hC
  go_simp
  refine (minus_any x n _ HV.out.1 HV.out.2.1 HV.out.2.2).mono ?_
  rintro e' w1 ⟨rfl, hB⟩
  have hHeld2 := hHeld.trans (hB.mono hHeld.size)
  clear hB
  clear hHeld
  have hHeld := hHeld2
  clear hHeld2
  refine hK.out _ _ (fun _ => hHeld) (fun hC => ?_)
  clear hK K
  try simp only [Act.put, List.getElem_toArray, List.getElem_cons_zero, List.getElem_cons_succ, List.setIfInBounds_toArray, List.set_cons_zero, List.set_cons_succ]
  refine dP 14 hC hHeld ?_; clear hC; intro hC
  refine wpAnyD_one (i := 15) (by kernel_rfl) rfl hC (fun K hK => ?_)
  clear hC
  refine step_store_part rfl 51 (.tmp 36) (.tmp 33) rfl g (2 + a * 2) (.agg #[.int .u64 0, .int .u64 (x - n)]) rfl rfl 54 pre (s2 x) (s2 (x - n)) post (HC1.out _ (HG.out.below hHeld)) HPL.out rfl rfl sizeS (by simp [s2, Value.oneCell']) ?_
  have HX2 := Shut.mk (HC2.out _ (HG.out.below hHeld))
  have HO2 := Shut.mk (only_below (g := g) hHeld (pre ++ s2 (x - n) ++ post).toArray)
  generalize hq : World.setRow w1 g _ = w2 at *
  clear hq
  refine hK.out _ _ (past (by kernel_rfl)) (fun hC => ?_)
  clear hK K
  try simp only [Act.put, List.getElem_toArray, List.getElem_cons_zero, List.getElem_cons_succ, List.setIfInBounds_toArray, List.set_cons_zero, List.set_cons_succ]
  refine wpAnyD_done (by kernel_rfl) ?_ _
  try simp only [Act.put, List.getElem_toArray, List.getElem_cons_zero, List.getElem_cons_succ, List.setIfInBounds_toArray, List.set_cons_zero, List.set_cons_succ]
  clear hC hHeld
  go_wp2_with (fail)
  go_ret
  exact ⟨rfl, HX2.out, HO2.out⟩

/-! ### May -/
set_option maxRecDepth 100000 in
set_option maxHeartbeats 8000000 in
theorem may_1 (g : Nat) (q : Aq) (n st wh x : Int) (w : World) (hn : aidB n = true) (hst : st = q.st) (hwh : wh = q.wh) (hxo : x = ofA q n) (hx : x = 0) (hg : IsAq w g q) (hi : InvA q) (hb : allA q ≤ 4611686018427387904) :
    Calls Tryd.prog 16 #[.pointer (some ⟨g, 0, none⟩), .int .i64 n] w fun r w' => r = .returned (.bool (true)) ∧ Below w.heap.size w w' := by
  have HI := Shut.mk (is_any_a n w)
  rw [hn] at HI
  have HOF := Shut.mk (of_any g q n w hg hi hb)
  rw [← hxo] at HOF
  have HALL := Shut.mk fun (w' : World) (h : Below w.heap.size w w') => all_any g q w' (hg.below h) hi hb
  have HST := Shut.mk fun (w' : World) (h : Below w.heap.size w w') => show w'.cell? ⟨g, 0, none⟩ = some (.int .i64 st) by rw [hst]; exact At36.st (hg.below h)
  have HWH := Shut.mk fun (w' : World) (h : Below w.heap.size w w') => show w'.cell? ⟨g, 1, none⟩ = some (.int .i64 wh) by rw [hwh]; exact At36.wh (hg.below h)
  generalize allA q = al at *
  clear hn hst hwh hxo hg hi hb
  subst hx
  go_enter Tryd.func16, Tryd.ntmps16
  go_wp2_with (fail)
  refine HI.out.mono ?_
  rintro r w' ⟨rfl, rfl⟩
  go_wp2_with (fail)
  refine HOF.out.mono ?_
  rintro r w2 ⟨rfl, hb⟩
  have HB2 := Shut.mk hb
  clear hb
  go_wp2_with (fail)
  refine wp_region_held_drew (S := fun w' => Below w2.heap.size w2 w') (by kernel_rfl) (Below.refl _ _).drew (fun hHeld => ?_)
  generalize World.drew w2 = w5 at *
  have HZ5 := Lib.hid hHeld
  refine wpAnyH_take (i := 0) (v := ?_) rfl (by kernel_rfl) (by kernel_rfl) (by kernel_rfl) (fun _ _ _ h => h) (Or.inl ⟨by rfl, ?_⟩) (by assumption) ?_
  rotate_left
  · intro w hSw
    clear hSw
    go_simp
    try with_reducible rfl
  try simp only [Act.put, List.getElem_toArray, List.getElem_cons_zero, List.getElem_cons_succ, List.setIfInBounds_toArray, List.set_cons_zero, List.set_cons_succ]
  refine wpAnyH_take (i := 1) (v := ?_) rfl (by kernel_rfl) (by kernel_rfl) (by kernel_rfl) (fun _ _ _ h => h) (Or.inl ⟨by rfl, ?_⟩) (by assumption) ?_
  rotate_left
  · intro w hSw
    clear hSw
    go_simp
    try with_reducible rfl
  try simp only [Act.put, List.getElem_toArray, List.getElem_cons_zero, List.getElem_cons_succ, List.setIfInBounds_toArray, List.set_cons_zero, List.set_cons_succ]
  refine wpAnyH_take (i := 2) (v := ?_) rfl (by kernel_rfl) (by kernel_rfl) (by kernel_rfl) (fun _ _ _ h => h) (Or.inl ⟨by rfl, ?_⟩) (by assumption) ?_
  rotate_left
  · intro w hSw
    clear hSw
    go_simp
    try with_reducible rfl
  try simp only [Act.put, List.getElem_toArray, List.getElem_cons_zero, List.getElem_cons_succ, List.setIfInBounds_toArray, List.set_cons_zero, List.set_cons_succ]
  refine wpAnyH_take (i := 3) (v := undef) rfl (by kernel_rfl) (by kernel_rfl) (by kernel_rfl) (fun _ _ _ h => h) (Or.inr ⟨by rfl, rfl⟩) (by assumption) ?_
  try simp only [Act.put, List.getElem_toArray, List.getElem_cons_zero, List.getElem_cons_succ, List.setIfInBounds_toArray, List.set_cons_zero, List.set_cons_succ]
  refine wpAnyH_take (i := 4) (v := undef) rfl (by kernel_rfl) (by kernel_rfl) (by kernel_rfl) (fun _ _ _ h => h) (Or.inr ⟨by rfl, rfl⟩) (by assumption) ?_
  try simp only [Act.put, List.getElem_toArray, List.getElem_cons_zero, List.getElem_cons_succ, List.setIfInBounds_toArray, List.set_cons_zero, List.set_cons_succ]
  refine wpAnyH_take (i := 5) (v := undef) rfl (by kernel_rfl) (by kernel_rfl) (by kernel_rfl) (fun _ _ _ h => h) (Or.inr ⟨by rfl, rfl⟩) (by assumption) ?_
  try simp only [Act.put, List.getElem_toArray, List.getElem_cons_zero, List.getElem_cons_succ, List.setIfInBounds_toArray, List.set_cons_zero, List.set_cons_succ]
  refine wpAnyH_take (i := 6) (v := undef) rfl (by kernel_rfl) (by kernel_rfl) (by kernel_rfl) (fun _ _ _ h => h) (Or.inr ⟨by rfl, rfl⟩) (by assumption) ?_
  try simp only [Act.put, List.getElem_toArray, List.getElem_cons_zero, List.getElem_cons_succ, List.setIfInBounds_toArray, List.set_cons_zero, List.set_cons_succ]
  refine wpAnyH_take (i := 7) (v := undef) rfl (by kernel_rfl) (by kernel_rfl) (by kernel_rfl) (fun _ _ _ h => h) (Or.inr ⟨by rfl, rfl⟩) (by assumption) ?_
  try simp only [Act.put, List.getElem_toArray, List.getElem_cons_zero, List.getElem_cons_succ, List.setIfInBounds_toArray, List.set_cons_zero, List.set_cons_succ]
  refine wpAnyH_take (i := 8) (v := undef) rfl (by kernel_rfl) (by kernel_rfl) (by kernel_rfl) (fun _ _ _ h => h) (Or.inr ⟨by rfl, rfl⟩) (by assumption) ?_
  try simp only [Act.put, List.getElem_toArray, List.getElem_cons_zero, List.getElem_cons_succ, List.setIfInBounds_toArray, List.set_cons_zero, List.set_cons_succ]
  refine wpAnyH_take (i := 9) (v := undef) rfl (by kernel_rfl) (by kernel_rfl) (by kernel_rfl) (fun _ _ _ h => h) (Or.inr ⟨by rfl, rfl⟩) (by assumption) ?_
  try simp only [Act.put, List.getElem_toArray, List.getElem_cons_zero, List.getElem_cons_succ, List.setIfInBounds_toArray, List.set_cons_zero, List.set_cons_succ]
  refine wpAnyH_take (i := 10) (v := undef) rfl (by kernel_rfl) (by kernel_rfl) (by kernel_rfl) (fun _ _ _ h => h) (Or.inr ⟨by rfl, rfl⟩) (by assumption) ?_
  try simp only [Act.put, List.getElem_toArray, List.getElem_cons_zero, List.getElem_cons_succ, List.setIfInBounds_toArray, List.set_cons_zero, List.set_cons_succ]
  refine wpAnyH_take (i := 11) (v := undef) rfl (by kernel_rfl) (by kernel_rfl) (by kernel_rfl) (fun _ _ _ h => h) (Or.inr ⟨by rfl, rfl⟩) (by assumption) ?_
  try simp only [Act.put, List.getElem_toArray, List.getElem_cons_zero, List.getElem_cons_succ, List.setIfInBounds_toArray, List.set_cons_zero, List.set_cons_succ]
  refine wpAnyH_take (i := 12) (v := undef) rfl (by kernel_rfl) (by kernel_rfl) (by kernel_rfl) (fun _ _ _ h => h) (Or.inr ⟨by rfl, rfl⟩) (by assumption) ?_
  try simp only [Act.put, List.getElem_toArray, List.getElem_cons_zero, List.getElem_cons_succ, List.setIfInBounds_toArray, List.set_cons_zero, List.set_cons_succ]
  refine wpAnyH_take (i := 13) (v := undef) rfl (by kernel_rfl) (by kernel_rfl) (by kernel_rfl) (fun _ _ _ h => h) (Or.inr ⟨by rfl, rfl⟩) (by assumption) ?_
  try simp only [Act.put, List.getElem_toArray, List.getElem_cons_zero, List.getElem_cons_succ, List.setIfInBounds_toArray, List.set_cons_zero, List.set_cons_succ]
  refine wpAnyH_take (i := 14) (v := undef) rfl (by kernel_rfl) (by kernel_rfl) (by kernel_rfl) (fun _ _ _ h => h) (Or.inr ⟨by rfl, rfl⟩) (by assumption) ?_
  try simp only [Act.put, List.getElem_toArray, List.getElem_cons_zero, List.getElem_cons_succ, List.setIfInBounds_toArray, List.set_cons_zero, List.set_cons_succ]
  refine wpAnyH_take (i := 15) (v := undef) rfl (by kernel_rfl) (by kernel_rfl) (by kernel_rfl) (fun _ _ _ h => h) (Or.inr ⟨by rfl, rfl⟩) (by assumption) ?_
  try simp only [Act.put, List.getElem_toArray, List.getElem_cons_zero, List.getElem_cons_succ, List.setIfInBounds_toArray, List.set_cons_zero, List.set_cons_succ]
  refine wpAnyH_take (i := 16) (v := undef) rfl (by kernel_rfl) (by kernel_rfl) (by kernel_rfl) (fun _ _ _ h => h) (Or.inr ⟨by rfl, rfl⟩) (by assumption) ?_
  try simp only [Act.put, List.getElem_toArray, List.getElem_cons_zero, List.getElem_cons_succ, List.setIfInBounds_toArray, List.set_cons_zero, List.set_cons_succ]
  refine wpAnyH_take (i := 17) (v := undef) rfl (by kernel_rfl) (by kernel_rfl) (by kernel_rfl) (fun _ _ _ h => h) (Or.inr ⟨by rfl, rfl⟩) (by assumption) ?_
  try simp only [Act.put, List.getElem_toArray, List.getElem_cons_zero, List.getElem_cons_succ, List.setIfInBounds_toArray, List.set_cons_zero, List.set_cons_succ]
  refine wpAnyH_take (i := 18) (v := ?_) rfl (by kernel_rfl) (by kernel_rfl) (by kernel_rfl) (fun _ _ _ h => h) (Or.inl ⟨by rfl, ?_⟩) (by assumption) ?_
  rotate_left
  · intro w hSw
    clear hSw
    go_simp
    try with_reducible rfl
  try simp only [Act.put, List.getElem_toArray, List.getElem_cons_zero, List.getElem_cons_succ, List.setIfInBounds_toArray, List.set_cons_zero, List.set_cons_succ]
  refine wpAnyH_take (i := 19) (v := ?_) rfl (by kernel_rfl) (by kernel_rfl) (by kernel_rfl) (fun _ _ _ h => h) (Or.inl ⟨by rfl, ?_⟩) (by assumption) ?_
  rotate_left
  · intro w hSw
    clear hSw
    go_simp
    try with_reducible rfl
  try simp only [Act.put, List.getElem_toArray, List.getElem_cons_zero, List.getElem_cons_succ, List.setIfInBounds_toArray, List.set_cons_zero, List.set_cons_succ]
  refine wpAnyH_done (by kernel_rfl) ?_ _
  try simp only [Act.put, List.getElem_toArray, List.getElem_cons_zero, List.getElem_cons_succ, List.setIfInBounds_toArray, List.set_cons_zero, List.set_cons_succ]
  go_wp2_with (fail)
  go_ret
  exact ⟨rfl, HB2.out.trans (HZ5.out.mono HB2.out.size)⟩
set_option maxRecDepth 100000 in
set_option maxHeartbeats 8000000 in
theorem may_2 (g : Nat) (q : Aq) (n st wh x : Int) (w : World) (hn : aidB n = true) (hst : st = q.st) (hwh : wh = q.wh) (hxo : x = ofA q n) (hx : x ≠ 0) (hl : ¬ x < st) (hg : IsAq w g q) (hi : InvA q) (hb : allA q ≤ 4611686018427387904) :
    Calls Tryd.prog 16 #[.pointer (some ⟨g, 0, none⟩), .int .i64 n] w fun r w' => r = .returned (.bool (false)) ∧ Below w.heap.size w w' := by
  have HI := Shut.mk (is_any_a n w)
  rw [hn] at HI
  have HOF := Shut.mk (of_any g q n w hg hi hb)
  rw [← hxo] at HOF
  have HALL := Shut.mk fun (w' : World) (h : Below w.heap.size w w') => all_any g q w' (hg.below h) hi hb
  have HST := Shut.mk fun (w' : World) (h : Below w.heap.size w w') => show w'.cell? ⟨g, 0, none⟩ = some (.int .i64 st) by rw [hst]; exact At36.st (hg.below h)
  have HWH := Shut.mk fun (w' : World) (h : Below w.heap.size w w') => show w'.cell? ⟨g, 1, none⟩ = some (.int .i64 wh) by rw [hwh]; exact At36.wh (hg.below h)
  generalize allA q = al at *
  clear hn hst hwh hxo hg hi hb
  have e1 : (x == 0) = false := by simpa using hx
  have e2 : decide (x < st) = false := by simpa using hl
  clear hx hl
  go_enter Tryd.func16, Tryd.ntmps16
  go_wp2_with (fail)
  refine HI.out.mono ?_
  rintro r w' ⟨rfl, rfl⟩
  go_wp2_with (fail)
  refine HOF.out.mono ?_
  rintro r w2 ⟨rfl, hb⟩
  have HB2 := Shut.mk hb
  clear hb
  go_wp2_with (fail)
  refine wp_region_held_drew (S := fun w' => Below w2.heap.size w2 w') (by kernel_rfl) (Below.refl _ _).drew (fun hHeld => ?_)
  generalize World.drew w2 = w5 at *
  have HZ5 := Lib.hid hHeld
  refine wpAnyH_take (i := 0) (v := ?_) rfl (by kernel_rfl) (by kernel_rfl) (by kernel_rfl) (fun _ _ _ h => h) (Or.inl ⟨by rfl, ?_⟩) (by assumption) ?_
  rotate_left
  · intro w hSw
    clear hSw
    go_simp
    try with_reducible rfl
  try simp only [Act.put, List.getElem_toArray, List.getElem_cons_zero, List.getElem_cons_succ, List.setIfInBounds_toArray, List.set_cons_zero, List.set_cons_succ]
  refine wpAnyH_take (i := 1) (v := ?_) rfl (by kernel_rfl) (by kernel_rfl) (by kernel_rfl) (fun _ _ _ h => h) (Or.inl ⟨by rfl, ?_⟩) (by assumption) ?_
  rotate_left
  · intro w hSw
    clear hSw
    go_simp
    try with_reducible rfl
  try simp only [Act.put, List.getElem_toArray, List.getElem_cons_zero, List.getElem_cons_succ, List.setIfInBounds_toArray, List.set_cons_zero, List.set_cons_succ]
  refine wpAnyH_take (i := 2) (v := ?_) rfl (by kernel_rfl) (by kernel_rfl) (by kernel_rfl) (fun _ _ _ h => h) (Or.inl ⟨by rfl, ?_⟩) (by assumption) ?_
  rotate_left
  · intro w hSw
    clear hSw
    go_simp
    try with_reducible rfl
  try simp only [Act.put, List.getElem_toArray, List.getElem_cons_zero, List.getElem_cons_succ, List.setIfInBounds_toArray, List.set_cons_zero, List.set_cons_succ]
  refine wpAnyH_take (i := 3) (v := ?_) rfl (by kernel_rfl) (by kernel_rfl) (by kernel_rfl) (fun _ _ _ h => h) (Or.inl ⟨by rfl, ?_⟩) (by assumption) ?_
  rotate_left
  · intro w hSw
    clear hSw
    go_simp
    try with_reducible rfl
  try simp only [Act.put, List.getElem_toArray, List.getElem_cons_zero, List.getElem_cons_succ, List.setIfInBounds_toArray, List.set_cons_zero, List.set_cons_succ]
  refine wpAnyH_take (i := 4) (v := ?_) rfl (by kernel_rfl) (by kernel_rfl) (by kernel_rfl) (fun _ _ _ h => h) (Or.inl ⟨by rfl, ?_⟩) (by assumption) ?_
  rotate_left
  · intro w hSw
    clear hSw
    go_simp
    try with_reducible rfl
  try simp only [Act.put, List.getElem_toArray, List.getElem_cons_zero, List.getElem_cons_succ, List.setIfInBounds_toArray, List.set_cons_zero, List.set_cons_succ]
  refine wpAnyH_take (i := 5) (v := ?_) rfl (by kernel_rfl) (by kernel_rfl) (by kernel_rfl) (fun _ _ _ h => h) (Or.inl ⟨by rfl, ?_⟩) (by assumption) ?_
  rotate_left
  · intro w hSw
    clear hSw
    go_simp
    try with_reducible rfl
  try simp only [Act.put, List.getElem_toArray, List.getElem_cons_zero, List.getElem_cons_succ, List.setIfInBounds_toArray, List.set_cons_zero, List.set_cons_succ]
  refine wpAnyH_take (i := 6) (v := ?_) rfl (by kernel_rfl) (by kernel_rfl) (by kernel_rfl) (fun _ _ _ h => h) (Or.inl ⟨by rfl, ?_⟩) (by assumption) ?_
  rotate_left
  · intro w hSw
    clear hSw
    go_simp
    try with_reducible rfl
  try simp only [Act.put, List.getElem_toArray, List.getElem_cons_zero, List.getElem_cons_succ, List.setIfInBounds_toArray, List.set_cons_zero, List.set_cons_succ]
  refine wpAnyH_take (i := 7) (v := ?_) rfl (by kernel_rfl) (by kernel_rfl) (by kernel_rfl) (fun _ _ _ h => h) (Or.inl ⟨by rfl, ?_⟩) (by assumption) ?_
  rotate_left
  · intro w hSw
    have c := HST.out _ (HB2.out.trans (hSw.mono HB2.out.size))
    clear hSw
    go_simp
    try with_reducible rfl
  try simp only [Act.put, List.getElem_toArray, List.getElem_cons_zero, List.getElem_cons_succ, List.setIfInBounds_toArray, List.set_cons_zero, List.set_cons_succ]
  refine wpAnyH_take (i := 8) (v := ?_) rfl (by kernel_rfl) (by kernel_rfl) (by kernel_rfl) (fun _ _ _ h => h) (Or.inl ⟨by rfl, ?_⟩) (by assumption) ?_
  rotate_left
  · intro w hSw
    clear hSw
    go_simp
    try with_reducible rfl
  try simp only [Act.put, List.getElem_toArray, List.getElem_cons_zero, List.getElem_cons_succ, List.setIfInBounds_toArray, List.set_cons_zero, List.set_cons_succ]
  refine wpAnyH_take (i := 9) (v := ?_) rfl (by kernel_rfl) (by kernel_rfl) (by kernel_rfl) (fun _ _ _ h => h) (Or.inl ⟨by rfl, ?_⟩) (by assumption) ?_
  rotate_left
  · intro w hSw
    clear hSw
    go_simp
    try with_reducible rfl
  try simp only [Act.put, List.getElem_toArray, List.getElem_cons_zero, List.getElem_cons_succ, List.setIfInBounds_toArray, List.set_cons_zero, List.set_cons_succ]
  refine wpAnyH_take (i := 10) (v := undef) rfl (by kernel_rfl) (by kernel_rfl) (by kernel_rfl) (fun _ _ _ h => h) (Or.inr ⟨by rfl, rfl⟩) (by assumption) ?_
  try simp only [Act.put, List.getElem_toArray, List.getElem_cons_zero, List.getElem_cons_succ, List.setIfInBounds_toArray, List.set_cons_zero, List.set_cons_succ]
  refine wpAnyH_take (i := 11) (v := undef) rfl (by kernel_rfl) (by kernel_rfl) (by kernel_rfl) (fun _ _ _ h => h) (Or.inr ⟨by rfl, rfl⟩) (by assumption) ?_
  try simp only [Act.put, List.getElem_toArray, List.getElem_cons_zero, List.getElem_cons_succ, List.setIfInBounds_toArray, List.set_cons_zero, List.set_cons_succ]
  refine wpAnyH_take (i := 12) (v := undef) rfl (by kernel_rfl) (by kernel_rfl) (by kernel_rfl) (fun _ _ _ h => h) (Or.inr ⟨by rfl, rfl⟩) (by assumption) ?_
  try simp only [Act.put, List.getElem_toArray, List.getElem_cons_zero, List.getElem_cons_succ, List.setIfInBounds_toArray, List.set_cons_zero, List.set_cons_succ]
  refine wpAnyH_take (i := 13) (v := undef) rfl (by kernel_rfl) (by kernel_rfl) (by kernel_rfl) (fun _ _ _ h => h) (Or.inr ⟨by rfl, rfl⟩) (by assumption) ?_
  try simp only [Act.put, List.getElem_toArray, List.getElem_cons_zero, List.getElem_cons_succ, List.setIfInBounds_toArray, List.set_cons_zero, List.set_cons_succ]
  refine wpAnyH_take (i := 14) (v := undef) rfl (by kernel_rfl) (by kernel_rfl) (by kernel_rfl) (fun _ _ _ h => h) (Or.inr ⟨by rfl, rfl⟩) (by assumption) ?_
  try simp only [Act.put, List.getElem_toArray, List.getElem_cons_zero, List.getElem_cons_succ, List.setIfInBounds_toArray, List.set_cons_zero, List.set_cons_succ]
  refine wpAnyH_take (i := 15) (v := undef) rfl (by kernel_rfl) (by kernel_rfl) (by kernel_rfl) (fun _ _ _ h => h) (Or.inr ⟨by rfl, rfl⟩) (by assumption) ?_
  try simp only [Act.put, List.getElem_toArray, List.getElem_cons_zero, List.getElem_cons_succ, List.setIfInBounds_toArray, List.set_cons_zero, List.set_cons_succ]
  refine wpAnyH_take (i := 16) (v := undef) rfl (by kernel_rfl) (by kernel_rfl) (by kernel_rfl) (fun _ _ _ h => h) (Or.inr ⟨by rfl, rfl⟩) (by assumption) ?_
  try simp only [Act.put, List.getElem_toArray, List.getElem_cons_zero, List.getElem_cons_succ, List.setIfInBounds_toArray, List.set_cons_zero, List.set_cons_succ]
  refine wpAnyH_take (i := 17) (v := ?_) rfl (by kernel_rfl) (by kernel_rfl) (by kernel_rfl) (fun _ _ _ h => h) (Or.inl ⟨by rfl, ?_⟩) (by assumption) ?_
  rotate_left
  · intro w hSw
    clear hSw
    go_simp
    try with_reducible rfl
  try simp only [Act.put, List.getElem_toArray, List.getElem_cons_zero, List.getElem_cons_succ, List.setIfInBounds_toArray, List.set_cons_zero, List.set_cons_succ]
  refine wpAnyH_take (i := 18) (v := ?_) rfl (by kernel_rfl) (by kernel_rfl) (by kernel_rfl) (fun _ _ _ h => h) (Or.inl ⟨by rfl, ?_⟩) (by assumption) ?_
  rotate_left
  · intro w hSw
    clear hSw
    go_simp
    try with_reducible rfl
  try simp only [Act.put, List.getElem_toArray, List.getElem_cons_zero, List.getElem_cons_succ, List.setIfInBounds_toArray, List.set_cons_zero, List.set_cons_succ]
  refine wpAnyH_take (i := 19) (v := ?_) rfl (by kernel_rfl) (by kernel_rfl) (by kernel_rfl) (fun _ _ _ h => h) (Or.inl ⟨by rfl, ?_⟩) (by assumption) ?_
  rotate_left
  · intro w hSw
    clear hSw
    go_simp
    try with_reducible rfl
  try simp only [Act.put, List.getElem_toArray, List.getElem_cons_zero, List.getElem_cons_succ, List.setIfInBounds_toArray, List.set_cons_zero, List.set_cons_succ]
  refine wpAnyH_done (by kernel_rfl) ?_ _
  try simp only [Act.put, List.getElem_toArray, List.getElem_cons_zero, List.getElem_cons_succ, List.setIfInBounds_toArray, List.set_cons_zero, List.set_cons_succ]
  go_wp2_with (fail)
  go_ret
  exact ⟨rfl, HB2.out.trans (HZ5.out.mono HB2.out.size)⟩
set_option maxRecDepth 100000 in
set_option maxHeartbeats 8000000 in
theorem may_3 (g : Nat) (q : Aq) (n st wh x : Int) (w : World) (hn : aidB n = true) (hst : st = q.st) (hwh : wh = q.wh) (hxo : x = ofA q n) (hx : x ≠ 0) (hl : x < st) (hg : IsAq w g q) (hi : InvA q) (hb : allA q ≤ 4611686018427387904) :
    Calls Tryd.prog 16 #[.pointer (some ⟨g, 0, none⟩), .int .i64 n] w fun r w' => r = .returned (.bool (decide (allA q < wh))) ∧ Below w.heap.size w w' := by
  have HI := Shut.mk (is_any_a n w)
  rw [hn] at HI
  have HOF := Shut.mk (of_any g q n w hg hi hb)
  rw [← hxo] at HOF
  have HALL := Shut.mk fun (w' : World) (h : Below w.heap.size w w') => all_any g q w' (hg.below h) hi hb
  have HST := Shut.mk fun (w' : World) (h : Below w.heap.size w w') => show w'.cell? ⟨g, 0, none⟩ = some (.int .i64 st) by rw [hst]; exact At36.st (hg.below h)
  have HWH := Shut.mk fun (w' : World) (h : Below w.heap.size w w') => show w'.cell? ⟨g, 1, none⟩ = some (.int .i64 wh) by rw [hwh]; exact At36.wh (hg.below h)
  generalize allA q = al at *
  clear hn hst hwh hxo hg hi hb
  have e1 : (x == 0) = false := by simpa using hx
  have e2 : decide (x < st) = true := by simpa using hl
  clear hx hl
  go_enter Tryd.func16, Tryd.ntmps16
  go_wp2_with (fail)
  refine HI.out.mono ?_
  rintro r w' ⟨rfl, rfl⟩
  go_wp2_with (fail)
  refine HOF.out.mono ?_
  rintro r w2 ⟨rfl, hb⟩
  have HB2 := Shut.mk hb
  clear hb
  go_wp2_with (fail)
  refine wp_region_held_drew (S := fun w' => Below w2.heap.size w2 w') (by kernel_rfl) (Below.refl _ _).drew (fun hHeld => ?_)
  generalize World.drew w2 = w5 at *
  have HZ5 := Lib.hid hHeld
  refine wpAnyH_take (i := 0) (v := ?_) rfl (by kernel_rfl) (by kernel_rfl) (by kernel_rfl) (fun _ _ _ h => h) (Or.inl ⟨by rfl, ?_⟩) (by assumption) ?_
  rotate_left
  · intro w hSw
    clear hSw
    go_simp
    try with_reducible rfl
  try simp only [Act.put, List.getElem_toArray, List.getElem_cons_zero, List.getElem_cons_succ, List.setIfInBounds_toArray, List.set_cons_zero, List.set_cons_succ]
  refine wpAnyH_take (i := 1) (v := ?_) rfl (by kernel_rfl) (by kernel_rfl) (by kernel_rfl) (fun _ _ _ h => h) (Or.inl ⟨by rfl, ?_⟩) (by assumption) ?_
  rotate_left
  · intro w hSw
    clear hSw
    go_simp
    try with_reducible rfl
  try simp only [Act.put, List.getElem_toArray, List.getElem_cons_zero, List.getElem_cons_succ, List.setIfInBounds_toArray, List.set_cons_zero, List.set_cons_succ]
  refine wpAnyH_take (i := 2) (v := ?_) rfl (by kernel_rfl) (by kernel_rfl) (by kernel_rfl) (fun _ _ _ h => h) (Or.inl ⟨by rfl, ?_⟩) (by assumption) ?_
  rotate_left
  · intro w hSw
    clear hSw
    go_simp
    try with_reducible rfl
  try simp only [Act.put, List.getElem_toArray, List.getElem_cons_zero, List.getElem_cons_succ, List.setIfInBounds_toArray, List.set_cons_zero, List.set_cons_succ]
  refine wpAnyH_take (i := 3) (v := ?_) rfl (by kernel_rfl) (by kernel_rfl) (by kernel_rfl) (fun _ _ _ h => h) (Or.inl ⟨by rfl, ?_⟩) (by assumption) ?_
  rotate_left
  · intro w hSw
    clear hSw
    go_simp
    try with_reducible rfl
  try simp only [Act.put, List.getElem_toArray, List.getElem_cons_zero, List.getElem_cons_succ, List.setIfInBounds_toArray, List.set_cons_zero, List.set_cons_succ]
  refine wpAnyH_take (i := 4) (v := ?_) rfl (by kernel_rfl) (by kernel_rfl) (by kernel_rfl) (fun _ _ _ h => h) (Or.inl ⟨by rfl, ?_⟩) (by assumption) ?_
  rotate_left
  · intro w hSw
    clear hSw
    go_simp
    try with_reducible rfl
  try simp only [Act.put, List.getElem_toArray, List.getElem_cons_zero, List.getElem_cons_succ, List.setIfInBounds_toArray, List.set_cons_zero, List.set_cons_succ]
  refine wpAnyH_take (i := 5) (v := ?_) rfl (by kernel_rfl) (by kernel_rfl) (by kernel_rfl) (fun _ _ _ h => h) (Or.inl ⟨by rfl, ?_⟩) (by assumption) ?_
  rotate_left
  · intro w hSw
    clear hSw
    go_simp
    try with_reducible rfl
  try simp only [Act.put, List.getElem_toArray, List.getElem_cons_zero, List.getElem_cons_succ, List.setIfInBounds_toArray, List.set_cons_zero, List.set_cons_succ]
  refine wpAnyH_take (i := 6) (v := ?_) rfl (by kernel_rfl) (by kernel_rfl) (by kernel_rfl) (fun _ _ _ h => h) (Or.inl ⟨by rfl, ?_⟩) (by assumption) ?_
  rotate_left
  · intro w hSw
    clear hSw
    go_simp
    try with_reducible rfl
  try simp only [Act.put, List.getElem_toArray, List.getElem_cons_zero, List.getElem_cons_succ, List.setIfInBounds_toArray, List.set_cons_zero, List.set_cons_succ]
  refine wpAnyH_take (i := 7) (v := ?_) rfl (by kernel_rfl) (by kernel_rfl) (by kernel_rfl) (fun _ _ _ h => h) (Or.inl ⟨by rfl, ?_⟩) (by assumption) ?_
  rotate_left
  · intro w hSw
    have c := HST.out _ (HB2.out.trans (hSw.mono HB2.out.size))
    clear hSw
    go_simp
    try with_reducible rfl
  try simp only [Act.put, List.getElem_toArray, List.getElem_cons_zero, List.getElem_cons_succ, List.setIfInBounds_toArray, List.set_cons_zero, List.set_cons_succ]
  refine wpAnyH_take (i := 8) (v := ?_) rfl (by kernel_rfl) (by kernel_rfl) (by kernel_rfl) (fun _ _ _ h => h) (Or.inl ⟨by rfl, ?_⟩) (by assumption) ?_
  rotate_left
  · intro w hSw
    clear hSw
    go_simp
    try with_reducible rfl
  try simp only [Act.put, List.getElem_toArray, List.getElem_cons_zero, List.getElem_cons_succ, List.setIfInBounds_toArray, List.set_cons_zero, List.set_cons_succ]
  refine wpAnyH_take (i := 9) (v := ?_) rfl (by kernel_rfl) (by kernel_rfl) (by kernel_rfl) (fun _ _ _ h => h) (Or.inl ⟨by rfl, ?_⟩) (by assumption) ?_
  rotate_left
  · intro w hSw
    clear hSw
    go_simp
    try with_reducible rfl
  try simp only [Act.put, List.getElem_toArray, List.getElem_cons_zero, List.getElem_cons_succ, List.setIfInBounds_toArray, List.set_cons_zero, List.set_cons_succ]
  refine wpAnyH_take (i := 10) (v := ?_) rfl (by kernel_rfl) (by kernel_rfl) (by kernel_rfl) (fun _ _ _ h => h) (Or.inl ⟨by rfl, ?_⟩) (by assumption) ?_
  rotate_left
  · intro w hSw
    clear hSw
    go_simp
    try with_reducible rfl
  try simp only [Act.put, List.getElem_toArray, List.getElem_cons_zero, List.getElem_cons_succ, List.setIfInBounds_toArray, List.set_cons_zero, List.set_cons_succ]
  refine wpAnyH_take (i := 12) (v := ?_) rfl (by kernel_rfl) (by kernel_rfl) (by kernel_rfl) (fun _ _ _ h => h) (Or.inl ⟨by rfl, ?_⟩) (by assumption) ?_
  rotate_left
  · intro w hSw
    clear hSw
    go_simp
    try with_reducible rfl
  try simp only [Act.put, List.getElem_toArray, List.getElem_cons_zero, List.getElem_cons_succ, List.setIfInBounds_toArray, List.set_cons_zero, List.set_cons_succ]
  refine wpAnyH_take (i := 13) (v := ?_) rfl (by kernel_rfl) (by kernel_rfl) (by kernel_rfl) (fun _ _ _ h => h) (Or.inl ⟨by rfl, ?_⟩) (by assumption) ?_
  rotate_left
  · intro w hSw
    clear hSw
    go_simp
    try with_reducible rfl
  try simp only [Act.put, List.getElem_toArray, List.getElem_cons_zero, List.getElem_cons_succ, List.setIfInBounds_toArray, List.set_cons_zero, List.set_cons_succ]
  refine wpAnyH_take (i := 14) (v := ?_) rfl (by kernel_rfl) (by kernel_rfl) (by kernel_rfl) (fun _ _ _ h => h) (Or.inl ⟨by rfl, ?_⟩) (by assumption) ?_
  rotate_left
  · intro w hSw
    clear hSw
    go_simp
    try with_reducible rfl
  try simp only [Act.put, List.getElem_toArray, List.getElem_cons_zero, List.getElem_cons_succ, List.setIfInBounds_toArray, List.set_cons_zero, List.set_cons_succ]
  refine wpAnyH_take (i := 15) (v := ?_) rfl (by kernel_rfl) (by kernel_rfl) (by kernel_rfl) (fun _ _ _ h => h) (Or.inl ⟨by rfl, ?_⟩) (by assumption) ?_
  rotate_left
  · intro w hSw
    have c := HWH.out _ (HB2.out.trans (hSw.mono HB2.out.size))
    clear hSw
    go_simp
    try with_reducible rfl
  try simp only [Act.put, List.getElem_toArray, List.getElem_cons_zero, List.getElem_cons_succ, List.setIfInBounds_toArray, List.set_cons_zero, List.set_cons_succ]
  refine wpAnyH_ready (rs := [11]) (by kernel_rfl) (by simp) ?_
  refine AllReadyH.cons rfl (fun K hK => ?_) AllReadyH.nil
  go_simp
  refine (HALL.out w5 (HB2.out.trans (HZ5.out.mono HB2.out.size))).mono ?_
  rintro e' w6 ⟨rfl, hb⟩
  have HZ6 := Lib.hid (HZ5.out.trans (hb.mono HZ5.out.size))
  clear hb hHeld HZ5
  refine hK.out _ _ HZ6.out (fun hHeld => ?_)
  clear hK K
  try simp only [Act.put, List.getElem_toArray, List.getElem_cons_zero, List.getElem_cons_succ, List.setIfInBounds_toArray, List.set_cons_zero, List.set_cons_succ]
  refine wpAnyH_take (i := 16) (v := ?_) rfl (by kernel_rfl) (by kernel_rfl) (by kernel_rfl) (fun _ _ _ h => h) (Or.inl ⟨by rfl, ?_⟩) (by assumption) ?_
  rotate_left
  · intro w hSw
    clear hSw
    go_simp
    try with_reducible rfl
  try simp only [Act.put, List.getElem_toArray, List.getElem_cons_zero, List.getElem_cons_succ, List.setIfInBounds_toArray, List.set_cons_zero, List.set_cons_succ]
  refine wpAnyH_take (i := 17) (v := ?_) rfl (by kernel_rfl) (by kernel_rfl) (by kernel_rfl) (fun _ _ _ h => h) (Or.inl ⟨by rfl, ?_⟩) (by assumption) ?_
  rotate_left
  · intro w hSw
    clear hSw
    go_simp
    try with_reducible rfl
  try simp only [Act.put, List.getElem_toArray, List.getElem_cons_zero, List.getElem_cons_succ, List.setIfInBounds_toArray, List.set_cons_zero, List.set_cons_succ]
  refine wpAnyH_take (i := 18) (v := ?_) rfl (by kernel_rfl) (by kernel_rfl) (by kernel_rfl) (fun _ _ _ h => h) (Or.inl ⟨by rfl, ?_⟩) (by assumption) ?_
  rotate_left
  · intro w hSw
    clear hSw
    go_simp
    try with_reducible rfl
  try simp only [Act.put, List.getElem_toArray, List.getElem_cons_zero, List.getElem_cons_succ, List.setIfInBounds_toArray, List.set_cons_zero, List.set_cons_succ]
  refine wpAnyH_take (i := 19) (v := ?_) rfl (by kernel_rfl) (by kernel_rfl) (by kernel_rfl) (fun _ _ _ h => h) (Or.inl ⟨by rfl, ?_⟩) (by assumption) ?_
  rotate_left
  · intro w hSw
    clear hSw
    go_simp
    try with_reducible rfl
  try simp only [Act.put, List.getElem_toArray, List.getElem_cons_zero, List.getElem_cons_succ, List.setIfInBounds_toArray, List.set_cons_zero, List.set_cons_succ]
  refine wpAnyH_done (by kernel_rfl) ?_ _
  try simp only [Act.put, List.getElem_toArray, List.getElem_cons_zero, List.getElem_cons_succ, List.setIfInBounds_toArray, List.set_cons_zero, List.set_cons_succ]
  go_wp2_with (fail)
  go_ret
  exact ⟨rfl, HB2.out.trans (HZ6.out.mono HB2.out.size)⟩
set_option maxRecDepth 100000 in
set_option maxHeartbeats 8000000 in
theorem may_any (g : Nat) (q : Aq) (n : Int) (w : World) (hg : IsAq w g q) (hi : InvA q) (hb : allA q ≤ 4611686018427387904) :
    Calls Tryd.prog 16 #[.pointer (some ⟨g, 0, none⟩), .int .i64 n] w fun r w' => r = .returned (.bool (mayA q n)) ∧ Below w.heap.size w w' := by
  by_cases hn : aidB n = true
  · by_cases hx : ofA q n = 0
    · rw [show mayA q n = true by unfold mayA; rw [hn]; simp [hx]]
      exact may_1 g q n _ _ _ w hn rfl rfl rfl hx hg hi hb
    · by_cases hl : ofA q n < q.st
      · rw [show mayA q n = decide (allA q < q.wh) by unfold mayA; rw [hn]; simp [hx, hl]]
        exact may_3 g q n _ _ _ w hn rfl rfl rfl hx hl hg hi hb
      · rw [show mayA q n = false by unfold mayA; rw [hn]; simp [hx, hl]]
        exact may_2 g q n _ _ _ w hn rfl rfl rfl hx hl hg hi hb
  · have hn' : aidB n = false := by simpa using hn
    rw [show mayA q n = false by unfold mayA; rw [hn']; rfl]
    have HI := Shut.mk (is_any_a n w)
    rw [hn'] at HI
    clear hg hi hb hn hn'
    go_enter Tryd.func16, Tryd.ntmps16
    go_wp2_with (fail)
    refine HI.out.mono ?_
    rintro r w' ⟨rfl, rfl⟩
    go_wp2_with (fail)
    go_ret
    exact ⟨rfl, Below.refl _ _⟩

/-! ### Add and Sub of whatever station, whatever air -/
theorem bools {a b : Bool} (h : ¬ (a = true ∧ b = true)) : a = false ∨ b = false := by cases a <;> cases b <;> simp_all
theorem add_any {S : List Nat} (g : Nat) (q : Aq) (a n : Int) (w : World) (E : Nat → Addr) (hS : Sent w E S) (h3 : 103 ∈ S) (hg : IsAq w g q) (hi : InvA q) (hb : allA q ≤ 4611686018427387904) :
    Calls Tryd.prog 11 #[.pointer (some ⟨g, 0, none⟩), .int .i64 a, .int .i64 n] w fun r w' => r = .returned (errV E (addA q a n).2) ∧ IsAq w' g (addA q a n).1 ∧ Only (· = g) w w' := by
  unfold addA
  by_cases h : aidB a = true ∧ airB n = true
  · rw [if_pos h]
    obtain ⟨k, rfl, -, -⟩ := ints_in h.1
    rw [ofA_v h.1]
    exact add_in g q k n w hg hi hb h.1 h.2
  · rw [if_neg h]
    exact (add_no g a n w E (hS.at_ 103 h3) (bools h)).mono fun _ _ ⟨h1, h2⟩ => ⟨h1, h2 ▸ hg, h2 ▸ Only.refl _ _⟩
theorem sub_any {S : List Nat} (g : Nat) (q : Aq) (a n : Int) (w : World) (E : Nat → Addr) (hS : Sent w E S) (h3 : 103 ∈ S) (h10 : 110 ∈ S) (hg : IsAq w g q) (hi : InvA q) (hb : allA q ≤ 4611686018427387904) :
    Calls Tryd.prog 13 #[.pointer (some ⟨g, 0, none⟩), .int .i64 a, .int .i64 n] w fun r w' => r = .returned (errV E (subA q a n).2) ∧ IsAq w' g (subA q a n).1 ∧ Only (· = g) w w' := by
  unfold subA
  by_cases h : aidB a = true ∧ airB n = true
  · rw [if_pos h]
    obtain ⟨k, rfl, -, -⟩ := ints_in h.1
    rw [ofA_v h.1]
    by_cases hl : vA q k < n
    · rw [if_pos hl]
      exact (sub_less g q k n w E (hS.at_ 110 h10) hg hi hb h.1 h.2 hl).mono fun _ _ ⟨h1, h2⟩ => ⟨h1, hg.below h2, Only.of_quiet h2⟩
    · rw [if_neg hl]
      exact sub_in g q k n w hg hi hb h.1 h.2 (by omega)
  · rw [if_neg h]
    exact (sub_no g a n w E (hS.at_ 103 h3) (bools h)).mono fun _ _ ⟨h1, h2⟩ => ⟨h1, h2 ▸ hg, h2 ▸ Only.refl _ _⟩
end Go.Proofs.YtlchfmjpachgfaaDoor
