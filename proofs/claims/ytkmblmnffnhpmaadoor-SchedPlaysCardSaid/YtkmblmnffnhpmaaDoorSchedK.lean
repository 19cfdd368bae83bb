/-
  CONTRACTS of package sched: Add, Del, Weigh, Active, Charge, Time, in the words of a list of turns.
-/
import Derived.Test.YtkmblmnffnhpmaaDoorSchedJ
import Derived.Test.YtkmblmnffnhpmaaDoorErrP
import Derived.StillTailTactics
import Derived.LoopTactic
namespace Go.Proofs.YtkmblmnffnhpmaaDoor
open Go.ChangeShapes Go.WideShapes Go.ChangeAt Go.RowKit Go.Deep
set_option linter.unusedVariables false
set_option linter.unusedSimpArgs false

/-! ### weighs, has -/
set_option maxRecDepth 100000 in
set_option maxHeartbeats 8000000 in
theorem weighs_any (n : Int) (w : World) : Calls Tryd.prog 34 #[.int .i64 n] w fun e w' => e = .returned (.bool (wtT n)) ∧ w = w' := by
  by_cases h1 : 1 ≤ n
  · have H := Shut.mk (show wtT n = decide (n ≤ 100) by unfold wtT; simp [h1])
    go_enter Tryd.func34, Tryd.ntmps34
    go_wp2
    go_ret
    exact ⟨ret_b H.out, rfl⟩
  · have H := Shut.mk (show wtT n = false by unfold wtT; simp; omega)
    have h2 : n < 1 := by omega
    go_enter Tryd.func34, Tryd.ntmps34
    go_wp2
    go_ret
    exact ⟨ret_b H.out, rfl⟩
set_option maxRecDepth 100000 in
set_option maxHeartbeats 8000000 in
theorem has_any (g : Nat) (l : List Tu) (y : Nat → Int) (v : Value) (a : Int) (w : World) (hi : InvT l) (h : At35 62 w g (xT l) y v) :
    Calls Tryd.prog 35 #[.pointer (some ⟨g, 0, none⟩), .int .i64 a] w fun e w' => e = .returned (.bool (hasT l a)) ∧ w = w' := by
  by_cases h1 : 1 ≤ a
  · by_cases h2 : a ≤ 16
    · obtain ⟨k, rfl⟩ : ∃ k : Nat, a = (k : Int) := ⟨a.toNat, by omega⟩
      have hx := h.cx (a := k) (by omega)
      have hk : (k : Int) < 17 := by omega
      have hk0 : (0 : Int) ≤ (k : Int) := by omega
      obtain ⟨u, hu⟩ : ∃ u, u = xT l k := ⟨_, rfl⟩
      rw [← hu] at hx
      have HV := Shut.mk (show hasT l (k : Int) = decide (0 < u) by
        rw [hu]
        cases e : hasT l (k : Int) with
        | false => rw [xT_not e]; rfl
        | true =>
          have h3 := (hi.ok _ (at_mem e).1).wt
          unfold xT
          rw [if_pos e]
          exact (decide_eq_true (by omega)).symm)
      clear h hu hi
      go_enter Tryd.func35, Tryd.ntmps35
      go_wp2_with (fail)
      go_ret
      exact ⟨ret_b HV.out, rfl⟩
    · have HV := Shut.mk (has_out hi (a := a) (by unfold aidT; simp; omega))
      clear h hi
      go_enter Tryd.func35, Tryd.ntmps35
      go_wp2_with (fail)
      go_ret
      exact ⟨ret_b HV.out, rfl⟩
  · have HV := Shut.mk (has_out hi (a := a) (by unfold aidT; simp; omega))
    clear h hi
    go_enter Tryd.func35, Tryd.ntmps35
    go_wp2_with (fail)
    go_ret
    exact ⟨ret_b HV.out, rfl⟩
/-! ### the object -/
structure ScI (w : World) (g : Nat) (v : Value) (hl : List Int) (l : List Tu) : Prop where
  t : IsT 62 w g (xT l) (yT l) v hl
  on : OnI l hl
  inv : InvT l
structure ScE (g : Nat) (v : Value) (w w' : World) (l' : List Tu) : Prop where
  out : ∃ v' hl', ScI w' g v' hl' l' ∧ Only (FootT g v) w w' ∧ Fresh w (FootT g v) (FootT g v')
section
variable {w w' : World} {g : Nat} {x' y' : Nat → Int} {v : Value} {l l' : List Tu} {hl hl' : List Int}
theorem ScI.same (h : ScI w g v hl l) : ScE g v w w l := ⟨v, hl, h, Only.refl _ _, Fresh.refl _ _⟩
theorem ScE.of (h : TuE 62 g x' y' v w w' hl') (hxy : ∀ k, x' k = xT l' k ∧ y' k = yT l' k) (ho : OnI l' hl') (hi : InvT l') : ScE g v w w' l' := by
  obtain ⟨v', h1, h2, h3⟩ := h.out
  exact ⟨v', hl', ⟨h1.congr (fun a _ => (hxy a).1) (fun a _ => (hxy a).2), ho, hi⟩, h2, h3⟩
theorem IsT.anew {T : TypeId} {x y x' y' : Nat → Int} (h : IsT T w g x y v hl) (hB : At35 T w' g x' y' v) (hO : Only (· = g) w w') (e : ∀ b ∈ hl, y' b.toNat = y b.toNat) : IsT T w' g x' y' v hl :=
  ⟨hB, h.row.only hO fun k hk e => h.ne k hk e, h.ne, h.aid, h.nd, heap_congr h.heap e⟩
theorem aidT_nat {a : Int} (h : aidT a = true) : ∃ k : Nat, a = (k : Int) ∧ 1 ≤ k ∧ k ≤ 16 := by
  unfold aidT at h
  simp only [Bool.and_eq_true, decide_eq_true_eq] at h
  exact ⟨a.toNat, by omega, by omega, by omega⟩
theorem has_nat (hi : InvT l) {a : Int} (h : hasT l a = true) : ∃ k : Nat, a = (k : Int) ∧ 1 ≤ k ∧ k ≤ 16 := by
  obtain ⟨t, ht, e⟩ := has_iff.1 h
  have := (hi.ok t ht).aid
  exact ⟨t.aid, e.symm, this.1, this.2⟩
end
/-! ### Add -/
set_option maxRecDepth 100000 in
set_option maxHeartbeats 8000000 in
theorem add_low (g : Nat) (a n : Int) (w : World) (er : Addr) (he : w.cell? ⟨0, 0, none⟩ = some (errP er)) (h : a < 1) :
    Calls Tryd.prog 13 #[.pointer (some ⟨g, 0, none⟩), .int .i64 a, .int .i64 n] w fun e w' => e = .returned (errP er) ∧ w = w' := by
  go_enter Tryd.func13, Tryd.ntmps13
  go_wp2_with (fail)
  go_ret
  exact ⟨rfl, rfl⟩
set_option maxRecDepth 100000 in
set_option maxHeartbeats 8000000 in
theorem add_high (g : Nat) (a n : Int) (w : World) (er : Addr) (he : w.cell? ⟨0, 0, none⟩ = some (errP er)) (h : ¬ a < 1) (h2 : 16 < a) :
    Calls Tryd.prog 13 #[.pointer (some ⟨g, 0, none⟩), .int .i64 a, .int .i64 n] w fun e w' => e = .returned (errP er) ∧ w = w' := by
  go_enter Tryd.func13, Tryd.ntmps13
  go_wp2_with (fail)
  go_ret
  exact ⟨rfl, rfl⟩
set_option maxRecDepth 100000 in
set_option maxHeartbeats 8000000 in
theorem add_wt (g : Nat) (a n : Int) (w : World) (er : Addr) (he : w.cell? ⟨0, 0, none⟩ = some (errP er)) (h : ¬ a < 1) (h2 : ¬ 16 < a) (hn : wtT n = false) :
    Calls Tryd.prog 13 #[.pointer (some ⟨g, 0, none⟩), .int .i64 a, .int .i64 n] w fun e w' => e = .returned (errP er) ∧ w = w' := by
  have HW := Shut.mk (weighs_any n w)
  rw [hn] at HW
  go_enter Tryd.func13, Tryd.ntmps13
  go_wp2_with (fail)
  refine HW.out.mono ?_
  rintro e w' ⟨rfl, rfl⟩
  go_wp2_with (fail)
  go_ret
  exact ⟨rfl, rfl⟩
set_option maxRecDepth 100000 in
set_option maxHeartbeats 8000000 in
theorem add_twice (g : Nat) (v : Value) (hl : List Int) (l : List Tu) (a n : Int) (w : World) (x : ScI w g v hl l) (er : Addr) (he : w.cell? ⟨1, 0, none⟩ = some (errP er)) (h : ¬ a < 1) (h2 : ¬ 16 < a) (hn : wtT n = true) (hh : hasT l a = true) :
    Calls Tryd.prog 13 #[.pointer (some ⟨g, 0, none⟩), .int .i64 a, .int .i64 n] w fun e w' => e = .returned (errP er) ∧ w = w' := by
  have HW := Shut.mk (weighs_any n w)
  rw [hn] at HW
  have HH := Shut.mk (has_any g l _ v a w x.inv x.t.at_)
  rw [hh] at HH
  clear x
  go_enter Tryd.func13, Tryd.ntmps13
  go_wp2_with (fail)
  refine HW.out.mono ?_
  rintro e w' ⟨rfl, rfl⟩
  go_wp2_with (fail)
  refine HH.out.mono ?_
  rintro e w' ⟨rfl, rfl⟩
  go_wp2_with (fail)
  go_ret
  exact ⟨rfl, rfl⟩
set_option maxRecDepth 100000 in
set_option maxHeartbeats 8000000 in
theorem add_in (g : Nat) (v : Value) (hl : List Int) (l : List Tu) (a n : Nat) (w : World) (x : ScI w g v hl l) (h : 1 ≤ a) (h2 : a ≤ 16) (hn : wtT (n : Int) = true) (hh : hasT l (a : Int) = false) (hi' : InvT (l ++ [⟨a, n, 0, false⟩])) :
    Calls Tryd.prog 13 #[.pointer (some ⟨g, 0, none⟩), .int .i64 (a : Int), .int .i64 (n : Int)] w fun e w' => e = .returned .nilIface ∧ ScE g v w w' (l ++ [⟨a, n, 0, false⟩]) := by
  have HW := Shut.mk (weighs_any (n : Int) w)
  rw [hn] at HW
  have HH := Shut.mk (has_any g l _ v (a : Int) w x.inv x.t.at_)
  rw [hh] at HH
  have HX := Shut.mk x
  have HB := Shut.mk x.t.at_
  have HXY := Shut.mk (xy_snoc x.inv hh (t' := ⟨a, n, 0, false⟩) rfl hi')
  have HHN := Shut.mk hh
  have HINV := Shut.mk hi'
  have HA := Shut.mk (show a < 17 by omega)
  have e1 : ¬ (a : Int) < 1 := by omega
  have e2 : ¬ 16 < (a : Int) := by omega
  have e3 : (0 : Int) ≤ (a : Int) := by omega
  have e4 : (a : Int) < 17 := by omega
  have HS := Shut.mk (show At35 62 (w.setRow g (c35 (upX (xT l) a (n : Int)) (yT l) v)) g (upX (xT l) a (n : Int)) (yT l) v from setRow_heap w g _ _ _ (0, 0) HB.out)
  have HO := Shut.mk (only_setRow w g (c35 (upX (xT l) a (n : Int)) (yT l) v))
  clear x h h2 hn hh hi'
  go_enter Tryd.func13, Tryd.ntmps13
  go_wp2_with (fail)
  refine HW.out.mono ?_
  rintro e w' ⟨rfl, rfl⟩
  go_wp2_with (fail)
  refine HH.out.mono ?_
  rintro e w' ⟨rfl, rfl⟩
  go_wp2_with (first
    | (refine wpList_store_into rfl 3 (.tmp 32) (.tmp 27) rfl g (a * 2) (.int .i64 (n : Int)) rfl rfl rfl 62 (c35 (xT l) (yT l) v) (c35 (upX (xT l) a (n : Int)) (yT l) v) HB.out size1i (by show a * 2 < 35; have := HA.out; omega) (set_x _ _ v HA.out _) ?_; generalize World.setRow w g _ = w8 at *))
  go_ret
  refine ⟨rfl, ScE.of ((HX.out.t.anew HS.out HO.out fun _ _ => rfl).same.after HO.out) (fun k => ⟨(HXY.out k).1, ?_⟩) (onI_snoc HX.out.on rfl) HINV.out⟩
  rw [← (HXY.out k).2]
  by_cases ek : k = a
  · rw [ek, upX_same]; exact yT_not HHN.out
  · rw [upX_ne ek]
theorem add_t (g : Nat) (v : Value) (hl : List Int) (l : List Tu) (a n : Int) (w : World) (E : Nat → Addr) (x : ScI w g v hl l) (h1 : w.cell? ⟨0, 0, none⟩ = some (errP (E 103))) (h2 : w.cell? ⟨1, 0, none⟩ = some (errP (E 108))) :
    Calls Tryd.prog 13 #[.pointer (some ⟨g, 0, none⟩), .int .i64 a, .int .i64 n] w fun e w' => e = .returned (errV E (addT l a n).2) ∧ ScE g v w w' (addT l a n).1 := by
  have hiv := inv_add x.inv a n
  unfold addT at hiv ⊢
  by_cases ha1 : a < 1
  · rw [if_neg (by unfold aidT; simp; omega)]
    exact (add_low g a n w _ h1 ha1).mono fun _ _ ⟨e1, e2⟩ => ⟨e1, e2 ▸ x.same⟩
  by_cases ha2 : 16 < a
  · rw [if_neg (by unfold aidT; simp; omega)]
    exact (add_high g a n w _ h1 ha1 ha2).mono fun _ _ ⟨e1, e2⟩ => ⟨e1, e2 ▸ x.same⟩
  have ha : aidT a = true := by unfold aidT; simp; omega
  cases hn : wtT n with
  | false =>
    rw [if_neg (by simp)]
    exact (add_wt g a n w _ h1 ha1 ha2 hn).mono fun _ _ ⟨e1, e2⟩ => ⟨e1, e2 ▸ x.same⟩
  | true =>
    rw [if_pos ⟨ha, hn⟩] at hiv
    rw [if_pos ⟨ha, rfl⟩]
    cases hh : hasT l a with
    | true =>
      rw [if_pos rfl]
      exact (add_twice g v hl l a n w x _ h2 ha1 ha2 hn hh).mono fun _ _ ⟨e1, e2⟩ => ⟨e1, e2 ▸ x.same⟩
    | false =>
      rw [if_neg (by simp [hh])] at hiv
      rw [if_neg (by simp)]
      obtain ⟨k, rfl⟩ := aid_nat ha
      obtain ⟨m, rfl⟩ := wt_nat hn
      exact add_in g v hl l k m w x (by omega) (by omega) hn hh hiv
/-! ### Weigh -/
set_option maxRecDepth 100000 in
set_option maxHeartbeats 8000000 in
theorem weigh_none (g : Nat) (v : Value) (hl : List Int) (l : List Tu) (a n : Int) (w : World) (x : ScI w g v hl l) (er : Addr) (he : w.cell? ⟨2, 0, none⟩ = some (errP er)) (hh : hasT l a = false) :
    Calls Tryd.prog 17 #[.pointer (some ⟨g, 0, none⟩), .int .i64 a, .int .i64 n] w fun e w' => e = .returned (errP er) ∧ w = w' := by
  have HH := Shut.mk (has_any g l _ v a w x.inv x.t.at_)
  rw [hh] at HH
  clear x
  go_enter Tryd.func17, Tryd.ntmps17
  go_wp2_with (fail)
  refine HH.out.mono ?_
  rintro e w' ⟨rfl, rfl⟩
  go_wp2_with (fail)
  go_ret
  exact ⟨rfl, rfl⟩
set_option maxRecDepth 100000 in
set_option maxHeartbeats 8000000 in
theorem weigh_range (g : Nat) (v : Value) (hl : List Int) (l : List Tu) (a n : Int) (w : World) (x : ScI w g v hl l) (er : Addr) (he : w.cell? ⟨0, 0, none⟩ = some (errP er)) (hh : hasT l a = true) (hn : wtT n = false) :
    Calls Tryd.prog 17 #[.pointer (some ⟨g, 0, none⟩), .int .i64 a, .int .i64 n] w fun e w' => e = .returned (errP er) ∧ w = w' := by
  have HH := Shut.mk (has_any g l _ v a w x.inv x.t.at_)
  rw [hh] at HH
  have HW := Shut.mk (weighs_any n w)
  rw [hn] at HW
  clear x
  go_enter Tryd.func17, Tryd.ntmps17
  go_wp2_with (fail)
  refine HH.out.mono ?_
  rintro e w' ⟨rfl, rfl⟩
  go_wp2_with (fail)
  refine HW.out.mono ?_
  rintro e w' ⟨rfl, rfl⟩
  go_wp2_with (fail)
  go_ret
  exact ⟨rfl, rfl⟩
set_option maxRecDepth 100000 in
set_option maxHeartbeats 8000000 in
theorem weigh_in (g : Nat) (v : Value) (hl : List Int) (l : List Tu) (a n : Nat) (w : World) (x : ScI w g v hl l) (hn : wtT (n : Int) = true) (hh : hasT l (a : Int) = true) (hi' : InvT (l.set (fiT l (a : Int)) { l.getD (fiT l (a : Int)) tu0 with wt := n })) :
    Calls Tryd.prog 17 #[.pointer (some ⟨g, 0, none⟩), .int .i64 (a : Int), .int .i64 (n : Int)] w fun e w' => e = .returned .nilIface ∧ ScE g v w w' (l.set (fiT l (a : Int)) { l.getD (fiT l (a : Int)) tu0 with wt := n }) := by
  have HW := Shut.mk (weighs_any (n : Int) w)
  rw [hn] at HW
  have HH := Shut.mk (has_any g l _ v (a : Int) w x.inv x.t.at_)
  rw [hh] at HH
  have HX := Shut.mk x
  have HB := Shut.mk x.t.at_
  have ham := at_mem hh
  have HXY := Shut.mk (xy_set x.inv hh (t' := { l.getD (fiT l (a : Int)) tu0 with wt := n }) (by show (l.getD (fiT l (a : Int)) tu0).aid = a; omega) hi')
  have HON := Shut.mk (onI_set x.inv hh (t' := { l.getD (fiT l (a : Int)) tu0 with wt := n }) ham.2 x.on (fun b _ => Iff.rfl) (onI_at x.inv hh x.on))
  have HYA := Shut.mk (show yT l a = (((l.getD (fiT l (a : Int)) tu0).tm : Nat) : Int) by unfold yT; rw [if_pos hh])
  have HINV := Shut.mk hi'
  have h16 := has_nat x.inv hh
  have HA := Shut.mk (show a < 17 by obtain ⟨k, e, h1, h2⟩ := h16; omega)
  have e3 : (0 : Int) ≤ (a : Int) := by omega
  have e4 : (a : Int) < 17 := by have := HA.out; omega
  have HS := Shut.mk (show At35 62 (w.setRow g (c35 (upX (xT l) a (n : Int)) (yT l) v)) g (upX (xT l) a (n : Int)) (yT l) v from setRow_heap w g _ _ _ (0, 0) HB.out)
  have HO := Shut.mk (only_setRow w g (c35 (upX (xT l) a (n : Int)) (yT l) v))
  clear x hn hh hi' ham h16
  go_enter Tryd.func17, Tryd.ntmps17
  go_wp2_with (fail)
  refine HH.out.mono ?_
  rintro e w' ⟨rfl, rfl⟩
  go_wp2_with (fail)
  refine HW.out.mono ?_
  rintro e w' ⟨rfl, rfl⟩
  go_wp2_with (first
    | (refine wpList_store_into rfl 3 (.tmp 25) (.tmp 20) rfl g (a * 2) (.int .i64 (n : Int)) rfl rfl rfl 62 (c35 (xT l) (yT l) v) (c35 (upX (xT l) a (n : Int)) (yT l) v) HB.out size1i (by show a * 2 < 35; have := HA.out; omega) (set_x _ _ v HA.out _) ?_; generalize World.setRow w g _ = w8 at *))
  go_ret
  refine ⟨rfl, ScE.of ((HX.out.t.anew HS.out HO.out fun _ _ => rfl).same.after HO.out) (fun k => ⟨(HXY.out k).1, ?_⟩) HON.out HINV.out⟩
  rw [← (HXY.out k).2]
  by_cases ek : k = a
  · rw [ek, upX_same]; exact HYA.out
  · rw [upX_ne ek]
theorem weigh_t (g : Nat) (v : Value) (hl : List Int) (l : List Tu) (a n : Int) (w : World) (E : Nat → Addr) (x : ScI w g v hl l) (h1 : w.cell? ⟨0, 0, none⟩ = some (errP (E 103))) (h2 : w.cell? ⟨2, 0, none⟩ = some (errP (E 107))) :
    Calls Tryd.prog 17 #[.pointer (some ⟨g, 0, none⟩), .int .i64 a, .int .i64 n] w fun e w' => e = .returned (errV E (weighT l a n).2) ∧ ScE g v w w' (weighT l a n).1 := by
  have hiv := inv_weigh x.inv a n
  unfold weighT at hiv ⊢
  cases hh : hasT l a with
  | false =>
    rw [if_neg (by simp)]
    exact (weigh_none g v hl l a n w x _ h2 hh).mono fun _ _ ⟨e1, e2⟩ => ⟨e1, e2 ▸ x.same⟩
  | true =>
    rw [if_pos hh] at hiv
    rw [if_pos rfl]
    cases hn : wtT n with
    | false =>
      rw [if_neg (by simp)]
      exact (weigh_range g v hl l a n w x _ h1 hh hn).mono fun _ _ ⟨e1, e2⟩ => ⟨e1, e2 ▸ x.same⟩
    | true =>
      rw [if_pos hn] at hiv
      rw [if_pos rfl]
      obtain ⟨k, rfl, -, -⟩ := has_nat x.inv hh
      obtain ⟨m, rfl⟩ := wt_nat hn
      exact weigh_in g v hl l k m w x hn hh hiv
end Go.Proofs.YtkmblmnffnhpmaaDoor
