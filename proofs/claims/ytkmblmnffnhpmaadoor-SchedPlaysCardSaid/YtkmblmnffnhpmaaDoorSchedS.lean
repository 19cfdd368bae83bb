/-
  CONTRACTS of package sched: Del, Charge, Active, Time, in the words of a list of turns.
-/
import Derived.Test.YtkmblmnffnhpmaaDoorSchedK
import Derived.StillTailTactics
import Derived.LoopTactic
namespace Go.Proofs.YtkmblmnffnhpmaaDoor
open Go.ChangeShapes Go.WideShapes Go.ChangeAt Go.RowKit Go.Deep
set_option linter.unusedVariables false
set_option linter.unusedSimpArgs false

/-! ### Del -/
set_option maxRecDepth 100000 in
set_option maxHeartbeats 8000000 in
theorem del_none (g : Nat) (v : Value) (hl : List Int) (l : List Tu) (a : Int) (w : World) (x : ScI w g v hl l) (er : Addr) (he : w.cell? ⟨2, 0, none⟩ = some (errP er)) (hh : hasT l a = false) :
    Calls Tryd.prog 15 #[.pointer (some ⟨g, 0, none⟩), .int .i64 a] w fun e w' => e = .returned (errP er) ∧ w = w' := by
  have HH := Shut.mk (has_any g l _ v a w x.inv x.t.at_)
  rw [hh] at HH
  clear x
  go_enter Tryd.func15, Tryd.ntmps15
  go_wp2_with (fail)
  refine HH.out.mono ?_
  rintro e w' ⟨rfl, rfl⟩
  go_wp2_with (fail)
  go_ret
  exact ⟨rfl, rfl⟩
theorem sizeSt : (Tryd.prog.info? 57).map (·.size) = some 2 := by kernel_rfl
set_option maxRecDepth 100000 in
set_option maxHeartbeats 8000000 in
theorem del_in (g : Nat) (v : Value) (hl : List Int) (l : List Tu) (a : Nat) (w : World) (x : ScI w g v hl l) (hh : hasT l (a : Int) = true) (hi' : InvT (l.take (fiT l (a : Int)) ++ l.drop (fiT l (a : Int) + 1))) :
    Calls Tryd.prog 15 #[.pointer (some ⟨g, 0, none⟩), .int .i64 (a : Int)] w fun e w' => e = .returned .nilIface ∧ ScE g v w w' (l.take (fiT l (a : Int)) ++ l.drop (fiT l (a : Int) + 1)) := by
  have HH := Shut.mk (has_any g l _ v (a : Int) w x.inv x.t.at_)
  rw [hh] at HH
  have HX := Shut.mk x
  have HXY := Shut.mk (xy_del x.inv hh hi')
  have HON := Shut.mk fun (hl' : List Int) h1 => onI_del (hl' := hl') x.inv hh x.on h1
  have HINV := Shut.mk hi'
  have h16 := has_nat x.inv hh
  have HA := Shut.mk (show a < 17 by obtain ⟨k, e, h1, h2⟩ := h16; omega)
  have e3 : (0 : Int) ≤ (a : Int) := by omega
  have e4 : (a : Int) < 17 := by have := HA.out; omega
  clear x hh hi' h16
  go_enter Tryd.func15, Tryd.ntmps15
  go_wp2_with (fail)
  refine HH.out.mono ?_
  rintro e w' ⟨rfl, rfl⟩
  go_wp2_with (fail)
  refine (leave_any 62 g (xT l) (yT l) v hl (a : Int) w HX.out.t).mono ?_
  rintro e w2 ⟨rfl, hl', ⟨v', h1, h2, h3⟩, h4⟩
  obtain ⟨pre, post, hp, hc, hset⟩ := c35_cut (xT l) (yT l) v' HA.out
  have HT2 := Shut.mk h1
  have HBB := Shut.mk (show w2.heap[g]? = some (.cells (pre ++ s2 (xT l a) (yT l a) ++ post).toArray 62 (0, 0)) by rw [← hc]; exact h1.at_)
  have HPL := Shut.mk hp
  have HE2 := Shut.mk (show Only (FootT g v) w w2 ∧ Fresh w (FootT g v) (FootT g v') from ⟨h2, h3⟩)
  have HM := Shut.mk h4
  have HS := Shut.mk (show At35 62 (w2.setRow g (pre ++ s2 0 0 ++ post).toArray) g (upX (xT l) a 0) (upX (yT l) a 0) v' by rw [hset]; exact setRow_heap w2 g _ _ _ (0, 0) h1.at_)
  have HO := Shut.mk (only_setRow w2 g (pre ++ s2 0 0 ++ post).toArray)
  clear h1 h2 h3 h4 hp hc hset
  go_wp2_with (first
    | (refine wpList_store_part rfl 57 (.tmp 21) (.tmp 17) rfl g (a * 2) (.agg #[.int .i64 0, .int .i64 0]) rfl rfl 62 pre (s2 (xT l a) (yT l a)) (s2 0 0) post HBB.out HPL.out rfl rfl sizeSt (by simp [s2, Value.oneCell']) ?_; generalize World.setRow w2 g _ = w8 at *))
  go_ret
  have hT := HT2.out.anew HS.out HO.out fun b hb => upX_ne fun e => ((HM.out b).1 hb).2 (by have := HT2.out.aid b hb; omega)
  obtain ⟨v3, hl3, q1, q2, q3⟩ := (ScE.of (hT.same.after HO.out) HXY.out (HON.out hl' HM.out) HINV.out).out
  exact ⟨rfl, v3, hl3, q1, HE2.out.1.fresh HE2.out.2 q2, HE2.out.2.trans HE2.out.1.size q3⟩
theorem del_t (g : Nat) (v : Value) (hl : List Int) (l : List Tu) (a : Int) (w : World) (E : Nat → Addr) (x : ScI w g v hl l) (h2 : w.cell? ⟨2, 0, none⟩ = some (errP (E 107))) :
    Calls Tryd.prog 15 #[.pointer (some ⟨g, 0, none⟩), .int .i64 a] w fun e w' => e = .returned (errV E (delT l a).2) ∧ ScE g v w w' (delT l a).1 := by
  have hiv := inv_del x.inv a
  unfold delT at hiv ⊢
  cases hh : hasT l a with
  | false =>
    rw [if_neg (by simp)]
    exact (del_none g v hl l a w x _ h2 hh).mono fun _ _ ⟨e1, e2⟩ => ⟨e1, e2 ▸ x.same⟩
  | true =>
    rw [if_pos hh] at hiv
    rw [if_pos rfl]
    obtain ⟨k, rfl, -, -⟩ := has_nat x.inv hh
    exact del_in g v hl l k w x hh hiv
/-! ### Charge -/
set_option maxRecDepth 100000 in
set_option maxHeartbeats 8000000 in
theorem charge_none (g : Nat) (v : Value) (hl : List Int) (l : List Tu) (a n : Int) (w : World) (x : ScI w g v hl l) (er : Addr) (he : w.cell? ⟨2, 0, none⟩ = some (errP er)) (hh : hasT l a = false) :
    Calls Tryd.prog 21 #[.pointer (some ⟨g, 0, none⟩), .int .i64 a, .int .i64 n] w fun e w' => e = .returned (errP er) ∧ w = w' := by
  have HH := Shut.mk (has_any g l _ v a w x.inv x.t.at_)
  rw [hh] at HH
  clear x
  go_enter Tryd.func21, Tryd.ntmps21
  go_wp2_with (fail)
  refine HH.out.mono ?_
  rintro e w' ⟨rfl, rfl⟩
  go_wp2_with (fail)
  go_ret
  exact ⟨rfl, rfl⟩
set_option maxRecDepth 100000 in
set_option maxHeartbeats 8000000 in
theorem charge_low (g : Nat) (v : Value) (hl : List Int) (l : List Tu) (a n : Int) (w : World) (x : ScI w g v hl l) (er : Addr) (he : w.cell? ⟨0, 0, none⟩ = some (errP er)) (hh : hasT l a = true) (hn : n < 0) :
    Calls Tryd.prog 21 #[.pointer (some ⟨g, 0, none⟩), .int .i64 a, .int .i64 n] w fun e w' => e = .returned (errP er) ∧ w = w' := by
  have HH := Shut.mk (has_any g l _ v a w x.inv x.t.at_)
  rw [hh] at HH
  clear x
  go_enter Tryd.func21, Tryd.ntmps21
  go_wp2_with (fail)
  refine HH.out.mono ?_
  rintro e w' ⟨rfl, rfl⟩
  go_wp2_with (fail)
  go_ret
  exact ⟨rfl, rfl⟩
set_option maxRecDepth 100000 in
set_option maxHeartbeats 8000000 in
theorem charge_high (g : Nat) (v : Value) (hl : List Int) (l : List Tu) (a n : Int) (w : World) (x : ScI w g v hl l) (er : Addr) (he : w.cell? ⟨0, 0, none⟩ = some (errP er)) (hh : hasT l a = true) (hn0 : ¬ n < 0) (hn : 1099511627776 < n) :
    Calls Tryd.prog 21 #[.pointer (some ⟨g, 0, none⟩), .int .i64 a, .int .i64 n] w fun e w' => e = .returned (errP er) ∧ w = w' := by
  have HH := Shut.mk (has_any g l _ v a w x.inv x.t.at_)
  rw [hh] at HH
  clear x
  go_enter Tryd.func21, Tryd.ntmps21
  go_wp2_with (fail)
  refine HH.out.mono ?_
  rintro e w' ⟨rfl, rfl⟩
  go_wp2_with (fail)
  go_ret
  exact ⟨rfl, rfl⟩
set_option maxRecDepth 100000 in
set_option maxHeartbeats 8000000 in
theorem charge_in (g : Nat) (v : Value) (hl : List Int) (l : List Tu) (a n : Nat) (w : World) (x : ScI w g v hl l) (hn : n ≤ 1099511627776) (hh : hasT l (a : Int) = true) (hi' : InvT (l.set (fiT l (a : Int)) { l.getD (fiT l (a : Int)) tu0 with tm := tmT (l.getD (fiT l (a : Int)) tu0) n })) :
    Calls Tryd.prog 21 #[.pointer (some ⟨g, 0, none⟩), .int .i64 (a : Int), .int .i64 (n : Int)] w fun e w' => e = .returned .nilIface ∧ ScE g v w w' (l.set (fiT l (a : Int)) { l.getD (fiT l (a : Int)) tu0 with tm := tmT (l.getD (fiT l (a : Int)) tu0) n }) := by
  have HH := Shut.mk (has_any g l _ v (a : Int) w x.inv x.t.at_)
  rw [hh] at HH
  have ham := at_mem hh
  have hok := x.inv.ok _ ham.1
  have HXY := Shut.mk (xy_set x.inv hh (t' := { l.getD (fiT l (a : Int)) tu0 with tm := tmT (l.getD (fiT l (a : Int)) tu0) n }) (by show (l.getD (fiT l (a : Int)) tu0).aid = a; omega) hi')
  have HON := Shut.mk fun (hl' : List Int) (e : ∀ b, b ∈ hl' ↔ b ∈ hl) => onI_set (hl' := hl') x.inv hh (t' := { l.getD (fiT l (a : Int)) tu0 with tm := tmT (l.getD (fiT l (a : Int)) tu0) n }) ham.2 x.on (fun b _ => e b) ((e _).trans (onI_at x.inv hh x.on))
  have HXA := Shut.mk (show xT l a = (((l.getD (fiT l (a : Int)) tu0).wt : Nat) : Int) by unfold xT; rw [if_pos hh])
  have HINV := Shut.mk hi'
  have h16 := has_nat x.inv hh
  have HCH := Shut.mk (charge_any 62 g (xT l) (yT l) v hl a n _ _ (tmT (l.getD (fiT l (a : Int)) tu0) n) w x.t (by obtain ⟨k, e, h1, h2⟩ := h16; omega) HXA.out hok.wt (show yT l a = (((l.getD (fiT l (a : Int)) tu0).tm : Nat) : Int) by unfold yT; rw [if_pos hh]) hok.tm hn rfl)
  have e1 : ¬ (n : Int) < 0 := by omega
  have e2 : ¬ 1099511627776 < (n : Int) := by omega
  have e5 : n ≤ 1099511627776 := hn
  clear x hh hi' ham h16 hn hok
  go_enter Tryd.func21, Tryd.ntmps21
  go_wp2_with (fail)
  refine HH.out.mono ?_
  rintro e w' ⟨rfl, rfl⟩
  go_wp2_with (fail)
  refine HCH.out.mono ?_
  rintro e w2 ⟨rfl, hl', hE, hM⟩
  have HE := Shut.mk hE
  have HM := Shut.mk hM
  clear hE hM
  go_wp2_with (fail)
  go_ret
  refine ⟨rfl, ScE.of HE.out (fun k => ⟨?_, (HXY.out k).2⟩) (HON.out hl' HM.out) HINV.out⟩
  rw [← (HXY.out k).1]
  by_cases ek : k = a
  · rw [ek, upX_same]; exact HXA.out
  · rw [upX_ne ek]
theorem charge_t (g : Nat) (v : Value) (hl : List Int) (l : List Tu) (a n : Int) (w : World) (E : Nat → Addr) (x : ScI w g v hl l) (h1 : w.cell? ⟨0, 0, none⟩ = some (errP (E 103))) (h2 : w.cell? ⟨2, 0, none⟩ = some (errP (E 107))) :
    Calls Tryd.prog 21 #[.pointer (some ⟨g, 0, none⟩), .int .i64 a, .int .i64 n] w fun e w' => e = .returned (errV E (chT l a n).2) ∧ ScE g v w w' (chT l a n).1 := by
  have hiv := inv_ch x.inv a n
  unfold chT at hiv ⊢
  cases hh : hasT l a with
  | false =>
    rw [if_neg (by simp)]
    exact (charge_none g v hl l a n w x _ h2 hh).mono fun _ _ ⟨e1, e2⟩ => ⟨e1, e2 ▸ x.same⟩
  | true =>
    rw [if_pos hh] at hiv
    rw [if_pos rfl]
    by_cases h0 : n < 0
    · rw [if_neg (by unfold airT; simp; omega)]
      exact (charge_low g v hl l a n w x _ h1 hh h0).mono fun _ _ ⟨e1, e2⟩ => ⟨e1, e2 ▸ x.same⟩
    by_cases h3 : 1099511627776 < n
    · rw [if_neg (by unfold airT; simp; omega)]
      exact (charge_high g v hl l a n w x _ h1 hh h0 h3).mono fun _ _ ⟨e1, e2⟩ => ⟨e1, e2 ▸ x.same⟩
    have hn : airT n = true := by unfold airT; simp; omega
    rw [if_pos hn] at hiv
    rw [if_pos hn]
    obtain ⟨k, rfl, -, -⟩ := has_nat x.inv hh
    obtain ⟨m, rfl⟩ := air_nat hn
    exact charge_in g v hl l k m w x (by omega) hh hiv
/-! ### Active -/
set_option maxRecDepth 100000 in
set_option maxHeartbeats 8000000 in
theorem active_none (g : Nat) (v : Value) (hl : List Int) (l : List Tu) (a : Int) (on : Bool) (w : World) (x : ScI w g v hl l) (er : Addr) (he : w.cell? ⟨2, 0, none⟩ = some (errP er)) (hh : hasT l a = false) :
    Calls Tryd.prog 19 #[.pointer (some ⟨g, 0, none⟩), .int .i64 a, .bool on] w fun e w' => e = .returned (errP er) ∧ w = w' := by
  have HH := Shut.mk (has_any g l _ v a w x.inv x.t.at_)
  rw [hh] at HH
  clear x
  go_enter Tryd.func19, Tryd.ntmps19
  go_wp2_with (fail)
  refine HH.out.mono ?_
  rintro e w' ⟨rfl, rfl⟩
  go_wp2_with (fail)
  go_ret
  exact ⟨rfl, rfl⟩
set_option maxRecDepth 100000 in
set_option maxHeartbeats 8000000 in
theorem active_on (g : Nat) (v : Value) (hl : List Int) (l : List Tu) (a : Nat) (w : World) (x : ScI w g v hl l) (hh : hasT l (a : Int) = true) (R : World → Prop) (h : Calls Tryd.prog 39 #[.pointer (some ⟨g, 0, none⟩), .int .i64 (a : Int)] w fun e w' => e = .returned (.tuple #[]) ∧ R w') :
    Calls Tryd.prog 19 #[.pointer (some ⟨g, 0, none⟩), .int .i64 (a : Int), .bool true] w fun e w' => e = .returned .nilIface ∧ R w' := by
  have HH := Shut.mk (has_any g l _ v (a : Int) w x.inv x.t.at_)
  rw [hh] at HH
  have HJ := Shut.mk h
  clear x h hh
  go_enter Tryd.func19, Tryd.ntmps19
  go_wp2_with (fail)
  refine HH.out.mono ?_
  rintro e w' ⟨rfl, rfl⟩
  go_wp2_with (fail)
  refine HJ.out.mono ?_
  rintro e w2 ⟨rfl, hR⟩
  have HR := Shut.mk hR
  clear hR
  go_wp2_with (fail)
  go_ret
  exact ⟨rfl, HR.out⟩
set_option maxRecDepth 100000 in
set_option maxHeartbeats 8000000 in
theorem active_off (g : Nat) (v : Value) (hl : List Int) (l : List Tu) (a : Nat) (w : World) (x : ScI w g v hl l) (hh : hasT l (a : Int) = true) (R : World → Prop) (h : Calls Tryd.prog 38 #[.pointer (some ⟨g, 0, none⟩), .int .i64 (a : Int)] w fun e w' => e = .returned (.tuple #[]) ∧ R w') :
    Calls Tryd.prog 19 #[.pointer (some ⟨g, 0, none⟩), .int .i64 (a : Int), .bool false] w fun e w' => e = .returned .nilIface ∧ R w' := by
  have HH := Shut.mk (has_any g l _ v (a : Int) w x.inv x.t.at_)
  rw [hh] at HH
  have HJ := Shut.mk h
  clear x h hh
  go_enter Tryd.func19, Tryd.ntmps19
  go_wp2_with (fail)
  refine HH.out.mono ?_
  rintro e w' ⟨rfl, rfl⟩
  go_wp2_with (fail)
  refine HJ.out.mono ?_
  rintro e w2 ⟨rfl, hR⟩
  have HR := Shut.mk hR
  clear hR
  go_wp2_with (fail)
  go_ret
  exact ⟨rfl, HR.out⟩
/-- the arrays when one alone has turned, its weight as it was. -/
theorem xy_time {l : List Tu} (hi : InvT l) {a : Nat} (hh : hasT l (a : Int) = true) {t' : Tu} (ht : t'.aid = a) (hw : t'.wt = (l.getD (fiT l (a : Int)) tu0).wt) (hi' : InvT (l.set (fiT l (a : Int)) t')) (k : Nat) : xT l k = xT (l.set (fiT l (a : Int)) t') k ∧ upX (yT l) a (t'.tm : Int) k = yT (l.set (fiT l (a : Int)) t') k := by
  have h := xy_set hi hh ht hi' k
  refine ⟨?_, h.2⟩
  rw [← h.1]
  by_cases ek : k = a
  · rw [ek, upX_same, hw]; unfold xT; rw [if_pos hh]
  · rw [upX_ne ek]
theorem xy_still {l : List Tu} (hi : InvT l) {a : Nat} (hh : hasT l (a : Int) = true) {t' : Tu} (ht : t'.aid = a) (hw : t'.wt = (l.getD (fiT l (a : Int)) tu0).wt) (hm : t'.tm = (l.getD (fiT l (a : Int)) tu0).tm) (hi' : InvT (l.set (fiT l (a : Int)) t')) (k : Nat) : xT l k = xT (l.set (fiT l (a : Int)) t') k ∧ yT l k = yT (l.set (fiT l (a : Int)) t') k := by
  have h := xy_time hi hh ht hw hi' k
  refine ⟨h.1, ?_⟩
  rw [← h.2]
  by_cases ek : k = a
  · rw [ek, upX_same, hm]; unfold yT; rw [if_pos hh]
  · rw [upX_ne ek]
theorem active_t (g : Nat) (v : Value) (hl : List Int) (l : List Tu) (a : Int) (on : Bool) (w : World) (E : Nat → Addr) (x : ScI w g v hl l) (h2 : w.cell? ⟨2, 0, none⟩ = some (errP (E 107))) :
    Calls Tryd.prog 19 #[.pointer (some ⟨g, 0, none⟩), .int .i64 a, .bool on] w fun e w' => e = .returned (errV E (actT l a on).2) ∧ ScE g v w w' (actT l a on).1 := by
  have hiv := inv_act x.inv a on
  unfold actT at hiv ⊢
  cases hh : hasT l a with
  | false =>
    rw [if_neg (by simp)]
    exact (active_none g v hl l a on w x _ h2 hh).mono fun _ _ ⟨e1, e2⟩ => ⟨e1, e2 ▸ x.same⟩
  | true =>
    rw [if_pos hh] at hiv
    rw [if_pos rfl]
    obtain ⟨k, rfl, hk1, hk2⟩ := has_nat x.inv hh
    have ham := at_mem hh
    have haid : (l.getD (fiT l (k : Int)) tu0).aid = k := by omega
    have hon := onI_at x.inv hh x.on
    cases on with
    | false =>
      have e : actOf l (l.getD (fiT l (k : Int)) tu0) false = { l.getD (fiT l (k : Int)) tu0 with on := false } := by unfold actOf; rw [if_neg (by simp)]
      rw [e] at hiv ⊢
      refine active_off g v hl l k w x hh _ ((leave_any 62 g (xT l) (yT l) v hl (k : Int) w x.t).mono ?_)
      rintro r w' ⟨rfl, hl', hE, hM⟩
      refine ⟨rfl, ScE.of hE (xy_still x.inv hh haid rfl rfl hiv) (onI_set x.inv hh ham.2 x.on (fun b hb => by rw [hM b]; exact ⟨fun h => h.1, fun h => ⟨h, hb⟩⟩) ?_) hiv⟩
      rw [hM]
      simp
    | true =>
      by_cases hin : (k : Int) ∈ hl
      · have ho := hon.1 hin
        have e : actOf l (l.getD (fiT l (k : Int)) tu0) true = { l.getD (fiT l (k : Int)) tu0 with on := true } := by unfold actOf; rw [if_neg (by rw [ho]; simp)]
        rw [e] at hiv ⊢
        refine active_on g v hl l k w x hh _ ((join_in 62 g (xT l) (yT l) v hl (k : Int) w x.t hin).mono ?_)
        rintro r w' ⟨rfl, rfl⟩
        refine ⟨rfl, ScE.of x.t.same (xy_still x.inv hh haid rfl rfl hiv) (onI_set x.inv hh ham.2 x.on (fun b hb => Iff.rfl) ?_) hiv⟩
        exact ⟨fun _ => rfl, fun _ => hin⟩
      · have ho : (l.getD (fiT l (k : Int)) tu0).on = false := by
          cases hq : (l.getD (fiT l (k : Int)) tu0).on with
          | false => rfl
          | true => exact absurd (hon.2 hq) hin
        cases he : orderT [] l with
        | nil =>
          have e : actOf l (l.getD (fiT l (k : Int)) tu0) true = { l.getD (fiT l (k : Int)) tu0 with on := true } := by unfold actOf; rw [if_pos ⟨rfl, ho⟩, he]
          rw [e] at hiv ⊢
          obtain rfl := head_nil x.on he
          refine active_on g v [] l k w x hh _ ((join_first 62 g (xT l) (yT l) v k w x.t (by omega)).mono ?_)
          rintro r w' ⟨rfl, hl', hE, hM⟩
          refine ⟨rfl, ScE.of hE (xy_still x.inv hh haid rfl rfl hiv) (onI_set x.inv hh ham.2 x.on (fun b hb => by rw [hM b]; simp [hb]) ?_) hiv⟩
          exact ⟨fun _ => rfl, fun _ => (hM _).2 rfl⟩
        | cons u r =>
          have e : actOf l (l.getD (fiT l (k : Int)) tu0) true = { l.getD (fiT l (k : Int)) tu0 with tm := max (l.getD (fiT l (k : Int)) tu0).tm u.tm, on := true } := by unfold actOf; rw [if_pos ⟨rfl, ho⟩, he]
          rw [e] at hiv ⊢
          obtain ⟨h0, h3⟩ := head_is x.inv x.on x.t.heap he
          have hya : yT l k = (((l.getD (fiT l (k : Int)) tu0).tm : Nat) : Int) := by unfold yT; rw [if_pos hh]
          refine active_on g v hl l k w x hh _ ((join_next 62 g (xT l) (yT l) v hl k w x.t (by omega) hin h0 (((max (l.getD (fiT l (k : Int)) tu0).tm u.tm : Nat)) : Int) (by rw [hya, h3]; omega)).mono ?_)
          rintro r w' ⟨rfl, hl', hE, hM⟩
          refine ⟨rfl, ScE.of hE (xy_time x.inv hh (t' := { l.getD (fiT l (k : Int)) tu0 with tm := max (l.getD (fiT l (k : Int)) tu0).tm u.tm, on := true }) haid rfl hiv) (onI_set x.inv hh ham.2 x.on (fun b hb => by rw [hM b]; simp [hb]) ?_) hiv⟩
          exact ⟨fun _ => rfl, fun _ => (hM _).2 (.inr rfl)⟩
/-! ### Time -/
def timeT (l : List Tu) (a : Int) : Nat × Bool := if hasT l a = true then ((l.getD (fiT l a) tu0).tm, true) else (0, false)
set_option maxRecDepth 100000 in
set_option maxHeartbeats 8000000 in
theorem time_t (g : Nat) (v : Value) (hl : List Int) (l : List Tu) (a : Int) (w : World) (x : ScI w g v hl l) :
    Calls Tryd.prog 25 #[.pointer (some ⟨g, 0, none⟩), .int .i64 a] w fun e w' => e = .returned (.tuple #[.int .i64 ((timeT l a).1 : Nat), .bool (timeT l a).2]) ∧ w = w' := by
  have HH := Shut.mk (has_any g l _ v a w x.inv x.t.at_)
  unfold timeT
  cases hh : hasT l a with
  | false =>
    rw [hh] at HH
    rw [if_neg (by simp)]
    clear x
    go_enter Tryd.func25, Tryd.ntmps25
    go_wp2_with (fail)
    refine HH.out.mono ?_
    rintro e w' ⟨rfl, rfl⟩
    go_wp2_with (fail)
    go_ret2
    exact ⟨rfl, rfl⟩
  | true =>
    rw [hh] at HH
    rw [if_pos rfl]
    obtain ⟨k, rfl, hk1, hk2⟩ := has_nat x.inv hh
    have hy := x.t.at_.cy (a := k) (by omega)
    rw [show yT l k = (((l.getD (fiT l (k : Int)) tu0).tm : Nat) : Int) by unfold yT; rw [if_pos hh]] at hy
    generalize (l.getD (fiT l (k : Int)) tu0).tm = t at *
    have e3 : (0 : Int) ≤ (k : Int) := by omega
    have e4 : (k : Int) < 17 := by omega
    clear x hh
    go_enter Tryd.func25, Tryd.ntmps25
    go_wp2_with (fail)
    refine HH.out.mono ?_
    rintro e w' ⟨rfl, rfl⟩
    go_wp2_with (fail)
    go_ret2
    exact ⟨rfl, rfl⟩
end Go.Proofs.YtkmblmnffnhpmaaDoor
