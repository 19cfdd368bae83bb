/-
  CONTRACTS of package edca: Contend, End.
-/
import Derived.Test.YtndkmgcmegcieaaDoorEdcaC
import Derived.OwnWalk
namespace Go.Proofs.YtndkmgcmegcieaaDoor
open Go.ChangeShapes Go.WideShapes Go.ChangeAt Go.RowKit Go.Deep
set_option linter.unusedVariables false
set_option linter.unusedSimpArgs false


/-! ### Contend -/
def ansE : Option (Nat × Nat) → Value
  | none => .tuple #[.int .i64 0, .int .i64 0, .bool false]
  | some (a, t) => .tuple #[.int .i64 (a : Nat), .int .i64 (t : Nat), .bool true]
theorem ans_none : ansE none = .tuple #[.int .i64 0, .int .i64 0, .bool false] := rfl
theorem ans_some (a t : Nat) : ansE (some (a, t)) = .tuple #[.int .i64 (a : Nat), .int .i64 (t : Nat), .bool true] := rfl
set_option maxRecDepth 100000 in
set_option maxHeartbeats 8000000 in
theorem eqF (b0 b1 b2 b3 : Bool) (w' : World) : Sem.run Tryd.prog (Op.equalIn 10000 26 (.agg #[.bool b0, .bool b1, .bool b2, .bool b3]) (.agg #[.bool false, .bool false, .bool false, .bool false])) w' = .ok (!b0 && !b1 && !b2 && !b3) w' := by
  cases b0 <;> cases b1 <;> cases b2 <;> cases b3 <;> kernel_rfl
theorem size4b : (Tryd.prog.info? 26).map (·.size) = some 4 := by kernel_rfl
theorem cont_no {e : Ec} {r : Nat → Bool} {d : Nat → Nat} (h : bestE (drawE e r d) r 4 = none) : contE e r d = (⟨e.wd, drawE e r d⟩, none) := by unfold contE; dsimp only; rw [h]
theorem cont_yes {e : Ec} {r : Nat → Bool} {d : Nat → Nat} {a t : Nat} (h : bestE (drawE e r d) r 4 = some (a, t)) : contE e r d = (⟨afterW e (drawE e r d) r a t, afterC (drawE e r d) r a t⟩, some (a, t)) := by unfold contE; dsimp only; rw [h]
/-- those below i are through. -/
def contT (e : Ec) (c : Nat → Nat) (r : Nat → Bool) (win t i : Nat) : Ec := ⟨fun a => if a < i then afterW e c r win t a else e.wd a, fun a => if a < i then afterC c r win t a else c a⟩
def zeroE (x : Ec) (i : Nat) : Ec := ⟨x.wd, fun a => if a = i then 0 else x.ct a⟩
section
variable {e : Ec} {c : Nat → Nat} {r : Nat → Bool} {win t i : Nat}
theorem contT_0 : Like ⟨e.wd, c⟩ (contT e c r win t 0) := fun a ha => by
  show e.wd a = (if a < 0 then afterW e c r win t a else e.wd a) ∧ c a = if a < 0 then afterC c r win t a else c a
  rw [if_neg (by omega), if_neg (by omega)]
  exact ⟨rfl, rfl⟩
theorem contT_4 : Like (contT e c r win t 4) ⟨afterW e c r win t, afterC c r win t⟩ := fun a ha => by
  show (if a < 4 then afterW e c r win t a else e.wd a) = afterW e c r win t a ∧ (if a < 4 then afterC c r win t a else c a) = afterC c r win t a
  rw [if_pos ha, if_pos ha]
  exact ⟨rfl, rfl⟩
theorem contT_at : (contT e c r win t i).ct i = c i ∧ (contT e c r win t i).wd i = e.wd i := by
  show (if i < i then afterC c r win t i else c i) = c i ∧ (if i < i then afterW e c r win t i else e.wd i) = e.wd i
  rw [if_neg (Nat.lt_irrefl _), if_neg (Nat.lt_irrefl _)]
  exact ⟨rfl, rfl⟩
theorem contT_up : (contT e c r win t (i + 1)).ct i = afterC c r win t i ∧ (contT e c r win t (i + 1)).wd i = afterW e c r win t i := by
  show (if i < i + 1 then afterC c r win t i else c i) = _ ∧ (if i < i + 1 then afterW e c r win t i else e.wd i) = _
  rw [if_pos (Nat.lt_succ_self _), if_pos (Nat.lt_succ_self _)]
  exact ⟨rfl, rfl⟩
theorem contT_oth {a : Nat} (h : a ≠ i) : (contT e c r win t (i + 1)).ct a = (contT e c r win t i).ct a ∧ (contT e c r win t (i + 1)).wd a = (contT e c r win t i).wd a := by
  show (if a < i + 1 then afterC c r win t a else c a) = (if a < i then afterC c r win t a else c a) ∧ (if a < i + 1 then afterW e c r win t a else e.wd a) = if a < i then afterW e c r win t a else e.wd a
  by_cases h2 : a < i
  · rw [if_pos h2, if_pos h2, if_pos (by omega), if_pos (by omega)]; exact ⟨rfl, rfl⟩
  · rw [if_neg h2, if_neg h2, if_neg (by omega), if_neg (by omega)]; exact ⟨rfl, rfl⟩
theorem contT_inv (hi : InvE e) (hc : ∀ a, c a ≤ 1024) : InvE (contT e c r win t i) := by
  refine ⟨fun a => ?_, fun a => ?_⟩
  · show (if a < i then afterW e c r win t a else e.wd a) ≤ _
    split
    · unfold afterW
      split
      · exact hi.wd a
      · split
        · exact hi.wider a
        · exact hi.wd a
    · exact hi.wd a
  · show (if a < i then afterC c r win t a else c a) ≤ _
    have := hc a
    split
    · unfold afterC
      split
      · omega
      · split
        · exact this
        · split
          · omega
          · omega
    · exact this
theorem zero_inv {x : Ec} (hi : InvE x) : InvE (zeroE x i) := ⟨hi.wd, fun a => by
  show (if a = i then 0 else x.ct a) ≤ 1024
  split
  · omega
  · exact hi.ct a⟩
theorem zero_to (x : Ec) : ∀ a, a < 4 → bE x a = bE (zeroE x i) a ∧ (if a = i then 0 else kE x a) = kE (zeroE x i) a ∧ (if a = i then false else hE x a) = hE (zeroE x i) a := fun a ha => by
  refine ⟨rfl, ?_, ?_⟩
  · show _ = ((((if a = i then 0 else x.ct a) - 1 : Nat)) : Int)
    by_cases h : a = i
    · rw [if_pos h, if_pos h]; rfl
    · rw [if_neg h, if_neg h]; rfl
  · show _ = decide (0 < if a = i then 0 else x.ct a)
    by_cases h : a = i
    · rw [if_pos h, if_pos h]; rfl
    · rw [if_neg h, if_neg h]; rfl
theorem contT_skip (hr : r i = false) (hw : i ≠ win) : Like (contT e c r win t i) (contT e c r win t (i + 1)) := fun a ha => by
  by_cases h : a = i
  · subst h
    rw [contT_at.1, contT_at.2, contT_up.1, contT_up.2]
    unfold afterC afterW
    rw [if_neg hw, if_pos hr, if_pos (.inr hr)]
    exact ⟨rfl, rfl⟩
  · rw [(contT_oth h).1, (contT_oth h).2]
    exact ⟨rfl, rfl⟩
theorem contT_win : Like (zeroE (contT e c r win t win) win) (contT e c r win t (win + 1)) := fun a ha => by
  show (contT e c r win t win).wd a = _ ∧ (if a = win then 0 else (contT e c r win t win).ct a) = _
  by_cases h : a = win
  · subst h
    rw [contT_at.2, contT_up.1, contT_up.2, if_pos rfl]
    unfold afterC afterW
    rw [if_pos rfl, if_pos (.inl rfl)]
    exact ⟨rfl, rfl⟩
  · rw [(contT_oth h).1, (contT_oth h).2, if_neg h]
    exact ⟨rfl, rfl⟩
theorem contT_tie (hr : r i = true) (hw : i ≠ win) (ht : timeE c i = t) : Like (widE (zeroE (contT e c r win t i) i) i) (contT e c r win t (i + 1)) := fun a ha => by
  show (if a = i then widerE (zeroE (contT e c r win t i) i) i else (contT e c r win t i).wd a) = _ ∧ (if a = i then 0 else (contT e c r win t i).ct a) = _
  by_cases h : a = i
  · subst h
    rw [contT_up.1, contT_up.2, if_pos rfl, if_pos rfl]
    unfold afterC afterW
    have hng : ¬ (a = win ∨ r a = false) := fun h => h.elim hw (fun h => by rw [hr] at h; cases h)
    have hra : ¬ r a = false := by rw [hr]; simp
    rw [if_neg hw, if_neg hra, if_pos ht, if_neg hng, if_pos ht]
    refine ⟨?_, rfl⟩
    have e1 : winE (zeroE (contT e c r win t a) a) a = winE e a := by
      show max ((contT e c r win t a).wd a) (leastE a) = _
      rw [contT_at.2]
      rfl
    unfold widerE
    rw [e1]
  · rw [(contT_oth h).1, (contT_oth h).2, if_neg h, if_neg h]
    exact ⟨rfl, rfl⟩
theorem contT_late (hr : r i = true) (hw : i ≠ win) (ht : t < timeE c i) (hc1 : 1 ≤ c i) (K : Int) (hK : K = ((c i - 1 : Nat) : Int) - max ((t : Int) - (waitE i : Int)) 0) : ∀ a, a < 4 →
    bE (contT e c r win t i) a = bE (contT e c r win t (i + 1)) a ∧ (if a = i then K else kE (contT e c r win t i) a) = kE (contT e c r win t (i + 1)) a ∧ hE (contT e c r win t i) a = hE (contT e c r win t (i + 1)) a := fun a ha => by
  unfold bE kE hE winE
  by_cases h : a = i
  · subst h
    rw [contT_up.1, contT_up.2, contT_at.1, contT_at.2, if_pos rfl]
    unfold afterC afterW
    have ht' : ¬ timeE c a = t := by omega
    have hng : ¬ (a = win ∨ r a = false) := fun h => h.elim hw (fun h => by rw [hr] at h; cases h)
    have hra : ¬ r a = false := by rw [hr]; simp
    rw [if_neg hw, if_neg hra, if_neg ht', if_neg hng, if_neg ht', hK]
    have h1 : timeE c a = waitE a + c a - 1 := rfl
    refine ⟨rfl, by omega, ?_⟩
    rw [decide_eq_decide]
    omega
  · rw [(contT_oth h).1, (contT_oth h).2, if_neg h]
    exact ⟨rfl, rfl, rfl⟩
end
set_option maxRecDepth 100000 in
set_option maxHeartbeats 8000000 in
theorem contend_any (g : Nat) (e : Ec) (r : Nat → Bool) (d : Nat → Nat) (w : World) (hg : IsEd w g e) (hR : Rul w) (hi : InvE e) (hd : ∀ a, a < 4 → d a < 4294967296) :
    Calls Tryd.prog 10 #[.pointer (some ⟨g, 0, none⟩), bA r, uA d] w fun x w' => x = .returned (ansE (contE e r d).2) ∧ IsEd w' g (contE e r d).1 ∧ Only (· = g) w w' := by
  have HD := Shut.mk hd
  have HI := Shut.mk hi
  have HW := Shut.mk (show Below w.heap.size w ((w.alloc (Obj.cells #[.bool (r 0), .bool (r 1), .bool (r 2), .bool (r 3)] 26 (0, 0))).alloc (Obj.cells #[.int .u32 ((d 0 : Nat) : Int), .int .u32 ((d 1 : Nat) : Int), .int .u32 ((d 2 : Nat) : Int), .int .u32 ((d 3 : Nat) : Int)] 33 (0, 0))) from ((Below.refl w.heap.size w).alloc (Nat.le_refl _) _).alloc (by simp) _)
  have HY := Shut.mk (show ((w.alloc (Obj.cells #[.bool (r 0), .bool (r 1), .bool (r 2), .bool (r 3)] 26 (0, 0))).alloc (Obj.cells #[.int .u32 ((d 0 : Nat) : Int), .int .u32 ((d 1 : Nat) : Int), .int .u32 ((d 2 : Nat) : Int), .int .u32 ((d 3 : Nat) : Int)] 33 (0, 0))).heap[w.heap.size]? = some (Obj.cells #[.bool (r 0), .bool (r 1), .bool (r 2), .bool (r 3)] 26 (0, 0)) from (((Below.refl (w.alloc (Obj.cells #[.bool (r 0), .bool (r 1), .bool (r 2), .bool (r 3)] 26 (0, 0))).heap.size (w.alloc (Obj.cells #[.bool (r 0), .bool (r 1), .bool (r 2), .bool (r 3)] 26 (0, 0)))).alloc (Nat.le_refl _) (Obj.cells #[.int .u32 ((d 0 : Nat) : Int), .int .u32 ((d 1 : Nat) : Int), .int .u32 ((d 2 : Nat) : Int), .int .u32 ((d 3 : Nat) : Int)] 33 (0, 0))).block _ (by simp)).trans (MapKept.heap_alloc w (Obj.cells #[.bool (r 0), .bool (r 1), .bool (r 2), .bool (r 3)] 26 (0, 0))).1)
  have HNE := Shut.mk (show w.heap.size ≠ g from by have := lt_blk hg; omega)
  have HG := Shut.mk (hg.below HW.out)
  have HR := Shut.mk (hR.below HW.out)
  have HGR := Shut.mk (rul_ne hR hg)
  have heq := eqF (r 0) (r 1) (r 2) (r 3)
  unfold bA uA
  clear hg hR hi hd
  cases hb : bestE (drawE e r d) r 4 with
  | none =>
    have hn := best_none.1 hb
    rw [hn 0 (by decide), hn 1 (by decide), hn 2 (by decide), hn 3 (by decide)] at heq HW HG ⊢
    have HE := Shut.mk (cont_no hb)
    have HLK := Shut.mk (show Like e (contE e r d).1 from fun a ha => by rw [cont_no hb]; exact ⟨rfl, (draw_keep (hn a ha)).symm⟩)
    clear hb hn HY HR HD HI
    go_enter Tryd.func10, Tryd.ntmps10
    go_wp2_with (fail)
    go_ret3
    refine ⟨?_, HG.out.like HLK.out, Only.of_quiet HW.out⟩
    rw [HE.out, ans_none]
    rfl
  | some p =>
  obtain ⟨win, t⟩ := p
  obtain ⟨hwin, hrw, htw, hmin, hlast⟩ := best_some hb
  have HWI := Shut.mk hwin
  have HRW := Shut.mk hrw
  have HTW := Shut.mk htw
  have HMN := Shut.mk hmin
  have HE := Shut.mk (cont_yes hb)
  have HWV := Shut.mk (show winI (bestE (drawE e r d) r 4) = (win : Int) by rw [hb]; rfl)
  have HCR := Shut.mk (show ∀ a, r a = true → 1 ≤ drawE e r d a from fun a ha => InvE.ready (e := e) r d ha)
  have HCB := Shut.mk (show ∀ a, drawE e r d a ≤ 1024 from fun a => HI.out.draw r d a)
  have HT9 := Shut.mk (show t ≤ 1030 from by
    have h1 := HCB.out win
    have h2 := wait_le win
    rw [htw]
    unfold timeE
    omega)
  have hany : (!(r 0) && !(r 1) && !(r 2) && !(r 3)) = false := by
    have : win = 0 ∨ win = 1 ∨ win = 2 ∨ win = 3 := by omega
    rcases this with rfl | rfl | rfl | rfl <;> rw [hrw] <;> simp
  rw [hany] at heq
  clear hb hwin hrw htw hmin hlast hany
  go_enter Tryd.func10, Tryd.ntmps10
  go_wp2_with (fail)
  generalize World.alloc (World.alloc w _) _ = w1 at *
  obtain ⟨hx, hhx⟩ : ∃ h, h = w.heap.size := ⟨_, rfl⟩
  rw [← hhx] at HY HNE ⊢
  clear hhx heq
  refine (draw_any g e r d w1 HG.out HR.out HI.out HD.out).mono ?_
  rintro x w2 ⟨rfl, hG, hO⟩
  obtain ⟨c, hc⟩ : ∃ c, c = drawE e r d := ⟨_, rfl⟩
  rw [← hc] at hG HTW HMN HE HWV HCR HCB
  have HG2 := Shut.mk hG
  have HO2 := Shut.mk hO
  have HR2 := Shut.mk (HR.out.only hO HGR.out)
  have HY2 := Shut.mk (hO.at_ HY.out HNE.out)
  have HI2 := Shut.mk (show InvE ⟨e.wd, c⟩ from ⟨HI.out.wd, HCB.out⟩)
  clear hc hG hO HG HY HR
  go_wp2_with (refine wpList_load_row rfl 26 (.tmp 4) rfl hx rfl 26 #[.bool (r 0), .bool (r 1), .bool (r 2), .bool (r 3)] (0, 0) _ HY2.out Tryd.underlying26 rfl size4b ?_)
  refine (soonest_any g ⟨e.wd, c⟩ r w2 HG2.out HR2.out HI2.out (fun a ha hra => HCR.out a hra)).mono ?_
  rintro x w3 ⟨rfl, hB⟩
  rw [show winI (bestE (Ec.mk e.wd c).ct r 4) = (win : Int) from HWV.out]
  have HG3 := Shut.mk (HG2.out.below hB)
  have HO3 := Shut.mk (HO2.out.then_quiet hB)
  have HR3 := Shut.mk (HR2.out.below hB)
  have HY3 := Shut.mk ((hB.block _ (lt_blk HY2.out)).trans HY2.out)
  clear hB HG2 HO2 HR2 HY2
  go_wp2_with (fail)
  refine (time_any g ⟨e.wd, c⟩ win w3 HG3.out HR3.out HWI.out (HCR.out win HRW.out) (HCB.out win)).mono ?_
  rintro x w4 ⟨rfl, hB⟩
  rw [show timeE (Ec.mk e.wd c).ct win = t from HTW.out.symm]
  have HG4 := Shut.mk (HG3.out.below hB)
  have HO4 := Shut.mk (HO3.out.then_quiet hB)
  have HY4 := Shut.mk ((hB.block _ (lt_blk HY3.out)).trans HY3.out)
  have HR4 := Shut.mk (HR3.out.below hB)
  clear hB HG3 HO3 HR3 HY3
  go_wp2_with (refine wpList_load_row rfl 26 (.tmp 4) rfl hx rfl 26 #[.bool (r 0), .bool (r 1), .bool (r 2), .bool (r 3)] (0, 0) _ HY4.out Tryd.underlying26 rfl size4b ?_)
  go_loopw [11, 12, 27] (fun _ _ s27 wr => ∃ i : Nat, i ≤ 4 ∧ s27 = .int .i64 (i : Int) ∧ Shut (IsEd wr g (contT e c r win t i)) ∧ Shut (Only (· = g) w4 wr)) (fun _ _ s27 _ => 4 - (intOf s27).toNat)
  case atStart => exact ⟨0, Nat.zero_le _, rfl, ⟨HG4.out.like contT_0⟩, ⟨Only.refl _ _⟩⟩
  case round =>
    clear HG4
    obtain ⟨i, hi, rfl, HG, HO⟩ := hrel
    by_cases hlt : i < 4
    · have hl2 : (i : Int) < 4 := by omega
      have HL := Shut.mk hlt
      have hix := idxB r i hlt
      have HRR := Shut.mk (HR4.out.only HO.out HGR.out)
      obtain ⟨ri, hri⟩ : ∃ b, b = r i := ⟨_, rfl⟩
      rw [← hri] at hix
      have HRI := Shut.mk hri
      clear hri hi hlt
      unfold bA at hix
      cases ri with
      | false =>
        have HIW := Shut.mk (show i ≠ win from fun h => by have h1 := HRW.out; rw [← h, ← HRI.out] at h1; cases h1)
        go_wp2_with (fail)
        go_roundw
        case rel => exact ⟨i + 1, HL.out, by go_num, ⟨HG.out.like (contT_skip HRI.out.symm HIW.out)⟩, HO⟩
        case measure => have := HL.out; simp [intOf]; omega
      | true =>
        have HCI := Shut.mk (HCR.out i HRI.out.symm)
        have HCI2 := Shut.mk (HCB.out i)
        have HTI := Shut.mk (HMN.out i HL.out HRI.out.symm)
        have HEI := Shut.mk (contT_inv (e := e) (c := c) (r := r) (win := win) (t := t) (i := i) HI.out HCB.out)
        go_wp2_with (fail)
        clear hix
        refine (time_any g (contT e c r win t i) i wr HG.out HRR.out HL.out (by rw [contT_at.1]; exact HCI.out) (by rw [contT_at.1]; exact HCI2.out)).mono ?_
        rintro x wq ⟨rfl, hB⟩
        rw [show timeE (contT e c r win t i).ct i = timeE c i by unfold timeE; rw [contT_at.1]]
        have HGq := Shut.mk (HG.out.below hB)
        have HOq := Shut.mk (HO.out.then_quiet hB)
        have HRq := Shut.mk (HRR.out.below hB)
        clear hB HG HO HRR HR4
        obtain ⟨ti, hti⟩ : ∃ ti, ti = timeE c i := ⟨_, rfl⟩
        rw [← hti] at HTI ⊢
        have HTT := Shut.mk hti
        clear hti
        by_cases hlate : t < ti
        · have hl3 : (t : Int) < (ti : Int) := by omega
          have HLT := Shut.mk hlate
          have HIW := Shut.mk (show i ≠ win from fun h => by have h1 := HTW.out; rw [← h, ← HTT.out] at h1; omega)
          obtain ⟨x, hx'⟩ : ∃ x, x = waitE i := ⟨_, rfl⟩
          obtain ⟨y, hy⟩ : ∃ y, y = c i - 1 := ⟨_, rfl⟩
          have HKC := Shut.mk (show wq.cell? ⟨g, 4 + i, none⟩ = some (.int .i64 ((y : Nat) : Int)) by have h1 := At12.k HGq.out HL.out; unfold kE at h1; rw [contT_at.1, ← hy] at h1; exact h1)
          have HWC := Shut.mk (show wq.cell? ⟨0, i * 3, none⟩ = some (.int .i64 ((x : Nat) : Int)) by rw [hx']; exact HRq.out.wait i HL.out)
          obtain ⟨KV, hK⟩ : ∃ K : Int, K = ((y : Nat) : Int) - max ((t : Int) - (x : Int)) 0 := ⟨_, rfl⟩
          have HKK := Shut.mk (show KV = ((c i - 1 : Nat) : Int) - max ((t : Int) - (waitE i : Int)) 0 by rw [hK, hy, hx'])
          have hx7 : x ≤ 7 := by rw [hx']; exact wait_le i
          have ht9 := HT9.out
          have hy9 : y ≤ 1024 := by have := HCI2.out; omega
          have y1 : IntKind.i64.wrap ((t : Int) - (x : Int)) = (t : Int) - (x : Int) := IntWalk.i64_in _ ⟨by omega, by omega⟩
          have y2 : IntKind.i64.wrap ((y : Int) - max ((t : Int) - (x : Int)) 0) = KV := by rw [IntWalk.i64_in _ ⟨by omega, by omega⟩, hK]
          clear hx' hy hK hx7 ht9 hy9 hlate
          go_wp2_with (fail)
          refine wp_region_D (fun w' => Below wq.heap.size wq w') 17 (by kernel_rfl) (show Below wq.heap.size wq (World.drew wq) from (Below.refl _ _).drew) (fun hHeld hC => ?_)
          obtain ⟨w5, hw5⟩ : ∃ w5, w5 = World.drew wq := ⟨_, rfl⟩
          rw [← hw5] at hHeld ⊢
          clear hw5
          refine wpAnyD_pure (i := 0) (v := ?_) rfl hC (by kernel_rfl) (by kernel_rfl) (by kernel_rfl) (by decide) (fun _ _ _ h => h) (Or.inl ⟨by rfl, ?_⟩) (fun _ => hHeld) ?_
          rotate_left
          · intro w hSw
            clear hSw
            go_simp
            try with_reducible rfl
          try simp only [Act.put, List.getElem_toArray, List.getElem_cons_zero, List.getElem_cons_succ, List.setIfInBounds_toArray, List.set_cons_zero, List.set_cons_succ]
          clear hC
          intro hC
          refine wpAnyD_pure (i := 1) (v := ?_) rfl hC (by kernel_rfl) (by kernel_rfl) (by kernel_rfl) (by decide) (fun _ _ _ h => h) (Or.inl ⟨by rfl, ?_⟩) (fun _ => hHeld) ?_
          rotate_left
          · intro w hSw
            clear hSw
            go_simp
            try with_reducible rfl
          try simp only [Act.put, List.getElem_toArray, List.getElem_cons_zero, List.getElem_cons_succ, List.setIfInBounds_toArray, List.set_cons_zero, List.set_cons_succ]
          clear hC
          intro hC
          refine wpAnyD_pure (i := 2) (v := ?_) rfl hC (by kernel_rfl) (by kernel_rfl) (by kernel_rfl) (by decide) (fun _ _ _ h => h) (Or.inl ⟨by rfl, ?_⟩) (fun _ => hHeld) ?_
          rotate_left
          · intro w hSw
            clear hSw
            go_simp
            try with_reducible rfl
          try simp only [Act.put, List.getElem_toArray, List.getElem_cons_zero, List.getElem_cons_succ, List.setIfInBounds_toArray, List.set_cons_zero, List.set_cons_succ]
          clear hC
          intro hC
          refine wpAnyD_pure (i := 3) (v := ?_) rfl hC (by kernel_rfl) (by kernel_rfl) (by kernel_rfl) (by decide) (fun _ _ _ h => h) (Or.inl ⟨by rfl, ?_⟩) (fun _ => hHeld) ?_
          rotate_left
          · intro w hSw
            clear hSw
            go_simp
            try with_reducible rfl
          try simp only [Act.put, List.getElem_toArray, List.getElem_cons_zero, List.getElem_cons_succ, List.setIfInBounds_toArray, List.set_cons_zero, List.set_cons_succ]
          clear hC
          intro hC
          refine wpAnyD_pure (i := 4) (v := ?_) rfl hC (by kernel_rfl) (by kernel_rfl) (by kernel_rfl) (by decide) (fun _ _ _ h => h) (Or.inl ⟨by rfl, ?_⟩) (fun _ => hHeld) ?_
          rotate_left
          · intro w hSw
            clear hSw
            go_simp
            try with_reducible rfl
          try simp only [Act.put, List.getElem_toArray, List.getElem_cons_zero, List.getElem_cons_succ, List.setIfInBounds_toArray, List.set_cons_zero, List.set_cons_succ]
          clear hC
          intro hC
          refine wpAnyD_take (i := 5) (v := ?_) 40 rfl (by kernel_rfl) hC (by kernel_rfl) (by kernel_rfl) (by kernel_rfl) (by decide) (fun _ _ _ h => h) (Or.inl ⟨by rfl, ?_⟩) (fun _ => hHeld) ?_
          rotate_left
          · intro w hSw
            have hz := (show w.cell? ⟨g, 4 + i, none⟩ = some (.int .i64 ((y : Nat) : Int)) from below_at hSw HKC.out)
            clear hSw
            go_simp
            try with_reducible rfl
          try simp only [Act.put, List.getElem_toArray, List.getElem_cons_zero, List.getElem_cons_succ, List.setIfInBounds_toArray, List.set_cons_zero, List.set_cons_succ]
          clear hC
          intro hC
          refine wpAnyD_pure (i := 6) (v := ?_) rfl hC (by kernel_rfl) (by kernel_rfl) (by kernel_rfl) (by decide) (fun _ _ _ h => h) (Or.inl ⟨by rfl, ?_⟩) (fun _ => hHeld) ?_
          rotate_left
          · intro w hSw
            clear hSw
            go_simp
            try with_reducible rfl
          try simp only [Act.put, List.getElem_toArray, List.getElem_cons_zero, List.getElem_cons_succ, List.setIfInBounds_toArray, List.set_cons_zero, List.set_cons_succ]
          clear hC
          intro hC
          refine wpAnyD_pure (i := 7) (v := ?_) rfl hC (by kernel_rfl) (by kernel_rfl) (by kernel_rfl) (by decide) (fun _ _ _ h => h) (Or.inl ⟨by rfl, ?_⟩) (fun _ => hHeld) ?_
          rotate_left
          · intro w hSw
            clear hSw
            go_simp
            try with_reducible rfl
          try simp only [Act.put, List.getElem_toArray, List.getElem_cons_zero, List.getElem_cons_succ, List.setIfInBounds_toArray, List.set_cons_zero, List.set_cons_succ]
          clear hC
          intro hC
          refine wpAnyD_pure (i := 8) (v := ?_) rfl hC (by kernel_rfl) (by kernel_rfl) (by kernel_rfl) (by decide) (fun _ _ _ h => h) (Or.inl ⟨by rfl, ?_⟩) (fun _ => hHeld) ?_
          rotate_left
          · intro w hSw
            clear hSw
            go_simp
            try with_reducible rfl
          try simp only [Act.put, List.getElem_toArray, List.getElem_cons_zero, List.getElem_cons_succ, List.setIfInBounds_toArray, List.set_cons_zero, List.set_cons_succ]
          clear hC
          intro hC
          refine wpAnyD_pure (i := 9) (v := ?_) rfl hC (by kernel_rfl) (by kernel_rfl) (by kernel_rfl) (by decide) (fun _ _ _ h => h) (Or.inl ⟨by rfl, ?_⟩) (fun _ => hHeld) ?_
          rotate_left
          · intro w hSw
            clear hSw
            go_simp
            try with_reducible rfl
          try simp only [Act.put, List.getElem_toArray, List.getElem_cons_zero, List.getElem_cons_succ, List.setIfInBounds_toArray, List.set_cons_zero, List.set_cons_succ]
          clear hC
          intro hC
          refine wpAnyD_take (i := 10) (v := ?_) 40 rfl (by kernel_rfl) hC (by kernel_rfl) (by kernel_rfl) (by kernel_rfl) (by decide) (fun _ _ _ h => h) (Or.inl ⟨by rfl, ?_⟩) (fun _ => hHeld) ?_
          rotate_left
          · intro w hSw
            have hz := (show w.cell? ⟨0, i * 3, none⟩ = some (.int .i64 ((x : Nat) : Int)) from below_at hSw HWC.out)
            clear hSw
            go_simp
            try with_reducible rfl
          try simp only [Act.put, List.getElem_toArray, List.getElem_cons_zero, List.getElem_cons_succ, List.setIfInBounds_toArray, List.set_cons_zero, List.set_cons_succ]
          clear hC
          intro hC
          refine wpAnyD_pure (i := 11) (v := ?_) rfl hC (by kernel_rfl) (by kernel_rfl) (by kernel_rfl) (by decide) (fun _ _ _ h => h) (Or.inl ⟨by rfl, ?_⟩) (fun _ => hHeld) ?_
          rotate_left
          · intro w hSw
            clear hSw
            go_simp
            try with_reducible rfl
          try simp only [Act.put, List.getElem_toArray, List.getElem_cons_zero, List.getElem_cons_succ, List.setIfInBounds_toArray, List.set_cons_zero, List.set_cons_succ]
          clear hC
          intro hC
          refine wpAnyD_pure (i := 12) (v := ?_) rfl hC (by kernel_rfl) (by kernel_rfl) (by kernel_rfl) (by decide) (fun _ _ _ h => h) (Or.inl ⟨by rfl, ?_⟩) (fun _ => hHeld) ?_
          rotate_left
          · intro w hSw
            clear hSw
            go_simp
            try with_reducible rfl
          try simp only [Act.put, List.getElem_toArray, List.getElem_cons_zero, List.getElem_cons_succ, List.setIfInBounds_toArray, List.set_cons_zero, List.set_cons_succ]
          clear hC
          intro hC
          refine wpAnyD_pure (i := 13) (v := ?_) rfl hC (by kernel_rfl) (by kernel_rfl) (by kernel_rfl) (by decide) (fun _ _ _ h => h) (Or.inl ⟨by rfl, ?_⟩) (fun _ => hHeld) ?_
          rotate_left
          · intro w hSw
            clear hSw
            go_simp
            try with_reducible rfl
          try simp only [Act.put, List.getElem_toArray, List.getElem_cons_zero, List.getElem_cons_succ, List.setIfInBounds_toArray, List.set_cons_zero, List.set_cons_succ]
          clear hC
          intro hC
          refine wpAnyD_pure (i := 14) (v := ?_) rfl hC (by kernel_rfl) (by kernel_rfl) (by kernel_rfl) (by decide) (fun _ _ _ h => h) (Or.inl ⟨by rfl, ?_⟩) (fun _ => hHeld) ?_
          rotate_left
          · intro w hSw
            clear hSw
            go_simp
            try with_reducible rfl
          try simp only [Act.put, List.getElem_toArray, List.getElem_cons_zero, List.getElem_cons_succ, List.setIfInBounds_toArray, List.set_cons_zero, List.set_cons_succ]
          clear hC
          intro hC
          refine wpAnyD_pure (i := 15) (v := ?_) rfl hC (by kernel_rfl) (by kernel_rfl) (by kernel_rfl) (by decide) (fun _ _ _ h => h) (Or.inl ⟨by rfl, ?_⟩) (fun _ => hHeld) ?_
          rotate_left
          · intro w hSw
            clear hSw
            go_simp
            try with_reducible rfl
          try simp only [Act.put, List.getElem_toArray, List.getElem_cons_zero, List.getElem_cons_succ, List.setIfInBounds_toArray, List.set_cons_zero, List.set_cons_succ]
          clear hC
          intro hC
          refine wpAnyD_pure (i := 16) (v := ?_) rfl hC (by kernel_rfl) (by kernel_rfl) (by kernel_rfl) (by decide) (fun _ _ _ h => h) (Or.inl ⟨by rfl, ?_⟩) (fun _ => hHeld) ?_
          rotate_left
          · intro w hSw
            clear hSw
            go_simp
            try with_reducible rfl
          try simp only [Act.put, List.getElem_toArray, List.getElem_cons_zero, List.getElem_cons_succ, List.setIfInBounds_toArray, List.set_cons_zero, List.set_cons_succ]
          clear hC
          intro hC
          refine wpAnyD_one (i := 17) (by kernel_rfl) rfl hC (fun K hK => ?_)
          clear hC
          refine step_store_into rfl 3 (.tmp 72) (.tmp 69) rfl g (4 + i) (.int .i64 KV) rfl rfl rfl 28 _ _ (HGq.out.below hHeld) size1i (by show 4 + i < 12; have := HL.out; omega) (set_k _ _ _ HL.out _) ?_
          have HX2 := Shut.mk (At12.set (b' := bE (contT e c r win t i)) (k' := fun j => if j = i then KV else kE (contT e c r win t i) j) (h' := hE (contT e c r win t i)) (HGq.out.below hHeld))
          have HO2 := Shut.mk (only_below (g := g) hHeld (c12 (bE (contT e c r win t i)) (fun j => if j = i then KV else kE (contT e c r win t i) j) (hE (contT e c r win t i))))
          generalize hq : World.setRow w5 g _ = w1 at *
          clear hq
          refine hK.out _ _ (past (by kernel_rfl)) (fun hC => ?_)
          clear hK K
          try simp only [Act.put, List.getElem_toArray, List.getElem_cons_zero, List.getElem_cons_succ, List.setIfInBounds_toArray, List.set_cons_zero, List.set_cons_succ]
          refine wpAnyD_done (by kernel_rfl) ?_ _
          try simp only [Act.put, List.getElem_toArray, List.getElem_cons_zero, List.getElem_cons_succ, List.setIfInBounds_toArray, List.set_cons_zero, List.set_cons_succ]
          clear hC hHeld y1 y2
          go_wp2_with (fail)
          go_roundw
          case rel => exact ⟨i + 1, HL.out, by go_num, ⟨HX2.out.to (contT_late HRI.out.symm HIW.out (by have := HLT.out; have := HTT.out; omega) HCI.out KV HKK.out)⟩, ⟨HOq.out.trans (T := (· = g)) HO2.out (fun _ _ h => h)⟩⟩
          case measure => have := HL.out; simp [intOf]; omega
        · have hl3 : ¬ (t : Int) < (ti : Int) := by omega
          have HTE := Shut.mk (show timeE c i = t by have := HTI.out; have := HTT.out; omega)
          clear hlate
          go_wp2_with (fail)
          refine wp_region_D (fun w' => Below wq.heap.size wq w') 7 (by kernel_rfl) (show Below wq.heap.size wq (World.drew wq) from (Below.refl _ _).drew) (fun hHeld hC => ?_)
          obtain ⟨w5, hw5⟩ : ∃ w5, w5 = World.drew wq := ⟨_, rfl⟩
          rw [← hw5] at hHeld ⊢
          clear hw5
          refine wpAnyD_pure (i := 0) (v := ?_) rfl hC (by kernel_rfl) (by kernel_rfl) (by kernel_rfl) (by decide) (fun _ _ _ h => h) (Or.inl ⟨by rfl, ?_⟩) (fun _ => hHeld) ?_
          rotate_left
          · intro w hSw
            clear hSw
            go_simp
            try with_reducible rfl
          try simp only [Act.put, List.getElem_toArray, List.getElem_cons_zero, List.getElem_cons_succ, List.setIfInBounds_toArray, List.set_cons_zero, List.set_cons_succ]
          clear hC
          intro hC
          refine wpAnyD_pure (i := 1) (v := ?_) rfl hC (by kernel_rfl) (by kernel_rfl) (by kernel_rfl) (by decide) (fun _ _ _ h => h) (Or.inl ⟨by rfl, ?_⟩) (fun _ => hHeld) ?_
          rotate_left
          · intro w hSw
            clear hSw
            go_simp
            try with_reducible rfl
          try simp only [Act.put, List.getElem_toArray, List.getElem_cons_zero, List.getElem_cons_succ, List.setIfInBounds_toArray, List.set_cons_zero, List.set_cons_succ]
          clear hC
          intro hC
          refine wpAnyD_pure (i := 2) (v := ?_) rfl hC (by kernel_rfl) (by kernel_rfl) (by kernel_rfl) (by decide) (fun _ _ _ h => h) (Or.inl ⟨by rfl, ?_⟩) (fun _ => hHeld) ?_
          rotate_left
          · intro w hSw
            clear hSw
            go_simp
            try with_reducible rfl
          try simp only [Act.put, List.getElem_toArray, List.getElem_cons_zero, List.getElem_cons_succ, List.setIfInBounds_toArray, List.set_cons_zero, List.set_cons_succ]
          clear hC
          intro hC
          refine wpAnyD_pure (i := 3) (v := ?_) rfl hC (by kernel_rfl) (by kernel_rfl) (by kernel_rfl) (by decide) (fun _ _ _ h => h) (Or.inl ⟨by rfl, ?_⟩) (fun _ => hHeld) ?_
          rotate_left
          · intro w hSw
            clear hSw
            go_simp
            try with_reducible rfl
          try simp only [Act.put, List.getElem_toArray, List.getElem_cons_zero, List.getElem_cons_succ, List.setIfInBounds_toArray, List.set_cons_zero, List.set_cons_succ]
          clear hC
          intro hC
          refine wpAnyD_pure (i := 4) (v := ?_) rfl hC (by kernel_rfl) (by kernel_rfl) (by kernel_rfl) (by decide) (fun _ _ _ h => h) (Or.inl ⟨by rfl, ?_⟩) (fun _ => hHeld) ?_
          rotate_left
          · intro w hSw
            clear hSw
            go_simp
            try with_reducible rfl
          try simp only [Act.put, List.getElem_toArray, List.getElem_cons_zero, List.getElem_cons_succ, List.setIfInBounds_toArray, List.set_cons_zero, List.set_cons_succ]
          clear hC
          intro hC
          refine wpAnyD_pure (i := 5) (v := ?_) rfl hC (by kernel_rfl) (by kernel_rfl) (by kernel_rfl) (by decide) (fun _ _ _ h => h) (Or.inl ⟨by rfl, ?_⟩) (fun _ => hHeld) ?_
          rotate_left
          · intro w hSw
            clear hSw
            go_simp
            try with_reducible rfl
          try simp only [Act.put, List.getElem_toArray, List.getElem_cons_zero, List.getElem_cons_succ, List.setIfInBounds_toArray, List.set_cons_zero, List.set_cons_succ]
          clear hC
          intro hC
          refine wpAnyD_pure (i := 6) (v := ?_) rfl hC (by kernel_rfl) (by kernel_rfl) (by kernel_rfl) (by decide) (fun _ _ _ h => h) (Or.inl ⟨by rfl, ?_⟩) (fun _ => hHeld) ?_
          rotate_left
          · intro w hSw
            clear hSw
            go_simp
            try with_reducible rfl
          try simp only [Act.put, List.getElem_toArray, List.getElem_cons_zero, List.getElem_cons_succ, List.setIfInBounds_toArray, List.set_cons_zero, List.set_cons_succ]
          clear hC
          intro hC
          refine wpAnyD_pure (i := 8) (v := ?_) rfl hC (by kernel_rfl) (by kernel_rfl) (by kernel_rfl) (by decide) (fun _ _ _ h => h) (Or.inl ⟨by rfl, ?_⟩) (fun _ => hHeld) ?_
          rotate_left
          · intro w hSw
            clear hSw
            go_simp
            try with_reducible rfl
          try simp only [Act.put, List.getElem_toArray, List.getElem_cons_zero, List.getElem_cons_succ, List.setIfInBounds_toArray, List.set_cons_zero, List.set_cons_succ]
          clear hC
          intro hC
          refine wpAnyD_pure (i := 9) (v := ?_) rfl hC (by kernel_rfl) (by kernel_rfl) (by kernel_rfl) (by decide) (fun _ _ _ h => h) (Or.inl ⟨by rfl, ?_⟩) (fun _ => hHeld) ?_
          rotate_left
          · intro w hSw
            clear hSw
            go_simp
            try with_reducible rfl
          try simp only [Act.put, List.getElem_toArray, List.getElem_cons_zero, List.getElem_cons_succ, List.setIfInBounds_toArray, List.set_cons_zero, List.set_cons_succ]
          clear hC
          intro hC
          refine wpAnyD_one (i := 7) (by kernel_rfl) rfl hC (fun K hK => ?_)
          clear hC
          refine step_store_into rfl 3 (.tmp 37) (.const (.int .i64 0)) rfl g (4 + i) (.int .i64 0) rfl rfl rfl 28 _ _ (HGq.out.below hHeld) size1i (by show 4 + i < 12; have := HL.out; omega) (set_k _ _ _ HL.out _) ?_
          have HX2 := Shut.mk (At12.set (b' := bE (contT e c r win t i)) (k' := fun j => if j = i then 0 else kE (contT e c r win t i) j) (h' := hE (contT e c r win t i)) (HGq.out.below hHeld))
          have HO2 := Shut.mk (only_below (g := g) hHeld (c12 (bE (contT e c r win t i)) (fun j => if j = i then 0 else kE (contT e c r win t i) j) (hE (contT e c r win t i))))
          generalize hq : World.setRow w5 g _ = w1 at *
          clear hq
          refine hK.out _ _ (past (by kernel_rfl)) (fun hC => ?_)
          clear hK K
          try simp only [Act.put, List.getElem_toArray, List.getElem_cons_zero, List.getElem_cons_succ, List.setIfInBounds_toArray, List.set_cons_zero, List.set_cons_succ]
          refine wpAnyD_pure (i := 10) (v := ?_) rfl hC (by kernel_rfl) (by kernel_rfl) (by kernel_rfl) (by decide) (fun _ _ _ h => h) (Or.inl ⟨by rfl, ?_⟩) (past (by kernel_rfl)) ?_
          rotate_left
          · intro w hSw
            clear hSw
            go_simp
            try with_reducible rfl
          try simp only [Act.put, List.getElem_toArray, List.getElem_cons_zero, List.getElem_cons_succ, List.setIfInBounds_toArray, List.set_cons_zero, List.set_cons_succ]
          clear hC
          intro hC
          refine wpAnyD_one (i := 11) (by kernel_rfl) rfl hC (fun K hK => ?_)
          clear hC
          refine step_store_into rfl 4 (.tmp 40) (.const (.bool false)) rfl g (8 + i) (.bool false) rfl rfl rfl 28 _ _ HX2.out size1b (by show 8 + i < 12; have := HL.out; omega) (set_h _ _ _ HL.out _) ?_
          have HX3 := Shut.mk (At12.set (b' := bE (contT e c r win t i)) (k' := fun j => if j = i then 0 else kE (contT e c r win t i) j) (h' := fun j => if j = i then false else hE (contT e c r win t i) j) HX2.out)
          have HO3 := Shut.mk (HO2.out.setRow (g := g) (fun _ => rfl) (c12 (bE (contT e c r win t i)) (fun j => if j = i then 0 else kE (contT e c r win t i) j) (fun j => if j = i then false else hE (contT e c r win t i) j)))
          generalize hq : World.setRow w1 g _ = w2 at *
          clear hq
          refine hK.out _ _ (past (by kernel_rfl)) (fun hC => ?_)
          clear hK K
          try simp only [Act.put, List.getElem_toArray, List.getElem_cons_zero, List.getElem_cons_succ, List.setIfInBounds_toArray, List.set_cons_zero, List.set_cons_succ]
          refine wpAnyD_done (by kernel_rfl) ?_ _
          try simp only [Act.put, List.getElem_toArray, List.getElem_cons_zero, List.getElem_cons_succ, List.setIfInBounds_toArray, List.set_cons_zero, List.set_cons_succ]
          clear hC hHeld
          have HZ3 := Shut.mk (HX3.out.to (zero_to (contT e c r win t i)))
          by_cases hiw : i = win
          · subst hiw
            go_wp2_with (fail)
            go_roundw
            case rel => exact ⟨i + 1, HL.out, by go_num, ⟨HZ3.out.like contT_win⟩, ⟨HOq.out.trans (T := (· = g)) HO3.out (fun _ _ h => h)⟩⟩
            case measure => have := HL.out; simp [intOf]; omega
          · have HIW := Shut.mk hiw
            have e1 : ((i : Int) != (win : Int)) = true := by simp; omega
            have HR3 := Shut.mk (HRq.out.only HO3.out HGR.out)
            clear hiw
            go_wp2_with (fail)
            clear e1
            refine (widen_any g _ i _ HZ3.out HR3.out HL.out (zero_inv HEI.out)).mono ?_
            rintro x wz ⟨rfl, hG, hO⟩
            have HGz := Shut.mk (hG.like (contT_tie HRI.out.symm HIW.out HTE.out))
            have HOz := Shut.mk ((HOq.out.trans (T := (· = g)) HO3.out (fun _ _ h => h)).trans (T := (· = g)) hO (fun _ _ h => h))
            clear hG hO
            go_wp2_with (fail)
            go_roundw
            case rel => exact ⟨i + 1, HL.out, by go_num, HGz, HOz⟩
            case measure => have := HL.out; simp [intOf]; omega
    · obtain rfl : i = 4 := by omega
      go_wp2_with (fail)
      go_ret3
      refine ⟨?_, ?_, ?_⟩
      · rw [HE.out, ans_some]; rfl
      · rw [HE.out]; exact HG.out.like contT_4
      · exact ((Only.of_quiet HW.out).trans (T := (· = g)) HO4.out (fun _ _ h => h)).trans (T := (· = g)) HO.out (fun _ _ h => h)

/-! ### End -/
theorem endE_ill (e : Ec) (a : Nat) : endE e a false = widE e a := rfl
theorem well_to (e : Ec) (a : Nat) : ∀ b, b < 4 → (if b = a then 0 else bE e b) = bE (endE e a true) b ∧ kE e b = kE (endE e a true) b ∧ hE e b = hE (endE e a true) b := fun b hb => by
  refine ⟨?_, rfl, rfl⟩
  show _ = (((max (if b = a then 0 else e.wd b) (leastE b)) - leastE b : Nat) : Int)
  by_cases h : b = a
  · rw [if_pos h, if_pos h]; omega
  · rw [if_neg h, if_neg h]; rfl
set_option maxRecDepth 100000 in
set_option maxHeartbeats 8000000 in
theorem end_in (g : Nat) (e : Ec) (a : Nat) (well : Bool) (w : World) (hg : IsEd w g e) (hR : Rul w) (ha : a < 4) (hi : InvE e) :
    Calls Tryd.prog 13 #[.pointer (some ⟨g, 0, none⟩), .int .i64 (a : Nat), .bool well] w fun r w' => r = .returned .nilIface ∧ IsEd w' g (endE e a well) ∧ Only (· = g) w w' := by
  have HI := Shut.mk (isac_any (a : Int) w)
  rw [show isB (a : Int) = true by unfold isB; simp; omega] at HI
  have HG := Shut.mk hg
  have HA := Shut.mk ha
  have hai : (a : Int) < 4 := by omega
  cases well with
  | false =>
    have HD := Shut.mk (widen_any g e a w hg hR ha hi)
    clear hg hR ha hi
    go_enter Tryd.func13, Tryd.ntmps13
    go_wp2_with (fail)
    refine HI.out.mono ?_
    rintro r w' ⟨rfl, rfl⟩
    go_wp2_with (fail)
    refine HD.out.mono ?_
    rintro r w' ⟨rfl, hG, hO⟩
    go_wp2_with (fail)
    go_ret
    exact ⟨rfl, hG, hO⟩
  | true =>
    have HX2 := Shut.mk (At12.set (b' := fun j => if j = a then 0 else bE e j) (k' := kE e) (h' := hE e) hg)
    have HO2 := Shut.mk (only_setRow w g (c12 (fun j => if j = a then 0 else bE e j) (kE e) (hE e)))
    clear hg hR ha hi
    go_enter Tryd.func13, Tryd.ntmps13
    go_wp2_with (fail)
    refine HI.out.mono ?_
    rintro r w' ⟨rfl, rfl⟩
    go_wp2_with (refine wpList_store_into rfl 3 (.tmp 21) (.const (.int .i64 0)) rfl g a (.int .i64 0) rfl rfl rfl 28 _ _ HG.out size1i (by show a < 12; have := HA.out; omega) (set_b _ _ _ HA.out _) ?_)
    go_ret
    exact ⟨rfl, HX2.out.to (well_to e a), HO2.out⟩
set_option maxRecDepth 100000 in
set_option maxHeartbeats 8000000 in
theorem end_out (g : Nat) (n : Int) (well : Bool) (w : World) (E : Nat → Addr) (he : w.cell? ⟨1, 0, none⟩ = some (errP (E 103))) (hn : ¬ (0 ≤ n ∧ n < 4)) :
    Calls Tryd.prog 13 #[.pointer (some ⟨g, 0, none⟩), .int .i64 n, .bool well] w fun r w' => r = .returned (errP (E 103)) ∧ Below w.heap.size w w' := by
  generalize E 103 = er at *
  have HI := Shut.mk (isac_any n w)
  rw [show isB n = false by unfold isB; simp; omega] at HI
  clear hn
  go_enter Tryd.func13, Tryd.ntmps13
  go_wp2_with (fail)
  refine HI.out.mono ?_
  rintro r w' ⟨rfl, rfl⟩
  go_wp2_with (fail)
  go_ret
  exact ⟨rfl, Below.refl _ _⟩
end Go.Proofs.YtndkmgcmegcieaaDoor
