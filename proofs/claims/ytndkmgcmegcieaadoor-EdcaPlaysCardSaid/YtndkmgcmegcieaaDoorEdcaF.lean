/-
  THE REFERENCE's edca: Contend, End.
-/
import Derived.Test.YtndkmgcmegcieaaDoorEdcaE
namespace Go.Proofs.YtndkmgcmegcieaaDoor
open Go.ChangeShapes Go.WideShapes Go.ChangeAt Go.RowKit Go.Deep
set_option linter.unusedVariables false
set_option linter.unusedSimpArgs false


/-! ### Contend -/
def slotI : Option (Nat × Nat) → Int
  | none => -1
  | some (_, t) => (t : Int)
theorem drawT_up {e : Ec} {r : Nat → Bool} {d : Nat → Nat} {i : Nat} : (drawT e r d (i + 1)).ct i = drawE e r d i := by
  show (if i < i + 1 then drawE e r d i else e.ct i) = _
  rw [if_pos (Nat.lt_succ_self _)]
theorem drawT_at {e : Ec} {r : Nat → Bool} {d : Nat → Nat} {i : Nat} : (drawT e r d i).ct i = e.ct i := by
  show (if i < i then drawE e r d i else e.ct i) = _
  rw [if_neg (Nat.lt_irrefl _)]
theorem drawT_oth {e : Ec} {r : Nat → Bool} {d : Nat → Nat} {i a : Nat} (h : a ≠ i) : (drawT e r d (i + 1)).ct a = (drawT e r d i).ct a := by
  show (if a < i + 1 then drawE e r d a else e.ct a) = if a < i then drawE e r d a else e.ct a
  by_cases h2 : a < i
  · rw [if_pos h2, if_pos (by omega)]
  · rw [if_neg h2, if_neg (by omega)]
theorem drawT_done8 {e : Ec} {r : Nat → Bool} {d : Nat → Nat} {i z : Nat} (hr : r i = true) (hc : e.ct i = 0) (hz : z = d i % (winE e i + 1)) : ∀ a, a < 4 →
    (((drawT e r d i).wd a : Nat) : Int) = (((drawT e r d (i + 1)).wd a : Nat) : Int) ∧ (if a = i then ((z + 1 : Nat) : Int) else (((drawT e r d i).ct a : Nat) : Int)) = (((drawT e r d (i + 1)).ct a : Nat) : Int) := fun a ha => by
  refine ⟨rfl, ?_⟩
  by_cases hai : a = i
  · subst hai
    rw [if_pos rfl, drawT_up]
    unfold drawE
    rw [if_pos ⟨hr, hc⟩, ← hz]
  · rw [if_neg hai, drawT_oth hai]
/-- those below i are through, but the winner's counter. -/
def contR (e : Ec) (c : Nat → Nat) (r : Nat → Bool) (win t i : Nat) : Ec := ⟨fun a => if a < i then afterW e c r win t a else e.wd a, fun a => if a < i ∧ a ≠ win then afterC c r win t a else c a⟩
section
variable {e : Ec} {c : Nat → Nat} {r : Nat → Bool} {win t i : Nat}
theorem contR_0 : Like ⟨e.wd, c⟩ (contR e c r win t 0) := fun a ha => by
  show e.wd a = (if a < 0 then afterW e c r win t a else e.wd a) ∧ c a = if a < 0 ∧ a ≠ win then afterC c r win t a else c a
  rw [if_neg (by omega), if_neg (by omega)]
  exact ⟨rfl, rfl⟩
theorem contR_4 : ∀ a, a < 4 → ((((contR e c r win t 4).wd a) : Nat) : Int) = ((((⟨afterW e c r win t, afterC c r win t⟩ : Ec).wd a) : Nat) : Int) ∧ (if a = win then 0 else ((((contR e c r win t 4).ct a) : Nat) : Int)) = ((((⟨afterW e c r win t, afterC c r win t⟩ : Ec).ct a) : Nat) : Int) := fun a ha => by
  show (((if a < 4 then afterW e c r win t a else e.wd a) : Nat) : Int) = ((afterW e c r win t a : Nat) : Int) ∧ (if a = win then (0 : Int) else (((if a < 4 ∧ a ≠ win then afterC c r win t a else c a) : Nat) : Int)) = ((afterC c r win t a : Nat) : Int)
  rw [if_pos ha]
  refine ⟨rfl, ?_⟩
  by_cases h : a = win
  · rw [if_pos h]
    unfold afterC
    rw [if_pos h]
    rfl
  · rw [if_neg h, if_pos ⟨ha, h⟩]
theorem contR_at : (contR e c r win t i).ct i = c i ∧ (contR e c r win t i).wd i = e.wd i := by
  show (if i < i ∧ i ≠ win then afterC c r win t i else c i) = c i ∧ (if i < i then afterW e c r win t i else e.wd i) = e.wd i
  rw [if_neg (fun h => Nat.lt_irrefl _ h.1), if_neg (Nat.lt_irrefl _)]
  exact ⟨rfl, rfl⟩
theorem contR_up (h : i ≠ win) : (contR e c r win t (i + 1)).ct i = afterC c r win t i ∧ (contR e c r win t (i + 1)).wd i = afterW e c r win t i := by
  show (if i < i + 1 ∧ i ≠ win then afterC c r win t i else c i) = _ ∧ (if i < i + 1 then afterW e c r win t i else e.wd i) = _
  rw [if_pos ⟨Nat.lt_succ_self _, h⟩, if_pos (Nat.lt_succ_self _)]
  exact ⟨rfl, rfl⟩
theorem contR_oth {a : Nat} (h : a ≠ i) : (contR e c r win t (i + 1)).ct a = (contR e c r win t i).ct a ∧ (contR e c r win t (i + 1)).wd a = (contR e c r win t i).wd a := by
  show (if a < i + 1 ∧ a ≠ win then afterC c r win t a else c a) = (if a < i ∧ a ≠ win then afterC c r win t a else c a) ∧ (if a < i + 1 then afterW e c r win t a else e.wd a) = if a < i then afterW e c r win t a else e.wd a
  by_cases h2 : a < i
  · by_cases hw : a = win
    · rw [if_neg (fun hh => hh.2 hw), if_neg (fun hh => hh.2 hw), if_pos (by omega), if_pos h2]; exact ⟨rfl, rfl⟩
    · rw [if_pos ⟨by omega, hw⟩, if_pos ⟨h2, hw⟩, if_pos (by omega), if_pos h2]; exact ⟨rfl, rfl⟩
  · rw [if_neg (fun hh => by omega), if_neg (fun hh => h2 hh.1), if_neg h2, if_neg (by omega)]; exact ⟨rfl, rfl⟩
theorem contR_inv (hi : InvE e) (hc : ∀ a, c a ≤ 1024) : InvE (contR e c r win t i) := by
  have h1 := contT_inv (e := e) (c := c) (r := r) (win := win) (t := t) (i := i) hi hc
  refine ⟨h1.wd, fun a => ?_⟩
  show (if a < i ∧ a ≠ win then afterC c r win t a else c a) ≤ _
  have h2 : (if a < i then afterC c r win t a else c a) ≤ 1024 := h1.ct a
  have h3 := hc a
  by_cases h : a < i ∧ a ≠ win
  · rw [if_pos h]; rw [if_pos h.1] at h2; exact h2
  · rw [if_neg h]; exact h3
theorem contR_skip (h : i = win ∨ r i = false) : Like (contR e c r win t i) (contR e c r win t (i + 1)) := fun a ha => by
  by_cases h' : a = i
  · subst h'
    by_cases hw : a = win
    · subst hw
      rw [contR_at.1, contR_at.2]
      show e.wd a = (if a < a + 1 then afterW e c r a t a else e.wd a) ∧ c a = if a < a + 1 ∧ a ≠ a then afterC c r a t a else c a
      rw [if_pos (Nat.lt_succ_self _), if_neg (fun h => h.2 rfl)]
      unfold afterW
      rw [if_pos (.inl rfl)]
      exact ⟨rfl, rfl⟩
    · have hr : r a = false := h.resolve_left hw
      rw [contR_at.1, contR_at.2, (contR_up hw).1, (contR_up hw).2]
      unfold afterC afterW
      rw [if_neg hw, if_pos hr, if_pos (.inr hr)]
      exact ⟨rfl, rfl⟩
  · rw [(contR_oth h').1, (contR_oth h').2]
    exact ⟨rfl, rfl⟩
theorem contR_tie (hr : r i = true) (hw : i ≠ win) (ht : timeE c i = t) : ∀ a, a < 4 →
    ((((widE (contR e c r win t i) i).wd a) : Nat) : Int) = ((((contR e c r win t (i + 1)).wd a) : Nat) : Int) ∧ (if a = i then 0 else ((((widE (contR e c r win t i) i).ct a) : Nat) : Int)) = ((((contR e c r win t (i + 1)).ct a) : Nat) : Int) := fun a ha => by
  show (((if a = i then widerE (contR e c r win t i) i else (contR e c r win t i).wd a) : Nat) : Int) = _ ∧ (if a = i then (0 : Int) else ((((contR e c r win t i).ct a) : Nat) : Int)) = _
  by_cases h : a = i
  · subst h
    rw [(contR_up hw).1, (contR_up hw).2, if_pos rfl, if_pos rfl]
    unfold afterC afterW
    have hng : ¬ (a = win ∨ r a = false) := fun h => h.elim hw (fun h => by rw [hr] at h; cases h)
    have hra : ¬ r a = false := by rw [hr]; simp
    rw [if_neg hw, if_neg hra, if_pos ht, if_neg hng, if_pos ht]
    refine ⟨?_, rfl⟩
    have e1 : winE (contR e c r win t a) a = winE e a := by
      show max ((contR e c r win t a).wd a) (leastE a) = _
      rw [contR_at.2]
      rfl
    unfold widerE
    rw [e1]
  · rw [(contR_oth h).1, (contR_oth h).2, if_neg h, if_neg h]
    exact ⟨rfl, rfl⟩
theorem contR_late (hr : r i = true) (hw : i ≠ win) (ht : ¬ timeE c i = t) (kn : Nat) (hK : kn = max (c i - (t - waitE i)) 1) : ∀ a, a < 4 →
    ((((contR e c r win t i).wd a) : Nat) : Int) = ((((contR e c r win t (i + 1)).wd a) : Nat) : Int) ∧ (if a = i then ((kn : Nat) : Int) else ((((contR e c r win t i).ct a) : Nat) : Int)) = ((((contR e c r win t (i + 1)).ct a) : Nat) : Int) := fun a ha => by
  by_cases h : a = i
  · subst h
    rw [(contR_up hw).1, (contR_up hw).2, contR_at.2, if_pos rfl]
    unfold afterC afterW
    have hng : ¬ (a = win ∨ r a = false) := fun h => h.elim hw (fun h => by rw [hr] at h; cases h)
    have hra : ¬ r a = false := by rw [hr]; simp
    rw [if_neg hw, if_neg hra, if_neg ht, if_neg hng, if_neg ht, hK]
    exact ⟨rfl, rfl⟩
  · rw [(contR_oth h).1, (contR_oth h).2, if_neg h]
    exact ⟨rfl, rfl⟩
end
set_option maxRecDepth 100000 in
set_option maxHeartbeats 8000000 in
theorem refcontend_any (g : Nat) (e : Ec) (r : Nat → Bool) (d : Nat → Nat) (w : World) (hg : IsRe w g e) (hi : InvE e) (hd : ∀ a, a < 4 → d a < 4294967296) :
    Calls Tryd.prog 11 #[.pointer (some ⟨g, 0, none⟩), bA r, uA d] w fun x w' => x = .returned (ansE (contE e r d).2) ∧ IsRe w' g (contE e r d).1 ∧ Only (· = g) w w' := by
  have HD := Shut.mk hd
  have HI := Shut.mk hi
  have HW := Shut.mk (show Below w.heap.size w ((w.alloc (Obj.cells #[.bool (r 0), .bool (r 1), .bool (r 2), .bool (r 3)] 26 (0, 0))).alloc (Obj.cells #[.int .u32 ((d 0 : Nat) : Int), .int .u32 ((d 1 : Nat) : Int), .int .u32 ((d 2 : Nat) : Int), .int .u32 ((d 3 : Nat) : Int)] 33 (0, 0))) from ((Below.refl w.heap.size w).alloc (Nat.le_refl _) _).alloc (by simp) _)
  have HX := Shut.mk (show ((w.alloc (Obj.cells #[.bool (r 0), .bool (r 1), .bool (r 2), .bool (r 3)] 26 (0, 0))).alloc (Obj.cells #[.int .u32 ((d 0 : Nat) : Int), .int .u32 ((d 1 : Nat) : Int), .int .u32 ((d 2 : Nat) : Int), .int .u32 ((d 3 : Nat) : Int)] 33 (0, 0))).heap[w.heap.size + 1]? = some (Obj.cells #[.int .u32 ((d 0 : Nat) : Int), .int .u32 ((d 1 : Nat) : Int), .int .u32 ((d 2 : Nat) : Int), .int .u32 ((d 3 : Nat) : Int)] 33 (0, 0)) by have h1 := (MapKept.heap_alloc (w.alloc (Obj.cells #[.bool (r 0), .bool (r 1), .bool (r 2), .bool (r 3)] 26 (0, 0))) (Obj.cells #[.int .u32 ((d 0 : Nat) : Int), .int .u32 ((d 1 : Nat) : Int), .int .u32 ((d 2 : Nat) : Int), .int .u32 ((d 3 : Nat) : Int)] 33 (0, 0))).1; rw [show (w.alloc (Obj.cells #[.bool (r 0), .bool (r 1), .bool (r 2), .bool (r 3)] 26 (0, 0))).heap.size = w.heap.size + 1 by simp] at h1; exact h1)
  have HY := Shut.mk (show ((w.alloc (Obj.cells #[.bool (r 0), .bool (r 1), .bool (r 2), .bool (r 3)] 26 (0, 0))).alloc (Obj.cells #[.int .u32 ((d 0 : Nat) : Int), .int .u32 ((d 1 : Nat) : Int), .int .u32 ((d 2 : Nat) : Int), .int .u32 ((d 3 : Nat) : Int)] 33 (0, 0))).heap[w.heap.size]? = some (Obj.cells #[.bool (r 0), .bool (r 1), .bool (r 2), .bool (r 3)] 26 (0, 0)) from (((Below.refl (w.alloc (Obj.cells #[.bool (r 0), .bool (r 1), .bool (r 2), .bool (r 3)] 26 (0, 0))).heap.size (w.alloc (Obj.cells #[.bool (r 0), .bool (r 1), .bool (r 2), .bool (r 3)] 26 (0, 0)))).alloc (Nat.le_refl _) (Obj.cells #[.int .u32 ((d 0 : Nat) : Int), .int .u32 ((d 1 : Nat) : Int), .int .u32 ((d 2 : Nat) : Int), .int .u32 ((d 3 : Nat) : Int)] 33 (0, 0))).block _ (by simp)).trans (MapKept.heap_alloc w (Obj.cells #[.bool (r 0), .bool (r 1), .bool (r 2), .bool (r 3)] 26 (0, 0))).1)
  have HNE := Shut.mk (show w.heap.size ≠ g ∧ w.heap.size + 1 ≠ g from by have := lt_blk hg; omega)
  have HG := Shut.mk (hg.below HW.out)
  unfold bA uA
  clear hg hi hd
  go_enter Tryd.func11, Tryd.ntmps11
  go_wp2_with (fail)
  generalize World.alloc (World.alloc w _) _ = w1 at *
  obtain ⟨hx, hhx⟩ : ∃ h, h = w.heap.size := ⟨_, rfl⟩
  rw [← hhx] at HX HY HNE ⊢
  clear hhx
  go_loopw [9, 10, 11, 12] (fun s9 s10 s11 _ wr => ∃ i : Nat, i ≤ 4 ∧ s11 = .int .i64 (i : Int) ∧ s9 = .int .i64 (slotI (bestE (drawE e r d) r i)) ∧ s10 = .int .i64 (winI (bestE (drawE e r d) r i)) ∧ Shut (IsRe wr g (drawT e r d i)) ∧ Shut (Only (· = g) w1 wr)) (fun _ _ s11 _ _ => 4 - (intOf s11).toNat)
  case atStart => exact ⟨0, Nat.zero_le _, rfl, rfl, rfl, ⟨HG.out.like (drawT_0 e r d)⟩, ⟨Only.refl _ _⟩⟩
  case round =>
    clear HG
    obtain ⟨i, hi, rfl, rfl, rfl, HG, HO⟩ := hrel
    by_cases hlt : i < 4
    · have hl2 : (i : Int) < 4 := by omega
      have HL := Shut.mk hlt
      obtain ⟨ri, hri⟩ : ∃ b, b = r i := ⟨_, rfl⟩
      have hr1 : wr.cell? ⟨hx, i, none⟩ = some (.bool ri) := by rw [hri]; exact cells4 (HO.out.at_ HY.out HNE.out.1) (bA_at r HL.out)
      have HRI := Shut.mk hri
      obtain ⟨c0, hc0⟩ : ∃ c, c = e.ct i := ⟨_, rfl⟩
      have hk := At8.k HG.out hlt
      rw [drawT_at, ← hc0] at hk
      have HC0 := Shut.mk hc0
      clear hri hi hlt hc0
      cases ri with
      | false =>
        have HN := Shut.mk (best_skip' (c := drawE e r d) HRI.out.symm)
        rw [← HN.out]
        obtain ⟨sv, hsv⟩ : ∃ s, s = slotI (bestE (drawE e r d) r (i + 1)) := ⟨_, rfl⟩
        obtain ⟨wv, hwv⟩ : ∃ s, s = winI (bestE (drawE e r d) r (i + 1)) := ⟨_, rfl⟩
        rw [← hsv, ← hwv]
        have HSV := Shut.mk hsv
        have HWV := Shut.mk hwv
        clear hsv hwv hk
        go_wp2_with (fail)
        go_roundw
        case rel => exact ⟨i + 1, HL.out, by go_num, by rw [HSV.out], by rw [HWV.out], ⟨HG.out.like (drawT_next (.inl HRI.out.symm))⟩, HO⟩
        case measure => have := HL.out; simp [intOf]; omega
      | true =>
      by_cases hz0 : c0 = 0
      · have HC00 := Shut.mk (show e.ct i = 0 by rw [← HC0.out]; exact hz0)
        have e0 : ((c0 : Int) == 0) = true := by simp; exact hz0
        obtain ⟨v, hv⟩ : ∃ v, v = winE e i := ⟨_, rfl⟩
        have HVV := Shut.mk hv
        obtain ⟨u, hu⟩ : ∃ u, u = v + 1 := ⟨_, rfl⟩
        obtain ⟨x, hx'⟩ : ∃ x, x = d i := ⟨_, rfl⟩
        obtain ⟨z, hz⟩ : ∃ z, z = x % u := ⟨_, rfl⟩
        obtain ⟨z1, hz1⟩ : ∃ z1, z1 = z + 1 := ⟨_, rfl⟩
        have hvm := HI.out.win i
        have hmm := (most_le i).2
        have hx2 : x < 4294967296 := by rw [hx']; exact HD.out i HL.out
        have hzu : z < u := by rw [hz]; exact Nat.mod_lt _ (by omega)
        have y1 : IntKind.i64.wrap ((v : Int) + 1) = (u : Int) := by rw [IntWalk.i64_in _ ⟨by omega, by omega⟩]; omega
        have y2 : IntKind.u32.wrap (u : Int) = (u : Int) := IntWalk.u32_in _ ⟨by omega, by omega⟩
        have y3 : ¬ u = 0 := by omega
        have y4 : (x : Int).tmod (u : Int) = (z : Int) := by rw [Int.tmod_eq_emod_of_nonneg (by omega), ← Int.natCast_emod, ← hz]
        have y5 : IntKind.i64.wrap (z : Int) = (z : Int) := IntWalk.i64_in _ ⟨by omega, by omega⟩
        have y6 : IntKind.i64.wrap ((z : Int) + 1) = (z1 : Int) := by rw [IntWalk.i64_in _ ⟨by omega, by omega⟩]; omega
        have HZ := Shut.mk (show z = d i % (winE e i + 1) by rw [hz, hx', hu, hv])
        have HZ1 := Shut.mk hz1
        have HXI := Shut.mk (show wr.cell? ⟨hx + 1, i, none⟩ = some (.int .u32 ((x : Nat) : Int)) by rw [hx']; exact cells4 (HO.out.at_ HX.out HNE.out.2) (uA_at d HL.out))
        clear hv hx' hz hvm hmm hx2 hzu hu hz1 hz0
        go_wp2_with (fail)
        clear hr1 hk e0
        refine wp_region_D (fun w' => Below wr.heap.size wr w') 16 (by kernel_rfl) (show Below wr.heap.size wr (World.drew wr) from (Below.refl _ _).drew) (fun hHeld hC => ?_)
        obtain ⟨w5, hw5⟩ : ∃ w5, w5 = World.drew wr := ⟨_, rfl⟩
        rw [← hw5] at hHeld ⊢
        clear hw5
        refine wpAnyD_pure (i := 0) (v := ?_) rfl hC (by kernel_rfl) (by kernel_rfl) (by kernel_rfl) (by decide) (fun _ _ _ h => h) (Or.inl ⟨by rfl, ?_⟩) (fun _ => hHeld) ?_
        rotate_left
        · intro w hSw
          clear hSw
          go_simp
          try with_reducible rfl
        try simp only [Act.put, List.getElem_toArray, List.getElem_cons_zero, List.getElem_cons_succ, List.setIfInBounds_toArray, List.set_cons_zero, List.set_cons_succ]
        clear hC
        intro hC
        refine wpAnyD_pure (i := 1) (v := ?_) rfl hC (by kernel_rfl) (by kernel_rfl) (by kernel_rfl) (by decide) (fun _ _ _ h => h) (Or.inl ⟨by rfl, ?_⟩) (fun _ => hHeld) ?_
        rotate_left
        · intro w hSw
          clear hSw
          go_simp
          try with_reducible rfl
        try simp only [Act.put, List.getElem_toArray, List.getElem_cons_zero, List.getElem_cons_succ, List.setIfInBounds_toArray, List.set_cons_zero, List.set_cons_succ]
        clear hC
        intro hC
        refine wpAnyD_pure (i := 2) (v := ?_) rfl hC (by kernel_rfl) (by kernel_rfl) (by kernel_rfl) (by decide) (fun _ _ _ h => h) (Or.inl ⟨by rfl, ?_⟩) (fun _ => hHeld) ?_
        rotate_left
        · intro w hSw
          clear hSw
          go_simp
          try with_reducible rfl
        try simp only [Act.put, List.getElem_toArray, List.getElem_cons_zero, List.getElem_cons_succ, List.setIfInBounds_toArray, List.set_cons_zero, List.set_cons_succ]
        clear hC
        intro hC
        refine wpAnyD_pure (i := 3) (v := ?_) rfl hC (by kernel_rfl) (by kernel_rfl) (by kernel_rfl) (by decide) (fun _ _ _ h => h) (Or.inl ⟨by rfl, ?_⟩) (fun _ => hHeld) ?_
        rotate_left
        · intro w hSw
          clear hSw
          go_simp
          try with_reducible rfl
        try simp only [Act.put, List.getElem_toArray, List.getElem_cons_zero, List.getElem_cons_succ, List.setIfInBounds_toArray, List.set_cons_zero, List.set_cons_succ]
        clear hC
        intro hC
        refine wpAnyD_take (i := 4) (v := ?_) 40 rfl (by kernel_rfl) hC (by kernel_rfl) (by kernel_rfl) (by kernel_rfl) (by decide) (fun _ _ _ h => h) (Or.inl ⟨by rfl, ?_⟩) (fun _ => hHeld) ?_
        rotate_left
        · intro w hSw
          have hz := (show w.cell? ⟨hx + 1, i, none⟩ = some (.int .u32 ((x : Nat) : Int)) from below_at hSw HXI.out)
          clear hSw
          go_simp
          try with_reducible rfl
        try simp only [Act.put, List.getElem_toArray, List.getElem_cons_zero, List.getElem_cons_succ, List.setIfInBounds_toArray, List.set_cons_zero, List.set_cons_succ]
        clear hC
        intro hC
        refine wpAnyD_pure (i := 5) (v := ?_) rfl hC (by kernel_rfl) (by kernel_rfl) (by kernel_rfl) (by decide) (fun _ _ _ h => h) (Or.inl ⟨by rfl, ?_⟩) (fun _ => hHeld) ?_
        rotate_left
        · intro w hSw
          clear hSw
          go_simp
          try with_reducible rfl
        try simp only [Act.put, List.getElem_toArray, List.getElem_cons_zero, List.getElem_cons_succ, List.setIfInBounds_toArray, List.set_cons_zero, List.set_cons_succ]
        clear hC
        intro hC
        refine wpAnyD_pure (i := 6) (v := ?_) rfl hC (by kernel_rfl) (by kernel_rfl) (by kernel_rfl) (by decide) (fun _ _ _ h => h) (Or.inl ⟨by rfl, ?_⟩) (fun _ => hHeld) ?_
        rotate_left
        · intro w hSw
          clear hSw
          go_simp
          try with_reducible rfl
        try simp only [Act.put, List.getElem_toArray, List.getElem_cons_zero, List.getElem_cons_succ, List.setIfInBounds_toArray, List.set_cons_zero, List.set_cons_succ]
        clear hC
        intro hC
        refine wpAnyD_pure (i := 13) (v := ?_) rfl hC (by kernel_rfl) (by kernel_rfl) (by kernel_rfl) (by decide) (fun _ _ _ h => h) (Or.inl ⟨by rfl, ?_⟩) (fun _ => hHeld) ?_
        rotate_left
        · intro w hSw
          clear hSw
          go_simp
          try with_reducible rfl
        try simp only [Act.put, List.getElem_toArray, List.getElem_cons_zero, List.getElem_cons_succ, List.setIfInBounds_toArray, List.set_cons_zero, List.set_cons_succ]
        clear hC
        intro hC
        refine wpAnyD_pure (i := 14) (v := ?_) rfl hC (by kernel_rfl) (by kernel_rfl) (by kernel_rfl) (by decide) (fun _ _ _ h => h) (Or.inl ⟨by rfl, ?_⟩) (fun _ => hHeld) ?_
        rotate_left
        · intro w hSw
          clear hSw
          go_simp
          try with_reducible rfl
        try simp only [Act.put, List.getElem_toArray, List.getElem_cons_zero, List.getElem_cons_succ, List.setIfInBounds_toArray, List.set_cons_zero, List.set_cons_succ]
        clear hC
        intro hC
        refine wpAnyD_one (i := 7) (by kernel_rfl) rfl hC (fun K hK => ?_)
        clear hC
        go_simp
        refine (refwindow_in g (drawT e r d i) i _ (HG.out.below hHeld) HL.out).mono ?_
        rintro e' we1 ⟨rfl, hB⟩
        rw [show winE (drawT e r d i) i = v from HVV.out.symm]
        have hHeld2 := hHeld.trans (hB.mono hHeld.size)
        clear hB
        clear hHeld
        have hHeld := hHeld2
        clear hHeld2
        refine hK.out _ _ (fun _ => hHeld) (fun hC => ?_)
        clear hK K
        try simp only [Act.put, List.getElem_toArray, List.getElem_cons_zero, List.getElem_cons_succ, List.setIfInBounds_toArray, List.set_cons_zero, List.set_cons_succ]
        refine wpAnyD_pure (i := 8) (v := ?_) rfl hC (by kernel_rfl) (by kernel_rfl) (by kernel_rfl) (by decide) (fun _ _ _ h => h) (Or.inl ⟨by rfl, ?_⟩) (fun _ => hHeld) ?_
        rotate_left
        · intro w hSw
          clear hSw
          go_simp
          try with_reducible rfl
        try simp only [Act.put, List.getElem_toArray, List.getElem_cons_zero, List.getElem_cons_succ, List.setIfInBounds_toArray, List.set_cons_zero, List.set_cons_succ]
        clear hC
        intro hC
        refine wpAnyD_pure (i := 9) (v := ?_) rfl hC (by kernel_rfl) (by kernel_rfl) (by kernel_rfl) (by decide) (fun _ _ _ h => h) (Or.inl ⟨by rfl, ?_⟩) (fun _ => hHeld) ?_
        rotate_left
        · intro w hSw
          clear hSw
          go_simp
          try with_reducible rfl
        try simp only [Act.put, List.getElem_toArray, List.getElem_cons_zero, List.getElem_cons_succ, List.setIfInBounds_toArray, List.set_cons_zero, List.set_cons_succ]
        clear hC
        intro hC
        refine wpAnyD_pure (i := 10) (v := ?_) rfl hC (by kernel_rfl) (by kernel_rfl) (by kernel_rfl) (by decide) (fun _ _ _ h => h) (Or.inl ⟨by rfl, ?_⟩) (fun _ => hHeld) ?_
        rotate_left
        · intro w hSw
          clear hSw
          go_simp
          try with_reducible rfl
        try simp only [Act.put, List.getElem_toArray, List.getElem_cons_zero, List.getElem_cons_succ, List.setIfInBounds_toArray, List.set_cons_zero, List.set_cons_succ]
        clear hC
        intro hC
        refine wpAnyD_pure (i := 11) (v := ?_) rfl hC (by kernel_rfl) (by kernel_rfl) (by kernel_rfl) (by decide) (fun _ _ _ h => h) (Or.inl ⟨by rfl, ?_⟩) (fun _ => hHeld) ?_
        rotate_left
        · intro w hSw
          clear hSw
          go_simp
          try with_reducible rfl
        try simp only [Act.put, List.getElem_toArray, List.getElem_cons_zero, List.getElem_cons_succ, List.setIfInBounds_toArray, List.set_cons_zero, List.set_cons_succ]
        clear hC
        intro hC
        refine wpAnyD_pure (i := 12) (v := ?_) rfl hC (by kernel_rfl) (by kernel_rfl) (by kernel_rfl) (by decide) (fun _ _ _ h => h) (Or.inl ⟨by rfl, ?_⟩) (fun _ => hHeld) ?_
        rotate_left
        · intro w hSw
          clear hSw
          go_simp
          try with_reducible rfl
        try simp only [Act.put, List.getElem_toArray, List.getElem_cons_zero, List.getElem_cons_succ, List.setIfInBounds_toArray, List.set_cons_zero, List.set_cons_succ]
        clear hC
        intro hC
        refine wpAnyD_pure (i := 15) (v := ?_) rfl hC (by kernel_rfl) (by kernel_rfl) (by kernel_rfl) (by decide) (fun _ _ _ h => h) (Or.inl ⟨by rfl, ?_⟩) (fun _ => hHeld) ?_
        rotate_left
        · intro w hSw
          clear hSw
          go_simp
          try with_reducible rfl
        try simp only [Act.put, List.getElem_toArray, List.getElem_cons_zero, List.getElem_cons_succ, List.setIfInBounds_toArray, List.set_cons_zero, List.set_cons_succ]
        clear hC
        intro hC
        refine wpAnyD_one (i := 16) (by kernel_rfl) rfl hC (fun K hK => ?_)
        clear hC
        refine step_store_into rfl 3 (.tmp 44) (.tmp 41) rfl g (4 + i) (.int .i64 ((z1 : Nat) : Int)) rfl rfl rfl 31 _ _ (HG.out.below hHeld) size1i (by show 4 + i < 8; have := HL.out; omega) (set8_k _ _ HL.out _) ?_
        have HX2 := Shut.mk (At8.set (b' := (fun a => ((((drawT e r d i).wd a) : Nat) : Int))) (k' := (fun j => if j = i then ((z1 : Nat) : Int) else ((((drawT e r d i).ct j) : Nat) : Int))) (HG.out.below hHeld))
        have HO2 := Shut.mk (only_below (g := g) hHeld (c8 (fun a => ((((drawT e r d i).wd a) : Nat) : Int)) (fun j => if j = i then ((z1 : Nat) : Int) else ((((drawT e r d i).ct j) : Nat) : Int))))
        generalize hq : World.setRow we1 g _ = we2 at *
        clear hq
        refine hK.out _ _ (past (by kernel_rfl)) (fun hC => ?_)
        clear hK K
        try simp only [Act.put, List.getElem_toArray, List.getElem_cons_zero, List.getElem_cons_succ, List.setIfInBounds_toArray, List.set_cons_zero, List.set_cons_succ]
        refine wpAnyD_done (by kernel_rfl) ?_ _
        try simp only [Act.put, List.getElem_toArray, List.getElem_cons_zero, List.getElem_cons_succ, List.setIfInBounds_toArray, List.set_cons_zero, List.set_cons_succ]
        clear hC hHeld y1 y2 y3 y4 y5 y6
        obtain ⟨wv, hwv⟩ : ∃ wv, wv = we2 := ⟨_, rfl⟩
        rw [← hwv] at HX2 HO2 ⊢
        have HGv := Shut.mk (HX2.out.to (by rw [HZ1.out]; exact drawT_done8 HRI.out.symm HC00.out HZ.out))
        have HOv := Shut.mk (HO.out.trans (T := (· = g)) HO2.out (fun _ _ h => h))
        clear hwv HX2 HO2 HG HO HXI
        obtain ⟨wx, hwx⟩ : ∃ x, x = waitE i := ⟨_, rfl⟩
        have HWX := Shut.mk hwx
        obtain ⟨cy, hcy⟩ : ∃ y, y = drawE e r d i := ⟨_, rfl⟩
        have HKC := Shut.mk (show wv.cell? ⟨g, 4 + i, none⟩ = some (.int .i64 ((cy : Nat) : Int)) by have h1 := At8.k HGv.out HL.out; rw [show (drawT e r d (i + 1)).ct i = drawE e r d i from drawT_up] at h1; rw [hcy]; exact h1)
        obtain ⟨ti, hti⟩ : ∃ ti, ti = timeE (drawE e r d) i := ⟨_, rfl⟩
        have HTI := Shut.mk hti
        have hcb := HI.out.draw r d i
        have hcr := InvE.ready (e := e) r d HRI.out.symm
        have hw7 := wait_le i
        have htt : timeE (drawE e r d) i = waitE i + drawE e r d i - 1 := rfl
        have y1 : IntKind.i64.wrap ((wx : Int) + (cy : Int)) = (wx : Int) + (cy : Int) := IntWalk.i64_in _ ⟨by omega, by omega⟩
        have y2 : IntKind.i64.wrap ((wx : Int) + (cy : Int) - 1) = (ti : Int) := by rw [IntWalk.i64_in _ ⟨by omega, by omega⟩]; omega
        clear hwx hcy hti hcb hcr hw7 htt
        go_wp2_with (fail)
        refine wp_region_held_drew (S := fun w' => Below wv.heap.size wv w') (by kernel_rfl) (Below.refl _ _).drew (fun hHeld => ?_)
        generalize World.drew wv = w5 at *
        have HB5 := Lib.hid hHeld
        refine wpAnyH_take (i := 0) (v := ?_) rfl (by kernel_rfl) (by kernel_rfl) (by kernel_rfl) (fun _ _ _ h => h) (Or.inl ⟨by rfl, ?_⟩) (by assumption) ?_
        rotate_left
        · intro w hSw
          clear hSw
          go_simp
          try with_reducible rfl
        try simp only [Act.put, List.getElem_toArray, List.getElem_cons_zero, List.getElem_cons_succ, List.setIfInBounds_toArray, List.set_cons_zero, List.set_cons_succ]
        refine wpAnyH_take (i := 2) (v := ?_) rfl (by kernel_rfl) (by kernel_rfl) (by kernel_rfl) (fun _ _ _ h => h) (Or.inl ⟨by rfl, ?_⟩) (by assumption) ?_
        rotate_left
        · intro w hSw
          clear hSw
          go_simp
          try with_reducible rfl
        try simp only [Act.put, List.getElem_toArray, List.getElem_cons_zero, List.getElem_cons_succ, List.setIfInBounds_toArray, List.set_cons_zero, List.set_cons_succ]
        refine wpAnyH_take (i := 3) (v := ?_) rfl (by kernel_rfl) (by kernel_rfl) (by kernel_rfl) (fun _ _ _ h => h) (Or.inl ⟨by rfl, ?_⟩) (by assumption) ?_
        rotate_left
        · intro w hSw
          clear hSw
          go_simp
          try with_reducible rfl
        try simp only [Act.put, List.getElem_toArray, List.getElem_cons_zero, List.getElem_cons_succ, List.setIfInBounds_toArray, List.set_cons_zero, List.set_cons_succ]
        refine wpAnyH_take (i := 4) (v := ?_) rfl (by kernel_rfl) (by kernel_rfl) (by kernel_rfl) (fun _ _ _ h => h) (Or.inl ⟨by rfl, ?_⟩) (by assumption) ?_
        rotate_left
        · intro w hSw
          clear hSw
          go_simp
          try with_reducible rfl
        try simp only [Act.put, List.getElem_toArray, List.getElem_cons_zero, List.getElem_cons_succ, List.setIfInBounds_toArray, List.set_cons_zero, List.set_cons_succ]
        refine wpAnyH_take (i := 5) (v := ?_) rfl (by kernel_rfl) (by kernel_rfl) (by kernel_rfl) (fun _ _ _ h => h) (Or.inl ⟨by rfl, ?_⟩) (by assumption) ?_
        rotate_left
        · intro w hSw
          clear hSw
          go_simp
          try with_reducible rfl
        try simp only [Act.put, List.getElem_toArray, List.getElem_cons_zero, List.getElem_cons_succ, List.setIfInBounds_toArray, List.set_cons_zero, List.set_cons_succ]
        refine wpAnyH_take (i := 6) (v := ?_) rfl (by kernel_rfl) (by kernel_rfl) (by kernel_rfl) (fun _ _ _ h => h) (Or.inl ⟨by rfl, ?_⟩) (by assumption) ?_
        rotate_left
        · intro w hSw
          clear hSw
          go_simp
          try with_reducible rfl
        try simp only [Act.put, List.getElem_toArray, List.getElem_cons_zero, List.getElem_cons_succ, List.setIfInBounds_toArray, List.set_cons_zero, List.set_cons_succ]
        refine wpAnyH_take (i := 7) (v := ?_) rfl (by kernel_rfl) (by kernel_rfl) (by kernel_rfl) (fun _ _ _ h => h) (Or.inl ⟨by rfl, ?_⟩) (by assumption) ?_
        rotate_left
        · intro w hSw
          have hz := below_at hSw HKC.out
          clear hSw
          go_simp
          try with_reducible rfl
        try simp only [Act.put, List.getElem_toArray, List.getElem_cons_zero, List.getElem_cons_succ, List.setIfInBounds_toArray, List.set_cons_zero, List.set_cons_succ]
        refine wpAnyH_ready (rs := [1]) (by kernel_rfl) (by simp) ?_
        refine AllReadyH.cons rfl (fun K hK => ?_) AllReadyH.nil
        go_simp
        refine (wait_any i HL.out w5).mono ?_
        rintro e' w6 ⟨rfl, hb⟩
        rw [← HWX.out]
        have HB6 := Lib.hid (HB5.out.trans (hb.mono HB5.out.size))
        clear hb hHeld HB5
        refine hK.out _ _ HB6.out (fun hHeld => ?_)
        clear hK K
        try simp only [Act.put, List.getElem_toArray, List.getElem_cons_zero, List.getElem_cons_succ, List.setIfInBounds_toArray, List.set_cons_zero, List.set_cons_succ]
        refine wpAnyH_take (i := 8) (v := ?_) rfl (by kernel_rfl) (by kernel_rfl) (by kernel_rfl) (fun _ _ _ h => h) (Or.inl ⟨by rfl, ?_⟩) (by assumption) ?_
        rotate_left
        · intro w hSw
          clear hSw
          go_simp
          try with_reducible rfl
        try simp only [Act.put, List.getElem_toArray, List.getElem_cons_zero, List.getElem_cons_succ, List.setIfInBounds_toArray, List.set_cons_zero, List.set_cons_succ]
        refine wpAnyH_take (i := 9) (v := ?_) rfl (by kernel_rfl) (by kernel_rfl) (by kernel_rfl) (fun _ _ _ h => h) (Or.inl ⟨by rfl, ?_⟩) (by assumption) ?_
        rotate_left
        · intro w hSw
          clear hSw
          go_simp
          try with_reducible rfl
        try simp only [Act.put, List.getElem_toArray, List.getElem_cons_zero, List.getElem_cons_succ, List.setIfInBounds_toArray, List.set_cons_zero, List.set_cons_succ]
        refine wpAnyH_take (i := 10) (v := ?_) rfl (by kernel_rfl) (by kernel_rfl) (by kernel_rfl) (fun _ _ _ h => h) (Or.inl ⟨by rfl, ?_⟩) (by assumption) ?_
        rotate_left
        · intro w hSw
          clear hSw
          go_simp
          try with_reducible rfl
        try simp only [Act.put, List.getElem_toArray, List.getElem_cons_zero, List.getElem_cons_succ, List.setIfInBounds_toArray, List.set_cons_zero, List.set_cons_succ]
        refine wpAnyH_done (by kernel_rfl) ?_ _
        try simp only [Act.put, List.getElem_toArray, List.getElem_cons_zero, List.getElem_cons_succ, List.setIfInBounds_toArray, List.set_cons_zero, List.set_cons_succ]
        clear hHeld y1 y2
        have HGz := Shut.mk (HGv.out.below HB6.out)
        have HOz := Shut.mk (HOv.out.then_quiet HB6.out)
        clear HB6 HGv HOv HKC
        cases hb : bestE (drawE e r d) r i with
        | none =>
          have HN := Shut.mk (best_new HRI.out.symm hb)
          rw [show winI none = -1 from rfl, show slotI none = -1 from rfl]
          clear hb
          go_wp2_with (fail)
          go_roundw
          case rel => exact ⟨i + 1, HL.out, by go_num, by rw [HN.out, HTI.out]; rfl, by rw [HN.out]; rfl, HGz, HOz⟩
          case measure => have := HL.out; simp [intOf]; omega
        | some p =>
          obtain ⟨a, t⟩ := p
          have HBB := Shut.mk hb
          have hneg : ¬ (t : Int) < 0 := by omega
          rw [show winI (some (a, t)) = (a : Int) from rfl, show slotI (some (a, t)) = (t : Int) from rfl]
          clear hb
          by_cases hle : ti ≤ t
          · have HN := Shut.mk (best_less HRI.out.symm HBB.out (by rw [← HTI.out]; exact hle))
            have hle2 : (ti : Int) ≤ (t : Int) := by omega
            go_wp2_with (fail)
            go_roundw
            case rel => exact ⟨i + 1, HL.out, by go_num, by rw [HN.out, HTI.out]; rfl, by rw [HN.out]; rfl, HGz, HOz⟩
            case measure => have := HL.out; simp [intOf]; omega
          · have HN := Shut.mk (best_keep' HRI.out.symm HBB.out (by rw [← HTI.out]; exact hle))
            have hle2 : ¬ (ti : Int) ≤ (t : Int) := by omega
            go_wp2_with (fail)
            go_roundw
            case rel => exact ⟨i + 1, HL.out, by go_num, by rw [HN.out]; rfl, by rw [HN.out]; rfl, HGz, HOz⟩
            case measure => have := HL.out; simp [intOf]; omega
      · have HGv := Shut.mk (HG.out.like (drawT_next (r := r) (d := d) (i := i) (.inr (by rw [← HC0.out]; omega))))
        have HOv := HO
        have e0 : ((c0 : Int) == 0) = false := by simp; omega
        clear HG HO hz0
        go_wp2_with (fail)
        clear hr1 hk e0
        obtain ⟨wv, hwv⟩ : ∃ wv, wv = wr := ⟨_, rfl⟩
        rw [← hwv] at HGv HOv ⊢
        clear hwv
        obtain ⟨wx, hwx⟩ : ∃ x, x = waitE i := ⟨_, rfl⟩
        have HWX := Shut.mk hwx
        obtain ⟨cy, hcy⟩ : ∃ y, y = drawE e r d i := ⟨_, rfl⟩
        have HKC := Shut.mk (show wv.cell? ⟨g, 4 + i, none⟩ = some (.int .i64 ((cy : Nat) : Int)) by have h1 := At8.k HGv.out HL.out; rw [show (drawT e r d (i + 1)).ct i = drawE e r d i from drawT_up] at h1; rw [hcy]; exact h1)
        obtain ⟨ti, hti⟩ : ∃ ti, ti = timeE (drawE e r d) i := ⟨_, rfl⟩
        have HTI := Shut.mk hti
        have hcb := HI.out.draw r d i
        have hcr := InvE.ready (e := e) r d HRI.out.symm
        have hw7 := wait_le i
        have htt : timeE (drawE e r d) i = waitE i + drawE e r d i - 1 := rfl
        have y1 : IntKind.i64.wrap ((wx : Int) + (cy : Int)) = (wx : Int) + (cy : Int) := IntWalk.i64_in _ ⟨by omega, by omega⟩
        have y2 : IntKind.i64.wrap ((wx : Int) + (cy : Int) - 1) = (ti : Int) := by rw [IntWalk.i64_in _ ⟨by omega, by omega⟩]; omega
        clear hwx hcy hti hcb hcr hw7 htt
        go_wp2_with (fail)
        refine wp_region_held_drew (S := fun w' => Below wv.heap.size wv w') (by kernel_rfl) (Below.refl _ _).drew (fun hHeld => ?_)
        generalize World.drew wv = w5 at *
        have HB5 := Lib.hid hHeld
        refine wpAnyH_take (i := 0) (v := ?_) rfl (by kernel_rfl) (by kernel_rfl) (by kernel_rfl) (fun _ _ _ h => h) (Or.inl ⟨by rfl, ?_⟩) (by assumption) ?_
        rotate_left
        · intro w hSw
          clear hSw
          go_simp
          try with_reducible rfl
        try simp only [Act.put, List.getElem_toArray, List.getElem_cons_zero, List.getElem_cons_succ, List.setIfInBounds_toArray, List.set_cons_zero, List.set_cons_succ]
        refine wpAnyH_take (i := 2) (v := ?_) rfl (by kernel_rfl) (by kernel_rfl) (by kernel_rfl) (fun _ _ _ h => h) (Or.inl ⟨by rfl, ?_⟩) (by assumption) ?_
        rotate_left
        · intro w hSw
          clear hSw
          go_simp
          try with_reducible rfl
        try simp only [Act.put, List.getElem_toArray, List.getElem_cons_zero, List.getElem_cons_succ, List.setIfInBounds_toArray, List.set_cons_zero, List.set_cons_succ]
        refine wpAnyH_take (i := 3) (v := ?_) rfl (by kernel_rfl) (by kernel_rfl) (by kernel_rfl) (fun _ _ _ h => h) (Or.inl ⟨by rfl, ?_⟩) (by assumption) ?_
        rotate_left
        · intro w hSw
          clear hSw
          go_simp
          try with_reducible rfl
        try simp only [Act.put, List.getElem_toArray, List.getElem_cons_zero, List.getElem_cons_succ, List.setIfInBounds_toArray, List.set_cons_zero, List.set_cons_succ]
        refine wpAnyH_take (i := 4) (v := ?_) rfl (by kernel_rfl) (by kernel_rfl) (by kernel_rfl) (fun _ _ _ h => h) (Or.inl ⟨by rfl, ?_⟩) (by assumption) ?_
        rotate_left
        · intro w hSw
          clear hSw
          go_simp
          try with_reducible rfl
        try simp only [Act.put, List.getElem_toArray, List.getElem_cons_zero, List.getElem_cons_succ, List.setIfInBounds_toArray, List.set_cons_zero, List.set_cons_succ]
        refine wpAnyH_take (i := 5) (v := ?_) rfl (by kernel_rfl) (by kernel_rfl) (by kernel_rfl) (fun _ _ _ h => h) (Or.inl ⟨by rfl, ?_⟩) (by assumption) ?_
        rotate_left
        · intro w hSw
          clear hSw
          go_simp
          try with_reducible rfl
        try simp only [Act.put, List.getElem_toArray, List.getElem_cons_zero, List.getElem_cons_succ, List.setIfInBounds_toArray, List.set_cons_zero, List.set_cons_succ]
        refine wpAnyH_take (i := 6) (v := ?_) rfl (by kernel_rfl) (by kernel_rfl) (by kernel_rfl) (fun _ _ _ h => h) (Or.inl ⟨by rfl, ?_⟩) (by assumption) ?_
        rotate_left
        · intro w hSw
          clear hSw
          go_simp
          try with_reducible rfl
        try simp only [Act.put, List.getElem_toArray, List.getElem_cons_zero, List.getElem_cons_succ, List.setIfInBounds_toArray, List.set_cons_zero, List.set_cons_succ]
        refine wpAnyH_take (i := 7) (v := ?_) rfl (by kernel_rfl) (by kernel_rfl) (by kernel_rfl) (fun _ _ _ h => h) (Or.inl ⟨by rfl, ?_⟩) (by assumption) ?_
        rotate_left
        · intro w hSw
          have hz := below_at hSw HKC.out
          clear hSw
          go_simp
          try with_reducible rfl
        try simp only [Act.put, List.getElem_toArray, List.getElem_cons_zero, List.getElem_cons_succ, List.setIfInBounds_toArray, List.set_cons_zero, List.set_cons_succ]
        refine wpAnyH_ready (rs := [1]) (by kernel_rfl) (by simp) ?_
        refine AllReadyH.cons rfl (fun K hK => ?_) AllReadyH.nil
        go_simp
        refine (wait_any i HL.out w5).mono ?_
        rintro e' w6 ⟨rfl, hb⟩
        rw [← HWX.out]
        have HB6 := Lib.hid (HB5.out.trans (hb.mono HB5.out.size))
        clear hb hHeld HB5
        refine hK.out _ _ HB6.out (fun hHeld => ?_)
        clear hK K
        try simp only [Act.put, List.getElem_toArray, List.getElem_cons_zero, List.getElem_cons_succ, List.setIfInBounds_toArray, List.set_cons_zero, List.set_cons_succ]
        refine wpAnyH_take (i := 8) (v := ?_) rfl (by kernel_rfl) (by kernel_rfl) (by kernel_rfl) (fun _ _ _ h => h) (Or.inl ⟨by rfl, ?_⟩) (by assumption) ?_
        rotate_left
        · intro w hSw
          clear hSw
          go_simp
          try with_reducible rfl
        try simp only [Act.put, List.getElem_toArray, List.getElem_cons_zero, List.getElem_cons_succ, List.setIfInBounds_toArray, List.set_cons_zero, List.set_cons_succ]
        refine wpAnyH_take (i := 9) (v := ?_) rfl (by kernel_rfl) (by kernel_rfl) (by kernel_rfl) (fun _ _ _ h => h) (Or.inl ⟨by rfl, ?_⟩) (by assumption) ?_
        rotate_left
        · intro w hSw
          clear hSw
          go_simp
          try with_reducible rfl
        try simp only [Act.put, List.getElem_toArray, List.getElem_cons_zero, List.getElem_cons_succ, List.setIfInBounds_toArray, List.set_cons_zero, List.set_cons_succ]
        refine wpAnyH_take (i := 10) (v := ?_) rfl (by kernel_rfl) (by kernel_rfl) (by kernel_rfl) (fun _ _ _ h => h) (Or.inl ⟨by rfl, ?_⟩) (by assumption) ?_
        rotate_left
        · intro w hSw
          clear hSw
          go_simp
          try with_reducible rfl
        try simp only [Act.put, List.getElem_toArray, List.getElem_cons_zero, List.getElem_cons_succ, List.setIfInBounds_toArray, List.set_cons_zero, List.set_cons_succ]
        refine wpAnyH_done (by kernel_rfl) ?_ _
        try simp only [Act.put, List.getElem_toArray, List.getElem_cons_zero, List.getElem_cons_succ, List.setIfInBounds_toArray, List.set_cons_zero, List.set_cons_succ]
        clear hHeld y1 y2
        have HGz := Shut.mk (HGv.out.below HB6.out)
        have HOz := Shut.mk (HOv.out.then_quiet HB6.out)
        clear HB6 HGv HOv HKC
        cases hb : bestE (drawE e r d) r i with
        | none =>
          have HN := Shut.mk (best_new HRI.out.symm hb)
          rw [show winI none = -1 from rfl, show slotI none = -1 from rfl]
          clear hb
          go_wp2_with (fail)
          go_roundw
          case rel => exact ⟨i + 1, HL.out, by go_num, by rw [HN.out, HTI.out]; rfl, by rw [HN.out]; rfl, HGz, HOz⟩
          case measure => have := HL.out; simp [intOf]; omega
        | some p =>
          obtain ⟨a, t⟩ := p
          have HBB := Shut.mk hb
          have hneg : ¬ (t : Int) < 0 := by omega
          rw [show winI (some (a, t)) = (a : Int) from rfl, show slotI (some (a, t)) = (t : Int) from rfl]
          clear hb
          by_cases hle : ti ≤ t
          · have HN := Shut.mk (best_less HRI.out.symm HBB.out (by rw [← HTI.out]; exact hle))
            have hle2 : (ti : Int) ≤ (t : Int) := by omega
            go_wp2_with (fail)
            go_roundw
            case rel => exact ⟨i + 1, HL.out, by go_num, by rw [HN.out, HTI.out]; rfl, by rw [HN.out]; rfl, HGz, HOz⟩
            case measure => have := HL.out; simp [intOf]; omega
          · have HN := Shut.mk (best_keep' HRI.out.symm HBB.out (by rw [← HTI.out]; exact hle))
            have hle2 : ¬ (ti : Int) ≤ (t : Int) := by omega
            go_wp2_with (fail)
            go_roundw
            case rel => exact ⟨i + 1, HL.out, by go_num, by rw [HN.out]; rfl, by rw [HN.out]; rfl, HGz, HOz⟩
            case measure => have := HL.out; simp [intOf]; omega
    · obtain rfl : i = 4 := by omega
      clear hi hlt
      cases hb : bestE (drawE e r d) r 4 with
      | none =>
        rw [show winI none = -1 from rfl, show slotI none = -1 from rfl]
        have HE := Shut.mk (cont_no hb)
        clear hb HX HY HD
        go_wp2_with (fail)
        go_ret3
        refine ⟨?_, ?_, ?_⟩
        · rw [HE.out, ans_none]; rfl
        · rw [HE.out]; exact HG.out.like (drawT_4 e r d)
        · exact (Only.of_quiet HW.out).trans (T := (· = g)) HO.out (fun _ _ h => h)
      | some p =>
      obtain ⟨win, t⟩ := p
      obtain ⟨hwin, hrw, htw, hmin, hlast⟩ := best_some hb
      have HWI := Shut.mk hwin
      have HRW := Shut.mk hrw
      have HTW := Shut.mk htw
      have HMN := Shut.mk hmin
      have HE := Shut.mk (cont_yes hb)
      have HCR := Shut.mk (show ∀ a, r a = true → 1 ≤ drawE e r d a from fun a ha => InvE.ready (e := e) r d ha)
      have HCB := Shut.mk (show ∀ a, drawE e r d a ≤ 1024 from fun a => HI.out.draw r d a)
      have HT9 := Shut.mk (show t ≤ 1030 from by
        have h1 := HCB.out win
        have h2 := wait_le win
        rw [htw]
        unfold timeE
        omega)
      rw [show winI (some (win, t)) = (win : Int) from rfl, show slotI (some (win, t)) = (t : Int) from rfl]
      have HG4 := Shut.mk (HG.out.like (drawT_4 e r d))
      have HY4 := Shut.mk (HO.out.at_ HY.out HNE.out.1)
      obtain ⟨c, hc⟩ : ∃ c, c = drawE e r d := ⟨_, rfl⟩
      rw [← hc] at HG4 HTW HMN HE HCR HCB
      obtain ⟨w4, hw4⟩ : ∃ w4, w4 = wr := ⟨_, rfl⟩
      rw [← hw4] at HG4 HO HY4 ⊢
      have hwp : ¬ (win : Int) < 0 := by omega
      clear hb hwin hrw htw hmin hlast hc hw4 HG HX HY HD
      go_wp2_with (fail)
      go_loopw [13] (fun s13 wr => ∃ i : Nat, i ≤ 4 ∧ s13 = .int .i64 (i : Int) ∧ Shut (IsRe wr g (contR e c r win t i)) ∧ Shut (Only (· = g) w4 wr)) (fun s13 _ => 4 - (intOf s13).toNat)
      case atStart => exact ⟨0, Nat.zero_le _, rfl, ⟨HG4.out.like contR_0⟩, ⟨Only.refl _ _⟩⟩
      case round =>
        clear HG4
        obtain ⟨i, hi, rfl, HG, HP⟩ := hrel
        by_cases hlt : i < 4
        · have hl2 : (i : Int) < 4 := by omega
          have HL := Shut.mk hlt
          obtain ⟨ri, hri⟩ : ∃ b, b = r i := ⟨_, rfl⟩
          have hr1 : wr.cell? ⟨hx, i, none⟩ = some (.bool ri) := by rw [hri]; exact cells4 (HP.out.at_ HY4.out HNE.out.1) (bA_at r HL.out)
          have HRI := Shut.mk hri
          clear hri hi hlt
          cases ri with
          | false =>
            go_wp2_with (fail)
            go_roundw
            case rel => exact ⟨i + 1, HL.out, by go_num, ⟨HG.out.like (contR_skip (.inr HRI.out.symm))⟩, HP⟩
            case measure => have := HL.out; simp [intOf]; omega
          | true =>
          by_cases hiw : i = win
          · have e1 : ((i : Int) == (win : Int)) = true := by simp; omega
            have HIW := Shut.mk hiw
            clear hiw
            go_wp2_with (fail)
            go_roundw
            case rel => exact ⟨i + 1, HL.out, by go_num, ⟨HG.out.like (contR_skip (.inl HIW.out))⟩, HP⟩
            case measure => have := HL.out; simp [intOf]; omega
          · have e1 : ((i : Int) == (win : Int)) = false := by simp; omega
            have HIW := Shut.mk hiw
            have HCI := Shut.mk (HCR.out i HRI.out.symm)
            have HCI2 := Shut.mk (HCB.out i)
            have HTI := Shut.mk (HMN.out i HL.out HRI.out.symm)
            have HEI := Shut.mk (contR_inv (e := e) (c := c) (r := r) (win := win) (t := t) (i := i) HI.out HCB.out)
            obtain ⟨wx, hwx⟩ : ∃ x, x = waitE i := ⟨_, rfl⟩
            have HWX := Shut.mk hwx
            obtain ⟨cy, hcy⟩ : ∃ y, y = c i := ⟨_, rfl⟩
            have HCY := Shut.mk hcy
            have HKC := Shut.mk (show wr.cell? ⟨g, 4 + i, none⟩ = some (.int .i64 ((cy : Nat) : Int)) by have h1 := At8.k HG.out HL.out; rw [contR_at.1] at h1; rw [hcy]; exact h1)
            obtain ⟨ti, hti⟩ : ∃ ti, ti = timeE c i := ⟨_, rfl⟩
            have HTT := Shut.mk hti
            have hw7 := wait_le i
            have htt : timeE c i = waitE i + c i - 1 := rfl
            have hcc := HCI.out
            have hcc2 := HCI2.out
            have y1 : IntKind.i64.wrap ((wx : Int) + (cy : Int)) = (wx : Int) + (cy : Int) := IntWalk.i64_in _ ⟨by omega, by omega⟩
            have y2 : IntKind.i64.wrap ((wx : Int) + (cy : Int) - 1) = (ti : Int) := by rw [IntWalk.i64_in _ ⟨by omega, by omega⟩]; omega
            clear hwx hcy hti hw7 htt hcc hcc2 hiw
            cases ht : decide (ti = t) with
            | true =>
              have e2 : ((ti : Int) == (t : Int)) = true := by have := of_decide_eq_true ht; simp; omega
              have HTE := Shut.mk (show timeE c i = t by rw [← HTT.out]; exact of_decide_eq_true ht)
              clear ht
              go_wp2_with (fail)
              clear hr1 e1
              refine wp_region_held_drew (S := fun w' => Below wr.heap.size wr w') (by kernel_rfl) (Below.refl _ _).drew (fun hHeld => ?_)
              generalize World.drew wr = w5 at *
              have HB5 := Lib.hid hHeld
              refine wpAnyH_take (i := 0) (v := ?_) rfl (by kernel_rfl) (by kernel_rfl) (by kernel_rfl) (fun _ _ _ h => h) (Or.inl ⟨by rfl, ?_⟩) (by assumption) ?_
              rotate_left
              · intro w hSw
                clear hSw
                go_simp
                try with_reducible rfl
              try simp only [Act.put, List.getElem_toArray, List.getElem_cons_zero, List.getElem_cons_succ, List.setIfInBounds_toArray, List.set_cons_zero, List.set_cons_succ]
              refine wpAnyH_take (i := 2) (v := ?_) rfl (by kernel_rfl) (by kernel_rfl) (by kernel_rfl) (fun _ _ _ h => h) (Or.inl ⟨by rfl, ?_⟩) (by assumption) ?_
              rotate_left
              · intro w hSw
                clear hSw
                go_simp
                try with_reducible rfl
              try simp only [Act.put, List.getElem_toArray, List.getElem_cons_zero, List.getElem_cons_succ, List.setIfInBounds_toArray, List.set_cons_zero, List.set_cons_succ]
              refine wpAnyH_take (i := 3) (v := ?_) rfl (by kernel_rfl) (by kernel_rfl) (by kernel_rfl) (fun _ _ _ h => h) (Or.inl ⟨by rfl, ?_⟩) (by assumption) ?_
              rotate_left
              · intro w hSw
                clear hSw
                go_simp
                try with_reducible rfl
              try simp only [Act.put, List.getElem_toArray, List.getElem_cons_zero, List.getElem_cons_succ, List.setIfInBounds_toArray, List.set_cons_zero, List.set_cons_succ]
              refine wpAnyH_take (i := 4) (v := ?_) rfl (by kernel_rfl) (by kernel_rfl) (by kernel_rfl) (fun _ _ _ h => h) (Or.inl ⟨by rfl, ?_⟩) (by assumption) ?_
              rotate_left
              · intro w hSw
                clear hSw
                go_simp
                try with_reducible rfl
              try simp only [Act.put, List.getElem_toArray, List.getElem_cons_zero, List.getElem_cons_succ, List.setIfInBounds_toArray, List.set_cons_zero, List.set_cons_succ]
              refine wpAnyH_take (i := 5) (v := ?_) rfl (by kernel_rfl) (by kernel_rfl) (by kernel_rfl) (fun _ _ _ h => h) (Or.inl ⟨by rfl, ?_⟩) (by assumption) ?_
              rotate_left
              · intro w hSw
                clear hSw
                go_simp
                try with_reducible rfl
              try simp only [Act.put, List.getElem_toArray, List.getElem_cons_zero, List.getElem_cons_succ, List.setIfInBounds_toArray, List.set_cons_zero, List.set_cons_succ]
              refine wpAnyH_take (i := 6) (v := ?_) rfl (by kernel_rfl) (by kernel_rfl) (by kernel_rfl) (fun _ _ _ h => h) (Or.inl ⟨by rfl, ?_⟩) (by assumption) ?_
              rotate_left
              · intro w hSw
                clear hSw
                go_simp
                try with_reducible rfl
              try simp only [Act.put, List.getElem_toArray, List.getElem_cons_zero, List.getElem_cons_succ, List.setIfInBounds_toArray, List.set_cons_zero, List.set_cons_succ]
              refine wpAnyH_take (i := 7) (v := ?_) rfl (by kernel_rfl) (by kernel_rfl) (by kernel_rfl) (fun _ _ _ h => h) (Or.inl ⟨by rfl, ?_⟩) (by assumption) ?_
              rotate_left
              · intro w hSw
                have hz := below_at hSw HKC.out
                clear hSw
                go_simp
                try with_reducible rfl
              try simp only [Act.put, List.getElem_toArray, List.getElem_cons_zero, List.getElem_cons_succ, List.setIfInBounds_toArray, List.set_cons_zero, List.set_cons_succ]
              refine wpAnyH_take (i := 10) (v := ?_) rfl (by kernel_rfl) (by kernel_rfl) (by kernel_rfl) (fun _ _ _ h => h) (Or.inl ⟨by rfl, ?_⟩) (by assumption) ?_
              rotate_left
              · intro w hSw
                clear hSw
                go_simp
                try with_reducible rfl
              try simp only [Act.put, List.getElem_toArray, List.getElem_cons_zero, List.getElem_cons_succ, List.setIfInBounds_toArray, List.set_cons_zero, List.set_cons_succ]
              refine wpAnyH_ready (rs := [1]) (by kernel_rfl) (by simp) ?_
              refine AllReadyH.cons rfl (fun K hK => ?_) AllReadyH.nil
              go_simp
              refine (wait_any i HL.out w5).mono ?_
              rintro e' w6 ⟨rfl, hb⟩
              rw [← HWX.out]
              have HB6 := Lib.hid (HB5.out.trans (hb.mono HB5.out.size))
              clear hb hHeld HB5
              refine hK.out _ _ HB6.out (fun hHeld => ?_)
              clear hK K
              try simp only [Act.put, List.getElem_toArray, List.getElem_cons_zero, List.getElem_cons_succ, List.setIfInBounds_toArray, List.set_cons_zero, List.set_cons_succ]
              refine wpAnyH_take (i := 8) (v := ?_) rfl (by kernel_rfl) (by kernel_rfl) (by kernel_rfl) (fun _ _ _ h => h) (Or.inl ⟨by rfl, ?_⟩) (by assumption) ?_
              rotate_left
              · intro w hSw
                clear hSw
                go_simp
                try with_reducible rfl
              try simp only [Act.put, List.getElem_toArray, List.getElem_cons_zero, List.getElem_cons_succ, List.setIfInBounds_toArray, List.set_cons_zero, List.set_cons_succ]
              refine wpAnyH_take (i := 9) (v := ?_) rfl (by kernel_rfl) (by kernel_rfl) (by kernel_rfl) (fun _ _ _ h => h) (Or.inl ⟨by rfl, ?_⟩) (by assumption) ?_
              rotate_left
              · intro w hSw
                clear hSw
                go_simp
                try with_reducible rfl
              try simp only [Act.put, List.getElem_toArray, List.getElem_cons_zero, List.getElem_cons_succ, List.setIfInBounds_toArray, List.set_cons_zero, List.set_cons_succ]
              refine wpAnyH_take (i := 11) (v := ?_) rfl (by kernel_rfl) (by kernel_rfl) (by kernel_rfl) (fun _ _ _ h => h) (Or.inl ⟨by rfl, ?_⟩) (by assumption) ?_
              rotate_left
              · intro w hSw
                clear hSw
                go_simp
                try with_reducible rfl
              try simp only [Act.put, List.getElem_toArray, List.getElem_cons_zero, List.getElem_cons_succ, List.setIfInBounds_toArray, List.set_cons_zero, List.set_cons_succ]
              refine wpAnyH_done (by kernel_rfl) ?_ _
              try simp only [Act.put, List.getElem_toArray, List.getElem_cons_zero, List.getElem_cons_succ, List.setIfInBounds_toArray, List.set_cons_zero, List.set_cons_succ]
              clear hHeld y1 y2
              have HGz := Shut.mk (HG.out.below HB6.out)
              have HPz := Shut.mk (HP.out.then_quiet HB6.out)
              clear HB6 HG HP HKC
              go_wp2_with (fail)
              clear e2
              refine (refwider_any g _ i _ HGz.out HL.out HEI.out).mono ?_
              rintro x wz ⟨rfl, hG, hO⟩
              have HGw := Shut.mk hG
              have HPw := Shut.mk (HPz.out.trans (T := (· = g)) hO (fun _ _ h => h))
              have HX3 := Shut.mk (At8.set (b' := (fun a => ((((widE (contR e c r win t i) i).wd a) : Nat) : Int))) (k' := (fun j => if j = i then 0 else ((((widE (contR e c r win t i) i).ct j) : Nat) : Int))) hG)
              have HO3 := Shut.mk (only_setRow wz g (c8 (fun a => ((((widE (contR e c r win t i) i).wd a) : Nat) : Int)) (fun j => if j = i then 0 else ((((widE (contR e c r win t i) i).ct j) : Nat) : Int))))
              clear hG hO HGz HPz
              go_wp2_with (refine wpList_store_into rfl 3 (.tmp 98) (.const (.int .i64 0)) rfl g (4 + i) (.int .i64 0) rfl rfl rfl 31 _ _ HGw.out size1i (by show 4 + i < 8; have := HL.out; omega) (set8_k _ _ HL.out _) ?_)
              go_roundw
              case rel => exact ⟨i + 1, HL.out, by go_num, ⟨HX3.out.to (contR_tie HRI.out.symm HIW.out HTE.out)⟩, ⟨HPw.out.trans (T := (· = g)) HO3.out (fun _ _ h => h)⟩⟩
              case measure => have := HL.out; simp [intOf]; omega
            | false =>
              have e2 : ((ti : Int) == (t : Int)) = false := by have := of_decide_eq_false ht; simp; omega
              have HTE := Shut.mk (show ¬ timeE c i = t by rw [← HTT.out]; exact of_decide_eq_false ht)
              clear ht
              go_wp2_with (fail)
              clear hr1 e1
              refine wp_region_held_drew (S := fun w' => Below wr.heap.size wr w') (by kernel_rfl) (Below.refl _ _).drew (fun hHeld => ?_)
              generalize World.drew wr = w5 at *
              have HB5 := Lib.hid hHeld
              refine wpAnyH_take (i := 0) (v := ?_) rfl (by kernel_rfl) (by kernel_rfl) (by kernel_rfl) (fun _ _ _ h => h) (Or.inl ⟨by rfl, ?_⟩) (by assumption) ?_
              rotate_left
              · intro w hSw
                clear hSw
                go_simp
                try with_reducible rfl
              try simp only [Act.put, List.getElem_toArray, List.getElem_cons_zero, List.getElem_cons_succ, List.setIfInBounds_toArray, List.set_cons_zero, List.set_cons_succ]
              refine wpAnyH_take (i := 2) (v := ?_) rfl (by kernel_rfl) (by kernel_rfl) (by kernel_rfl) (fun _ _ _ h => h) (Or.inl ⟨by rfl, ?_⟩) (by assumption) ?_
              rotate_left
              · intro w hSw
                clear hSw
                go_simp
                try with_reducible rfl
              try simp only [Act.put, List.getElem_toArray, List.getElem_cons_zero, List.getElem_cons_succ, List.setIfInBounds_toArray, List.set_cons_zero, List.set_cons_succ]
              refine wpAnyH_take (i := 3) (v := ?_) rfl (by kernel_rfl) (by kernel_rfl) (by kernel_rfl) (fun _ _ _ h => h) (Or.inl ⟨by rfl, ?_⟩) (by assumption) ?_
              rotate_left
              · intro w hSw
                clear hSw
                go_simp
                try with_reducible rfl
              try simp only [Act.put, List.getElem_toArray, List.getElem_cons_zero, List.getElem_cons_succ, List.setIfInBounds_toArray, List.set_cons_zero, List.set_cons_succ]
              refine wpAnyH_take (i := 4) (v := ?_) rfl (by kernel_rfl) (by kernel_rfl) (by kernel_rfl) (fun _ _ _ h => h) (Or.inl ⟨by rfl, ?_⟩) (by assumption) ?_
              rotate_left
              · intro w hSw
                clear hSw
                go_simp
                try with_reducible rfl
              try simp only [Act.put, List.getElem_toArray, List.getElem_cons_zero, List.getElem_cons_succ, List.setIfInBounds_toArray, List.set_cons_zero, List.set_cons_succ]
              refine wpAnyH_take (i := 5) (v := ?_) rfl (by kernel_rfl) (by kernel_rfl) (by kernel_rfl) (fun _ _ _ h => h) (Or.inl ⟨by rfl, ?_⟩) (by assumption) ?_
              rotate_left
              · intro w hSw
                clear hSw
                go_simp
                try with_reducible rfl
              try simp only [Act.put, List.getElem_toArray, List.getElem_cons_zero, List.getElem_cons_succ, List.setIfInBounds_toArray, List.set_cons_zero, List.set_cons_succ]
              refine wpAnyH_take (i := 6) (v := ?_) rfl (by kernel_rfl) (by kernel_rfl) (by kernel_rfl) (fun _ _ _ h => h) (Or.inl ⟨by rfl, ?_⟩) (by assumption) ?_
              rotate_left
              · intro w hSw
                clear hSw
                go_simp
                try with_reducible rfl
              try simp only [Act.put, List.getElem_toArray, List.getElem_cons_zero, List.getElem_cons_succ, List.setIfInBounds_toArray, List.set_cons_zero, List.set_cons_succ]
              refine wpAnyH_take (i := 7) (v := ?_) rfl (by kernel_rfl) (by kernel_rfl) (by kernel_rfl) (fun _ _ _ h => h) (Or.inl ⟨by rfl, ?_⟩) (by assumption) ?_
              rotate_left
              · intro w hSw
                have hz := below_at hSw HKC.out
                clear hSw
                go_simp
                try with_reducible rfl
              try simp only [Act.put, List.getElem_toArray, List.getElem_cons_zero, List.getElem_cons_succ, List.setIfInBounds_toArray, List.set_cons_zero, List.set_cons_succ]
              refine wpAnyH_take (i := 10) (v := ?_) rfl (by kernel_rfl) (by kernel_rfl) (by kernel_rfl) (fun _ _ _ h => h) (Or.inl ⟨by rfl, ?_⟩) (by assumption) ?_
              rotate_left
              · intro w hSw
                clear hSw
                go_simp
                try with_reducible rfl
              try simp only [Act.put, List.getElem_toArray, List.getElem_cons_zero, List.getElem_cons_succ, List.setIfInBounds_toArray, List.set_cons_zero, List.set_cons_succ]
              refine wpAnyH_ready (rs := [1]) (by kernel_rfl) (by simp) ?_
              refine AllReadyH.cons rfl (fun K hK => ?_) AllReadyH.nil
              go_simp
              refine (wait_any i HL.out w5).mono ?_
              rintro e' w6 ⟨rfl, hb⟩
              rw [← HWX.out]
              have HB6 := Lib.hid (HB5.out.trans (hb.mono HB5.out.size))
              clear hb hHeld HB5
              refine hK.out _ _ HB6.out (fun hHeld => ?_)
              clear hK K
              try simp only [Act.put, List.getElem_toArray, List.getElem_cons_zero, List.getElem_cons_succ, List.setIfInBounds_toArray, List.set_cons_zero, List.set_cons_succ]
              refine wpAnyH_take (i := 8) (v := ?_) rfl (by kernel_rfl) (by kernel_rfl) (by kernel_rfl) (fun _ _ _ h => h) (Or.inl ⟨by rfl, ?_⟩) (by assumption) ?_
              rotate_left
              · intro w hSw
                clear hSw
                go_simp
                try with_reducible rfl
              try simp only [Act.put, List.getElem_toArray, List.getElem_cons_zero, List.getElem_cons_succ, List.setIfInBounds_toArray, List.set_cons_zero, List.set_cons_succ]
              refine wpAnyH_take (i := 9) (v := ?_) rfl (by kernel_rfl) (by kernel_rfl) (by kernel_rfl) (fun _ _ _ h => h) (Or.inl ⟨by rfl, ?_⟩) (by assumption) ?_
              rotate_left
              · intro w hSw
                clear hSw
                go_simp
                try with_reducible rfl
              try simp only [Act.put, List.getElem_toArray, List.getElem_cons_zero, List.getElem_cons_succ, List.setIfInBounds_toArray, List.set_cons_zero, List.set_cons_succ]
              refine wpAnyH_take (i := 11) (v := ?_) rfl (by kernel_rfl) (by kernel_rfl) (by kernel_rfl) (fun _ _ _ h => h) (Or.inl ⟨by rfl, ?_⟩) (by assumption) ?_
              rotate_left
              · intro w hSw
                clear hSw
                go_simp
                try with_reducible rfl
              try simp only [Act.put, List.getElem_toArray, List.getElem_cons_zero, List.getElem_cons_succ, List.setIfInBounds_toArray, List.set_cons_zero, List.set_cons_succ]
              refine wpAnyH_done (by kernel_rfl) ?_ _
              try simp only [Act.put, List.getElem_toArray, List.getElem_cons_zero, List.getElem_cons_succ, List.setIfInBounds_toArray, List.set_cons_zero, List.set_cons_succ]
              clear hHeld y1 y2
              have HGz := Shut.mk (HG.out.below HB6.out)
              have HPz := Shut.mk (HP.out.then_quiet HB6.out)
              have HKD := Shut.mk (below_at HB6.out HKC.out)
              clear HB6 HG HP HKC
              obtain ⟨wy, hwy⟩ : ∃ wy, wy = w6 := ⟨_, rfl⟩
              rw [← hwy] at HGz HPz HKD ⊢
              clear hwy
              obtain ⟨kn, hkn⟩ : ∃ kn, kn = max (c i - (t - waitE i)) 1 := ⟨_, rfl⟩
              have HKN := Shut.mk hkn
              obtain ⟨m1, hm1⟩ : ∃ m : Int, m = max ((t : Int) - (wx : Int)) 0 := ⟨_, rfl⟩
              have ht9 := HT9.out
              have hw7 := wait_le i
              have hwx := HWX.out
              have hcy := HCY.out
              have hcc2 := HCI2.out
              have y1 : IntKind.i64.wrap ((t : Int) - (wx : Int)) = (t : Int) - (wx : Int) := IntWalk.i64_in _ ⟨by omega, by omega⟩
              have y2 : max ((t : Int) - (wx : Int)) 0 = m1 := hm1.symm
              have y3 : IntKind.i64.wrap ((cy : Int) - m1) = (cy : Int) - m1 := IntWalk.i64_in _ ⟨by omega, by omega⟩
              have y4 : max ((cy : Int) - m1) 1 = ((kn : Nat) : Int) := by omega
              clear hkn hm1 ht9 hw7 hwx hcy hcc2
              go_wp2_with (fail)
              clear e2
              refine wp_region_D (fun w' => Below wy.heap.size wy w') 18 (by kernel_rfl) (show Below wy.heap.size wy (World.drew wy) from (Below.refl _ _).drew) (fun hHeld hC => ?_)
              obtain ⟨wd, hwd⟩ : ∃ w5, w5 = World.drew wy := ⟨_, rfl⟩
              rw [← hwd] at hHeld ⊢
              clear hwd
              refine wpAnyD_pure (i := 0) (v := ?_) rfl hC (by kernel_rfl) (by kernel_rfl) (by kernel_rfl) (by decide) (fun _ _ _ h => h) (Or.inl ⟨by rfl, ?_⟩) (fun _ => hHeld) ?_
              rotate_left
              · intro w hSw
                clear hSw
                go_simp
                try with_reducible rfl
              try simp only [Act.put, List.getElem_toArray, List.getElem_cons_zero, List.getElem_cons_succ, List.setIfInBounds_toArray, List.set_cons_zero, List.set_cons_succ]
              clear hC
              intro hC
              refine wpAnyD_pure (i := 1) (v := ?_) rfl hC (by kernel_rfl) (by kernel_rfl) (by kernel_rfl) (by decide) (fun _ _ _ h => h) (Or.inl ⟨by rfl, ?_⟩) (fun _ => hHeld) ?_
              rotate_left
              · intro w hSw
                clear hSw
                go_simp
                try with_reducible rfl
              try simp only [Act.put, List.getElem_toArray, List.getElem_cons_zero, List.getElem_cons_succ, List.setIfInBounds_toArray, List.set_cons_zero, List.set_cons_succ]
              clear hC
              intro hC
              refine wpAnyD_pure (i := 2) (v := ?_) rfl hC (by kernel_rfl) (by kernel_rfl) (by kernel_rfl) (by decide) (fun _ _ _ h => h) (Or.inl ⟨by rfl, ?_⟩) (fun _ => hHeld) ?_
              rotate_left
              · intro w hSw
                clear hSw
                go_simp
                try with_reducible rfl
              try simp only [Act.put, List.getElem_toArray, List.getElem_cons_zero, List.getElem_cons_succ, List.setIfInBounds_toArray, List.set_cons_zero, List.set_cons_succ]
              clear hC
              intro hC
              refine wpAnyD_pure (i := 3) (v := ?_) rfl hC (by kernel_rfl) (by kernel_rfl) (by kernel_rfl) (by decide) (fun _ _ _ h => h) (Or.inl ⟨by rfl, ?_⟩) (fun _ => hHeld) ?_
              rotate_left
              · intro w hSw
                clear hSw
                go_simp
                try with_reducible rfl
              try simp only [Act.put, List.getElem_toArray, List.getElem_cons_zero, List.getElem_cons_succ, List.setIfInBounds_toArray, List.set_cons_zero, List.set_cons_succ]
              clear hC
              intro hC
              refine wpAnyD_pure (i := 4) (v := ?_) rfl hC (by kernel_rfl) (by kernel_rfl) (by kernel_rfl) (by decide) (fun _ _ _ h => h) (Or.inl ⟨by rfl, ?_⟩) (fun _ => hHeld) ?_
              rotate_left
              · intro w hSw
                clear hSw
                go_simp
                try with_reducible rfl
              try simp only [Act.put, List.getElem_toArray, List.getElem_cons_zero, List.getElem_cons_succ, List.setIfInBounds_toArray, List.set_cons_zero, List.set_cons_succ]
              clear hC
              intro hC
              refine wpAnyD_pure (i := 5) (v := ?_) rfl hC (by kernel_rfl) (by kernel_rfl) (by kernel_rfl) (by decide) (fun _ _ _ h => h) (Or.inl ⟨by rfl, ?_⟩) (fun _ => hHeld) ?_
              rotate_left
              · intro w hSw
                clear hSw
                go_simp
                try with_reducible rfl
              try simp only [Act.put, List.getElem_toArray, List.getElem_cons_zero, List.getElem_cons_succ, List.setIfInBounds_toArray, List.set_cons_zero, List.set_cons_succ]
              clear hC
              intro hC
              refine wpAnyD_pure (i := 6) (v := ?_) rfl hC (by kernel_rfl) (by kernel_rfl) (by kernel_rfl) (by decide) (fun _ _ _ h => h) (Or.inl ⟨by rfl, ?_⟩) (fun _ => hHeld) ?_
              rotate_left
              · intro w hSw
                clear hSw
                go_simp
                try with_reducible rfl
              try simp only [Act.put, List.getElem_toArray, List.getElem_cons_zero, List.getElem_cons_succ, List.setIfInBounds_toArray, List.set_cons_zero, List.set_cons_succ]
              clear hC
              intro hC
              refine wpAnyD_take (i := 7) (v := ?_) 40 rfl (by kernel_rfl) hC (by kernel_rfl) (by kernel_rfl) (by kernel_rfl) (by decide) (fun _ _ _ h => h) (Or.inl ⟨by rfl, ?_⟩) (fun _ => hHeld) ?_
              rotate_left
              · intro w hSw
                have hz := (show w.cell? ⟨g, 4 + i, none⟩ = some (.int .i64 ((cy : Nat) : Int)) from below_at hSw HKD.out)
                clear hSw
                go_simp
                try with_reducible rfl
              try simp only [Act.put, List.getElem_toArray, List.getElem_cons_zero, List.getElem_cons_succ, List.setIfInBounds_toArray, List.set_cons_zero, List.set_cons_succ]
              clear hC
              intro hC
              refine wpAnyD_pure (i := 8) (v := ?_) rfl hC (by kernel_rfl) (by kernel_rfl) (by kernel_rfl) (by decide) (fun _ _ _ h => h) (Or.inl ⟨by rfl, ?_⟩) (fun _ => hHeld) ?_
              rotate_left
              · intro w hSw
                clear hSw
                go_simp
                try with_reducible rfl
              try simp only [Act.put, List.getElem_toArray, List.getElem_cons_zero, List.getElem_cons_succ, List.setIfInBounds_toArray, List.set_cons_zero, List.set_cons_succ]
              clear hC
              intro hC
              refine wpAnyD_pure (i := 9) (v := ?_) rfl hC (by kernel_rfl) (by kernel_rfl) (by kernel_rfl) (by decide) (fun _ _ _ h => h) (Or.inl ⟨by rfl, ?_⟩) (fun _ => hHeld) ?_
              rotate_left
              · intro w hSw
                clear hSw
                go_simp
                try with_reducible rfl
              try simp only [Act.put, List.getElem_toArray, List.getElem_cons_zero, List.getElem_cons_succ, List.setIfInBounds_toArray, List.set_cons_zero, List.set_cons_succ]
              clear hC
              intro hC
              refine wpAnyD_pure (i := 15) (v := ?_) rfl hC (by kernel_rfl) (by kernel_rfl) (by kernel_rfl) (by decide) (fun _ _ _ h => h) (Or.inl ⟨by rfl, ?_⟩) (fun _ => hHeld) ?_
              rotate_left
              · intro w hSw
                clear hSw
                go_simp
                try with_reducible rfl
              try simp only [Act.put, List.getElem_toArray, List.getElem_cons_zero, List.getElem_cons_succ, List.setIfInBounds_toArray, List.set_cons_zero, List.set_cons_succ]
              clear hC
              intro hC
              refine wpAnyD_pure (i := 16) (v := ?_) rfl hC (by kernel_rfl) (by kernel_rfl) (by kernel_rfl) (by decide) (fun _ _ _ h => h) (Or.inl ⟨by rfl, ?_⟩) (fun _ => hHeld) ?_
              rotate_left
              · intro w hSw
                clear hSw
                go_simp
                try with_reducible rfl
              try simp only [Act.put, List.getElem_toArray, List.getElem_cons_zero, List.getElem_cons_succ, List.setIfInBounds_toArray, List.set_cons_zero, List.set_cons_succ]
              clear hC
              intro hC
              refine wpAnyD_one (i := 10) (by kernel_rfl) rfl hC (fun K hK => ?_)
              clear hC
              go_simp
              refine (wait_any i HL.out _).mono ?_
              rintro e' we1 ⟨rfl, hB⟩
              rw [← HWX.out]
              have hHeld2 := hHeld.trans (hB.mono hHeld.size)
              clear hB
              clear hHeld
              have hHeld := hHeld2
              clear hHeld2
              refine hK.out _ _ (fun _ => hHeld) (fun hC => ?_)
              clear hK K
              try simp only [Act.put, List.getElem_toArray, List.getElem_cons_zero, List.getElem_cons_succ, List.setIfInBounds_toArray, List.set_cons_zero, List.set_cons_succ]
              refine wpAnyD_pure (i := 11) (v := ?_) rfl hC (by kernel_rfl) (by kernel_rfl) (by kernel_rfl) (by decide) (fun _ _ _ h => h) (Or.inl ⟨by rfl, ?_⟩) (fun _ => hHeld) ?_
              rotate_left
              · intro w hSw
                clear hSw
                go_simp
                try with_reducible rfl
              try simp only [Act.put, List.getElem_toArray, List.getElem_cons_zero, List.getElem_cons_succ, List.setIfInBounds_toArray, List.set_cons_zero, List.set_cons_succ]
              clear hC
              intro hC
              refine wpAnyD_pure (i := 12) (v := ?_) rfl hC (by kernel_rfl) (by kernel_rfl) (by kernel_rfl) (by decide) (fun _ _ _ h => h) (Or.inl ⟨by rfl, ?_⟩) (fun _ => hHeld) ?_
              rotate_left
              · intro w hSw
                clear hSw
                go_simp
                try with_reducible rfl
              try simp only [Act.put, List.getElem_toArray, List.getElem_cons_zero, List.getElem_cons_succ, List.setIfInBounds_toArray, List.set_cons_zero, List.set_cons_succ]
              clear hC
              intro hC
              refine wpAnyD_pure (i := 13) (v := ?_) rfl hC (by kernel_rfl) (by kernel_rfl) (by kernel_rfl) (by decide) (fun _ _ _ h => h) (Or.inl ⟨by rfl, ?_⟩) (fun _ => hHeld) ?_
              rotate_left
              · intro w hSw
                clear hSw
                go_simp
                try with_reducible rfl
              try simp only [Act.put, List.getElem_toArray, List.getElem_cons_zero, List.getElem_cons_succ, List.setIfInBounds_toArray, List.set_cons_zero, List.set_cons_succ]
              clear hC
              intro hC
              refine wpAnyD_pure (i := 14) (v := ?_) rfl hC (by kernel_rfl) (by kernel_rfl) (by kernel_rfl) (by decide) (fun _ _ _ h => h) (Or.inl ⟨by rfl, ?_⟩) (fun _ => hHeld) ?_
              rotate_left
              · intro w hSw
                clear hSw
                go_simp
                try with_reducible rfl
              try simp only [Act.put, List.getElem_toArray, List.getElem_cons_zero, List.getElem_cons_succ, List.setIfInBounds_toArray, List.set_cons_zero, List.set_cons_succ]
              clear hC
              intro hC
              refine wpAnyD_pure (i := 17) (v := ?_) rfl hC (by kernel_rfl) (by kernel_rfl) (by kernel_rfl) (by decide) (fun _ _ _ h => h) (Or.inl ⟨by rfl, ?_⟩) (fun _ => hHeld) ?_
              rotate_left
              · intro w hSw
                clear hSw
                go_simp
                try with_reducible rfl
              try simp only [Act.put, List.getElem_toArray, List.getElem_cons_zero, List.getElem_cons_succ, List.setIfInBounds_toArray, List.set_cons_zero, List.set_cons_succ]
              clear hC
              intro hC
              refine wpAnyD_one (i := 18) (by kernel_rfl) rfl hC (fun K hK => ?_)
              clear hC
              refine step_store_into rfl 3 (.tmp 116) (.tmp 113) rfl g (4 + i) (.int .i64 ((kn : Nat) : Int)) rfl rfl rfl 31 _ _ (HGz.out.below hHeld) size1i (by show 4 + i < 8; have := HL.out; omega) (set8_k _ _ HL.out _) ?_
              have HX2 := Shut.mk (At8.set (b' := (fun a => ((((contR e c r win t i).wd a) : Nat) : Int))) (k' := (fun j => if j = i then ((kn : Nat) : Int) else ((((contR e c r win t i).ct j) : Nat) : Int))) (HGz.out.below hHeld))
              have HO2 := Shut.mk (only_below (g := g) hHeld (c8 (fun a => ((((contR e c r win t i).wd a) : Nat) : Int)) (fun j => if j = i then ((kn : Nat) : Int) else ((((contR e c r win t i).ct j) : Nat) : Int))))
              generalize hq : World.setRow we1 g _ = we2 at *
              clear hq
              refine hK.out _ _ (past (by kernel_rfl)) (fun hC => ?_)
              clear hK K
              try simp only [Act.put, List.getElem_toArray, List.getElem_cons_zero, List.getElem_cons_succ, List.setIfInBounds_toArray, List.set_cons_zero, List.set_cons_succ]
              refine wpAnyD_done (by kernel_rfl) ?_ _
              try simp only [Act.put, List.getElem_toArray, List.getElem_cons_zero, List.getElem_cons_succ, List.setIfInBounds_toArray, List.set_cons_zero, List.set_cons_succ]
              clear hC hHeld y1 y2 y3 y4
              go_wp2_with (fail)
              go_roundw
              case rel => exact ⟨i + 1, HL.out, by go_num, ⟨HX2.out.to (contR_late HRI.out.symm HIW.out HTE.out kn HKN.out)⟩, ⟨HPz.out.trans (T := (· = g)) HO2.out (fun _ _ h => h)⟩⟩
              case measure => have := HL.out; simp [intOf]; omega
        · obtain rfl : i = 4 := by omega
          clear hi hlt
          have HX3 := Shut.mk (At8.set (b' := fun a => ((((contR e c r win t 4).wd a) : Nat) : Int)) (k' := fun a => if a = win then 0 else ((((contR e c r win t 4).ct a) : Nat) : Int)) HG.out)
          have HO3 := Shut.mk (only_setRow wr g (c8 (fun a => ((((contR e c r win t 4).wd a) : Nat) : Int)) (fun a => if a = win then 0 else ((((contR e c r win t 4).ct a) : Nat) : Int))))
          have hwi : (win : Int) < 4 := by have := HWI.out; omega
          go_wp2_with (refine wpList_store_into rfl 3 (.tmp 121) (.const (.int .i64 0)) rfl g (4 + win) (.int .i64 0) rfl rfl rfl 31 _ _ HG.out size1i (by show 4 + win < 8; have := HWI.out; omega) (set8_k _ _ HWI.out _) ?_)
          go_ret3
          refine ⟨?_, ?_, ?_⟩
          · rw [HE.out, ans_some]; rfl
          · rw [HE.out]; exact HX3.out.to contR_4
          · exact (((Only.of_quiet HW.out).trans (T := (· = g)) HO.out (fun _ _ h => h)).trans (T := (· = g)) HP.out (fun _ _ h => h)).trans (T := (· = g)) HO3.out (fun _ _ h => h)

/-! ### End -/
theorem well_to8 (e : Ec) (a : Nat) : ∀ b, b < 4 → (if b = a then 0 else ((e.wd b : Nat) : Int)) = ((((endE e a true).wd b) : Nat) : Int) ∧ ((e.ct b : Nat) : Int) = ((((endE e a true).ct b) : Nat) : Int) := fun b hb => by
  refine ⟨?_, rfl⟩
  show _ = (((if b = a then 0 else e.wd b) : Nat) : Int)
  by_cases h : b = a
  · rw [if_pos h, if_pos h]; rfl
  · rw [if_neg h, if_neg h]
set_option maxRecDepth 100000 in
set_option maxHeartbeats 8000000 in
theorem refend_in (g : Nat) (e : Ec) (a : Nat) (well : Bool) (w : World) (hg : IsRe w g e) (ha : a < 4) (hi : InvE e) :
    Calls Tryd.prog 14 #[.pointer (some ⟨g, 0, none⟩), .int .i64 (a : Nat), .bool well] w fun r w' => r = .returned (.int .i64 0) ∧ IsRe w' g (endE e a well) ∧ Only (· = g) w w' := by
  have HG := Shut.mk hg
  have HA := Shut.mk ha
  have hai : (a : Int) < 4 := by omega
  cases well with
  | false =>
    have HD := Shut.mk (refwider_any g e a w hg ha hi)
    clear hg ha hi
    go_enter Tryd.func14, Tryd.ntmps14
    go_wp2_with (fail)
    refine HD.out.mono ?_
    rintro r w' ⟨rfl, hG, hO⟩
    go_wp2_with (fail)
    go_ret
    exact ⟨rfl, hG, hO⟩
  | true =>
    have HX2 := Shut.mk (At8.set (b' := fun j => if j = a then 0 else ((e.wd j : Nat) : Int)) (k' := fun j => ((e.ct j : Nat) : Int)) hg)
    have HO2 := Shut.mk (only_setRow w g (c8 (fun j => if j = a then 0 else ((e.wd j : Nat) : Int)) (fun j => ((e.ct j : Nat) : Int))))
    clear hg ha hi
    go_enter Tryd.func14, Tryd.ntmps14
    go_wp2_with (refine wpList_store_into rfl 3 (.tmp 18) (.const (.int .i64 0)) rfl g a (.int .i64 0) rfl rfl rfl 31 _ _ HG.out size1i (by show a < 8; have := HA.out; omega) (set8_b _ _ HA.out _) ?_)
    go_ret
    exact ⟨rfl, HX2.out.to (well_to8 e a), HO2.out⟩
set_option maxRecDepth 100000 in
set_option maxHeartbeats 8000000 in
theorem refend_out (g : Nat) (n : Int) (well : Bool) (w : World) (hn : ¬ (0 ≤ n ∧ n < 4)) :
    Calls Tryd.prog 14 #[.pointer (some ⟨g, 0, none⟩), .int .i64 n, .bool well] w fun r w' => r = .returned (.int .i64 103) ∧ w = w' := by
  by_cases h : n < 0
  · clear hn
    go_enter Tryd.func14, Tryd.ntmps14
    go_wp2_with (fail)
    go_ret
    exact ⟨rfl, rfl⟩
  · have h4 : 4 ≤ n := by omega
    clear hn
    go_enter Tryd.func14, Tryd.ntmps14
    go_wp2_with (fail)
    go_ret
    exact ⟨rfl, rfl⟩
end Go.Proofs.YtndkmgcmegcieaaDoor
