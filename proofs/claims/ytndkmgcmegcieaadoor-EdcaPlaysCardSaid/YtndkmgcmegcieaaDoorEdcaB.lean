/-
  CONTRACTS of package edca: widen, draw, soonest.
-/
import Derived.Test.YtndkmgcmegcieaaDoorEdcaA
import Derived.Test.YtndkmgcmegcieaaDoorHeldD
import Derived.Lib.MinMax
import Derived.Lib.QuietBelow
namespace Go.Proofs.YtndkmgcmegcieaaDoor
open Go.ChangeShapes Go.WideShapes Go.ChangeAt Go.RowKit Go.Deep
set_option linter.unusedVariables false
set_option linter.unusedSimpArgs false


theorem At12.set {w : World} {g : Nat} {b k b' k' : Nat → Int} {h h' : Nat → Bool} (hg : At12 w g b k h) : At12 (w.setRow g (c12 b' k' h')) g b' k' h' := setRow_heap w g _ (c12 b' k' h') _ (0, 0) hg
theorem At8.set {w : World} {g : Nat} {b k b' k' : Nat → Int} (hg : At8 w g b k) : At8 (w.setRow g (c8 b' k')) g b' k' := setRow_heap w g _ (c8 b' k') _ (0, 0) hg
theorem At12.to {w : World} {g : Nat} {b k : Nat → Int} {h : Nat → Bool} {e : Ec} (hg : At12 w g b k h) (h1 : ∀ a, a < 4 → b a = bE e a ∧ k a = kE e a ∧ h a = hE e a) : IsEd w g e := by
  unfold IsEd At12
  rw [← c12_congr (fun a ha => (h1 a ha).1) (fun a ha => (h1 a ha).2.1) (fun a ha => (h1 a ha).2.2)]
  exact hg
theorem At8.to {w : World} {g : Nat} {b k : Nat → Int} {e : Ec} (hg : At8 w g b k) (h1 : ∀ a, a < 4 → b a = ((e.wd a : Nat) : Int) ∧ k a = ((e.ct a : Nat) : Int)) : IsRe w g e := by
  unfold IsRe At8
  rw [← c8_congr (fun a ha => (h1 a ha).1) (fun a ha => (h1 a ha).2)]
  exact hg
theorem only_below {w w1 : World} {g : Nat} (h : Below w.heap.size w w1) (cs : Array Value) : Only (· = g) w (w1.setRow g cs) := Only.setRow (S := (· = g)) (Only.of_quiet h) (g := g) (fun _ => rfl) cs
/-- four flags, four draws, as arrays. -/
def bA (r : Nat → Bool) : Value := .agg #[.bool (r 0), .bool (r 1), .bool (r 2), .bool (r 3)]
def uA (d : Nat → Nat) : Value := .agg #[.int .u32 ((d 0 : Nat) : Int), .int .u32 ((d 1 : Nat) : Int), .int .u32 ((d 2 : Nat) : Int), .int .u32 ((d 3 : Nat) : Int)]

/-! ### widen -/
def widE (e : Ec) (a : Nat) : Ec := ⟨fun b => if b = a then widerE e a else e.wd b, e.ct⟩
theorem wid_win {e : Ec} {a : Nat} (ha : a < 4) (hi : InvE e) : winE (widE e a) a = widerE e a := by
  show max (if a = a then widerE e a else e.wd a) (leastE a) = _
  rw [if_pos rfl]
  have h1 := (hi.win a).1
  have h2 := (most_le a).1
  unfold widerE
  omega
theorem wid_other {e : Ec} {a b : Nat} (h : b ≠ a) : winE (widE e a) b = winE e b := by
  show max (if b = a then widerE e a else e.wd b) (leastE b) = _
  rw [if_neg h]
  rfl
theorem wid_inv {e : Ec} {a : Nat} (hi : InvE e) : InvE (widE e a) := by
  refine ⟨fun b => ?_, hi.ct⟩
  show (if b = a then widerE e a else e.wd b) ≤ _
  split
  · rename_i h; rw [h]; exact hi.wider a
  · exact hi.wd b
set_option maxRecDepth 100000 in
set_option maxHeartbeats 8000000 in
theorem widen_any (g : Nat) (e : Ec) (a : Nat) (w : World) (hg : IsEd w g e) (hR : Rul w) (ha : a < 4) (hi : InvE e) :
    Calls Tryd.prog 22 #[.pointer (some ⟨g, 0, none⟩), .int .i64 (a : Nat)] w fun r w' => r = .returned (.tuple #[]) ∧ IsEd w' g (widE e a) ∧ Only (· = g) w w' := by
  have HG := Shut.mk hg
  have HR := Shut.mk hR
  have HA := Shut.mk ha
  have HI := Shut.mk hi
  have HW := Shut.mk (wid_win ha hi)
  obtain ⟨v, hv⟩ : ∃ v, v = winE e a := ⟨_, rfl⟩
  obtain ⟨p, hp⟩ : ∃ p, p = leastE a := ⟨_, rfl⟩
  obtain ⟨q, hq⟩ : ∃ q, q = mostE a := ⟨_, rfl⟩
  obtain ⟨nw, hn⟩ : ∃ nw, nw = widerE e a - leastE a := ⟨_, rfl⟩
  have HQ := Shut.mk (show w.cell? ⟨0, a * 3 + 2, none⟩ = some (.int .i64 (q : Nat)) by rw [hq]; exact hR.most a ha)
  have HP := Shut.mk (show w.cell? ⟨0, a * 3 + 1, none⟩ = some (.int .i64 (p : Nat)) by rw [hp]; exact hR.first a ha)
  have hw := hi.win a
  have hm := most_le a
  have hwd := hi.wider a
  have hws : widerE e a = min (2 * winE e a + 1) (mostE a) := rfl
  have y1 : IntKind.i64.wrap (2 * (v : Int)) = 2 * (v : Int) := IntWalk.i64_in _ ⟨by omega, by omega⟩
  have y2 : IntKind.i64.wrap (2 * (v : Int) + 1) = 2 * (v : Int) + 1 := IntWalk.i64_in _ ⟨by omega, by omega⟩
  have y3 := (show IntKind.i64.wrap (min (2 * (v : Int) + 1) (q : Int) - (p : Int)) = ((nw : Nat) : Int) by rw [IntWalk.i64_in _ ⟨by omega, by omega⟩]; omega)
  have hai : (a : Int) < 4 := by omega
  have HNW := Shut.mk hn
  have HVV := Shut.mk hv
  clear hg hR ha hi hv hp hq hn hw hm hwd hws
  go_enter Tryd.func22, Tryd.ntmps22
  go_wp2_with (fail)
  refine wp_region_D (fun w' => Below w.heap.size w w') 20 (by kernel_rfl) (show Below w.heap.size w (World.drew w) from (Below.refl _ _).drew) (fun hHeld hC => ?_)
  refine wpAnyD_pure (i := 0) (v := ?_) rfl hC (by kernel_rfl) (by kernel_rfl) (by kernel_rfl) (by decide) (fun _ _ _ h => h) (Or.inl ⟨by rfl, ?_⟩) (fun _ => hHeld) ?_
  rotate_left
  · intro w hSw
    clear hSw
    go_simp
    try with_reducible rfl
  try simp only [Act.put, List.getElem_toArray, List.getElem_cons_zero, List.getElem_cons_succ, List.setIfInBounds_toArray, List.set_cons_zero, List.set_cons_succ]
  clear hC
  intro hC
  refine wpAnyD_pure (i := 1) (v := ?_) rfl hC (by kernel_rfl) (by kernel_rfl) (by kernel_rfl) (by decide) (fun _ _ _ h => h) (Or.inl ⟨by rfl, ?_⟩) (fun _ => hHeld) ?_
  rotate_left
  · intro w hSw
    clear hSw
    go_simp
    try with_reducible rfl
  try simp only [Act.put, List.getElem_toArray, List.getElem_cons_zero, List.getElem_cons_succ, List.setIfInBounds_toArray, List.set_cons_zero, List.set_cons_succ]
  clear hC
  intro hC
  refine wpAnyD_pure (i := 2) (v := ?_) rfl hC (by kernel_rfl) (by kernel_rfl) (by kernel_rfl) (by decide) (fun _ _ _ h => h) (Or.inl ⟨by rfl, ?_⟩) (fun _ => hHeld) ?_
  rotate_left
  · intro w hSw
    clear hSw
    go_simp
    try with_reducible rfl
  try simp only [Act.put, List.getElem_toArray, List.getElem_cons_zero, List.getElem_cons_succ, List.setIfInBounds_toArray, List.set_cons_zero, List.set_cons_succ]
  clear hC
  intro hC
  refine wpAnyD_pure (i := 3) (v := ?_) rfl hC (by kernel_rfl) (by kernel_rfl) (by kernel_rfl) (by decide) (fun _ _ _ h => h) (Or.inl ⟨by rfl, ?_⟩) (fun _ => hHeld) ?_
  rotate_left
  · intro w hSw
    clear hSw
    go_simp
    try with_reducible rfl
  try simp only [Act.put, List.getElem_toArray, List.getElem_cons_zero, List.getElem_cons_succ, List.setIfInBounds_toArray, List.set_cons_zero, List.set_cons_succ]
  clear hC
  intro hC
  refine wpAnyD_pure (i := 7) (v := ?_) rfl hC (by kernel_rfl) (by kernel_rfl) (by kernel_rfl) (by decide) (fun _ _ _ h => h) (Or.inl ⟨by rfl, ?_⟩) (fun _ => hHeld) ?_
  rotate_left
  · intro w hSw
    clear hSw
    go_simp
    try with_reducible rfl
  try simp only [Act.put, List.getElem_toArray, List.getElem_cons_zero, List.getElem_cons_succ, List.setIfInBounds_toArray, List.set_cons_zero, List.set_cons_succ]
  clear hC
  intro hC
  refine wpAnyD_pure (i := 8) (v := ?_) rfl hC (by kernel_rfl) (by kernel_rfl) (by kernel_rfl) (by decide) (fun _ _ _ h => h) (Or.inl ⟨by rfl, ?_⟩) (fun _ => hHeld) ?_
  rotate_left
  · intro w hSw
    clear hSw
    go_simp
    try with_reducible rfl
  try simp only [Act.put, List.getElem_toArray, List.getElem_cons_zero, List.getElem_cons_succ, List.setIfInBounds_toArray, List.set_cons_zero, List.set_cons_succ]
  clear hC
  intro hC
  refine wpAnyD_pure (i := 9) (v := ?_) rfl hC (by kernel_rfl) (by kernel_rfl) (by kernel_rfl) (by decide) (fun _ _ _ h => h) (Or.inl ⟨by rfl, ?_⟩) (fun _ => hHeld) ?_
  rotate_left
  · intro w hSw
    clear hSw
    go_simp
    try with_reducible rfl
  try simp only [Act.put, List.getElem_toArray, List.getElem_cons_zero, List.getElem_cons_succ, List.setIfInBounds_toArray, List.set_cons_zero, List.set_cons_succ]
  clear hC
  intro hC
  refine wpAnyD_take (i := 10) (v := ?_) 40 rfl (by kernel_rfl) hC (by kernel_rfl) (by kernel_rfl) (by kernel_rfl) (by decide) (fun _ _ _ h => h) (Or.inl ⟨by rfl, ?_⟩) (fun _ => hHeld) ?_
  rotate_left
  · intro w hSw
    have hz := (show w.cell? ⟨0, a * 3 + 2, none⟩ = some (.int .i64 (q : Nat)) from below_at hSw HQ.out)
    clear hSw
    go_simp
    try with_reducible rfl
  try simp only [Act.put, List.getElem_toArray, List.getElem_cons_zero, List.getElem_cons_succ, List.setIfInBounds_toArray, List.set_cons_zero, List.set_cons_succ]
  clear hC
  intro hC
  refine wpAnyD_pure (i := 12) (v := ?_) rfl hC (by kernel_rfl) (by kernel_rfl) (by kernel_rfl) (by decide) (fun _ _ _ h => h) (Or.inl ⟨by rfl, ?_⟩) (fun _ => hHeld) ?_
  rotate_left
  · intro w hSw
    clear hSw
    go_simp
    try with_reducible rfl
  try simp only [Act.put, List.getElem_toArray, List.getElem_cons_zero, List.getElem_cons_succ, List.setIfInBounds_toArray, List.set_cons_zero, List.set_cons_succ]
  clear hC
  intro hC
  refine wpAnyD_pure (i := 13) (v := ?_) rfl hC (by kernel_rfl) (by kernel_rfl) (by kernel_rfl) (by decide) (fun _ _ _ h => h) (Or.inl ⟨by rfl, ?_⟩) (fun _ => hHeld) ?_
  rotate_left
  · intro w hSw
    clear hSw
    go_simp
    try with_reducible rfl
  try simp only [Act.put, List.getElem_toArray, List.getElem_cons_zero, List.getElem_cons_succ, List.setIfInBounds_toArray, List.set_cons_zero, List.set_cons_succ]
  clear hC
  intro hC
  refine wpAnyD_pure (i := 14) (v := ?_) rfl hC (by kernel_rfl) (by kernel_rfl) (by kernel_rfl) (by decide) (fun _ _ _ h => h) (Or.inl ⟨by rfl, ?_⟩) (fun _ => hHeld) ?_
  rotate_left
  · intro w hSw
    clear hSw
    go_simp
    try with_reducible rfl
  try simp only [Act.put, List.getElem_toArray, List.getElem_cons_zero, List.getElem_cons_succ, List.setIfInBounds_toArray, List.set_cons_zero, List.set_cons_succ]
  clear hC
  intro hC
  refine wpAnyD_take (i := 15) (v := ?_) 40 rfl (by kernel_rfl) hC (by kernel_rfl) (by kernel_rfl) (by kernel_rfl) (by decide) (fun _ _ _ h => h) (Or.inl ⟨by rfl, ?_⟩) (fun _ => hHeld) ?_
  rotate_left
  · intro w hSw
    have hz := (show w.cell? ⟨0, a * 3 + 1, none⟩ = some (.int .i64 (p : Nat)) from below_at hSw HP.out)
    clear hSw
    go_simp
    try with_reducible rfl
  try simp only [Act.put, List.getElem_toArray, List.getElem_cons_zero, List.getElem_cons_succ, List.setIfInBounds_toArray, List.set_cons_zero, List.set_cons_succ]
  clear hC
  intro hC
  refine wpAnyD_pure (i := 17) (v := ?_) rfl hC (by kernel_rfl) (by kernel_rfl) (by kernel_rfl) (by decide) (fun _ _ _ h => h) (Or.inl ⟨by rfl, ?_⟩) (fun _ => hHeld) ?_
  rotate_left
  · intro w hSw
    clear hSw
    go_simp
    try with_reducible rfl
  try simp only [Act.put, List.getElem_toArray, List.getElem_cons_zero, List.getElem_cons_succ, List.setIfInBounds_toArray, List.set_cons_zero, List.set_cons_succ]
  clear hC
  intro hC
  refine wpAnyD_pure (i := 18) (v := ?_) rfl hC (by kernel_rfl) (by kernel_rfl) (by kernel_rfl) (by decide) (fun _ _ _ h => h) (Or.inl ⟨by rfl, ?_⟩) (fun _ => hHeld) ?_
  rotate_left
  · intro w hSw
    clear hSw
    go_simp
    try with_reducible rfl
  try simp only [Act.put, List.getElem_toArray, List.getElem_cons_zero, List.getElem_cons_succ, List.setIfInBounds_toArray, List.set_cons_zero, List.set_cons_succ]
  clear hC
  intro hC
  refine wpAnyD_one (i := 4) (by kernel_rfl) rfl hC (fun K hK => ?_)
  clear hC
  go_simp
  refine (window_in g e a _ (HG.out.below hHeld) (HR.out.below hHeld) HA.out HI.out).mono ?_
  rintro e' w1 ⟨rfl, hB⟩
  rw [← HVV.out]
  have hHeld2 := hHeld.trans (hB.mono hHeld.size)
  clear hB
  clear hHeld
  have hHeld := hHeld2
  clear hHeld2
  refine hK.out _ _ (fun _ => hHeld) (fun hC => ?_)
  clear hK K
  try simp only [Act.put, List.getElem_toArray, List.getElem_cons_zero, List.getElem_cons_succ, List.setIfInBounds_toArray, List.set_cons_zero, List.set_cons_succ]
  refine wpAnyD_pure (i := 5) (v := ?_) rfl hC (by kernel_rfl) (by kernel_rfl) (by kernel_rfl) (by decide) (fun _ _ _ h => h) (Or.inl ⟨by rfl, ?_⟩) (fun _ => hHeld) ?_
  rotate_left
  · intro w hSw
    clear hSw
    go_simp
    try with_reducible rfl
  try simp only [Act.put, List.getElem_toArray, List.getElem_cons_zero, List.getElem_cons_succ, List.setIfInBounds_toArray, List.set_cons_zero, List.set_cons_succ]
  clear hC
  intro hC
  refine wpAnyD_pure (i := 6) (v := ?_) rfl hC (by kernel_rfl) (by kernel_rfl) (by kernel_rfl) (by decide) (fun _ _ _ h => h) (Or.inl ⟨by rfl, ?_⟩) (fun _ => hHeld) ?_
  rotate_left
  · intro w hSw
    clear hSw
    go_simp
    try with_reducible rfl
  try simp only [Act.put, List.getElem_toArray, List.getElem_cons_zero, List.getElem_cons_succ, List.setIfInBounds_toArray, List.set_cons_zero, List.set_cons_succ]
  clear hC
  intro hC
  refine wpAnyD_pure (i := 11) (v := ?_) rfl hC (by kernel_rfl) (by kernel_rfl) (by kernel_rfl) (by decide) (fun _ _ _ h => h) (Or.inl ⟨by rfl, ?_⟩) (fun _ => hHeld) ?_
  rotate_left
  · intro w hSw
    clear hSw
    go_simp
    try with_reducible rfl
  try simp only [Act.put, List.getElem_toArray, List.getElem_cons_zero, List.getElem_cons_succ, List.setIfInBounds_toArray, List.set_cons_zero, List.set_cons_succ]
  clear hC
  intro hC
  refine wpAnyD_pure (i := 16) (v := ?_) rfl hC (by kernel_rfl) (by kernel_rfl) (by kernel_rfl) (by decide) (fun _ _ _ h => h) (Or.inl ⟨by rfl, ?_⟩) (fun _ => hHeld) ?_
  rotate_left
  · intro w hSw
    clear hSw
    go_simp
    try with_reducible rfl
  try simp only [Act.put, List.getElem_toArray, List.getElem_cons_zero, List.getElem_cons_succ, List.setIfInBounds_toArray, List.set_cons_zero, List.set_cons_succ]
  clear hC
  intro hC
  refine wpAnyD_pure (i := 19) (v := ?_) rfl hC (by kernel_rfl) (by kernel_rfl) (by kernel_rfl) (by decide) (fun _ _ _ h => h) (Or.inl ⟨by rfl, ?_⟩) (fun _ => hHeld) ?_
  rotate_left
  · intro w hSw
    clear hSw
    go_simp
    try with_reducible rfl
  try simp only [Act.put, List.getElem_toArray, List.getElem_cons_zero, List.getElem_cons_succ, List.setIfInBounds_toArray, List.set_cons_zero, List.set_cons_succ]
  clear hC
  intro hC
  refine wpAnyD_one (i := 20) (by kernel_rfl) rfl hC (fun K hK => ?_)
  clear hC
  refine step_store_into rfl 3 (.tmp 23) (.tmp 20) rfl g a (.int .i64 ((nw : Nat) : Int)) rfl rfl rfl 28 _ _ (HG.out.below hHeld) size1i (by show a < 12; have := HA.out; omega) (set_b _ _ _ HA.out _) ?_
  have HX2 := Shut.mk (At12.set (b' := fun j => if j = a then ((nw : Nat) : Int) else bE e j) (k' := kE e) (h' := hE e) (HG.out.below hHeld))
  have HO2 := Shut.mk (only_below (g := g) hHeld (c12 (fun j => if j = a then ((nw : Nat) : Int) else bE e j) (kE e) (hE e)))
  generalize hq : World.setRow w1 g _ = w2 at *
  clear hq
  refine hK.out _ _ (past (by kernel_rfl)) (fun hC => ?_)
  clear hK K
  try simp only [Act.put, List.getElem_toArray, List.getElem_cons_zero, List.getElem_cons_succ, List.setIfInBounds_toArray, List.set_cons_zero, List.set_cons_succ]
  refine wpAnyD_done (by kernel_rfl) ?_ _
  try simp only [Act.put, List.getElem_toArray, List.getElem_cons_zero, List.getElem_cons_succ, List.setIfInBounds_toArray, List.set_cons_zero, List.set_cons_succ]
  clear hC hHeld
  go_wp2_with (fail)
  refine bodyPost_end (results_none (fn := Tryd.f22) rfl _ _ _) rfl ?_
  refine ⟨rfl, HX2.out.to fun b hb => ⟨?_, rfl, rfl⟩, HO2.out⟩
  by_cases hba : b = a
  · rw [if_pos hba, hba]
    unfold bE
    rw [HW.out, HNW.out]
  · rw [if_neg hba]
    unfold bE
    rw [wid_other hba]

/-! ### draw -/
def drawT (e : Ec) (r : Nat → Bool) (d : Nat → Nat) (i : Nat) : Ec := ⟨e.wd, fun a => if a < i then drawE e r d a else e.ct a⟩
theorem drawT_0 (e : Ec) (r : Nat → Bool) (d : Nat → Nat) : Like e (drawT e r d 0) := fun a ha => ⟨rfl, by show e.ct a = if a < 0 then drawE e r d a else e.ct a; rw [if_neg (by omega)]⟩
theorem drawT_4 (e : Ec) (r : Nat → Bool) (d : Nat → Nat) : Like (drawT e r d 4) ⟨e.wd, drawE e r d⟩ := fun a ha => ⟨rfl, by show (if a < 4 then drawE e r d a else e.ct a) = drawE e r d a; rw [if_pos ha]⟩
theorem drawT_inv {e : Ec} (hi : InvE e) (r : Nat → Bool) (d : Nat → Nat) (i : Nat) : InvE (drawT e r d i) := by
  refine ⟨hi.wd, fun a => ?_⟩
  show (if a < i then drawE e r d a else e.ct a) ≤ 1024
  split
  · exact hi.draw r d a
  · exact hi.ct a
theorem drawT_h (e : Ec) (r : Nat → Bool) (d : Nat → Nat) (i : Nat) : hE (drawT e r d i) i = decide (0 < e.ct i) := by
  show decide (0 < if i < i then drawE e r d i else e.ct i) = _
  rw [if_neg (Nat.lt_irrefl _)]
theorem drawT_next {e : Ec} {r : Nat → Bool} {d : Nat → Nat} {i : Nat} (h : r i = false ∨ 0 < e.ct i) : Like (drawT e r d i) (drawT e r d (i + 1)) := fun a ha => ⟨rfl, by
  show (if a < i then drawE e r d a else e.ct a) = if a < i + 1 then drawE e r d a else e.ct a
  by_cases hai : a = i
  · subst hai
    rw [if_neg (Nat.lt_irrefl _), if_pos (Nat.lt_succ_self _)]
    unfold drawE
    rw [if_neg]
    rintro ⟨h1, h2⟩
    rcases h with h | h
    · rw [h] at h1; cases h1
    · omega
  · by_cases h2 : a < i
    · rw [if_pos h2, if_pos (by omega)]
    · rw [if_neg h2, if_neg (by omega)]⟩
theorem rul_ne {w : World} {g : Nat} {e : Ec} (hR : Rul w) (hg : IsEd w g e) : 0 ≠ g := fun h => by
  have h1 := hR.most 2 (by decide)
  have h2 := At12.h hg (a := 0) (by decide)
  subst h
  exact absurd (h1.symm.trans h2) (by simp)
theorem cells4 {w : World} {g i : Nat} {cs : Array Value} {t : TypeId} {fr : Nat × Nat} {v : Value} (h : w.heap[g]? = some (.cells cs t fr)) (hv : cs[i]? = some v) : w.cell? ⟨g, i, none⟩ = some v := by
  simp only [World.cell?, h]
  exact hv
theorem uA_at (d : Nat → Nat) {i : Nat} (hi : i < 4) : (#[.int .u32 ((d 0 : Nat) : Int), .int .u32 ((d 1 : Nat) : Int), .int .u32 ((d 2 : Nat) : Int), .int .u32 ((d 3 : Nat) : Int)] : Array Value)[i]? = some (.int .u32 ((d i : Nat) : Int)) := by
  match i, hi with
  | 0, _ | 1, _ | 2, _ | 3, _ => rfl
theorem bA_at (r : Nat → Bool) {i : Nat} (hi : i < 4) : (#[.bool (r 0), .bool (r 1), .bool (r 2), .bool (r 3)] : Array Value)[i]? = some (.bool (r i)) := by
  match i, hi with
  | 0, _ | 1, _ | 2, _ | 3, _ => rfl
theorem drawT_done {e : Ec} {r : Nat → Bool} {d : Nat → Nat} {i z : Nat} (hr : r i = true) (hc : e.ct i = 0) (hz : z = d i % (winE e i + 1)) : ∀ a, a < 4 →
    bE (drawT e r d i) a = bE (drawT e r d (i + 1)) a ∧ (if a = i then ((z : Nat) : Int) else kE (drawT e r d i) a) = kE (drawT e r d (i + 1)) a ∧ (if a = i then true else hE (drawT e r d i) a) = hE (drawT e r d (i + 1)) a := fun a ha => by
  refine ⟨rfl, ?_⟩
  by_cases hai : a = i
  · subst hai
    have e1 : (drawT e r d (a + 1)).ct a = z + 1 := by
      show (if a < a + 1 then drawE e r d a else e.ct a) = _
      rw [if_pos (Nat.lt_succ_self _)]
      unfold drawE
      rw [if_pos ⟨hr, hc⟩, ← hz]
    rw [if_pos rfl, if_pos rfl]
    unfold kE hE
    rw [e1]
    exact ⟨rfl, by simp⟩
  · have e1 : (drawT e r d (i + 1)).ct a = (drawT e r d i).ct a := by
      show (if a < i + 1 then drawE e r d a else e.ct a) = if a < i then drawE e r d a else e.ct a
      by_cases h : a < i
      · rw [if_pos h, if_pos (by omega)]
      · rw [if_neg h, if_neg (by omega)]
    rw [if_neg hai, if_neg hai]
    unfold kE hE
    rw [e1]
    exact ⟨rfl, rfl⟩
theorem Rul.only {S : Nat → Prop} {w w' : World} (h : Rul w) (ho : Only S w w') (hn : ¬ S 0) : Rul w' :=
  ⟨fun a ha => ho.cell (h.wait a ha) hn, fun a ha => ho.cell (h.first a ha) hn, fun a ha => ho.cell (h.most a ha) hn⟩
set_option maxRecDepth 100000 in
set_option maxHeartbeats 8000000 in
theorem idx4 (v0 v1 v2 v3 : Value) (w' : World) : (Instr.index 26 (.agg #[v0, v1, v2, v3]) (.int .i64 0)).run Tryd.prog w' = .ok v0 w' ∧ (Instr.index 26 (.agg #[v0, v1, v2, v3]) (.int .i64 1)).run Tryd.prog w' = .ok v1 w' ∧
    (Instr.index 26 (.agg #[v0, v1, v2, v3]) (.int .i64 2)).run Tryd.prog w' = .ok v2 w' ∧ (Instr.index 26 (.agg #[v0, v1, v2, v3]) (.int .i64 3)).run Tryd.prog w' = .ok v3 w' := by
  refine ⟨?_, ?_, ?_, ?_⟩ <;> kernel_rfl
theorem idxB (r : Nat → Bool) (i : Nat) (hi : i < 4) : ∀ w' : World, (Instr.index 26 (bA r) (.int .i64 (i : Int))).run Tryd.prog w' = .ok (.bool (r i)) w' := fun w' => by
  match i, hi with
  | 0, _ => exact (idx4 _ _ _ _ w').1
  | 1, _ => exact (idx4 _ _ _ _ w').2.1
  | 2, _ => exact (idx4 _ _ _ _ w').2.2.1
  | 3, _ => exact (idx4 _ _ _ _ w').2.2.2
set_option maxRecDepth 100000 in
set_option maxHeartbeats 8000000 in
theorem draw_any (g : Nat) (e : Ec) (r : Nat → Bool) (d : Nat → Nat) (w : World) (hg : IsEd w g e) (hR : Rul w) (hi : InvE e) (hd : ∀ a, a < 4 → d a < 4294967296) :
    Calls Tryd.prog 19 #[.pointer (some ⟨g, 0, none⟩), bA r, uA d] w fun x w' => x = .returned (.tuple #[]) ∧ IsEd w' g ⟨e.wd, drawE e r d⟩ ∧ Only (· = g) w w' := by
  have HD := Shut.mk hd
  have HI := Shut.mk hi
  have HW := Shut.mk (show Below w.heap.size w ((w.alloc (Obj.cells #[.bool (r 0), .bool (r 1), .bool (r 2), .bool (r 3)] 26 (0, 0))).alloc (Obj.cells #[.int .u32 ((d 0 : Nat) : Int), .int .u32 ((d 1 : Nat) : Int), .int .u32 ((d 2 : Nat) : Int), .int .u32 ((d 3 : Nat) : Int)] 33 (0, 0))) from ((Below.refl w.heap.size w).alloc (Nat.le_refl _) _).alloc (by simp) _)
  have HX := Shut.mk (show ((w.alloc (Obj.cells #[.bool (r 0), .bool (r 1), .bool (r 2), .bool (r 3)] 26 (0, 0))).alloc (Obj.cells #[.int .u32 ((d 0 : Nat) : Int), .int .u32 ((d 1 : Nat) : Int), .int .u32 ((d 2 : Nat) : Int), .int .u32 ((d 3 : Nat) : Int)] 33 (0, 0))).heap[w.heap.size + 1]? = some (Obj.cells #[.int .u32 ((d 0 : Nat) : Int), .int .u32 ((d 1 : Nat) : Int), .int .u32 ((d 2 : Nat) : Int), .int .u32 ((d 3 : Nat) : Int)] 33 (0, 0)) by have h1 := (MapKept.heap_alloc (w.alloc (Obj.cells #[.bool (r 0), .bool (r 1), .bool (r 2), .bool (r 3)] 26 (0, 0))) (Obj.cells #[.int .u32 ((d 0 : Nat) : Int), .int .u32 ((d 1 : Nat) : Int), .int .u32 ((d 2 : Nat) : Int), .int .u32 ((d 3 : Nat) : Int)] 33 (0, 0))).1; rw [show (w.alloc (Obj.cells #[.bool (r 0), .bool (r 1), .bool (r 2), .bool (r 3)] 26 (0, 0))).heap.size = w.heap.size + 1 by simp] at h1; exact h1)
  have HNE := Shut.mk (show w.heap.size + 1 ≠ g from fun h => by have := lt_blk hg; omega)
  have HG := Shut.mk (hg.below HW.out)
  have HR := Shut.mk (hR.below HW.out)
  have HGR := Shut.mk (rul_ne hR hg)
  unfold bA uA
  clear hg hR hi hd
  go_enter Tryd.func19, Tryd.ntmps19
  go_wp2_with (fail)
  generalize World.alloc (World.alloc w _) _ = w1 at *
  obtain ⟨gx, hgx⟩ : ∃ gx, gx = w.heap.size + 1 := ⟨_, rfl⟩
  rw [← hgx] at HX HNE ⊢
  clear hgx
  go_loopw [6, 7, 9] (fun _ _ s9 wr => ∃ i : Nat, i ≤ 4 ∧ s9 = .int .i64 (i : Int) ∧ Shut (IsEd wr g (drawT e r d i)) ∧ Shut (Only (· = g) w1 wr)) (fun _ _ s9 _ => 4 - (intOf s9).toNat)
  case atStart => exact ⟨0, Nat.zero_le _, rfl, ⟨HG.out.like (drawT_0 e r d)⟩, ⟨Only.refl _ _⟩⟩
  case round =>
    clear HG
    obtain ⟨i, hi, rfl, HG, HO⟩ := hrel
    by_cases hlt : i < 4
    · have hl2 : (i : Int) < 4 := by omega
      have HL := Shut.mk hlt
      have hix := idxB r i hlt
      have h8 := At12.h HG.out hlt
      rw [drawT_h] at h8
      have HRR := Shut.mk (show Rul wr from HR.out.only HO.out HGR.out)
      have HXX := Shut.mk (HO.out.at_ HX.out HNE.out)
      obtain ⟨ri, hri⟩ : ∃ b, b = r i := ⟨_, rfl⟩
      rw [← hri] at hix
      have HRI := Shut.mk hri
      obtain ⟨c, hc⟩ : ∃ c, c = decide (0 < e.ct i) := ⟨_, rfl⟩
      rw [← hc] at h8
      have HC := Shut.mk hc
      clear hri hc hi hlt
      unfold bA at hix
      cases ri with
      | false =>
        clear h8
        go_wp2_with (fail)
        go_roundw
        case rel => exact ⟨i + 1, HL.out, by go_num, ⟨HG.out.like (drawT_next (.inl HRI.out.symm))⟩, HO⟩
        case measure => have := HL.out; simp [intOf]; omega
      | true =>
      cases c with
      | true =>
        go_wp2_with (fail)
        go_roundw
        case rel => exact ⟨i + 1, HL.out, by go_num, ⟨HG.out.like (drawT_next (.inr (of_decide_eq_true HC.out.symm)))⟩, HO⟩
        case measure => have := HL.out; simp [intOf]; omega
      | false =>
        clear HR HX
        have HC0 := Shut.mk (show e.ct i = 0 from Nat.eq_zero_of_not_pos (of_decide_eq_false HC.out.symm))
        have HCD := Shut.mk (HXX.out)
        obtain ⟨v, hv⟩ : ∃ v, v = winE e i := ⟨_, rfl⟩
        have HVV := Shut.mk hv
        obtain ⟨u, hu⟩ : ∃ u, u = v + 1 := ⟨_, rfl⟩
        obtain ⟨x, hx⟩ : ∃ x, x = d i := ⟨_, rfl⟩
        obtain ⟨z, hz⟩ : ∃ z, z = x % u := ⟨_, rfl⟩
        have hvm := HI.out.win i
        have hmm := (most_le i).2
        have hx2 : x < 4294967296 := by rw [hx]; exact HD.out i HL.out
        have hzu : z < u := by rw [hz]; exact Nat.mod_lt _ (by omega)
        have y1 : IntKind.i64.wrap ((v : Int) + 1) = (u : Int) := by rw [IntWalk.i64_in _ ⟨by omega, by omega⟩]; omega
        have y2 : IntKind.u32.wrap (u : Int) = (u : Int) := IntWalk.u32_in _ ⟨by omega, by omega⟩
        have y3 : ¬ u = 0 := by omega
        have y4 : (x : Int).tmod (u : Int) = (z : Int) := by rw [Int.tmod_eq_emod_of_nonneg (by omega), ← Int.natCast_emod, ← hz]
        have y5 : IntKind.i64.wrap (z : Int) = (z : Int) := IntWalk.i64_in _ ⟨by omega, by omega⟩
        have HZ := Shut.mk (show z = d i % (winE e i + 1) by rw [hz, hx, hu, hv])
        have HXI := Shut.mk (show wr.cell? ⟨gx, i, none⟩ = some (.int .u32 ((x : Nat) : Int)) by rw [hx]; exact cells4 HXX.out (uA_at d HL.out))
        clear hv hx hz hvm hmm hx2 hzu hu HXX HCD
        go_wp2_with (fail)
        clear hix h8
        refine wp_region_D (fun w' => Below wr.heap.size wr w') 17 (by kernel_rfl) (show Below wr.heap.size wr (World.drew wr) from (Below.refl _ _).drew) (fun hHeld hC => ?_)
        refine wpAnyD_pure (i := 0) (v := ?_) rfl hC (by kernel_rfl) (by kernel_rfl) (by kernel_rfl) (by decide) (fun _ _ _ h => h) (Or.inl ⟨by rfl, ?_⟩) (fun _ => hHeld) ?_
        rotate_left
        · intro w hSw
          clear hSw
          go_simp
          try with_reducible rfl
        try simp only [Act.put, List.getElem_toArray, List.getElem_cons_zero, List.getElem_cons_succ, List.setIfInBounds_toArray, List.set_cons_zero, List.set_cons_succ]
        clear hC
        intro hC
        refine wpAnyD_pure (i := 1) (v := ?_) rfl hC (by kernel_rfl) (by kernel_rfl) (by kernel_rfl) (by decide) (fun _ _ _ h => h) (Or.inl ⟨by rfl, ?_⟩) (fun _ => hHeld) ?_
        rotate_left
        · intro w hSw
          clear hSw
          go_simp
          try with_reducible rfl
        try simp only [Act.put, List.getElem_toArray, List.getElem_cons_zero, List.getElem_cons_succ, List.setIfInBounds_toArray, List.set_cons_zero, List.set_cons_succ]
        clear hC
        intro hC
        refine wpAnyD_pure (i := 2) (v := ?_) rfl hC (by kernel_rfl) (by kernel_rfl) (by kernel_rfl) (by decide) (fun _ _ _ h => h) (Or.inl ⟨by rfl, ?_⟩) (fun _ => hHeld) ?_
        rotate_left
        · intro w hSw
          clear hSw
          go_simp
          try with_reducible rfl
        try simp only [Act.put, List.getElem_toArray, List.getElem_cons_zero, List.getElem_cons_succ, List.setIfInBounds_toArray, List.set_cons_zero, List.set_cons_succ]
        clear hC
        intro hC
        refine wpAnyD_pure (i := 3) (v := ?_) rfl hC (by kernel_rfl) (by kernel_rfl) (by kernel_rfl) (by decide) (fun _ _ _ h => h) (Or.inl ⟨by rfl, ?_⟩) (fun _ => hHeld) ?_
        rotate_left
        · intro w hSw
          clear hSw
          go_simp
          try with_reducible rfl
        try simp only [Act.put, List.getElem_toArray, List.getElem_cons_zero, List.getElem_cons_succ, List.setIfInBounds_toArray, List.set_cons_zero, List.set_cons_succ]
        clear hC
        intro hC
        refine wpAnyD_pure (i := 4) (v := ?_) rfl hC (by kernel_rfl) (by kernel_rfl) (by kernel_rfl) (by decide) (fun _ _ _ h => h) (Or.inl ⟨by rfl, ?_⟩) (fun _ => hHeld) ?_
        rotate_left
        · intro w hSw
          clear hSw
          go_simp
          try with_reducible rfl
        try simp only [Act.put, List.getElem_toArray, List.getElem_cons_zero, List.getElem_cons_succ, List.setIfInBounds_toArray, List.set_cons_zero, List.set_cons_succ]
        clear hC
        intro hC
        refine wpAnyD_pure (i := 5) (v := ?_) rfl hC (by kernel_rfl) (by kernel_rfl) (by kernel_rfl) (by decide) (fun _ _ _ h => h) (Or.inl ⟨by rfl, ?_⟩) (fun _ => hHeld) ?_
        rotate_left
        · intro w hSw
          clear hSw
          go_simp
          try with_reducible rfl
        try simp only [Act.put, List.getElem_toArray, List.getElem_cons_zero, List.getElem_cons_succ, List.setIfInBounds_toArray, List.set_cons_zero, List.set_cons_succ]
        clear hC
        intro hC
        refine wpAnyD_take (i := 6) (v := ?_) 40 rfl (by kernel_rfl) hC (by kernel_rfl) (by kernel_rfl) (by kernel_rfl) (by decide) (fun _ _ _ h => h) (Or.inl ⟨by rfl, ?_⟩) (fun _ => hHeld) ?_
        rotate_left
        · intro w hSw
          have hz := (show w.cell? ⟨gx, i, none⟩ = some (.int .u32 ((x : Nat) : Int)) from below_at hSw HXI.out)
          clear hSw
          go_simp
          try with_reducible rfl
        try simp only [Act.put, List.getElem_toArray, List.getElem_cons_zero, List.getElem_cons_succ, List.setIfInBounds_toArray, List.set_cons_zero, List.set_cons_succ]
        clear hC
        intro hC
        refine wpAnyD_pure (i := 7) (v := ?_) rfl hC (by kernel_rfl) (by kernel_rfl) (by kernel_rfl) (by decide) (fun _ _ _ h => h) (Or.inl ⟨by rfl, ?_⟩) (fun _ => hHeld) ?_
        rotate_left
        · intro w hSw
          clear hSw
          go_simp
          try with_reducible rfl
        try simp only [Act.put, List.getElem_toArray, List.getElem_cons_zero, List.getElem_cons_succ, List.setIfInBounds_toArray, List.set_cons_zero, List.set_cons_succ]
        clear hC
        intro hC
        refine wpAnyD_pure (i := 8) (v := ?_) rfl hC (by kernel_rfl) (by kernel_rfl) (by kernel_rfl) (by decide) (fun _ _ _ h => h) (Or.inl ⟨by rfl, ?_⟩) (fun _ => hHeld) ?_
        rotate_left
        · intro w hSw
          clear hSw
          go_simp
          try with_reducible rfl
        try simp only [Act.put, List.getElem_toArray, List.getElem_cons_zero, List.getElem_cons_succ, List.setIfInBounds_toArray, List.set_cons_zero, List.set_cons_succ]
        clear hC
        intro hC
        refine wpAnyD_pure (i := 14) (v := ?_) rfl hC (by kernel_rfl) (by kernel_rfl) (by kernel_rfl) (by decide) (fun _ _ _ h => h) (Or.inl ⟨by rfl, ?_⟩) (fun _ => hHeld) ?_
        rotate_left
        · intro w hSw
          clear hSw
          go_simp
          try with_reducible rfl
        try simp only [Act.put, List.getElem_toArray, List.getElem_cons_zero, List.getElem_cons_succ, List.setIfInBounds_toArray, List.set_cons_zero, List.set_cons_succ]
        clear hC
        intro hC
        refine wpAnyD_pure (i := 15) (v := ?_) rfl hC (by kernel_rfl) (by kernel_rfl) (by kernel_rfl) (by decide) (fun _ _ _ h => h) (Or.inl ⟨by rfl, ?_⟩) (fun _ => hHeld) ?_
        rotate_left
        · intro w hSw
          clear hSw
          go_simp
          try with_reducible rfl
        try simp only [Act.put, List.getElem_toArray, List.getElem_cons_zero, List.getElem_cons_succ, List.setIfInBounds_toArray, List.set_cons_zero, List.set_cons_succ]
        clear hC
        intro hC
        refine wpAnyD_pure (i := 18) (v := ?_) rfl hC (by kernel_rfl) (by kernel_rfl) (by kernel_rfl) (by decide) (fun _ _ _ h => h) (Or.inl ⟨by rfl, ?_⟩) (fun _ => hHeld) ?_
        rotate_left
        · intro w hSw
          clear hSw
          go_simp
          try with_reducible rfl
        try simp only [Act.put, List.getElem_toArray, List.getElem_cons_zero, List.getElem_cons_succ, List.setIfInBounds_toArray, List.set_cons_zero, List.set_cons_succ]
        clear hC
        intro hC
        refine wpAnyD_pure (i := 19) (v := ?_) rfl hC (by kernel_rfl) (by kernel_rfl) (by kernel_rfl) (by decide) (fun _ _ _ h => h) (Or.inl ⟨by rfl, ?_⟩) (fun _ => hHeld) ?_
        rotate_left
        · intro w hSw
          clear hSw
          go_simp
          try with_reducible rfl
        try simp only [Act.put, List.getElem_toArray, List.getElem_cons_zero, List.getElem_cons_succ, List.setIfInBounds_toArray, List.set_cons_zero, List.set_cons_succ]
        clear hC
        intro hC
        refine wpAnyD_one (i := 9) (by kernel_rfl) rfl hC (fun K hK => ?_)
        clear hC
        go_simp
        refine (window_in g _ i _ (HG.out.below hHeld) (HRR.out.below hHeld) HL.out (drawT_inv HI.out r d i)).mono ?_
        rintro e' w1 ⟨rfl, hB⟩
        rw [show winE (drawT e r d i) i = v from HVV.out.symm]
        have hHeld2 := hHeld.trans (hB.mono hHeld.size)
        clear hB
        clear hHeld
        have hHeld := hHeld2
        clear hHeld2
        refine hK.out _ _ (fun _ => hHeld) (fun hC => ?_)
        clear hK K
        try simp only [Act.put, List.getElem_toArray, List.getElem_cons_zero, List.getElem_cons_succ, List.setIfInBounds_toArray, List.set_cons_zero, List.set_cons_succ]
        refine wpAnyD_pure (i := 10) (v := ?_) rfl hC (by kernel_rfl) (by kernel_rfl) (by kernel_rfl) (by decide) (fun _ _ _ h => h) (Or.inl ⟨by rfl, ?_⟩) (fun _ => hHeld) ?_
        rotate_left
        · intro w hSw
          clear hSw
          go_simp
          try with_reducible rfl
        try simp only [Act.put, List.getElem_toArray, List.getElem_cons_zero, List.getElem_cons_succ, List.setIfInBounds_toArray, List.set_cons_zero, List.set_cons_succ]
        clear hC
        intro hC
        refine wpAnyD_pure (i := 11) (v := ?_) rfl hC (by kernel_rfl) (by kernel_rfl) (by kernel_rfl) (by decide) (fun _ _ _ h => h) (Or.inl ⟨by rfl, ?_⟩) (fun _ => hHeld) ?_
        rotate_left
        · intro w hSw
          clear hSw
          go_simp
          try with_reducible rfl
        try simp only [Act.put, List.getElem_toArray, List.getElem_cons_zero, List.getElem_cons_succ, List.setIfInBounds_toArray, List.set_cons_zero, List.set_cons_succ]
        clear hC
        intro hC
        refine wpAnyD_pure (i := 12) (v := ?_) rfl hC (by kernel_rfl) (by kernel_rfl) (by kernel_rfl) (by decide) (fun _ _ _ h => h) (Or.inl ⟨by rfl, ?_⟩) (fun _ => hHeld) ?_
        rotate_left
        · intro w hSw
          clear hSw
          go_simp
          try with_reducible rfl
        try simp only [Act.put, List.getElem_toArray, List.getElem_cons_zero, List.getElem_cons_succ, List.setIfInBounds_toArray, List.set_cons_zero, List.set_cons_succ]
        clear hC
        intro hC
        refine wpAnyD_pure (i := 13) (v := ?_) rfl hC (by kernel_rfl) (by kernel_rfl) (by kernel_rfl) (by decide) (fun _ _ _ h => h) (Or.inl ⟨by rfl, ?_⟩) (fun _ => hHeld) ?_
        rotate_left
        · intro w hSw
          clear hSw
          go_simp
          try with_reducible rfl
        try simp only [Act.put, List.getElem_toArray, List.getElem_cons_zero, List.getElem_cons_succ, List.setIfInBounds_toArray, List.set_cons_zero, List.set_cons_succ]
        clear hC
        intro hC
        refine wpAnyD_pure (i := 16) (v := ?_) rfl hC (by kernel_rfl) (by kernel_rfl) (by kernel_rfl) (by decide) (fun _ _ _ h => h) (Or.inl ⟨by rfl, ?_⟩) (fun _ => hHeld) ?_
        rotate_left
        · intro w hSw
          clear hSw
          go_simp
          try with_reducible rfl
        try simp only [Act.put, List.getElem_toArray, List.getElem_cons_zero, List.getElem_cons_succ, List.setIfInBounds_toArray, List.set_cons_zero, List.set_cons_succ]
        clear hC
        intro hC
        refine wpAnyD_one (i := 17) (by kernel_rfl) rfl hC (fun K hK => ?_)
        clear hC
        refine step_store_into rfl 3 (.tmp 39) (.tmp 36) rfl g (4 + i) (.int .i64 ((z : Nat) : Int)) rfl rfl rfl 28 _ _ (HG.out.below hHeld) size1i (by show 4 + i < 12; have := HL.out; omega) (set_k _ _ _ HL.out _) ?_
        have HX2 := Shut.mk (At12.set (b' := bE (drawT e r d i)) (k' := fun j => if j = i then ((z : Nat) : Int) else kE (drawT e r d i) j) (h' := hE (drawT e r d i)) (HG.out.below hHeld))
        have HO2 := Shut.mk (only_below (g := g) hHeld (c12 (bE (drawT e r d i)) (fun j => if j = i then ((z : Nat) : Int) else kE (drawT e r d i) j) (hE (drawT e r d i))))
        generalize hq : World.setRow w1 g _ = w2 at *
        clear hq
        refine hK.out _ _ (past (by kernel_rfl)) (fun hC => ?_)
        clear hK K
        try simp only [Act.put, List.getElem_toArray, List.getElem_cons_zero, List.getElem_cons_succ, List.setIfInBounds_toArray, List.set_cons_zero, List.set_cons_succ]
        refine wpAnyD_pure (i := 20) (v := ?_) rfl hC (by kernel_rfl) (by kernel_rfl) (by kernel_rfl) (by decide) (fun _ _ _ h => h) (Or.inl ⟨by rfl, ?_⟩) (past (by kernel_rfl)) ?_
        rotate_left
        · intro w hSw
          clear hSw
          go_simp
          try with_reducible rfl
        try simp only [Act.put, List.getElem_toArray, List.getElem_cons_zero, List.getElem_cons_succ, List.setIfInBounds_toArray, List.set_cons_zero, List.set_cons_succ]
        clear hC
        intro hC
        refine wpAnyD_one (i := 21) (by kernel_rfl) rfl hC (fun K hK => ?_)
        clear hC
        refine step_store_into rfl 4 (.tmp 42) (.const (.bool true)) rfl g (8 + i) (.bool true) rfl rfl rfl 28 _ _ HX2.out size1b (by show 8 + i < 12; have := HL.out; omega) (set_h _ _ _ HL.out _) ?_
        have HX3 := Shut.mk (At12.set (b' := bE (drawT e r d i)) (k' := fun j => if j = i then ((z : Nat) : Int) else kE (drawT e r d i) j) (h' := fun j => if j = i then true else hE (drawT e r d i) j) HX2.out)
        have HO3 := Shut.mk (HO2.out.setRow (g := g) (fun _ => rfl) (c12 (bE (drawT e r d i)) (fun j => if j = i then ((z : Nat) : Int) else kE (drawT e r d i) j) (fun j => if j = i then true else hE (drawT e r d i) j)))
        generalize hq : World.setRow w2 g _ = w3 at *
        clear hq
        refine hK.out _ _ (past (by kernel_rfl)) (fun hC => ?_)
        clear hK K
        try simp only [Act.put, List.getElem_toArray, List.getElem_cons_zero, List.getElem_cons_succ, List.setIfInBounds_toArray, List.set_cons_zero, List.set_cons_succ]
        refine wpAnyD_done (by kernel_rfl) ?_ _
        try simp only [Act.put, List.getElem_toArray, List.getElem_cons_zero, List.getElem_cons_succ, List.setIfInBounds_toArray, List.set_cons_zero, List.set_cons_succ]
        clear hC hHeld y1 y2 y3 y4 y5
        go_wp2_with (fail)
        go_roundw
        case rel => exact ⟨i + 1, HL.out, by go_num, ⟨HX3.out.to (drawT_done HRI.out.symm HC0.out HZ.out)⟩, ⟨HO.out.trans (T := (· = g)) HO3.out (fun _ _ h => h)⟩⟩
        case measure => have := HL.out; simp [intOf]; omega
    · obtain rfl : i = 4 := by omega
      go_wp2_with (fail)
      refine bodyPost_end (results_none (fn := Tryd.f19) rfl _ _ _) rfl ?_
      exact ⟨rfl, HG.out.like (drawT_4 e r d), (Only.of_quiet HW.out).trans (T := (· = g)) HO.out (fun _ _ h => h)⟩
end Go.Proofs.YtndkmgcmegcieaaDoor
