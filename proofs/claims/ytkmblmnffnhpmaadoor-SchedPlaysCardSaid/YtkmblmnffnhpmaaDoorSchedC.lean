/-
  CONTRACTS of package sched: the turns in their block; Len, Less, Swap, Push, Pop.
-/
import Derived.Test.YtkmblmnffnhpmaaDoorHeapC
import Derived.Test.YtkmblmnffnhpmaaDoorTkH
import Derived.Test.YtkmblmnffnhpmaaDoorTkD
import Derived.StillTailTactics
import Derived.LoopTactic
namespace Go.Proofs.YtkmblmnffnhpmaaDoor
open Go.ChangeShapes Go.WideShapes Go.ChangeAt Go.RowKit Go.Deep
set_option linter.unusedVariables false
set_option linter.unusedSimpArgs false

/-- one turned at a. -/
def upX (x : Nat → Int) (a : Nat) (v : Int) (k : Nat) : Int := if k = a then v else x k
def c35 (x y : Nat → Int) (v : Value) : Array Value := #[.int .i64 (x 0), .int .i64 (y 0), .int .i64 (x 1), .int .i64 (y 1), .int .i64 (x 2), .int .i64 (y 2), .int .i64 (x 3), .int .i64 (y 3), .int .i64 (x 4), .int .i64 (y 4), .int .i64 (x 5), .int .i64 (y 5), .int .i64 (x 6), .int .i64 (y 6), .int .i64 (x 7), .int .i64 (y 7), .int .i64 (x 8), .int .i64 (y 8), .int .i64 (x 9), .int .i64 (y 9), .int .i64 (x 10), .int .i64 (y 10), .int .i64 (x 11), .int .i64 (y 11), .int .i64 (x 12), .int .i64 (y 12), .int .i64 (x 13), .int .i64 (y 13), .int .i64 (x 14), .int .i64 (y 14), .int .i64 (x 15), .int .i64 (y 15), .int .i64 (x 16), .int .i64 (y 16), v]
theorem c35_x (x y : Nat → Int) (v : Value) {a : Nat} (ha : a < 17) : (c35 x y v)[a * 2]? = some (.int .i64 (x a)) := by
  match a, ha with
  | 0, _ | 1, _ | 2, _ | 3, _ | 4, _ | 5, _ | 6, _ | 7, _ | 8, _ | 9, _ | 10, _ | 11, _ | 12, _ | 13, _ | 14, _ | 15, _ | 16, _ => rfl
  | n + 17, h => exact absurd h (by omega)
theorem c35_y (x y : Nat → Int) (v : Value) {a : Nat} (ha : a < 17) : (c35 x y v)[a * 2 + 1]? = some (.int .i64 (y a)) := by
  match a, ha with
  | 0, _ | 1, _ | 2, _ | 3, _ | 4, _ | 5, _ | 6, _ | 7, _ | 8, _ | 9, _ | 10, _ | 11, _ | 12, _ | 13, _ | 14, _ | 15, _ | 16, _ => rfl
  | n + 17, h => exact absurd h (by omega)
theorem set_x (x y : Nat → Int) (v : Value) {a : Nat} (ha : a < 17) (u : Int) : (c35 x y v).setIfInBounds (a * 2) (.int .i64 u) = c35 (upX x a u) y v := by
  match a, ha with
  | 0, _ | 1, _ | 2, _ | 3, _ | 4, _ | 5, _ | 6, _ | 7, _ | 8, _ | 9, _ | 10, _ | 11, _ | 12, _ | 13, _ | 14, _ | 15, _ | 16, _ => rfl
  | n + 17, h => exact absurd h (by omega)
theorem set_y (x y : Nat → Int) (v : Value) {a : Nat} (ha : a < 17) (u : Int) : (c35 x y v).setIfInBounds (a * 2 + 1) (.int .i64 u) = c35 x (upX y a u) v := by
  match a, ha with
  | 0, _ | 1, _ | 2, _ | 3, _ | 4, _ | 5, _ | 6, _ | 7, _ | 8, _ | 9, _ | 10, _ | 11, _ | 12, _ | 13, _ | 14, _ | 15, _ | 16, _ => rfl
  | n + 17, h => exact absurd h (by omega)
theorem set_v (x y : Nat → Int) (v u : Value) : (c35 x y v).setIfInBounds 34 u = c35 x y u := rfl
def s2 (p q : Int) : List Value := [.int .i64 p, .int .i64 q]
theorem c35_cut (x y : Nat → Int) (v : Value) {a : Nat} (ha : a < 17) : ∃ pre post : List Value, pre.length = a * 2 ∧ c35 x y v = (pre ++ s2 (x a) (y a) ++ post).toArray ∧ ∀ p q, (pre ++ s2 p q ++ post).toArray = c35 (upX x a p) (upX y a q) v := by
  refine ⟨(c35 x y v).toList.take (a * 2), (c35 x y v).toList.drop (2 + a * 2), ?_⟩
  match a, ha with
  | 0, _ | 1, _ | 2, _ | 3, _ | 4, _ | 5, _ | 6, _ | 7, _ | 8, _ | 9, _ | 10, _ | 11, _ | 12, _ | 13, _ | 14, _ | 15, _ | 16, _ => exact ⟨rfl, rfl, fun _ _ => rfl⟩
  | n + 17, h => exact absurd h (by omega)
theorem c35_congr {x y x' y' : Nat → Int} {v : Value} (hx : ∀ a, a < 17 → x a = x' a) (hy : ∀ a, a < 17 → y a = y' a) : c35 x y v = c35 x' y' v := by
  unfold c35
  rw [hx 0 (by decide), hx 1 (by decide), hx 2 (by decide), hx 3 (by decide), hx 4 (by decide), hx 5 (by decide), hx 6 (by decide), hx 7 (by decide), hx 8 (by decide), hx 9 (by decide), hx 10 (by decide), hx 11 (by decide), hx 12 (by decide), hx 13 (by decide), hx 14 (by decide), hx 15 (by decide), hx 16 (by decide), hy 0 (by decide), hy 1 (by decide), hy 2 (by decide), hy 3 (by decide), hy 4 (by decide), hy 5 (by decide), hy 6 (by decide), hy 7 (by decide), hy 8 (by decide), hy 9 (by decide), hy 10 (by decide), hy 11 (by decide), hy 12 (by decide), hy 13 (by decide), hy 14 (by decide), hy 15 (by decide), hy 16 (by decide)]
/-- the turns lie at g. -/
def At35 (T : TypeId) (w : World) (g : Nat) (x y : Nat → Int) (v : Value) : Prop := w.heap[g]? = some (.cells (c35 x y v) T (0, 0))
section
variable {T : TypeId} {S : Nat → Prop} {w w' : World} {g : Nat} {x y : Nat → Int} {v : Value} {l : List Int}
theorem At35.cell (hg : At35 T w g x y v) (i : Nat) : w.cell? ⟨g, i, none⟩ = (c35 x y v)[i]? := by
  simp only [World.cell?, show w.heap[g]? = _ from hg]
  rfl
theorem At35.cx (hg : At35 T w g x y v) {a : Nat} (ha : a < 17) : w.cell? ⟨g, a * 2, none⟩ = some (.int .i64 (x a)) := (hg.cell _).trans (c35_x x y v ha)
theorem At35.cy (hg : At35 T w g x y v) {a : Nat} (ha : a < 17) : w.cell? ⟨g, a * 2 + 1, none⟩ = some (.int .i64 (y a)) := (hg.cell _).trans (c35_y x y v ha)
theorem At35.cv (hg : At35 T w g x y v) : w.cell? ⟨g, 34, none⟩ = some v := hg.cell 34
theorem At35.below (hg : At35 T w g x y v) (hb : Below w.heap.size w w') : At35 T w' g x y v := (hb.block g (lt_blk hg)).trans hg
/-- the list of those that are active lies there, too. -/
structure IsTu (T : TypeId) (S : Nat → Prop) (g : Nat) (x y : Nat → Int) (w : World) (l : List Int) : Prop where
  at_ : ∃ v, At35 T w g x y v ∧ RowN w v l ∧ (∀ k, v.ownBlock = some k → S k ∧ k ≠ g)
  few : l.length ≤ 1000
  aid : ∀ a ∈ l, 0 ≤ a ∧ a < 17
  sg : S g
theorem RowN.below (h : RowN w v l) (hb : Below w.heap.size w w') : RowN w' v l := RowN.only (S := fun _ => False) h (Only.of_quiet hb) fun _ _ h => h
theorem IsTu.below (h : IsTu T S g x y w l) (hb : Below w.heap.size w w') : IsTu T S g x y w' l := by
  obtain ⟨v, h1, h2, h3⟩ := h.at_
  exact ⟨⟨v, h1.below hb, h2.below hb, h3⟩, h.few, h.aid, h.sg⟩
theorem IsTu.el (h : IsTu T S g x y w l) {i : Nat} (hi : i < l.length) : ∃ b o cap : Nat, ∃ a : Nat, At35 T w g x y (.slice (some ⟨b, o, none⟩) l.length cap) ∧ RowN w (.slice (some ⟨b, o, none⟩) l.length cap) l ∧ S b ∧ b ≠ g ∧ l.length ≤ cap ∧ w.cell? ⟨b, o + i, none⟩ = some (.int .i64 (a : Int)) ∧ a < 17 ∧ l.getD i 0 = (a : Int) := by
  obtain ⟨v, h1, h2, h3⟩ := h.at_
  obtain ⟨b, o, cap, rfl, hr, hc, hm⟩ := RowAt.cells h2 (by omega)
  have hm := h.aid (l.getD i 0) (mem_getD hi)
  refine ⟨b, o, cap, (l.getD i 0).toNat, h1, h2, (h3 b rfl).1, (h3 b rfl).2, hc, ?_, by omega, by omega⟩
  rw [show (((l.getD i 0).toNat : Nat) : Int) = l.getD i 0 by omega]
  exact hr i _ (by simp [List.getD, hi])
end
/-- by time, then by number. -/
def ltA (y : Nat → Int) (a b : Int) : Prop := y a.toNat < y b.toNat ∨ y a.toNat = y b.toNat ∧ a < b
instance (y : Nat → Int) : DecidableRel (ltA y) := fun a b => by unfold ltA; exact inferInstance
theorem ltA_slo (y : Nat → Int) : Slo (ltA y) := ⟨fun a => by unfold ltA; omega, fun a b c => by unfold ltA; omega, fun a b c => by unfold ltA; omega⟩
/-! ### Len, Less -/
set_option maxRecDepth 100000 in
set_option maxHeartbeats 8000000 in
theorem len_tu (T : TypeId) (S : Nat → Prop) (g : Nat) (x y : Nat → Int) (w : World) (l : List Int) (h : IsTu T S g x y w l) :
    Calls Tryd.prog 30 #[.pointer (some ⟨g, 0, none⟩)] w fun r w' => r = .returned (.int .i64 (l.length : Nat)) ∧ w = w' := by
  obtain ⟨v, h1, h2, h3⟩ := h.at_
  obtain ⟨A, cap, rfl, hc, hn⟩ := h2.form
  have hv := h1.cv
  have hl : (l.length : Int) ≤ 1000 := by have := h.few; omega
  generalize l.length = n at *
  clear h h1 h2 h3 hc hn
  go_enter Tryd.func30, Tryd.ntmps30
  go_wp2_with (fail)
  go_ret
  exact ⟨rfl, rfl⟩
set_option maxRecDepth 100000 in
set_option maxHeartbeats 8000000 in
theorem less_apart (T : TypeId) (g : Nat) (x y : Nat → Int) (w : World) (i j n bb o cap a b : Nat) (p q : Int) (hp : p = y a) (hq : q = y b) (hpq : p ≠ q) (hi : i < n) (hj : j < n) (hn : n ≤ 1000) (hg : At35 T w g x y (.slice (some ⟨bb, o, none⟩) n cap))
    (hx : w.cell? ⟨bb, o + i, none⟩ = some (.int .i64 (a : Int))) (hy : w.cell? ⟨bb, o + j, none⟩ = some (.int .i64 (b : Int))) (ha : a < 17) (hb : b < 17) :
    Calls Tryd.prog 72 #[.pointer (some ⟨g, 0, none⟩), .int .i64 (i : Nat), .int .i64 (j : Nat)] w fun r w' => r = .returned (.bool (decide (ltA y (a : Int) (b : Int)))) ∧ Below w.heap.size w w' := by
  have e1 : (p != q) = true := by simpa using hpq
  have HV := Shut.mk (show decide (ltA y (a : Int) (b : Int)) = decide (p < q) from decide_eq_decide.2 (by unfold ltA; rw [Int.toNat_natCast, Int.toNat_natCast, ← hp, ← hq]; omega))
  have cv := hg.cv
  have ca := hg.cy ha
  have cb := hg.cy hb
  rw [← hp] at ca
  rw [← hq] at cb
  have hi0 : (0 : Int) ≤ (i : Int) := by omega
  have hi1 : (i : Int) < (n : Int) := by omega
  have hj0 : (0 : Int) ≤ (j : Int) := by omega
  have hj1 : (j : Int) < (n : Int) := by omega
  have ha0 : (0 : Int) ≤ (a : Int) := by omega
  have ha1 : (a : Int) < 17 := by omega
  have hb0 : (0 : Int) ≤ (b : Int) := by omega
  have hb1 : (b : Int) < 17 := by omega
  rw [HV.out]
  clear hg hp hq hpq hi hj ha hb
  go_enter Tryd.func72, Tryd.ntmps72
  go_wp2_with (fail)
  go_quiet (fail)
  go_wp2_with (fail)
  go_quiet (fail)
  go_wp2_with (fail)
  go_quiet (fail)
  go_wp2_with (fail)
  go_ret
  exact ⟨rfl, by first | exact below_drewN (Below.refl _ _) _ | exact below_drewN (below_drewN (Below.refl _ _) _) _ | exact below_drewN (below_drewN (below_drewN (Below.refl _ _) _) _) _⟩
set_option maxRecDepth 100000 in
set_option maxHeartbeats 8000000 in
theorem less_same (T : TypeId) (g : Nat) (x y : Nat → Int) (w : World) (i j n bb o cap a b : Nat) (p q : Int) (hp : p = y a) (hq : q = y b) (hpq : p = q) (hi : i < n) (hj : j < n) (hn : n ≤ 1000) (hg : At35 T w g x y (.slice (some ⟨bb, o, none⟩) n cap))
    (hx : w.cell? ⟨bb, o + i, none⟩ = some (.int .i64 (a : Int))) (hy : w.cell? ⟨bb, o + j, none⟩ = some (.int .i64 (b : Int))) (ha : a < 17) (hb : b < 17) :
    Calls Tryd.prog 72 #[.pointer (some ⟨g, 0, none⟩), .int .i64 (i : Nat), .int .i64 (j : Nat)] w fun r w' => r = .returned (.bool (decide (ltA y (a : Int) (b : Int)))) ∧ Below w.heap.size w w' := by
  subst hpq
  have e1 : (p != p) = false := by simp
  have HV := Shut.mk (show decide (ltA y (a : Int) (b : Int)) = decide (a < b) from decide_eq_decide.2 (by unfold ltA; rw [Int.toNat_natCast, Int.toNat_natCast, ← hp, ← hq]; omega))
  have cv := hg.cv
  have ca := hg.cy ha
  have cb := hg.cy hb
  rw [← hp] at ca
  rw [← hq] at cb
  have hi0 : (0 : Int) ≤ (i : Int) := by omega
  have hi1 : (i : Int) < (n : Int) := by omega
  have hj0 : (0 : Int) ≤ (j : Int) := by omega
  have hj1 : (j : Int) < (n : Int) := by omega
  have ha0 : (0 : Int) ≤ (a : Int) := by omega
  have ha1 : (a : Int) < 17 := by omega
  have hb0 : (0 : Int) ≤ (b : Int) := by omega
  have hb1 : (b : Int) < 17 := by omega
  rw [HV.out]
  clear hg hp hq hi hj ha hb
  go_enter Tryd.func72, Tryd.ntmps72
  go_wp2_with (fail)
  go_quiet (fail)
  go_wp2_with (fail)
  go_quiet (fail)
  go_wp2_with (fail)
  
  
  go_ret
  exact ⟨rfl, by first | exact below_drewN (Below.refl _ _) _ | exact below_drewN (below_drewN (Below.refl _ _) _) _ | exact below_drewN (below_drewN (below_drewN (Below.refl _ _) _) _) _⟩
theorem less_tu (T : TypeId) (S : Nat → Prop) (g : Nat) (x y : Nat → Int) (w : World) (l : List Int) (i j : Nat) (h : IsTu T S g x y w l) (hi : i < l.length) (hj : j < l.length) :
    Calls Tryd.prog 72 #[.pointer (some ⟨g, 0, none⟩), .int .i64 (i : Nat), .int .i64 (j : Nat)] w fun r w' => r = .returned (.bool (decide (ltA y (l.getD i 0) (l.getD j 0)))) ∧ Below w.heap.size w w' := by
  obtain ⟨b, o, cap, a, h1, h2, h3, h4, h5, h6, h7, h8⟩ := h.el hi
  obtain ⟨b', o', cap', a', h1', -, -, -, -, h6', h7', h8'⟩ := h.el hj
  have e := h1.cv.symm.trans h1'.cv
  simp only [Option.some.injEq, Value.slice.injEq, Addr.mk.injEq, true_and, and_true] at e
  obtain ⟨⟨rfl, rfl⟩, rfl⟩ := e
  rw [h8, h8']
  by_cases hpq : y a = y a'
  · exact less_same T g x y w i j _ b o cap a a' _ _ rfl rfl hpq hi hj h.few h1 h6 h6' h7 h7'
  · exact less_apart T g x y w i j _ b o cap a a' _ _ rfl rfl hpq hi hj h.few h1 h6 h6' h7 h7'
end Go.Proofs.YtkmblmnffnhpmaaDoor
