/-
  THE TABLE OF PACKAGE edca AS ITS VARIABLE HOLDS IT, out of the row's condition ('laidMet'); the table alone, or behind the sentinels.
-/
import Derived.Test.YtndkmgcmegcieaaDoorEdcaN
import Derived.Test.YtndkmgcmegcieaaDoorLaidP
import Derived.Lib.LaidTab
import Derived.OpenShut
import Derived.LaidMore
namespace Go.Proofs.YtndkmgcmegcieaaDoor
open Go.ChangeShapes Go.WideShapes Go.ChangeAt Go.RowKit
set_option linter.unusedVariables false
set_option linter.unusedSimpArgs false

def rulL : List (List Int) := [[7, 15, 1023], [3, 15, 63], [2, 7, 15], [2, 3, 7]]
def rulD : DataW Unit := .agg (rulL.map fun l => .agg (l.map fun z => .lit (.int .i64 z)))
/-- the table lies there. -/
structure Rul (w : World) : Prop where
  wait : ∀ a, a < 4 → w.cell? ⟨0, a * 3, none⟩ = some (.int .i64 ((waitE a : Nat) : Int))
  first : ∀ a, a < 4 → w.cell? ⟨0, a * 3 + 1, none⟩ = some (.int .i64 ((leastE a : Nat) : Int))
  most : ∀ a, a < 4 → w.cell? ⟨0, a * 3 + 2, none⟩ = some (.int .i64 ((mostE a : Nat) : Int))
theorem Rul.below {w w' : World} (h : Rul w) (hb : Below w.heap.size w w') : Rul w' :=
  ⟨fun a ha => below_at hb (h.wait a ha), fun a ha => below_at hb (h.first a ha), fun a ha => below_at hb (h.most a ha)⟩
theorem Rul.lt {w : World} (h : Rul w) : 0 < w.heap.size := cell_lt' (h.wait 0 (by decide))
theorem cellsI1 : Tryd.prog.cellsOf 3 = 1 := by kernel_rfl
theorem cellsRul : Tryd.prog.cellsOf 55 = 3 := by kernel_rfl
/-- one of the rules: its three numbers. -/
theorem rule_of_trod {H : Type} {enc : TypeId × Value → H} {W : World} {base : Nat} {sp : Nat → Bool} {held : Bool} {fuel : Nat} {cs : List Value} {zs : List Int} {p : List MemPlace} (hc : cs.length = 3)
    (h : DataW.trod enc Tryd.prog W base sp held fuel 55 cs = some (.agg (zs.map fun z => .lit (.int .i64 z)), p)) : cs = zs.map (Value.int .i64) := by
  match cs, hc with
  | [c0, c1, c2], _ =>
    obtain ⟨xs, n, _, hx, _, hlen, hg⟩ := DataW.trod_struct Tryd.underlying55 h
    match xs, hlen with
    | [y0, y1, y2], _ =>
      have g0 : DataW.trod enc Tryd.prog W base sp held n 3 (List.take (Tryd.prog.cellsOf 3) (List.drop 0 [c0, c1, c2])) = some y0 := hg 0 _ rfl
      have g1 : DataW.trod enc Tryd.prog W base sp held n 3 (List.take (Tryd.prog.cellsOf 3) (List.drop 1 [c0, c1, c2])) = some y1 := hg 1 _ rfl
      have g2 : DataW.trod enc Tryd.prog W base sp held n 3 (List.take (Tryd.prog.cellsOf 3) (List.drop 2 [c0, c1, c2])) = some y2 := hg 2 _ rfl
      rw [cellsI1] at g0 g1 g2
      obtain ⟨a0, e0, rfl, _⟩ := DataW.trod_int Tryd.underlying3 g0
      obtain ⟨a1, e1, rfl, _⟩ := DataW.trod_int Tryd.underlying3 g1
      obtain ⟨a2, e2, rfl, _⟩ := DataW.trod_int Tryd.underlying3 g2
      simp at e0 e1 e2
      subst e0 e1 e2
      have hz := congrArg Prod.fst hx
      simp only [List.map_cons, List.map_nil, DataW.agg.injEq] at hz
      match zs, hz with
      | [z0, z1, z2], hz =>
        simp at hz
        obtain ⟨rfl, rfl, rfl⟩ := hz
        rfl
theorem rul_vars {W : World} {ps : List MemPlace} (h : DataW.LaidVars Tryd.prog W [("muezzin/edca.rules", rulD)] ps) : Rul W := by
  have hall : ∀ i, i < 4 → ∀ j, j < 3 → W.cell? ⟨0, i * 3 + j, none⟩ = some (.int .i64 ((rulL.getD i []).getD j 0)) := by
    intro i hi j hj
    obtain ⟨g, t, cs, fuel, p, q, hg, ht, hvar, hd, _⟩ := h
    have hg' : Tryd.prog.globalNamed "muezzin/edca.rules" = some 0 := by kernel_rfl
    obtain rfl := Option.some.inj (hg'.symm.trans hg)
    have ht' : (Tryd.prog.globals[0]?).map (·.type) = some 56 := by kernel_rfl
    obtain rfl := Option.some.inj (ht'.symm.trans ht)
    have hcell : ∀ k, cs[k]? = W.cell? ⟨0, k, none⟩ := fun k => (World.var?_cell hg' hvar k).symm
    cases fuel with
    | zero => simp [DataW.trod] at hd
    | succ fuel =>
      simp only [DataW.trod, Tryd.underlying56, cellsRul] at hd
      split at hd
      · rename_i hl
        obtain ⟨xs, hm, hx⟩ := Option.map_eq_some_iff.1 hd
        obtain ⟨y, hy, hf⟩ := Lib.mapM_at hm i i (by simp [hi])
        have hds : xs.map (·.1) = rulL.map fun l => (.agg (l.map fun z => .lit (.int .i64 z)) : DataW Unit) := by
          have := congrArg Prod.fst hx
          simpa [rulD] using this
        have hyi : y.1 = .agg ((rulL.getD i []).map fun z => .lit (.int .i64 z)) := by
          have h1 := congrArg (·[i]?) hds
          have hi' : i < rulL.length := hi
          simp only [List.getElem?_map, hy, Option.map_some, List.getElem?_eq_getElem hi'] at h1
          rw [Option.some.inj h1]
          simp [List.getD, hi']
        have hcl : (rulL.getD i []).length = 3 := by
          have : ∀ i, i < 4 → (rulL.getD i []).length = 3 := by decide
          exact this i hi
        obtain ⟨y1, y2⟩ := y
        dsimp only at hyi
        subst hyi
        have hlen : (List.take 3 (List.drop (i * 3) cs.toList)).length = 3 := by
          have hc12 : Tryd.prog.cellsOf 56 = 12 := by kernel_rfl
          have hl' : cs.toList.length = 12 := by rw [hc12] at hl; simpa using hl
          simp at hl' ⊢
          omega
        have hcells := rule_of_trod hlen hf
        have h2 := congrArg (·[j]?) hcells
        simp only [List.getElem?_take, List.getElem?_drop, hj, if_true, List.getElem?_map] at h2
        have h3 : (rulL.getD i [])[j]? = some ((rulL.getD i []).getD j 0) := by
          generalize rulL.getD i [] = l at *
          simp [List.getD, hcl, hj]
        rw [h3] at h2
        rw [← hcell]
        simpa using h2
      · cases hd
  have e0 : ∀ a, a < 4 → (rulL.getD a []).getD 0 0 = ((waitE a : Nat) : Int) := by decide
  have e1 : ∀ a, a < 4 → (rulL.getD a []).getD 1 0 = ((leastE a : Nat) : Int) := by decide
  have e2 : ∀ a, a < 4 → (rulL.getD a []).getD 2 0 = ((mostE a : Nat) : Int) := by decide
  exact ⟨fun a ha => by have := hall a ha 0 (by decide); rw [e0 a ha] at this; exact this, fun a ha => by have := hall a ha 1 (by decide); rw [e1 a ha] at this; exact this, fun a ha => by have := hall a ha 2 (by decide); rw [e2 a ha] at this; exact this⟩
/-- the table alone. -/
theorem rul_of_laid {W : World} (h : laidMet Tryd.prog [("muezzin/edca.rules", rulD)] W) : Rul W := by
  obtain ⟨ps, h1, -⟩ := h
  exact rul_vars h1
theorem vars_app {P : Program} {W : World} : ∀ (L1 L2 : List (String × DataW Unit)) (ps : List MemPlace), DataW.LaidVars P W (L1 ++ L2) ps → ∃ p1 p2, ps = p1 ++ p2 ∧ DataW.LaidVars P W L1 p1 ∧ DataW.LaidVars P W L2 p2
  | [], L2, ps, h => ⟨[], ps, rfl, rfl, h⟩
  | (n, d) :: r, L2, ps, h => by
    obtain ⟨g, t, cs, fuel, p, q, hg, ht, hvar, hd, hq, rfl⟩ := h
    obtain ⟨p1, p2, rfl, h1, h2⟩ := vars_app r L2 q hq
    exact ⟨MemPlace.row ⟨g, 0, none⟩ cs.size ++ p ++ p1, p2, by simp, ⟨g, t, cs, fuel, p, p1, hg, ht, hvar, hd, h1, rfl⟩, h2⟩
/-- the table behind others. -/
theorem rul_behind {W : World} (L : List (String × DataW Unit)) (h : laidMet Tryd.prog (L ++ [("muezzin/edca.rules", rulD)]) W) : laidMet Tryd.prog L W ∧ Rul W := by
  obtain ⟨ps, hv, hn, hrows⟩ := h
  obtain ⟨p1, p2, rfl, h1, h2⟩ := vars_app L _ _ hv
  exact ⟨⟨p1, h1, (List.nodup_append.1 hn).1, fun b off hm => hrows b off (List.mem_append_left _ hm)⟩, rul_vars h2⟩
end Go.Proofs.YtndkmgcmegcieaaDoor
