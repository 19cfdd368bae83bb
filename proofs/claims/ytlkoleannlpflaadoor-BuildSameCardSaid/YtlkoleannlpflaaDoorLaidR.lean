/-
  THE TABLES OF PACKAGE rate AS ITS VARIABLES HOLD THEM, out of the row's condition ('laidMet').
-/
import Derived.Test.YtlkoleannlpflaaDoorRowS
import Derived.Lib.LaidTab
import Derived.OpenShut
import Derived.LaidMore
import Derived.MakeChecks
namespace Go.Proofs.YtlkoleannlpflaaDoor
open Go.ChangeShapes Go.WideShapes Go.ChangeAt Go.RowKit
set_option linter.unusedVariables false
set_option linter.unusedSimpArgs false

def legL : List Int := [24, 36, 48, 72, 96, 144, 192, 216]
def codL : List (List Int) := [[1, 1, 2], [2, 1, 2], [2, 3, 4], [4, 1, 2], [4, 3, 4], [6, 2, 3], [6, 3, 4], [6, 5, 6], [8, 3, 4], [8, 5, 6], [10, 3, 4], [10, 5, 6]]
/-- the two tables lie there. -/
structure Tab (w : World) : Prop where
  leg : ∀ i, i < 8 → w.cell? ⟨0, i, none⟩ = some (.int .i64 (legL.getD i 0))
  cod : ∀ i, i < 12 → ∀ j, j < 3 → w.cell? ⟨1, i * 3 + j, none⟩ = some (.int .i64 ((codL.getD i []).getD j 0))
theorem Tab.below {w w' : World} (h : Tab w) (hb : Below w.heap.size w w') : Tab w' :=
  ⟨fun i hi => below_at hb (h.leg i hi), fun i hi j hj => below_at hb (h.cod i hi j hj)⟩
theorem Tab.drewN {w : World} (h : Tab w) (n : Nat) : Tab (w.drewN n) := ⟨h.leg, h.cod⟩
def legD : DataW Unit := Lib.tabData .i64 legL
def codD : DataW Unit := .agg (codL.map fun l => .agg (l.map fun z => .lit (.int .i64 z)))
def rateL : List (String × DataW Unit) := [("muezzin/rate.legacyBits", legD), ("muezzin/rate.codings", codD)]
theorem cellsI1 : Tryd.prog.cellsOf 3 = 1 := by kernel_rfl
theorem cellsCode : Tryd.prog.cellsOf 61 = 3 := by kernel_rfl
/-- one of the codings: its three numbers. -/
theorem code_of_trod {H : Type} {enc : TypeId × Value → H} {W : World} {base : Nat} {sp : Nat → Bool} {held : Bool} {fuel : Nat} {cs : List Value} {zs : List Int} {p : List MemPlace} (hc : cs.length = 3)
    (h : DataW.trod enc Tryd.prog W base sp held fuel 61 cs = some (.agg (zs.map fun z => .lit (.int .i64 z)), p)) : cs = zs.map (Value.int .i64) := by
  match cs, hc with
  | [c0, c1, c2], _ =>
    obtain ⟨xs, n, _, hx, _, hlen, hg⟩ := DataW.trod_struct Tryd.underlying61 h
    match xs, hlen with
    | [y0, y1, y2], _ =>
      have g0 : DataW.trod enc Tryd.prog W base sp held n 3 (List.take (Tryd.prog.cellsOf 3) (List.drop 0 [c0, c1, c2])) = some y0 := hg 0 _ rfl
      have g1 : DataW.trod enc Tryd.prog W base sp held n 3 (List.take (Tryd.prog.cellsOf 3) (List.drop 1 [c0, c1, c2])) = some y1 := hg 1 _ rfl
      have g2 : DataW.trod enc Tryd.prog W base sp held n 3 (List.take (Tryd.prog.cellsOf 3) (List.drop 2 [c0, c1, c2])) = some y2 := hg 2 _ rfl
      rw [cellsI1] at g0 g1 g2
      obtain ⟨a0, e0, rfl, _⟩ := DataW.trod_int Tryd.underlying3 g0
      obtain ⟨a1, e1, rfl, _⟩ := DataW.trod_int Tryd.underlying3 g1
      obtain ⟨a2, e2, rfl, _⟩ := DataW.trod_int Tryd.underlying3 g2
      simp at e0 e1 e2
      subst e0 e1 e2
      have hz := congrArg Prod.fst hx
      simp only [List.map_cons, List.map_nil, DataW.agg.injEq] at hz
      match zs, hz with
      | [z0, z1, z2], hz =>
        simp at hz
        obtain ⟨rfl, rfl, rfl⟩ := hz
        rfl
theorem tab_of_laid {W : World} (h : laidMet Tryd.prog rateL W) : Tab W := by
  have hA := Lib.tabIs_of_head (g := 0) (t := 59) (e := 3) (n := 8) (by kernel_rfl) (by kernel_rfl) Tryd.underlying59 Tryd.underlying3 (by kernel_rfl) (by kernel_rfl) h
  refine ⟨fun i hi => hA.cell (by kernel_rfl) i hi, fun i hi j hj => ?_⟩
  obtain ⟨ps, ⟨_, _, _, _, _, _, _, _, _, _, ⟨g, t, cs, fuel, p, q, hg, ht, hvar, hd, _⟩, _⟩, _⟩ := h
  have hg' : Tryd.prog.globalNamed "muezzin/rate.codings" = some 1 := by kernel_rfl
  obtain rfl := Option.some.inj (hg'.symm.trans hg)
  have ht' : (Tryd.prog.globals[1]?).map (·.type) = some 62 := by kernel_rfl
  obtain rfl := Option.some.inj (ht'.symm.trans ht)
  have hcell : ∀ k, cs[k]? = W.cell? ⟨1, k, none⟩ := fun k => (World.var?_cell hg' hvar k).symm
  cases fuel with
  | zero => simp [DataW.trod] at hd
  | succ fuel =>
    simp only [DataW.trod, Tryd.underlying62, cellsCode] at hd
    split at hd
    · rename_i hl
      obtain ⟨xs, hm, hx⟩ := Option.map_eq_some_iff.1 hd
      obtain ⟨y, hy, hf⟩ := Lib.mapM_at hm i i (by simp [hi])
      have hds : xs.map (·.1) = codL.map fun l => (.agg (l.map fun z => .lit (.int .i64 z)) : DataW Unit) := by
        have := congrArg Prod.fst hx
        simpa [codD] using this
      have hyi : y.1 = .agg ((codL.getD i []).map fun z => .lit (.int .i64 z)) := by
        have h1 := congrArg (·[i]?) hds
        have hi' : i < codL.length := hi
        simp only [List.getElem?_map, hy, Option.map_some, List.getElem?_eq_getElem hi'] at h1
        rw [Option.some.inj h1]
        simp [List.getD, hi']
      have hcl : (codL.getD i []).length = 3 := by
        have : ∀ i, i < 12 → (codL.getD i []).length = 3 := by decide
        exact this i hi
      obtain ⟨y1, y2⟩ := y
      dsimp only at hyi
      subst hyi
      have hlen : (List.take 3 (List.drop (i * 3) cs.toList)).length = 3 := by
        have hc36 : Tryd.prog.cellsOf 62 = 36 := by kernel_rfl
        have hl' : cs.toList.length = 36 := by rw [hc36] at hl; simpa using hl
        simp at hl' ⊢
        omega
      have hcells := code_of_trod hlen hf
      have h2 := congrArg (·[j]?) hcells
      simp only [List.getElem?_take, List.getElem?_drop, hj, if_true, List.getElem?_map] at h2
      have h3 : (codL.getD i [])[j]? = some ((codL.getD i []).getD j 0) := by
        generalize codL.getD i [] = l at *
        simp [List.getD, hcl, hj]
      rw [h3] at h2
      rw [← hcell]
      simpa using h2
    · cases hd
end Go.Proofs.YtlkoleannlpflaaDoor
