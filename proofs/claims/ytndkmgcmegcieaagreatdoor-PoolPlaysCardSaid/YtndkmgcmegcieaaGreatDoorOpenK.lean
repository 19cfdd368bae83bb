/-
  A []api.Packet THAT CAME IN, OPENED (and one api.Packet, by its cells).
-/
import Derived.Test.YtndkmgcmegcieaaGreatDoorMgC
import Derived.Deep.SlicePairs
import Derived.OpenShut
namespace Go.Proofs.YtndkmgcmegcieaaGreatDoor
open Go.ChangeShapes Go.WideShapes Go.ChangeAt Go.RowKit Go.Deep
set_option linter.unusedVariables false
set_option linter.unusedSimpArgs false
def okPk (p : Pk) : Prop := (Lit.int .i64 p.id).wf = true ∧ (Lit.int .u32 p.flow).wf = true ∧ (Lit.int .i64 p.tid).wf = true ∧ (Lit.int .i64 p.at_).wf = true
theorem cellsPk : Tryz.prog.cellsOf 35 = 5 := by kernel_rfl
theorem cellsPi : Tryz.prog.cellsOf 3 = 1 := by kernel_rfl
theorem cellsPu : Tryz.prog.cellsOf 22 = 1 := by kernel_rfl
theorem cellsPl : Tryz.prog.cellsOf 2 = 1 := by kernel_rfl
theorem cellsPs : Tryz.prog.cellsOf 33 = 1 := by kernel_rfl
section
variable {H : Type} {enc : TypeId × Value → H} {W : World} {base : Nat} {held : Bool}
theorem open_pkt {fuel : Nat} {cs : List Value} {x : DataW H × List MemPlace} (h : DataW.trod enc Tryz.prog W base (fun _ => true) held fuel 35 cs = some x) :
 ∃ (q : Pk × Value), cs = pkC q.1 q.2 ∧ ElK (fun k => k < W.heap.size) W q.2 q.1.body ∧ okPk q.1 := by
 have hsz : cs.length = 5 := by
  obtain ⟨xs, n, _, hx, hsz, hlen, hg⟩ := DataW.trod_struct Tryz.underlying35 h
  rw [cellsPk] at hsz
  exact hsz
 match cs, hsz, h with
 | [c0, c1, c2, c3, c4], _, h =>
  obtain ⟨xs, n, _, hx, _, hlen, hg⟩ := DataW.trod_struct Tryz.underlying35 h
  match xs, hlen with
  | [y0, y1, y2, y3, y4], _ =>
   have g0 : DataW.trod enc Tryz.prog W base (fun _ => true) held n 3 (List.take (Tryz.prog.cellsOf 3) (List.drop 0 [c0, c1, c2, c3, c4])) = some y0 := hg 0 _ rfl
   have g1 : DataW.trod enc Tryz.prog W base (fun _ => true) held n 22 (List.take (Tryz.prog.cellsOf 22) (List.drop 1 [c0, c1, c2, c3, c4])) = some y1 := hg 1 _ rfl
   have g2 : DataW.trod enc Tryz.prog W base (fun _ => true) held n 3 (List.take (Tryz.prog.cellsOf 3) (List.drop 2 [c0, c1, c2, c3, c4])) = some y2 := hg 2 _ rfl
   have g3 : DataW.trod enc Tryz.prog W base (fun _ => true) held n 2 (List.take (Tryz.prog.cellsOf 2) (List.drop 3 [c0, c1, c2, c3, c4])) = some y3 := hg 3 _ rfl
   have g4 : DataW.trod enc Tryz.prog W base (fun _ => true) held n 33 (List.take (Tryz.prog.cellsOf 33) (List.drop 4 [c0, c1, c2, c3, c4])) = some y4 := hg 4 _ rfl
   rw [cellsPi] at g0 g2
   rw [cellsPu] at g1
   rw [cellsPl] at g3
   rw [cellsPs] at g4
   obtain ⟨a0, e0, _, w0⟩ := DataW.trod_int Tryz.underlying3 g0
   obtain ⟨a1, e1, _, w1⟩ := DataW.trod_int Tryz.underlying22 g1
   obtain ⟨a2, e2, _, w2⟩ := DataW.trod_int Tryz.underlying3 g2
   obtain ⟨a3, e3, _, w3⟩ := DataW.trod_int Tryz.underlying2 g3
   simp at e0 e1 e2 e3
   subst e0 e1 e2 e3
   obtain ⟨A, ln, cp, zs, rfl, hrow, hcp⟩ : ∃ A ln cp zs, c4 = .slice A ln cp ∧ IsRow .u8 W A ln cp zs ∧ ln ≤ cp := by
    rcases open_ints Tryz.underlying33 Tryz.underlying5 (by kernel_rfl) g4 with ⟨hcs, _⟩ | ⟨x, l, c, zs, hcs, _, hl, hm, hz, _, hcell, hwz⟩
    ·simp at hcs
     exact ⟨none, 0, 0, [], hcs, .inl ⟨rfl, rfl, rfl, rfl⟩, Nat.le_refl _⟩
    ·simp at hcs
     exact ⟨some x, l, c, zs, hcs, .inr ⟨_, rfl, hl, hm, by simpa using hz, hcell, hwz⟩, hl⟩
   have hr := RowB.of_row hrow
   refine ⟨(⟨a0, a1, a2, a3, zs.take ln⟩, .slice A ln cp), rfl, ElK.of hr hcp (fun hp p e => ?_), w0, w1, w2, w3⟩
   obtain ⟨b, off, e2, h1⟩ := hr.cells hp
   rw [e] at e2
   obtain rfl := Option.some.inj e2
   exact cell_lt' (h1 0 hp)
end
end Go.Proofs.YtndkmgcmegcieaaGreatDoor
