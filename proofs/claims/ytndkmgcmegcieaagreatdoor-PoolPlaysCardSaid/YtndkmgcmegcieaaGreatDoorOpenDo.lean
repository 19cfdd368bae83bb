/-
  A []muezzinlaw14.Do THAT CAME IN, OPENED: four numbers and a packet each.
-/
import Derived.Test.YtndkmgcmegcieaaGreatDoorOpenK
namespace Go.Proofs.YtndkmgcmegcieaaGreatDoor
open Go.ChangeShapes Go.WideShapes Go.ChangeAt Go.RowKit Go.Deep
set_option linter.unusedVariables false
set_option linter.unusedSimpArgs false
structure Dop where
 kind : Int
 a : Int
 b : Int
 n : Int
 p : Pk
def doC (d : Dop) (v : Value) : List Value := [.int .i64 d.kind, .int .i64 d.a, .int .i64 d.b, .int .i64 d.n, .int .i64 d.p.id, .int .u32 d.p.flow, .int .i64 d.p.tid, .int .i64 d.p.at_, v]
def do00 : Dop × Value := (⟨0, 0, 0, 0, ⟨0, 0, 0, 0, []⟩⟩, .slice none 0 0)
def okDo (d : Dop) : Prop := ((Lit.int .i64 d.kind).wf = true ∧ (Lit.int .i64 d.a).wf = true ∧ (Lit.int .i64 d.b).wf = true ∧ (Lit.int .i64 d.n).wf = true) ∧ okPk d.p
def RowDo (T : Nat → Prop) (w : World) (A : Option Addr) (n : Nat) (l : List Dop) : Prop := RowK doC (fun d => d.p.body) 9 do00 T w A n l
theorem cellsDo : Tryz.prog.cellsOf 37 = 9 := by kernel_rfl
section
variable {H : Type} {enc : TypeId × Value → H} {W : World} {base : Nat} {held : Bool}
theorem open_do {fuel : Nat} {cs : List Value} {x : DataW H × List MemPlace} (h : DataW.trod enc Tryz.prog W base (fun _ => true) held fuel 37 cs = some x) :
 ∃ (q : Dop × Value), cs = doC q.1 q.2 ∧ ElK (fun k => k < W.heap.size) W q.2 q.1.p.body ∧ okDo q.1 := by
 have hsz : cs.length = 9 := by
  obtain ⟨xs, n, _, hx, hsz, hlen, hg⟩ := DataW.trod_struct Tryz.underlying37 h
  rw [cellsDo] at hsz
  exact hsz
 match cs, hsz, h with
 | [c0, c1, c2, c3, c4, c5, c6, c7, c8], _, h =>
  obtain ⟨xs, n, _, hx, _, hlen, hg⟩ := DataW.trod_struct Tryz.underlying37 h
  match xs, hlen with
  | [y0, y1, y2, y3, y4], _ =>
   have g0 : DataW.trod enc Tryz.prog W base (fun _ => true) held n 3 (List.take (Tryz.prog.cellsOf 3) (List.drop 0 [c0, c1, c2, c3, c4, c5, c6, c7, c8])) = some y0 := hg 0 _ rfl
   have g1 : DataW.trod enc Tryz.prog W base (fun _ => true) held n 3 (List.take (Tryz.prog.cellsOf 3) (List.drop 1 [c0, c1, c2, c3, c4, c5, c6, c7, c8])) = some y1 := hg 1 _ rfl
   have g2 : DataW.trod enc Tryz.prog W base (fun _ => true) held n 3 (List.take (Tryz.prog.cellsOf 3) (List.drop 2 [c0, c1, c2, c3, c4, c5, c6, c7, c8])) = some y2 := hg 2 _ rfl
   have g3 : DataW.trod enc Tryz.prog W base (fun _ => true) held n 3 (List.take (Tryz.prog.cellsOf 3) (List.drop 3 [c0, c1, c2, c3, c4, c5, c6, c7, c8])) = some y3 := hg 3 _ rfl
   have g4 : DataW.trod enc Tryz.prog W base (fun _ => true) held n 35 (List.take (Tryz.prog.cellsOf 35) (List.drop 4 [c0, c1, c2, c3, c4, c5, c6, c7, c8])) = some y4 := hg 4 _ rfl
   rw [cellsPi] at g0 g1 g2 g3
   rw [cellsPk] at g4
   obtain ⟨a0, e0, _, w0⟩ := DataW.trod_int Tryz.underlying3 g0
   obtain ⟨a1, e1, _, w1⟩ := DataW.trod_int Tryz.underlying3 g1
   obtain ⟨a2, e2, _, w2⟩ := DataW.trod_int Tryz.underlying3 g2
   obtain ⟨a3, e3, _, w3⟩ := DataW.trod_int Tryz.underlying3 g3
   simp at e0 e1 e2 e3
   subst e0 e1 e2 e3
   obtain ⟨q, e4, h4, h5⟩ := open_pkt g4
   have e5 : [c4, c5, c6, c7, c8] = pkC q.1 q.2 := e4
   unfold pkC at e5
   simp only [List.cons.injEq, and_true] at e5
   obtain ⟨rfl, rfl, rfl, rfl, rfl⟩ := e5
   exact ⟨(⟨a0, a1, a2, a3, q.1⟩, q.2), rfl, h4, ⟨w0, w1, w2, w3⟩, h5⟩
theorem open_dos {fuel : Nat} {v : Value} {x : DataW H × List MemPlace} (h : DataW.trod enc Tryz.prog W base (fun _ => true) held fuel 23 [v] = some x) :
 ∃ A c l, v = .slice A l.length c ∧ RowDo (fun k => k < W.heap.size) W A l.length l ∧ l.length ≤ c ∧ ∀ d ∈ l, okDo d := by
 rcases open_slice Tryz.underlying23 h with ⟨h0, -⟩ | ⟨a, len, cap, m, n, D, Pl, h0, hb, hl, hm, hmm, -, hx⟩
 ·simp at h0
  exact ⟨none, 0, [], h0, RowK.nil _ _ _, Nat.le_refl _, fun u hu => by cases hu⟩
 ·simp at h0
  have hlm : len ≤ m := by rw [hmm]; split <;> omega
  rw [cellsDo] at hx
  have each : ∀ i, i < len → ∃ q : Dop × Value, (∀ j u, (doC q.1 q.2)[j]? = some u → W.cell? ((a.add (i * 9)).add j) = some u) ∧ ElK (fun k => k < W.heap.size) W q.2 q.1.p.body ∧ okDo q.1 := by
   intro i hi
   obtain ⟨cs, h1, h2⟩ := hx i (by omega)
   obtain ⟨-, hlen, hc⟩ := World.cells?_some h1
   obtain ⟨q, rfl, h3, h4⟩ := open_do h2
   refine ⟨q, fun j u hu => ?_, h3, h4⟩
   have hj : j < 9 := by
    have := (List.getElem?_eq_some_iff.1 hu).1
    rw [hlen] at this; exact this
   rw [hc j hj, hu]
  haveI : Inhabited (Dop × Value) := ⟨do00⟩
  obtain ⟨f, hf⟩ := choose_lt each
  refine ⟨some a, cap, (List.range len).map fun i => (f i).1, by simpa using h0, ⟨(List.range len).map f, ⟨by simp, by simp; omega, fun hp => ?_⟩, by simp, ?_⟩, by simpa using hl, ?_⟩
  ·rw [List.length_map, List.length_range] at hp ⊢
   obtain ⟨b, off, spot⟩ := a
   have hc0 := (hf 0 hp).1 0 _ rfl
   have hspot : spot = none := by simpa [Addr.add] using World.cell?_spot hc0
   subst hspot
   refine ⟨b, off, rfl, fun i hi => ?_⟩
   have hg : ((List.range len).map f).getD i do00 = f i := by simp [List.getD, hi]
   rw [hg]
   intro j v hv
   have := (hf i hi).1 j v hv
   rw [Addr.add_mid, Addr.add_mid] at this
   exact this
  ·intro p hp
   obtain ⟨i, hi, rfl⟩ := List.mem_map.1 hp
   exact (hf i (List.mem_range.1 hi)).2.1
  ·intro u hu
   obtain ⟨i, hi, rfl⟩ := List.mem_map.1 hu
   exact (hf i (List.mem_range.1 hi)).2.2
end
end Go.Proofs.YtndkmgcmegcieaaGreatDoor
