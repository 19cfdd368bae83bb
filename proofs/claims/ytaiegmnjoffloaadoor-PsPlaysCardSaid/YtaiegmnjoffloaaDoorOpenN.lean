/-
  A []muezzinlaw21.Do THAT CAME IN, OPENED: three numbers, a flag, four flags each.
-/
import Derived.Test.YtaiegmnjoffloaaDoorOpenU
import Derived.Test.YtaiegmnjoffloaaDoorRowS
import Derived.OpenShut
namespace Go.Proofs.YtaiegmnjoffloaaDoor
open Go.ChangeShapes Go.WideShapes Go.ChangeAt Go.RowKit Go.Deep
set_option linter.unusedVariables false
set_option linter.unusedSimpArgs false

/-- something that is told of sleep. -/
structure Don where
  kind : Int
  a : Int
  n : Int
  on : Bool
  u : Nat → Bool
def doC (q : Don) : List Value := [.int .i64 q.kind, .int .i64 q.a, .int .i64 q.n, .bool q.on, .bool (q.u 0), .bool (q.u 1), .bool (q.u 2), .bool (q.u 3)]
def do00 : Don := ⟨0, 0, 0, false, fun _ => false⟩
def okDo (q : Don) : Prop := (Lit.int .i64 q.a).wf = true ∧ (Lit.int .i64 q.n).wf = true
theorem cellsDo : Tryd.prog.cellsOf 39 = 8 := by kernel_rfl
theorem cellsI1 : Tryd.prog.cellsOf 3 = 1 := by kernel_rfl
theorem cellsB : Tryd.prog.cellsOf 4 = 1 := by kernel_rfl
section
variable {H : Type} {enc : TypeId × Value → H} {W : World} {base : Nat} {held : Bool}
theorem open_do {fuel : Nat} {cs : List Value} {x : DataW H × List MemPlace} (h : DataW.trod enc Tryd.prog W base (fun _ => true) held fuel 39 cs = some x) :
    ∃ q : Don, cs = doC q ∧ okDo q := by
  have hsz : cs.length = 8 := by
    obtain ⟨xs, n, _, hx, hsz, hlen, hg⟩ := DataW.trod_struct Tryd.underlying39 h
    rw [cellsDo] at hsz
    exact hsz
  match cs, hsz, h with
  | [c0, c1, c2, c3, c4, c5, c6, c7], _, h =>
   obtain ⟨xs, n, _, hx, _, hlen, hg⟩ := DataW.trod_struct Tryd.underlying39 h
   match xs, hlen with
   | [y0, y1, y2, y3, y4], _ =>
    have g0 : DataW.trod enc Tryd.prog W base (fun _ => true) held n 3 (List.take (Tryd.prog.cellsOf 3) (List.drop 0 [c0, c1, c2, c3, c4, c5, c6, c7])) = some y0 := hg 0 _ rfl
    have g1 : DataW.trod enc Tryd.prog W base (fun _ => true) held n 3 (List.take (Tryd.prog.cellsOf 3) (List.drop 1 [c0, c1, c2, c3, c4, c5, c6, c7])) = some y1 := hg 1 _ rfl
    have g2 : DataW.trod enc Tryd.prog W base (fun _ => true) held n 3 (List.take (Tryd.prog.cellsOf 3) (List.drop 2 [c0, c1, c2, c3, c4, c5, c6, c7])) = some y2 := hg 2 _ rfl
    have g3 : DataW.trod enc Tryd.prog W base (fun _ => true) held n 4 (List.take (Tryd.prog.cellsOf 4) (List.drop 3 [c0, c1, c2, c3, c4, c5, c6, c7])) = some y3 := hg 3 _ rfl
    have g4 : DataW.trod enc Tryd.prog W base (fun _ => true) held n 26 (List.take (Tryd.prog.cellsOf 26) (List.drop 4 [c0, c1, c2, c3, c4, c5, c6, c7])) = some y4 := hg 4 _ rfl
    rw [cellsI1] at g0 g1 g2
    rw [cellsB] at g3
    rw [cells4b] at g4
    obtain ⟨a0, e0, _, w0⟩ := DataW.trod_int Tryd.underlying3 g0
    obtain ⟨a1, e1, _, w1⟩ := DataW.trod_int Tryd.underlying3 g1
    obtain ⟨a2, e2, _, w2⟩ := DataW.trod_int Tryd.underlying3 g2
    obtain ⟨a3, e3, _⟩ := DataW.trod_bool Tryd.underlying4 g3
    obtain ⟨b0, b1, b2, b3, e4⟩ := open_b4 g4
    simp at e0 e1 e2 e3 e4
    obtain ⟨rfl, rfl, rfl, rfl⟩ := e4
    subst e0 e1 e2 e3
    exact ⟨⟨a0, a1, a2, a3, flags b0 b1 b2 b3⟩, rfl, w1, w2⟩
theorem open_dos {fuel : Nat} {v : Value} {x : DataW H × List MemPlace} (h : DataW.trod enc Tryd.prog W base (fun _ => true) held fuel 22 [v] = some x) :
    ∃ A c l, v = .slice A l.length c ∧ RowS doC 8 do00 W A l.length l ∧ l.length ≤ c ∧ ∀ d ∈ l, okDo d := by
  rcases open_slice Tryd.underlying22 h with ⟨h0, -⟩ | ⟨a, len, cap, m, n, D, Pl, h0, hb, hl, hm, hmm, -, hx⟩
  · simp at h0
    exact ⟨none, 0, [], h0, RowS.nil, Nat.le_refl _, fun u hu => by cases hu⟩
  · simp at h0
    have hlm : len ≤ m := by rw [hmm]; split <;> omega
    rw [cellsDo] at hx
    have each : ∀ i, i < len → ∃ q : Don, (∀ j u, (doC q)[j]? = some u → W.cell? ((a.add (i * 8)).add j) = some u) ∧ okDo q := by
      intro i hi
      obtain ⟨cs, h1, h2⟩ := hx i (by omega)
      obtain ⟨-, hlen, hc⟩ := World.cells?_some h1
      obtain ⟨q, rfl, h4⟩ := open_do h2
      refine ⟨q, fun j u hu => ?_, h4⟩
      have hj : j < 8 := by
        have := (List.getElem?_eq_some_iff.1 hu).1
        rw [hlen] at this; exact this
      rw [hc j hj, hu]
    haveI : Inhabited Don := ⟨do00⟩
    obtain ⟨f, hf⟩ := choose_lt each
    refine ⟨some a, cap, (List.range len).map f, by simpa using h0, ⟨by simp, by simp; omega, fun hp => ?_⟩, by simpa using hl, ?_⟩
    · rw [List.length_map, List.length_range] at hp ⊢
      obtain ⟨b, off, spot⟩ := a
      have hc0 := (hf 0 hp).1 0 _ rfl
      have hspot : spot = none := by simpa [Addr.add] using World.cell?_spot hc0
      subst hspot
      refine ⟨b, off, rfl, fun i hi => ?_⟩
      have hg : ((List.range len).map f).getD i do00 = f i := by simp [List.getD, hi]
      rw [hg]
      intro j v hv
      have := (hf i hi).1 j v hv
      rw [Addr.add_mid, Addr.add_mid] at this
      exact this
    · intro u hu
      obtain ⟨i, hi, rfl⟩ := List.mem_map.1 hu
      exact (hf i (List.mem_range.1 hi)).2
end
end Go.Proofs.YtaiegmnjoffloaaDoor
