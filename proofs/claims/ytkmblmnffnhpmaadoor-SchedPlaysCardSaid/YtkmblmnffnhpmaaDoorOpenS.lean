/-
  A []muezzinlaw20.Do THAT CAME IN, OPENED.
-/
import Derived.Test.YtkmblmnffnhpmaaDoorSchedV
import Derived.Test.YtkmblmnffnhpmaaDoorRowS
import Derived.OpenShut
namespace Go.Proofs.YtkmblmnffnhpmaaDoor
open Go.ChangeShapes Go.WideShapes Go.ChangeAt Go.RowKit Go.Deep
set_option linter.unusedVariables false
set_option linter.unusedSimpArgs false

structure Dos where
  kind : Int
  a : Int
  b : Int
  n : Int
  on : Bool
def doC (d : Dos) : List Value := [.int .i64 d.kind, .int .i64 d.a, .int .i64 d.b, .int .i64 d.n, .bool d.on]
def do00 : Dos := ⟨0, 0, 0, 0, false⟩
def okDo (d : Dos) : Prop := (Lit.int .i64 d.kind).wf = true ∧ (Lit.int .i64 d.a).wf = true ∧ (Lit.int .i64 d.b).wf = true ∧ (Lit.int .i64 d.n).wf = true
theorem cellsDo : Tryd.prog.cellsOf 31 = 5 := by kernel_rfl
theorem cellsP_int : Tryd.prog.cellsOf 3 = 1 := by kernel_rfl
theorem cellsP_int64 : Tryd.prog.cellsOf 2 = 1 := by kernel_rfl
theorem cellsP_bool : Tryd.prog.cellsOf 4 = 1 := by kernel_rfl
section
variable {H : Type} {enc : TypeId × Value → H} {W : World} {base : Nat} {held : Bool}
theorem open_do {fuel : Nat} {cs : List Value} {x : DataW H × List MemPlace} (h : DataW.trod enc Tryd.prog W base (fun _ => true) held fuel 31 cs = some x) :
    ∃ (q : Dos), cs = doC q ∧ okDo q := by
  have hsz : cs.length = 5 := by
    obtain ⟨xs, n, _, hx, hsz, hlen, hg⟩ := DataW.trod_struct Tryd.underlying31 h
    rw [cellsDo] at hsz
    exact hsz
  match cs, hsz, h with
  | [c0, c1, c2, c3, c4], _, h =>
   obtain ⟨xs, n, _, hx, _, hlen, hg⟩ := DataW.trod_struct Tryd.underlying31 h
   match xs, hlen with
   | [y0, y1, y2, y3, y4], _ =>
    have g0 : DataW.trod enc Tryd.prog W base (fun _ => true) held n 3 (List.take (Tryd.prog.cellsOf 3) (List.drop 0 [c0, c1, c2, c3, c4])) = some y0 := hg 0 _ rfl
    rw [cellsP_int] at g0
    have g1 : DataW.trod enc Tryd.prog W base (fun _ => true) held n 3 (List.take (Tryd.prog.cellsOf 3) (List.drop 1 [c0, c1, c2, c3, c4])) = some y1 := hg 1 _ rfl
    rw [cellsP_int] at g1
    have g2 : DataW.trod enc Tryd.prog W base (fun _ => true) held n 3 (List.take (Tryd.prog.cellsOf 3) (List.drop 2 [c0, c1, c2, c3, c4])) = some y2 := hg 2 _ rfl
    rw [cellsP_int] at g2
    have g3 : DataW.trod enc Tryd.prog W base (fun _ => true) held n 2 (List.take (Tryd.prog.cellsOf 2) (List.drop 3 [c0, c1, c2, c3, c4])) = some y3 := hg 3 _ rfl
    rw [cellsP_int64] at g3
    have g4 : DataW.trod enc Tryd.prog W base (fun _ => true) held n 4 (List.take (Tryd.prog.cellsOf 4) (List.drop 4 [c0, c1, c2, c3, c4])) = some y4 := hg 4 _ rfl
    rw [cellsP_bool] at g4
    obtain ⟨a0, e0, _, w0⟩ := DataW.trod_int Tryd.underlying3 g0
    obtain ⟨a1, e1, _, w1⟩ := DataW.trod_int Tryd.underlying3 g1
    obtain ⟨a2, e2, _, w2⟩ := DataW.trod_int Tryd.underlying3 g2
    obtain ⟨a3, e3, _, w3⟩ := DataW.trod_int Tryd.underlying2 g3
    obtain ⟨a4, e4, _⟩ := DataW.trod_bool Tryd.underlying4 g4
    simp at e0 e1 e2 e3 e4
    subst e0 e1 e2 e3 e4
    exact ⟨⟨a0, a1, a2, a3, a4⟩, rfl, w0, w1, w2, w3⟩
theorem open_dos {fuel : Nat} {v : Value} {x : DataW H × List MemPlace} (h : DataW.trod enc Tryd.prog W base (fun _ => true) held fuel 22 [v] = some x) :
    ∃ A c l, v = .slice A l.length c ∧ RowS doC 5 do00 W A l.length l ∧ l.length ≤ c ∧ ∀ d ∈ l, okDo d := by
  rcases open_slice Tryd.underlying22 h with ⟨h0, -⟩ | ⟨a, len, cap, m, n, D, Pl, h0, hb, hl, hm, hmm, -, hx⟩
  · simp at h0
    exact ⟨none, 0, [], h0, RowS.nil, Nat.le_refl _, fun u hu => by cases hu⟩
  · simp at h0
    have hlm : len ≤ m := by rw [hmm]; split <;> omega
    rw [cellsDo] at hx
    have each : ∀ i, i < len → ∃ q : Dos, (∀ j u, (doC q)[j]? = some u → W.cell? ((a.add (i * 5)).add j) = some u) ∧ okDo q := by
      intro i hi
      obtain ⟨cs, h1, h2⟩ := hx i (by omega)
      obtain ⟨-, hlen, hc⟩ := World.cells?_some h1
      obtain ⟨q, rfl, h4⟩ := open_do h2
      refine ⟨q, fun j u hu => ?_, h4⟩
      have hj : j < 5 := by
        have := (List.getElem?_eq_some_iff.1 hu).1
        rw [hlen] at this; exact this
      rw [hc j hj, hu]
    haveI : Inhabited Dos := ⟨do00⟩
    obtain ⟨f, hf⟩ := choose_lt each
    refine ⟨some a, cap, (List.range len).map f, by simpa using h0, ⟨by simp, by simp; omega, fun hp => ?_⟩, by simpa using hl, ?_⟩
    · rw [List.length_map, List.length_range] at hp ⊢
      obtain ⟨b, off, spot⟩ := a
      have hc0 := (hf 0 hp).1 0 _ rfl
      have hspot : spot = none := by simpa [Addr.add] using World.cell?_spot hc0
      subst hspot
      refine ⟨b, off, rfl, fun i hi => ?_⟩
      have hg : ((List.range len).map f).getD i do00 = f i := by simp [List.getD, hi]
      rw [hg]
      intro j v hv
      have := (hf i hi).1 j v hv
      rw [Addr.add_mid, Addr.add_mid] at this
      exact this
    · intro u hu
      obtain ⟨i, hi, rfl⟩ := List.mem_map.1 hu
      exact (hf i (List.mem_range.1 hi)).2
end
end Go.Proofs.YtkmblmnffnhpmaaDoor
