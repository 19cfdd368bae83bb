/-
  SESSIONS' FRAMES THAT CAME IN, OPENED.
-/
import Derived.Test.YtjgingfcfmpfaaaDoorOpenG
import Derived.Test.YtjgingfcfmpfaaaDoorActA
namespace Go.Proofs.YtjgingfcfmpfaaaDoor
open Go.ChangeShapes Go.WideShapes Go.ChangeAt Go.RowKit Go.Joins
set_option linter.unusedVariables false

theorem cellsB : Tryd.prog.cellsOf 4 = 1 := by kernel_rfl
theorem cellsAdf : Tryd.prog.cellsOf 25 = 25 := by kernel_rfl
structure IsAdd (q : Adf) : Prop where
  t : q.t.wf
  f : q.f.wf
  b : q.b.wf
  tok : IntKind.i64.min ≤ q.tok ∧ q.tok ≤ IntKind.i64.max
  tid : IntKind.i64.min ≤ q.tid ∧ q.tid ≤ IntKind.i64.max
  size : IntKind.i64.min ≤ q.size ∧ q.size ≤ IntKind.i64.max
  tmo : IntKind.i64.min ≤ q.tmo ∧ q.tmo ≤ IntKind.i64.max
  seq : IntKind.i64.min ≤ q.seq ∧ q.seq ≤ IntKind.i64.max
  st : IntKind.i64.min ≤ q.st ∧ q.st ≤ IntKind.i64.max
theorem cellsDlf : Tryd.prog.cellsOf 27 = 21 := by kernel_rfl
structure IsDel (q : Dlf) : Prop where
  t : q.t.wf
  f : q.f.wf
  b : q.b.wf
  tid : IntKind.i64.min ≤ q.tid ∧ q.tid ≤ IntKind.i64.max
  rs : IntKind.i64.min ≤ q.rs ∧ q.rs ≤ IntKind.i64.max

section
variable {H : Type} {enc : TypeId × Value → H} {W : World} {base : Nat} {held : Bool}
theorem open_add {r : Reach} {b0 : Nat} {v : Value} {d : DataW H} {p : List MemPlace} (hv : Value.okWide Tryd.prog W r b0 25 v) (h : DataW.Trod enc Tryd.prog W base (fun _ => true) held 25 v d p) :
    ∃ q : Adf, v = q.val ∧ IsAdd q := by
  obtain ⟨cs, rfl, hsz⟩ := okWide_struct Tryd.underlying25 hv
  obtain ⟨l⟩ := cs
  have hl : l.length = 25 := by simpa [cellsAdf] using hsz
  match l, hl with
  | [c0, c1, c2, c3, c4, c5, c6, c7, c8, c9, c10, c11, c12, c13, c14, c15, c16, c17, c18, c19, c20, c21, c22, c23, c24], _ =>
    obtain ⟨fuel, hf⟩ := h
    obtain ⟨xs, n, _, hx, _, hlen, hg⟩ := DataW.trod_struct Tryd.underlying25 hf
    match xs, hlen with
    | [y0, y1, y2, y3, y4, y5, y6, y7, y8, y9], _ =>
      have g0 : DataW.trod enc Tryd.prog W base (fun _ => true) held n 23 (List.take (Tryd.prog.cellsOf 23) (List.drop 0 [c0, c1, c2, c3, c4, c5, c6, c7, c8, c9, c10, c11, c12, c13, c14, c15, c16, c17, c18, c19, c20, c21, c22, c23, c24])) = some y0 := hg 0 _ rfl
      have g1 : DataW.trod enc Tryd.prog W base (fun _ => true) held n 23 (List.take (Tryd.prog.cellsOf 23) (List.drop 6 [c0, c1, c2, c3, c4, c5, c6, c7, c8, c9, c10, c11, c12, c13, c14, c15, c16, c17, c18, c19, c20, c21, c22, c23, c24])) = some y1 := hg 1 _ rfl
      have g2 : DataW.trod enc Tryd.prog W base (fun _ => true) held n 23 (List.take (Tryd.prog.cellsOf 23) (List.drop 12 [c0, c1, c2, c3, c4, c5, c6, c7, c8, c9, c10, c11, c12, c13, c14, c15, c16, c17, c18, c19, c20, c21, c22, c23, c24])) = some y2 := hg 2 _ rfl
      have g3 : DataW.trod enc Tryd.prog W base (fun _ => true) held n 4 (List.take (Tryd.prog.cellsOf 4) (List.drop 18 [c0, c1, c2, c3, c4, c5, c6, c7, c8, c9, c10, c11, c12, c13, c14, c15, c16, c17, c18, c19, c20, c21, c22, c23, c24])) = some y3 := hg 3 _ rfl
      have g4 : DataW.trod enc Tryd.prog W base (fun _ => true) held n 3 (List.take (Tryd.prog.cellsOf 3) (List.drop 19 [c0, c1, c2, c3, c4, c5, c6, c7, c8, c9, c10, c11, c12, c13, c14, c15, c16, c17, c18, c19, c20, c21, c22, c23, c24])) = some y4 := hg 4 _ rfl
      have g5 : DataW.trod enc Tryd.prog W base (fun _ => true) held n 3 (List.take (Tryd.prog.cellsOf 3) (List.drop 20 [c0, c1, c2, c3, c4, c5, c6, c7, c8, c9, c10, c11, c12, c13, c14, c15, c16, c17, c18, c19, c20, c21, c22, c23, c24])) = some y5 := hg 5 _ rfl
      have g6 : DataW.trod enc Tryd.prog W base (fun _ => true) held n 3 (List.take (Tryd.prog.cellsOf 3) (List.drop 21 [c0, c1, c2, c3, c4, c5, c6, c7, c8, c9, c10, c11, c12, c13, c14, c15, c16, c17, c18, c19, c20, c21, c22, c23, c24])) = some y6 := hg 6 _ rfl
      have g7 : DataW.trod enc Tryd.prog W base (fun _ => true) held n 3 (List.take (Tryd.prog.cellsOf 3) (List.drop 22 [c0, c1, c2, c3, c4, c5, c6, c7, c8, c9, c10, c11, c12, c13, c14, c15, c16, c17, c18, c19, c20, c21, c22, c23, c24])) = some y7 := hg 7 _ rfl
      have g8 : DataW.trod enc Tryd.prog W base (fun _ => true) held n 3 (List.take (Tryd.prog.cellsOf 3) (List.drop 23 [c0, c1, c2, c3, c4, c5, c6, c7, c8, c9, c10, c11, c12, c13, c14, c15, c16, c17, c18, c19, c20, c21, c22, c23, c24])) = some y8 := hg 8 _ rfl
      have g9 : DataW.trod enc Tryd.prog W base (fun _ => true) held n 3 (List.take (Tryd.prog.cellsOf 3) (List.drop 24 [c0, c1, c2, c3, c4, c5, c6, c7, c8, c9, c10, c11, c12, c13, c14, c15, c16, c17, c18, c19, c20, c21, c22, c23, c24])) = some y9 := hg 9 _ rfl
      rw [cellsAddr] at g0 g1 g2
      rw [cellsI] at g4 g5 g6 g7 g8 g9
      rw [cellsB] at g3
      obtain ⟨a0, e0, w0⟩ := open_six g0
      obtain ⟨a1, e1, w1⟩ := open_six g1
      obtain ⟨a2, e2, w2⟩ := open_six g2
      obtain ⟨a3, e3, _⟩ := DataW.trod_bool Tryd.underlying4 g3
      obtain ⟨a4, e4, _, w4⟩ := DataW.trod_int Tryd.underlying3 g4
      obtain ⟨a5, e5, _, w5⟩ := DataW.trod_int Tryd.underlying3 g5
      obtain ⟨a6, e6, _, w6⟩ := DataW.trod_int Tryd.underlying3 g6
      obtain ⟨a7, e7, _, w7⟩ := DataW.trod_int Tryd.underlying3 g7
      obtain ⟨a8, e8, _, w8⟩ := DataW.trod_int Tryd.underlying3 g8
      obtain ⟨a9, e9, _, w9⟩ := DataW.trod_int Tryd.underlying3 g9
      simp at e0 e1 e2 e3 e4 e5 e6 e7 e8 e9
      obtain ⟨rfl, rfl, rfl, rfl, rfl, rfl⟩ := e0
      obtain ⟨rfl, rfl, rfl, rfl, rfl, rfl⟩ := e1
      obtain ⟨rfl, rfl, rfl, rfl, rfl, rfl⟩ := e2
      subst e3 e4 e5 e6 e7 e8 e9
      exact ⟨⟨a0, a1, a2, a3, a4, a5, a6, a7, a8, a9⟩, rfl, ⟨w0, w1, w2, wf_range w4, wf_range w5, wf_range w6, wf_range w7, wf_range w8, wf_range w9⟩⟩
theorem open_del {r : Reach} {b0 : Nat} {v : Value} {d : DataW H} {p : List MemPlace} (hv : Value.okWide Tryd.prog W r b0 27 v) (h : DataW.Trod enc Tryd.prog W base (fun _ => true) held 27 v d p) :
    ∃ q : Dlf, v = q.val ∧ IsDel q := by
  obtain ⟨cs, rfl, hsz⟩ := okWide_struct Tryd.underlying27 hv
  obtain ⟨l⟩ := cs
  have hl : l.length = 21 := by simpa [cellsDlf] using hsz
  match l, hl with
  | [c0, c1, c2, c3, c4, c5, c6, c7, c8, c9, c10, c11, c12, c13, c14, c15, c16, c17, c18, c19, c20], _ =>
    obtain ⟨fuel, hf⟩ := h
    obtain ⟨xs, n, _, hx, _, hlen, hg⟩ := DataW.trod_struct Tryd.underlying27 hf
    match xs, hlen with
    | [y0, y1, y2, y3, y4, y5], _ =>
      have g0 : DataW.trod enc Tryd.prog W base (fun _ => true) held n 23 (List.take (Tryd.prog.cellsOf 23) (List.drop 0 [c0, c1, c2, c3, c4, c5, c6, c7, c8, c9, c10, c11, c12, c13, c14, c15, c16, c17, c18, c19, c20])) = some y0 := hg 0 _ rfl
      have g1 : DataW.trod enc Tryd.prog W base (fun _ => true) held n 23 (List.take (Tryd.prog.cellsOf 23) (List.drop 6 [c0, c1, c2, c3, c4, c5, c6, c7, c8, c9, c10, c11, c12, c13, c14, c15, c16, c17, c18, c19, c20])) = some y1 := hg 1 _ rfl
      have g2 : DataW.trod enc Tryd.prog W base (fun _ => true) held n 23 (List.take (Tryd.prog.cellsOf 23) (List.drop 12 [c0, c1, c2, c3, c4, c5, c6, c7, c8, c9, c10, c11, c12, c13, c14, c15, c16, c17, c18, c19, c20])) = some y2 := hg 2 _ rfl
      have g3 : DataW.trod enc Tryd.prog W base (fun _ => true) held n 4 (List.take (Tryd.prog.cellsOf 4) (List.drop 18 [c0, c1, c2, c3, c4, c5, c6, c7, c8, c9, c10, c11, c12, c13, c14, c15, c16, c17, c18, c19, c20])) = some y3 := hg 3 _ rfl
      have g4 : DataW.trod enc Tryd.prog W base (fun _ => true) held n 3 (List.take (Tryd.prog.cellsOf 3) (List.drop 19 [c0, c1, c2, c3, c4, c5, c6, c7, c8, c9, c10, c11, c12, c13, c14, c15, c16, c17, c18, c19, c20])) = some y4 := hg 4 _ rfl
      have g5 : DataW.trod enc Tryd.prog W base (fun _ => true) held n 3 (List.take (Tryd.prog.cellsOf 3) (List.drop 20 [c0, c1, c2, c3, c4, c5, c6, c7, c8, c9, c10, c11, c12, c13, c14, c15, c16, c17, c18, c19, c20])) = some y5 := hg 5 _ rfl
      rw [cellsAddr] at g0 g1 g2
      rw [cellsI] at g4 g5
      rw [cellsB] at g3
      obtain ⟨a0, e0, w0⟩ := open_six g0
      obtain ⟨a1, e1, w1⟩ := open_six g1
      obtain ⟨a2, e2, w2⟩ := open_six g2
      obtain ⟨a3, e3, _⟩ := DataW.trod_bool Tryd.underlying4 g3
      obtain ⟨a4, e4, _, w4⟩ := DataW.trod_int Tryd.underlying3 g4
      obtain ⟨a5, e5, _, w5⟩ := DataW.trod_int Tryd.underlying3 g5
      simp at e0 e1 e2 e3 e4 e5
      obtain ⟨rfl, rfl, rfl, rfl, rfl, rfl⟩ := e0
      obtain ⟨rfl, rfl, rfl, rfl, rfl, rfl⟩ := e1
      obtain ⟨rfl, rfl, rfl, rfl, rfl, rfl⟩ := e2
      subst e3 e4 e5
      exact ⟨⟨a0, a1, a2, a3, a4, a5⟩, rfl, ⟨w0, w1, w2, wf_range w4, wf_range w5⟩⟩
end
end Go.Proofs.YtjgingfcfmpfaaaDoor
