/-
  CONTROL FRAMES THAT CAME IN, OPENED.
-/
import Derived.Test.YtpiiodnhiolfbaaDoorOpenG
import Derived.Test.YtpiiodnhiolfbaaDoorCtlA
namespace Go.Proofs.YtpiiodnhiolfbaaDoor
open Go.ChangeShapes Go.WideShapes Go.ChangeAt Go.RowKit Go.Joins
set_option linter.unusedVariables false

theorem cellsBar : Tryd.prog.cellsOf 25 = 14 := by kernel_rfl
theorem cellsAck : Tryd.prog.cellsOf 28 = 15 := by kernel_rfl
theorem cellsPoll : Tryd.prog.cellsOf 30 = 13 := by kernel_rfl
theorem cellsU64 : Tryd.prog.cellsOf 26 = 1 := by kernel_rfl
structure IsBar (q : Brf) : Prop where
  t : q.t.wf
  f : q.f.wf
  tid : IntKind.i64.min ≤ q.tid ∧ q.tid ≤ IntKind.i64.max
  seq : IntKind.i64.min ≤ q.seq ∧ q.seq ≤ IntKind.i64.max
structure IsAck (q : Akf) : Prop where
  t : q.t.wf
  f : q.f.wf
  tid : IntKind.i64.min ≤ q.tid ∧ q.tid ≤ IntKind.i64.max
  seq : IntKind.i64.min ≤ q.seq ∧ q.seq ≤ IntKind.i64.max
  map : 0 ≤ q.map ∧ q.map ≤ 18446744073709551615
structure IsPoll (q : Plf) : Prop where
  aid : IntKind.i64.min ≤ q.aid ∧ q.aid ≤ IntKind.i64.max
  b : q.b.wf
  f : q.f.wf

section
variable {H : Type} {enc : TypeId × Value → H} {W : World} {base : Nat} {held : Bool}
theorem open_bar {r : Reach} {b0 : Nat} {v : Value} {d : DataW H} {p : List MemPlace} (hv : Value.okWide Tryd.prog W r b0 25 v) (h : DataW.Trod enc Tryd.prog W base (fun _ => true) held 25 v d p) :
    ∃ q : Brf, v = q.val ∧ IsBar q := by
  obtain ⟨cs, rfl, hsz⟩ := okWide_struct Tryd.underlying25 hv
  obtain ⟨l⟩ := cs
  have hl : l.length = 14 := by simpa [cellsBar] using hsz
  match l, hl with
  | [c0, c1, c2, c3, c4, c5, c6, c7, c8, c9, c10, c11, c12, c13], _ =>
    obtain ⟨fuel, hf⟩ := h
    obtain ⟨xs, n, _, hx, _, hlen, hg⟩ := DataW.trod_struct Tryd.underlying25 hf
    match xs, hlen with
    | [y0, y1, y2, y3], _ =>
      have g0 : DataW.trod enc Tryd.prog W base (fun _ => true) held n 23 (List.take (Tryd.prog.cellsOf 23) (List.drop 0 [c0, c1, c2, c3, c4, c5, c6, c7, c8, c9, c10, c11, c12, c13])) = some y0 := hg 0 _ rfl
      have g1 : DataW.trod enc Tryd.prog W base (fun _ => true) held n 23 (List.take (Tryd.prog.cellsOf 23) (List.drop 6 [c0, c1, c2, c3, c4, c5, c6, c7, c8, c9, c10, c11, c12, c13])) = some y1 := hg 1 _ rfl
      have g2 : DataW.trod enc Tryd.prog W base (fun _ => true) held n 3 (List.take (Tryd.prog.cellsOf 3) (List.drop 12 [c0, c1, c2, c3, c4, c5, c6, c7, c8, c9, c10, c11, c12, c13])) = some y2 := hg 2 _ rfl
      have g3 : DataW.trod enc Tryd.prog W base (fun _ => true) held n 3 (List.take (Tryd.prog.cellsOf 3) (List.drop 13 [c0, c1, c2, c3, c4, c5, c6, c7, c8, c9, c10, c11, c12, c13])) = some y3 := hg 3 _ rfl
      rw [cellsAddr] at g0 g1
      rw [cellsI] at g2 g3
      obtain ⟨a0, e0, w0⟩ := open_six g0
      obtain ⟨a1, e1, w1⟩ := open_six g1
      obtain ⟨n2, e2, _, w2⟩ := DataW.trod_int Tryd.underlying3 g2
      obtain ⟨n3, e3, _, w3⟩ := DataW.trod_int Tryd.underlying3 g3
      simp at e0 e1 e2 e3
      obtain ⟨rfl, rfl, rfl, rfl, rfl, rfl⟩ := e0
      obtain ⟨rfl, rfl, rfl, rfl, rfl, rfl⟩ := e1
      subst e2 e3
      exact ⟨⟨a0, a1, n2, n3⟩, rfl, ⟨w0, w1, wf_range w2, wf_range w3⟩⟩
theorem open_ack {r : Reach} {b0 : Nat} {v : Value} {d : DataW H} {p : List MemPlace} (hv : Value.okWide Tryd.prog W r b0 28 v) (h : DataW.Trod enc Tryd.prog W base (fun _ => true) held 28 v d p) :
    ∃ q : Akf, v = q.val ∧ IsAck q := by
  obtain ⟨cs, rfl, hsz⟩ := okWide_struct Tryd.underlying28 hv
  obtain ⟨l⟩ := cs
  have hl : l.length = 15 := by simpa [cellsAck] using hsz
  match l, hl with
  | [c0, c1, c2, c3, c4, c5, c6, c7, c8, c9, c10, c11, c12, c13, c14], _ =>
    obtain ⟨fuel, hf⟩ := h
    obtain ⟨xs, n, _, hx, _, hlen, hg⟩ := DataW.trod_struct Tryd.underlying28 hf
    match xs, hlen with
    | [y0, y1, y2, y3, y4], _ =>
      have g0 : DataW.trod enc Tryd.prog W base (fun _ => true) held n 23 (List.take (Tryd.prog.cellsOf 23) (List.drop 0 [c0, c1, c2, c3, c4, c5, c6, c7, c8, c9, c10, c11, c12, c13, c14])) = some y0 := hg 0 _ rfl
      have g1 : DataW.trod enc Tryd.prog W base (fun _ => true) held n 23 (List.take (Tryd.prog.cellsOf 23) (List.drop 6 [c0, c1, c2, c3, c4, c5, c6, c7, c8, c9, c10, c11, c12, c13, c14])) = some y1 := hg 1 _ rfl
      have g2 : DataW.trod enc Tryd.prog W base (fun _ => true) held n 3 (List.take (Tryd.prog.cellsOf 3) (List.drop 12 [c0, c1, c2, c3, c4, c5, c6, c7, c8, c9, c10, c11, c12, c13, c14])) = some y2 := hg 2 _ rfl
      have g3 : DataW.trod enc Tryd.prog W base (fun _ => true) held n 3 (List.take (Tryd.prog.cellsOf 3) (List.drop 13 [c0, c1, c2, c3, c4, c5, c6, c7, c8, c9, c10, c11, c12, c13, c14])) = some y3 := hg 3 _ rfl
      have g4 : DataW.trod enc Tryd.prog W base (fun _ => true) held n 26 (List.take (Tryd.prog.cellsOf 26) (List.drop 14 [c0, c1, c2, c3, c4, c5, c6, c7, c8, c9, c10, c11, c12, c13, c14])) = some y4 := hg 4 _ rfl
      rw [cellsAddr] at g0 g1
      rw [cellsI] at g2 g3
      rw [cellsU64] at g4
      obtain ⟨a0, e0, w0⟩ := open_six g0
      obtain ⟨a1, e1, w1⟩ := open_six g1
      obtain ⟨n2, e2, _, w2⟩ := DataW.trod_int Tryd.underlying3 g2
      obtain ⟨n3, e3, _, w3⟩ := DataW.trod_int Tryd.underlying3 g3
      obtain ⟨n4, e4, _, w4⟩ := DataW.trod_int Tryd.underlying26 g4
      simp at e0 e1 e2 e3 e4
      obtain ⟨rfl, rfl, rfl, rfl, rfl, rfl⟩ := e0
      obtain ⟨rfl, rfl, rfl, rfl, rfl, rfl⟩ := e1
      subst e2 e3 e4
      have k4 := wf_range w4
      simp [IntKind.min, IntKind.max, IntKind.signed, IntKind.bits] at k4
      exact ⟨⟨a0, a1, n2, n3, n4⟩, rfl, ⟨w0, w1, wf_range w2, wf_range w3, k4⟩⟩
theorem open_poll {r : Reach} {b0 : Nat} {v : Value} {d : DataW H} {p : List MemPlace} (hv : Value.okWide Tryd.prog W r b0 30 v) (h : DataW.Trod enc Tryd.prog W base (fun _ => true) held 30 v d p) :
    ∃ q : Plf, v = q.val ∧ IsPoll q := by
  obtain ⟨cs, rfl, hsz⟩ := okWide_struct Tryd.underlying30 hv
  obtain ⟨l⟩ := cs
  have hl : l.length = 13 := by simpa [cellsPoll] using hsz
  match l, hl with
  | [c0, c1, c2, c3, c4, c5, c6, c7, c8, c9, c10, c11, c12], _ =>
    obtain ⟨fuel, hf⟩ := h
    obtain ⟨xs, n, _, hx, _, hlen, hg⟩ := DataW.trod_struct Tryd.underlying30 hf
    match xs, hlen with
    | [y0, y1, y2], _ =>
      have g0 : DataW.trod enc Tryd.prog W base (fun _ => true) held n 3 (List.take (Tryd.prog.cellsOf 3) (List.drop 0 [c0, c1, c2, c3, c4, c5, c6, c7, c8, c9, c10, c11, c12])) = some y0 := hg 0 _ rfl
      have g1 : DataW.trod enc Tryd.prog W base (fun _ => true) held n 23 (List.take (Tryd.prog.cellsOf 23) (List.drop 1 [c0, c1, c2, c3, c4, c5, c6, c7, c8, c9, c10, c11, c12])) = some y1 := hg 1 _ rfl
      have g2 : DataW.trod enc Tryd.prog W base (fun _ => true) held n 23 (List.take (Tryd.prog.cellsOf 23) (List.drop 7 [c0, c1, c2, c3, c4, c5, c6, c7, c8, c9, c10, c11, c12])) = some y2 := hg 2 _ rfl
      rw [cellsAddr] at g1 g2
      rw [cellsI] at g0
      obtain ⟨n0, e0, _, w0⟩ := DataW.trod_int Tryd.underlying3 g0
      obtain ⟨a1, e1, w1⟩ := open_six g1
      obtain ⟨a2, e2, w2⟩ := open_six g2
      simp at e0 e1 e2
      obtain ⟨rfl, rfl, rfl, rfl, rfl, rfl⟩ := e1
      obtain ⟨rfl, rfl, rfl, rfl, rfl, rfl⟩ := e2
      subst e0
      exact ⟨⟨n0, a1, a2⟩, rfl, ⟨wf_range w0, w1, w2⟩⟩
end
end Go.Proofs.YtpiiodnhiolfbaaDoor
