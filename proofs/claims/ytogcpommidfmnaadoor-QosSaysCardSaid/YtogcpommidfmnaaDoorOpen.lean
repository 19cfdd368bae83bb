/-
  A FRAME THAT CAME IN, OPENED: an argument of type api.QoS is a value of 24 cells; what its cells are.
-/
import Derived.Test.YtogcpommidfmnaaDoorFr
import Derived.Lib.SmallJoins
namespace Go.Proofs.YtogcpommidfmnaaDoor
open Go.ChangeShapes Go.WideShapes Go.ChangeAt Go.RowKit Go.Joins
set_option linter.unusedVariables false

structure IsQf (W : World) (q : Qf) (zs : List Int) : Prop where
  t : q.t.wf
  b : q.b.wf
  f : q.f.wf
  tid : IntKind.i64.min ≤ q.tid ∧ q.tid ≤ IntKind.i64.max
  seq : IntKind.i64.min ≤ q.seq ∧ q.seq ≤ IntKind.i64.max
  row : IsRow .u8 W q.A q.n q.c zs
theorem IsQf.nil {W q zs} (h : IsQf W q zs) (hA : q.A = none) : q.c = 0 := by
  rcases h.row with ⟨_, _, hc, _⟩ | ⟨x, e, _⟩
  · exact hc
  · rw [e] at hA; cases hA
theorem cellsAddr : Tryd.prog.cellsOf 23 = 6 := by kernel_rfl
theorem cellsU8 : Tryd.prog.cellsOf 5 = 1 := by kernel_rfl
theorem cellsQ : Tryd.prog.cellsOf 26 = 24 := by kernel_rfl
theorem cellsI : Tryd.prog.cellsOf 3 = 1 := by kernel_rfl
theorem cellsB : Tryd.prog.cellsOf 4 = 1 := by kernel_rfl
theorem cellsS : Tryd.prog.cellsOf 24 = 1 := by kernel_rfl

section
variable {H : Type} {enc : TypeId × Value → H} {W : World} {base : Nat} {sp : Nat → Bool} {held : Bool}
theorem open_six {fuel : Nat} {cs : List Value} {x : DataW H × List MemPlace} (h : DataW.trod enc Tryd.prog W base sp held fuel 23 cs = some x) : ∃ a : A6, cs = a.cells.toList ∧ a.wf := by
  obtain ⟨xs, m, _, _, hl, hn, hel⟩ := DataW.trod_array Tryd.underlying23 h
  rw [cellsAddr] at hl
  rw [cellsU8] at hel
  match cs, hl with
  | [c0, c1, c2, c3, c4, c5], _ =>
    match xs, hn with
    | [y0, y1, y2, y3, y4, y5], _ =>
      obtain ⟨n0, e0, _, w0⟩ := DataW.trod_int Tryd.underlying5 (hel 0 (by omega))
      obtain ⟨n1, e1, _, w1⟩ := DataW.trod_int Tryd.underlying5 (hel 1 (by omega))
      obtain ⟨n2, e2, _, w2⟩ := DataW.trod_int Tryd.underlying5 (hel 2 (by omega))
      obtain ⟨n3, e3, _, w3⟩ := DataW.trod_int Tryd.underlying5 (hel 3 (by omega))
      obtain ⟨n4, e4, _, w4⟩ := DataW.trod_int Tryd.underlying5 (hel 4 (by omega))
      obtain ⟨n5, e5, _, w5⟩ := DataW.trod_int Tryd.underlying5 (hel 5 (by omega))
      simp at e0 e1 e2 e3 e4 e5
      subst e0 e1 e2 e3 e4 e5
      refine ⟨⟨n0, n1, n2, n3, n4, n5⟩, rfl, fun v hv => ?_⟩
      have k0 := wf_range w0
      have k1 := wf_range w1
      have k2 := wf_range w2
      have k3 := wf_range w3
      have k4 := wf_range w4
      have k5 := wf_range w5
      simp [IntKind.min, IntKind.max, IntKind.signed, IntKind.bits] at k0 k1 k2 k3 k4 k5
      simp [A6.l] at hv
      rcases hv with rfl | rfl | rfl | rfl | rfl | rfl <;> assumption
theorem open_qos {r : Reach} {b0 : Nat} {v : Value} {d : DataW H} {p : List MemPlace} (hv : Value.okWide Tryd.prog W r b0 26 v) (h : DataW.Trod enc Tryd.prog W base (fun _ => true) held 26 v d p) :
    ∃ q zs, v = q.val ∧ IsQf W q zs := by
  obtain ⟨cs, rfl, hsz⟩ := okWide_struct Tryd.underlying26 hv
  obtain ⟨l⟩ := cs
  have hl : l.length = 24 := by simpa [cellsQ] using hsz
  match l, hl with
  | [c0, c1, c2, c3, c4, c5, c6, c7, c8, c9, c10, c11, c12, c13, c14, c15, c16, c17, c18, c19, c20, c21, c22, c23], _ =>
    obtain ⟨fuel, hf⟩ := h
    obtain ⟨xs, n, _, hx, _, hlen, hg⟩ := DataW.trod_struct Tryd.underlying26 hf
    match xs, hlen with
    | [y0, y1, y2, y3, y4, y5, y6, y7, y8], _ =>
      have g0 : DataW.trod enc Tryd.prog W base (fun _ => true) held n 23 (List.take (Tryd.prog.cellsOf 23) (List.drop 0 [c0, c1, c2, c3, c4, c5, c6, c7, c8, c9, c10, c11, c12, c13, c14, c15, c16, c17, c18, c19, c20, c21, c22, c23])) = some y0 := hg 0 _ rfl
      have g1 : DataW.trod enc Tryd.prog W base (fun _ => true) held n 23 (List.take (Tryd.prog.cellsOf 23) (List.drop 6 [c0, c1, c2, c3, c4, c5, c6, c7, c8, c9, c10, c11, c12, c13, c14, c15, c16, c17, c18, c19, c20, c21, c22, c23])) = some y1 := hg 1 _ rfl
      have g2 : DataW.trod enc Tryd.prog W base (fun _ => true) held n 23 (List.take (Tryd.prog.cellsOf 23) (List.drop 12 [c0, c1, c2, c3, c4, c5, c6, c7, c8, c9, c10, c11, c12, c13, c14, c15, c16, c17, c18, c19, c20, c21, c22, c23])) = some y2 := hg 2 _ rfl
      have g3 : DataW.trod enc Tryd.prog W base (fun _ => true) held n 3 (List.take (Tryd.prog.cellsOf 3) (List.drop 18 [c0, c1, c2, c3, c4, c5, c6, c7, c8, c9, c10, c11, c12, c13, c14, c15, c16, c17, c18, c19, c20, c21, c22, c23])) = some y3 := hg 3 _ rfl
      have g4 : DataW.trod enc Tryd.prog W base (fun _ => true) held n 3 (List.take (Tryd.prog.cellsOf 3) (List.drop 19 [c0, c1, c2, c3, c4, c5, c6, c7, c8, c9, c10, c11, c12, c13, c14, c15, c16, c17, c18, c19, c20, c21, c22, c23])) = some y4 := hg 4 _ rfl
      have g5 : DataW.trod enc Tryd.prog W base (fun _ => true) held n 4 (List.take (Tryd.prog.cellsOf 4) (List.drop 20 [c0, c1, c2, c3, c4, c5, c6, c7, c8, c9, c10, c11, c12, c13, c14, c15, c16, c17, c18, c19, c20, c21, c22, c23])) = some y5 := hg 5 _ rfl
      have g6 : DataW.trod enc Tryd.prog W base (fun _ => true) held n 4 (List.take (Tryd.prog.cellsOf 4) (List.drop 21 [c0, c1, c2, c3, c4, c5, c6, c7, c8, c9, c10, c11, c12, c13, c14, c15, c16, c17, c18, c19, c20, c21, c22, c23])) = some y6 := hg 6 _ rfl
      have g7 : DataW.trod enc Tryd.prog W base (fun _ => true) held n 4 (List.take (Tryd.prog.cellsOf 4) (List.drop 22 [c0, c1, c2, c3, c4, c5, c6, c7, c8, c9, c10, c11, c12, c13, c14, c15, c16, c17, c18, c19, c20, c21, c22, c23])) = some y7 := hg 7 _ rfl
      have g8 : DataW.trod enc Tryd.prog W base (fun _ => true) held n 24 (List.take (Tryd.prog.cellsOf 24) (List.drop 23 [c0, c1, c2, c3, c4, c5, c6, c7, c8, c9, c10, c11, c12, c13, c14, c15, c16, c17, c18, c19, c20, c21, c22, c23])) = some y8 := hg 8 _ rfl
      rw [cellsAddr] at g0 g1 g2
      rw [cellsI] at g3 g4
      rw [cellsB] at g5 g6 g7
      rw [cellsS] at g8
      obtain ⟨a0, e0, w0⟩ := open_six g0
      obtain ⟨a1, e1, w1⟩ := open_six g1
      obtain ⟨a2, e2, w2⟩ := open_six g2
      obtain ⟨n3, e3, _, w3⟩ := DataW.trod_int Tryd.underlying3 g3
      obtain ⟨n4, e4, _, w4⟩ := DataW.trod_int Tryd.underlying3 g4
      obtain ⟨b5, e5, _⟩ := DataW.trod_bool Tryd.underlying4 g5
      obtain ⟨b6, e6, _⟩ := DataW.trod_bool Tryd.underlying4 g6
      obtain ⟨b7, e7, _⟩ := DataW.trod_bool Tryd.underlying4 g7
      simp at e0 e1 e2 e3 e4 e5 e6 e7
      obtain ⟨rfl, rfl, rfl, rfl, rfl, rfl⟩ := e0
      obtain ⟨rfl, rfl, rfl, rfl, rfl, rfl⟩ := e1
      obtain ⟨rfl, rfl, rfl, rfl, rfl, rfl⟩ := e2
      subst e3 e4 e5 e6 e7
      obtain ⟨A, ln, cp, zs, rfl, hrow⟩ : ∃ A ln cp zs, c23 = .slice A ln cp ∧ IsRow .u8 W A ln cp zs := by
        rcases open_ints Tryd.underlying24 Tryd.underlying5 (by kernel_rfl) g8 with ⟨hcs, _⟩ | ⟨x, l, c, zs, hcs, _, hl, hm, hz, _, hcell, hwz⟩
        · simp at hcs
          exact ⟨none, 0, 0, [], hcs, .inl ⟨rfl, rfl, rfl, rfl⟩⟩
        · simp at hcs
          exact ⟨some x, l, c, zs, hcs, .inr ⟨_, rfl, hl, hm, by simpa using hz, hcell, hwz⟩⟩
      exact ⟨⟨a0, a1, a2, n3, n4, b5, b6, b7, A, ln, cp⟩, zs, rfl, ⟨w0, w1, w2, wf_range w3, wf_range w4, hrow⟩⟩
end
end Go.Proofs.YtogcpommidfmnaaDoor
