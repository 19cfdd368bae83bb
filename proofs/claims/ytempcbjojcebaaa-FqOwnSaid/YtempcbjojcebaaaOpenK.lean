/-
  A []api.Packet THAT CAME IN, OPENED (and one api.Packet, by its cells).
-/
import Derived.Test.YtempcbjojcebaaaMgC
import Derived.Deep.SlicePairs
import Derived.OpenShut
namespace Go.Proofs.Ytempcbjojcebaaa
open Go.ChangeShapes Go.WideShapes Go.ChangeAt Go.RowKit Go.Deep
set_option linter.unusedVariables false
set_option linter.unusedSimpArgs false

def okPk (p : Pk) : Prop := (Lit.int .i64 p.id).wf = true ∧ (Lit.int .u32 p.flow).wf = true ∧ (Lit.int .i64 p.tid).wf = true ∧ (Lit.int .i64 p.at_).wf = true
theorem cellsPk : Try.prog.cellsOf 32 = 5 := by kernel_rfl
theorem cellsPi : Try.prog.cellsOf 3 = 1 := by kernel_rfl
theorem cellsPu : Try.prog.cellsOf 22 = 1 := by kernel_rfl
theorem cellsPl : Try.prog.cellsOf 2 = 1 := by kernel_rfl
theorem cellsPs : Try.prog.cellsOf 30 = 1 := by kernel_rfl
section
variable {H : Type} {enc : TypeId × Value → H} {W : World} {base : Nat} {held : Bool}
theorem open_pkt {fuel : Nat} {cs : List Value} {x : DataW H × List MemPlace} (h : DataW.trod enc Try.prog W base (fun _ => true) held fuel 32 cs = some x) :
    ∃ (q : Pk × Value), cs = pkC q.1 q.2 ∧ ElK (fun k => k < W.heap.size) W q.2 q.1.body ∧ okPk q.1 := by
  have hsz : cs.length = 5 := by
    obtain ⟨xs, n, _, hx, hsz, hlen, hg⟩ := DataW.trod_struct Try.underlying32 h
    rw [cellsPk] at hsz
    exact hsz
  match cs, hsz, h with
  | [c0, c1, c2, c3, c4], _, h =>
   obtain ⟨xs, n, _, hx, _, hlen, hg⟩ := DataW.trod_struct Try.underlying32 h
   match xs, hlen with
   | [y0, y1, y2, y3, y4], _ =>
    have g0 : DataW.trod enc Try.prog W base (fun _ => true) held n 3 (List.take (Try.prog.cellsOf 3) (List.drop 0 [c0, c1, c2, c3, c4])) = some y0 := hg 0 _ rfl
    have g1 : DataW.trod enc Try.prog W base (fun _ => true) held n 22 (List.take (Try.prog.cellsOf 22) (List.drop 1 [c0, c1, c2, c3, c4])) = some y1 := hg 1 _ rfl
    have g2 : DataW.trod enc Try.prog W base (fun _ => true) held n 3 (List.take (Try.prog.cellsOf 3) (List.drop 2 [c0, c1, c2, c3, c4])) = some y2 := hg 2 _ rfl
    have g3 : DataW.trod enc Try.prog W base (fun _ => true) held n 2 (List.take (Try.prog.cellsOf 2) (List.drop 3 [c0, c1, c2, c3, c4])) = some y3 := hg 3 _ rfl
    have g4 : DataW.trod enc Try.prog W base (fun _ => true) held n 30 (List.take (Try.prog.cellsOf 30) (List.drop 4 [c0, c1, c2, c3, c4])) = some y4 := hg 4 _ rfl
    rw [cellsPi] at g0 g2
    rw [cellsPu] at g1
    rw [cellsPl] at g3
    rw [cellsPs] at g4
    obtain ⟨a0, e0, _, w0⟩ := DataW.trod_int Try.underlying3 g0
    obtain ⟨a1, e1, _, w1⟩ := DataW.trod_int Try.underlying22 g1
    obtain ⟨a2, e2, _, w2⟩ := DataW.trod_int Try.underlying3 g2
    obtain ⟨a3, e3, _, w3⟩ := DataW.trod_int Try.underlying2 g3
    simp at e0 e1 e2 e3
    subst e0 e1 e2 e3
    obtain ⟨A, ln, cp, zs, rfl, hrow, hcp⟩ : ∃ A ln cp zs, c4 = .slice A ln cp ∧ IsRow .u8 W A ln cp zs ∧ ln ≤ cp := by
      rcases open_ints Try.underlying30 Try.underlying5 (by kernel_rfl) g4 with ⟨hcs, _⟩ | ⟨x, l, c, zs, hcs, _, hl, hm, hz, _, hcell, hwz⟩
      · simp at hcs
        exact ⟨none, 0, 0, [], hcs, .inl ⟨rfl, rfl, rfl, rfl⟩, Nat.le_refl _⟩
      · simp at hcs
        exact ⟨some x, l, c, zs, hcs, .inr ⟨_, rfl, hl, hm, by simpa using hz, hcell, hwz⟩, hl⟩
    have hr := RowB.of_row hrow
    refine ⟨(⟨a0, a1, a2, a3, zs.take ln⟩, .slice A ln cp), rfl, ElK.of hr hcp (fun hp p e => ?_), w0, w1, w2, w3⟩
    obtain ⟨b, off, e2, h1⟩ := hr.cells hp
    rw [e] at e2
    obtain rfl := Option.some.inj e2
    exact cell_lt' (h1 0 hp)
theorem open_pkts {fuel : Nat} {v : Value} {x : DataW H × List MemPlace} (h : DataW.trod enc Try.prog W base (fun _ => true) held fuel 39 [v] = some x) :
    ∃ A c l, v = .slice A l.length c ∧ RowP (fun k => k < W.heap.size) W A l ∧ l.length ≤ c ∧ ∀ p ∈ l, okPk p := by
  rcases open_slice Try.underlying39 h with ⟨h0, -⟩ | ⟨a, len, cap, m, n, D, Pl, h0, hb, hl, hm, hmm, -, hx⟩
  · simp at h0
    exact ⟨none, 0, [], h0, RowK.nil _ _ _, Nat.le_refl _, fun u hu => by cases hu⟩
  · simp at h0
    have hlm : len ≤ m := by rw [hmm]; split <;> omega
    rw [cellsPk] at hx
    have each : ∀ i, i < len → ∃ q : Pk × Value, (∀ j u, (pkC q.1 q.2)[j]? = some u → W.cell? ((a.add (i * 5)).add j) = some u) ∧ ElK (fun k => k < W.heap.size) W q.2 q.1.body ∧ okPk q.1 := by
      intro i hi
      obtain ⟨cs, h1, h2⟩ := hx i (by omega)
      obtain ⟨-, hlen, hc⟩ := World.cells?_some h1
      obtain ⟨q, rfl, h3, h4⟩ := open_pkt h2
      refine ⟨q, fun j u hu => ?_, h3, h4⟩
      have hj : j < 5 := by
        have := (List.getElem?_eq_some_iff.1 hu).1
        rw [hlen] at this; exact this
      rw [hc j hj, hu]
    haveI : Inhabited (Pk × Value) := ⟨pk00⟩
    obtain ⟨f, hf⟩ := choose_lt each
    refine ⟨some a, cap, (List.range len).map fun i => (f i).1, by simpa using h0, ⟨(List.range len).map f, ⟨by simp, by simp; omega, fun hp => ?_⟩, by simp, ?_⟩, by simpa using hl, ?_⟩
    · rw [List.length_map, List.length_range] at hp ⊢
      obtain ⟨b, off, spot⟩ := a
      have hc0 := (hf 0 hp).1 0 _ rfl
      have hspot : spot = none := by simpa [Addr.add] using World.cell?_spot hc0
      subst hspot
      refine ⟨b, off, rfl, fun i hi => ?_⟩
      have hg : ((List.range len).map f).getD i pk00 = f i := by simp [List.getD, hi]
      rw [hg]
      intro j v hv
      have := (hf i hi).1 j v hv
      rw [Addr.add_mid, Addr.add_mid] at this
      exact this
    · intro p hp
      obtain ⟨i, hi, rfl⟩ := List.mem_map.1 hp
      exact (hf i (List.mem_range.1 hi)).2.1
    · intro u hu
      obtain ⟨i, hi, rfl⟩ := List.mem_map.1 hu
      exact (hf i (List.mem_range.1 hi)).2.2
end
end Go.Proofs.Ytempcbjojcebaaa
