/-
  A []muezzinlaw18.Do THAT CAME IN, OPENED: two numbers, a flag, four flags, four draws each.
-/
import Derived.Test.YtndkmgcmegcieaaDoorEdcaG
import Derived.OpenShut
namespace Go.Proofs.YtndkmgcmegcieaaDoor
open Go.ChangeShapes Go.WideShapes Go.ChangeAt Go.RowKit Go.Deep
set_option linter.unusedVariables false
set_option linter.unusedSimpArgs false


/-- something that a contention is told. -/
structure Doe where
  kind : Int
  ac : Int
  well : Bool
  r0 : Bool
  r1 : Bool
  r2 : Bool
  r3 : Bool
  d0 : Nat
  d1 : Nat
  d2 : Nat
  d3 : Nat
def Doe.r (q : Doe) : Nat → Bool
  | 0 => q.r0
  | 1 => q.r1
  | 2 => q.r2
  | _ => q.r3
def Doe.d (q : Doe) : Nat → Nat
  | 0 => q.d0
  | 1 => q.d1
  | 2 => q.d2
  | _ => q.d3
def doC (q : Doe) : List Value := [.int .i64 q.kind, .int .i64 q.ac, .bool q.well, .bool q.r0, .bool q.r1, .bool q.r2, .bool q.r3, .int .u32 (q.d0 : Nat), .int .u32 (q.d1 : Nat), .int .u32 (q.d2 : Nat), .int .u32 (q.d3 : Nat)]
def do00 : Doe := ⟨0, 0, false, false, false, false, false, 0, 0, 0, 0⟩
def okDo (q : Doe) : Prop := (∀ a, q.d a < 4294967296) ∧ (Lit.int .i64 q.ac).wf = true
theorem cellsDo : Tryd.prog.cellsOf 35 = 11 := by kernel_rfl
theorem cellsB : Tryd.prog.cellsOf 4 = 1 := by kernel_rfl
theorem cells4b : Tryd.prog.cellsOf 26 = 4 := by kernel_rfl
theorem cells4u : Tryd.prog.cellsOf 33 = 4 := by kernel_rfl
section
variable {H : Type} {enc : TypeId × Value → H} {W : World} {base : Nat} {held : Bool}
theorem open_b4 {fuel : Nat} {cs : List Value} {x : DataW H × List MemPlace} (h : DataW.trod enc Tryd.prog W base (fun _ => true) held fuel 26 cs = some x) : ∃ b0 b1 b2 b3, cs = [Value.bool b0, .bool b1, .bool b2, .bool b3] := by
  obtain ⟨xs, m, _, _, hl, hn, hel⟩ := DataW.trod_array Tryd.underlying26 h
  rw [show Tryd.prog.cellsOf 26 = 4 by kernel_rfl] at hl
  rw [show Tryd.prog.cellsOf 4 = 1 by kernel_rfl] at hel
  match cs, hl with
  | [c0, c1, c2, c3], _ =>
    match xs, hn with
    | [y0, y1, y2, y3], _ =>
      obtain ⟨n0, e0, _⟩ := DataW.trod_bool Tryd.underlying4 (hel 0 (by omega))
      obtain ⟨n1, e1, _⟩ := DataW.trod_bool Tryd.underlying4 (hel 1 (by omega))
      obtain ⟨n2, e2, _⟩ := DataW.trod_bool Tryd.underlying4 (hel 2 (by omega))
      obtain ⟨n3, e3, _⟩ := DataW.trod_bool Tryd.underlying4 (hel 3 (by omega))
      simp at e0 e1 e2 e3
      subst e0 e1 e2 e3
      exact ⟨n0, n1, n2, n3, rfl⟩
theorem open_u4 {fuel : Nat} {cs : List Value} {x : DataW H × List MemPlace} (h : DataW.trod enc Tryd.prog W base (fun _ => true) held fuel 33 cs = some x) : ∃ d0 d1 d2 d3 : Nat, cs = [Value.int .u32 (d0 : Nat), .int .u32 (d1 : Nat), .int .u32 (d2 : Nat), .int .u32 (d3 : Nat)] ∧ d0 < 4294967296 ∧ d1 < 4294967296 ∧ d2 < 4294967296 ∧ d3 < 4294967296 := by
  obtain ⟨xs, m, _, _, hl, hn, hel⟩ := DataW.trod_array Tryd.underlying33 h
  rw [show Tryd.prog.cellsOf 33 = 4 by kernel_rfl] at hl
  rw [show Tryd.prog.cellsOf 32 = 1 by kernel_rfl] at hel
  match cs, hl with
  | [c0, c1, c2, c3], _ =>
    match xs, hn with
    | [y0, y1, y2, y3], _ =>
      obtain ⟨n0, e0, _, w0⟩ := DataW.trod_int Tryd.underlying32 (hel 0 (by omega))
      obtain ⟨n1, e1, _, w1⟩ := DataW.trod_int Tryd.underlying32 (hel 1 (by omega))
      obtain ⟨n2, e2, _, w2⟩ := DataW.trod_int Tryd.underlying32 (hel 2 (by omega))
      obtain ⟨n3, e3, _, w3⟩ := DataW.trod_int Tryd.underlying32 (hel 3 (by omega))
      simp at e0 e1 e2 e3
      subst e0 e1 e2 e3
      have k0 : 0 ≤ n0 ∧ n0 ≤ 4294967295 := by simpa [Lit.wf, IntKind.min, IntKind.max, IntKind.signed, IntKind.bits] using w0
      obtain ⟨m0, hm0⟩ := Int.eq_ofNat_of_zero_le k0.1
      subst hm0
      have k1 : 0 ≤ n1 ∧ n1 ≤ 4294967295 := by simpa [Lit.wf, IntKind.min, IntKind.max, IntKind.signed, IntKind.bits] using w1
      obtain ⟨m1, hm1⟩ := Int.eq_ofNat_of_zero_le k1.1
      subst hm1
      have k2 : 0 ≤ n2 ∧ n2 ≤ 4294967295 := by simpa [Lit.wf, IntKind.min, IntKind.max, IntKind.signed, IntKind.bits] using w2
      obtain ⟨m2, hm2⟩ := Int.eq_ofNat_of_zero_le k2.1
      subst hm2
      have k3 : 0 ≤ n3 ∧ n3 ≤ 4294967295 := by simpa [Lit.wf, IntKind.min, IntKind.max, IntKind.signed, IntKind.bits] using w3
      obtain ⟨m3, hm3⟩ := Int.eq_ofNat_of_zero_le k3.1
      subst hm3
      exact ⟨m0, m1, m2, m3, rfl, by omega, by omega, by omega, by omega⟩
theorem open_do {fuel : Nat} {cs : List Value} {x : DataW H × List MemPlace} (h : DataW.trod enc Tryd.prog W base (fun _ => true) held fuel 35 cs = some x) :
    ∃ q : Doe, cs = doC q ∧ okDo q := by
  have hsz : cs.length = 11 := by
    obtain ⟨xs, n, _, hx, hsz, hlen, hg⟩ := DataW.trod_struct Tryd.underlying35 h
    rw [cellsDo] at hsz
    exact hsz
  match cs, hsz, h with
  | [c0, c1, c2, c3, c4, c5, c6, c7, c8, c9, c10], _, h =>
   obtain ⟨xs, n, _, hx, _, hlen, hg⟩ := DataW.trod_struct Tryd.underlying35 h
   match xs, hlen with
   | [y0, y1, y2, y3, y4], _ =>
    have g0 : DataW.trod enc Tryd.prog W base (fun _ => true) held n 3 (List.take (Tryd.prog.cellsOf 3) (List.drop 0 [c0, c1, c2, c3, c4, c5, c6, c7, c8, c9, c10])) = some y0 := hg 0 _ rfl
    have g1 : DataW.trod enc Tryd.prog W base (fun _ => true) held n 3 (List.take (Tryd.prog.cellsOf 3) (List.drop 1 [c0, c1, c2, c3, c4, c5, c6, c7, c8, c9, c10])) = some y1 := hg 1 _ rfl
    have g2 : DataW.trod enc Tryd.prog W base (fun _ => true) held n 4 (List.take (Tryd.prog.cellsOf 4) (List.drop 2 [c0, c1, c2, c3, c4, c5, c6, c7, c8, c9, c10])) = some y2 := hg 2 _ rfl
    have g3 : DataW.trod enc Tryd.prog W base (fun _ => true) held n 26 (List.take (Tryd.prog.cellsOf 26) (List.drop 3 [c0, c1, c2, c3, c4, c5, c6, c7, c8, c9, c10])) = some y3 := hg 3 _ rfl
    have g4 : DataW.trod enc Tryd.prog W base (fun _ => true) held n 33 (List.take (Tryd.prog.cellsOf 33) (List.drop 7 [c0, c1, c2, c3, c4, c5, c6, c7, c8, c9, c10])) = some y4 := hg 4 _ rfl
    rw [cellsI1] at g0 g1
    rw [cellsB] at g2
    rw [cells4b] at g3
    rw [cells4u] at g4
    obtain ⟨a0, e0, _, w0⟩ := DataW.trod_int Tryd.underlying3 g0
    obtain ⟨a1, e1, _, w1⟩ := DataW.trod_int Tryd.underlying3 g1
    obtain ⟨a2, e2, _⟩ := DataW.trod_bool Tryd.underlying4 g2
    obtain ⟨b0, b1, b2, b3, e3⟩ := open_b4 g3
    obtain ⟨m0, m1, m2, m3, e4, k0, k1, k2, k3⟩ := open_u4 g4
    simp at e0 e1 e2 e3 e4
    obtain ⟨rfl, rfl, rfl, rfl⟩ := e3
    obtain ⟨rfl, rfl, rfl, rfl⟩ := e4
    subst e0 e1 e2
    refine ⟨⟨a0, a1, a2, b0, b1, b2, b3, m0, m1, m2, m3⟩, rfl, fun a => ?_, w1⟩
    match a with
    | 0 => exact k0
    | 1 => exact k1
    | 2 => exact k2
    | n + 3 => exact k3
theorem open_dos {fuel : Nat} {v : Value} {x : DataW H × List MemPlace} (h : DataW.trod enc Tryd.prog W base (fun _ => true) held fuel 22 [v] = some x) :
    ∃ A c l, v = .slice A l.length c ∧ RowS doC 11 do00 W A l.length l ∧ l.length ≤ c ∧ ∀ d ∈ l, okDo d := by
  rcases open_slice Tryd.underlying22 h with ⟨h0, -⟩ | ⟨a, len, cap, m, n, D, Pl, h0, hb, hl, hm, hmm, -, hx⟩
  · simp at h0
    exact ⟨none, 0, [], h0, RowS.nil, Nat.le_refl _, fun u hu => by cases hu⟩
  · simp at h0
    have hlm : len ≤ m := by rw [hmm]; split <;> omega
    rw [cellsDo] at hx
    have each : ∀ i, i < len → ∃ q : Doe, (∀ j u, (doC q)[j]? = some u → W.cell? ((a.add (i * 11)).add j) = some u) ∧ okDo q := by
      intro i hi
      obtain ⟨cs, h1, h2⟩ := hx i (by omega)
      obtain ⟨-, hlen, hc⟩ := World.cells?_some h1
      obtain ⟨q, rfl, h4⟩ := open_do h2
      refine ⟨q, fun j u hu => ?_, h4⟩
      have hj : j < 11 := by
        have := (List.getElem?_eq_some_iff.1 hu).1
        rw [hlen] at this; exact this
      rw [hc j hj, hu]
    haveI : Inhabited Doe := ⟨do00⟩
    obtain ⟨f, hf⟩ := choose_lt each
    refine ⟨some a, cap, (List.range len).map f, by simpa using h0, ⟨by simp, by simp; omega, fun hp => ?_⟩, by simpa using hl, ?_⟩
    · rw [List.length_map, List.length_range] at hp ⊢
      obtain ⟨b, off, spot⟩ := a
      have hc0 := (hf 0 hp).1 0 _ rfl
      have hspot : spot = none := by simpa [Addr.add] using World.cell?_spot hc0
      subst hspot
      refine ⟨b, off, rfl, fun i hi => ?_⟩
      have hg : ((List.range len).map f).getD i do00 = f i := by simp [List.getD, hi]
      rw [hg]
      intro j v hv
      have := (hf i hi).1 j v hv
      rw [Addr.add_mid, Addr.add_mid] at this
      exact this
    · intro u hu
      obtain ⟨i, hi, rfl⟩ := List.mem_map.1 hu
      exact (hf i (List.mem_range.1 hi)).2
end
end Go.Proofs.YtndkmgcmegcieaaDoor
