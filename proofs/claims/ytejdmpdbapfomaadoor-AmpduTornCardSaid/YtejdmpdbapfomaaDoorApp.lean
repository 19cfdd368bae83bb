/-
  append ONTO A ROW OF BYTES OF THE CALL's OWN, in short: at a plain region's list, and as a step of a region that draws.
-/
import Derived.Test.YtejdmpdbapfomaaDoorBytes
import Derived.Deep.AppendLies
import Derived.Deep.MidRow
import Derived.Laws.AppendOwnNone
import Derived.Laws.IdiomStrings
namespace Go.Proofs.YtejdmpdbapfomaaDoor
open Go.ChangeShapes Go.WideShapes Go.ChangeAt Go.RowKit
set_option linter.unusedVariables false

theorem app_own {w : World} {ops : Array Oper} {rest : List Oper} {o : Oper} {a : Act} {Q : Exit → Act → World → Prop} (hgd : o.guard = none) (s x : Operand)
    (ho : o.op = .call { callee := .builtin .append, args := #[s, x], argTypes := #[23, 23] }) (B g n cap : Nat) (xs : List Int)
    (hs : a.eval s = .slice (some ⟨g, 0, none⟩) n cap) (hO : OwnB w B 5 .u8 g n cap xs) (ad : Addr) (m c : Nat) (ys : List Int) (hx : a.eval x = .slice (some ad) m c) (hl : ys.length = m)
    (hsrc : ∀ j u, (ys.map (Value.int .u8))[j]? = some u → w.cell? (ad.add j) = some u) (hm : n + m ≤ 1000000000) (hB : B ≤ w.heap.size)
    (h : ∀ g' cap' w', Hid (OwnB w' B 5 .u8 g' (n + m) cap' (xs ++ ys)) → Hid (Below B w w') → wpList Tryd.prog ops Q rest (a.put o.dst (.slice (some ⟨g', 0, none⟩) (n + m) cap')) w') : wpList Tryd.prog ops Q (o :: rest) a w := by
  obtain ⟨i0, hi0, hz0, hz1, hz2⟩ := info_parts byte_info
  refine wpList_append_own _ hgd s x 23 ho B 5 i0 _ 1 1 Tryd.underlying23 hi0 hz0 hz1 hz2 rfl (by omega) (.slice (some ⟨g, 0, none⟩) n cap) n _ hs hO ad m c (ys.map (Value.int .u8)) hx (by simp [hl]) hsrc (by intro u hu; simp at hu; obtain ⟨v, _, rfl⟩ := hu; rfl) (by unfold maxLen; omega) (by omega) hB ?_
  intro v' w' hown hgrow hnil
  rcases hown.2 with ⟨hv, _⟩ | ⟨g', cap', cur, hv, _⟩
  · exact absurd (hnil.1 hv).1 (by simp)
  subst hv
  exact h g' cap' w' (show OwnB _ _ _ _ _ _ _ _ by unfold OwnB; rw [List.map_append]; exact hown) ((Below.refl B w).grown hgrow hB (by intro q hq; simp [Value.ownBlock] at hq; subst hq; exact hO.lt.1))

theorem step_app_own {w : World} {ops : Array Oper} {o : Oper} {a : Act} {K : Act → World → Prop} {Q : Exit → Act → World → Prop} {E : Prop} (hgd : o.guard = none) (s x : Operand)
    (ho : o.op = .call { callee := .builtin .append, args := #[s, x], argTypes := #[23, 23] }) (B g n cap : Nat) (xs : List Int)
    (hs : a.eval s = .slice (some ⟨g, 0, none⟩) n cap) (hO : OwnB w B 5 .u8 g n cap xs) (ad : Addr) (m c : Nat) (ys : List Int) (hx : a.eval x = .slice (some ad) m c) (hl : ys.length = m) (hp : 0 < m)
    (hsrc : ∀ j u, (ys.map (Value.int .u8))[j]? = some u → w.cell? (ad.add j) = some u) (hm : n + m ≤ 1000000000) (hB : B ≤ w.heap.size)
    (h : ∀ g' cap' w', Hid (OwnB w' B 5 .u8 g' (n + m) cap' (xs ++ ys)) → Hid (Below B w w') → K (a.put o.dst (.slice (some ⟨g', 0, none⟩) (n + m) cap')) w') :
    if Region.wanted o (yielded ops a.tmps) = true then Oper.wp Tryd.prog o a w K Q else E := by
  obtain ⟨i0, hi0, hz0, hz1, hz2⟩ := info_parts byte_info
  refine step_append_lies _ hgd s x 23 ho B 5 i0 _ 1 1 Tryd.underlying23 hi0 hz0 hz1 hz2 rfl (by omega) (.slice (some ⟨g, 0, none⟩) n cap) n _ hs hO ad m c (ys.map (Value.int .u8)) hx (by simp [hl]) hsrc (by intro u hu; simp at hu; obtain ⟨v, _, rfl⟩ := hu; rfl) hp (by unfold maxLen; omega) (by omega) hB w.heap.size rfl ?_
  intro g' cap' w' hown hgrow _ _
  exact h g' cap' w' (show OwnB _ _ _ _ _ _ _ _ by unfold OwnB; rw [List.map_append]; exact hown) ((Below.refl B w).grown hgrow hB (by intro q hq; simp [Value.ownBlock] at hq; subst hq; exact hO.lt.1))
/-- what a new block holds, as a source. -/
theorem src_new (w : World) (ys : List Int) (t : TypeId) : ∀ j u, (ys.map (Value.int .u8))[j]? = some u → (w.alloc (.cells (ys.map (Value.int .u8)).toArray t)).cell? ((⟨w.heap.size, 0, none⟩ : Addr).add j) = some u := by
  intro j u hu
  rw [Addr.add_mid, Nat.zero_add, World.cell?_alloc_mark]
  simpa using hu
/-- a row as a source. -/
theorem RowB.src {w : World} {A : Option Addr} {n : Nat} {xs : List Int} (h : RowB .u8 w A n xs) (b off : Nat) (hA : A = some ⟨b, off, none⟩) : ∀ j u, (xs.map (Value.int .u8))[j]? = some u → w.cell? ((⟨b, off, none⟩ : Addr).add j) = some u := by
  intro j u hu
  subst hA
  simp only [List.getElem?_map, Option.map_eq_some_iff] at hu
  obtain ⟨x, hx, rfl⟩ := hu
  have hj : j < n := by have := (List.getElem?_eq_some_iff.1 hx).1; have := h.len; omega
  obtain ⟨b', off', e, hc⟩ := h.el j hj
  cases e
  rw [Addr.add_mid]
  have hx' : xs.getD j 0 = x := by simp [List.getD, hx]
  rwa [hx'] at hc
/-- a row that came in, nil let in, as a source. -/
theorem app_row {w : World} {ops : Array Oper} {rest : List Oper} {o : Oper} {a : Act} {Q : Exit → Act → World → Prop} (hgd : o.guard = none) (s x : Operand)
    (ho : o.op = .call { callee := .builtin .append, args := #[s, x], argTypes := #[23, 23] }) (B g n cap : Nat) (xs : List Int)
    (hs : a.eval s = .slice (some ⟨g, 0, none⟩) n cap) (hO : OwnB w B 5 .u8 g n cap xs) (A : Option Addr) (m c : Nat) (ys : List Int) (hx : a.eval x = .slice A m c)
    (hr : RowB .u8 w A m ys) (hnil : A = none → c = 0) (hm : n + m ≤ 1000000000) (hB : B ≤ w.heap.size)
    (h : ∀ g' cap' w', Hid (OwnB w' B 5 .u8 g' (n + m) cap' (xs ++ ys)) → Hid (Below B w w') → wpList Tryd.prog ops Q rest (a.put o.dst (.slice (some ⟨g', 0, none⟩) (n + m) cap')) w') : wpList Tryd.prog ops Q (o :: rest) a w := by
  rcases Nat.eq_zero_or_pos m with h0 | hp
  · subst h0
    have hy : ys = [] := List.eq_nil_of_length_eq_zero hr.len
    subst hy
    cases A with
    | some ad => exact app_own hgd s x ho B g n cap xs hs hO ad 0 c [] hx rfl (by intro j u hu; simp at hu) hm hB h
    | none =>
      obtain ⟨i0, hi0, hz0, hz1, hz2⟩ := info_parts byte_info
      have hown : w.ownsRow B 5 1 (.slice (some ⟨g, 0, none⟩) n cap) n (xs.map (Value.int .u8)) := hO
      refine wpList_append_own_none hgd s x 23 ho B 5 i0 1 Tryd.underlying23 hi0 (.slice (some ⟨g, 0, none⟩) n cap) n _ hs hown (by rw [hx, hnil rfl]) ?_
      exact h g cap w (Lib.hid (by simpa using hO)) (Lib.hid (Below.refl B w))
  · obtain ⟨b, off, hA, _⟩ := hr.cells hp
    exact app_own hgd s x ho B g n cap xs hs hO ⟨b, off, none⟩ m c ys (by rw [hx, hA]) hr.len (hr.src b off hA) hm hB h
theorem OwnB.row8 {w : World} {base : Nat} {T : TypeId} {g n cap : Nat} {xs : List Int} (h : OwnB w base T .u8 g n cap xs) (hw : ∀ i, i < n → 0 ≤ xs.getD i 0 ∧ xs.getD i 0 ≤ 255) : RowB .u8 w (some ⟨g, 0, none⟩) n xs :=
  h.row fun i hi => by simpa [IntKind.min, IntKind.max, IntKind.signed, IntKind.bits] using hw i hi
theorem OwnB.cap_le {w : World} {base : Nat} {T : TypeId} {k : IntKind} {g n cap : Nat} {xs : List Int} (h : OwnB w base T k g n cap xs) : n ≤ cap := by
  rcases h.2 with ⟨h', _⟩ | ⟨g', cap', cur, h', _, _, h1, _⟩
  · simp at h'
  · injection h' with _ _ e
    subst e
    exact h1
end Go.Proofs.YtejdmpdbapfomaaDoor
