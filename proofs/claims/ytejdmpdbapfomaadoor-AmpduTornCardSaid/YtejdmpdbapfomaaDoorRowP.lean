/-
  A ROW OF ROWS OF BYTES ([][]byte) AS A LIST OF LISTS: one that came in; one of the call's own that grows by append. No program is named.
-/
import Derived.Test.YtejdmpdbapfomaaDoorBRow
import Derived.Deep.Slices
import Derived.Deep.AppendLies
import Derived.Laws.OwnMore
namespace Go.Proofs.YtejdmpdbapfomaaDoor
open Go.ChangeShapes Go.WideShapes Go.ChangeAt Go.RowKit Go.Deep
set_option linter.unusedVariables false
set_option linter.unusedSimpArgs false

/-- the slice value '.slice A n c' holds slices that hold the lists of xss. -/
structure RowP (w : World) (A : Option Addr) (n : Nat) (xss : List (List Int)) : Prop where
  len : xss.length = n
  le : n ≤ maxLen
  els : 0 < n → ∃ b off, A = some ⟨b, off, none⟩ ∧ ∀ i, i < n → ∃ a m c, w.cell? ⟨b, off + i, none⟩ = some (.slice a m c) ∧ RowB .u8 w a m (xss.getD i []) ∧ m ≤ c
theorem RowP.nil {w : World} {A : Option Addr} : RowP w A 0 [] := ⟨rfl, by unfold maxLen; omega, fun h => by omega⟩
theorem RowP.el {w : World} {A : Option Addr} {n : Nat} {xss : List (List Int)} (h : RowP w A n xss) (i : Nat) (hi : i < n) :
    ∃ b off a m c, A = some ⟨b, off, none⟩ ∧ w.cell? ⟨b, off + i, none⟩ = some (.slice a m c) ∧ RowB .u8 w a m (xss.getD i []) ∧ m ≤ c := by
  obtain ⟨b, off, e, h1⟩ := h.els (by omega)
  obtain ⟨a, m, c, h2⟩ := h1 i hi
  exact ⟨b, off, a, m, c, e, h2⟩
theorem RowP.below {w w' : World} {A : Option Addr} {n : Nat} {xss : List (List Int)} (h : RowP w A n xss) (hb : Below w.heap.size w w') : RowP w' A n xss :=
  ⟨h.len, h.le, fun hp => by
    obtain ⟨b, off, e, h1⟩ := h.els hp
    refine ⟨b, off, e, fun i hi => ?_⟩
    obtain ⟨a, m, c, h2, h3, h4⟩ := h1 i hi
    exact ⟨a, m, c, (hb.cell (cell_lt' h2)).trans h2, h3.below hb, h4⟩⟩
theorem RowP.drewN {w : World} {A : Option Addr} {n : Nat} {xss : List (List Int)} (h : RowP w A n xss) (m : Nat) : RowP (w.drewN m) A n xss :=
  ⟨h.len, h.le, fun hp => by
    obtain ⟨b, off, e, h1⟩ := h.els hp
    refine ⟨b, off, e, fun i hi => ?_⟩
    obtain ⟨a, k, c, h2, h3, h4⟩ := h1 i hi
    exact ⟨a, k, c, h2, h3.drewN m, h4⟩⟩
/-- its first m. -/
theorem RowP.first {w : World} {A : Option Addr} {n : Nat} {xss : List (List Int)} (h : RowP w A n xss) (m : Nat) (hm : m ≤ n) : RowP w A m (xss.take m) := by
  have hl := h.len
  refine ⟨by simp; omega, Nat.le_trans hm h.le, fun hp => ?_⟩
  obtain ⟨b, off, e, h1⟩ := h.els (by omega)
  refine ⟨b, off, e, fun i hi => ?_⟩
  have hg : (xss.take m).getD i [] = xss.getD i [] := by simp [List.getD, hi]
  rw [hg]
  exact h1 i (by omega)
/-- one that came in. -/
theorem open_parts {H : Type} {enc : TypeId × Value → H} {P : Program} {w : World} {base : Nat} {spare : Nat → Bool} {held : Bool} {t e u : TypeId} {fuel : Nat} {v : Value} {x : DataW H × List MemPlace}
    (ht : P.underlying t = some (.slice e)) (he : P.underlying e = some (.slice u)) (hu : P.underlying u = some (.int .u8)) (hc : P.cellsOf e = 1) (hcu : P.cellsOf u = 1)
    (h : DataW.trod enc P w base spare held fuel t [v] = some x) : ∃ A n c xss, v = .slice A n c ∧ RowP w A n xss ∧ n ≤ c := by
  rcases open_slice1 ht hc h with ⟨h0, -⟩ | ⟨a, len, cap, m, k, V, D, Pl, h0, hb, hl, hm, hmm, -, hx⟩
  · simp at h0
    exact ⟨none, 0, 0, [], h0, RowP.nil, Nat.le_refl _⟩
  · simp at h0
    have hlm : len ≤ m := by rw [hmm]; split <;> omega
    have each : ∀ i, i < len → ∃ q : Option Addr × Nat × Nat × List Int, V i = .slice q.1 q.2.1 q.2.2.1 ∧ RowB .u8 w q.1 q.2.1 q.2.2.2 ∧ q.2.1 ≤ q.2.2.1 := by
      intro i hi
      obtain ⟨hcell, hel⟩ := hx i (by omega)
      rcases open_ints he hu hcu hel with ⟨hcs, _⟩ | ⟨y, l, c, zs, hcs, _, hl', hm', hz, _, hcc, hwz⟩
      · simp at hcs
        exact ⟨(none, 0, 0, []), hcs, RowB.nil, Nat.le_refl _⟩
      · simp at hcs
        by_cases hsp : spare y.block = true
        · have hz' : zs.length = c := by simpa [hsp] using hz
          exact ⟨(some y, l, c, zs.take l), hcs, RowB.of_row (k := .u8) (cap := c) (zs := zs) (.inr ⟨y, rfl, hl', hm', hz', hcc, hwz⟩), hl'⟩
        · have hz' : zs.length = l := by simpa [hsp] using hz
          have hr : IsRow .u8 w (some y) l l zs := .inr ⟨y, rfl, Nat.le_refl _, by omega, hz', hcc, hwz⟩
          exact ⟨(some y, l, c, zs.take l), hcs, RowB.of_row hr, hl'⟩
    obtain ⟨f, hf⟩ := choose_lt each
    refine ⟨some a, len, cap, (List.range len).map fun i => (f i).2.2.2, h0, ⟨by simp, by omega, fun hp => ?_⟩, hl⟩
    obtain ⟨b, off, spot⟩ := a
    have hc0 := (hx 0 (by omega)).1
    have hspot : spot = none := by simpa [Addr.add] using World.cell?_spot hc0
    subst hspot
    refine ⟨b, off, rfl, fun i hi => ⟨(f i).1, (f i).2.1, (f i).2.2.1, ?_, ?_, (hf i hi).2.2⟩⟩
    · have h2 := (hx i (by omega)).1
      rw [(hf i hi).1] at h2
      by_cases hi0 : i = 0
      · subst hi0; simpa [Addr.add] using h2
      · simpa [Addr.add, hi0] using h2
    · have hg : ((List.range len).map fun i => (f i).2.2.2).getD i [] = (f i).2.2.2 := by simp [List.getD, hi]
      rw [hg]; exact (hf i hi).2.1

/-! ### of the call's own -/
/-- a slice value that holds xs, its row not in block 'ob'. -/
def ElP (w : World) (ob : Option Nat) (v : Value) (xs : List Int) : Prop := ∃ a m c, v = .slice a m c ∧ RowB .u8 w a m xs ∧ m ≤ c ∧ (0 < m → ∀ ad, a = some ad → ob ≠ some ad.block)
def OwnP (w : World) (base : Nat) (e : TypeId) (v : Value) (n : Nat) (xss : List (List Int)) : Prop := ∃ vals, w.ownsRow base e 1 v n vals ∧ xss.length = n ∧ ∀ i, i < n → ∃ u, vals[i]? = some u ∧ ElP w v.ownBlock u (xss.getD i [])
section
variable {w w' : World} {base : Nat} {e : TypeId} {v : Value} {n : Nat} {xss : List (List Int)}
theorem OwnP.nil (w : World) (base : Nat) (e : TypeId) : OwnP w base e (.slice none 0 0) 0 [] := ⟨[], World.ownsRow_nil w base e 1, rfl, fun i hi => by omega⟩
theorem ElP.keep {ob : Option Nat} {u : Value} {xs : List Int} (h : ElP w ob u xs) (hw : ∀ k, some k ≠ ob → k < w.heap.size → w'.heap[k]? = w.heap[k]?) : ElP w' ob u xs := by
  obtain ⟨a, m, c, rfl, hr, hc, hs⟩ := h
  refine ⟨a, m, c, rfl, ⟨hr.len, hr.le, hr.wf, fun hp => ?_⟩, hc, hs⟩
  obtain ⟨b, off, e, h1⟩ := hr.cells hp
  exact ⟨b, off, e, fun i hi => (World.cell?_of_block (hw b (fun e' => hs hp _ e e'.symm) (cell_lt' (h1 i hi)))).trans (h1 i hi)⟩
/-- in a world in which all that was there stands. -/
theorem OwnP.below (h : OwnP w base e v n xss) (hb : Below w.heap.size w w') : OwnP w' base e v n xss := by
  obtain ⟨vals, ho, hl, hx⟩ := h
  refine ⟨vals, ?_, hl, fun i hi => ?_⟩
  · refine ⟨ho.1, ?_⟩
    rcases ho.2 with hn | ⟨g, cap, cur, hv, hb', hg, rest⟩
    · exact .inl hn
    · refine .inr ⟨g, cap, cur, hv, hb', (hb.block g ?_).trans hg, rest⟩
      by_cases hp : g < w.heap.size
      · exact hp
      · rw [Array.getElem?_eq_none (Nat.le_of_not_lt hp)] at hg; cases hg
  · obtain ⟨u, hu, he⟩ := hx i hi
    exact ⟨u, hu, he.keep fun k _ hk => hb.block k hk⟩
/-- as a row. -/
theorem OwnP.row (h : OwnP w base e v n xss) (hn : n ≤ maxLen) : ∃ A c, v = .slice A n c ∧ RowP w A n xss ∧ n ≤ c := by
  obtain ⟨vals, ho, hl, hx⟩ := h
  rcases ho.2 with ⟨rfl, h0⟩ | ⟨g, cap, cur, rfl, hb, hg, hnc, hc, hs, ht⟩
  · subst h0
    exact ⟨none, 0, rfl, ⟨hl, hn, fun h => by omega⟩, Nat.le_refl _⟩
  · refine ⟨some ⟨g, 0, none⟩, cap, rfl, ⟨hl, hn, fun hp => ⟨g, 0, rfl, fun i hi => ?_⟩⟩, hnc⟩
    obtain ⟨u, hu, a, m, c, rfl, hr, hmc, -⟩ := hx i hi
    refine ⟨a, m, c, ?_, hr, hmc⟩
    rw [Nat.zero_add, World.ownsRow.cellAt ho i (by omega), hu]
/-- one more: what append leaves ('wpList_append_lies', 'step_append_lies'), said of the lists. -/
theorem OwnP.snoc {g cap : Nat} {u : Value} {xs : List Int} {vals : List Value} (h : OwnP w base e v n xss) (ho : w.ownsRow base e 1 v n vals)
    (hown : w'.ownsRow base e 1 (.slice (some ⟨g, 0, none⟩) (n + 1) cap) (n + 1) (vals ++ [u])) (hgrow : w.grownBy w' v.ownBlock) (hg : v.ownBlock = some g ∨ g = w.heap.size) (hu : ElP w v.ownBlock u xs) :
    OwnP w' base e (.slice (some ⟨g, 0, none⟩) (n + 1) cap) (n + 1) (xss ++ [xs]) := by
  obtain ⟨vals', ho', hl, hx⟩ := h
  obtain rfl : vals' = vals := by
    have h1 := ho'.1
    have h2 := ho.1
    rcases ho.2 with ⟨hv, h0⟩ | ⟨g1, cap1, cur1, hv, _, hg1, _, _, _, ht1⟩
    · subst h0
      have n1 : vals' = [] := List.eq_nil_of_length_eq_zero (by simpa using h1)
      have n2 : vals = [] := List.eq_nil_of_length_eq_zero (by simpa using h2)
      rw [n1, n2]
    · rcases ho'.2 with ⟨hv', h0⟩ | ⟨g2, cap2, cur2, hv', _, hg2, _, _, _, ht2⟩
      · rw [hv] at hv'; simp at hv'
      · rw [hv] at hv'
        simp only [Value.slice.injEq, Option.some.injEq, Addr.mk.injEq, and_true, true_and] at hv'
        obtain ⟨rfl, rfl⟩ := hv'
        rw [hg1] at hg2
        simp only [Option.some.injEq, Obj.cells.injEq, true_and, and_true] at hg2
        subst hg2
        rw [← ht1, ← ht2]
  have hlv : vals'.length = n := by have := ho'.1; simpa using this
  have turn : ∀ (q : Value) (ys : List Int), ElP w v.ownBlock q ys → ElP w' (Value.slice (some ⟨g, 0, none⟩) (n + 1) cap).ownBlock q ys := by
    intro q ys hq
    obtain ⟨a, m, c, rfl, hr, hc, hs⟩ := hq.keep (w' := w') (fun k hk hlt => hgrow.block k hlt hk)
    refine ⟨a, m, c, rfl, hr, hc, fun hp ad ha => ?_⟩
    obtain ⟨a2, m2, c2, e2, hr2, -, hs2⟩ := hq
    simp only [Value.slice.injEq] at e2
    obtain ⟨rfl, rfl, rfl⟩ := e2
    rcases hg with h1 | h1
    · rw [show (Value.slice (some ⟨g, 0, none⟩) (n + 1) cap).ownBlock = some g from rfl, ← h1]
      exact hs hp ad ha
    · obtain ⟨b, off, eb, hcell⟩ := hr2.cells hp
      rw [ha] at eb
      obtain rfl := Option.some.inj eb
      have hlt := cell_lt' (hcell 0 hp)
      intro hc
      have : g = b := by simpa [Value.ownBlock] using hc
      simp only at hlt
      omega
  refine ⟨vals' ++ [u], hown, by simp [hl], fun i hi => ?_⟩
  by_cases hlt : i < n
  · obtain ⟨q, hq, he⟩ := hx i hlt
    refine ⟨q, by rw [List.getElem?_append_left (by omega)]; exact hq, ?_⟩
    have hg' : (xss ++ [xs]).getD i [] = xss.getD i [] := by simp [List.getD, List.getElem?_append_left (show i < xss.length by omega)]
    rw [hg']
    exact turn _ _ he
  · have hi' : i = n := by omega
    subst hi'
    refine ⟨u, by rw [List.getElem?_append_right (by omega), hlv]; simp, ?_⟩
    have hg' : (xss ++ [xs]).getD i [] = xs := by simp [List.getD, List.getElem?_append_right (show xss.length ≤ i by omega), hl]
    rw [hg']
    exact turn _ _ hu
end
end Go.Proofs.YtejdmpdbapfomaaDoor
