/-
  What a pull keeps of its state's bounds; a row onto a fresh empty one.
-/
import Derived.Test.YtmajbkhbkepebaaCodT
import Derived.Test.YtmajbkhbkepebaaCodS
namespace Go.Proofs.Ytmajbkhbkepebaa
open Go.ChangeShapes Go.WideShapes Go.ChangeAt Go.RowKit Go.Deep
set_option linter.unusedVariables false
set_option linter.unusedSimpArgs false

def Kept (M : Int) (c : Cd) : Prop := c.count < 4294967296 ∧ c.last < 4294967296 ∧ 0 ≤ c.drop ∧ c.drop ≤ M
theorem nextN_in (a i : Int) (c : Nat) (h0 : 0 ≤ a) : 0 ≤ nextN a i c ∧ nextN a i c ≤ a + 1073741824 := by
  have h := next_in (a := a) (i := i) (invN_le c)
  have e : nextN a i c = nextR a i (invN c) := rfl
  rw [e]
  unfold clampR at h
  omega
theorem drops_kept {q : Pl} {M : Int} (h0 : 0 ≤ q.now) (hM : q.now + 1073741824 ≤ M) : ∀ (l : List It) (n : Nat) (c : Cd) (b : Int), Kept M c → Kept M (dropsR q n c b l).1
  | [], n, c, b, h => h
  | x :: r, n, c, b, h => by
    unfold dropsR
    obtain ⟨h1, h2, h3, h4⟩ := h
    split
    · rename_i hd
      split
      · have hn := nextN_in c.drop q.interval (more c.count) h3
        exact drops_kept h0 hM r (n + 1) _ _ ⟨more_lt h1, h2, hn.1, by have := hn.2; dsimp only; omega⟩
      · exact ⟨more_lt h1, h2, h3, h4⟩
    · exact ⟨h1, h2, h3, h4⟩
theorem pull_kept {q : Pl} {M : Int} (h0 : 0 ≤ q.now) (hM : q.now + 1073741824 ≤ M) {c : Cd} (h : Kept M c) (b : Int) (l : List It) : Kept M (pullR q c b l).1 := by
  obtain ⟨h1, h2, h3, h4⟩ := h
  unfold pullR
  split
  · exact ⟨h1, h2, h3, h4⟩
  · split
    · split
      · exact drops_kept h0 hM l 0 _ _ ⟨h1, h2, h3, h4⟩
      · exact ⟨h1, h2, h3, h4⟩
    · split
      · have hn := nextN_in q.now q.interval (begins q c) h0
        exact ⟨begins_lt q c, begins_lt q c, hn.1, by have := hn.2; dsimp only; omega⟩
      · exact ⟨h1, h2, h3, h4⟩
/-- 'append([]api.Item{}, r...)': a fresh row that reads as r. -/
theorem app_fresh {ops : Array Oper} {rest : List Oper} {o : Oper} {a : Act} {w : World} {Q : Exit → Act → World → Prop} (hgd : o.guard = none) (s x : Operand)
    (ho : o.op = .call { callee := .builtin .append, args := #[s, x], argTypes := #[25, 25] })
    (hs : a.eval s = .slice (some ⟨w.heap.size, 0, none⟩) 0 0) (A : Option Addr) (m c : Nat) (l : List It) (hx : a.eval x = .slice A m c) (hR : RowS itC 2 it00 w A m l) (hk : m ≤ 100000)
    (h : ∀ g cap w', Shut (w.heap.size ≤ g) → Shut (RowS itC 2 it00 w' (some ⟨g, 0, none⟩) m l) → Shut (m ≤ cap) → Shut (Below w.heap.size w w') → wpList Try.prog ops Q rest (a.put o.dst (.slice (some ⟨g, 0, none⟩) m cap)) w') :
    wpList Try.prog ops Q (o :: rest) a (w.alloc (.cells #[] 38)) := by
  have hb0 := (Below.refl w.heap.size w).alloc (Nat.le_refl _) (.cells #[] 38)
  obtain ⟨i0, hi0, hz0, hz1, hz2⟩ := info_parts' item_info
  have hR' := hR.below hb0
  have hP := OwnI.empty w w.heap.size (Nat.le_refl _)
  rcases Nat.eq_zero_or_pos m with h0 | h0
  · subst h0
    obtain rfl : l = [] := List.eq_nil_of_length_eq_zero hR.len
    refine wpList_plain hgd fun K hK => ?_
    have hrun : (Builtin.append_ #[25, 25] o.type #[.slice (some ⟨w.heap.size, 0, none⟩) 0 0, .slice A 0 c]).run Try.prog (w.alloc (.cells #[] 38)) = .ok (.slice (some ⟨w.heap.size, 0, none⟩) 0 0) (w.alloc (.cells #[] 38)) := by
      have hu := Try.underlying25
      cases A with
      | none => simp [Builtin.append_, run_underlying hu, sizeOf, typeInfo, hi0, Builtin.lenOf, Builtin.firstCells, storeCells, loadCells, loadCellsFrom]
      | some ad => simp [Builtin.append_, run_underlying hu, sizeOf, typeInfo, hi0, Builtin.lenOf, Builtin.firstCells, storeCells, loadCells, loadCellsFrom]
    unfold Oper.wp
    simp [execOp, ho, resolve, invoke, builtin, hs, hx, hrun, Result.andThen]
    exact hK _ _ (h w.heap.size 0 _ ⟨Nat.le_refl _⟩ ⟨⟨rfl, Nat.zero_le _, fun e => by omega⟩⟩ ⟨Nat.le_refl _⟩ ⟨hb0⟩)
  · obtain ⟨b, off, rfl, he⟩ := hR'.els h0
    refine wpList_append_lies _ hgd s x 25 ho w.heap.size 38 i0 _ 2 16 Try.underlying25 hi0 hz0 hz1 hz2 rfl (by omega) _ 0 _ hs hP.1 ⟨b, off, none⟩ m c (l.flatMap itC) hx (by rw [flat_len, hR.len]) (fun j v hv => ?_) (fun v hv => by
      obtain ⟨u, -, hu⟩ := List.mem_flatMap.1 hv
      exact itC_one u v hu) h0 (by unfold maxLen; omega) (by omega) hb0.size _ rfl ?_
    · have hj : j < m * 2 := by
        have h1 := (List.getElem?_eq_some_iff.1 hv).1
        rw [flat_len, hR.len] at h1
        exact h1
      have e : j = j / 2 * 2 + j % 2 := by omega
      rw [e, flat_at (F := itC) (sz := 2) (d := it00) (fun _ => rfl) l (j / 2) (j % 2) (by rw [hR.len]; omega) (by omega)] at hv
      have := he (j / 2) (by omega) (j % 2) v hv
      rw [e, Addr.add_mid]
      simpa [Nat.add_assoc] using this
    · intro g cap w' hown hgrow hor hlt
      have hz : (0 : Nat) + m = m := Nat.zero_add m
      rw [hz] at hown ⊢
      rw [List.flatMap_nil, List.nil_append] at hown
      have hq : OwnI w' w.heap.size (.slice (some ⟨g, 0, none⟩) m cap) m l := ⟨hown, hR.len⟩
      obtain ⟨A', c', e, hr, hc⟩ := hq.row' (by unfold maxLen; omega)
      cases e
      exact h g cap w' ⟨(World.ownsRow.lt hown g rfl).1⟩ ⟨hr⟩ ⟨hc⟩ ⟨hb0.trans ((Below.refl w.heap.size _).grown hgrow hb0.size (by intro q hq; exact (World.ownsRow.lt hP.1 q hq).1))⟩
end Go.Proofs.Ytmajbkhbkepebaa
