/-
  MATHS: what a pull keeps of its state's bounds. No program is named.
-/
import Derived.Test.YtaibopaagjodoaaCodD
namespace Go.Proofs.Ytaibopaagjodoaa
set_option linter.unusedVariables false
set_option linter.unusedSimpArgs false

def Kept (M : Int) (c : Cd) : Prop := c.count < 4294967296 ∧ c.last < 4294967296 ∧ 0 ≤ c.drop ∧ c.drop ≤ M
theorem nextN_in (a i : Int) (c : Nat) (h0 : 0 ≤ a) : 0 ≤ nextN a i c ∧ nextN a i c ≤ a + 1073741824 := by
  have h := next_in (a := a) (i := i) (invN_le c)
  have e : nextN a i c = nextR a i (invN c) := rfl
  rw [e]
  unfold clampR at h
  omega
theorem drops_kept {q : Pl} {M : Int} (h0 : 0 ≤ q.now) (hM : q.now + 1073741824 ≤ M) : ∀ (l : List It) (n : Nat) (c : Cd) (b : Int), Kept M c → Kept M (dropsR q n c b l).1
  | [], n, c, b, h => h
  | x :: r, n, c, b, h => by
    unfold dropsR
    obtain ⟨h1, h2, h3, h4⟩ := h
    split
    · rename_i hd
      split
      · have hn := nextN_in c.drop q.interval (more c.count) h3
        exact drops_kept h0 hM r (n + 1) _ _ ⟨more_lt h1, h2, hn.1, by have := hn.2; dsimp only; omega⟩
      · exact ⟨more_lt h1, h2, h3, h4⟩
    · exact ⟨h1, h2, h3, h4⟩
theorem pull_kept {q : Pl} {M : Int} (h0 : 0 ≤ q.now) (hM : q.now + 1073741824 ≤ M) {c : Cd} (h : Kept M c) (b : Int) (l : List It) : Kept M (pullR q c b l).1 := by
  obtain ⟨h1, h2, h3, h4⟩ := h
  unfold pullR
  split
  · exact ⟨h1, h2, h3, h4⟩
  · split
    · split
      · exact drops_kept h0 hM l 0 _ _ ⟨h1, h2, h3, h4⟩
      · exact ⟨h1, h2, h3, h4⟩
    · split
      · have hn := nextN_in q.now q.interval (begins q c) h0
        exact ⟨begins_lt q c, begins_lt q c, hn.1, by have := hn.2; dsimp only; omega⟩
      · exact ⟨h1, h2, h3, h4⟩
end Go.Proofs.Ytaibopaagjodoaa
