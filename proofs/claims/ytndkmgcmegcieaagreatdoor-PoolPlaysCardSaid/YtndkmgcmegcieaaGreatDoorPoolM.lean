/-
  POOL: maths: the fattest flow of all; what is dropped till there is no more than may be. No program is named.
-/
import Derived.Test.YtndkmgcmegcieaaGreatDoorPoolA
namespace Go.Proofs.YtndkmgcmegcieaaGreatDoor
set_option linter.unusedVariables false
set_option linter.unusedSimpArgs false
def combO (f : Nat → Int) (n : Nat) (a b : Option Nat) : Option Nat := match b with
 | none => a
 | some j => match a with
  | none => some (n + j)
  | some i => if f i < f (n + j) then some (n + j) else some i
theorem best_app {f : Nat → Int} {ok : Nat → Bool} {n m : Nat} {a b : Option Nat} (h1 : Best f ok n a) (h2 : Best (fun j => f (n + j)) (fun j => ok (n + j)) m b) : Best f ok (n + m) (combO f n a b) := by
 cases b with
 | none =>
  have h3 : ∀ j, j < m → ok (n + j) = false := h2
  have h4 : ∀ j, n ≤ j → j < n + m → ok j = false := fun j h5 h6 => by have := h3 (j - n) (by omega); rwa [show n + (j - n) = j by omega] at this
  cases a with
  | none =>
   intro j hj
   by_cases e : j < n
   ·exact h1 j e
   ·exact h4 j (by omega) hj
  | some i =>
   obtain ⟨a1, a2, a3, a4⟩ := h1
   refine ⟨by omega, a2, fun j hj ho => ?_, a4⟩
   by_cases e : j < n
   ·exact a3 j e ho
   ·rw [h4 j (by omega) hj] at ho; cases ho
 | some b =>
  obtain ⟨b1, b2, b3, b4⟩ := h2
  dsimp only at b2 b3 b4
  have h3 : ∀ j, n ≤ j → j < n + m → ok j = true → f j ≤ f (n + b) := fun j h5 h6 h7 => by
   have := b3 (j - n) (by omega); rw [show n + (j - n) = j by omega] at this; exact this h7
  have h4 : ∀ j, n ≤ j → j < n + b → ok j = true → f j < f (n + b) := fun j h5 h6 h7 => by
   have := b4 (j - n) (by omega); rw [show n + (j - n) = j by omega] at this; exact this h7
  cases a with
  | none =>
   refine ⟨by omega, b2, fun j hj ho => ?_, fun j hj ho => ?_⟩
   ·by_cases e : j < n
    ·have : ok j = false := h1 j e
     rw [this] at ho; cases ho
    ·exact h3 j (by omega) hj ho
   ·by_cases e : j < n
    ·have : ok j = false := h1 j e
     rw [this] at ho; cases ho
    ·exact h4 j (by omega) hj ho
  | some i =>
   obtain ⟨a1, a2, a3, a4⟩ := h1
   unfold combO
   dsimp only
   by_cases e : f i < f (n + b)
   ·rw [if_pos e]
    refine ⟨by omega, b2, fun j hj ho => ?_, fun j hj ho => ?_⟩
    ·by_cases e2 : j < n
     ·have := a3 j e2 ho; omega
     ·exact h3 j (by omega) hj ho
    ·by_cases e2 : j < n
     ·have := a3 j e2 ho; omega
     ·exact h4 j (by omega) hj ho
   ·rw [if_neg e]
    refine ⟨by omega, a2, fun j hj ho => ?_, a4⟩
    by_cases e2 : j < n
    ·exact a3 j e2 ho
    ·have := h3 j (by omega) hj ho; omega
theorem best_congr {f f' : Nat → Int} {ok ok' : Nat → Bool} {n : Nat} {o : Option Nat} (h : ∀ j, j < n → f j = f' j ∧ ok j = ok' j) (hb : Best f ok n o) : Best f' ok' n o := by
 cases o with
 | none => intro j hj; rw [← (h j hj).2]; exact hb j hj
 | some i =>
  obtain ⟨a1, a2, a3, a4⟩ := hb
  refine ⟨a1, by rw [← (h i a1).2]; exact a2, fun j hj ho => ?_, fun j hj ho => ?_⟩
  ·rw [← (h j hj).1, ← (h i a1).1]; exact a3 j hj (by rw [(h j hj).2]; exact ho)
  ·rw [← (h j (by omega)).1, ← (h i a1).1]; exact a4 j hj (by rw [(h j (by omega)).2]; exact ho)
def okG (M : Nat → Qu) (J : Nat) : Bool := okF (M (J / 16)) (J % 16)
def fatG (M : Nat → Qu) (J : Nat) : Int := fatF (M (J / 16)) (J % 16)
def IsFatG (M : Nat → Qu) (o : Option Nat) : Prop := Best (fatG M) (okG M) 2048 o
theorem fatG_in (M : Nat → Qu) (k : Nat) {j : Nat} (hj : j < 16) : fatG M (16 * k + j) = fatF (M k) j ∧ okG M (16 * k + j) = okF (M k) j := by
 unfold fatG okG
 rw [show (16 * k + j) / 16 = k by omega, show (16 * k + j) % 16 = j by omega]
 exact ⟨rfl, rfl⟩
theorem fat_next {M : Nat → Qu} {k : Nat} {a b : Option Nat} (h1 : Best (fatG M) (okG M) (16 * k) a) (h2 : IsFat (M k) b) : Best (fatG M) (okG M) (16 * (k + 1)) (combO (fatG M) (16 * k) a b) :=
 best_app h1 (best_congr (fun j hj => ⟨(fatG_in M k hj).1.symm, (fatG_in M k hj).2.symm⟩) h2)
theorem fat_quZ : IsFat quZ none := fun j _ => rfl
theorem allTo_mem {q : Qu} {p : Pk} : ∀ n, p ∈ allTo q n → ∃ i, i < n ∧ p ∈ (q.fl i).pk
 | 0, h => by cases h
 | n + 1, h => by
  rw [allTo_succ, List.mem_append] at h
  rcases h with h | h
  ·obtain ⟨i, hi, hp⟩ := allTo_mem n h; exact ⟨i, by omega, hp⟩
  ·exact ⟨n, by omega, h⟩
theorem allP_mem {M : Nat → Qu} {p : Pk} : ∀ n, p ∈ allP M n → ∃ k, k < n ∧ p ∈ allQ (M k)
 | 0, h => by cases h
 | n + 1, h => by
  rw [allP_succ, List.mem_append] at h
  rcases h with h | h
  ·obtain ⟨i, hi, hp⟩ := allP_mem n h; exact ⟨i, by omega, hp⟩
  ·exact ⟨n, by omega, h⟩
theorem allTo_congr {q r : Qu} : ∀ n, (∀ b, b < n → (q.fl b).pk = (r.fl b).pk) → allTo q n = allTo r n
 | 0, _ => rfl
 | n + 1, h => by rw [allTo_succ, allTo_succ, allTo_congr n fun b hb => h b (by omega), h n (by omega)]
theorem allP_congr {M N : Nat → Qu} : ∀ n, (∀ k, k < n → allQ (M k) = allQ (N k)) → allP M n = allP N n
 | 0, _ => rfl
 | n + 1, h => by rw [allP_succ, allP_succ, allP_congr n fun b hb => h b (by omega), h n (by omega)]
theorem allTo_set {q : Qu} {b : Nat} {y : Fl} {fr el : List Nat} {p : Pk} (h : (q.fl b).pk.Perm (p :: y.pk)) : ∀ n, b < n → (allTo q n).Perm (p :: allTo ⟨setF q.fl b y, fr, el⟩ n)
 | 0, hb => by omega
 | n + 1, hb => by
  rw [allTo_succ, allTo_succ]
  by_cases e : b = n
  ·subst e
   dsimp only
   rw [setF_same, allTo_congr (r := ⟨setF q.fl b y, fr, el⟩) b fun k hk => by dsimp only; rw [setF_other _ _ (by omega)]]
   exact (List.Perm.append_left _ h).trans List.perm_middle
  ·dsimp only
   rw [setF_other _ _ (fun e2 => e e2.symm)]
   exact List.Perm.append_right _ (allTo_set h n (by omega))
theorem allP_set {M : Nat → Qu} {k : Nat} {q : Qu} {p : Pk} (h : (allQ (M k)).Perm (p :: allQ q)) : ∀ n, k < n → (allP M n).Perm (p :: allP (updF M k q) n)
 | 0, hb => by omega
 | n + 1, hb => by
  rw [allP_succ, allP_succ]
  by_cases e : k = n
  ·subst e
   rw [updF_same, allP_congr (N := updF M k q) k fun j hj => by rw [updF_other _ _ (by omega)]]
   exact (List.Perm.append_left _ h).trans List.perm_middle
  ·rw [updF_other _ _ (fun e2 => e e2.symm)]
   exact List.Perm.append_right _ (allP_set h n (by omega))
theorem updF_back {α : Type} (M : Nat → α) (k : Nat) (q : α) : updF (updF M k q) k (M k) = M := by
 funext j
 by_cases e : j = k
 ·subst e; rw [updF_same]
 ·rw [updF_other _ _ e, updF_other _ _ e]
theorem all_drop {q : Qu} {b : Nat} {p : Pk} {r : List Pk} (hb : b < 16) (h : (q.fl b).pk = p :: r) : (allQ q).Perm (p :: allQ (dropQ q b)) :=
 allTo_set (y := ⟨(q.fl b).pk.tail, (q.fl b).df, (q.fl b).cd⟩) (by rw [h]; exact List.Perm.refl _) 16 hb
def dropM (M : Nat → Qu) (J : Nat) : Nat → Qu := updF M (J / 16) (dropQ (M (J / 16)) (J % 16))
theorem allP_drop {M : Nat → Qu} {J : Nat} {p : Pk} {r : List Pk} (hJ : J < 2048) (h : ((M (J / 16)).fl (J % 16)).pk = p :: r) : (allP M 128).Perm (p :: allP (dropM M J) 128) :=
 allP_set (all_drop (by omega) h) 128 (by omega)
inductive Shr (mp mb : Int) : (Nat → Qu) → List Pk → (Nat → Qu) → Prop
 | done {M : Nat → Qu} : ((allP M 128).length : Int) ≤ mp → bytesF (allP M 128) ≤ mb → Shr mp mb M [] M
 | step {M : Nat → Qu} {J : Nat} {p : Pk} {r ds : List Pk} {M' : Nat → Qu} : (mp < ((allP M 128).length : Int) ∨ mb < bytesF (allP M 128)) → IsFatG M (some J) → ((M (J / 16)).fl (J % 16)).pk = p :: r → Shr mp mb (dropM M J) ds M' → Shr mp mb M (p :: ds) M'
theorem shr_perm {mp mb : Int} {M M' : Nat → Qu} {ds : List Pk} (h : Shr mp mb M ds M') : (allP M 128).Perm (ds ++ allP M' 128) ∧ ((allP M' 128).length : Int) ≤ mp ∧ bytesF (allP M' 128) ≤ mb := by
 induction h with
 | done h1 h2 => exact ⟨List.Perm.refl _, h1, h2⟩
 | @step M J p r ds M' h1 h2 h3 _ ih =>
  exact ⟨(allP_drop h2.1 h3).trans (List.Perm.cons p ih.1), ih.2⟩
theorem shr_none {mp mb : Int} {M M' : Nat → Qu} {ds : List Pk} (h : Shr mp mb M ds M') (h1 : ((allP M 128).length : Int) ≤ mp) (h2 : bytesF (allP M 128) ≤ mb) : ds = [] ∧ M' = M := by
 cases h with
 | done _ _ => exact ⟨rfl, rfl⟩
 | step h3 _ _ _ => omega
theorem fatG_some {M : Nat → Qu} {p : Pk} (h : p ∈ allP M 128) (hf : IsFatG M none) : False := by
 obtain ⟨k, hk, h1⟩ := allP_mem 128 h
 obtain ⟨b, hb, h2⟩ := allTo_mem 16 h1
 have h3 : okG M (16 * k + b) = false := hf (16 * k + b) (by omega)
 rw [(fatG_in M k hb).2] at h3
 unfold okF at h3
 cases hp : ((M k).fl b).pk with
 | nil => rw [hp] at h2; cases h2
 | cons p r => rw [hp] at h3; simp at h3
theorem few_drop {q : Qu} (h : FewC q) {b : Nat} (hb : b < 16) : FewC (dropQ q b) :=
 few_set h (by rw [List.length_tail]; have := h.len b hb; omega) (fun p hp => h.el b hb p (List.mem_of_mem_tail hp)) (h.cd b hb) (h.df b hb)
theorem inv_drop {bk : Int → Nat} {q : Qu} (h : InvQ bk q) (b : Nat) : InvQ bk (dropQ q b) := by
 refine ⟨h.nodup, h.lt, fun k hk => h.listed k fun e => ?_, fun k p hp => h.own k p ?_⟩
 ·apply hk
  by_cases e2 : k = b
  ·subst e2; simp [dropQ, setF_same, e]
  ·simp only [dropQ, setF_other _ _ e2]; exact e
 ·by_cases e2 : k = b
  ·subst e2; simp only [dropQ, setF_same] at hp; exact List.mem_of_mem_tail hp
  ·simp only [dropQ, setF_other _ _ e2] at hp; exact hp
end Go.Proofs.YtndkmgcmegcieaaGreatDoor
