/-
  SESSIONS IN A LINE: frames from number 0 on, given out one by one. Whether an error is one. No step of the program is walked.
-/
import Derived.Test.YtlbfioknkagboaaDoorSeM
namespace Go.Proofs.YtlbfioknkagboaaDoor
open Go.ChangeShapes Go.WideShapes Go.ChangeAt Go.RowKit Go.Deep
set_option linter.unusedVariables false
set_option linter.unusedSimpArgs false

theorem isP_any (E : Nat → Addr) (c : Nat) (d : Int) (w : World) (hS : Sent w E S14) (hc : c ∈ S14) (b : Bool) (hb : ((c : Int) == d) = b) :
    Calls Tryd.prog 29 #[errP (E c), .int .i64 d] w fun e w' => e = .returned (.bool b) ∧ Below w.heap.size w w' := by
  have h := is_any E c d w hS (.inr hc)
  rw [errV_pos E (show c ≠ 0 by have := le14 hc; omega), hb] at h
  exact h
def pkI (i : Nat) : Pk := ⟨(i : Int), 0, 0, 0, []⟩
def lineB (size retry : Nat) (life tok til : Int) (sent : Nat) (b : Bool) (wsz n : Nat) : Sb := ⟨size, retry, life, 3, tok, lineW 0 n wsz, lineL pkI til sent b n, false, 0, 0⟩
theorem fresh_line (size retry : Nat) (life tok til : Int) (wsz n : Nat) : freshB (lineB size retry life tok til 0 false wsz n) (n : Int) 0 0 0 n til = lineB size retry life tok til 0 false wsz (n + 1) := by
  unfold freshB lineB
  dsimp only
  rw [line_next, line_succ]
  rfl
theorem nm_line {n wsz : Nat} (h : n < 4096) : nmW (lineW 0 n wsz) n = n := by
  show (0 + n) % 4096 = n
  omega
theorem line_zero (s : Sb) (size retry : Nat) (life tok til : Int) (wsz : Nat) (h1 : s.size = size) (h2 : s.retry = retry) (h3 : s.life = life) (h4 : s.token = tok) (h5 : s.ask = false) (h6 : s.fr = 0) (h7 : s.vain = 0) (h8 : s.x.st = 0) (h9 : s.l = []) :
    { s with state := 3, x := newW s.x.st wsz } = lineB size retry life tok til 0 false wsz 0 := by
  cases s
  dsimp only at *
  subst h1 h2 h3 h4 h5 h6 h7 h9
  rw [h8]
  rfl
theorem line_len (til : Int) (sent : Nat) (b : Bool) (n : Nat) : (lineL pkI til sent b n).length = n := by unfold lineL; simp
theorem any_line {P : Fm → Bool} {til : Int} {sent n : Nat} {b : Bool} {g : Fm → Fm} : ((lineL pkI til sent b n).map g).any P = true ↔ ∃ i, i < n ∧ P (g (lineF pkI til sent b i)) = true := by
  unfold lineL
  rw [List.map_map, List.any_map, List.any_eq_true]
  constructor
  · rintro ⟨i, hi, h⟩; exact ⟨i, List.mem_range.1 hi, h⟩
  · rintro ⟨i, hi, h⟩; exact ⟨i, List.mem_range.2 hi, h⟩
theorem any_line0 {P : Fm → Bool} {til : Int} {sent n : Nat} {b : Bool} : (lineL pkI til sent b n).any P = true ↔ ∃ i, i < n ∧ P (lineF pkI til sent b i) = true := by
  have := any_line (P := P) (til := til) (sent := sent) (n := n) (b := b) (g := id)
  rwa [List.map_id] at this
theorem any_false {b : Bool} {p : Prop} (h : b = true ↔ p) (hp : ¬ p) : b = false := by cases b; rfl; exact absurd (h.1 rfl) hp
theorem seq_due {z : Nat} {n til : Int} {k : Nat} : ((lineL pkI til k false z).any (dueP n) = true ↔ ∃ i, i < z ∧ ((i : Nat) : Int) = n) := by
  rw [any_line0]
  constructor
  · rintro ⟨i, hi, h⟩; exact ⟨i, hi, by have h2 : (true && decide (((i : Nat) : Int) = n)) = true := h; simpa using h2⟩
  · rintro ⟨i, hi, h⟩; exact ⟨i, hi, by show (true && decide (((i : Nat) : Int) = n)) = true; simpa using h⟩
theorem seq_fly {z : Nat} {til : Int} {k : Nat} : (lineL pkI til k false z).any flyP = false := any_false any_line0 fun ⟨i, _, h⟩ => by cases h
theorem seq_sent {z : Nat} {til : Int} {b : Bool} {n : Nat} (hn : n ≤ 1000000) : ∀ f ∈ lineL pkI til n b z, f.1.sent ≤ 1000000 := by
  intro f hf
  unfold lineL at hf
  obtain ⟨i, -, rfl⟩ := List.mem_map.1 hf
  exact hn
theorem went_bad {l : List Fm} {xs : List Int} {k : Nat} (hk : k < xs.length) (h : fineAt l xs k = false) : wentC l xs = 107 := by unfold wentC; rw [if_pos (fine_no hk h)]
theorem went_one {l : List Fm} {n : Int} (h : l.any (dueP n) = true) : wentC l [n] = if l.any flyP = true then 110 else 0 := by
  unfold wentC
  rw [if_neg]
  rw [fine_yes]
  · simp
  · intro k hk
    have h0 : k = 0 := by have h1 : k < 1 := hk; omega
    subst h0
    show (l.any (dueP n) && !decide (n ∈ ([] : List Int))) = true
    rw [h]; rfl
theorem went_no {l : List Fm} {n : Int} (h : l.any (dueP n) = false) : wentC l [n] = 107 := went_bad (k := 0) (by show 0 < 1; decide) (by show (l.any (dueP n) && !decide (n ∈ ([] : List Int))) = false; rw [h]; rfl)
theorem row_lit1 {w : World} {g : Nat} {v : Int} {T : TypeId} (hg : w.heap[g]? = some (.cells #[.int .i64 v] T (0, 0))) (h0 : -9223372036854775808 ≤ v) (h1 : v ≤ 9223372036854775807) : RowB .i64 w (some ⟨g, 0, none⟩) 1 [v] :=
  ⟨rfl, by unfold maxLen; omega, fun i hi => by
    have e : i = 0 := by omega
    subst e
    have a : IntKind.i64.min = -9223372036854775808 := by decide
    have b : IntKind.i64.max = 9223372036854775807 := by decide
    rw [a, b]
    exact ⟨h0, h1⟩, fun _ => ⟨g, 0, rfl, fun i hi => by
    have e : i = 0 := by omega
    subst e
    have h9 := block_range hg 0 _ rfl
    exact h9⟩⟩
theorem row_lit2 {w : World} {g : Nat} {T : TypeId} (hg : w.heap[g]? = some (.cells #[.int .i64 0, .int .i64 0] T (0, 0))) : RowB .i64 w (some ⟨g, 0, none⟩) 2 [0, 0] :=
  ⟨rfl, by unfold maxLen; omega, fun i hi => by
    have a : IntKind.i64.min = -9223372036854775808 := by decide
    have b : IntKind.i64.max = 9223372036854775807 := by decide
    rw [a, b]
    rcases (by omega : i = 0 ∨ i = 1) with rfl | rfl <;> decide, fun _ => ⟨g, 0, rfl, fun i hi => by
    have h0 := block_range hg 0 _ rfl
    have h1 := block_range hg 1 _ rfl
    rcases (by omega : i = 0 ∨ i = 1) with rfl | rfl
    · exact h0
    · exact h1⟩⟩
end Go.Proofs.YtlbfioknkagboaaDoor
