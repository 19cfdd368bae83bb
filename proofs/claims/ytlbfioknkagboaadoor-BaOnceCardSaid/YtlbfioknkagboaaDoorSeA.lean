/-
  A SESSION AS AN OBJECT: its block, its window, its frames (their bodies nil); what it tells of itself.
-/
import Derived.Test.YtlbfioknkagboaaDoorWinC
import Derived.Test.YtlbfioknkagboaaDoorIntsA
import Derived.Test.YtlbfioknkagboaaDoorSessX
import Derived.Test.YtlbfioknkagboaaDoorNum
import Derived.Deep.CutRange
import Derived.Deep.CutBlock
namespace Go.Proofs.YtlbfioknkagboaaDoor
open Go.ChangeShapes Go.WideShapes Go.ChangeAt Go.RowKit Go.Deep
set_option linter.unusedVariables false
set_option linter.unusedSimpArgs false

def fm0 : Fm := (⟨⟨0, 0, 0, 0, []⟩, 0, 0, 0⟩, false)
def mpC (m : Mp) : List Value := [.int .i64 m.pk.id, .int .u32 m.pk.flow, .int .i64 m.pk.tid, .int .i64 m.pk.at_, .slice none 0 0, .int .i64 ((m.seq : Nat) : Int), .int .i64 ((m.sent : Nat) : Int), .int .i64 m.til]
def frC (f : Fm) : List Value := [.int .i64 f.1.pk.id, .int .u32 f.1.pk.flow, .int .i64 f.1.pk.tid, .int .i64 f.1.pk.at_, .slice none 0 0, .int .i64 ((f.1.seq : Nat) : Int), .int .i64 ((f.1.sent : Nat) : Int), .int .i64 f.1.til, .bool f.2]
theorem mpC_len (m : Mp) : (mpC m).length = 8 := rfl
theorem frC_len (f : Fm) : (frC f).length = 9 := rfl
structure Sb where
  size : Nat
  retry : Nat
  life : Int
  state : Nat
  token : Int
  x : Wo
  l : List Fm
  ask : Bool
  fr : Nat
  vain : Nat
structure Sp where
  g : Nat
  gw : Nat
  v : Value
def seC (p : Sp) (s : Sb) : Array Value := #[.int .i64 ((s.size : Nat) : Int), .int .i64 ((s.retry : Nat) : Int), .int .i64 s.life, .int .i64 ((s.state : Nat) : Int), .int .i64 s.token, .pointer (some ⟨p.gw, 0, none⟩), p.v, .bool s.ask, .int .i64 ((s.fr : Nat) : Int), .int .i64 ((s.vain : Nat) : Int)]
def FootS (p : Sp) : Nat → Prop := fun k => k = p.g ∨ k = p.gw ∨ p.v.ownBlock = some k
structure IsSe (B : Nat) (w : World) (p : Sp) (s : Sb) : Prop where
  blk : w.heap[p.g]? = some (.cells (seC p s) 80 (0, 0))
  win : IsWin w p.gw s.x
  row : OwnS frC 9 w B 85 p.v s.l.length s.l
  ne : p.g ≠ p.gw
  ng : ∀ k, p.v.ownBlock = some k → k ≠ p.g ∧ k ≠ p.gw
  lo : B ≤ p.g ∧ B ≤ p.gw
structure InvB (s : Sb) : Prop where
  inv : InvX s.x s.l
  size : 1 ≤ s.size ∧ s.size ≤ 64
  retry : s.retry ≤ 15
  life : 1 ≤ s.life ∧ s.life ≤ 1099511627776
theorem own_only {α : Type} {F : α → List Value} {sz n B : Nat} {e : TypeId} {v : Value} {l : List α} {w w' : World} {S : Nat → Prop} (h : OwnS F sz w B e v n l) (ho : Only S w w') (hn : ∀ g, v.ownBlock = some g → ¬ S g) : OwnS F sz w' B e v n l := ⟨owns_only h.1 ho hn, h.2⟩
section
variable {B : Nat} {w w' : World} {p : Sp} {s : Sb} {S : Nat → Prop}
theorem IsSe.only (h : IsSe B w p s) (ho : Only S w w') (hs : ∀ k, FootS p k → ¬ S k) : IsSe B w' p s :=
  ⟨ho.at_ h.blk (hs _ (.inl rfl)), h.win.only ho (hs _ (.inr (.inl rfl))), own_only h.row ho fun g hg => hs _ (.inr (.inr hg)), h.ne, h.ng, h.lo⟩
theorem IsSe.below (h : IsSe B w p s) (hb : Below w.heap.size w w') : IsSe B w' p s := h.only (S := fun _ => False) (Only.of_quiet hb) fun _ _ e => e
theorem IsSe.drewN (h : IsSe B w p s) (n : Nat) : IsSe B (w.drewN n) p s := h.below (below_drewN (Below.refl _ _) n)
theorem IsSe.foot (h : IsSe B w p s) : ∀ k, FootS p k → B ≤ k ∧ k < w.heap.size := fun k hk => by
  rcases hk with rfl | rfl | hk
  · exact ⟨h.lo.1, lt_blk h.blk⟩
  · exact ⟨h.lo.2, h.win.lt⟩
  · exact World.ownsRow.lt h.row.1 k hk
theorem IsSe.cells (h : IsSe B w p s) : w.cell? ⟨p.g, 0, none⟩ = some (.int .i64 ((s.size : Nat) : Int)) ∧ w.cell? ⟨p.g, 1, none⟩ = some (.int .i64 ((s.retry : Nat) : Int)) ∧ w.cell? ⟨p.g, 2, none⟩ = some (.int .i64 s.life) ∧ w.cell? ⟨p.g, 3, none⟩ = some (.int .i64 ((s.state : Nat) : Int)) ∧ w.cell? ⟨p.g, 4, none⟩ = some (.int .i64 s.token) ∧ w.cell? ⟨p.g, 5, none⟩ = some (.pointer (some ⟨p.gw, 0, none⟩)) ∧ w.cell? ⟨p.g, 6, none⟩ = some p.v ∧ w.cell? ⟨p.g, 7, none⟩ = some (.bool s.ask) ∧ w.cell? ⟨p.g, 8, none⟩ = some (.int .i64 ((s.fr : Nat) : Int)) ∧ w.cell? ⟨p.g, 9, none⟩ = some (.int .i64 ((s.vain : Nat) : Int)) := by
  have hr := block_range h.blk
  refine ⟨?_, ?_, ?_, ?_, ?_, ?_, ?_, ?_, ?_, ?_⟩
  · simpa using hr 0 _ rfl
  · simpa using hr 1 _ rfl
  · simpa using hr 2 _ rfl
  · simpa using hr 3 _ rfl
  · simpa using hr 4 _ rfl
  · simpa using hr 5 _ rfl
  · simpa using hr 6 _ rfl
  · simpa using hr 7 _ rfl
  · simpa using hr 8 _ rfl
  · simpa using hr 9 _ rfl
theorem InvB.len (h : InvB s) : s.l.length ≤ 64 := by have := h.inv.le; omega
theorem IsSe.out (h : IsSe B w p s) (hi : InvB s) : ∃ A c, p.v = .slice A s.l.length c ∧ RowS frC 9 fm0 w A s.l.length s.l ∧ s.l.length ≤ c := h.row.row frC_len (by have := hi.len; unfold maxLen; omega)
end
end Go.Proofs.YtlbfioknkagboaaDoor
