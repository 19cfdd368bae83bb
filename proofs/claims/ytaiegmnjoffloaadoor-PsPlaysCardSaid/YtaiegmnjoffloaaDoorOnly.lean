/-
  FOOTPRINTS: what a call may turn is a set of blocks, and what is new: for objects that live on (two queues side by side). No program is named.
-/
import Derived.Test.YtaiegmnjoffloaaDoorRowS
import Derived.Laws.CopyOwn
namespace Go.Proofs.YtaiegmnjoffloaaDoor
open Go.ChangeShapes Go.WideShapes Go.ChangeAt Go.RowKit
set_option linter.unusedVariables false
set_option linter.unusedSimpArgs false

/-- of what was there only the blocks of S may have turned. -/
structure Only (S : Nat → Prop) (w w' : World) : Prop where
  os : w'.os = w.os
  tape : w'.tape = w.tape
  output : w'.output = w.output
  size : w.heap.size ≤ w'.heap.size
  block : ∀ k, k < w.heap.size → ¬ S k → w'.heap[k]? = w.heap[k]?
section
variable {S T : Nat → Prop} {a b c w w' : World}
theorem Only.refl (S : Nat → Prop) (w : World) : Only S w w := ⟨rfl, rfl, rfl, Nat.le_refl _, fun _ _ _ => rfl⟩
/-- what the second one may turn is of the first one's, or new. -/
theorem Only.trans (h : Only S a b) (k : Only T b c) (ht : ∀ i, i < a.heap.size → T i → S i) : Only S a c :=
  ⟨k.os.trans h.os, k.tape.trans h.tape, k.output.trans h.output, Nat.le_trans h.size k.size, fun i hi hn =>
    (k.block i (Nat.lt_of_lt_of_le hi h.size) fun e => hn (ht i hi e)).trans (h.block i hi hn)⟩
theorem Only.mono (h : Only S w w') (hs : ∀ i, i < w.heap.size → S i → T i) : Only T w w' :=
  ⟨h.os, h.tape, h.output, h.size, fun i hi hn => h.block i hi fun e => hn (hs i hi e)⟩
theorem Only.drew (h : Only S a w) (n : Nat) : Only S a (w.drewN n) := ⟨h.os, h.tape, h.output, h.size, h.block⟩
theorem Only.of_below {B : Nat} (h : Below B w w') (hs : ∀ i, i < w.heap.size → B ≤ i → S i) : Only S w w' :=
  ⟨h.os, h.tape, h.output, h.size, fun i hi hn => h.block i (by
    by_cases e : i < B
    · exact e
    · exact absurd (hs i hi (by omega)) hn)⟩
/-- a call that turns nothing that was there. -/
theorem Only.of_quiet (h : Below w.heap.size w w') : Only S w w' := Only.of_below h fun i hi he => by omega
theorem Only.below {B : Nat} (h : Only S w w') (hs : ∀ i, i < B → ¬ S i) (hB : B ≤ w.heap.size) : Below B w w' :=
  ⟨h.os, h.tape, h.output, h.size, fun i hi => h.block i (by omega) (hs i hi)⟩
theorem Only.then_quiet (h : Only S a w) (k : Below w.heap.size w w') : Only S a w' := h.trans (T := fun _ => False) (Only.of_quiet k) fun _ _ e => e.elim
theorem Only.alloc (h : Only S a w) (o : Obj) : Only S a (w.alloc o) := h.then_quiet ((Below.refl w.heap.size w).alloc (Nat.le_refl _) o)
theorem Only.setRow (h : Only S a w) {g : Nat} (hg : g < a.heap.size → S g) (cs : Array Value) : Only S a (w.setRow g cs) :=
  h.trans (T := fun k => k = g) ⟨rfl, rfl, rfl, by simp [World.setRow], fun k _ hn => setRow_other w g k cs hn⟩ (fun i hi e => by subst e; exact hg hi)
theorem Only.setCell (h : Only S a w) {p : Addr} (hg : p.block < a.heap.size → S p.block) (u : Value) : Only S a (w.setCell p u) :=
  h.trans (T := fun k => k = p.block) ⟨rfl, rfl, rfl, by simp [World.setCell], fun k _ hn => Below.heap_setCell _ _ _ _ hn⟩ (fun i hi e => by subst e; exact hg hi)
theorem Only.grown {row : Option Nat} (h : Only S a w) (hg : w.grownBy w' row) (hr : ∀ k, row = some k → k < a.heap.size → S k) : Only S a w' :=
  h.trans (T := fun k => row = some k) ⟨hg.os, hg.tape, hg.output, hg.size, fun k hk hn => hg.block k hk fun e => hn e.symm⟩ (fun i hi e => hr i e hi)
theorem Only.at_ (h : Only S w w') {g : Nat} {o : Obj} (hg : w.heap[g]? = some o) (hn : ¬ S g) : w'.heap[g]? = some o := (h.block g (lt_blk hg) hn).trans hg
theorem Only.cell (h : Only S w w') {p : Addr} {v : Value} (hp : w.cell? p = some v) (hn : ¬ S p.block) : w'.cell? p = some v := by
  have hlt := cell_lt' hp
  have := World.cell?_of_block (w := w) (w' := w') (a := p) (h.block _ hlt hn)
  rw [this]; exact hp
theorem Only.range (h : Only S w w') {g o : Nat} {cs : List Value} (hr : w.rangeAt g o cs) (hn : ¬ S g) : w'.rangeAt g o cs := fun j v hv => h.cell (hr j v hv) hn
/-- a row that was there stands, if its block is none of S. -/
theorem RowB.only {k : IntKind} {A : Option Addr} {n : Nat} {xs : List Int} (h : RowB k w A n xs) (ho : Only S w w') (hn : ∀ p, A = some p → ¬ S p.block) : RowB k w' A n xs :=
  ⟨h.len, h.le, h.wf, fun hp => by
    obtain ⟨b, off, e, h1⟩ := h.cells hp
    have hb : ¬ S b := hn _ e
    exact ⟨b, off, e, fun i hi => ho.cell (h1 i hi) hb⟩⟩
theorem RowS.only {α : Type} {F : α → List Value} {sz : Nat} {d : α} {A : Option Addr} {n : Nat} {l : List α} (h : RowS F sz d w A n l) (ho : Only S w w') (hn : ∀ p, A = some p → ¬ S p.block) : RowS F sz d w' A n l :=
  ⟨h.len, h.le, fun hp => by
    obtain ⟨b, off, e, h1⟩ := h.els hp
    have hb : ¬ S b := hn _ e
    exact ⟨b, off, e, fun i hi => ho.range (h1 i hi) hb⟩⟩
/-- a row of the call's own stands, if its block is none of S. -/
theorem owns_only {base : Nat} {e : TypeId} {size n : Nat} {v : Value} {xs : List Value} (h : w.ownsRow base e size v n xs) (ho : Only S w w') (hn : ∀ g, v.ownBlock = some g → ¬ S g) : w'.ownsRow base e size v n xs := by
  refine ⟨h.1, ?_⟩
  rcases h.2 with h0 | ⟨g, cap, cur, hv, hb, hg, rest⟩
  · exact .inl h0
  · refine .inr ⟨g, cap, cur, hv, hb, ho.at_ hg (hn g ?_), rest⟩
    rw [hv]; rfl
end
/-! ### objects side by side -/
/-- a footprint that is of the old one, or new. -/
def Fresh (w : World) (S S' : Nat → Prop) : Prop := ∀ k, S' k → S k ∨ w.heap.size ≤ k
/-- all of it is there. -/
def There (w : World) (S : Nat → Prop) : Prop := ∀ k, S k → k < w.heap.size
def Apart (S T : Nat → Prop) : Prop := ∀ k, S k → ¬ T k
theorem Apart.symm {S T : Nat → Prop} (h : Apart S T) : Apart T S := fun k ht hs => h k hs ht
theorem Apart.fresh {w : World} {S S' T : Nat → Prop} (h : Apart S T) (hf : Fresh w S S') (ht : There w T) : Apart S' T := fun k hs hk => by
  rcases hf k hs with h1 | h1
  · exact h k h1 hk
  · have := ht k hk; omega
theorem There.only {S T : Nat → Prop} {w w' : World} (h : There w T) (ho : Only S w w') : There w' T := fun k hk => Nat.lt_of_lt_of_le (h k hk) ho.size
theorem Fresh.refl (w : World) (S : Nat → Prop) : Fresh w S S := fun k h => .inl h
theorem Fresh.trans {S T U : Nat → Prop} {w w' : World} (h : Fresh w S T) (hs : w.heap.size ≤ w'.heap.size) (k : Fresh w' T U) : Fresh w S U := fun i hi => by
  rcases k i hi with h1 | h1
  · exact h i h1
  · exact .inr (by omega)
/-- two calls on one object, one behind the other. -/
theorem Only.fresh {S T : Nat → Prop} {a b c : World} (h : Only S a b) (hf : Fresh a S T) (k : Only T b c) : Only S a c :=
  h.trans k fun i hi ht => by
    rcases hf i ht with h1 | h1
    · exact h1
    · omega
end Go.Proofs.YtaiegmnjoffloaaDoor
