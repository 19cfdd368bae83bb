/-
  CONTRACT of muezzinref.SameBytes; a row of bytes of the call's own.
-/
import Derived.Test.YtaiegmnjoffloaaDoorPlain
import Derived.WalkKit
import Derived.ProofKit
import Derived.BigQuiet
import Derived.Deep.QuietTactic
import Derived.Deep.AppendLies
import Derived.Laws.OwnMore
import Derived.Maps.AppendAt
import Derived.Outline
import Derived.Lib.Hide
namespace Go.Proofs.YtaiegmnjoffloaaDoor
open Go.ChangeShapes Go.WideShapes Go.ChangeAt Go.RowKit
set_option linter.unusedVariables false

/-! ### a row of the call's own -/
/-- block g holds the row '.slice g n cap' of the numbers xs; it lies from base on. -/
def OwnB (w : World) (base : Nat) (T : TypeId) (k : IntKind) (g n cap : Nat) (xs : List Int) : Prop := w.ownsRow base T 1 (.slice (some ⟨g, 0, none⟩) n cap) n (xs.map (Value.int k))
section
variable {w w' : World} {base : Nat} {T : TypeId} {k : IntKind} {g n cap : Nat} {xs : List Int}
theorem OwnB.len (h : OwnB w base T k g n cap xs) : xs.length = n := by have := h.1; simpa using this
theorem OwnB.lt (h : OwnB w base T k g n cap xs) : base ≤ g ∧ g < w.heap.size := World.ownsRow.lt h g rfl
theorem OwnB.le (h : OwnB w base T k g n cap xs) : n ≤ maxLen := by
  rcases h.2 with ⟨h', _⟩ | ⟨g', cap', cur, h', _, _, h1, h2, _⟩
  · simp at h'
  · exact Nat.le_trans h1 h2
theorem OwnB.cell (h : OwnB w base T k g n cap xs) (j : Nat) (hj : j < n) : w.cell? ⟨g, j, none⟩ = some (.int k (xs.getD j 0)) := by
  rw [World.ownsRow.cellAt h j (by omega)]
  have := h.len
  simp [List.getD, show j < xs.length by omega]
theorem OwnB.frozen (h : OwnB w base T k g n cap xs) (j : Nat) : w.frozen? ⟨g, j, none⟩ = false := World.ownsRow.frozenAt h j
theorem OwnB.row (h : OwnB w base T k g n cap xs) (hw : ∀ i, i < n → k.min ≤ xs.getD i 0 ∧ xs.getD i 0 ≤ k.max) : RowB k w (some ⟨g, 0, none⟩) n xs :=
  ⟨h.len, h.le, hw, fun hp => ⟨g, 0, rfl, fun i hi => by rw [Nat.zero_add]; exact h.cell i hi⟩⟩
theorem OwnB.set (h : OwnB w base T k g n cap xs) (j : Nat) (v : Int) : OwnB (w.setCell ⟨g, j, none⟩ (.int k v)) base T k g n cap (xs.set j v) := by
  have := (World.ownsRow.stored h j (.int k v)).1
  unfold OwnB
  rw [List.map_set]
  exact this
theorem OwnB.drewN (h : OwnB w base T k g n cap xs) (m : Nat) : OwnB (w.drewN m) base T k g n cap xs := h
theorem OwnB.below {B : Nat} (h : OwnB w base T k g n cap xs) (hb : Below B w w') (hg : g < B) : OwnB w' base T k g n cap xs := by
  refine ⟨h.1, ?_⟩
  rcases h.2 with hn | ⟨g', cap', cur, e, hb', hg', rest⟩
  · exact .inl hn
  · refine .inr ⟨g', cap', cur, e, hb', ?_, rest⟩
    injection e with e
    injection e with e
    injection e with e
    subst e
    rw [hb.block _ hg]; exact hg'
end
theorem byte_info : (Tryd.prog.info? 5).map (fun i => (i.zero, i.size, i.bytes)) = some (some (.int .u8 0), 1, 1) := by kernel_rfl

/-- append onto a row of the call's own, under a guard that says yes. -/
theorem wpList_append_if {P : Program} {w : World} {ops : Array Oper} {rest : List Oper} {o : Oper} {a : Act} {Q : Exit → Act → World → Prop} (hgd : Region.wanted o (yielded ops a.tmps) = true) (s x : Operand) (t : TypeId)
    (ho : o.op = .call { callee := .builtin .append, args := #[s, x], argTypes := #[t, t] })
    (base : Nat) (e : TypeId) (i : TypeInfo) (z : Value) (size bytes : Nat) (ht : P.underlying t = some (.slice e)) (hi : P.info? e = some i) (hz : i.zero = some z)
    (hsize : i.size = size) (hby : i.bytes = bytes) (hzs : z.cells.size = size) (hsz : 0 < size)
    (v : Value) (n : Nat) (xs : List Value) (hs : a.eval s = v) (hown : w.ownsRow base e size v n xs)
    (ad : Addr) (m c : Nat) (news : List Value) (hx : a.eval x = .slice (some ad) m c) (hl : news.length = m * size) (hnews : ∀ j u, news[j]? = some u → w.cell? (ad.add j) = some u) (h1 : ∀ u ∈ news, u.oneCell' = true)
    (h63 : n + m ≤ maxLen) (hbytes : (n + m) * bytes ≤ 140737488355328) (hbase : base ≤ w.heap.size)
    (h : ∀ v' w', w'.ownsRow base e size v' (n + m) (xs ++ news) → w.grownBy w' v.ownBlock → (v' = .slice none 0 0 ↔ v = .slice none 0 0 ∧ m = 0) → wpList P ops Q rest (a.put o.dst v') w') : wpList P ops Q (o :: rest) a w :=
  wpList_step fun _ hK => by
    rw [if_pos hgd]
    exact wp_append_own w s x t ho base e i z size bytes ht hi hz hsize hby hzs hsz v n xs hs hown ad m c news hx hl hnews h1 h63 hbytes hbase fun v' w' h2 h3 h4 => hK _ _ (h v' w' h2 h3 h4)

/-! ### SameBytes -/
def sameB (a b : List Int) : Bool := decide (a = b)
theorem same_step {a b : List Int} {k : Nat} (h : a.take k = b.take k) (ha : k < a.length) (hb : k < b.length) (e : a.getD k 0 = b.getD k 0) : a.take (k + 1) = b.take (k + 1) := by
  rw [List.take_succ_eq_append_getElem ha, List.take_succ_eq_append_getElem hb, h]
  simp [List.getD, ha, hb] at e
  rw [e]
theorem same_not {a b : List Int} {k : Nat} (e : a.getD k 0 ≠ b.getD k 0) : sameB a b = false := by
  unfold sameB; simp; rintro rfl; exact e rfl
theorem same_all {a b : List Int} {k : Nat} (h : a.take k = b.take k) (ha : a.length ≤ k) (hb : b.length ≤ k) : sameB a b = true := by
  rw [List.take_of_length_le ha, List.take_of_length_le hb] at h
  unfold sameB; simp [h]
theorem sameB_len {a b : List Int} (h : a.length ≠ b.length) : sameB a b = false := by
  unfold sameB; simp; rintro rfl; exact h rfl
theorem RowB.took {k w a n zs} (h : RowB k w a n zs) (hp : 0 < n) : ∃ b off, a = some ⟨b, off, none⟩ ∧ ∀ i, i < n → w.cell? ⟨b, off + i, none⟩ = some (.int k (zs.getD i 0)) := h.cells hp

theorem take_snoc {xs : List Int} {k : Nat} (h : k < xs.length) : xs.take (k + 1) = xs.take k ++ [xs.getD k 0] := by
  rw [List.take_succ_eq_append_getElem h]; simp [List.getD, h]

end Go.Proofs.YtaiegmnjoffloaaDoor
