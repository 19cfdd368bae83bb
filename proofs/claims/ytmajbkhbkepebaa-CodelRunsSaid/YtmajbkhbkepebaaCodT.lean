/-
  Rows of items of a call's own: append of one, of a whole row, of none.
-/
import Derived.Test.YtmajbkhbkepebaaCodH
import Derived.Test.YtmajbkhbkepebaaOpenCd
import Derived.Deep.AppendLies
import Derived.Laws.OwnMore
import Derived.Laws.AppendOwnNone
import Derived.LoopTactic
namespace Go.Proofs.Ytmajbkhbkepebaa
open Go.ChangeShapes Go.WideShapes Go.ChangeAt Go.RowKit Go.Deep
set_option linter.unusedVariables false
set_option linter.unusedSimpArgs false

theorem item_info : (Try.prog.info? 38).map (fun i => (i.zero, i.size, i.bytes)) = some (some (.agg #[.int .i64 0, .int .i64 0]), 2, 16) := by kernel_rfl
theorem info_parts' {i : Option TypeInfo} {z : Option Value} {s b : Nat} (h : i.map (fun i => (i.zero, i.size, i.bytes)) = some (z, s, b)) : ∃ i0, i = some i0 ∧ i0.zero = z ∧ i0.size = s ∧ i0.bytes = b := by
  cases i with
  | none => simp at h
  | some i => simp at h; exact ⟨i, rfl, h.1, h.2.1, h.2.2⟩
theorem itC_one (u : It) : ∀ v ∈ itC u, v.oneCell' = true := by
  intro v hv
  simp only [itC, List.mem_cons, List.not_mem_nil, or_false] at hv
  rcases hv with rfl | rfl <;> rfl
def OwnI (w : World) (B : Nat) (v : Value) (n : Nat) (l : List It) : Prop := OwnS itC 2 w B 38 v n l
theorem OwnI.below' {w w' : World} {B : Nat} {v : Value} {n : Nat} {l : List It} (h : OwnI w B v n l) (hb : Below w.heap.size w w') : OwnI w' B v n l := OwnS.below h hb
theorem OwnI.row' {w : World} {B : Nat} {v : Value} {n : Nat} {l : List It} (h : OwnI w B v n l) (hn : n ≤ maxLen) : ∃ A c, v = .slice A n c ∧ RowS itC 2 it00 w A n l ∧ n ≤ c := OwnS.row (d := it00) h (fun _ => rfl) hn
theorem flat_len (l : List It) : (l.flatMap itC).length = l.length * 2 := by
  induction l with
  | nil => rfl
  | cons x r ih => rw [List.flatMap_cons, List.length_append, ih, List.length_cons]; show 2 + _ = _; omega
theorem OwnI.empty (w : World) (B : Nat) (hB : B ≤ w.heap.size) : OwnI (w.alloc (.cells #[] 38)) B (.slice (some ⟨w.heap.size, 0, none⟩) 0 0) 0 [] :=
  ⟨World.ownsRow_lit w #[] 0 hB (Nat.zero_le _) rfl, rfl⟩
theorem app_i {ops : Array Oper} {rest : List Oper} {o : Oper} {a : Act} {w : World} {Q : Exit → Act → World → Prop} (hgd : o.guard = none) (s x : Operand)
    (ho : o.op = .call { callee := .builtin .append, args := #[s, x], argTypes := #[25, 25] })
    (B k : Nat) (lv : Value) (l : List It) (hs : a.eval s = lv) (hP : OwnI w B lv k l) (u : It) (ad : Addr) (c : Nat) (hx : a.eval x = .slice (some ad) 1 c) (hc : ∀ j v, (itC u)[j]? = some v → w.cell? (ad.add j) = some v)
    (hk : k ≤ 100000) (hB : B ≤ w.heap.size)
    (h : ∀ v w', Shut (OwnI w' B v (k + 1) (l ++ [u])) → Shut (Below B w w') → Shut (∀ g o, w.heap[g]? = some o → lv.ownBlock ≠ some g → w'.heap[g]? = some o) → wpList Try.prog ops Q rest (a.put o.dst v) w') : wpList Try.prog ops Q (o :: rest) a w := by
  obtain ⟨i0, hi0, hz0, hz1, hz2⟩ := info_parts' item_info
  refine wpList_append_lies w hgd s x 25 ho B 38 i0 _ 2 16 Try.underlying25 hi0 hz0 hz1 hz2 rfl (by omega) lv k _ hs hP.1 ad 1 c (itC u) hx rfl hc (itC_one u) (by omega) (by unfold maxLen; omega) (by omega) hB w.heap.size rfl ?_
  intro g cap w' hown hgrow hor hlt
  refine h _ w' ⟨⟨?_, by simp [hP.2]⟩⟩ ⟨(Below.refl B w).grown hgrow hB (by intro q hq; exact (World.ownsRow.lt hP.1 q hq).1)⟩ ⟨fun g1 o1 h1 h2 => (hgrow.block g1 (lt_blk h1) (fun e => h2 e.symm)).trans h1⟩
  rw [List.flatMap_append]
  simpa using hown
theorem OwnI.apart {w : World} {B : Nat} {v : Value} {n g : Nat} {l : List It} (h : OwnI w B v n l) (hg : w.heap.size ≤ g) : v.ownBlock ≠ some g := fun e => by
  have := (World.ownsRow.lt h.1 g e).2
  omega
/-- a whole row onto a row of the call's own. -/
theorem app_rows {ops : Array Oper} {rest : List Oper} {o : Oper} {a : Act} {w : World} {Q : Exit → Act → World → Prop} (hgd : o.guard = none) (s x : Operand)
    (ho : o.op = .call { callee := .builtin .append, args := #[s, x], argTypes := #[25, 25] })
    (B : Nat) (lv : Value) (hs : a.eval s = lv) (hP : OwnI w B lv 0 []) (hlv : ∃ g, lv = .slice (some ⟨g, 0, none⟩) 0 0) (A : Option Addr) (m c : Nat) (l : List It) (hx : a.eval x = .slice A m c) (hR : RowS itC 2 it00 w A m l) (hA : A = none → c = 0)
    (hk : m ≤ 100000) (hB : B ≤ w.heap.size)
    (h : ∀ v w', Shut (OwnI w' B v m l) → Shut (Below B w w') → wpList Try.prog ops Q rest (a.put o.dst v) w') : wpList Try.prog ops Q (o :: rest) a w := by
  obtain ⟨i0, hi0, hz0, hz1, hz2⟩ := info_parts' item_info
  rcases Nat.eq_zero_or_pos m with h0 | h0
  · subst h0
    obtain rfl : l = [] := List.eq_nil_of_length_eq_zero hR.len
    refine wpList_plain hgd fun K hK => ?_
    have hrun : (Builtin.append_ #[25, 25] o.type #[lv, .slice A 0 c]).run Try.prog w = .ok lv w := by
      obtain ⟨g, rfl⟩ := hlv
      have hu := Try.underlying25
      cases A with
      | none =>
        rw [hA rfl]
        exact run_append_owned_none w B 25 o.type 38 i0 2 hu hi0 _ 0 _ hP.1
      | some ad => simp [Builtin.append_, run_underlying hu, sizeOf, typeInfo, hi0, Builtin.lenOf, Builtin.firstCells, storeCells, loadCells, loadCellsFrom]
    unfold Oper.wp
    simp [execOp, ho, resolve, invoke, builtin, hs, hx, hrun, Result.andThen]
    exact hK _ _ (h lv w ⟨hP⟩ ⟨Below.refl _ _⟩)
  · obtain ⟨b, off, rfl, he⟩ := hR.els h0
    refine wpList_append_lies w hgd s x 25 ho B 38 i0 _ 2 16 Try.underlying25 hi0 hz0 hz1 hz2 rfl (by omega) lv 0 _ hs hP.1 ⟨b, off, none⟩ m c (l.flatMap itC) hx (by rw [flat_len, hR.len]) (fun j v hv => ?_) (fun v hv => by
      obtain ⟨u, -, hu⟩ := List.mem_flatMap.1 hv
      exact itC_one u v hu) h0 (by unfold maxLen; omega) (by omega) hB w.heap.size rfl ?_
    · have hj : j < m * 2 := by
        have h1 := (List.getElem?_eq_some_iff.1 hv).1
        rw [flat_len, hR.len] at h1
        exact h1
      have e : j = j / 2 * 2 + j % 2 := by omega
      rw [e, flat_at (F := itC) (sz := 2) (d := it00) (fun _ => rfl) l (j / 2) (j % 2) (by rw [hR.len]; omega) (by omega)] at hv
      have := he (j / 2) (by omega) (j % 2) v hv
      rw [e, Addr.add_mid]
      simpa [Nat.add_assoc] using this
    · intro g cap w' hown hgrow hor hlt
      refine h _ w' ⟨?_⟩ ⟨(Below.refl B w).grown hgrow hB (by intro q hq; exact (World.ownsRow.lt hP.1 q hq).1)⟩
      have hz : (0 : Nat) + m = m := Nat.zero_add m
      rw [hz] at hown ⊢
      rw [List.flatMap_nil, List.nil_append] at hown
      exact ⟨hown, hR.len⟩
/-- an item of a calm queue. -/
def CalmX (sh : Bool) (now tgt : Int) (x : It) : Prop := 0 ≤ x.at_ ∧ x.at_ ≤ 1125899906842624 ∧ 0 ≤ x.len ∧ x.len ≤ 3000 ∧ (sh = false → now - x.at_ < tgt) ∧ (sh = true → x.len = 30)
/-! ### sums -/
def sumL (l : List It) : Int := (l.map (·.len)).sum
theorem sumL_nil : sumL [] = 0 := rfl
theorem sumL_cons (x : It) (l : List It) : sumL (x :: l) = x.len + sumL l := rfl
theorem sumL_snoc (x : It) (l : List It) : sumL (l ++ [x]) = sumL l + x.len := by unfold sumL; simp
theorem sumL_drop {l : List It} {k : Nat} (h : k < l.length) : sumL (l.drop k) = (l.getD k it00).len + sumL (l.drop (k + 1)) := by
  rw [List.drop_eq_getElem_cons h, sumL_cons, List.getD_eq_getElem?_getD, List.getElem?_eq_getElem h]
  rfl
theorem sumL_in {l : List It} {m : Int} (h : ∀ x ∈ l, 0 ≤ x.len ∧ x.len ≤ m) : 0 ≤ sumL l ∧ sumL l ≤ m * l.length := by
  induction l with
  | nil => exact ⟨Int.le_refl _, by simp [sumL]⟩
  | cons x r ih =>
    obtain ⟨a, b⟩ := ih (fun y hy => h y (List.mem_cons_of_mem _ hy))
    obtain ⟨c, d⟩ := h x (List.mem_cons_self ..)
    rw [sumL_cons, List.length_cons]
    push_cast
    rw [Int.mul_add, Int.mul_one]
    omega
theorem sumL_30 {l : List It} (h : ∀ x ∈ l, x.len = 30) : sumL l = 30 * l.length := by
  induction l with
  | nil => rfl
  | cons x r ih =>
    rw [sumL_cons, ih (fun y hy => h y (List.mem_cons_of_mem _ hy)), h x (List.mem_cons_self ..), List.length_cons]
    push_cast
    omega
/-- in a calm queue the next one is soon. -/
theorem calm_soon {sh : Bool} {now tgt i : Int} {x : It} {r : List It} (h : ∀ y ∈ x :: r, CalmX sh now tgt y) (hr : (x :: r).length ≤ 40) : soonB ⟨now, tgt, i⟩ (sumL (x :: r)) x = true := by
  unfold soonB
  dsimp only
  have hx := h x (List.mem_cons_self ..)
  cases sh
  · have := hx.2.2.2.2.1 rfl
    rw [decide_eq_true this]; rfl
  · have e := sumL_30 (fun y hy => (h y hy).2.2.2.2.2 rfl)
    have ex := hx.2.2.2.2.2 rfl
    have hl : ((x :: r).length : Int) ≤ 40 := by exact_mod_cast hr
    rw [e, ex, decide_eq_true (p := _ ≤ (1514 : Int)) (by omega), Bool.or_true]
theorem calm_pull {sh : Bool} {now tgt i : Int} {l : List It} {k : Nat} (h : ∀ y ∈ l, CalmX sh now tgt y) (hr : l.length ≤ 40) (hk : k < l.length) : pullR ⟨now, tgt, i⟩ ⟨0, 0, 0, 0, false⟩ (sumL (l.drop k)) (l.drop k) = (⟨0, 0, 0, 0, false⟩, 0, true) := by
  have hd : l.drop k = l.getD k it00 :: l.drop (k + 1) := by
    rw [List.drop_eq_getElem_cons hk, List.getD_eq_getElem?_getD, List.getElem?_eq_getElem hk]; rfl
  rw [hd]
  refine pull_calm (c := ⟨0, 0, 0, 0, false⟩) rfl (calm_soon (sh := sh) (fun y hy => h y ?_) ?_)
  · rw [← hd] at hy; exact List.drop_subset k l hy
  · rw [← hd, List.length_drop]; omega
theorem row_rest {l : List It} {w : World} {b off n : Nat} (h : RowS itC 2 it00 w (some ⟨b, off, none⟩) n l) (k : Nat) (hk : k ≤ n) : RowS itC 2 it00 w (some ⟨b, off + k * 2, none⟩) (n - k) (l.drop k) := by
  have hl := h.len
  have hle := h.le
  refine ⟨by rw [List.length_drop]; omega, by omega, fun hp => ?_⟩
  obtain ⟨b', off', e, h1⟩ := h.els (by omega)
  cases e
  refine ⟨b, off + k * 2, rfl, fun i hi => ?_⟩
  have hg : (l.drop k).getD i it00 = l.getD (k + i) it00 := by simp [List.getD, List.getElem?_drop]
  rw [hg, Nat.add_assoc, ← Nat.add_mul]
  exact h1 (k + i) (by omega)
end Go.Proofs.Ytmajbkhbkepebaa
