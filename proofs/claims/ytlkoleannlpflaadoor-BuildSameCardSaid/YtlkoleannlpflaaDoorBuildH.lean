/-
  FOR THE LAWS OF BUILD: an element of All's row; rows of one or two numbers; append of one number.
-/
import Derived.Test.YtlkoleannlpflaaDoorBuildG
import Derived.Test.YtlkoleannlpflaaDoorRateI
import Derived.Test.YtlkoleannlpflaaDoorRowN
namespace Go.Proofs.YtlkoleannlpflaaDoor
open Go.ChangeShapes Go.WideShapes Go.ChangeAt Go.RowKit Go.Deep
set_option linter.unusedVariables false
set_option linter.unusedSimpArgs false

theorem row_at {w : World} {b off n : Nat} {l : List Rt} (h : RowR w (some ⟨b, off, none⟩) n l) (i : Nat) (hi : i < n) : w.rangeAt b (off + i * 5) (l.getD i d0).cells := by
  obtain ⟨b', off', e, hc⟩ := h.el i hi
  cases e
  exact hc
theorem row_pair {w : World} {g : Nat} {x y : Int} {t : TypeId} {fr : Nat × Nat} (h : w.heap[g]? = some (.cells #[.int .i64 x, .int .i64 y] t fr)) (hx : IntKind.i64.min ≤ x ∧ x ≤ IntKind.i64.max) (hy : IntKind.i64.min ≤ y ∧ y ≤ IntKind.i64.max) : RowB .i64 w (some ⟨g, 0, none⟩) 2 [x, y] := by
  refine ⟨rfl, by unfold maxLen; omega, fun i hi => ?_, fun _ => ⟨g, 0, rfl, fun i hi => ?_⟩⟩
  · rcases (by omega : i = 0 ∨ i = 1) with rfl | rfl
    · exact hx
    · exact hy
  · rcases (by omega : i = 0 ∨ i = 1) with rfl | rfl <;> (simp only [World.cell?, h]; rfl)
theorem small {x : Int} (h0 : 0 ≤ x) (h1 : x ≤ 100000) : IntKind.i64.min ≤ x ∧ x ≤ IntKind.i64.max := by
  have a : IntKind.i64.min = -9223372036854775808 := by decide
  have b : IntKind.i64.max = 9223372036854775807 := by decide
  omega
theorem set_below {w we : World} {g : Nat} (h : Below w.heap.size w we) (hg : w.heap.size ≤ g) (cs : Array Value) : Below w.heap.size w (we.setRow g cs) :=
  h.trans ((only_setRow we g cs).below (fun i hi e => by subst e; omega) h.size)
theorem set_other {we : World} {g k : Nat} {o : Obj} (h : we.heap[k]? = some o) (hn : k ≠ g) (cs : Array Value) : (we.setRow g cs).heap[k]? = some o := (only_setRow we g cs).at_ h hn
/-- what goes alone. -/
theorem alone_fst {r : Rt} {m : Lm} {x : Int} {l : List Int} (hv : validR r = true) (hx : 1 ≤ x ∧ x ≤ 4095) (h : fitsB r m [x] = false) : chV r m (x :: l) = .tuple #[.int .i64 1, .bool false] := by
  refine chv_one (many_zero (by simpa using h)) ?_
  rw [alone_is (by simp) hv]
  show lenOk x = true
  rw [lenOk_iff]; exact hx
theorem alone_none {r : Rt} {m : Lm} : chV r m [0] = .tuple #[.int .i64 0, .bool false] := by
  refine chv_none (many_zero alone_zero) ?_
  cases hv : validR r
  · exact alone_no2 hv
  · rw [alone_is (by simp) hv]; rfl
theorem alone_rate {m : Lm} {l : List Int} : chV ⟨0, 0, 0, 0, 0⟩ m l = .tuple #[.int .i64 0, .bool false] := by
  have hv : validR ⟨0, 0, 0, 0, 0⟩ = false := by decide +kernel
  exact chv_none (many_zero (alone_bad hv)) (alone_no2 hv)
theorem size64 : (Tryd.prog.info? 2).map (·.size) = some 1 := by kernel_rfl
theorem wpList_app_n {ops : Array Oper} {rest : List Oper} {o : Oper} {a : Act} {w : World} {Q : Exit → Act → World → Prop} (hgd : o.guard = none) (s x : Operand)
    (ho : o.op = .call { callee := .builtin .append, args := #[s, x], argTypes := #[26, 26] })
    (lv : Value) (l : List Int) (hs : a.eval s = lv) (hP : RowN w lv l) (u : Int) (ad : Addr) (c : Nat) (hx : a.eval x = .slice (some ad) 1 c) (hc : ∀ j q, [Value.int .i64 u][j]? = some q → w.cell? (ad.add j) = some q)
    (hk : l.length ≤ 1000000)
    (h : ∀ v w', Shut (RowN w' v (l ++ [u])) → Shut (Only (fun j => lv.ownBlock = some j) w w') → Shut (∀ g, v.ownBlock = some g → lv.ownBlock = some g ∨ g = w.heap.size) → wpList Tryd.prog ops Q rest (a.put o.dst v) w') : wpList Tryd.prog ops Q (o :: rest) a w :=
  wpList_step fun _ hK => step_app_n hgd s x ho lv l hs hP u ad c hx hc hk fun v w' h1 h2 h3 => hK _ _ (h v w' ⟨h1⟩ ⟨h2⟩ ⟨h3⟩)
end Go.Proofs.YtlkoleannlpflaaDoor
