/-
  ROWS OF NUMBERS that begin anywhere, append to them; stores of one field into a block known whole. No program is named.
-/
import Derived.Test.YtaiegmnjoffloaaDoorTailR
import Derived.Test.YtaiegmnjoffloaaDoorHeldD
import Derived.Test.YtaiegmnjoffloaaDoorPlainB
namespace Go.Proofs.YtaiegmnjoffloaaDoor
open Go.ChangeShapes Go.WideShapes Go.ChangeAt Go.RowKit Go.Deep
set_option linter.unusedVariables false
set_option linter.unusedSimpArgs false

/-- for regions whose operation d has come up. -/
theorem only_setRow (w : World) (g : Nat) (cs : Array Value) : Only (· = g) w (w.setRow g cs) := (Only.refl (· = g) w).setRow (g := g) (fun _ => rfl) cs
theorem past {b : Bool} {p : Prop} (h : b = true) : b = false → p := fun h2 => by rw [h] at h2; cases h2
theorem owns_form {w : World} {B n size : Nat} {e : TypeId} {v : Value} {xs : List Value} (h : w.ownsRow B e size v n xs) : ∃ A c, v = .slice A n c ∧ n ≤ c := by
  rcases h.2 with ⟨rfl, rfl⟩ | ⟨g, cap, cur, rfl, -, -, hc, -⟩
  · exact ⟨none, 0, rfl, Nat.le_refl _⟩
  · exact ⟨_, _, rfl, hc⟩
theorem info_parts' {i : Option TypeInfo} {z : Option Value} {s b : Nat} (h : i.map (fun i => (i.zero, i.size, i.bytes)) = some (z, s, b)) : ∃ i0, i = some i0 ∧ i0.zero = z ∧ i0.size = s ∧ i0.bytes = b := by
  cases i with
  | none => simp at h
  | some i => simp at h; exact ⟨i, rfl, h.1, h.2.1, h.2.2⟩
theorem int_info : (Tryd.prog.info? 3).map (fun i => (i.zero, i.size, i.bytes)) = some (some (.int .i64 0), 1, 8) := by kernel_rfl
theorem size1N : (Tryd.prog.info? 62).map (·.size) = some 1 := by kernel_rfl
theorem size1i : (Tryd.prog.info? 3).map (·.size) = some 1 := by kernel_rfl
def RowN (w : World) (v : Value) (l : List Int) : Prop := RowAt w 3 1 v l.length (l.map (Value.int .i64))
section
variable {w w' : World} {v : Value} {l : List Int} {S : Nat → Prop}
theorem RowN.nil (w : World) : RowN w (.slice none 0 0) [] := RowAt.nil _ _ _
theorem RowN.only (h : RowN w v l) (ho : Only S w w') (hn : ∀ g, v.ownBlock = some g → ¬ S g) : RowN w' v l := RowAt.only h ho hn
theorem RowN.lt (h : RowN w v l) : ∀ g, v.ownBlock = some g → g < w.heap.size := RowAt.lt h
theorem RowN.form (h : RowN w v l) : ∃ A cap, v = .slice A l.length cap ∧ l.length ≤ cap ∧ (A = none → cap = 0) := by
  obtain ⟨A, cap, rfl, hc, hn⟩ := RowAt.form h
  exact ⟨A, cap, rfl, hc, fun e => (hn e).2⟩
theorem RowN.one (h : RowN w v l) : v.oneCell' = true := by obtain ⟨A, c, rfl, -⟩ := h.form; rfl
/-- as a row of numbers. -/
theorem RowN.row {A : Option Addr} {c : Nat} (h : RowN w (.slice A l.length c) l) (hl : l.length ≤ maxLen) (hw : ∀ x ∈ l, -9223372036854775808 ≤ x ∧ x ≤ 9223372036854775807) : RowB .i64 w A l.length l := by
  refine ⟨rfl, hl, fun i hi => ?_, fun hp => ?_⟩
  · have hm : l.getD i 0 ∈ l := mem_getD hi
    have := hw _ hm
    have a : IntKind.i64.min = -9223372036854775808 := by decide
    have b : IntKind.i64.max = 9223372036854775807 := by decide
    rw [a, b]; exact this
  · obtain ⟨g, o, cap, e1, hr, -, -⟩ := RowAt.cells h hp
    cases e1
    refine ⟨g, o, rfl, fun i hi => hr i _ ?_⟩
    simp [List.getD, hi]
end
theorem step_app_n {ops : Array Oper} {o : Oper} {a : Act} {w : World} {K : Act → World → Prop} {Q : Exit → Act → World → Prop} {E : Prop} (hgd : o.guard = none) (s x : Operand)
    (ho : o.op = .call { callee := .builtin .append, args := #[s, x], argTypes := #[62, 62] })
    (lv : Value) (l : List Int) (hs : a.eval s = lv) (hP : RowN w lv l) (u : Int) (ad : Addr) (c : Nat) (hx : a.eval x = .slice (some ad) 1 c) (hc : ∀ j q, [Value.int .i64 u][j]? = some q → w.cell? (ad.add j) = some q)
    (hk : l.length ≤ 1000000)
    (h : ∀ v w', RowN w' v (l ++ [u]) → Only (fun j => lv.ownBlock = some j) w w' → (∀ g, v.ownBlock = some g → lv.ownBlock = some g ∨ g = w.heap.size) → K (a.put o.dst v) w') :
    if Region.wanted o (yielded ops a.tmps) = true then Oper.wp Tryd.prog o a w K Q else E := by
  obtain ⟨i0, hi0, hz0, hz1, hz2⟩ := info_parts' int_info
  refine step_append_at hgd s x 62 ho 3 i0 (.int .i64 0) 1 8 Tryd.underlying62 hi0 hz0 hz1 hz2 rfl lv l.length _ hs hP ad 1 c [Value.int .i64 u] hx rfl hc (by intro q hq; rw [List.mem_singleton.1 hq]; rfl) (by omega) (by unfold maxLen; omega) (by omega) ?_
  intro g of cap w' h4 h5 h6
  refine h _ w' ?_ ((Only.refl _ w).grown h5 fun k hk _ => hk) fun g' hg' => ?_
  · unfold RowN
    rw [List.map_append, List.length_append]
    exact h4
  · have e1 : g' = g := by simpa [Value.ownBlock] using hg'.symm
    rw [e1]; exact h6

theorem step_store_into {P : Program} {ops : Array Oper} {o : Oper} {a : Act} {w : World} {K : Act → World → Prop} {Q : Exit → Act → World → Prop} {E : Prop} (hgd : Region.wanted o (yielded ops a.tmps) = true) (ty : TypeId) (x y : Operand) (ho : o.op = .store ty x y)
    (g i : Nat) (v : Value) (hx : a.eval x = .pointer (some ⟨g, i, none⟩)) (hy : a.eval y = v) (h1 : v.oneCell' = true)
    (t : TypeId) (cur new : Array Value) (hg : w.heap[g]? = some (.cells cur t (0, 0))) (hi : (P.info? ty).map (·.size) = some 1) (hlt : i < cur.size) (hnew : cur.setIfInBounds i v = new)
    (h : K (a.put o.dst undef) (w.setRow g new)) : if Region.wanted o (yielded ops a.tmps) = true then Oper.wp P o a w K Q else E := by
  rw [if_pos hgd]
  unfold Oper.wp execOp
  simp only [ho, hx, hy, Sem.run_bind, Sem.run_pure, Result.andThen_ok, run_storeAt_into w g i t ty cur new v hg hi hlt h1 hnew]
  exact h
end Go.Proofs.YtaiegmnjoffloaaDoor
