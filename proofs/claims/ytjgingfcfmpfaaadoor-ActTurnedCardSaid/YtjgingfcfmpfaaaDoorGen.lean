/-
  WHAT FRAMES OF EACH LAYER WANT: a struct's cells in later worlds, numbers of two bytes, an error against nil, lists of bytes.
-/
import Derived.Test.YtjgingfcfmpfaaaDoorRefN
import Derived.WideLaws
namespace Go.Proofs.YtjgingfcfmpfaaaDoor
open Go.ChangeShapes Go.WideShapes Go.ChangeAt Go.RowKit
set_option linter.unusedVariables false
set_option linter.unusedSimpArgs false

theorem ret_vv {a b : Value} (h : b = a) : Ending.returned a = .returned b := by rw [h]
theorem a_src {w' : World} {h : Nat} {cs : Array Value} (o : Nat) (l : List Int) (H : ∀ i, w'.cell? ⟨h, i, none⟩ = cs[i]?) (hl : ∀ j u, (l.map (Value.int .u8))[j]? = some u → cs[o + j]? = some u) :
    ∀ j u, (l.map (Value.int .u8))[j]? = some u → w'.cell? ((⟨h, o, none⟩ : Addr).add j) = some u := by
  intro j u hu
  rw [Addr.add_mid]
  exact (H _).trans (hl j u hu)
def codeB (ok : Bool) : Nat := if ok = true then 0 else 103
def outB (ok : Bool) (xs : List Int) : List Int := if ok = true then xs else []
theorem codeB_4 (ok : Bool) : codeB ok = 0 ∨ codeB ok ∈ S4 := by cases ok <;> first | exact .inl rfl | exact .inr (by decide)
theorem four14 : ∀ c ∈ S4, c ∈ S14 := by decide
theorem Sent.four {w : World} {E : Nat → Addr} (h : Sent w E S14) : Sent w E S4 := h.sub four14
/-- a boxed struct's cells, in every world in which what was there then stands. -/
theorem b_at {w w' : World} {cs : Array Value} {T : TypeId} {B : Nat} (hb : Below B (w.alloc (.cells cs T)) w') (hB : w.heap.size < B) (i : Nat) : w'.cell? ⟨w.heap.size, i, none⟩ = cs[i]? :=
  (hb.cell (p := ⟨w.heap.size, i, none⟩) hB).trans (World.cell?_alloc_mark w cs T (0, 0) i)
theorem quiet_left {P : Program} {f : FuncId} {args : Array Value} {w : World} {n : Nat} {v : Value}
    (h : Calls P f args (w.drewN n) fun e w' => e = .returned v ∧ ∃ m, w' = (w.drewN n).drewN m) : Calls P f args (w.drewN n) fun e w'' => e = .returned v ∧ ∃ m, w'' = w.drewN m :=
  h.mono fun _ _ ⟨he, m, hm⟩ => ⟨he, n + m, by rw [hm]; simp [World.drewN, Nat.add_assoc]⟩
/-- the number of two bytes, from o on. -/
def numAt (xs : List Int) (o : Nat) : Int := xs.getD o 0 + xs.getD (o + 1) 0 * 256
theorem numAt_wf {w : World} {A : Option Addr} {n : Nat} {xs : List Int} (h : RowB .u8 w A n xs) (o : Nat) (ho : o + 2 ≤ n) : 0 ≤ numAt xs o ∧ numAt xs o ≤ 65535 := by
  have h0 := h.wf8 o (by omega)
  have h1 := h.wf8 (o + 1) (by omega)
  unfold numAt
  omega
theorem drop_getD (xs : List Int) (m i : Nat) : (xs.drop m).getD i 0 = xs.getD (m + i) 0 := by simp [List.getD]
theorem RowB.at_ {k : IntKind} {w : World} {b off n : Nat} {xs : List Int} (h : RowB k w (some ⟨b, off, none⟩) n xs) (i : Nat) (hi : i < n) : w.cell? ⟨b, off + i, none⟩ = some (.int k (xs.getD i 0)) := by
  obtain ⟨b', off', e, hc⟩ := h.el i hi
  cases e
  exact hc
theorem or_map (k : Nat) (a b : Int) (a0 : 0 ≤ a) (ha : a < 2 ^ k) (b0 : 0 ≤ b) (hs : a + b * 2 ^ k < 18446744073709551616) : bits .or .u64 a (b * 2 ^ k) = a + b * 2 ^ k := by
  obtain ⟨A, rfl⟩ := Int.eq_ofNat_of_zero_le a0
  obtain ⟨B, rfl⟩ := Int.eq_ofNat_of_zero_le b0
  have ha' : A < 2 ^ k := by exact_mod_cast ha
  have hc0 : ((A + B * 2 ^ k : Nat) : Int) = (A : Int) + B * 2 ^ k := by simp
  have hs' : A + B * 2 ^ k < 18446744073709551616 := Int.ofNat_lt.1 (by rw [hc0]; exact hs)
  have hx : A ||| B * 2 ^ k = A + B * 2 ^ k := by
    have := Nat.shiftLeft_add_eq_or_of_lt ha' B
    rw [Nat.shiftLeft_eq] at this
    rw [Nat.or_comm, ← this]; omega
  have e : ∀ n : Nat, n < 18446744073709551616 → (BitVec.ofInt 64 (n : Int)).toNat = n := fun n hn => by
    rw [BitVec.toNat_ofInt, show ((2 ^ 64 : Nat) : Int) = 18446744073709551616 from rfl, Int.emod_eq_of_lt (by omega) (by omega)]
    exact Int.toNat_natCast n
  have hc : ((B : Int) * 2 ^ k) = ((B * 2 ^ k : Nat) : Int) := by simp
  rw [hc]
  show IntKind.u64.wrap ((BitVec.ofInt 64 (A : Int) ||| BitVec.ofInt 64 ((B * 2 ^ k : Nat) : Int)).toNat : Int) = _
  rw [BitVec.toNat_or, e A (by omega), e (B * 2 ^ k) (by omega), hx]
  have : IntKind.u64.wrap ((A + B * 2 ^ k : Nat) : Int) = ((A + B * 2 ^ k : Nat) : Int) := IntWalk.u64_in _ ⟨by omega, by omega⟩
  rw [this]; simp
theorem range6 {w : World} {g : Nat} {C : Array Value} {t : TypeId} {fr : Nat × Nat} (hg : w.heap[g]? = some (.cells C t fr)) (o : Nat) (a : A6) (h : ∀ j, j < 6 → C[o + j]? = a.cells[j]?) : w.rangeAt g o a.cells.toList := fun j v hv => by
  have hj : j < 6 := by have := (List.getElem?_eq_some_iff.1 hv).1; simpa using this
  rw [cell_of_row w g (o + j) _ _ _ hg, h j hj]
  simpa using hv
theorem all_wf {xs : List Int} {n : Nat} (hl : xs.length = n) (h : ∀ v ∈ xs, 0 ≤ v ∧ v ≤ 255) : ∀ i, i < n → 0 ≤ xs.getD i 0 ∧ xs.getD i 0 ≤ 255 := by
  intro i hi
  exact h _ (mem_getD (by omega))
theorem take_map (xs : List Int) (k : Nat) (h : k ≤ xs.length) : xs.take k = (List.range k).map fun i => xs.getD i 0 := by
  apply List.ext_getElem
  · simp; omega
  · intro i h1 h2
    simp at h1 h2
    simp [List.getD, show i < xs.length by omega]
theorem list_map (xs : List Int) (k : Nat) (h : xs.length = k) : xs = (List.range k).map fun i => xs.getD i 0 := by
  have := take_map xs k (by omega)
  rwa [List.take_of_length_le (by omega)] at this
theorem six_drop (xs : List Int) (o : Nat) : six (xs.drop o) 0 = six xs o := by unfold six; simp [List.getD]
theorem six_off (o : Nat) (b off n c : Nat) (xs : List Int) (w : World) (h : RowB .u8 w (some ⟨b, off, none⟩) n xs) (ho : o + 6 ≤ n) :
    Calls Tryd.prog 34 #[.slice (some ⟨b, off + o, none⟩) (n - o) (c - o)] w fun e w' => e = .returned (six xs o).val ∧ Below w.heap.size w w' := by
  have := six_any b (off + o) (n - o) (c - o) (xs.drop o) w (drop_row h o (by omega)) (by omega)
  rwa [six_drop] at this
theorem num_off (o : Nat) (b off n c : Nat) (xs : List Int) (w : World) (h : RowB .u8 w (some ⟨b, off, none⟩) n xs) (ho : o + 2 ≤ n) :
    Calls Tryd.prog 35 #[.slice (some ⟨b, off + o, none⟩) (n - o) (c - o)] w fun e w' => e = .returned (.int .i64 (numAt xs o)) ∧ Below w.heap.size w w' := by
  have := num_any b (off + o) (n - o) (c - o) (xs.drop o) w (drop_row h o (by omega)) (by omega)
  rw [drop_getD, drop_getD] at this
  refine this.mono ?_
  rintro e w' ⟨rfl, m, rfl⟩
  exact ⟨rfl, below_drewN (Below.refl _ _) _⟩
theorem six_wf {xs : List Int} {n : Nat} (o : Nat) (ho : o + 6 ≤ n) (h : ∀ i, i < n → 0 ≤ xs.getD i 0 ∧ xs.getD i 0 ≤ 255) : (six xs o).wf := by
  intro x hx
  simp only [six, A6.l, List.mem_cons, List.not_mem_nil, or_false] at hx
  rcases hx with rfl | rfl | rfl | rfl | rfl | rfl <;> exact h _ (by omega)
theorem errV_nil (E : Nat → Addr) (c : Nat) (w : World) : (binOp .eql 31 (errV E c) .nilIface).run Tryd.prog w = .ok (.bool (c == 0)) w := by
  by_cases h : c = 0
  · subst h
    rw [errV_zero]
    exact run_eql_nil_nil w 31 (by kernel_rfl)
  · rw [errV_pos E h, show (c == 0) = false by simpa using h]
    exact run_eql_held_nil w 31 _ _ (by kernel_rfl)
theorem errV_guard (E : Nat → Addr) (c : Nat) (x : Operand) : eqGuard .eql 31 x (.const .nilIface) (errV E c) .nilIface = pure () := by
  by_cases h : c = 0
  · subst h; rw [errV_zero]; exact eqGuard_nil_constR ..
  · rw [errV_pos E h]; exact eqGuard_at_iface ..
theorem errV_nnil (E : Nat → Addr) (c : Nat) (w : World) : (binOp .neq 31 (errV E c) .nilIface).run Tryd.prog w = .ok (.bool (c != 0)) w := by
  by_cases h : c = 0
  · subst h
    rw [errV_zero]
    exact run_neq_nil_nil w 31 (by kernel_rfl)
  · rw [errV_pos E h, show (c != 0) = true by simpa using h]
    exact run_neq_held_nil w 31 _ _ (by kernel_rfl)
theorem errV_nguard (E : Nat → Addr) (c : Nat) (x : Operand) : eqGuard .neq 31 x (.const .nilIface) (errV E c) .nilIface = pure () := by
  by_cases h : c = 0
  · subst h; rw [errV_zero]; exact eqGuard_nil_constR ..
  · rw [errV_pos E h]; exact eqGuard_at_iface ..
theorem is_err (E : Nat → Addr) (c : Nat) (d : Int) (w : World) (hS : Sent w E S14) (hc : c = 0 ∨ c ∈ S4) :
    Calls Tryd.prog 17 #[errV E c, .int .i64 d] w fun e w' => e = .returned (.bool ((c : Int) == d)) ∧ Below w.heap.size w w' :=
  is_any E c d w hS (hc.imp id (four14 c))
theorem sameB_refl (ys : List Int) : sameB ys ys = true := by simp [sameB]
theorem wf0 : (⟨0, 0, 0, 0, 0, 0⟩ : A6).wf := by intro x hx; simp [A6.l] at hx; subst hx; omega
theorem out_is {x m : Int} {r : Bool} (h : (decide (x < 0) || decide (m < x)) = r) (w : World) :
    Calls Tryd.prog 25 #[.int .i64 x, .int .i64 m] w fun e w' => e = .returned (.bool r) ∧ w = w' := by
  rw [← h]; exact out_any x m w
end Go.Proofs.YtjgingfcfmpfaaaDoor
