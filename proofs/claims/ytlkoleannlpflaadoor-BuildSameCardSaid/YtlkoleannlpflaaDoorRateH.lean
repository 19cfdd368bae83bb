/-
  CONTRACT of package rate's All.
-/
import Derived.Test.YtlkoleannlpflaaDoorRateC
namespace Go.Proofs.YtlkoleannlpflaaDoor
open Go.ChangeShapes Go.WideShapes Go.ChangeAt Go.RowKit
set_option linter.unusedVariables false
set_option linter.unusedSimpArgs false


instance decRt : DecidableEq Rt := fun a b => if h : sameR a b = true then isTrue (sameR_eq h) else isFalse (fun e => h (e ▸ sameR_refl a))
theorem rate_info : (Tryd.prog.info? 23).map (fun i => (i.zero, i.size, i.bytes)) = some (some (.agg #[.int .i64 0, .int .i64 0, .int .i64 0, .int .i64 0, .int .i64 0]), 5, 40) := by kernel_rfl
theorem Rt.one (u : Rt) : ∀ v ∈ u.cells, v.oneCell' = true := by
  intro v hv
  simp only [Rt.cells, List.mem_cons, List.not_mem_nil, or_false] at hv
  rcases hv with rfl | rfl | rfl | rfl | rfl <;> rfl
def d0 : Rt := ⟨0, 0, 0, 0, 0⟩
abbrev OwnR (w : World) (B : Nat) (v : Value) (n : Nat) (l : List Rt) : Prop := OwnS Rt.cells 5 w B 23 v n l
abbrev RowR (w : World) (A : Option Addr) (n : Nat) (l : List Rt) : Prop := RowS Rt.cells 5 d0 w A n l
/-- one more rate. -/
theorem app_r {ops : Array Oper} {rest : List Oper} {o : Oper} {a : Act} {w : World} {Q : Exit → Act → World → Prop} (hgd : o.guard = none) (s x : Operand)
    (ho : o.op = .call { callee := .builtin .append, args := #[s, x], argTypes := #[38, 38] })
    (B k : Nat) (lv : Value) (l : List Rt) (hs : a.eval s = lv) (hP : OwnR w B lv k l) (u : Rt) (ad : Addr) (c : Nat) (hx : a.eval x = .slice (some ad) 1 c) (hc : ∀ j v, u.cells[j]? = some v → w.cell? (ad.add j) = some v)
    (hk : k ≤ 100000) (hB : B ≤ w.heap.size)
    (h : ∀ g' cap' w', Hid (OwnR w' B (.slice (some ⟨g', 0, none⟩) (k + 1) cap') (k + 1) (l ++ [u])) → Hid (Below B w w') → wpList Tryd.prog ops Q rest (a.put o.dst (.slice (some ⟨g', 0, none⟩) (k + 1) cap')) w') : wpList Tryd.prog ops Q (o :: rest) a w := by
  obtain ⟨i0, hi0, hz0, hz1, hz2⟩ := info_parts rate_info
  exact app_s hgd s x 38 ho 23 i0 _ 40 Tryd.underlying38 hi0 hz0 hz1 hz2 rfl (by omega) B k lv l hs hP u ad c hx rfl hc u.one (by omega) (by omega) hB h

/-! ### the lists of package rate, loop by loop -/
def rk (m : Int) (a b c d : Nat) : Rt := ⟨m, a, (b : Int) + 1, widthI c, d⟩
def L3 (m : Int) (a b c k : Nat) : List Rt := (List.range k).map fun d => rk m a b c d
def L2 (m : Int) (q3 a b k : Nat) : List Rt := (List.range k).flatMap fun c => L3 m a b c q3
def L1 (m : Int) (q2 q3 a k : Nat) : List Rt := (List.range k).flatMap fun b => L2 m q3 a b q2
def M1 (m : Int) (q1 q2 q3 k : Nat) : List Rt := (List.range k).flatMap fun a => L1 m q2 q3 a q1
def M2 (m : Int) (q1 q2 q3 a b : Nat) : List Rt := M1 m q1 q2 q3 a ++ L1 m q2 q3 a b
def M3 (m : Int) (q1 q2 q3 a b c : Nat) : List Rt := M2 m q1 q2 q3 a b ++ L2 m q3 a b c
def M4 (m : Int) (q1 q2 q3 a b c d : Nat) : List Rt := M3 m q1 q2 q3 a b c ++ L3 m a b c d
section
variable (m : Int) (q1 q2 q3 a b c d : Nat)
theorem M1_zero : M1 m q1 q2 q3 0 = [] := rfl
theorem M2_zero : M2 m q1 q2 q3 a 0 = M1 m q1 q2 q3 a := by simp [M2, L1]
theorem M3_zero : M3 m q1 q2 q3 a b 0 = M2 m q1 q2 q3 a b := by simp [M3, L2]
theorem M4_zero : M4 m q1 q2 q3 a b c 0 = M3 m q1 q2 q3 a b c := by simp [M4, L3]
theorem M2_end : M2 m q1 q2 q3 a q1 = M1 m q1 q2 q3 (a + 1) := by simp [M2, M1, List.range_succ, List.flatMap_append]
theorem M3_end : M3 m q1 q2 q3 a b q2 = M2 m q1 q2 q3 a (b + 1) := by simp [M3, M2, L1, List.range_succ, List.flatMap_append]
theorem M4_end : M4 m q1 q2 q3 a b c q3 = M3 m q1 q2 q3 a b (c + 1) := by simp [M4, M3, L2, List.range_succ, List.flatMap_append]
theorem M4_step : M4 m q1 q2 q3 a b c (d + 1) = M4 m q1 q2 q3 a b c d ++ [rk m a b c d] := by simp [M4, L3, List.range_succ]
theorem len_flat {f : Nat → List Rt} {q : Nat} (h : ∀ i, (f i).length ≤ q) : ∀ k, ((List.range k).flatMap f).length ≤ k * q
  | 0 => by simp
  | k + 1 => by
    rw [List.range_succ, List.flatMap_append, List.length_append, Nat.succ_mul]
    have h1 := len_flat h k
    have h2 := h k
    simp only [List.flatMap_cons, List.flatMap_nil, List.append_nil]
    omega
theorem L3_len : (L3 m a b c d).length = d := by simp [L3]
theorem L2_len (h3 : q3 ≤ 3) : (L2 m q3 a b c).length ≤ c * 3 := len_flat (fun i => by rw [L3_len]; exact h3) c
theorem L1_len (h2 : q2 ≤ 4) (h3 : q3 ≤ 3) : (L1 m q2 q3 a b).length ≤ b * 12 := len_flat (fun i => by have := L2_len m q3 a i q2 h3; omega) b
theorem M1_len (h1 : q1 ≤ 8) (h2 : q2 ≤ 4) (h3 : q3 ≤ 3) : (M1 m q1 q2 q3 a).length ≤ a * 96 := len_flat (fun i => by have := L1_len m q2 q3 i q1 h2 h3; omega) a
theorem M4_len (h1 : q1 ≤ 8) (h2 : q2 ≤ 4) (h3 : q3 ≤ 3) (ha : a ≤ 12) (hb : b ≤ 8) (hc : c ≤ 4) (hd : d ≤ 3) : (M4 m q1 q2 q3 a b c d).length ≤ 2000 := by
  have e1 := M1_len m q1 q2 q3 a h1 h2 h3
  have e2 := L1_len m q2 q3 a b h2 h3
  have e3 := L2_len m q3 a b c h3
  have e4 := L3_len m a b c d
  unfold M4 M3 M2
  simp only [List.length_append]
  omega
end
def kN (m : Int) (i : Nat) : Nat := (kI m i).toNat
theorem kI_in (m : Int) : (0 ≤ kI m 0 ∧ kI m 0 ≤ 12) ∧ (0 ≤ kI m 1 ∧ kI m 1 ≤ 8) ∧ (0 ≤ kI m 2 ∧ kI m 2 ≤ 4) ∧ (0 ≤ kI m 3 ∧ kI m 3 ≤ 3) := by
  unfold kI
  by_cases h1 : m = 1
  · rw [h1, kind_1]; decide
  by_cases h2 : m = 2
  · rw [h2, kind_2]; decide
  by_cases h3 : m = 3
  · rw [h3, kind_3]; decide
  by_cases h4 : m = 4
  · rw [h4, kind_4]; decide
  · rw [kind_0 h1 h2 h3 h4]; decide
theorem all_k1 : M1 1 1 1 1 8 = allR 1 := by decide +kernel
theorem all_k2 : M1 2 4 2 2 8 = allR 2 := by decide +kernel
theorem all_k3 : M1 3 8 4 2 10 = allR 3 := by decide +kernel
theorem all_k4 : M1 4 8 4 3 12 = allR 4 := by decide +kernel
theorem all_is (m : Int) : M1 m (kN m 1) (kN m 2) (kN m 3) (kN m 0) = allR m := by
  by_cases h1 : m = 1
  · subst h1; exact all_k1
  by_cases h2 : m = 2
  · subst h2; exact all_k2
  by_cases h3 : m = 3
  · subst h3; exact all_k3
  by_cases h4 : m = 4
  · subst h4; exact all_k4
  · rw [all_none ⟨h1, h2, h3, h4⟩]
    have : kN m 0 = 0 := by unfold kN kI; rw [kind_0 h1 h2 h3 h4]; rfl
    rw [this, M1_zero]
theorem all_le (m : Int) : (allR m).length ≤ 1152 := allTo_len m 1152
def OutAll (m : Int) (w : World) (e : Ending) (w' : World) : Prop := ∃ A c, e = .returned (.slice A (allR m).length c) ∧ RowR w' A (allR m).length (allR m) ∧ (allR m).length ≤ c ∧ Below w.heap.size w w'
theorem OutAll.of {m : Int} {w w' : World} {B n : Nat} {v : Value} (hO : OwnR w' B v n (allR m)) (hb : Below w.heap.size w w') : OutAll m w (.returned v) w' := by
  have hl := hO.2
  subst hl
  obtain ⟨A, c, rfl, hr, hc⟩ := hO.row (d := d0) (fun a => a.cells_len) (by have := all_le m; unfold maxLen; omega)
  exact ⟨A, c, rfl, hr, hc, hb⟩
end Go.Proofs.YtlkoleannlpflaaDoor
