/-
  CONTRACTS: lists of ints (muezzinref.SameInts, muezzinref.Has, slices.Contains); tim.mayBe, the reference's rising, flag, tim.part, tim.frame. A Tim as a value.
-/
import Derived.Test.YtocghdjadojimaaDoorEqual
import Derived.Test.YtocghdjadojimaaDoorTimM
namespace Go.Proofs.YtocghdjadojimaaDoor
open Go.ChangeShapes Go.WideShapes Go.ChangeAt Go.RowKit
set_option linter.unusedVariables false
set_option linter.unusedSimpArgs false

/-- what a Tim says. -/
structure Tm where
  c : Int
  p : Int
  g : Bool
  l : List Int
abbrev Tm.cells (q : Tm) (A : Option Addr) (n k : Nat) : Array Value := #[.int .i64 q.c, .int .i64 q.p, .bool q.g, .slice A n k]
abbrev Tm.val (q : Tm) (A : Option Addr) (n k : Nat) : Value := .agg (q.cells A n k)
def okT (q : Tm) : Bool := decide (1 ≤ q.p) && decide (q.p ≤ 255) && decide (0 ≤ q.c) && decide (q.c < q.p) && rises 0 q.l
theorem okT_head (q : Tm) (h1 : 1 ≤ q.p) (h2 : q.p ≤ 255) (h3 : 0 ≤ q.c) (h4 : q.c < q.p) : okT q = rises 0 q.l := by unfold okT; simp [h1, h2, h3, h4]
theorem okT_fine {q : Tm} (h : okT q = true) : 1 ≤ q.p ∧ q.p ≤ 255 ∧ 0 ≤ q.c ∧ q.c < q.p ∧ rises 0 q.l = true := by
  unfold okT at h
  simp only [Bool.and_eq_true, decide_eq_true_eq] at h
  exact ⟨h.1.1.1.1, h.1.1.1.2, h.1.1.2, h.1.2, h.2⟩
theorem okT_not (q : Tm) (h : q.p < 1 ∨ 255 < q.p ∨ q.c < 0 ∨ q.p ≤ q.c) : okT q = false := by
  cases hq : okT q with
  | false => rfl
  | true => have := okT_fine hq; omega

/-! ### lists of ints -/
set_option maxRecDepth 100000 in
set_option maxHeartbeats 4000000 in
theorem sameInts_any (a b : Option Addr) (la ca lb cb : Nat) (A B : List Int) (w : World) (ha : RowB .i64 w a la A) (hb : RowB .i64 w b lb B) :
    Calls Tryd.prog 28 #[.slice a la ca, .slice b lb cb] w fun e w' => e = .returned (.bool (sameB A B)) ∧ ∃ n, w' = w.drewN n := by
  have ba := ha.le
  have bb := hb.le
  unfold maxLen at ba bb
  have ta := ha.len
  have tb := hb.len
  have Ha := Lib.hid ha.took
  have Hb := Lib.hid hb.took
  clear ha hb
  by_cases hl : la = lb
  · subst hl
    have hne : ((la : Int) != (la : Int)) = false := by simp
    have Ta := Lib.hid ta
    have Tb := Lib.hid tb
    clear ta tb
    go_enter Tryd.func28, Tryd.ntmps28
    go_wp2
    go_loopw [5] (fun i wr => ∃ k n : Nat, k ≤ la ∧ i = .int .i64 k ∧ A.take k = B.take k ∧ wr = w.drewN n) (fun i _ => la - (intOf i).toNat)
    case atStart => exact ⟨0, 0, by omega, rfl, by simp, rfl⟩
    case round =>
      obtain ⟨k, n, hk, rfl, hAB, rfl⟩ := hrel
      have HAB := Lib.hid hAB
      clear hAB
      by_cases hlt : k < la
      · obtain ⟨ba', oa, rfl, hca⟩ := Ha.out (by omega)
        obtain ⟨bb', ob, rfl, hcb⟩ := Hb.out (by omega)
        have c1 := hca k hlt
        have c2 := hcb k hlt
        have hi : (k : Int) < (la : Int) := by omega
        clear hca hcb Ha Hb
        by_cases he : A.getD k 0 = B.getD k 0
        · have HS := Lib.hid (same_step HAB.out (by rw [Ta.out]; omega) (by rw [Tb.out]; omega) he)
          rw [he] at c1
          generalize B.getD k 0 = y at *
          clear he
          go_wp2
          go_quiet (fail)
          go_wp2
          go_roundw
          case rel => exact ⟨k + 1, _, by omega, by go_num, HS.out, rfl⟩
          case measure => simp [intOf]; omega
        · have HS := Lib.hid (same_not he)
          have hb' : (A.getD k 0 == B.getD k 0) = false := by simpa using he
          generalize B.getD k 0 = y at *
          generalize A.getD k 0 = x at *
          clear he
          go_wp2
          go_quiet (fail)
          go_wp2
          go_ret
          exact ⟨ret_b HS.out, _, rfl⟩
      · have HS := Lib.hid (same_all HAB.out (by rw [Ta.out]; omega) (by rw [Tb.out]; omega))
        go_wp2
        go_ret
        exact ⟨ret_b HS.out, _, rfl⟩
  · have hne : ((la : Int) != (lb : Int)) = true := by simp; omega
    have HS := Lib.hid (sameB_len (show A.length ≠ B.length by omega))
    go_enter Tryd.func28, Tryd.ntmps28
    go_wp2
    go_ret
    exact ⟨ret_b HS.out, 0, rfl⟩

set_option maxRecDepth 100000 in
set_option maxHeartbeats 8000000 in
theorem refHas_any (A : Option Addr) (n c : Nat) (xs : List Int) (v : Int) (w : World) (h : RowB .i64 w A n xs) :
    Calls Tryd.prog 17 #[.slice A n c, .int .i64 v] w fun e w' => e = .returned (.bool (decide (v ∈ xs))) ∧ w = w' := by
  have hl := h.len
  have hle := h.le
  unfold maxLen at hle
  have HC := Lib.hid (fun i hi => h.el i hi)
  have HL := Lib.hid hl
  clear h hl
  go_enter Tryd.func17, Tryd.ntmps17
  go_wp2
  go_loop [5] (fun i => ∃ k : Nat, k ≤ n ∧ i = .int .i64 k ∧ v ∉ xs.take k) (fun i => n - (intOf i).toNat)
  case atStart => exact ⟨0, by omega, rfl, by simp⟩
  case round =>
    obtain ⟨k, hk, rfl, hnot⟩ := hrel
    by_cases hlt : k < n
    · obtain ⟨b, off, rfl, hc⟩ := HC.out k hlt
      have hi : (k : Int) < (n : Int) := by omega
      by_cases he : xs.getD k 0 = v
      · have HS := Lib.hid (show decide (v ∈ xs) = true from decide_eq_true (by rw [← he]; exact mem_getD (by rw [HL.out]; exact hlt)))
        rw [he] at hc
        clear he hnot
        go_wp2
        go_ret
        exact ⟨ret_b HS.out, rfl⟩
      · have HS := Lib.hid (notmem_step hnot (by rw [HL.out]; exact hlt) he)
        have hb' : (xs.getD k 0 == v) = false := by simpa using he
        generalize xs.getD k 0 = x at *
        clear he hnot
        go_wp2
        go_round
        case rel => exact ⟨k + 1, by omega, by go_num, HS.out⟩
        case measure => simp [intOf]; omega
    · have HS := Lib.hid (show decide (v ∈ xs) = false by
        rw [List.take_of_length_le (by rw [HL.out]; omega)] at hnot
        exact decide_eq_false hnot)
      clear hnot
      go_wp2
      go_ret
      exact ⟨ret_b HS.out, rfl⟩

set_option maxRecDepth 100000 in
set_option maxHeartbeats 8000000 in
theorem index_any (A : Option Addr) (n c : Nat) (xs : List Int) (v : Int) (w : World) (h : RowB .i64 w A n xs) :
    Calls Tryd.prog 32 #[.slice A n c, .int .i64 v] w fun e w' => (∃ i : Int, e = .returned (.int .i64 i) ∧ (0 ≤ i ↔ v ∈ xs)) ∧ w = w' := by
  have hl := h.len
  have hle := h.le
  unfold maxLen at hle
  have HC := Lib.hid (fun i hi => h.el i hi)
  have HL := Lib.hid hl
  clear h hl
  go_enter Tryd.func32, Tryd.ntmps32
  go_wp2
  go_loop [8] (fun i => ∃ k : Nat, k ≤ n ∧ i = .int .i64 k ∧ v ∉ xs.take k) (fun i => n - (intOf i).toNat)
  case atStart => exact ⟨0, by omega, rfl, by simp⟩
  case round =>
    obtain ⟨k, hk, rfl, hnot⟩ := hrel
    by_cases hlt : k < n
    · obtain ⟨b, off, rfl, hc⟩ := HC.out k hlt
      have hi : (k : Int) < (n : Int) := by omega
      by_cases he : xs.getD k 0 = v
      · have HS := Lib.hid (show (0 : Int) ≤ (k : Int) ↔ v ∈ xs by
          refine ⟨fun _ => ?_, fun _ => by omega⟩
          rw [← he]; exact mem_getD (by rw [HL.out]; exact hlt))
        rw [he] at hc
        clear he hnot
        go_wp2
        go_ret
        exact ⟨⟨_, rfl, HS.out⟩, rfl⟩
      · have HS := Lib.hid (notmem_step hnot (by rw [HL.out]; exact hlt) he)
        have hb' : (v == xs.getD k 0) = false := by simpa using fun h => he h.symm
        generalize xs.getD k 0 = x at *
        clear he hnot
        go_wp2
        go_round
        case rel => exact ⟨k + 1, by omega, by go_num, HS.out⟩
        case measure => simp [intOf]; omega
    · have HS := Lib.hid (show (0 : Int) ≤ -1 ↔ v ∈ xs by
        rw [List.take_of_length_le (by rw [HL.out]; omega)] at hnot
        exact ⟨fun h => by omega, fun h => absurd h hnot⟩)
      clear hnot
      go_wp2
      go_ret
      exact ⟨⟨_, rfl, HS.out⟩, rfl⟩
set_option maxRecDepth 100000 in
set_option maxHeartbeats 8000000 in
theorem contains_any (A : Option Addr) (n c : Nat) (xs : List Int) (v : Int) (w : World) (h : RowB .i64 w A n xs) :
    Calls Tryd.prog 29 #[.slice A n c, .int .i64 v] w fun e w' => e = .returned (.bool (decide (v ∈ xs))) ∧ w = w' := by
  have HI := Lib.hid (index_any A n c xs v w h)
  clear h
  go_enter Tryd.func29, Tryd.ntmps29
  go_wp2_with (fail)
  refine HI.out.mono ?_
  rintro e w' ⟨⟨i, rfl, hi⟩, rfl⟩
  have HS := Lib.hid (show decide ((0 : Int) ≤ i) = decide (v ∈ xs) by simp only [hi])
  clear hi
  go_wp2
  go_ret
  exact ⟨ret_b HS.out.symm, rfl⟩

/-! ### do they rise -/
theorem rises_end {l : List Int} {k : Nat} {v : Int} (h : l.length ≤ k) : rises v (l.drop k) = true := by
  rw [List.drop_of_length_le h]; rfl
set_option maxRecDepth 100000 in
set_option maxHeartbeats 8000000 in
theorem rising_any (A : Option Addr) (n c : Nat) (l : List Int) (w : World) (h : RowB .i64 w A n l) :
    Calls Tryd.prog 21 #[.slice A n c] w fun e w' => e = .returned (.bool (rises 0 l)) ∧ w = w' := by
  have hl := h.len
  have hle := h.le
  unfold maxLen at hle
  have HC := Lib.hid (fun i hi => h.el i hi)
  have HL := Lib.hid hl
  clear h hl
  go_enter Tryd.func21, Tryd.ntmps21
  go_wp2
  go_loop [3, 4] (fun s i => ∃ k : Nat, k ≤ n ∧ i = .int .i64 k ∧ ∃ v : Int, s = .int .i64 v ∧ rises v (l.drop k) = rises 0 l) (fun _ i => n - (intOf i).toNat)
  case atStart => exact ⟨0, by omega, rfl, 0, rfl, rfl⟩
  case round =>
    obtain ⟨k, hk, rfl, v, rfl, hv⟩ := hrel
    by_cases hlt : k < n
    · obtain ⟨b, off, rfl, hc⟩ := HC.out k hlt
      have hi : (k : Int) < (n : Int) := by omega
      rw [rises_drop (by rw [HL.out]; exact hlt)] at hv
      generalize l.getD k 0 = x at *
      cases e1 : decide (x ≤ v)
      · have e1' : v < x := by simpa using e1
        rw [decide_eq_true e1', Bool.true_and] at hv
        cases e2 : decide (2007 < x)
        · have e2' : x ≤ 2007 := by simpa using e2
          rw [decide_eq_true e2', Bool.true_and] at hv
          have HS := Lib.hid hv
          clear hv e1' e2'
          go_wp2
          go_round
          case rel => exact ⟨k + 1, by omega, by go_num, x, rfl, HS.out⟩
          case measure => simp [intOf]; omega
        · have e2' : ¬ x ≤ 2007 := by simpa using e2
          rw [decide_eq_false e2', Bool.false_and] at hv
          have HS := Lib.hid hv
          clear hv e1' e2'
          go_wp2
          go_ret
          exact ⟨ret_b HS.out.symm, rfl⟩
      · have e1' : ¬ v < x := by simpa using e1
        rw [decide_eq_false e1', Bool.false_and, Bool.false_and] at hv
        have HS := Lib.hid hv
        clear hv e1'
        go_wp2
        go_ret
        exact ⟨ret_b HS.out.symm, rfl⟩
    · rw [rises_end (by rw [HL.out]; omega)] at hv
      have HS := Lib.hid hv
      clear hv
      go_wp2
      go_ret
      exact ⟨ret_b HS.out.symm, rfl⟩

set_option maxRecDepth 100000 in
set_option maxHeartbeats 8000000 in
theorem mayBe_any (q : Tm) (A : Option Addr) (n c : Nat) (w : World) (h : RowB .i64 w A n q.l) :
    Calls Tryd.prog 19 #[q.val A n c] w fun e w' => e = .returned (.bool (okT q)) ∧ Below w.heap.size w w' := by
  have hl := h.len
  have hle := h.le
  unfold maxLen at hle
  have HB := Lib.hid ((Below.refl w.heap.size w).alloc (Nat.le_refl _) (.cells (q.cells A n c) 24))
  have HC := Lib.hid (fun i hi => (h.below HB.out).el i hi)
  have HL := Lib.hid hl
  clear h hl
  cases e1 : decide (q.p < 1)
  case true =>
    have HV := Lib.hid (okT_not q (.inl (by simpa using e1)))
    have e1' : decide (q.p ≤ 0) = true := by simp at e1 ⊢; omega
    go_enter Tryd.func19, Tryd.ntmps19
    go_wp2
    go_ret
    exact ⟨ret_b HV.out, HB.out⟩
  have e1' : decide (q.p ≤ 0) = false := by simp at e1 ⊢; omega
  cases e2 : decide (255 < q.p)
  case true =>
    have HV := Lib.hid (okT_not q (.inr (.inl (by simpa using e2))))
    go_enter Tryd.func19, Tryd.ntmps19
    go_wp2
    go_ret
    exact ⟨ret_b HV.out, HB.out⟩
  cases e3 : decide (q.c < 0)
  case true =>
    have HV := Lib.hid (okT_not q (.inr (.inr (.inl (by simpa using e3)))))
    go_enter Tryd.func19, Tryd.ntmps19
    go_wp2
    go_ret
    exact ⟨ret_b HV.out, HB.out⟩
  cases e4 : decide (q.p ≤ q.c)
  case true =>
    have HV := Lib.hid (okT_not q (.inr (.inr (.inr (by simpa using e4)))))
    go_enter Tryd.func19, Tryd.ntmps19
    go_wp2
    go_ret
    exact ⟨ret_b HV.out, HB.out⟩
  have HV := Lib.hid (okT_head q (by simp at e1; omega) (by simpa using e2) (by simpa using e3) (by simpa using e4))
  go_enter Tryd.func19, Tryd.ntmps19
  go_wp2
  clear e1 e1' e2 e3 e4
  generalize q.l = l at *
  generalize World.alloc w _ = w1 at *
  go_loop [3, 29] (fun s i => ∃ k : Nat, k ≤ n ∧ i = .int .i64 k ∧ ∃ v : Int, s = .int .i64 v ∧ rises v (l.drop k) = rises 0 l) (fun _ i => n - (intOf i).toNat)
  case atStart => exact ⟨0, by omega, rfl, 0, rfl, rfl⟩
  case round =>
    obtain ⟨k, hk, rfl, v, rfl, hv⟩ := hrel
    by_cases hlt : k < n
    · obtain ⟨b, off, rfl, hc⟩ := HC.out k hlt
      have hi : (k : Int) < (n : Int) := by omega
      rw [rises_drop (by rw [HL.out]; exact hlt)] at hv
      generalize l.getD k 0 = x at *
      cases e1 : decide (x ≤ v)
      · have e1' : v < x := by simpa using e1
        rw [decide_eq_true e1', Bool.true_and] at hv
        cases e2 : decide (2007 < x)
        · have e2' : x ≤ 2007 := by simpa using e2
          rw [decide_eq_true e2', Bool.true_and] at hv
          have HS := Lib.hid hv
          clear hv e1' e2'
          go_wp2
          go_round
          case rel => exact ⟨k + 1, by omega, by go_num, x, rfl, HS.out⟩
          case measure => simp [intOf]; omega
        · have e2' : ¬ x ≤ 2007 := by simpa using e2
          rw [decide_eq_false e2', Bool.false_and] at hv
          have HS := Lib.hid hv
          clear hv e1' e2'
          go_wp2
          go_ret
          exact ⟨ret_b (HV.out.trans HS.out.symm), HB.out⟩
      · have e1' : ¬ v < x := by simpa using e1
        rw [decide_eq_false e1', Bool.false_and, Bool.false_and] at hv
        have HS := Lib.hid hv
        clear hv e1'
        go_wp2
        go_ret
        exact ⟨ret_b (HV.out.trans HS.out.symm), HB.out⟩
    · rw [rises_end (by rw [HL.out]; omega)] at hv
      have HS := Lib.hid hv
      clear hv
      go_wp2
      go_ret
      exact ⟨ret_b (HV.out.trans HS.out.symm), HB.out⟩

theorem flag_any (b : Bool) (v : Int) (w : World) : Calls Tryd.prog 22 #[.bool b, .int .i64 v] w fun e w' => e = .returned (.int .i64 (if b = true then v else 0)) ∧ w = w' := by
  cases b
  all_goals
    go_enter Tryd.func22, Tryd.ntmps22
    go_wp2
    go_ret
    exact ⟨rfl, rfl⟩
end Go.Proofs.YtocghdjadojimaaDoor
