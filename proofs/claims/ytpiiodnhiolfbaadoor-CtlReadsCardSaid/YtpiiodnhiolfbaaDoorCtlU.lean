/-
  The calls of package ctl, and of the reference, each said in one: the answer, its code. The contract of muezzinlaw4.first.
-/
import Derived.Test.YtpiiodnhiolfbaaDoorCtlM
import Derived.Test.YtpiiodnhiolfbaaDoorCtlI
import Derived.Test.YtpiiodnhiolfbaaDoorCtlK
import Derived.Test.YtpiiodnhiolfbaaDoorCtlL
namespace Go.Proofs.YtpiiodnhiolfbaaDoor
open Go.ChangeShapes Go.WideShapes Go.ChangeAt Go.RowKit
set_option linter.unusedVariables false
set_option linter.unusedSimpArgs false

theorem errV_nil (E : Nat → Addr) (c : Nat) (w : World) : (binOp .eql 34 (errV E c) .nilIface).run Tryd.prog w = .ok (.bool (c == 0)) w := by
  by_cases h : c = 0
  · subst h
    rw [errV_zero]
    exact run_eql_nil_nil w 34 (by kernel_rfl)
  · rw [errV_pos E h, show (c == 0) = false by simpa using h]
    exact run_eql_held_nil w 34 _ _ (by kernel_rfl)
theorem errV_guard (E : Nat → Addr) (c : Nat) (x : Operand) : eqGuard .eql 34 x (.const .nilIface) (errV E c) .nilIface = pure () := by
  by_cases h : c = 0
  · subst h; rw [errV_zero]; exact eqGuard_nil_constR ..
  · rw [errV_pos E h]; exact eqGuard_at_iface ..
theorem errV_nnil (E : Nat → Addr) (c : Nat) (w : World) : (binOp .neq 34 (errV E c) .nilIface).run Tryd.prog w = .ok (.bool (c != 0)) w := by
  by_cases h : c = 0
  · subst h
    rw [errV_zero]
    exact run_neq_nil_nil w 34 (by kernel_rfl)
  · rw [errV_pos E h, show (c != 0) = true by simpa using h]
    exact run_neq_held_nil w 34 _ _ (by kernel_rfl)
theorem errV_nguard (E : Nat → Addr) (c : Nat) (x : Operand) : eqGuard .neq 34 x (.const .nilIface) (errV E c) .nilIface = pure () := by
  by_cases h : c = 0
  · subst h; rw [errV_zero]; exact eqGuard_nil_constR ..
  · rw [errV_pos E h]; exact eqGuard_at_iface ..
theorem is_err (E : Nat → Addr) (c : Nat) (d : Int) (w : World) (hS : Sent w E S14) (hc : c = 0 ∨ c ∈ S4) :
    Calls Tryd.prog 16 #[errV E c, .int .i64 d] w fun e w' => e = .returned (.bool ((c : Int) == d)) ∧ Below w.heap.size w w' :=
  is_any E c d w hS (hc.imp id (four14 c))
theorem sameB_refl (ys : List Int) : sameB ys ys = true := by simp [sameB]

/-! ### writing -/
theorem bar_all (q : Brf) (E : Nat → Addr) (w : World) (ht : q.t.wf) (hf : q.f.wf) (hS : Sent w E S4) :
    Calls Tryd.prog 9 #[q.val] w fun e w' => ∃ A n c, e = .returned (.tuple #[.slice A n c, errV E (codeB (okTS q.tid q.seq))]) ∧ RowB .u8 w' A n (outB (okTS q.tid q.seq) (encW 132 q.t q.f q.tid q.seq)) ∧ Below w.heap.size w w' := by
  cases hok : okTS q.tid q.seq
  · refine (bar_no q E w hok hS).mono ?_
    rintro e w' ⟨rfl, hB⟩
    exact ⟨none, 0, 0, rfl, RowB.nil, hB⟩
  · refine (bar_yes q w hok).mono ?_
    rintro e w' ⟨g, cap, rfl, hO, hB⟩
    exact ⟨_, _, _, rfl, hO.row8 (all_wf rfl (encW_mem 132 _ _ _ _ (by omega) ht hf hok)), hB⟩
theorem ack_all (q : Akf) (E : Nat → Addr) (w : World) (ht : q.t.wf) (hf : q.f.wf) (hS : Sent w E S4) :
    Calls Tryd.prog 10 #[q.val] w fun e w' => ∃ A n c, e = .returned (.tuple #[.slice A n c, errV E (codeB (okTS q.tid q.seq))]) ∧ RowB .u8 w' A n (outB (okTS q.tid q.seq) (encA q)) ∧ Below w.heap.size w w' := by
  cases hok : okTS q.tid q.seq
  · refine (ack_no q E w hok hS).mono ?_
    rintro e w' ⟨rfl, hB⟩
    exact ⟨none, 0, 0, rfl, RowB.nil, hB⟩
  · refine (ack_yes q w hok).mono ?_
    rintro e w' ⟨g, cap, rfl, hO, hB⟩
    exact ⟨_, _, _, rfl, hO.row8 (encA_wf q ht hf hok), hB⟩
theorem poll_all (q : Plf) (E : Nat → Addr) (w : World) (hb : q.b.wf) (hf : q.f.wf) (hS : Sent w E S4) :
    Calls Tryd.prog 11 #[q.val] w fun e w' => ∃ A n c, e = .returned (.tuple #[.slice A n c, errV E (codeB (okAID q.aid))]) ∧ RowB .u8 w' A n (outB (okAID q.aid) (encP q)) ∧ Below w.heap.size w w' := by
  cases hok : okAID q.aid
  · refine (poll_no q E w hok hS).mono ?_
    rintro e w' ⟨rfl, hB⟩
    exact ⟨none, 0, 0, rfl, RowB.nil, hB⟩
  · refine (poll_yes q w hok).mono ?_
    rintro e w' ⟨g, cap, rfl, hO, hB⟩
    exact ⟨_, _, _, rfl, hO.row8 (encP_wf q hb hf hok), hB⟩
theorem refBar_all (q : Brf) (w : World) (ht : q.t.wf) (hf : q.f.wf) :
    Calls Tryd.prog 12 #[q.val] w fun e w' => ∃ A n c, e = .returned (.tuple #[.slice A n c, .int .i64 (codeB (okTS q.tid q.seq))]) ∧ RowB .u8 w' A n (outB (okTS q.tid q.seq) (encW 132 q.t q.f q.tid q.seq)) ∧ Below w.heap.size w w' := by
  cases hok : okTS q.tid q.seq
  · refine (refBar_no q w hok).mono ?_
    rintro e w' ⟨rfl, hB⟩
    exact ⟨none, 0, 0, rfl, RowB.nil, hB⟩
  · refine (refBar_yes q w hok).mono ?_
    rintro e w' ⟨g, cap, rfl, hO, hB⟩
    exact ⟨_, _, _, rfl, hO.row8 (all_wf rfl (encW_mem 132 _ _ _ _ (by omega) ht hf hok)), hB⟩
theorem refAck_all (q : Akf) (w : World) (ht : q.t.wf) (hf : q.f.wf) :
    Calls Tryd.prog 13 #[q.val] w fun e w' => ∃ A n c, e = .returned (.tuple #[.slice A n c, .int .i64 (codeB (okTS q.tid q.seq))]) ∧ RowB .u8 w' A n (outB (okTS q.tid q.seq) (encA q)) ∧ Below w.heap.size w w' := by
  cases hok : okTS q.tid q.seq
  · refine (refAck_no q w hok).mono ?_
    rintro e w' ⟨rfl, hB⟩
    exact ⟨none, 0, 0, rfl, RowB.nil, hB⟩
  · refine (refAck_yes q w hok).mono ?_
    rintro e w' ⟨g, cap, rfl, hO, hB⟩
    exact ⟨_, _, _, rfl, hO.row8 (encA_wf q ht hf hok), hB⟩
theorem refPoll_all (q : Plf) (w : World) (hb : q.b.wf) (hf : q.f.wf) :
    Calls Tryd.prog 14 #[q.val] w fun e w' => ∃ A n c, e = .returned (.tuple #[.slice A n c, .int .i64 (codeB (okAID q.aid))]) ∧ RowB .u8 w' A n (outB (okAID q.aid) (encP q)) ∧ Below w.heap.size w w' := by
  cases hok : okAID q.aid
  · refine (refPoll_no q w hok).mono ?_
    rintro e w' ⟨rfl, hB⟩
    exact ⟨none, 0, 0, rfl, RowB.nil, hB⟩
  · refine (refPoll_yes q w hok).mono ?_
    rintro e w' ⟨g, cap, rfl, hO, hB⟩
    exact ⟨_, _, _, rfl, hO.row8 (encP_wf q hb hf hok), hB⟩

/-! ### reading -/
theorem readAck_all (A : Option Addr) (n c : Nat) (xs : List Int) (E : Nat → Addr) (w : World) (h : RowB .u8 w A n xs) (hS : Sent w E S4) (hnc : n ≤ c) :
    Calls Tryd.prog 18 #[.slice A n c] w fun e w' => e = .returned (.tuple #[(outA xs n).val, errV E (rdW xs n 148 28)]) ∧ Below w.heap.size w w' := by
  by_cases hr : rdW xs n 148 28 = 0
  · refine (readAck_good A n c xs E w h hS hnc hr).mono ?_
    rintro e w' ⟨rfl, hB⟩
    exact ⟨by rw [outA, if_pos hr, hr]; rfl, hB⟩
  · refine (readAck_bad A n c xs E w h hS hnc hr).mono ?_
    rintro e w' ⟨rfl, hB⟩
    exact ⟨by rw [outA, if_neg hr, errV_pos E hr], hB⟩

/-! ### the chapter's examples -/
theorem wf0 : (⟨0, 0, 0, 0, 0, 0⟩ : A6).wf := by intro x hx; simp [A6.l] at hx; subst hx; omega
set_option maxRecDepth 100000 in
set_option maxHeartbeats 4000000 in
theorem first_any (w : World) :
    Calls Tryd.prog 8 #[] w fun e w' => e = .returned (.bool true) ∧ Below w.heap.size w w' := by
  have HY := Lib.hid (bar_yes b0 w (by decide))
  have HW := Lib.hid (show ∀ i, i < 20 → 0 ≤ (encW 132 b0.t b0.f b0.tid b0.seq).getD i 0 ∧ (encW 132 b0.t b0.f b0.tid b0.seq).getD i 0 ≤ 255 from all_wf rfl (encW_mem 132 _ _ _ _ (by omega) wf0 wf0 (by decide)))
  have HKd := Lib.hid (show kindC (encW 132 b0.t b0.f b0.tid b0.seq) 20 = 132 by decide)
  generalize encW 132 b0.t b0.f b0.tid b0.seq = L at *
  go_enter Tryd.func8, Tryd.ntmps8
  go_wp2_with (fail)
  refine HY.out.mono ?_
  rintro e w1 ⟨g, cap, rfl, hO, hB⟩
  have HB := Lib.hid hB
  have HR := Lib.hid (hO.row8 HW.out)
  clear hO hB
  go_wp2_with (fail)
  refine (kindC_any none 0 0 [] w1 RowB.nil).mono ?_
  rintro e w' ⟨rfl, rfl⟩
  rw [show kindC [] 0 = 0 by decide]
  go_wp2_with (fail)
  refine (kindC_any _ 20 cap L w1 HR.out).mono ?_
  rintro e w' ⟨rfl, rfl⟩
  rw [HKd.out]
  go_wp2
  go_ret
  exact ⟨rfl, HB.out⟩
end Go.Proofs.YtpiiodnhiolfbaaDoor
