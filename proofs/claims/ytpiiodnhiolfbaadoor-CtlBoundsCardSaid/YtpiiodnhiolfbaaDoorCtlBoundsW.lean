/-
  The walk of muezzin/muezzinlaw4.CtlBounds: the Go text returns true.
-/
import Derived.Test.YtpiiodnhiolfbaaDoorCtlU
import Derived.Test.YtpiiodnhiolfbaaDoorOpenC
import Derived.Test.YtpiiodnhiolfbaaDoorErr
import Derived.WalkKit
import Derived.ProofKit
import Derived.Below
namespace Go.Proofs.YtpiiodnhiolfbaaDoor.ctlBounds
open Go.ChangeShapes Go.WideShapes Go.ChangeAt Go.RowKit Go.Joins
set_option linter.unusedVariables false
set_option linter.unusedSimpArgs false

theorem nil_seq (q : Int) (h : 0 ≤ q) : (codeB (okTS 0 q) == 0) = decide (q ≤ 4095) := by
  by_cases hq : q ≤ 4095
  · rw [(okTS_iff 0 q).2 ⟨by omega, by omega, h, by omega⟩]; simp [codeB, hq]
  · rw [show okTS 0 q = false by rw [Bool.eq_false_iff]; intro hh; have := (okTS_iff _ _).1 hh; omega]; simp [codeB, hq]
theorem nil_tid (q : Int) (h : 0 ≤ q) : (codeB (okTS q 0) == 0) = decide (q ≤ 7) := by
  by_cases hq : q ≤ 7
  · rw [(okTS_iff q 0).2 ⟨h, by omega, by omega, by omega⟩]; simp [codeB, hq]
  · rw [show okTS q 0 = false by rw [Bool.eq_false_iff]; intro hh; have := (okTS_iff _ _).1 hh; omega]; simp [codeB, hq]
theorem nil_aid (q : Int) (h : 1 ≤ q) : (codeB (okAID q) == 0) = decide (q ≤ 2007) := by
  by_cases hq : q ≤ 2007
  · rw [(okAID_iff q).2 ⟨h, hq⟩]; simp [codeB, hq]
  · rw [show okAID q = false by rw [Bool.eq_false_iff]; intro hh; have := (okAID_iff _).1 hh; omega]; simp [codeB, hq]

/-! ### THE WALK -/
set_option maxRecDepth 100000 in
set_option maxHeartbeats 8000000 in
theorem walk (n0 : Int) (n1 : Int) (n2 : Int) (w : World) (E : Nat → Addr) (hS : Sent w E [101, 102, 103, 104, 105, 106, 107, 108, 109, 110, 111, 112, 113, 114]) (w0 : (Lit.int .i64 n0).wf = true) (w1 : (Lit.int .i64 n1).wf = true) (w2 : (Lit.int .i64 n2).wf = true) :
    Calls Tryd.prog 7 #[.int .i64 n0, .int .i64 n1, .int .i64 n2] w fun e w' => e = .returned (.bool true) ∧ Below w.heap.size w w' := by
  have HS := Lib.hid hS
  have W0 := Lib.hid w0
  have W1 := Lib.hid w1
  have W2 := Lib.hid w2
  clear hS w0 w1 w2
  go_enter Tryd.func7, Tryd.ntmps7
  go_wp2_with (fail)
  refine (first_any _).mono ?_
  rintro e w1 ⟨rfl, hB⟩
  have HB1 := Lib.hid hB
  have HS1 := Lib.hid (HS.out.below hB)
  clear hB
  go_wp2_with (fail)
  refine (number_any _ _ _ W0.out (by omega) (by omega)).mono ?_
  rintro e w' ⟨rfl, rfl⟩
  have s0 := nmod_lo n0 5 (by omega)
  have s1 := nmod_hi n0 5 (by omega)
  generalize nmod n0 5 = s at *
  go_wp2_with (fail)
  refine (number_any _ _ _ W1.out (by omega) (by omega)).mono ?_
  rintro e w' ⟨rfl, rfl⟩
  have t0 := nmod_lo n1 4 (by omega)
  have t1 := nmod_hi n1 4 (by omega)
  generalize nmod n1 4 = t at *
  go_wp2_with (fail)
  refine (number_any _ _ _ W2.out (by omega) (by omega)).mono ?_
  rintro e w' ⟨rfl, rfl⟩
  have a0 := nmod_lo n2 5 (by omega)
  have a1 := nmod_hi n2 5 (by omega)
  generalize nmod n2 5 = a at *
  have hb1 := nil_seq (s + 4093) (by omega)
  have hb2 := nil_tid (t + 5) (by omega)
  have hb3 := nil_aid (a + 2005) (by omega)
  go_wp2_with (fail)
  generalize hd1 : decide (s + 4093 ≤ 4095) = b1 at *
  generalize hd2 : decide (t + 5 ≤ 7) = b2 at *
  generalize hd3 : decide (a + 2005 ≤ 2007) = b3 at *
  refine (bar_all ⟨⟨0, 0, 0, 0, 0, 0⟩, ⟨0, 0, 0, 0, 0, 0⟩, 0, s + 4093⟩ E w1 wf0 wf0 HS1.out.four).mono ?_
  rintro e w2 ⟨A2, n2, c2, rfl, _, hB⟩
  have HB2 := Lib.hid (HB1.out.trans (hB.mono HB1.out.size))
  have HS2 := Lib.hid (HS.out.below HB2.out)
  clear hB
  have hv1 : ∀ w : World, (binOp .eql 34 (errV E (codeB (okTS 0 (s + 4093)))) .nilIface).run Tryd.prog w = .ok (.bool b1) w := fun w => by rw [errV_nil, hb1]
  have hg1 : ∀ x : Operand, eqGuard .eql 34 x (.const .nilIface) (errV E (codeB (okTS 0 (s + 4093)))) .nilIface = pure () := errV_guard E _
  generalize errV E (codeB (okTS 0 (s + 4093))) = v1 at *
  go_wp2_with (fail)
  refine (ack_all ⟨⟨0, 0, 0, 0, 0, 0⟩, ⟨0, 0, 0, 0, 0, 0⟩, t + 5, 0, 0⟩ E w2 wf0 wf0 HS2.out.four).mono ?_
  rintro e w3 ⟨A3, n3, c3, rfl, _, hB⟩
  have HB3 := Lib.hid (HB2.out.trans (hB.mono HB2.out.size))
  have HS3 := Lib.hid (HS.out.below HB3.out)
  clear hB
  have hv2 : ∀ w : World, (binOp .eql 34 (errV E (codeB (okTS (t + 5) 0))) .nilIface).run Tryd.prog w = .ok (.bool b2) w := fun w => by rw [errV_nil, hb2]
  have hg2 : ∀ x : Operand, eqGuard .eql 34 x (.const .nilIface) (errV E (codeB (okTS (t + 5) 0))) .nilIface = pure () := errV_guard E _
  generalize errV E (codeB (okTS (t + 5) 0)) = v2 at *
  go_wp2_with (fail)
  refine (poll_all ⟨a + 2005, ⟨0, 0, 0, 0, 0, 0⟩, ⟨0, 0, 0, 0, 0, 0⟩⟩ E w3 wf0 wf0 HS3.out.four).mono ?_
  rintro e w4 ⟨A4, n4, c4, rfl, _, hB⟩
  have HB4 := Lib.hid (HB3.out.trans (hB.mono HB3.out.size))
  have HS4 := Lib.hid (HS.out.below HB4.out)
  clear hB
  have hv3 : ∀ w : World, (binOp .eql 34 (errV E (codeB (okAID (a + 2005)))) .nilIface).run Tryd.prog w = .ok (.bool b3) w := fun w => by rw [errV_nil, hb3]
  have hg3 : ∀ x : Operand, eqGuard .eql 34 x (.const .nilIface) (errV E (codeB (okAID (a + 2005)))) .nilIface = pure () := errV_guard E _
  generalize errV E (codeB (okAID (a + 2005))) = v3 at *
  go_wp2_with (fail)
  refine (poll_no ⟨0, ⟨0, 0, 0, 0, 0, 0⟩, ⟨0, 0, 0, 0, 0, 0⟩⟩ E w4 (by decide) HS4.out.four).mono ?_
  rintro e w5 ⟨rfl, hB⟩
  have HB5 := Lib.hid (HB4.out.trans (hB.mono HB4.out.size))
  have HS5 := Lib.hid (HS.out.below HB5.out)
  clear hB
  go_wp2_with (fail)
  refine (ack_no ⟨⟨0, 0, 0, 0, 0, 0⟩, ⟨0, 0, 0, 0, 0, 0⟩, 0, -1, 0⟩ E w5 (by decide) HS5.out.four).mono ?_
  rintro e w6 ⟨rfl, hB⟩
  have HB6 := Lib.hid (HB5.out.trans (hB.mono HB5.out.size))
  have HS6 := Lib.hid (HS.out.below HB6.out)
  clear hB
  go_wp2_with (fail)
  refine (readAck_all none 0 0 [] E w6 RowB.nil HS6.out.four (Nat.le_refl _)).mono ?_
  rintro e w7 ⟨rfl, hB⟩
  have HB7 := Lib.hid (HB6.out.trans (hB.mono HB6.out.size))
  have HS7 := Lib.hid (HS.out.below HB7.out)
  clear hB
  rw [show rdW [] 0 148 28 = 101 by decide, show errV E 101 = errP (E 101) from rfl]
  generalize outA [] 0 = qa at *
  have HB8 := Lib.hid (HB7.out.alloc HB7.out.size (.cells qa.cells 28))
  have HS8 := Lib.hid (HS.out.below HB8.out)
  go_wp2_with (refine wpList_store_row rfl 28 (.tmp 18) (.tmp 64) rfl w7.heap.size qa.cells rfl rfl 28 Go.Proofs.YtpiiodnhiolfbaaDoor.a0.cells (heap_alloc_last _ _) sizeAck rfl (Akf.oneCell _) ?_; rw [World.setRow_alloc_new]; generalize World.alloc w7 _ = w8 at *)
  have HO9 := Lib.hid (show OwnB (w8.alloc (.cells #[.int .u8 132] 5)) w8.heap.size 5 .u8 w8.heap.size 1 1 [132] from World.ownsRow_lit w8 #[.int .u8 132] 1 (Nat.le_refl _) (by unfold maxLen; omega) rfl)
  have HR9 := Lib.hid (HO9.out.row8 (fun i hi => by rw [show i = 0 by omega]; decide))
  have HB9 := Lib.hid (HB8.out.alloc HB8.out.size (.cells #[.int .u8 132] 5))
  have HS9 := Lib.hid (HS.out.below HB9.out)
  generalize hw9 : w8.alloc (.cells #[.int .u8 132] 5) = w9 at *
  clear hw9
  refine (readPoll_all (some ⟨w8.heap.size, 0, none⟩) 1 1 [132] E w9 HR9.out HS9.out.four (Nat.le_refl _)).mono ?_
  rintro e w10 ⟨rfl, hB⟩
  have HB10 := Lib.hid (HB9.out.trans (hB.mono HB9.out.size))
  have HS10 := Lib.hid (HS.out.below HB10.out)
  clear hB
  rw [show rdP [132] 1 = 105 by decide, show errV E 105 = errP (E 105) from rfl]
  generalize outP [132] 1 = qp at *
  have HB11 := Lib.hid (HB10.out.alloc HB10.out.size (.cells qp.cells 30))
  have HS11 := Lib.hid (HS.out.below HB11.out)
  go_wp2_with (refine wpList_store_row rfl 30 (.tmp 20) (.tmp 69) rfl w10.heap.size qp.cells rfl rfl 30 p0.cells (heap_alloc_last _ _) sizePoll rfl (Plf.oneCell _) ?_; rw [World.setRow_alloc_new]; generalize World.alloc w10 _ = w11 at *)
  refine (is_err E 103 103 w11 HS11.out (.inr (by decide))).mono ?_
  rintro e w12 ⟨rfl, hB⟩
  have HB12 := Lib.hid (HB11.out.trans (hB.mono HB11.out.size))
  have HS12 := Lib.hid (HS.out.below HB12.out)
  clear hB
  go_wp2_with (fail)
  refine (is_err E 103 103 w12 HS12.out (.inr (by decide))).mono ?_
  rintro e w13 ⟨rfl, hB⟩
  have HB13 := Lib.hid (HB12.out.trans (hB.mono HB12.out.size))
  have HS13 := Lib.hid (HS.out.below HB13.out)
  clear hB
  go_wp2_with (fail)
  refine (is_err E 101 101 w13 HS13.out (.inr (by decide))).mono ?_
  rintro e w14 ⟨rfl, hB⟩
  have HB14 := Lib.hid (HB13.out.trans (hB.mono HB13.out.size))
  have HS14 := Lib.hid (HS.out.below HB14.out)
  clear hB
  go_wp2_with (fail)
  refine (is_err E 105 105 w14 HS14.out (.inr (by decide))).mono ?_
  rintro e w15 ⟨rfl, hB⟩
  have HB15 := Lib.hid (HB14.out.trans (hB.mono HB14.out.size))
  have HS15 := Lib.hid (HS.out.below HB15.out)
  clear hB
  go_wp2
  go_ret
  exact ⟨rfl, HB15.out⟩

end Go.Proofs.YtpiiodnhiolfbaaDoor.ctlBounds
