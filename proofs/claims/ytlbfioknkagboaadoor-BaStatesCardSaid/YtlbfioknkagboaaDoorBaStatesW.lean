/-
  The walk of muezzin/muezzinlaw16.BaStates: the Go text returns true.
-/
import Derived.Test.YtlbfioknkagboaaDoorSeN
import Derived.Test.YtlbfioknkagboaaDoorErrP
import Derived.LoopTactic
import Derived.Deep.CutRange
import Derived.Deep.CutBlock
import Derived.WalkKit
import Derived.ProofKit
import Derived.Below
namespace Go.Proofs.YtlbfioknkagboaaDoor.baStates
open Go.ChangeShapes Go.WideShapes Go.ChangeAt Go.RowKit Go.Deep
set_option linter.unusedVariables false
set_option linter.unusedSimpArgs false


open Go.Proofs.YtlbfioknkagboaaDoor

/-! ### THE WALK -/
set_option maxRecDepth 100000 in
set_option maxHeartbeats 8000000 in
theorem walk (n0 : Int) (n1 : Int) (n2 : Int) (n3 : Int) (w : World) (E : Nat → Addr) (hS : Sent w E [101, 102, 103, 104, 105, 106, 107, 108, 109, 110, 111, 112, 113, 114]) (hT : Tab64 w) (w0 : (Lit.int .i64 n0).wf = true) (w1 : (Lit.int .i64 n1).wf = true) (w2 : (Lit.int .i64 n2).wf = true) (w3 : (Lit.int .i64 n3).wf = true) :
    Calls Tryd.prog 7 #[.int .i64 n0, .int .i64 n1, .int .i64 n2, .int .i64 n3] w fun e w' => e = .returned (.bool true) ∧ Below w.heap.size w w' := by
  have HS := Shut.mk hS
  have HT := Shut.mk hT
  have W0 := Shut.mk w0
  have W1 := Shut.mk w1
  have W2 := Shut.mk w2
  have W3 := Shut.mk w3
  clear hS hT w0 w1 w2 w3
  go_enter Tryd.func7, Tryd.ntmps7
  go_wp2_with (fail)
  refine (first_any w).mono ?_
  rintro e wa ⟨rfl, hBa⟩
  have HBa := Shut.mk hBa
  clear hBa
  go_wp2_with (fail)
  refine (number_any n0 256 wa W0.out (by decide) (by decide)).mono ?_
  rintro e wn ⟨rfl, rfl⟩
  have hm0 := nmod_lo n0 256 (by decide)
  have hm1 := nmod_hi n0 256 (by decide)
  obtain ⟨tk, hnm⟩ := Int.eq_ofNat_of_zero_le hm0
  rw [hnm] at hm1 ⊢
  clear hm0 hnm
  have htk : tk < 256 := by omega
  clear hm1
  have htk1 : ((tk : Nat) : Int) ≤ 255 := by omega
  go_wp2_with (fail)
  refine (number_any n1 256 wa W1.out (by decide) (by decide)).mono ?_
  rintro e wn ⟨rfl, rfl⟩
  have hm0 := nmod_lo n1 256 (by decide)
  have hm1 := nmod_hi n1 256 (by decide)
  obtain ⟨ot, hnm⟩ := Int.eq_ofNat_of_zero_le hm0
  rw [hnm] at hm1 ⊢
  clear hm0 hnm
  have hot : ot < 256 := by omega
  clear hm1
  go_wp2_with (fail)
  refine (number_any n2 2 wa W2.out (by decide) (by decide)).mono ?_
  rintro e wn ⟨rfl, rfl⟩
  have hm0 := nmod_lo n2 2 (by decide)
  have hm1 := nmod_hi n2 2 (by decide)
  obtain ⟨st, hnm⟩ := Int.eq_ofNat_of_zero_le hm0
  rw [hnm] at hm1 ⊢
  clear hm0 hnm
  have hst : st < 2 := by omega
  clear hm1
  go_wp2_with (fail)
  refine (number_any n3 100 wa W3.out (by decide) (by decide)).mono ?_
  rintro e wn ⟨rfl, rfl⟩
  have hm0 := nmod_lo n3 100 (by decide)
  have hm1 := nmod_hi n3 100 (by decide)
  obtain ⟨sz, hnm⟩ := Int.eq_ofNat_of_zero_le hm0
  rw [hnm] at hm1 ⊢
  clear hm0 hnm
  have hsz : sz < 100 := by omega
  clear hm1
  go_wp2_with (fail)
  refine (new_l (w0 := w) 20 3 100 (by decide) (by decide) (by decide) (by decide) (by decide) HBa.out).mono ?_
  rintro e wb ⟨p0, rfl, hl, hfo, hb⟩
  have HL0 := Shut.mk hl
  obtain ⟨g, hg⟩ : ∃ g, g = p0.g := ⟨_, rfl⟩
  rw [← hg]
  have HG0 := Shut.mk hg.symm
  clear hl hg hfo hb
  go_wp2_with (fail)
  have hcall := end_no HL0.out.se rfl E ((HL0.out.sent HS.out).at_ 110 (by decide))
  rw [HG0.out] at hcall
  refine hcall.mono ?_
  clear hcall
  rintro e wn ⟨rfl, rfl⟩
  go_wp2_with (fail)
  have hcall := isP_any E 110 110 wb (HL0.out.sent HS.out) (by decide) true (by rfl)
  refine hcall.mono ?_
  clear hcall
  rintro e w1_ ⟨rfl, hb⟩
  have HL_w1_ := Shut.mk (HL0.out.quiet hb)
  clear hb
  go_wp2_with (fail)
  have hcall := answer_no HL_w1_.out.se 0 0 0 (.inl (by show (1 : Nat) ≠ 2; decide)) E ((HL_w1_.out.sent HS.out).at_ 110 (by decide))
  rw [HG0.out] at hcall
  refine hcall.mono ?_
  clear hcall
  rintro e wn ⟨rfl, rfl⟩
  go_wp2_with (fail)
  have hcall := isP_any E 110 110 w1_ (HL_w1_.out.sent HS.out) (by decide) true (by rfl)
  refine hcall.mono ?_
  clear hcall
  rintro e w2_ ⟨rfl, hb⟩
  have HL_w2_ := Shut.mk (HL_w1_.out.quiet hb)
  clear hb
  go_wp2_with (fail)
  have hcall := fresh_l HL_w2_.out (by show (1 : Nat) ≠ 2; decide) rfl (by show 0 < 1; decide) 0 0 0 0 0 (by decide) (by decide) 0 100 rfl rfl
  rw [HG0.out] at hcall
  refine hcall.mono ?_
  clear hcall
  rintro e w3_ ⟨rfl, p1, hl1, -, hg1⟩
  have HG1 := Shut.mk hg1
  clear hg1
  obtain ⟨s1, hs1⟩ : ∃ s, s = freshB (newB 20 3 100) 0 0 0 0 0 100 := ⟨_, rfl⟩
  rw [← hs1] at hl1
  have HE1 := Shut.mk hs1
  clear hs1
  have HLa := Shut.mk hl1
  have HLL := Shut.mk (show s1.l = [((⟨⟨0, 0, 0, 0, []⟩, 0, 0, 100⟩, false) : Fm)] by rw [HE1.out]; rfl)
  have HST := Shut.mk (show s1.state = 1 by rw [HE1.out]; rfl)
  clear hl1
  have HBM := Shut.mk ((Below.refl w3_.heap.size w3_).alloc (Nat.le_refl _) (Obj.cells #[.int .i64 0, .int .u32 0, .int .i64 0, .int .i64 0, .slice none 0 0, .int .i64 ((0 : Nat) : Int), .int .i64 0, .int .i64 100] 40 (0, 0)))
  have HLb := Shut.mk (HLa.out.quiet HBM.out)
  go_wp2_with (fail)
  generalize World.alloc w3_ _ = w4_ at *
  have hcall := ask_no HLb.out.se ((tk : Nat) : Int) (by omega) (by omega) HST.out (by rw [HLL.out]; decide) E ((HLb.out.sent HS.out).at_ 110 (by decide))
  rw [HG1.out] at hcall
  refine hcall.mono ?_
  clear hcall
  rintro e w5_ ⟨rfl, nd, hnd⟩
  have HLc := Shut.mk (HLb.out.quiet (show Below w4_.heap.size w4_ w5_ by rw [hnd]; exact below_drewN (Below.refl _ _) nd))
  clear hnd
  go_wp2_with (fail)
  have hcall := isP_any E 110 110 w5_ (HLc.out.sent HS.out) (by decide) true (by rfl)
  refine hcall.mono ?_
  clear hcall
  rintro e w6_ ⟨rfl, hb⟩
  have HLd := Shut.mk (HLc.out.quiet hb)
  clear hb
  have HWC := Shut.mk (show wentC s1.l [0] = 0 by rw [HLL.out]; rfl)
  have HWT := Shut.mk (show wentT s1.l [0] = [((⟨⟨0, 0, 0, 0, []⟩, 0, 1, 100⟩, true) : Fm)] by
    rw [wentT_0 HWC.out, HLL.out]
    rfl)
  have HQWA := Shut.mk ((Below.refl w6_.heap.size w6_).alloc (Nat.le_refl _) (Obj.cells #[.int .i64 0] 3 (0, 0)))
  have HQWR := Shut.mk (row_lit1 (heap_alloc_last w6_ (Obj.cells #[.int .i64 0] 3 (0, 0))) (by omega) (by omega))
  have HQWL := Shut.mk (HLd.out.quiet HQWA.out)
  have HQWF := Shut.mk HLd.out.foot
  go_wp2_with (fail)
  generalize World.alloc w6_ _ = w6_x at *
  have hcall := went_l HQWL.out (HS.out.sub (by decide)) (some ⟨w6_.heap.size, 0, none⟩) 1 1 [0] HQWR.out (by decide) (fun a ha => by cases ha; exact fun e => by have h9 : w6_.heap.size < w6_.heap.size := (HQWF.out _ e).2; omega) (fun f hf => by rw [HLL.out] at hf; rw [List.mem_singleton.1 hf]; show 0 ≤ 1000000; decide) 0 HWC.out _ HWT.out
  rw [HG1.out] at hcall
  rw [errV_zero] at hcall
  refine hcall.mono ?_
  clear hcall
  rintro e w7_ ⟨rfl, hl2, -⟩
  obtain ⟨s2, hs2⟩ : ∃ s, s = { s1 with l := [((⟨⟨0, 0, 0, 0, []⟩, 0, 1, 100⟩, true) : Fm)] } := ⟨_, rfl⟩
  rw [← hs2] at hl2
  have HL_w7_ := Shut.mk hl2
  have HL2l := Shut.mk (show s2.l = [((⟨⟨0, 0, 0, 0, []⟩, 0, 1, 100⟩, true) : Fm)] by rw [hs2])
  have HL2r := Shut.mk (show s2.state = 1 ∧ s2.ask = false ∧ s2.size = 20 ∧ s2.x.sz = 1 ∧ nmW s2.x s2.x.gv = 1 by rw [hs2, HE1.out]; exact ⟨rfl, rfl, rfl, rfl, rfl⟩)
  clear hs2
  clear hl2 HQWA HQWR HQWL HQWF
  go_wp2_with (fail)
  have hcall := heard_l HL_w7_.out HT.out (by rw [HL2l.out]; rfl) 0 1 (by decide) (by decide) (by rw [HL2l.out]; rfl)
  rw [HG1.out] at hcall
  rw [show (toldM (ackP 0 1) s2.l).length = 1 by rw [HL2l.out]; rfl] at hcall
  rw [show (s2.l.filter fun f => !ackP 0 1 f) = [] by rw [HL2l.out]; rfl] at hcall
  refine hcall.mono ?_
  clear hcall
  rintro e w8_ ⟨Ah, ch, p2, x2, rfl, -, hl3, hsz3, hah3, -, hg3, -⟩
  have HG3 := Shut.mk hg3
  obtain ⟨s3, hs3⟩ : ∃ s, s = { s2 with x := x2, l := lostL [] } := ⟨_, rfl⟩
  rw [← hs3] at hl3
  have HLe := Shut.mk hl3
  have HF3 := Shut.mk (show s3.l = [] ∧ s3.state = 1 ∧ s3.ask = false ∧ s3.size = 20 ∧ s3.x.sz = 1 ∧ nmW s3.x s3.x.gv = 1 by
    rw [hs3]
    exact ⟨rfl, HL2r.out.1, HL2r.out.2.1, HL2r.out.2.2.1, hsz3.trans HL2r.out.2.2.2.1, hah3.trans HL2r.out.2.2.2.2⟩)
  clear hl3 hs3 hg3 hsz3 hah3
  go_wp2_with (fail)
  have hcall := ask_l HLe.out ((tk : Nat) : Int) (by omega) (by omega) HF3.out.2.1 HF3.out.1 1 HF3.out.2.2.2.2.2
  rw [HG3.out] at hcall
  refine hcall.mono ?_
  clear hcall
  rintro e w9_ ⟨rfl, hl4, -⟩
  obtain ⟨s4, hs4⟩ : ∃ s, s = { s3 with state := 2, token := ((tk : Nat) : Int) } := ⟨_, rfl⟩
  rw [← hs4] at hl4
  have HLf := Shut.mk hl4
  have HF4 := Shut.mk (show s4.l = [] ∧ s4.state = 2 ∧ s4.token = ((tk : Nat) : Int) ∧ s4.size = 20 ∧ s4.x.sz = 1 by
    rw [hs4]
    exact ⟨HF3.out.1, rfl, rfl, HF3.out.2.2.2.1, HF3.out.2.2.2.2.1⟩)
  clear hl4 hs4
  go_wp2_with (fail)
  have hcall := fresh_state HLf.out.se HF4.out.2.1 0 0 0 0 0 E ((HLf.out.sent HS.out).at_ 110 (by decide))
  rw [HG3.out] at hcall
  refine hcall.mono ?_
  clear hcall
  rintro e wA ⟨rfl, hb⟩
  have HLg := Shut.mk (HLf.out.quiet hb)
  clear hb
  have HBN := Shut.mk ((Below.refl wA.heap.size wA).alloc (Nat.le_refl _) (Obj.cells #[.int .i64 0, .int .u32 0, .int .i64 0, .int .i64 0, .slice none 0 0, .int .i64 0, .int .i64 0, .int .i64 0] 40 (0, 0)))
  have HLh := Shut.mk (HLg.out.quiet HBN.out)
  go_wp2_with (fail)
  generalize World.alloc wA _ = wB at *
  by_cases hto : ot = tk
  · subst hto
    have hcall := answer_l HLh.out 0 HF4.out.2.1 HF4.out.1 (by decide) ((ot : Nat) : Int) HF4.out.2.2.1 20 (by unfold sizeA; rw [if_pos rfl, HF4.out.2.2.2.1])
    rw [HG3.out] at hcall
    refine hcall.mono ?_
    clear hcall
    rintro e wC ⟨rfl, hl5, -⟩
    have HLi := Shut.mk hl5
    have HV := Shut.mk HLi.out.inv
    clear hl5
    go_wp2_with (fail)
    have hcall := state_any HLi.out.se
    rw [HG3.out] at hcall
    rw [show (((3 : Nat) : Int)) = 3 from rfl] at hcall
    refine hcall.mono ?_
    clear hcall
    rintro e wn ⟨rfl, rfl⟩
    go_wp2_with (fail)
    have hcall := isP_any E 110 110 wC (HLi.out.sent HS.out) (by decide) true (by rfl)
    refine hcall.mono ?_
    clear hcall
    rintro e wD ⟨rfl, hb⟩
    have HL_wD := Shut.mk (HLi.out.quiet hb)
    clear hb
    go_wp2_with (fail)
    have hcall := state_any HL_wD.out.se
    rw [HG3.out] at hcall
    rw [show (((3 : Nat) : Int)) = 3 from rfl] at hcall
    refine hcall.mono ?_
    clear hcall
    rintro e wn ⟨rfl, rfl⟩
    go_wp2_with (fail)
    have hcall := room_l HL_wD.out
    rw [HG3.out] at hcall
    rw [show (((newW s4.x.st 20).sz - (newW s4.x.st 20).gv : Nat) : Int) = 20 from rfl] at hcall
    refine hcall.mono ?_
    clear hcall
    rintro e wE ⟨rfl, hb⟩
    have HLj := Shut.mk (HL_wD.out.quiet hb)
    clear hb
    go_wp2_with (fail)
    go_ret
    exact ⟨rfl, HLj.out.bel⟩
  · have hne : (((ot : Nat) : Int) != ((tk : Nat) : Int)) = true := by simp; omega
    have hne2 : (((ot : Nat) : Int) == ((tk : Nat) : Int)) = false := by simp; omega
    have hne3 : (ot != tk) = true := by simp; omega
    have hne4 : (ot == tk) = false := by simp; omega
    have hcall := answer_no HLh.out.se ((ot : Nat) : Int) 0 0 (.inr (by rw [HF4.out.2.2.1]; omega)) E ((HLh.out.sent HS.out).at_ 110 (by decide))
    rw [HG3.out] at hcall
    refine hcall.mono ?_
    clear hcall
    rintro e wn ⟨rfl, rfl⟩
    go_wp2_with (fail)
    have hcall := state_any HLh.out.se
    rw [HG3.out] at hcall
    rw [HF4.out.2.1] at hcall
    rw [show (((2 : Nat) : Int)) = 2 from rfl] at hcall
    refine hcall.mono ?_
    clear hcall
    rintro e wn ⟨rfl, rfl⟩
    go_wp2_with (fail)
    have hcall := isP_any E 110 110 wB (HLh.out.sent HS.out) (by decide) true (by rfl)
    refine hcall.mono ?_
    clear hcall
    rintro e wC ⟨rfl, hb⟩
    have HL_wC := Shut.mk (HLh.out.quiet hb)
    clear hb
    go_wp2_with (fail)
    have hcall := isP_any E 110 110 wC (HL_wC.out.sent HS.out) (by decide) true (by rfl)
    refine hcall.mono ?_
    clear hcall
    rintro e wD ⟨rfl, hb⟩
    have HL_wD := Shut.mk (HL_wC.out.quiet hb)
    clear hb
    go_wp2_with (fail)
    rcases (show st = 0 ∨ st = 1 by omega) with rfl | rfl
    rotate_left
    · have hcall := answeroff_l HL_wD.out ((1 : Nat) : Int) ((sz : Nat) : Int) HF4.out.2.1 (by decide) ((tk : Nat) : Int) HF4.out.2.2.1
      rw [HG3.out] at hcall
      refine hcall.mono ?_
      clear hcall
      rintro e wE ⟨rfl, hl5, -⟩
      have HLi := Shut.mk hl5
      have HRM := Shut.mk (show s4.x.sz - s4.x.gv = 1 by
        have h1 := HLi.out.inv.inv
        rw [show Sb.l { s4 with state := 1 } = [] from HF4.out.1] at h1
        have h2 := h1.start_nil.1
        have h3 : s4.x.gv = 0 := h2
        rw [h3, HF4.out.2.2.2.2])
      clear hl5
      go_wp2_with (fail)
      have hcall := state_any HLi.out.se
      rw [HG3.out] at hcall
      rw [show (((1 : Nat) : Int)) = 1 from rfl] at hcall
      refine hcall.mono ?_
      clear hcall
      rintro e wn ⟨rfl, rfl⟩
      go_wp2_with (fail)
      have hcall := room_l HLi.out
      rw [HG3.out] at hcall
      rw [HRM.out] at hcall
      rw [show (((1 : Nat) : Int)) = 1 from rfl] at hcall
      refine hcall.mono ?_
      clear hcall
      rintro e wF ⟨rfl, hb⟩
      have HLj := Shut.mk (HLi.out.quiet hb)
      clear hb
      go_wp2_with (fail)
      go_ret
      exact ⟨rfl, HLj.out.bel⟩
    by_cases hz0 : sz = 0
    · subst hz0
      have hcall := answer_l HL_wD.out 0 HF4.out.2.1 HF4.out.1 (by omega) ((tk : Nat) : Int) HF4.out.2.2.1 20 (by unfold sizeA; rw [if_pos rfl, HF4.out.2.2.2.1])
      rw [HG3.out] at hcall
      refine hcall.mono ?_
      clear hcall
      rintro e wE ⟨rfl, hl5, -⟩
      have HLi := Shut.mk hl5
      clear hl5
      go_wp2_with (fail)
      have hcall := room_l HLi.out
      rw [HG3.out] at hcall
      rw [show (((newW s4.x.st 20).sz - (newW s4.x.st 20).gv : Nat) : Int) = ((20 : Nat) : Int) from rfl] at hcall
      refine hcall.mono ?_
      clear hcall
      rintro e wF ⟨rfl, hb⟩
      have HLj := Shut.mk (HLi.out.quiet hb)
      clear hb
      go_wp2_with (fail)
      have hcall := state_any HLj.out.se
      rw [HG3.out] at hcall
      rw [show (((3 : Nat) : Int)) = 3 from rfl] at hcall
      refine hcall.mono ?_
      clear hcall
      rintro e wn ⟨rfl, rfl⟩
      go_wp2_with (fail)
      have hcall := end_l HLj.out (by show (3 : Nat) ≠ 1; decide) HF4.out.1
      rw [HG3.out] at hcall
      refine hcall.mono ?_
      clear hcall
      rintro e wG ⟨rfl, hl6, -⟩
      have HLk := Shut.mk hl6
      clear hl6
      go_wp2_with (fail)
      have hcall := state_any HLk.out.se
      rw [HG3.out] at hcall
      rw [show (((1 : Nat) : Int)) = 1 from rfl] at hcall
      refine hcall.mono ?_
      clear hcall
      rintro e wn ⟨rfl, rfl⟩
      go_wp2_with (fail)
      have hcall := room_l HLk.out
      rw [HG3.out] at hcall
      rw [show (((newW (newW s4.x.st 20).st 1).sz - (newW (newW s4.x.st 20).st 1).gv : Nat) : Int) = 1 from rfl] at hcall
      refine hcall.mono ?_
      clear hcall
      rintro e wH ⟨rfl, hb⟩
      have HLl := Shut.mk (HLk.out.quiet hb)
      clear hb
      go_wp2_with (fail)
      go_ret
      exact ⟨rfl, HLl.out.bel⟩
    by_cases hz1 : sz < 20
    · have hzi : ((sz : Nat) : Int) < 20 := by omega
      have hzn : ¬ (20 : Int) ≤ ((sz : Nat) : Int) := by omega
      have hzj : (0 : Int) < ((sz : Nat) : Int) := by omega
      have hcall := answer_l HL_wD.out sz HF4.out.2.1 HF4.out.1 (by omega) ((tk : Nat) : Int) HF4.out.2.2.1 sz (by unfold sizeA; rw [if_neg hz0, HF4.out.2.2.2.1]; omega)
      rw [HG3.out] at hcall
      refine hcall.mono ?_
      clear hcall
      rintro e wE ⟨rfl, hl5, -⟩
      have HLi := Shut.mk hl5
      clear hl5
      go_wp2_with (fail)
      have hcall := room_l HLi.out
      rw [HG3.out] at hcall
      rw [show (((newW s4.x.st sz).sz - (newW s4.x.st sz).gv : Nat) : Int) = ((sz : Nat) : Int) from rfl] at hcall
      refine hcall.mono ?_
      clear hcall
      rintro e wF ⟨rfl, hb⟩
      have HLj := Shut.mk (HLi.out.quiet hb)
      clear hb
      go_wp2_with (fail)
      have hcall := state_any HLj.out.se
      rw [HG3.out] at hcall
      rw [show (((3 : Nat) : Int)) = 3 from rfl] at hcall
      refine hcall.mono ?_
      clear hcall
      rintro e wn ⟨rfl, rfl⟩
      go_wp2_with (fail)
      have hcall := end_l HLj.out (by show (3 : Nat) ≠ 1; decide) HF4.out.1
      rw [HG3.out] at hcall
      refine hcall.mono ?_
      clear hcall
      rintro e wG ⟨rfl, hl6, -⟩
      have HLk := Shut.mk hl6
      clear hl6
      go_wp2_with (fail)
      have hcall := state_any HLk.out.se
      rw [HG3.out] at hcall
      rw [show (((1 : Nat) : Int)) = 1 from rfl] at hcall
      refine hcall.mono ?_
      clear hcall
      rintro e wn ⟨rfl, rfl⟩
      go_wp2_with (fail)
      have hcall := room_l HLk.out
      rw [HG3.out] at hcall
      rw [show (((newW (newW s4.x.st sz).st 1).sz - (newW (newW s4.x.st sz).st 1).gv : Nat) : Int) = 1 from rfl] at hcall
      refine hcall.mono ?_
      clear hcall
      rintro e wH ⟨rfl, hb⟩
      have HLl := Shut.mk (HLk.out.quiet hb)
      clear hb
      go_wp2_with (fail)
      go_ret
      exact ⟨rfl, HLl.out.bel⟩
    · have hzj : (0 : Int) < ((sz : Nat) : Int) := by omega
      have hzk : (20 : Int) ≤ ((sz : Nat) : Int) := by omega
      have hcall := answer_l HL_wD.out sz HF4.out.2.1 HF4.out.1 (by omega) ((tk : Nat) : Int) HF4.out.2.2.1 20 (by unfold sizeA; rw [if_neg hz0, HF4.out.2.2.2.1]; omega)
      rw [HG3.out] at hcall
      refine hcall.mono ?_
      clear hcall
      rintro e wE ⟨rfl, hl5, -⟩
      have HLi := Shut.mk hl5
      clear hl5
      go_wp2_with (fail)
      have hcall := room_l HLi.out
      rw [HG3.out] at hcall
      rw [show (((newW s4.x.st 20).sz - (newW s4.x.st 20).gv : Nat) : Int) = ((20 : Nat) : Int) from rfl] at hcall
      refine hcall.mono ?_
      clear hcall
      rintro e wF ⟨rfl, hb⟩
      have HLj := Shut.mk (HLi.out.quiet hb)
      clear hb
      go_wp2_with (fail)
      have hcall := state_any HLj.out.se
      rw [HG3.out] at hcall
      rw [show (((3 : Nat) : Int)) = 3 from rfl] at hcall
      refine hcall.mono ?_
      clear hcall
      rintro e wn ⟨rfl, rfl⟩
      go_wp2_with (fail)
      have hcall := end_l HLj.out (by show (3 : Nat) ≠ 1; decide) HF4.out.1
      rw [HG3.out] at hcall
      refine hcall.mono ?_
      clear hcall
      rintro e wG ⟨rfl, hl6, -⟩
      have HLk := Shut.mk hl6
      clear hl6
      go_wp2_with (fail)
      have hcall := state_any HLk.out.se
      rw [HG3.out] at hcall
      rw [show (((1 : Nat) : Int)) = 1 from rfl] at hcall
      refine hcall.mono ?_
      clear hcall
      rintro e wn ⟨rfl, rfl⟩
      go_wp2_with (fail)
      have hcall := room_l HLk.out
      rw [HG3.out] at hcall
      rw [show (((newW (newW s4.x.st 20).st 1).sz - (newW (newW s4.x.st 20).st 1).gv : Nat) : Int) = 1 from rfl] at hcall
      refine hcall.mono ?_
      clear hcall
      rintro e wH ⟨rfl, hb⟩
      have HLl := Shut.mk (HLk.out.quiet hb)
      clear hb
      go_wp2_with (fail)
      go_ret
      exact ⟨rfl, HLl.out.bel⟩

end Go.Proofs.YtlbfioknkagboaaDoor.baStates
