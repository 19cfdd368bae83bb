/-
  The walk of muezzin/muezzinlaw16.BaLives: the Go text returns true.
-/
import Derived.Test.YtlbfioknkagboaaDoorSeM
import Derived.Test.YtlbfioknkagboaaDoorErrP
import Derived.LoopTactic
import Derived.Deep.CutRange
import Derived.Deep.CutBlock
import Derived.WalkKit
import Derived.ProofKit
import Derived.Below
namespace Go.Proofs.YtlbfioknkagboaaDoor.baLives
open Go.ChangeShapes Go.WideShapes Go.ChangeAt Go.RowKit Go.Deep
set_option linter.unusedVariables false
set_option linter.unusedSimpArgs false


open Go.Proofs.YtlbfioknkagboaaDoor
theorem row_lit1 {w : World} {g : Nat} {v : Int} {T : TypeId} (hg : w.heap[g]? = some (.cells #[.int .i64 v] T (0, 0))) (h0 : -9223372036854775808 ≤ v) (h1 : v ≤ 9223372036854775807) : RowB .i64 w (some ⟨g, 0, none⟩) 1 [v] :=
  ⟨rfl, by unfold maxLen; omega, fun i hi => by
    have e : i = 0 := by omega
    subst e
    have a : IntKind.i64.min = -9223372036854775808 := by decide
    have b : IntKind.i64.max = 9223372036854775807 := by decide
    rw [a, b]
    exact ⟨h0, h1⟩, fun _ => ⟨g, 0, rfl, fun i hi => by
    have e : i = 0 := by omega
    subst e
    have h9 := block_range hg 0 _ rfl
    exact h9⟩⟩
theorem gone_one {retry : Nat} {now : Int} {f : Fm} (h : goneP retry now f = true) : toldM (goneP retry now) [f] = [f.1] ∧ whyL retry now [f] = [((whyF retry now f : Nat) : Int)] := by
  have h1 : whyF retry now f ≠ 0 := of_decide_eq_true h
  constructor
  · unfold toldM; rw [List.filter_cons, if_pos h]; rfl
  · unfold whyL
    rw [List.map_cons, List.map_nil]
    generalize whyF retry now f = y at *
    rw [List.filter_cons, if_pos (by simp; omega)]; rfl
theorem gone_none {retry : Nat} {now : Int} {f : Fm} (h : goneP retry now f = false) : toldM (goneP retry now) [f] = [] ∧ whyL retry now [f] = [] := by
  have h1 : whyF retry now f = 0 := Decidable.of_not_not (of_decide_eq_false h)
  constructor
  · unfold toldM; rw [List.filter_cons, if_neg (by rw [h]; simp)]; rfl
  · unfold whyL
    rw [List.map_cons, List.map_nil, h1]; rfl
theorem gv_one {x : Wo} {f : Fm} (h : InvX x [f]) (hz : x.sz = 1) : x.sz - x.gv = 0 := by have h1 := h.le.1; have h2 := h.inv.gv; have h3 : [f].length = 1 := rfl; omega
theorem gv_nil {x : Wo} (h : InvX x []) : x.sz - x.gv = x.sz := by rw [h.start_nil.1]; rfl

/-! ### THE WALK -/
set_option maxRecDepth 100000 in
set_option maxHeartbeats 8000000 in
theorem walk (n0 : Int) (n1 : Int) (b2 : Bool) (w : World) (E : Nat → Addr) (hS : Sent w E [103, 107, 109, 110]) (hT : Tab64 w) (w0 : (Lit.int .i64 n0).wf = true) (w1 : (Lit.int .i64 n1).wf = true) :
    Calls Tryd.prog 6 #[.int .i64 n0, .int .i64 n1, .bool b2] w fun e w' => e = .returned (.bool true) ∧ Below w.heap.size w w' := by
  have HS := Shut.mk hS
  have HT := Shut.mk hT
  have W0 := Shut.mk w0
  have W1 := Shut.mk w1
  clear hS hT w0 w1
  go_enter Tryd.func6, Tryd.ntmps6
  go_wp2_with (fail)
  refine (first_any w).mono ?_
  rintro e wa ⟨rfl, hBa⟩
  have HBa := Shut.mk hBa
  clear hBa
  go_wp2_with (fail)
  refine (number_any n0 1000 wa W0.out (by decide) (by decide)).mono ?_
  rintro e wn ⟨rfl, rfl⟩
  have hm0 := nmod_lo n0 1000 (by decide)
  have hm1 := nmod_hi n0 1000 (by decide)
  obtain ⟨m, hnm⟩ := Int.eq_ofNat_of_zero_le hm0
  rw [hnm] at hm1 ⊢
  clear hm0 hnm
  have hm : m < 1000 := by omega
  clear hm1
  obtain ⟨z, hz⟩ : ∃ z : Nat, z = m + 1 := ⟨_, rfl⟩
  have HSZ := Shut.mk (show ((m : Nat) : Int) + 1 = ((z : Nat) : Int) by omega)
  have hz1 : 1 ≤ z := by omega
  have hz2 : z ≤ 1000 := by omega
  have hmz : ((m : Nat) : Int) < 1000 := by omega
  clear hz hm
  go_wp2_with (fail)
  rw [HSZ.out]
  refine (number_any n1 2000 wa W1.out (by decide) (by decide)).mono ?_
  rintro e wn ⟨rfl, rfl⟩
  have hm0 := nmod_lo n1 2000 (by decide)
  have hm1 := nmod_hi n1 2000 (by decide)
  obtain ⟨t, hnm⟩ := Int.eq_ofNat_of_zero_le hm0
  rw [hnm] at hm1 ⊢
  clear hm0 hnm
  have ht : t < 2000 := by omega
  clear hm1
  clear hmz
  have hz3 : ((z : Nat) : Int) ≤ 1000 := by omega
  have ht3 : ((t : Nat) : Int) < 2000 := by omega
  go_wp2_with (fail)
  refine (new_l (w0 := w) 4 3 ((z : Nat) : Int) (by decide) (by decide) (by decide) (by omega) (by omega) HBa.out).mono ?_
  rintro e wb ⟨p0, rfl, hl, hfo, hb⟩
  have HL0 := Shut.mk hl
  obtain ⟨g, hg⟩ : ∃ g, g = p0.g := ⟨_, rfl⟩
  rw [← hg]
  have HG0 := Shut.mk hg.symm
  clear hl hg hfo hb
  go_wp2_with (fail)
  have hcall := fresh_l HL0.out (by show (1 : Nat) ≠ 2; decide) rfl (by show 0 < 1; decide) 5 0 0 0 100 (by decide) (by decide) 0 (100 + ((z : Nat) : Int)) rfl rfl
  rw [HG0.out] at hcall
  refine hcall.mono ?_
  clear hcall
  rintro e wc ⟨rfl, p1, hl1, -, hg1⟩
  have HG1 := Shut.mk hg1
  clear hg1
  obtain ⟨s1, hs1⟩ : ∃ s, s = freshB (newB 4 3 ((z : Nat) : Int)) 5 0 0 0 0 (100 + ((z : Nat) : Int)) := ⟨_, rfl⟩
  rw [← hs1] at hl1
  have HE1 := Shut.mk hs1
  clear hs1
  have HL1 := Shut.mk hl1
  have HR1 := Shut.mk (show s1.retry = 3 by rw [HE1.out]; rfl)
  have HST := Shut.mk (show s1.state = 1 by rw [HE1.out]; rfl)
  have HAK := Shut.mk (show s1.ask = false by rw [HE1.out]; rfl)
  have HXS := Shut.mk (show s1.x.sz = 1 by rw [HE1.out]; rfl)
  have HLL := Shut.mk (show s1.l = [((⟨⟨5, 0, 0, 0, []⟩, 0, 0, 100 + ((z : Nat) : Int)⟩, false) : Fm)] by rw [HE1.out]; rfl)
  clear hl1
  cases b2 with
  | false =>
    have HA := Shut.mk ((Below.refl wc.heap.size wc).alloc (Nat.le_refl _) (Obj.cells #[.int .i64 5, .int .u32 0, .int .i64 0, .int .i64 0, .slice none 0 0, .int .i64 ((0 : Nat) : Int), .int .i64 0, .int .i64 (100 + ((z : Nat) : Int))] 40 (0, 0)))
    have c7 : (wc.alloc (Obj.cells #[.int .i64 5, .int .u32 0, .int .i64 0, .int .i64 0, .slice none 0 0, .int .i64 ((0 : Nat) : Int), .int .i64 0, .int .i64 (100 + ((z : Nat) : Int))] 40 (0, 0))).cell? ⟨wc.heap.size, 7, none⟩ = some (.int .i64 (100 + ((z : Nat) : Int))) := by have h9 := (block_range (heap_alloc_last wc (Obj.cells #[.int .i64 5, .int .u32 0, .int .i64 0, .int .i64 0, .slice none 0 0, .int .i64 ((0 : Nat) : Int), .int .i64 0, .int .i64 (100 + ((z : Nat) : Int))] 40 (0, 0)))) 7 _ rfl; rw [Nat.zero_add] at h9; exact h9
    go_wp2_with (fail)
    generalize World.alloc wc _ = wd at *
    have HL2 := Shut.mk (HL1.out.quiet HA.out)
    clear c7
    by_cases hgone : z < t
    · have HGP := Shut.mk (show goneP s1.retry (100 + ((t : Nat) : Int)) ((⟨⟨5, 0, 0, 0, []⟩, 0, 0, 100 + ((z : Nat) : Int)⟩, false) : Fm) = true by
        rw [HR1.out]
        unfold goneP whyF whyM
        simp; omega)
      have HWY := Shut.mk (show ((whyF s1.retry (100 + ((t : Nat) : Int)) ((⟨⟨5, 0, 0, 0, []⟩, 0, 0, 100 + ((z : Nat) : Int)⟩, false) : Fm) : Nat) : Int) = 4 by
        have h9 : whyF s1.retry (100 + ((t : Nat) : Int)) ((⟨⟨5, 0, 0, 0, []⟩, 0, 0, 100 + ((z : Nat) : Int)⟩, false) : Fm) = 4 := by
          rw [HR1.out]
          unfold whyF whyM
          rw [if_neg (by simp), if_neg (by simp), if_pos (by show 100 + ((z : Nat) : Int) < 100 + ((t : Nat) : Int); omega)]
        rw [h9]; rfl)
      have HTM := Shut.mk (gone_one HGP.out)
      rw [← HLL.out] at HTM
      have hcall := sweep_l HL2.out HT.out (100 + ((t : Nat) : Int))
      rw [HG1.out] at hcall
      rw [HTM.out.1] at hcall
      rw [HTM.out.2] at hcall
      refine hcall.mono ?_
      clear hcall
      rintro e wf ⟨A, c, Au, cu, p3, t1, rfl, hrow, hrw, hl3, hsw, -, hg3, hcA, hcu⟩
      have HL3 := Shut.mk hl3
      have HG3 := Shut.mk hg3
      have HSW := Shut.mk hsw
      obtain ⟨b0, o0, rfl, hrg⟩ := hrow.el 0 (by show 0 < 1; decide)
      have ci : wf.cell? ⟨b0, o0, none⟩ = some (.int .i64 5) := by have h9 := hrg 0 _ rfl; exact h9
      have hrn := hrw.row (by show 1 ≤ maxLen; unfold maxLen; decide) (fun x hx => by rw [List.mem_singleton.1 hx, HWY.out]; omega)
      obtain ⟨b1, o1, rfl, hw1⟩ := hrn.el 0 (by show 0 < 1; decide)
      have cy : wf.cell? ⟨b1, o1, none⟩ = some (.int .i64 4) := by have h9 := hw1; rw [List.getD_cons_zero, HWY.out] at h9; exact h9
      have hA1 : (1 : Int) ≤ (c : Int) := by have h9 : ([(⟨⟨5, 0, 0, 0, []⟩, 0, 0, 100 + ((z : Nat) : Int)⟩ : Mp)]).length ≤ c := hcA; have h8 : 1 ≤ c := h9; omega
      clear hrg hw1 hrn
      clear hrow hrw hl3 hsw hcA hcu hg3
      have hlt : ((z : Nat) : Int) < ((t : Nat) : Int) := by omega
      go_wp2_with (fail)
      have hcall := bar_l HL3.out
      rw [HG3.out] at hcall
      rw [(HSW.out.no (.inr (by rw [HST.out]; decide))).1] at hcall
      rw [(HSW.out.no (.inr (by rw [HST.out]; decide))).2] at hcall
      rw [HAK.out] at hcall
      refine hcall.mono ?_
      clear hcall
      rintro e wg ⟨rfl, hb⟩
      have HL4 := Shut.mk (HL3.out.quiet hb)
      clear hb
      go_wp2_with (fail)
      have HRM := Shut.mk (show t1.x.sz - t1.x.gv = 1 by
        have h1 := HSW.out.inv
        have h2 := HSW.out.l
        have h3 := HSW.out.sz
        rw [h2, HLL.out] at h1
        rw [HXS.out] at h3
        rw [List.filter_cons, if_neg (by rw [HGP.out]; simp), List.filter_nil] at h1
        rw [gv_nil h1, h3])
      have hcall := room_l HL4.out
      rw [HG3.out] at hcall
      rw [HRM.out] at hcall
      refine hcall.mono ?_
      clear hcall
      rintro e wh ⟨rfl, hb⟩
      have HBE := Shut.mk (HL4.out.bel.trans (hb.mono HL4.out.bel.size))
      clear hb
      go_wp2_with (fail)
      refine (number_any 1 2 wh (by decide) (by decide) (by decide)).mono ?_
      rintro e wn ⟨rfl, rfl⟩
      rw [show nmod 1 2 = 1 by decide]
      go_wp2_with (fail)
      go_ret
      exact ⟨rfl, HBE.out⟩
    · have HGP := Shut.mk (show goneP s1.retry (100 + ((t : Nat) : Int)) ((⟨⟨5, 0, 0, 0, []⟩, 0, 0, 100 + ((z : Nat) : Int)⟩, false) : Fm) = false by
        rw [HR1.out]
        unfold goneP whyF whyM
        simp; omega)
      have HTM := Shut.mk (gone_none HGP.out)
      rw [← HLL.out] at HTM
      have hcall := sweep_l HL2.out HT.out (100 + ((t : Nat) : Int))
      rw [HG1.out] at hcall
      rw [HTM.out.1] at hcall
      rw [HTM.out.2] at hcall
      refine hcall.mono ?_
      clear hcall
      rintro e wf ⟨A, c, Au, cu, p3, t1, rfl, hrow, hrw, hl3, hsw, -, hg3, hcA, hcu⟩
      have HL3 := Shut.mk hl3
      have HG3 := Shut.mk hg3
      have HSW := Shut.mk hsw
      clear hrow hrw hl3 hsw hcA hcu hg3
      have hlt : ¬ ((z : Nat) : Int) < ((t : Nat) : Int) := by omega
      go_wp2_with (fail)
      have hcall := bar_l HL3.out
      rw [HG3.out] at hcall
      rw [(HSW.out.no (.inr (by rw [HST.out]; decide))).1] at hcall
      rw [(HSW.out.no (.inr (by rw [HST.out]; decide))).2] at hcall
      rw [HAK.out] at hcall
      refine hcall.mono ?_
      clear hcall
      rintro e wg ⟨rfl, hb⟩
      have HL4 := Shut.mk (HL3.out.quiet hb)
      clear hb
      go_wp2_with (fail)
      have HRM := Shut.mk (show t1.x.sz - t1.x.gv = 0 by
        have h1 := HSW.out.inv
        have h2 := HSW.out.l
        have h3 := HSW.out.sz
        rw [h2, HLL.out] at h1
        rw [HXS.out] at h3
        rw [List.filter_cons, if_pos (by rw [HGP.out]; rfl), List.filter_nil] at h1
        exact gv_one h1 h3)
      have hcall := room_l HL4.out
      rw [HG3.out] at hcall
      rw [HRM.out] at hcall
      refine hcall.mono ?_
      clear hcall
      rintro e wh ⟨rfl, hb⟩
      have HBE := Shut.mk (HL4.out.bel.trans (hb.mono HL4.out.bel.size))
      clear hb
      go_wp2_with (fail)
      refine (number_any 0 2 wh (by decide) (by decide) (by decide)).mono ?_
      rintro e wn ⟨rfl, rfl⟩
      rw [show nmod 0 2 = 0 by decide]
      go_wp2_with (fail)
      go_ret
      exact ⟨rfl, HBE.out⟩
  | true =>
    have H2 := Shut.mk (two_alloc wc (Obj.cells #[.int .i64 5, .int .u32 0, .int .i64 0, .int .i64 0, .slice none 0 0, .int .i64 ((0 : Nat) : Int), .int .i64 0, .int .i64 (100 + ((z : Nat) : Int))] 40 (0, 0)) (Obj.cells #[.int .i64 0] 3 (0, 0)))
    have HA := Shut.mk ((Below.refl wc.heap.size wc).alloc (Nat.le_refl _) (Obj.cells #[.int .i64 5, .int .u32 0, .int .i64 0, .int .i64 0, .slice none 0 0, .int .i64 ((0 : Nat) : Int), .int .i64 0, .int .i64 (100 + ((z : Nat) : Int))] 40 (0, 0)))
    have c7 : (wc.alloc (Obj.cells #[.int .i64 5, .int .u32 0, .int .i64 0, .int .i64 0, .slice none 0 0, .int .i64 ((0 : Nat) : Int), .int .i64 0, .int .i64 (100 + ((z : Nat) : Int))] 40 (0, 0))).cell? ⟨wc.heap.size, 7, none⟩ = some (.int .i64 (100 + ((z : Nat) : Int))) := by have h9 := (block_range (heap_alloc_last wc (Obj.cells #[.int .i64 5, .int .u32 0, .int .i64 0, .int .i64 0, .slice none 0 0, .int .i64 ((0 : Nat) : Int), .int .i64 0, .int .i64 (100 + ((z : Nat) : Int))] 40 (0, 0)))) 7 _ rfl; rw [Nat.zero_add] at h9; exact h9
    go_wp2_with (fail)
    generalize (wc.alloc _).alloc _ = wd at *
    have HL2 := Shut.mk (HL1.out.quiet H2.out.1)
    have HROW := Shut.mk (row_lit1 H2.out.2.2.1 (by decide) (by decide))
    have HF1 := Shut.mk HL1.out.foot
    have HWC := Shut.mk (show wentC s1.l [0] = 0 by rw [HLL.out]; rfl)
    have HWT := Shut.mk (show wentT s1.l [0] = [((⟨⟨5, 0, 0, 0, []⟩, 0, 1, 100 + ((z : Nat) : Int)⟩, true) : Fm)] by
      rw [wentT_0 HWC.out, HLL.out]
      rfl)
    clear c7 HA
    have hcall := went_l HL2.out (HS.out.sub (by decide)) (some ⟨wc.heap.size + 1, 0, none⟩) 1 1 [0] HROW.out (by decide) (fun a ha => by cases ha; exact fun e => by have h9 : wc.heap.size + 1 < wc.heap.size := (HF1.out _ e).2; omega) (fun f hf => by rw [HLL.out] at hf; rw [List.mem_singleton.1 hf]; show 0 ≤ 1000000; decide) 0 HWC.out _ HWT.out
    rw [HG1.out] at hcall
    rw [errV_zero] at hcall
    refine hcall.mono ?_
    clear hcall
    rintro e we ⟨rfl, hl3, -⟩
    obtain ⟨s2, hs2⟩ : ∃ s, s = { s1 with l := [((⟨⟨5, 0, 0, 0, []⟩, 0, 1, 100 + ((z : Nat) : Int)⟩, true) : Fm)] } := ⟨_, rfl⟩
    rw [← hs2] at hl3
    have HL3a := Shut.mk hl3
    have HRa := Shut.mk (show s2.retry = 3 by rw [hs2]; exact HR1.out)
    have HSTa := Shut.mk (show s2.state = 1 by rw [hs2]; exact HST.out)
    have HAKa := Shut.mk (show s2.ask = false by rw [hs2]; exact HAK.out)
    have HXSa := Shut.mk (show s2.x.sz = 1 by rw [hs2]; exact HXS.out)
    have HLLa := Shut.mk (show s2.l = [((⟨⟨5, 0, 0, 0, []⟩, 0, 1, 100 + ((z : Nat) : Int)⟩, true) : Fm)] by rw [hs2])
    clear hl3 hs2 HR1 HST HAK HXS HLL HE1 HL1 HL2
    have HR1 := HRa
    have HST := HSTa
    have HAK := HAKa
    have HXS := HXSa
    have HLL := HLLa
    clear HRa HSTa HAKa HXSa HLLa
    obtain ⟨s1, hs1⟩ : ∃ s, s = s2 := ⟨_, rfl⟩
    rw [← hs1] at HL3a HR1 HST HAK HXS HLL
    clear hs1
    go_wp2_with (fail)
    rcases Decidable.em (((z : Nat) : Int) < ((t : Nat) : Int)) with hlt | hlt
    · have HGP := Shut.mk (show goneP s1.retry (100 + ((t : Nat) : Int)) ((⟨⟨5, 0, 0, 0, []⟩, 0, 1, 100 + ((z : Nat) : Int)⟩, true) : Fm) = false by
        rw [HR1.out]
        unfold goneP whyF whyM
        simp)
      have HTM := Shut.mk (gone_none HGP.out)
      rw [← HLL.out] at HTM
      have hcall := sweep_l HL3a.out HT.out (100 + ((t : Nat) : Int))
      rw [HG1.out] at hcall
      rw [HTM.out.1] at hcall
      rw [HTM.out.2] at hcall
      refine hcall.mono ?_
      clear hcall
      rintro e wf ⟨A, c, Au, cu, p3, t1, rfl, hrow, hrw, hl3, hsw, -, hg3, hcA, hcu⟩
      have HL3 := Shut.mk hl3
      have HG3 := Shut.mk hg3
      have HSW := Shut.mk hsw
      clear hrow hrw hl3 hsw hcA hcu hg3
      go_wp2_with (fail)
      have hcall := bar_l HL3.out
      rw [HG3.out] at hcall
      rw [(HSW.out.no (.inr (by rw [HST.out]; decide))).1] at hcall
      rw [(HSW.out.no (.inr (by rw [HST.out]; decide))).2] at hcall
      rw [HAK.out] at hcall
      refine hcall.mono ?_
      clear hcall
      rintro e wg ⟨rfl, hb⟩
      have HL4 := Shut.mk (HL3.out.quiet hb)
      clear hb
      go_wp2_with (fail)
      have HRM := Shut.mk (show t1.x.sz - t1.x.gv = 0 by
        have h1 := HSW.out.inv
        have h2 := HSW.out.l
        have h3 := HSW.out.sz
        rw [h2, HLL.out] at h1
        rw [HXS.out] at h3
        rw [List.filter_cons, if_pos (by rw [HGP.out]; rfl), List.filter_nil] at h1
        exact gv_one h1 h3)
      have hcall := room_l HL4.out
      rw [HG3.out] at hcall
      rw [HRM.out] at hcall
      refine hcall.mono ?_
      clear hcall
      rintro e wh ⟨rfl, hb⟩
      have HBE := Shut.mk (HL4.out.bel.trans (hb.mono HL4.out.bel.size))
      clear hb
      go_wp2_with (fail)
      refine (number_any 0 2 wh (by decide) (by decide) (by decide)).mono ?_
      rintro e wn ⟨rfl, rfl⟩
      rw [show nmod 0 2 = 0 by decide]
      go_wp2_with (fail)
      go_ret
      exact ⟨rfl, HBE.out⟩
    · have HGP := Shut.mk (show goneP s1.retry (100 + ((t : Nat) : Int)) ((⟨⟨5, 0, 0, 0, []⟩, 0, 1, 100 + ((z : Nat) : Int)⟩, true) : Fm) = false by
        rw [HR1.out]
        unfold goneP whyF whyM
        simp)
      have HTM := Shut.mk (gone_none HGP.out)
      rw [← HLL.out] at HTM
      have hcall := sweep_l HL3a.out HT.out (100 + ((t : Nat) : Int))
      rw [HG1.out] at hcall
      rw [HTM.out.1] at hcall
      rw [HTM.out.2] at hcall
      refine hcall.mono ?_
      clear hcall
      rintro e wf ⟨A, c, Au, cu, p3, t1, rfl, hrow, hrw, hl3, hsw, -, hg3, hcA, hcu⟩
      have HL3 := Shut.mk hl3
      have HG3 := Shut.mk hg3
      have HSW := Shut.mk hsw
      clear hrow hrw hl3 hsw hcA hcu hg3
      go_wp2_with (fail)
      have hcall := bar_l HL3.out
      rw [HG3.out] at hcall
      rw [(HSW.out.no (.inr (by rw [HST.out]; decide))).1] at hcall
      rw [(HSW.out.no (.inr (by rw [HST.out]; decide))).2] at hcall
      rw [HAK.out] at hcall
      refine hcall.mono ?_
      clear hcall
      rintro e wg ⟨rfl, hb⟩
      have HL4 := Shut.mk (HL3.out.quiet hb)
      clear hb
      go_wp2_with (fail)
      have HRM := Shut.mk (show t1.x.sz - t1.x.gv = 0 by
        have h1 := HSW.out.inv
        have h2 := HSW.out.l
        have h3 := HSW.out.sz
        rw [h2, HLL.out] at h1
        rw [HXS.out] at h3
        rw [List.filter_cons, if_pos (by rw [HGP.out]; rfl), List.filter_nil] at h1
        exact gv_one h1 h3)
      have hcall := room_l HL4.out
      rw [HG3.out] at hcall
      rw [HRM.out] at hcall
      refine hcall.mono ?_
      clear hcall
      rintro e wh ⟨rfl, hb⟩
      have HBE := Shut.mk (HL4.out.bel.trans (hb.mono HL4.out.bel.size))
      clear hb
      go_wp2_with (fail)
      refine (number_any 0 2 wh (by decide) (by decide) (by decide)).mono ?_
      rintro e wn ⟨rfl, rfl⟩
      rw [show nmod 0 2 = 0 by decide]
      go_wp2_with (fail)
      go_ret
      exact ⟨rfl, HBE.out⟩

end Go.Proofs.YtlbfioknkagboaaDoor.baLives
