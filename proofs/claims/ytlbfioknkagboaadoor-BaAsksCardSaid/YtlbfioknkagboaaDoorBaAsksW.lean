/-
  The walk of muezzin/muezzinlaw16.BaAsks: the Go text returns true.
-/
import Derived.Test.YtlbfioknkagboaaDoorSeO
import Derived.Test.YtlbfioknkagboaaDoorErrP
import Derived.LoopTactic
import Derived.Deep.CutRange
import Derived.Deep.CutBlock
import Derived.WalkKit
import Derived.ProofKit
import Derived.Below
namespace Go.Proofs.YtlbfioknkagboaaDoor.baAsks
open Go.ChangeShapes Go.WideShapes Go.ChangeAt Go.RowKit Go.Deep
set_option linter.unusedVariables false
set_option linter.unusedSimpArgs false


open Go.Proofs.YtlbfioknkagboaaDoor

/-! ### THE WALK -/
set_option maxRecDepth 100000 in
set_option maxHeartbeats 8000000 in
theorem walk (n0 : Int) (n1 : Int) (n2 : Int) (w : World) (E : Nat → Addr) (hS : Sent w E [101, 102, 103, 104, 105, 106, 107, 108, 109, 110, 111, 112, 113, 114]) (hT : Tab64 w) (w0 : (Lit.int .i64 n0).wf = true) (w1 : (Lit.int .i64 n1).wf = true) (w2 : (Lit.int .i64 n2).wf = true) :
    Calls Tryd.prog 5 #[.int .i64 n0, .int .i64 n1, .int .i64 n2] w fun e w' => e = .returned (.bool true) ∧ Below w.heap.size w w' := by
  have HS := Shut.mk hS
  have HT := Shut.mk hT
  have W0 := Shut.mk w0
  have W1 := Shut.mk w1
  have W2 := Shut.mk w2
  clear hS hT w0 w1 w2
  go_enter Tryd.func5, Tryd.ntmps5
  go_wp2_with (fail)
  refine (first_any w).mono ?_
  rintro e wa ⟨rfl, hBa⟩
  have HBa := Shut.mk hBa
  clear hBa
  go_wp2_with (fail)
  refine (number_any n0 6 wa W0.out (by decide) (by decide)).mono ?_
  rintro e wn ⟨rfl, rfl⟩
  have hm0 := nmod_lo n0 6 (by decide)
  have hm1 := nmod_hi n0 6 (by decide)
  obtain ⟨r, hnm⟩ := Int.eq_ofNat_of_zero_le hm0
  rw [hnm] at hm1 ⊢
  clear hm0 hnm
  have hr : r < 6 := by omega
  clear hm1
  go_wp2_with (fail)
  refine (number_any n1 8 wa W1.out (by decide) (by decide)).mono ?_
  rintro e wn ⟨rfl, rfl⟩
  have hm0 := nmod_lo n1 8 (by decide)
  have hm1 := nmod_hi n1 8 (by decide)
  obtain ⟨m, hnm⟩ := Int.eq_ofNat_of_zero_le hm0
  rw [hnm] at hm1 ⊢
  clear hm0 hnm
  have hm : m < 8 := by omega
  clear hm1
  obtain ⟨z, hz⟩ : ∃ z : Nat, z = m + 1 := ⟨_, rfl⟩
  have HSZ := Shut.mk (show ((m : Nat) : Int) + 1 = ((z : Nat) : Int) by omega)
  have hz1 : 1 ≤ z := by omega
  have hz2 : z ≤ 8 := by omega
  have hmz : ((m : Nat) : Int) < 8 := by omega
  clear hz hm
  go_wp2_with (fail)
  rw [HSZ.out]
  refine (number_any n2 10 wa W2.out (by decide) (by decide)).mono ?_
  rintro e wn ⟨rfl, rfl⟩
  have hm0 := nmod_lo n2 10 (by decide)
  have hm1 := nmod_hi n2 10 (by decide)
  obtain ⟨an, hnm⟩ := Int.eq_ofNat_of_zero_le hm0
  rw [hnm] at hm1 ⊢
  clear hm0 hnm
  have han : an < 10 := by omega
  clear hm1
  clear hmz
  have hz3 : ((z : Nat) : Int) ≤ 8 := by omega
  have hr3 : ((r : Nat) : Int) < 6 := by omega
  go_wp2_with (fail)
  refine (new_l (w0 := w) 8 r 1099511627776 (by decide) (by decide) (by omega) (by decide) (by decide) HBa.out).mono ?_
  rintro e wb ⟨p0, rfl, hl, hfo, hb⟩
  have HL0 := Shut.mk hl
  obtain ⟨g, hg⟩ : ∃ g, g = p0.g := ⟨_, rfl⟩
  rw [← hg]
  have HG0 := Shut.mk hg.symm
  clear hl hg hfo hb
  go_wp2_with (fail)
  have hcall := ask_l HL0.out 9 (by decide) (by decide) rfl rfl 0 rfl
  rw [HG0.out] at hcall
  refine hcall.mono ?_
  clear hcall
  rintro e wc ⟨rfl, hl1, -⟩
  have HL1 := Shut.mk hl1
  clear hl1
  go_wp2_with (fail)
  have hcall := answer_l HL1.out 0 rfl rfl (by decide) 9 rfl 8 (by rfl)
  rw [HG0.out] at hcall
  refine hcall.mono ?_
  clear hcall
  rintro e wd ⟨rfl, hl2, -⟩
  rw [line_zero _ 8 r 1099511627776 9 1099511627776 8 rfl rfl rfl rfl rfl rfl rfl rfl rfl] at hl2
  have HL2 := Shut.mk hl2
  clear hl2
  go_wp2_with (fail)
  go_loopw [12] (fun i wr => ∃ (k : Nat) (q : Sp), k ≤ z ∧ i = .int .i64 k ∧ LawS w wr q (lineB 8 r 1099511627776 9 1099511627776 0 false 8 k) ∧ q.g = g) (fun i _ => z - (intOf i).toNat)
  case atStart => exact ⟨0, p0, by omega, rfl, HL2.out, HG0.out⟩
  case round =>
    clear HL2
    obtain ⟨k, q, hk, rfl, hl, hg⟩ := hrel
    have HLK := Shut.mk hl
    have HGK := Shut.mk hg
    clear hl hg
    by_cases hlt : k < z
    · have hki : ((k : Nat) : Int) < ((z : Nat) : Int) := by omega
      go_wp2_with (fail)
      have hcall := fresh_l HLK.out (by show (3 : Nat) ≠ 2; decide) rfl (by show k < 8; omega) ((k : Nat) : Int) 0 0 0 0 (by decide) (by decide) k 1099511627776 (nm_line (by omega)) rfl
      rw [HGK.out] at hcall
      refine hcall.mono ?_
      clear hcall
      rintro e wf ⟨rfl, q2, hl2, -, hg2⟩
      rw [fresh_line] at hl2
      have HLN := Shut.mk hl2
      have HGN := Shut.mk hg2
      clear hl2 hg2
      have HBM := Shut.mk ((Below.refl wf.heap.size wf).alloc (Nat.le_refl _) (Obj.cells #[.int .i64 ((k : Nat) : Int), .int .u32 0, .int .i64 0, .int .i64 0, .slice none 0 0, .int .i64 ((k : Nat) : Int), .int .i64 0, .int .i64 1099511627776] 40 (0, 0)))
      have HLM := Shut.mk (HLN.out.quiet HBM.out)
      go_wp2_with (fail)
      generalize World.alloc wf _ = wg at *
      go_roundw
      case rel => exact ⟨k + 1, q2, by omega, by go_num, HLM.out, HGN.out⟩
      case measure => simp [intOf]; omega
    · have hk' : k = z := by omega
      subst hk'
      have HLZ := HLK
      have HGZ := HGK
      have HPZ := Shut.mk (lineP_of (size := 8) (r := r) (life := 1099511627776) (tok := 9) (til := 1099511627776) (z := k) (by omega))
      obtain ⟨sz, hsz⟩ : ∃ s, s = lineB 8 r 1099511627776 9 1099511627776 0 false 8 k := ⟨_, rfl⟩
      rw [← hsz] at HLZ HPZ
      clear HLK HGK hlt hk hsz
      have hki : ((k : Nat) : Int) ≤ 8 := by omega
      go_wp2_with (fail)
      go_loopw [15] (fun i wr => ∃ (t : Nat) (q : Sp) (s : Sb), t ≤ r + 1 ∧ i = .int .i64 t ∧ LawS w wr q s ∧ q.g = g ∧ LineP s 8 r 1099511627776 1099511627776 k t) (fun i _ => r + 1 - (intOf i).toNat)
      case atStart => exact ⟨0, q, sz, by omega, rfl, HLZ.out, HGZ.out, HPZ.out⟩
      case round =>
        clear HLZ HGZ HPZ
        obtain ⟨t, q1, s1, ht, rfl, hl, hg, hp⟩ := hrel
        have HL1 := Shut.mk hl
        have HG1 := Shut.mk hg
        have HP1 := Shut.mk hp
        clear hl hg hp
        by_cases hlt : t ≤ r
        · have hti : ((t : Nat) : Int) ≤ ((r : Nat) : Int) := by omega
          have HTL := Shut.mk hlt
          clear hlt
          go_wp2_with (fail)
          have hcall := sweep_l HL1.out HT.out 0
          rw [HG1.out] at hcall
          rw [show (toldM (goneP s1.retry 0) s1.l).length = 0 by rw [HP1.out.retry, HP1.out.l, told_calm (by decide) HTL.out]; rfl] at hcall
          refine hcall.mono ?_
          clear hcall
          rintro e wf ⟨A, c, Au, cu, q2, s2, rfl, -, -, hl2, hsw, -, hg2, -, -⟩
          have HG2 := Shut.mk hg2
          have HP2 := Shut.mk (show LineP s2 8 r 1099511627776 1099511627776 k t from by
            have hno := hsw.no (.inl (by rw [HP1.out.retry, HP1.out.l, told_calm (by decide) HTL.out]))
            exact ⟨by rw [hsw.l, HP1.out.retry, HP1.out.l, left_calm (by decide) HTL.out], hsw.size.trans HP1.out.size, hsw.retry.trans HP1.out.retry, hsw.life.trans HP1.out.life, hsw.state.trans HP1.out.state, hno.1.trans HP1.out.ask, hsw.vain.trans HP1.out.vain, hno.2.trans HP1.out.fr, hsw.sz.trans HP1.out.sz, hsw.ah.trans HP1.out.ah⟩)
          have HL2 := Shut.mk hl2
          clear hl2 hsw hg2
          go_wp2_with (fail)
          have hcall := due_l HL2.out
          rw [HG2.out] at hcall
          rw [show toldM idleP s2.l = (List.range k).map (fun i => (⟨pkI i, i, t, 1099511627776⟩ : Mp)) by rw [HP2.out.l, due_line]] at hcall
          refine hcall.mono ?_
          clear hcall
          rintro e wh ⟨Ad, cd, rfl, hrow, hb⟩
          have HL3 := Shut.mk (HL2.out.quiet hb)
          have hlk : ((List.range k).map (fun i => (⟨pkI i, i, t, 1099511627776⟩ : Mp))).length = k := by simp
          rw [hlk] at hrow ⊢
          have HROW := Shut.mk hrow
          clear hb hrow hlk
          go_wp2_with (fail)
          refine (seqs_any Ad k cd _ wh HROW.out (by omega)).mono ?_
          rintro e wi ⟨v, rfl, hrn, hfr, hb⟩
          rw [seqI_line] at hrn
          obtain ⟨An, cn, rfl, hcn, -⟩ := hrn.form
          rw [idxI_len] at hrn hcn hfr ⊢
          have HRB := Shut.mk (show RowB .i64 wi An k (idxI k) from by
            have h9 := RowN.row (A := An) (c := cn) (l := idxI k) (w := wi) (by rw [idxI_len]; exact hrn) (by rw [idxI_len]; unfold maxLen; omega) (idxI_wf (by omega))
            rw [idxI_len] at h9
            exact h9)
          have HFR := Shut.mk (show ∀ a, An = some a → ¬ FootS q2 a.block from fun a ha e => by
            have h1 := hfr a.block (by rw [ha]; rfl)
            have h2 := (HL3.out.foot _ e).2
            omega)
          have HCN := Shut.mk hcn
          have HL4 := Shut.mk (HL3.out.quiet hb)
          have HS2 := Shut.mk (show ∀ f ∈ s2.l, f.1.sent ≤ 1000000 from by rw [HP2.out.l]; exact seq_sent (by omega))
          clear hrn hfr hb hcn
          go_wp2_with (fail)
          have hcall := went_l HL4.out (HS.out.sub (by decide)) An k cn (idxI k) HRB.out HCN.out HFR.out HS2.out 0 (by rw [HP2.out.l]; exact wentC_line) (lineL pkI 1099511627776 (t + 1) true k) (by rw [HP2.out.l]; exact wentT_line)
          rw [HG2.out] at hcall
          rw [errV_zero] at hcall
          refine hcall.mono ?_
          clear hcall
          rintro e wj ⟨rfl, hl5, -⟩
          have HL5 := Shut.mk hl5
          clear hl5
          go_wp2_with (fail)
          have hcall := lost_l HL5.out (fly_line (by omega))
          rw [HG2.out] at hcall
          refine hcall.mono ?_
          clear hcall
          rintro e wk ⟨rfl, hl6, -⟩
          have HL6 := Shut.mk (show LawS w wk q2 { s2 with l := lineL pkI 1099511627776 (t + 1) false k } from by
            have h9 := hl6
            rw [show Sb.l { s2 with l := lineL pkI 1099511627776 (t + 1) true k } = lineL pkI 1099511627776 (t + 1) true k from rfl, line_lost] at h9
            exact h9)
          have HP6 := Shut.mk (show LineP { s2 with l := lineL pkI 1099511627776 (t + 1) false k } 8 r 1099511627776 1099511627776 k (t + 1) from ⟨rfl, HP2.out.size, HP2.out.retry, HP2.out.life, HP2.out.state, HP2.out.ask, HP2.out.vain, HP2.out.fr, HP2.out.sz, HP2.out.ah⟩)
          clear hl6
          have hr9 := HTL.out
          go_wp2_with (fail)
          go_roundw
          case rel => exact ⟨t + 1, q2, _, by omega, by go_num, HL6.out, HG2.out, HP6.out⟩
          case measure => simp [intOf]; omega
        · have hk' : t = r + 1 := by omega
          subst hk'
          have hti : ¬ (((r + 1 : Nat)) : Int) ≤ ((r : Nat) : Int) := by omega
          clear hlt
          go_wp2_with (fail)
          have hcall := sweep_l HL1.out HT.out 0
          rw [HG1.out] at hcall
          rw [show (toldM (goneP s1.retry 0) s1.l).length = k by rw [HP1.out.retry, HP1.out.l]; exact told_over (by decide) (by omega), show whyL s1.retry 0 s1.l = (List.range k).map (fun _ => (3 : Int)) by rw [HP1.out.retry, HP1.out.l]; exact why_over (by decide) (by omega), show ((List.range k).map (fun _ => (3 : Int))).length = k by simp] at hcall
          refine hcall.mono ?_
          clear hcall
          rintro e wf ⟨A, c, Au, cu, q2, s2, rfl, -, hrw, hl2, hsw, -, hg2, -, hcu⟩
          have HG2 := Shut.mk hg2
          have HL2 := Shut.mk hl2
          have hl0 : s2.l = [] := by rw [hsw.l, HP1.out.retry, HP1.out.l]; exact left_over (by decide) (by omega)
          have hinv := hl2.inv.inv
          rw [hl0] at hinv
          have hst := hinv.start_nil
          have hah := hsw.ah.trans HP1.out.ah
          have hyes := hsw.yes (by
            intro e
            have h9 := congrArg List.length e
            rw [HP1.out.retry, HP1.out.l, told_over (by decide) (by omega)] at h9
            have h8 : k = 0 := h9
            omega) HP1.out.state
          have HX2 := Shut.mk (show s2.l = [] ∧ s2.ask = true ∧ s2.fr = k ∧ s2.state = 3 ∧ s2.retry = r ∧ s2.vain = 0 ∧ s2.x.sz = 8 ∧ s2.x.gv = 0 ∧ nmW s2.x s2.x.gv = k ∧ s2.life = 1099511627776 from by
            refine ⟨hl0, hyes.1, ?_, hsw.state.trans HP1.out.state, hsw.retry.trans HP1.out.retry, hsw.vain.trans HP1.out.vain, hsw.sz.trans HP1.out.sz, hst.1, hah, hsw.life.trans HP1.out.life⟩
            rw [hyes.2, ← hah, hst.1]
            have h1 := hinv.inv.st
            unfold nmW
            omega)
          have HRW := Shut.mk hrw
          clear hl0 hinv hst hah hyes hl2 hsw hg2 hrw
          go_wp2_with (fail)
          have hcall := bar_l HL2.out
          rw [HG2.out] at hcall
          rw [HX2.out.2.2.1] at hcall
          rw [HX2.out.2.1] at hcall
          refine hcall.mono ?_
          clear hcall
          rintro e wg ⟨rfl, hb⟩
          have HL3 := Shut.mk (HL2.out.quiet hb)
          have HRW3 := Shut.mk (HRW.out.only (S := fun _ => False) (Only.of_quiet hb) (fun _ _ e => e))
          clear hb HRW
          go_wp2_with (fail)
          have hcall := fresh_ask HL3.out.se (by rw [HX2.out.2.2.2.1]; decide) HX2.out.2.1 0 0 0 0 0 E ((HL3.out.sent HS.out).at_ 109 (by decide))
          rw [HG2.out] at hcall
          refine hcall.mono ?_
          clear hcall
          rintro e wh ⟨rfl, hb⟩
          have HL4 := Shut.mk (HL3.out.quiet hb)
          have HRW4 := Shut.mk (HRW3.out.only (S := fun _ => False) (Only.of_quiet hb) (fun _ _ e => e))
          clear hb HRW3
          have HBN := Shut.mk ((Below.refl wh.heap.size wh).alloc (Nat.le_refl _) (Obj.cells #[.int .i64 0, .int .u32 0, .int .i64 0, .int .i64 0, .slice none 0 0, .int .i64 0, .int .i64 0, .int .i64 0] 40 (0, 0)))
          have HL5 := Shut.mk (HL4.out.quiet HBN.out)
          have hrwb := RowN.row (c := cu) (l := (List.range k).map fun _ => (3 : Int)) (A := Au) (w := wh.alloc (Obj.cells #[.int .i64 0, .int .u32 0, .int .i64 0, .int .i64 0, .slice none 0 0, .int .i64 0, .int .i64 0, .int .i64 0] 40 (0, 0))) (by
            have h9 := HRW4.out.only (S := fun _ => False) (Only.of_quiet HBN.out) (fun _ _ e => e)
            rw [show ((List.range k).map (fun _ => (3 : Int))).length = k by simp]
            exact h9) (by rw [show ((List.range k).map (fun _ => (3 : Int))).length = k by simp]; unfold maxLen; omega) (fun x hx => by
            obtain ⟨i, -, rfl⟩ := List.mem_map.1 hx
            omega)
          rw [show ((List.range k).map (fun _ => (3 : Int))).length = k by simp] at hrwb
          obtain ⟨b3, o3, hau, hw3⟩ := hrwb.el 0 (by omega)
          subst hau
          have cw : (wh.alloc (Obj.cells #[.int .i64 0, .int .u32 0, .int .i64 0, .int .i64 0, .slice none 0 0, .int .i64 0, .int .i64 0, .int .i64 0] 40 (0, 0))).cell? ⟨b3, o3, none⟩ = some (.int .i64 3) := by
            have h9 := hw3
            rw [show ((List.range k).map (fun _ => (3 : Int))).getD 0 0 = 3 by obtain ⟨j, rfl⟩ : ∃ j, k = j + 1 := ⟨k - 1, by omega⟩; rw [List.range_succ_eq_map]; rfl] at h9
            exact h9
          have hk0 : (0 : Int) < ((k : Nat) : Int) := by omega
          clear hrwb hw3
          go_wp2_with (fail)
          generalize World.alloc wh _ = wi at *
          have hcall := isP_any E 109 109 wi (HL5.out.sent HS.out) (by decide) true (by rfl)
          refine hcall.mono ?_
          clear hcall
          rintro e wj ⟨rfl, hb⟩
          have HL_wj := Shut.mk (HL5.out.quiet hb)
          clear hb
          clear cw
          go_wp2_with (fail)
          have hcall := out_l HL_wj.out
          rw [HG2.out] at hcall
          rw [HX2.out.1] at hcall
          rw [show ([] : List Fm).length = 0 from rfl] at hcall
          refine hcall.mono ?_
          clear hcall
          rintro e wk ⟨Ao, co, rfl, hb⟩
          have HL6 := Shut.mk (HL_wj.out.quiet hb)
          clear hb
          go_wp2_with (fail)
          obtain ⟨sa, hsa⟩ : ∃ s, s = s2 := ⟨_, rfl⟩
          rw [← hsa] at HL6 HX2
          clear hsa
          go_loopw [24] (fun i wr => ∃ (t : Nat) (s : Sb), t ≤ r + 1 ∧ i = .int .i64 t ∧ LawS w wr q2 s ∧ (s.state = 3 ∧ s.x.gv = 0 ∧ s.x.sz = 8 ∧ nmW s.x s.x.gv = k ∧ s.life = 1099511627776) ∧ s.retry = r ∧ s.ask = decide (t ≤ r) ∧ (t ≤ r → s.vain = t)) (fun i _ => r + 1 - (intOf i).toNat)
          case atStart => exact ⟨0, sa, by omega, rfl, HL6.out, ⟨HX2.out.2.2.2.1, HX2.out.2.2.2.2.2.2.2.1, HX2.out.2.2.2.2.2.2.1, HX2.out.2.2.2.2.2.2.2.2.1, HX2.out.2.2.2.2.2.2.2.2.2⟩, HX2.out.2.2.2.2.1, by rw [HX2.out.2.1]; simp, fun _ => HX2.out.2.2.2.2.2.1⟩
          case round =>
            clear HL6 HX2
            obtain ⟨t, s3, ht, rfl, hl, hf, hr, ha, hv⟩ := hrel
            have HL7 := Shut.mk hl
            have HF := Shut.mk hf
            have HR := Shut.mk hr
            have HV := Shut.mk hv
            by_cases hlt : t ≤ r
            · have hti : ((t : Nat) : Int) ≤ ((r : Nat) : Int) := by omega
              have HAS := Shut.mk (show s3.ask = true by rw [ha]; simp [hlt])
              have HTL := Shut.mk hlt
              clear hl hf hr ha hv hlt
              go_wp2_with (fail)
              have hcall := bar_l HL7.out
              rw [HG2.out] at hcall
              rw [HAS.out] at hcall
              refine hcall.mono ?_
              clear hcall
              rintro e wl ⟨rfl, hb⟩
              have HL8 := Shut.mk (HL7.out.quiet hb)
              clear hb
              go_wp2_with (fail)
              by_cases hta : t = an
              · subst hta
                have heq : (((t : Nat) : Int) == ((t : Nat) : Int)) = true := by simp
                have HBC := Shut.mk (show barC s3 true = { s3 with ask := false, fr := 0, vain := 0 } by unfold barC; rw [if_pos HAS.out, if_pos (by simp)])
                go_wp2_with (fail)
                have hcall := barred_l HL8.out (by rw [HV.out HTL.out]; have := HTL.out; omega) true
                rw [HG2.out, HBC.out] at hcall
                rw [heq]
                refine hcall.mono ?_
                clear hcall
                rintro e wm ⟨rfl, hl9, -⟩
                obtain ⟨s4, hs4⟩ : ∃ s, s = { s3 with ask := false, fr := 0, vain := 0 } := ⟨_, rfl⟩
                rw [← hs4] at hl9
                have HL9 := Shut.mk hl9
                have HAK := Shut.mk (show s4.ask = false by rw [hs4])
                have HF4 := Shut.mk (show s4.state = 3 ∧ s4.x.gv = 0 ∧ s4.x.sz = 8 ∧ nmW s4.x s4.x.gv = k ∧ s4.life = 1099511627776 by rw [hs4]; exact HF.out)
                clear hl9 hs4 HF
                have HF := HF4
                go_wp2_with (fail)
                have hcall := bar_l HL9.out
                rw [HG2.out] at hcall
                rw [HAK.out] at hcall
                refine hcall.mono ?_
                clear hcall
                rintro e wu ⟨rfl, hb⟩
                have HLu := Shut.mk (HL9.out.quiet hb)
                clear hb
                go_wp2_with (fail)
                have hcall := fresh_l HLu.out (by rw [HF.out.1]; decide) HAK.out (by rw [HF.out.2.1, HF.out.2.2.1]; decide) 0 0 0 0 0 (by decide) (by decide) k 1099511627776 HF.out.2.2.2.1 (by rw [HF.out.2.2.2.2]; rfl)
                rw [HG2.out] at hcall
                refine hcall.mono ?_
                clear hcall
                rintro e wv ⟨rfl, q9, hl9, -, -⟩
                have HBv := Shut.mk ((Below.refl wv.heap.size wv).alloc (Nat.le_refl _) (Obj.cells #[.int .i64 0, .int .u32 0, .int .i64 0, .int .i64 0, .slice none 0 0, .int .i64 ((k : Nat) : Int), .int .i64 0, .int .i64 1099511627776] 40 (0, 0)))
                have HLv := Shut.mk (LawS.quiet hl9 HBv.out)
                clear hl9
                go_wp2_with (fail)
                generalize World.alloc wv _ = ww at *
                go_ret
                exact ⟨rfl, HLv.out.bel⟩
              · have heq : (((t : Nat) : Int) == ((an : Nat) : Int)) = false := by simp; omega
                have hteq : ((t : Nat) == an) = false := by simp; omega
                clear hta
                go_wp2_with (fail)
                have hcall := barred_l HL8.out (by rw [HV.out HTL.out]; have := HTL.out; omega) false
                rw [HG2.out] at hcall
                rw [heq]
                refine hcall.mono ?_
                clear hcall
                rintro e wm ⟨rfl, hl9, -⟩
                have HL9 := Shut.mk hl9
                have HF9 := Shut.mk (show (barC s3 false).state = 3 ∧ (barC s3 false).x.gv = 0 ∧ (barC s3 false).x.sz = 8 ∧ nmW (barC s3 false).x (barC s3 false).x.gv = k ∧ (barC s3 false).life = 1099511627776 by
                  unfold barC
                  split
                  · split
                    · exact HF.out
                    · exact HF.out
                  · exact HF.out)
                have HR9 := Shut.mk (show (barC s3 false).retry = r by
                  unfold barC
                  split
                  · split
                    · exact HR.out
                    · exact HR.out
                  · exact HR.out)
                have HA9 := Shut.mk (show (barC s3 false).ask = decide (t + 1 ≤ r) ∧ (t + 1 ≤ r → (barC s3 false).vain = t + 1) by
                  unfold barC
                  rw [if_pos HAS.out, HR.out, HV.out HTL.out]
                  by_cases h : r < t + 1
                  · rw [if_pos (by simp [h])]
                    exact ⟨by show false = _; rw [decide_eq_false (by omega)], fun h2 => by omega⟩
                  · rw [if_neg (by simp [h])]
                    exact ⟨by show s3.ask = _; rw [HAS.out, decide_eq_true (by omega)], fun _ => rfl⟩)
                clear hl9
                have hr9 := HTL.out
                go_wp2_with (fail)
                go_roundw
                case rel => exact ⟨t + 1, _, by omega, by go_num, HL9.out, HF9.out, HR9.out, HA9.out.1, HA9.out.2⟩
                case measure => simp [intOf]; omega
            · have hk' : t = r + 1 := by omega
              subst hk'
              have hti : ¬ (((r + 1 : Nat)) : Int) ≤ ((r : Nat) : Int) := by omega
              have HAK := Shut.mk (show s3.ask = false by rw [ha]; simp)
              clear hl hf hr ha hv hlt
              go_wp2_with (fail)
              have hcall := bar_l HL7.out
              rw [HG2.out] at hcall
              rw [HAK.out] at hcall
              refine hcall.mono ?_
              clear hcall
              rintro e wu ⟨rfl, hb⟩
              have HLu := Shut.mk (HL7.out.quiet hb)
              clear hb
              go_wp2_with (fail)
              have hcall := fresh_l HLu.out (by rw [HF.out.1]; decide) HAK.out (by rw [HF.out.2.1, HF.out.2.2.1]; decide) 0 0 0 0 0 (by decide) (by decide) k 1099511627776 HF.out.2.2.2.1 (by rw [HF.out.2.2.2.2]; rfl)
              rw [HG2.out] at hcall
              refine hcall.mono ?_
              clear hcall
              rintro e wv ⟨rfl, q9, hl9, -, -⟩
              have HBv := Shut.mk ((Below.refl wv.heap.size wv).alloc (Nat.le_refl _) (Obj.cells #[.int .i64 0, .int .u32 0, .int .i64 0, .int .i64 0, .slice none 0 0, .int .i64 ((k : Nat) : Int), .int .i64 0, .int .i64 1099511627776] 40 (0, 0)))
              have HLv := Shut.mk (LawS.quiet hl9 HBv.out)
              clear hl9
              go_wp2_with (fail)
              generalize World.alloc wv _ = ww at *
              go_ret
              exact ⟨rfl, HLv.out.bel⟩

end Go.Proofs.YtlbfioknkagboaaDoor.baAsks
