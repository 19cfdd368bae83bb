/-
  The walk of muezzin/muezzinlaw16.BaOnce: the Go text returns true.
-/
import Derived.Test.YtlbfioknkagboaaDoorSeQ
import Derived.Test.YtlbfioknkagboaaDoorErrP
import Derived.Test.YtlbfioknkagboaaDoorHeldD
import Derived.LoopTactic
import Derived.Deep.CutRange
import Derived.Deep.CutBlock
import Derived.WalkKit
import Derived.ProofKit
import Derived.Below
namespace Go.Proofs.YtlbfioknkagboaaDoor.baOnce
open Go.ChangeShapes Go.WideShapes Go.ChangeAt Go.RowKit Go.Deep
set_option linter.unusedVariables false
set_option linter.unusedSimpArgs false

open Go.Proofs.YtlbfioknkagboaaDoor
theorem wf_u64b {n : Int} (h : (Lit.int .u64 n).wf = true) : 0 ≤ n ∧ n < 18446744073709551616 := by
  have h' : IntKind.u64.min ≤ n ∧ n ≤ IntKind.u64.max := by simpa [Lit.wf] using h
  have a : IntKind.u64.min = 0 := by decide
  have b : IntKind.u64.max = 18446744073709551615 := by decide
  rw [a, b] at h'
  omega
theorem wrap_i64s (n : Nat) (h : n ≤ 100000) : IntKind.i64.wrap ((n : Nat) : Int) = ((n : Nat) : Int) := by
  rw [IntKind.wrap_i64]; omega
/-! ### THE WALK -/
set_option maxRecDepth 100000 in
set_option maxHeartbeats 8000000 in
theorem walk (n0 : Int) (n1 : Int) (b2 : Bool) (a3 : Option Addr) (cap3 : Nat) (l3 : List Dor) (w : World) (E : Nat → Addr) (hS : Sent w E [103, 107, 109, 110, 111]) (hT : Tab64 w) (w0 : (Lit.int .i64 n0).wf = true) (w1 : (Lit.int .i64 n1).wf = true) (w3 : RowS doC 5 do00 w a3 l3.length l3 ∧ l3.length ≤ cap3 ∧ ∀ d ∈ l3, okDo d) :
    Calls Tryd.prog 3 #[.int .i64 n0, .int .i64 n1, .bool b2, .slice a3 l3.length cap3] w fun e w' => e = .returned (.bool true) ∧ Below w.heap.size w w' := by
  obtain ⟨hr3, hc3, hok⟩ := w3
  have HR := Shut.mk hr3
  have HOK := Shut.mk hok
  have HS := Shut.mk hS
  have HT := Shut.mk hT
  have W0 := Shut.mk w0
  have W1 := Shut.mk w1
  obtain ⟨m, hm⟩ : ∃ m, m = l3.length := ⟨_, rfl⟩
  have HM := Shut.mk hm
  rw [← hm]
  obtain ⟨bi, hbi, hzb, hyb, hxb⟩ := info_parts' bool_info
  clear hr3 hc3 hok hS hT w0 w1 hm
  go_enter Tryd.func3, Tryd.ntmps3
  go_wp2_with (fail)
  refine (first_any w).mono ?_
  rintro e wa ⟨rfl, hBa⟩
  have HBa := Shut.mk hBa
  clear hBa
  go_wp2_with (fail)
  refine (number_any n0 64 wa W0.out (by decide) (by decide)).mono ?_
  rintro e wn ⟨rfl, rfl⟩
  have hm0 := nmod_lo n0 64 (by decide)
  have hm1 := nmod_hi n0 64 (by decide)
  obtain ⟨k, hnm⟩ := Int.eq_ofNat_of_zero_le hm0
  rw [hnm] at hm1 ⊢
  clear hm0 hnm
  have hk : k < 64 := by omega
  clear hm1
  obtain ⟨z8, hz8⟩ : ∃ z8 : Nat, z8 = k + 1 := ⟨_, rfl⟩
  have HSZ := Shut.mk (show ((k : Nat) : Int) + 1 = ((z8 : Nat) : Int) by omega)
  have HZ8 := Shut.mk (show 1 ≤ z8 ∧ z8 ≤ 64 by omega)
  have hkk : ((k : Nat) : Int) < 64 := by omega
  clear hz8 hk
  go_wp2_with (fail)
  rw [HSZ.out]
  clear hkk
  refine (number_any n1 5 wa W1.out (by decide) (by decide)).mono ?_
  rintro e wn ⟨rfl, rfl⟩
  have hm0 := nmod_lo n1 5 (by decide)
  have hm1 := nmod_hi n1 5 (by decide)
  obtain ⟨z, hnm⟩ := Int.eq_ofNat_of_zero_le hm0
  rw [hnm] at hm1 ⊢
  clear hm0 hnm
  have hz : z < 5 := by omega
  clear hm1
  have HZ := Shut.mk (show z ≤ 4 by omega)
  clear hz
  rcases Nat.lt_or_ge 120 m with hN | hN
  · have hN' : (120 : Int) < (m : Int) := by omega
    go_wp2_with (fail)
    go_ret
    exact ⟨rfl, HBa.out⟩
  have hN1 : ¬ (120 : Int) < (m : Int) := by omega
  have hN2 : ¬ 120 < m := by omega
  have HN := Shut.mk hN
  go_wp2_with (fail)
  refine (new_l (w0 := w) z8 z 1000 HZ8.out.1 HZ8.out.2 (by have := HZ.out; omega) (by decide) (by decide) HBa.out).mono ?_
  rintro e wb ⟨p0, rfl, hl, hfo, hb⟩
  have HL0 := Shut.mk hl
  obtain ⟨g, hg⟩ : ∃ g, g = p0.g := ⟨_, rfl⟩
  rw [← hg]
  have HG0 := Shut.mk hg.symm
  clear hl hg hfo hb hN1 hN2
  go_upto_if 54 with (fail)
  go_cut [12, 13] from 55 to 66 (fun _ _ wx => ∃ s, LawS w wx p0 s ∧ s.l = [] ∧ s.state ≠ 2 ∧ s.vain = 0 ∧ s.retry = z ∧ s.life = 1000)
  case first =>
    cases b2 with
    | false =>
      go_wp2_with (fail)
      go_meet
      exact ⟨_, HL0.out, rfl, by show (1 : Nat) ≠ 2; decide, rfl, rfl, rfl⟩
    | true =>
      go_wp2_with (fail)
      have hcall := ask_l HL0.out 0 (by decide) (by decide) rfl rfl 0 rfl
      rw [HG0.out] at hcall
      refine hcall.mono ?_
      clear hcall
      rintro e wc ⟨rfl, hl1, -⟩
      have HL1 := Shut.mk hl1
      clear hl1
      go_wp2_with (fail)
      have hcall := answer_l HL1.out 0 rfl rfl (by decide) 0 rfl _ rfl
      rw [HG0.out] at hcall
      refine hcall.mono ?_
      clear hcall
      rintro e wd ⟨rfl, hl2, -⟩
      have HL2 := Shut.mk hl2
      clear hl2
      go_wp2_with (fail)
      go_meet
      exact ⟨_, HL2.out, rfl, by show (3 : Nat) ≠ 2; decide, rfl, rfl, rfl⟩
  case rest =>
    obtain ⟨s, hl, hsl, hs1, hs2, hs3, hs4⟩ := hcut
    have HLS := Shut.mk hl
    have HSL := Shut.mk (show s.l = [] ∧ s.state ≠ 2 ∧ s.vain = 0 ∧ s.retry = z ∧ s.life = 1000 from ⟨hsl, hs1, hs2, hs3, hs4⟩)
    clear hl hsl hs1 hs2 hs3 hs4 HL0
    go_wp2_with (at_make; refine wpList_make_full _ rfl _ _ 33 rfl wc.heap.size 4 bi (.bool false) 1 Tryd.underlying33 hbi hzb hyb _ _ _ _ (m + 2) rfl rfl (by omega) (by omega) (by rw [hxb]; omega) (by unfold maxLen; omega) (by simp) ?_; intro w4 hown1 hgrow1)
    obtain ⟨w5, hw5⟩ : ∃ w5, w5 = (w4.alloc (Obj.cells #[Value.slice (some ⟨wc.heap.size + 1, 0, none⟩) (m + 2) (m + 2)] 33 (0, 0))).alloc (Obj.cells #[Value.int .i64 0] 3 (0, 0)) := ⟨_, rfl⟩
    have hst := once_start HLS.out HSL.out.1 HSL.out.2.1 HSL.out.2.2.1 HSL.out.2.2.2.1 HSL.out.2.2.2.2 HG0.out m hown1 hgrow1
    rw [← hw5] at hst ⊢
    obtain ⟨cn, hcn⟩ : ∃ c, c = wc.heap.size := ⟨_, rfl⟩
    obtain ⟨cg, hcg⟩ : ∃ c, c = w4.heap.size := ⟨_, rfl⟩
    obtain ⟨gb, hgb⟩ : ∃ c, c = wc.heap.size + 1 := ⟨_, rfl⟩
    obtain ⟨co, hco⟩ : ∃ c, c = w4.heap.size + 1 := ⟨_, rfl⟩
    rw [← hgb, ← hco, ← hcn, ← hcg] at hst
    rw [← hco, ← hcn, ← hcg]
    have HW0 := Shut.mk hst
    clear hst hw5 hown1 hgrow1 HLS HSL hcn hcg hgb hco
    go_loopw [17, 19] (fun ft fi wr => ∃ (i n over : Nat) (t : Int) (q : Sp) (s : Sb) (S : List Bool), i ≤ m ∧ n ≤ i ∧ fi = .int .i64 i ∧ ft = .int .i64 t ∧ 0 ≤ t ∧ t ≤ 300 * (i : Int) ∧ OnceW w wr g cn cg co gb (m + 2) n z over q s S) (fun _ fi _ => m - (intOf fi).toNat)
    case atStart => exact ⟨0, 0, 0, 0, _, _, _, Nat.zero_le _, Nat.le_refl _, rfl, rfl, Int.le_refl _, Int.le_refl _, HW0.out⟩
    case round =>
      clear HW0
      obtain ⟨i, n, over, t, q, s, S, hi, hni, rfl, rfl, ht0, ht1, hw⟩ := hrel
      have HW := Shut.mk hw
      have HNI := Shut.mk hni
      have HT0 := Shut.mk ht0
      have HT1 := Shut.mk ht1
      clear hw hni ht0 ht1
      by_cases hin : i < m
      · have hin2 : (i : Int) < (m : Int) := by omega
        obtain ⟨b, off, rfl, hrg⟩ := (HR.out.below HW.out.p.law.bel).el i (by rw [← HM.out]; exact hin)
        have hok := HOK.out (l3.getD i do00) (by
          have h9 : i < l3.length := by rw [← HM.out]; exact hin
          have e : l3.getD i do00 = l3[i] := by simp [List.getD, h9]
          rw [e]; exact List.getElem_mem _)
        obtain ⟨d, hd⟩ : ∃ d, d = l3.getD i do00 := ⟨_, rfl⟩
        rw [← hd] at hrg hok
        clear hd
        have hk0 : wr.cell? ⟨b, off + i * 5, none⟩ = some (.int .i64 d.kind) := by simpa using hrg 0 _ rfl
        have hk1 : wr.cell? ⟨b, off + i * 5 + 1, none⟩ = some (.int .i64 d.n) := hrg 1 _ rfl
        have hk2 : wr.cell? ⟨b, off + i * 5 + 2, none⟩ = some (.int .i64 d.m) := hrg 2 _ rfl
        have hk3 : wr.cell? ⟨b, off + i * 5 + 3, none⟩ = some (.int .i64 d.a) := hrg 3 _ rfl
        have hk4 : wr.cell? ⟨b, off + i * 5 + 4, none⟩ = some (.int .u64 d.b) := hrg 4 _ rfl
        clear hrg
        have HD := Shut.mk hok
        clear hok
        have HIN := Shut.mk hin
        have HOB := Shut.mk (Below.refl wr.heap.size wr |>.alloc (Nat.le_refl _) (Obj.cells #[.int .i64 d.kind, .int .i64 d.n, .int .i64 d.m, .int .i64 d.a, .int .u64 d.b] 44 (0, 0)))
        have HDB := Shut.mk (heap_alloc_last wr (Obj.cells #[.int .i64 d.kind, .int .i64 d.n, .int .i64 d.m, .int .i64 d.a, .int .u64 d.b] 44 (0, 0)))
        have hkind : (wr.alloc (Obj.cells #[.int .i64 d.kind, .int .i64 d.n, .int .i64 d.m, .int .i64 d.a, .int .u64 d.b] 44 (0, 0))).cell? ⟨wr.heap.size, 0, none⟩ = some (.int .i64 d.kind) := by have h9 := (block_range HDB.out) 0 _ rfl; rw [Nat.zero_add] at h9; exact h9
        have HK := Shut.mk HD.out.1
        go_upto_block 2 with (fail)
        have HWd := Shut.mk (HW.out.quiet HOB.out)
        have HDF := Shut.mk (show ¬ FootS q wr.heap.size ∧ wr.heap.size ≠ gb ∧ wr.heap.size ≠ co ∧ wr.heap.size ≠ cn from ⟨fun e => by have h9 := (HW.out.p.law.foot _ e).2; omega, by have h9 := HW.out.p.lts; omega, by have h9 := HW.out.p.lts; omega, by have h9 := HW.out.p.lts; omega⟩)
        obtain ⟨D, hD⟩ : ∃ D, D = wr.heap.size := ⟨_, rfl⟩
        obtain ⟨wd, hwd⟩ : ∃ x, x = wr.alloc (Obj.cells #[.int .i64 d.kind, .int .i64 d.n, .int .i64 d.m, .int .i64 d.a, .int .u64 d.b] 44 (0, 0)) := ⟨_, rfl⟩
        rw [← hwd] at HDB HWd ⊢
        rw [← hD] at HDB HDF ⊢
        clear hkind hk0 hk1 hk2 hk3 hk4 HOB HW hwd hD
        obtain ⟨κ, hκ⟩ : ∃ κ, κ = d.kind.tmod 6 := ⟨_, rfl⟩
        rw [← hκ]
        clear hκ
        go_cut [17, 21, 22, 23, 24, 25, 26, 27, 28, 29] from 85 to 196 (fun ft _ _ _ _ _ _ _ _ _ wx => ∃ (n' over' : Nat) (t' : Int) (q' : Sp) (s' : Sb) (S' : List Bool), n' ≤ i + 1 ∧ ft = .int .i64 t' ∧ 0 ≤ t' ∧ t' ≤ 300 * ((i : Int) + 1) ∧ Shut (OnceW w wx g cn cg co gb (m + 2) n' z over' q' s' S'))
        case first =>
          by_cases hk0 : κ = 0
          · subst hk0
            as_aux_lemma =>
              have hcn : wd.cell? ⟨cn, 0, none⟩ = some (.int .i64 ((n : Nat) : Int)) := by have h9 := block_range HWd.out.p.fn.bn 0 _ rfl; exact h9
              have hn9 : ((n : Nat) : Int) ≤ 120 := by have h1 := HNI.out; have h2 := HIN.out; have h3 := HN.out; omega
              go_wp2_with (fail)
              refine (fresh_w HWd.out (HS.out.sub (by decide)) t HT0.out (by have h1 := HT1.out; have h2 := HIN.out; have h3 := HN.out; omega) _ (by omega)).mono ?_
              rintro e w6 ⟨x0, x1, x2, x3, x5, x6, x7, er, rfl, hor⟩
              have HB7 := Shut.mk (Below.refl w6.heap.size w6 |>.alloc (Nat.le_refl _) (Obj.cells #[.int .i64 x0, .int .u32 x1, .int .i64 x2, .int .i64 x3, .slice none 0 0, .int .i64 x5, .int .i64 x6, .int .i64 x7] 40 (0, 0)))
              clear hcn
              rcases hor with ⟨rfl, q6, s6, hp6, hi6⟩ | ⟨rfl, hw6⟩
              · have HP7 := Shut.mk (hp6.quiet HB7.out)
                have HI6 := Shut.mk hi6
                clear hp6 hi6
                obtain ⟨w7, hw7⟩ : ∃ w7, w7 = w6.alloc (Obj.cells #[.int .i64 x0, .int .u32 x1, .int .i64 x2, .int .i64 x3, .slice none 0 0, .int .i64 x5, .int .i64 x6, .int .i64 x7] 40 (0, 0)) := ⟨_, rfl⟩
                rw [← hw7] at HP7 HB7
                have HWw7 := Shut.mk hw7.symm
                have hcn : w7.cell? ⟨cn, 0, none⟩ = some (.int .i64 ((n : Nat) : Int)) := by have h9 := block_range HP7.out.fn.bn 0 _ rfl; exact h9
                rw [hw7] at hcn
                clear hw7
                obtain ⟨w8, hw8⟩ : ∃ w8, w8 = w7.setRow cn #[.int .i64 (((n : Nat) : Int) + 1)] := ⟨_, rfl⟩
                have HW8 := Shut.mk (HP7.out.more HI6.out (((n : Nat) : Int) + 1) (by omega) hw8)
                have HWw8 := Shut.mk hw8.symm
                clear hw8
                go_wp2_with (first
                  | (rw [HWw7.out]
                     refine wpList_store_into rfl 3 (.tmp 14) (.tmp 126) rfl cn 0 (.int .i64 (((n : Nat) : Int) + 1)) rfl rfl rfl 3 _ #[.int .i64 (((n : Nat) : Int) + 1)] HP7.out.fn.bn size1i (by show 0 < 1; omega) rfl ?_
                     rw [HWw8.out]))
                go_meet
                exact ⟨n + 1, over, t, q6, s6, S, by have := HNI.out; omega, rfl, HT0.out, by have := HT1.out; omega, HW8⟩
              · have HW7 := Shut.mk (hw6.quiet HB7.out)
                clear hw6
                go_wp2_with (fail)
                go_meet
                exact ⟨n, over, t, q, s, S, by have := HNI.out; omega, rfl, HT0.out, by have := HT1.out; omega, HW7⟩
          have hq0 : (κ == 0) = false := by simpa using hk0
          by_cases hk1 : κ = 1
          · subst hk1
            as_aux_lemma =>
              have hcn : wd.cell? ⟨cn, 0, none⟩ = some (.int .i64 ((n : Nat) : Int)) := by have h9 := block_range HWd.out.p.fn.bn 0 _ rfl; exact h9
              have hn9 : ((n : Nat) : Int) ≤ 120 := by have h1 := HNI.out; have h2 := HIN.out; have h3 := HN.out; omega
              go_wp2_with (fail)
              refine (fresh_w HWd.out (HS.out.sub (by decide)) t HT0.out (by have h1 := HT1.out; have h2 := HIN.out; have h3 := HN.out; omega) _ (by omega)).mono ?_
              rintro e w6 ⟨x0, x1, x2, x3, x5, x6, x7, er, rfl, hor⟩
              have HB7 := Shut.mk (Below.refl w6.heap.size w6 |>.alloc (Nat.le_refl _) (Obj.cells #[.int .i64 x0, .int .u32 x1, .int .i64 x2, .int .i64 x3, .slice none 0 0, .int .i64 x5, .int .i64 x6, .int .i64 x7] 40 (0, 0)))
              clear hcn
              rcases hor with ⟨rfl, q6, s6, hp6, hi6⟩ | ⟨rfl, hw6⟩
              · have HP7 := Shut.mk (hp6.quiet HB7.out)
                have HI6 := Shut.mk hi6
                clear hp6 hi6
                obtain ⟨w7, hw7⟩ : ∃ w7, w7 = w6.alloc (Obj.cells #[.int .i64 x0, .int .u32 x1, .int .i64 x2, .int .i64 x3, .slice none 0 0, .int .i64 x5, .int .i64 x6, .int .i64 x7] 40 (0, 0)) := ⟨_, rfl⟩
                rw [← hw7] at HP7 HB7
                have HWw7 := Shut.mk hw7.symm
                have hcn : w7.cell? ⟨cn, 0, none⟩ = some (.int .i64 ((n : Nat) : Int)) := by have h9 := block_range HP7.out.fn.bn 0 _ rfl; exact h9
                rw [hw7] at hcn
                clear hw7
                obtain ⟨w8, hw8⟩ : ∃ w8, w8 = w7.setRow cn #[.int .i64 (((n : Nat) : Int) + 1)] := ⟨_, rfl⟩
                have HW8 := Shut.mk (HP7.out.more HI6.out (((n : Nat) : Int) + 1) (by omega) hw8)
                have HWw8 := Shut.mk hw8.symm
                clear hw8
                go_wp2_with (first
                  | (rw [HWw7.out]
                     refine wpList_store_into rfl 3 (.tmp 14) (.tmp 126) rfl cn 0 (.int .i64 (((n : Nat) : Int) + 1)) rfl rfl rfl 3 _ #[.int .i64 (((n : Nat) : Int) + 1)] HP7.out.fn.bn size1i (by show 0 < 1; omega) rfl ?_
                     rw [HWw8.out]))
                go_meet
                exact ⟨n + 1, over, t, q6, s6, S, by have := HNI.out; omega, rfl, HT0.out, by have := HT1.out; omega, HW8⟩
              · have HW7 := Shut.mk (hw6.quiet HB7.out)
                clear hw6
                go_wp2_with (fail)
                go_meet
                exact ⟨n, over, t, q, s, S, by have := HNI.out; omega, rfl, HT0.out, by have := HT1.out; omega, HW7⟩
          have hq1 : (κ == 1) = false := by simpa using hk1
          by_cases hk2 : κ = 2
          · subst hk2
            as_aux_lemma =>
              go_wp2_with (fail)
              refine (sweep_w HWd.out HT.out t).mono ?_
              rintro e w6 ⟨A6, c6, Au6, cu6, nm6, q6, s6, l6, P6, rfl, hn64, hnc, hm6, hid6, hst6⟩
              have HM6 := Shut.mk hm6
              have HID := Shut.mk hid6
              have HDB6 := Shut.mk (hst6.only.at_ HDB.out HDF.out.1)
              have hz9 : ((z : Nat) : Int) ≤ 4 := by have := HZ.out; omega
              clear hm6 hn64 hnc hid6 hst6
              go_wp2_with (fail)
              refine (end_w HM6.out c6 (by have := HNI.out; have := HIN.out; omega) (by have := HN.out; omega) (by have := HZ.out; omega) _ rfl).mono ?_
              rintro e w7 ⟨rfl, S7, o7, hw7, ho7⟩
              have HW7 := Shut.mk hw7
              have HO7 := Shut.mk ho7
              clear hw7 ho7
              have HDB7 := Shut.mk (HO7.out.at_ HDB6.out (fun e => by rcases e with e | e; exact HDF.out.2.1 e; exact HDF.out.2.2.1 e))
              clear HM6 HDB6 HO7
              go_wp2_with (fail)
              have hcall := due_l HW7.out.p.law
              rw [HW7.out.p.gq] at hcall
              refine hcall.mono ?_
              clear hcall
              rintro e w8 ⟨A8, c8, rfl, hr8, hb8⟩
              have HL8 := Shut.mk (show (toldM idleP s6.l).length ≤ 64 from Nat.le_trans told_len HW7.out.p.law.inv.len)
              have HB8 := Shut.mk hb8
              have HR8 := Shut.mk hr8
              clear hb8 hr8
              go_wp2_with (fail)
              refine (seqs_any A8 _ c8 _ w8 HR8.out (by have := HL8.out; omega)).mono ?_
              rintro e w9 ⟨v9, rfl, hr9, hf9, hb9⟩
              obtain ⟨A9, c9, hv9, hc9, -⟩ := hr9.form
              subst hv9
              have HRB9 := Shut.mk (RowN.row (A := A9) (c := c9) (l := seqI (toldM idleP s6.l)) (w := w9) hr9 (by rw [seqI_len]; have := HL8.out; unfold maxLen; omega) (fun x hx => by
                obtain ⟨f, hf, -, e⟩ := told_seq.1 hx
                have := HW7.out.p.law.inv.inv.lt hf
                omega))
              have HAP9 := Shut.mk (show ∀ a, A9 = some a → ¬ FootS q6 a.block from fun a ha e => by
                have h1 := hf9 a.block (by rw [ha]; rfl)
                have h2 := ((HW7.out.quiet HB8.out).p.law.foot _ e).2
                omega)
              have HW9 := Shut.mk ((HW7.out.quiet HB8.out).quiet hb9)
              have HDB9 := Shut.mk ((Only.of_quiet (S := fun _ => False) hb9).at_ ((Only.of_quiet (S := fun _ => False) HB8.out).at_ HDB7.out (fun e => e)) (fun e => e))
              rw [seqI_len] at HRB9 hc9 ⊢
              obtain ⟨nd, hnd⟩ : ∃ nd, nd = (toldM idleP s6.l).length := ⟨_, rfl⟩
              rw [← hnd] at HRB9 hc9 HL8 ⊢
              have HCN := Shut.mk hc9
              clear hnd hc9 hr9 hf9 hb9 HR8 HB8 HW7 HDB7
              go_wp2_with (fail)
              have hcall := flying_l HW9.out.p.law
              rw [HW9.out.p.gq] at hcall
              refine hcall.mono ?_
              clear hcall
              rintro e wf ⟨Af, cf, rfl, -, hbf⟩
              have HWf := Shut.mk (HW9.out.quiet hbf)
              have HRBf := Shut.mk (HRB9.out.below hbf)
              have HDBf := Shut.mk ((Only.of_quiet (S := fun _ => False) hbf).at_ HDB9.out (fun e => e))
              obtain ⟨nf, hnf⟩ : ∃ nf, nf = (toldM flyP s6.l).length := ⟨_, rfl⟩
              have HNF := Shut.mk hnf
              rw [← hnf]
              clear hnf hbf HW9 HRB9 HDB9
              by_cases hf0 : nf = 0
              · have hf1 : (((nf : Nat) : Int) == 0) = true := by subst hf0; rfl
                have HF0 := Shut.mk (show (toldM flyP s6.l).length = 0 by rw [← HNF.out]; exact hf0)
                by_cases hd0 : nd = 0
                · have hd1 : ¬ (0 : Int) < ((nd : Nat) : Int) := by omega
                  go_wp2_with (fail)
                  go_meet
                  exact ⟨n, o7, t, q6, s6, S7, by have := HNI.out; omega, rfl, HT0.out, by have := HT1.out; omega, HWf⟩
                · have hd1 : (0 : Int) < ((nd : Nat) : Int) := by omega
                  have hdn : wf.cell? ⟨D, 1, none⟩ = some (.int .i64 d.n) := by have h9 := (block_range HDBf.out) 1 _ rfl; rw [Nat.zero_add] at h9; exact h9
                  clear hf0
                  go_wp2_with (fail)
                  refine (number_any d.n ((nd : Nat) : Int) wf HD.out.2.1 hd1 (by have := HL8.out; omega)).mono ?_
                  rintro e wn ⟨rfl, rfl⟩
                  have hm0 := nmod_lo d.n ((nd : Nat) : Int) hd1
                  have hm1 := nmod_hi d.n ((nd : Nat) : Int) hd1
                  obtain ⟨kj, hkj⟩ := Int.eq_ofNat_of_zero_le hm0
                  rw [hkj] at hm1 ⊢
                  obtain ⟨j, hj⟩ : ∃ j, j = kj + 1 := ⟨_, rfl⟩
                  have HJ := Shut.mk (show ((kj : Nat) : Int) + 1 = ((j : Nat) : Int) by omega)
                  have HJN := Shut.mk (show j ≤ nd ∧ j ≤ c9 by have := HCN.out; omega)
                  have hkk : ((kj : Nat) : Int) ≤ 64 := by have := HL8.out; omega
                  have hjc : ((j : Nat) : Int) ≤ ((c9 : Nat) : Int) := by have := HJN.out; omega
                  have hj0 : (0 : Int) ≤ ((j : Nat) : Int) := by omega
                  have hj8 : ((kj : Nat) : Int) + 1 ≤ ((c9 : Nat) : Int) := by have := HJN.out; have := HJ.out; omega
                  clear hm0 hm1 hkj hj hdn
                  go_wp2_with (fail)
                  rw [show kj + 1 = j by have := HJ.out; omega]
                  refine (went_w HWf.out (HS.out.sub (by decide)) HID.out (by have := HZ.out; omega) A9 nd c9 j HJN.out.1 HJN.out.2 HRBf.out HAP9.out HF0.out).mono ?_
                  rintro e wg ⟨rfl, sg, hwg⟩
                  have HWg := Shut.mk hwg
                  clear hwg
                  go_wp2_with (fail)
                  go_meet
                  exact ⟨n, o7, t, q6, sg, S7, by have := HNI.out; omega, rfl, HT0.out, by have := HT1.out; omega, HWg⟩
              · have hf1 : (((nf : Nat) : Int) == 0) = false := by simpa using hf0
                go_wp2_with (fail)
                go_meet
                exact ⟨n, o7, t, q6, s6, S7, by have := HNI.out; omega, rfl, HT0.out, by have := HT1.out; omega, HWf⟩
          have hq2 : (κ == 2) = false := by simpa using hk2
          by_cases hk3 : κ = 3
          · subst hk3
            as_aux_lemma =>
              obtain ⟨hu0, hu1⟩ := wf_u64b HD.out.2.2
              obtain ⟨M, hM⟩ := Int.eq_ofNat_of_zero_le hu0
              have HMM := Shut.mk (show M < 18446744073709551616 by omega)
              obtain ⟨w5, hw5⟩ : ∃ wq, wq = World.drew wd := ⟨_, rfl⟩
              have HWw5 := Shut.mk hw5
              have HDw5 := Shut.mk (show Below wd.heap.size wd w5 by rw [hw5]; exact (Below.refl _ _).drew)
              have HW5 := Shut.mk (HWd.out.quiet HDw5.out)
              have HD4 := Shut.mk (show w5.cell? ⟨D, 4, none⟩ = some (.int .u64 ((M : Nat) : Int)) by
                have h9 := (block_range ((Only.of_quiet (S := fun _ => False) HDw5.out).at_ HDB.out (fun e => e))) 4 _ rfl
                rw [Nat.zero_add, hM] at h9
                exact h9)
              clear hu0 hu1 hM hw5
              go_upto_region 44 with (fail)
              refine wp_region_D (fun w' => Below w5.heap.size w5 w') 6 (by kernel_rfl) (show Below w5.heap.size w5 (World.drew wd) by rw [HWw5.out]; exact Below.refl _ _) (fun hHeld hC => ?_)
              rw [← HWw5.out] at hHeld ⊢
              refine wpAnyD_pure (i := 0) (v := ?_) rfl hC (by kernel_rfl) (by kernel_rfl) (by kernel_rfl) (by decide) (fun _ _ _ h => h) (Or.inl ⟨by rfl, ?_⟩) (fun _ => hHeld) ?_
              rotate_left
              · intro w hSw
                clear hSw
                go_simp
                try with_reducible rfl
              try simp only [Act.put, List.getElem_toArray, List.getElem_cons_zero, List.getElem_cons_succ, List.setIfInBounds_toArray, List.set_cons_zero, List.set_cons_succ]
              clear hC
              intro hC
              refine wpAnyD_pure (i := 1) (v := ?_) rfl hC (by kernel_rfl) (by kernel_rfl) (by kernel_rfl) (by decide) (fun _ _ _ h => h) (Or.inl ⟨by rfl, ?_⟩) (fun _ => hHeld) ?_
              rotate_left
              · intro w hSw
                clear hSw
                go_simp
                try with_reducible rfl
              try simp only [Act.put, List.getElem_toArray, List.getElem_cons_zero, List.getElem_cons_succ, List.setIfInBounds_toArray, List.set_cons_zero, List.set_cons_succ]
              clear hC
              intro hC
              refine wpAnyD_pure (i := 3) (v := ?_) rfl hC (by kernel_rfl) (by kernel_rfl) (by kernel_rfl) (by decide) (fun _ _ _ h => h) (Or.inl ⟨by rfl, ?_⟩) (fun _ => hHeld) ?_
              rotate_left
              · intro w hSw
                clear hSw
                go_simp
                try with_reducible rfl
              try simp only [Act.put, List.getElem_toArray, List.getElem_cons_zero, List.getElem_cons_succ, List.setIfInBounds_toArray, List.set_cons_zero, List.set_cons_succ]
              clear hC
              intro hC
              refine wpAnyD_take (i := 4) (v := ?_) 40 rfl (by kernel_rfl) hC (by kernel_rfl) (by kernel_rfl) (by kernel_rfl) (by decide) (fun _ _ _ h => h) (Or.inl ⟨by rfl, ?_⟩) (fun _ => hHeld) ?_
              rotate_left
              · intro w hSw
                have hz := (show w.cell? ⟨D, 4, none⟩ = some (.int .u64 ((M : Nat) : Int)) from below_at hSw HD4.out)
                clear hSw
                go_simp
                try with_reducible rfl
              try simp only [Act.put, List.getElem_toArray, List.getElem_cons_zero, List.getElem_cons_succ, List.setIfInBounds_toArray, List.set_cons_zero, List.set_cons_succ]
              clear hC
              intro hC
              refine wpAnyD_one (i := 2) (by kernel_rfl) rfl hC (fun K hK => ?_)
              clear hC
              go_simp
              have hcall := startS_any (HW5.out.quiet hHeld).p.law.se
              rw [HW5.out.p.gq] at hcall
              refine hcall.mono ?_
              clear hcall
              rintro e' wv1 ⟨rfl, hwv1⟩
              subst hwv1
              have hHeld2 := hHeld
              clear hHeld
              have hHeld := hHeld2
              clear hHeld2
              refine hK.out _ _ (fun _ => hHeld) (fun hC => ?_)
              clear hK K
              try simp only [Act.put, List.getElem_toArray, List.getElem_cons_zero, List.getElem_cons_succ, List.setIfInBounds_toArray, List.set_cons_zero, List.set_cons_succ]
              refine wpAnyD_pure (i := 5) (v := ?_) rfl hC (by kernel_rfl) (by kernel_rfl) (by kernel_rfl) (by decide) (fun _ _ _ h => h) (Or.inl ⟨by rfl, ?_⟩) (fun _ => hHeld) ?_
              rotate_left
              · intro w hSw
                clear hSw
                go_simp
                try with_reducible rfl
              try simp only [Act.put, List.getElem_toArray, List.getElem_cons_zero, List.getElem_cons_succ, List.setIfInBounds_toArray, List.set_cons_zero, List.set_cons_succ]
              clear hC
              intro hC
              refine wpAnyD_one (i := 6) (by kernel_rfl) rfl hC (fun K hK => ?_)
              clear hC
              go_simp
              refine (heard_w (HW5.out.quiet hHeld) HT.out (HS.out.sub (by decide)) M HMM.out).mono ?_
              clear hHeld
              rintro e' wv1 ⟨A6, c6, nm6, er, rfl, hor⟩
              have HOR := Shut.mk hor
              clear hor
              refine hK.out _ _ (past (by kernel_rfl)) (fun hC => ?_)
              clear hK K
              try simp only [Act.put, List.getElem_toArray, List.getElem_cons_zero, List.getElem_cons_succ, List.setIfInBounds_toArray, List.set_cons_zero, List.set_cons_succ]
              refine wpAnyD_pure (i := 7) (v := ?_) rfl hC (by kernel_rfl) (by kernel_rfl) (by kernel_rfl) (by decide) (fun _ _ _ h => h) (Or.inl ⟨by rfl, ?_⟩) (past (by kernel_rfl)) ?_
              rotate_left
              · intro w hSw
                clear hSw
                go_simp
                try with_reducible rfl
              try simp only [Act.put, List.getElem_toArray, List.getElem_cons_zero, List.getElem_cons_succ, List.setIfInBounds_toArray, List.set_cons_zero, List.set_cons_succ]
              clear hC
              intro hC
              refine wpAnyD_pure (i := 8) (v := ?_) rfl hC (by kernel_rfl) (by kernel_rfl) (by kernel_rfl) (by decide) (fun _ _ _ h => h) (Or.inl ⟨by rfl, ?_⟩) (past (by kernel_rfl)) ?_
              rotate_left
              · intro w hSw
                clear hSw
                go_simp
                try with_reducible rfl
              try simp only [Act.put, List.getElem_toArray, List.getElem_cons_zero, List.getElem_cons_succ, List.setIfInBounds_toArray, List.set_cons_zero, List.set_cons_succ]
              clear hC
              intro hC
              refine wpAnyD_pure (i := 9) (v := ?_) rfl hC (by kernel_rfl) (by kernel_rfl) (by kernel_rfl) (by decide) (fun _ _ _ h => h) (Or.inl ⟨by rfl, ?_⟩) (past (by kernel_rfl)) ?_
              rotate_left
              · intro w hSw
                clear hSw
                go_simp
                try with_reducible rfl
              try simp only [Act.put, List.getElem_toArray, List.getElem_cons_zero, List.getElem_cons_succ, List.setIfInBounds_toArray, List.set_cons_zero, List.set_cons_succ]
              clear hC
              intro hC
              refine wpAnyD_pure (i := 10) (v := ?_) rfl hC (by kernel_rfl) (by kernel_rfl) (by kernel_rfl) (by decide) (fun _ _ _ h => h) (Or.inl ⟨by rfl, ?_⟩) (past (by kernel_rfl)) ?_
              rotate_left
              · intro w hSw
                clear hSw
                go_simp
                try with_reducible rfl
              try simp only [Act.put, List.getElem_toArray, List.getElem_cons_zero, List.getElem_cons_succ, List.setIfInBounds_toArray, List.set_cons_zero, List.set_cons_succ]
              clear hC
              intro hC
              refine wpAnyD_pure (i := 11) (v := ?_) rfl hC (by kernel_rfl) (by kernel_rfl) (by kernel_rfl) (by decide) (fun _ _ _ h => h) (Or.inl ⟨by rfl, ?_⟩) (past (by kernel_rfl)) ?_
              rotate_left
              · intro w hSw
                clear hSw
                go_simp
                try with_reducible rfl
              try simp only [Act.put, List.getElem_toArray, List.getElem_cons_zero, List.getElem_cons_succ, List.setIfInBounds_toArray, List.set_cons_zero, List.set_cons_succ]
              clear hC
              intro hC
              refine wpAnyD_done (by kernel_rfl) ?_ _
              try simp only [Act.put, List.getElem_toArray, List.getElem_cons_zero, List.getElem_cons_succ, List.setIfInBounds_toArray, List.set_cons_zero, List.set_cons_succ]
              clear hC
              rcases HOR.out with ⟨rfl, hw6⟩ | ⟨rfl, q6, t6, l6, P6, hm6⟩
              · have HW6 := Shut.mk hw6
                clear hw6 HOR
                go_wp2_with (fail)
                go_meet
                exact ⟨n, over, t, q, s, S, by have := HNI.out; omega, rfl, HT0.out, by have := HT1.out; omega, HW6⟩
              · have HM6 := Shut.mk hm6
                have hz9 : ((z : Nat) : Int) ≤ 4 := by have := HZ.out; omega
                clear hm6 HOR
                go_wp2_with (fail)
                refine (end_w HM6.out c6 (by have := HNI.out; have := HIN.out; omega) (by have := HN.out; omega) (by have := HZ.out; omega) _ rfl).mono ?_
                rintro e w7 ⟨rfl, S7, o7, hw7, ho7⟩
                have HW7 := Shut.mk hw7
                have HO7 := Shut.mk ho7
                clear hw7 ho7
                go_wp2_with (fail)
                go_meet
                exact ⟨n, o7, t, q6, t6, S7, by have := HNI.out; omega, rfl, HT0.out, by have := HT1.out; omega, HW7⟩
          have hq3 : (κ == 3) = false := by simpa using hk3
          by_cases hk4 : κ = 4
          · subst hk4
            as_aux_lemma =>
              go_wp2_with (fail)
              refine (lost_w HWd.out (HS.out.sub (by decide))).mono ?_
              rintro e w6 ⟨v6, s6, rfl, hw6⟩
              have HW6 := Shut.mk hw6
              clear hw6
              go_wp2_with (fail)
              go_meet
              exact ⟨n, over, t, q, s6, S, by have := HNI.out; omega, rfl, HT0.out, by have := HT1.out; omega, HW6⟩
          have hq4 : (κ == 4) = false := by simpa using hk4
          as_aux_lemma =>
            have hd1 : wd.cell? ⟨D, 1, none⟩ = some (.int .i64 d.n) := by have h9 := (block_range HDB.out) 1 _ rfl; rw [Nat.zero_add] at h9; exact h9
            go_wp2_with (fail)
            refine (number_any d.n 300 wd HD.out.2.1 (by decide) (by decide)).mono ?_
            rintro e wn ⟨rfl, rfl⟩
            have hm0 := nmod_lo d.n 300 (by decide)
            have hm1 := nmod_hi d.n 300 (by decide)
            obtain ⟨v, hv⟩ : ∃ v, v = nmod d.n 300 := ⟨_, rfl⟩
            rw [← hv] at hm0 hm1 ⊢
            clear hv hd1
            have ht0 := HT0.out
            have ht9 : t ≤ 36000 := by have h1 := HT1.out; have h2 := HIN.out; have h3 := HN.out; omega
            go_wp2_with (fail)
            refine (sweep_w HWd.out HT.out (t + v)).mono ?_
            rintro e w6 ⟨A6, c6, Au6, cu6, nm6, q6, s6, l6, P6, rfl, hn64, hnc, hm6, -, -⟩
            have HM6 := Shut.mk hm6
            have HV := Shut.mk (show 0 ≤ t + v ∧ t + v ≤ 300 * ((i : Int) + 1) by have h1 := HT1.out; omega)
            have hz9 : ((z : Nat) : Int) ≤ 4 := by have := HZ.out; omega
            clear hm6 hn64 hnc hm0 hm1 ht0 ht9
            go_wp2_with (fail)
            refine (end_w HM6.out c6 (by have := HNI.out; have := HIN.out; omega) (by have := HN.out; omega) (by have := HZ.out; omega) _ rfl).mono ?_
            rintro e w7 ⟨rfl, S7, o7, hw7, ho7⟩
            have HW7 := Shut.mk hw7
            have HO7 := Shut.mk ho7
            clear hw7 ho7
            clear HM6
            go_wp2_with (fail)
            refine (barred_w HW7.out).mono ?_
            rintro e w8 ⟨rfl, s8, hw8⟩
            have HW8 := Shut.mk hw8
            clear hw8
            go_wp2_with (fail)
            go_meet
            exact ⟨n, o7, t + v, q6, s8, S7, by have := HNI.out; omega, rfl, HV.out.1, HV.out.2, HW8⟩
        case rest =>
          as_aux_lemma =>
            obtain ⟨n, over, t, q, s, S, hn1, rfl, ht0, ht1, HW6⟩ := hcut
            clear HWd HDB HDF HT0 HT1
            obtain ⟨na, hna⟩ : ∃ x, x = s.l.length := ⟨_, rfl⟩
            obtain ⟨ni, hni⟩ : ∃ x, x = (toldM idleP s.l).length := ⟨_, rfl⟩
            obtain ⟨nf, hnf⟩ : ∃ x, x = (toldM flyP s.l).length := ⟨_, rfl⟩
            have hcnt := HW6.out.i.cnt
            have hidf := idle_fly s.l
            have hlen := HW6.out.p.law.inv.len
            rw [← hna] at hcnt hidf hlen
            rw [← hni, ← hnf] at hidf
            have HNA := Shut.mk hna
            have HNI2 := Shut.mk hni
            have HNF2 := Shut.mk hnf
            have HC1 := Shut.mk (show (((na : Nat) : Int) != ((na : Nat) : Int)) = false by simp)
            have hn9 : ((n : Nat) : Int) ≤ 121 := by have h2 := HIN.out; have h3 := HN.out; omega
            have ho9 : ((over : Nat) : Int) ≤ 121 := by omega
            have hs0 : (0 : Int) ≤ ((n : Nat) : Int) - ((over : Nat) : Int) := by omega
            have hs1 : ((n : Nat) : Int) - ((over : Nat) : Int) ≤ 121 := by omega
            have HSW := Shut.mk (show IntKind.i64.wrap (((n : Nat) : Int) - ((over : Nat) : Int)) = ((na : Nat) : Int) by rw [show ((n : Nat) : Int) - ((over : Nat) : Int) = ((na : Nat) : Int) by omega]; exact wrap_i64s _ (by omega))
            have HAW := Shut.mk (show IntKind.i64.wrap (((ni : Nat) : Int) + ((nf : Nat) : Int)) = ((na : Nat) : Int) by rw [show ((ni : Nat) : Int) + ((nf : Nat) : Int) = ((na : Nat) : Int) by omega]; exact wrap_i64s _ (by omega))
            have hi9 : ((ni : Nat) : Int) ≤ 64 := by omega
            have hf9 : ((nf : Nat) : Int) ≤ 64 := by omega
            have HTT := Shut.mk (show 0 ≤ t ∧ t ≤ 300 * ((i : Int) + 1) from ⟨ht0, ht1⟩)
            have HN1 := Shut.mk hn1
            obtain ⟨w5, hw5⟩ : ∃ wq, wq = World.drew wc := ⟨_, rfl⟩
            have HWw5 := Shut.mk hw5
            have HDw5 := Shut.mk (show Below wc.heap.size wc w5 by rw [hw5]; exact (Below.refl _ _).drew)
            have HW5 := Shut.mk (HW6.out.quiet HDw5.out)
            have HCN := Shut.mk (show w5.cell? ⟨cn, 0, none⟩ = some (.int .i64 ((n : Nat) : Int)) by have h9 := block_range HW5.out.p.fn.bn 0 _ rfl; exact h9)
            have HCO := Shut.mk (show w5.cell? ⟨co, 0, none⟩ = some (.int .i64 ((over : Nat) : Int)) by have h9 := block_range HW5.out.p.fn.bo 0 _ rfl; exact h9)
            clear hs0 hs1 hna hni hnf hcnt hidf hlen ht0 ht1 hn1 hw5 HW6
            go_upto_region 49 with (fail)
            refine wp_region_D (fun w' => Below w5.heap.size w5 w') 19 (by kernel_rfl) (show Below w5.heap.size w5 (World.drew wc) by rw [HWw5.out]; exact Below.refl _ _) (fun hHeld hC => ?_)
            rw [← HWw5.out] at hHeld ⊢
            refine wpAnyD_pure (i := 0) (v := ?_) rfl hC (by kernel_rfl) (by kernel_rfl) (by kernel_rfl) (by decide) (fun _ _ _ h => h) (Or.inl ⟨by rfl, ?_⟩) (fun _ => hHeld) ?_
            rotate_left
            · intro w hSw
              clear hSw
              go_simp
              try with_reducible rfl
            try simp only [Act.put, List.getElem_toArray, List.getElem_cons_zero, List.getElem_cons_succ, List.setIfInBounds_toArray, List.set_cons_zero, List.set_cons_succ]
            clear hC
            intro hC
            refine wpAnyD_take (i := 3) (v := ?_) 40 rfl (by kernel_rfl) hC (by kernel_rfl) (by kernel_rfl) (by kernel_rfl) (by decide) (fun _ _ _ h => h) (Or.inl ⟨by rfl, ?_⟩) (fun _ => hHeld) ?_
            rotate_left
            · intro w hSw
              have hz := (show w.cell? ⟨cn, 0, none⟩ = some (.int .i64 ((n : Nat) : Int)) from below_at hSw HCN.out)
              clear hSw
              go_simp
              try with_reducible rfl
            try simp only [Act.put, List.getElem_toArray, List.getElem_cons_zero, List.getElem_cons_succ, List.setIfInBounds_toArray, List.set_cons_zero, List.set_cons_succ]
            clear hC
            intro hC
            refine wpAnyD_take (i := 4) (v := ?_) 40 rfl (by kernel_rfl) hC (by kernel_rfl) (by kernel_rfl) (by kernel_rfl) (by decide) (fun _ _ _ h => h) (Or.inl ⟨by rfl, ?_⟩) (fun _ => hHeld) ?_
            rotate_left
            · intro w hSw
              have hz := (show w.cell? ⟨co, 0, none⟩ = some (.int .i64 ((over : Nat) : Int)) from below_at hSw HCO.out)
              clear hSw
              go_simp
              try with_reducible rfl
            try simp only [Act.put, List.getElem_toArray, List.getElem_cons_zero, List.getElem_cons_succ, List.setIfInBounds_toArray, List.set_cons_zero, List.set_cons_succ]
            clear hC
            intro hC
            refine wpAnyD_pure (i := 5) (v := ?_) rfl hC (by kernel_rfl) (by kernel_rfl) (by kernel_rfl) (by decide) (fun _ _ _ h => h) (Or.inl ⟨by rfl, ?_⟩) (fun _ => hHeld) ?_
            rotate_left
            · intro w hSw
              clear hSw
              go_simp
              try with_reducible rfl
            try simp only [Act.put, List.getElem_toArray, List.getElem_cons_zero, List.getElem_cons_succ, List.setIfInBounds_toArray, List.set_cons_zero, List.set_cons_succ]
            clear hC
            intro hC
            refine wpAnyD_one (i := 1) (by kernel_rfl) rfl hC (fun K hK => ?_)
            clear hC
            go_simp
            have hcall := out_l (HW5.out.quiet hHeld).p.law
            rw [HW5.out.p.gq, ← HNA.out] at hcall
            refine hcall.mono ?_
            clear hcall
            rintro e' wv1 ⟨Ax, cx, rfl, hb⟩
            have HKD := Shut.mk hb
            clear hb
            have hHeld2 := hHeld.trans (HKD.out.mono hHeld.size)
            clear hHeld
            have hHeld := hHeld2
            clear hHeld2
            refine hK.out _ _ (fun _ => hHeld) (fun hC => ?_)
            clear hK K
            try simp only [Act.put, List.getElem_toArray, List.getElem_cons_zero, List.getElem_cons_succ, List.setIfInBounds_toArray, List.set_cons_zero, List.set_cons_succ]
            refine wpAnyD_pure (i := 2) (v := ?_) rfl hC (by kernel_rfl) (by kernel_rfl) (by kernel_rfl) (by decide) (fun _ _ _ h => h) (Or.inl ⟨by rfl, ?_⟩) (fun _ => hHeld) ?_
            rotate_left
            · intro w hSw
              clear hSw
              go_simp
              try with_reducible rfl
            try simp only [Act.put, List.getElem_toArray, List.getElem_cons_zero, List.getElem_cons_succ, List.setIfInBounds_toArray, List.set_cons_zero, List.set_cons_succ]
            clear hC
            intro hC
            refine wpAnyD_one (i := 6) (by kernel_rfl) rfl hC (fun K hK => ?_)
            clear hC
            go_simp
            rw [HSW.out]
            rw [HC1.out]
            have hHeld2 := hHeld
            clear hHeld
            have hHeld := hHeld2
            clear hHeld2
            refine hK.out _ _ (fun _ => hHeld) (fun hC => ?_)
            clear hK K
            try simp only [Act.put, List.getElem_toArray, List.getElem_cons_zero, List.getElem_cons_succ, List.setIfInBounds_toArray, List.set_cons_zero, List.set_cons_succ]
            refine wpAnyD_pure (i := 7) (v := ?_) rfl hC (by kernel_rfl) (by kernel_rfl) (by kernel_rfl) (by decide) (fun _ _ _ h => h) (Or.inl ⟨by rfl, ?_⟩) (fun _ => hHeld) ?_
            rotate_left
            · intro w hSw
              clear hSw
              go_simp
              try with_reducible rfl
            try simp only [Act.put, List.getElem_toArray, List.getElem_cons_zero, List.getElem_cons_succ, List.setIfInBounds_toArray, List.set_cons_zero, List.set_cons_succ]
            clear hC
            intro hC
            refine wpAnyD_pure (i := 8) (v := ?_) rfl hC (by kernel_rfl) (by kernel_rfl) (by kernel_rfl) (by decide) (fun _ _ _ h => h) (Or.inl ⟨by rfl, ?_⟩) (fun _ => hHeld) ?_
            rotate_left
            · intro w hSw
              clear hSw
              go_simp
              try with_reducible rfl
            try simp only [Act.put, List.getElem_toArray, List.getElem_cons_zero, List.getElem_cons_succ, List.setIfInBounds_toArray, List.set_cons_zero, List.set_cons_succ]
            clear hC
            intro hC
            refine wpAnyD_pure (i := 11) (v := ?_) rfl hC (by kernel_rfl) (by kernel_rfl) (by kernel_rfl) (by decide) (fun _ _ _ h => h) (Or.inl ⟨by rfl, ?_⟩) (fun _ => hHeld) ?_
            rotate_left
            · intro w hSw
              clear hSw
              go_simp
              try with_reducible rfl
            try simp only [Act.put, List.getElem_toArray, List.getElem_cons_zero, List.getElem_cons_succ, List.setIfInBounds_toArray, List.set_cons_zero, List.set_cons_succ]
            clear hC
            intro hC
            refine wpAnyD_pure (i := 15) (v := ?_) rfl hC (by kernel_rfl) (by kernel_rfl) (by kernel_rfl) (by decide) (fun _ _ _ h => h) (Or.inl ⟨by rfl, ?_⟩) (fun _ => hHeld) ?_
            rotate_left
            · intro w hSw
              clear hSw
              go_simp
              try with_reducible rfl
            try simp only [Act.put, List.getElem_toArray, List.getElem_cons_zero, List.getElem_cons_succ, List.setIfInBounds_toArray, List.set_cons_zero, List.set_cons_succ]
            clear hC
            intro hC
            refine wpAnyD_one (i := 9) (by kernel_rfl) rfl hC (fun K hK => ?_)
            clear hC
            go_simp
            have hcall := due_l (HW5.out.quiet hHeld).p.law
            rw [HW5.out.p.gq, ← HNI2.out] at hcall
            refine hcall.mono ?_
            clear hcall
            rintro e' wv2 ⟨Ax, cx, rfl, -, hb⟩
            have HKD := Shut.mk hb
            clear hb
            have hHeld2 := hHeld.trans (HKD.out.mono hHeld.size)
            clear hHeld
            have hHeld := hHeld2
            clear hHeld2
            refine hK.out _ _ (fun _ => hHeld) (fun hC => ?_)
            clear hK K
            try simp only [Act.put, List.getElem_toArray, List.getElem_cons_zero, List.getElem_cons_succ, List.setIfInBounds_toArray, List.set_cons_zero, List.set_cons_succ]
            refine wpAnyD_pure (i := 10) (v := ?_) rfl hC (by kernel_rfl) (by kernel_rfl) (by kernel_rfl) (by decide) (fun _ _ _ h => h) (Or.inl ⟨by rfl, ?_⟩) (fun _ => hHeld) ?_
            rotate_left
            · intro w hSw
              clear hSw
              go_simp
              try with_reducible rfl
            try simp only [Act.put, List.getElem_toArray, List.getElem_cons_zero, List.getElem_cons_succ, List.setIfInBounds_toArray, List.set_cons_zero, List.set_cons_succ]
            clear hC
            intro hC
            refine wpAnyD_one (i := 12) (by kernel_rfl) rfl hC (fun K hK => ?_)
            clear hC
            go_simp
            have hcall := flying_l (HW5.out.quiet hHeld).p.law
            rw [HW5.out.p.gq, ← HNF2.out] at hcall
            refine hcall.mono ?_
            clear hcall
            rintro e' wv3 ⟨Ax, cx, rfl, -, hb⟩
            have HKD := Shut.mk hb
            clear hb
            have hHeld2 := hHeld.trans (HKD.out.mono hHeld.size)
            clear hHeld
            have hHeld := hHeld2
            clear hHeld2
            refine hK.out _ _ (fun _ => hHeld) (fun hC => ?_)
            clear hK K
            try simp only [Act.put, List.getElem_toArray, List.getElem_cons_zero, List.getElem_cons_succ, List.setIfInBounds_toArray, List.set_cons_zero, List.set_cons_succ]
            refine wpAnyD_pure (i := 13) (v := ?_) rfl hC (by kernel_rfl) (by kernel_rfl) (by kernel_rfl) (by decide) (fun _ _ _ h => h) (Or.inl ⟨by rfl, ?_⟩) (fun _ => hHeld) ?_
            rotate_left
            · intro w hSw
              clear hSw
              go_simp
              try with_reducible rfl
            try simp only [Act.put, List.getElem_toArray, List.getElem_cons_zero, List.getElem_cons_succ, List.setIfInBounds_toArray, List.set_cons_zero, List.set_cons_succ]
            clear hC
            intro hC
            refine wpAnyD_pure (i := 14) (v := ?_) rfl hC (by kernel_rfl) (by kernel_rfl) (by kernel_rfl) (by decide) (fun _ _ _ h => h) (Or.inl ⟨by rfl, ?_⟩) (fun _ => hHeld) ?_
            rotate_left
            · intro w hSw
              clear hSw
              go_simp
              try with_reducible rfl
            try simp only [Act.put, List.getElem_toArray, List.getElem_cons_zero, List.getElem_cons_succ, List.setIfInBounds_toArray, List.set_cons_zero, List.set_cons_succ]
            clear hC
            intro hC
            refine wpAnyD_one (i := 16) (by kernel_rfl) rfl hC (fun K hK => ?_)
            clear hC
            go_simp
            have hcall := out_l (HW5.out.quiet hHeld).p.law
            rw [HW5.out.p.gq, ← HNA.out] at hcall
            refine hcall.mono ?_
            clear hcall
            rintro e' wv4 ⟨Ax, cx, rfl, hb⟩
            have HKD := Shut.mk hb
            clear hb
            have hHeld2 := hHeld.trans (HKD.out.mono hHeld.size)
            clear hHeld
            have hHeld := hHeld2
            clear hHeld2
            refine hK.out _ _ (fun _ => hHeld) (fun hC => ?_)
            clear hK K
            try simp only [Act.put, List.getElem_toArray, List.getElem_cons_zero, List.getElem_cons_succ, List.setIfInBounds_toArray, List.set_cons_zero, List.set_cons_succ]
            refine wpAnyD_pure (i := 17) (v := ?_) rfl hC (by kernel_rfl) (by kernel_rfl) (by kernel_rfl) (by decide) (fun _ _ _ h => h) (Or.inl ⟨by rfl, ?_⟩) (fun _ => hHeld) ?_
            rotate_left
            · intro w hSw
              clear hSw
              go_simp
              try with_reducible rfl
            try simp only [Act.put, List.getElem_toArray, List.getElem_cons_zero, List.getElem_cons_succ, List.setIfInBounds_toArray, List.set_cons_zero, List.set_cons_succ]
            clear hC
            intro hC
            refine wpAnyD_one (i := 18) (by kernel_rfl) rfl hC (fun K hK => ?_)
            clear hC
            go_simp
            rw [HAW.out]
            rw [HC1.out]
            have hHeld2 := hHeld
            clear hHeld
            have hHeld := hHeld2
            clear hHeld2
            refine hK.out _ _ (fun _ => hHeld) (fun hC => ?_)
            clear hK K
            try simp only [Act.put, List.getElem_toArray, List.getElem_cons_zero, List.getElem_cons_succ, List.setIfInBounds_toArray, List.set_cons_zero, List.set_cons_succ]
            refine wpAnyD_one (i := 19) (by kernel_rfl) rfl hC (fun K hK => ?_)
            clear hC
            go_simp
            refine hK.out _ _ (past (by kernel_rfl)) (fun hC => ?_)
            clear hK K
            try simp only [Act.put, List.getElem_toArray, List.getElem_cons_zero, List.getElem_cons_succ, List.setIfInBounds_toArray, List.set_cons_zero, List.set_cons_succ]
            refine wpAnyD_done (by kernel_rfl) ?_ _
            try simp only [Act.put, List.getElem_toArray, List.getElem_cons_zero, List.getElem_cons_succ, List.setIfInBounds_toArray, List.set_cons_zero, List.set_cons_succ]
            have HWN := Shut.mk (HW5.out.quiet hHeld)
            clear hHeld hC
            go_wp2_with (fail)
            go_roundw
            case rel => exact ⟨i + 1, n, over, t, q, s, S, by have := HIN.out; omega, HN1.out, by go_num, rfl, HTT.out.1, by have := HTT.out.2; omega, HWN.out⟩
            case measure => have := HIN.out; simp [intOf]; omega
      · have hi' : i = m := by omega
        subst hi'
        go_wp2_with (fail)
        go_ret
        exact ⟨rfl, HW.out.p.law.bel⟩

end Go.Proofs.YtlbfioknkagboaaDoor.baOnce
