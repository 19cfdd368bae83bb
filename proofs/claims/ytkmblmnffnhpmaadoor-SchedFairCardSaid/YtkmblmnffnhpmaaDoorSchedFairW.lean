/-
  The walk of muezzin/muezzinlaw20.SchedFair: the Go text returns true.
-/
import Derived.Test.YtkmblmnffnhpmaaDoorSchedF
import Derived.Test.YtkmblmnffnhpmaaDoorNum
import Derived.Test.YtkmblmnffnhpmaaDoorSchedX
import Derived.Test.YtkmblmnffnhpmaaDoorTkD
import Derived.Test.YtkmblmnffnhpmaaDoorTkH
import Derived.LoopTactic
import Derived.Lib.MinMax
import Derived.Deep.CutRange
import Derived.Deep.CutBlock
import Derived.WalkKit
import Derived.ProofKit
import Derived.Below
namespace Go.Proofs.YtkmblmnffnhpmaaDoor.schedFair
open Go.ChangeShapes Go.WideShapes Go.ChangeAt Go.RowKit Go.Deep
set_option linter.unusedVariables false
set_option linter.unusedSimpArgs false

open Go.Proofs.YtkmblmnffnhpmaaDoor

def wtF (z : List Int) (i : Nat) : Nat := (nmod (z.getD i 0) 100).toNat + 1
theorem wtF_in (z : List Int) (i : Nat) : 1 ≤ wtF z i ∧ wtF z i ≤ 100 := by have h1 := nmod_lo (z.getD i 0) 100 (by decide); have h2 := nmod_hi (z.getD i 0) 100 (by decide); unfold wtF; omega
theorem size1q : (Tryd.prog.info? 2).map (·.size) = some 1 := by kernel_rfl
/-- what the test asks, in numbers. -/
structure Tst (a wk b wi t : Nat) : Prop where
  out : ∃ A B C D1 D2 q F : Nat, IntKind.i64.wrap ((a : Int) * (wk : Int)) = (A : Int) ∧ IntKind.i64.wrap ((b : Int) * (wi : Int)) = (B : Int) ∧ IntKind.i64.wrap (5000 * (wk : Int)) = (C : Int) ∧ IntKind.i64.wrap ((t : Int) * (wi : Int)) = (D1 : Int) ∧ IntKind.i64.wrap ((D1 : Int) * (wk : Int)) = (D2 : Int) ∧ (D2 : Int).tdiv 10000 = (q : Int) ∧ IntKind.i64.wrap ((wi : Int) * (wk : Int)) = (F : Int) ∧
    IntKind.i64.wrap (q : Int) = (q : Int) ∧ A ≤ 100000000 ∧ B ≤ 100000000 ∧ C ≤ 500000 ∧ q ≤ 2000000 ∧ F ≤ 10000 ∧ A ≤ B + C + q
theorem tst_is {n t i k : Nat} {w got T : Nat → Nat} (h : FairS n w got T t) (hi : i < n) (hk : k < n) (ht : t ≤ 200) (hw : ∀ j, 1 ≤ w j ∧ w j ≤ 100) (hg : ∀ j, j < n → got j ≤ 5000 * t) : Tst (got i) (w k) (got k) (w i) t := by
  have e := fairS_end h hi hk
  have g1 := hg i hi
  have g2 := hg k hk
  have w1 := hw i
  have w2 := hw k
  have a1 : got i * w k ≤ 1000000 * 100 := Nat.mul_le_mul (by omega) w2.2
  have a2 : got k * w i ≤ 1000000 * 100 := Nat.mul_le_mul (by omega) w1.2
  have a3 : t * w i ≤ 200 * 100 := Nat.mul_le_mul ht w1.2
  have a4 : t * w i * w k ≤ 20000 * 100 := Nat.mul_le_mul a3 w2.2
  have a5 : w i * w k ≤ 100 * 100 := Nat.mul_le_mul w1.2 w2.2
  have hq : t * w i * w k / 10000 ≤ 2000000 := Nat.le_trans (Nat.div_le_self _ _) a4
  have wr : ∀ x : Nat, x ≤ 100000000000 → IntKind.i64.wrap (x : Int) = (x : Int) := fun x hx => IntWalk.i64_in _ ⟨by omega, by omega⟩
  refine ⟨got i * w k, got k * w i, 5000 * w k, t * w i, t * w i * w k, t * w i * w k / 10000, w i * w k, ?_, ?_, ?_, ?_, ?_, ?_, ?_, wr _ (by omega), by omega, by omega, by omega, hq, by omega, e⟩
  · rw [← Int.natCast_mul]; exact wr _ (by omega)
  · rw [← Int.natCast_mul]; exact wr _ (by omega)
  · rw [show (5000 * ((w k : Nat) : Int)) = ((5000 * w k : Nat) : Int) by omega]; exact wr _ (by omega)
  · rw [← Int.natCast_mul]; exact wr _ (by omega)
  · rw [← Int.natCast_mul]; exact wr _ (by omega)
  · rw [Int.tdiv_eq_ediv_of_nonneg (by omega)]; exact (Int.natCast_ediv _ _).symm
  · rw [← Int.natCast_mul]; exact wr _ (by omega)
theorem mod_idx {t m : Nat} (hm : 0 < m) : ((t : Int)).tmod (m : Int) = ((t % m : Nat) : Int) := by
  rw [Int.tmod_eq_emod_of_nonneg (by omega)]
  exact (Int.natCast_emod _ _).symm

/-! ### THE WALK -/
set_option maxRecDepth 100000 in
set_option maxHeartbeats 8000000 in
theorem walk (a0 : Option Addr) (len0 cap0 : Nat) (z0 : List Int) (a1 : Option Addr) (len1 cap1 : Nat) (z1 : List Int) (n2 : Int) (w : World) (E : Nat → Addr) (hS : Sent w E [103, 107, 108]) (w0 : IsRow .i64 w a0 len0 cap0 z0) (w1 : IsRow .i64 w a1 len1 cap1 z1) (w2 : (Lit.int .i64 n2).wf = true) :
    Calls Tryd.prog 4 #[.slice a0 len0 cap0, .slice a1 len1 cap1, .int .i64 n2] w fun e w' => e = .returned (.bool true) ∧ Below w.heap.size w w' := by
  have HS := Shut.mk hS
  have HZ0 := Shut.mk w0
  have HZ1 := Shut.mk w1
  have HW2 := Shut.mk w2
  clear hS w0 w1 w2
  go_enter Tryd.func4, Tryd.ntmps4
  go_wp2_with (fail)
  refine (first_any w E HS.out (by decide) (by decide) (by decide)).mono ?_
  rintro x wa ⟨rfl, hBa⟩
  have HBa := Shut.mk hBa
  clear hBa
  rcases Nat.lt_or_ge len0 2 with h | h
  · have h1 : (len0 : Int) < 2 := by omega
    go_wp2_with (fail)
    go_ret
    exact ⟨rfl, HBa.out⟩
  have g1 : ¬ (len0 : Int) < 2 := by omega
  rcases Nat.lt_or_ge 8 len0 with h' | h'
  · have h1 : (8 : Int) < (len0 : Int) := by omega
    go_wp2_with (fail)
    go_ret
    exact ⟨rfl, HBa.out⟩
  have g2 : ¬ (8 : Int) < (len0 : Int) := by omega
  rcases Nat.eq_zero_or_pos len1 with h2 | h2
  · have h1 : ((len1 : Int) == 0) = true := by rw [h2]; rfl
    have h3 : (len1 : Int) = 0 := by omega
    go_wp2_with (fail)
    go_ret
    exact ⟨rfl, HBa.out⟩
  have g3 : ((len1 : Int) == 0) = false := by simp; omega
  have g3' : ¬ (len1 : Int) = 0 := by omega
  have g3'' : ¬ len1 = 0 := by omega
  rcases Nat.lt_or_ge 50 len1 with h3 | h3
  · have h1 : (50 : Int) < (len1 : Int) := by omega
    go_wp2_with (fail)
    go_ret
    exact ⟨rfl, HBa.out⟩
  have g4 : ¬ (50 : Int) < (len1 : Int) := by omega
  have HN := Shut.mk (show 2 ≤ len0 ∧ len0 ≤ 8 from ⟨h, h'⟩)
  have HM := Shut.mk (show 0 < len1 ∧ len1 ≤ 50 from ⟨h2, h3⟩)
  obtain ⟨t, ht⟩ : ∃ t : Nat, nmod n2 200 = (t : Int) := ⟨(nmod n2 200).toNat, by have := nmod_lo n2 200 (by decide); omega⟩
  have HTL := Shut.mk (show t < 200 by have := nmod_hi n2 200 (by decide); omega)
  have HTE := Shut.mk ht
  clear h h' h2 h3 ht
  go_wp2_with (fail)
  refine (number_any n2 200 wa HW2.out (by decide) (by decide)).mono ?_
  rintro x wn ⟨rfl, rfl⟩
  rw [HTE.out]
  clear HTE HW2
  go_wp2_with (fail)
  refine (new_l HBa.out).mono ?_
  rintro x wb ⟨S, g, rfl, hl, hb, hs⟩
  have HL0 := Shut.mk hl
  clear hl hb hs
  obtain ⟨bi, hbi, hzb, hyb, hxb⟩ := info_parts' int64_info
  have y1 : IntKind.i64.wrap ((len0 : Int) + 1) = ((len0 + 1 : Nat) : Int) := by have := HN.out; rw [IntWalk.i64_in _ ⟨by omega, by omega⟩]; omega
  have hn1 : (0 : Int) ≤ ((len0 + 1 : Nat) : Int) := by omega
  have hn8 : len0 ≤ 8 := HN.out.2
  go_wp2_with (first
    | (at_make; refine wpList_make_full _ rfl _ _ 51 rfl wb.heap.size 2 bi (.int .i64 0) 1 Tryd.underlying51 hbi hzb hyb _ _ _ _ (len0 + 1) rfl rfl (by omega) (by omega) (by rw [hxb]; omega) (by unfold maxLen; omega) (Nat.le_refl _) ?_; intro w4 hown1 hgrow1)
    | (at_make; refine wpList_make_full _ rfl _ _ 51 rfl w4.heap.size 2 bi (.int .i64 0) 1 Tryd.underlying51 hbi hzb hyb _ _ _ _ (len0 + 1) rfl rfl (by omega) (by omega) (by rw [hxb]; omega) (by unfold maxLen; omega) (Nat.le_refl _) ?_; intro w5 hown2 hgrow2))
  have HA4 := Shut.mk (made_rowF hown1)
  have HB4 := Shut.mk ((Below.refl wb.heap.size wb).grown hgrow1 (Nat.le_refl _) (by simp))
  clear hown1 hgrow1
  have HA5 := Shut.mk (made_rowF hown2)
  have HB5 := Shut.mk ((Below.refl w4.heap.size w4).grown hgrow2 (Nat.le_refl _) (by simp))
  clear hown2 hgrow2 hbi hzb hyb hxb hn1
  have HF0 := Shut.mk (show FairW w w5 g wb.heap.size w4.heap.size (len0 + 1) (shF (cutF (wtF z0) 0)) (shF fun _ => 0) (mkW (wtF z0) (fun _ => 0) 0) by
    have h1 := HL0.out.bel.size
    have h2 := lt_blk HA4.out
    rw [cutF_0, shF_0]
    refine ⟨⟨S, (HL0.out.quiet HB4.out).quiet HB5.out, fun k hk => ?_⟩, (HB5.out.block _ h2).trans HA4.out, HA5.out, by omega, h1, Nat.le_trans h1 HB4.out.size⟩
    have h3 := HL0.out.there k hk
    have h4 := HB4.out.size
    exact ⟨by omega, by omega⟩)
  obtain ⟨gw, hgw⟩ : ∃ gw, gw = wb.heap.size := ⟨_, rfl⟩
  obtain ⟨gg, hgg⟩ : ∃ gg, gg = w4.heap.size := ⟨_, rfl⟩
  rw [← hgw, ← hgg] at HF0
  rw [← hgw, ← hgg]
  clear HA4 HB4 HA5 HB5 HL0 hgw hgg
  go_wp2_with (fail)
  go_loopw [12] (fun s12 wr => ∃ i : Nat, i ≤ len0 ∧ s12 = .int .i64 (i : Int) ∧ Shut (FairW w wr g gw gg (len0 + 1) (shF (cutF (wtF z0) i)) (shF fun _ => 0) (mkW (wtF z0) (fun _ => 0) i))) (fun s12 _ => len0 - (intOf s12).toNat)
  case atStart => exact ⟨0, Nat.zero_le _, rfl, HF0⟩
  case round =>
    clear HF0
    obtain ⟨i, hi, rfl, HF⟩ := hrel
    by_cases hin : i < len0
    · obtain ⟨bb, off, rfl, hcl, hwf⟩ := HZ0.out.el i hin
      have hc := below_at HF.out.bel hcl
      obtain ⟨v, hv⟩ : ∃ v, v = z0.getD i 0 := ⟨_, rfl⟩
      have hx := wtF_in z0 i
      obtain ⟨x, hxx⟩ : ∃ x, x = wtF z0 i := ⟨_, rfl⟩
      have HWI := Shut.mk (wtF_in z0)
      have hnx : nmod v 100 = ((x - 1 : Nat) : Int) := by have h1 := nmod_lo v 100 (by decide); rw [hxx]; unfold wtF; rw [← hv]; omega
      have q1 := Shut.mk (show addT (mkW (wtF z0) (fun _ => 0) i) ((i + 1 : Nat) : Int) ((x : Nat) : Int) = (mkW (wtF z0) (fun _ => 0) i ++ [⟨i + 1, x, 0, false⟩], 0) by rw [hxx]; exact mkw_add (wtF z0) _ (by have := HN.out; omega) (wtF_in z0 i))
      have q2 := Shut.mk (show actT (mkW (wtF z0) (fun _ => 0) i ++ [⟨i + 1, x, 0, false⟩]) ((i + 1 : Nat) : Int) true = (mkW (wtF z0) (fun _ => 0) (i + 1), 0) by rw [hxx]; exact mkw_act (wtF z0) i)
      have HUP := Shut.mk (show upX (shF (cutF (wtF z0) i)) (i + 1) ((x : Nat) : Int) = shF (cutF (wtF z0) (i + 1)) by rw [hxx]; exact cutF_up (wtF z0) i)
      rw [← hv] at hc hwf
      rw [← hxx] at hx
      have HWF := Shut.mk hwf
      have hi1 : (i : Int) < (len0 : Int) := by omega
      have hi2 : i < len0 := hin
      have y2 : IntKind.i64.wrap ((i : Int) + 1) = ((i + 1 : Nat) : Int) := by have := HN.out; rw [IntWalk.i64_in _ ⟨by omega, by omega⟩]; omega
      have y3 : IntKind.i64.wrap (((x - 1 : Nat) : Int) + 1) = (x : Int) := by rw [IntWalk.i64_in _ ⟨by omega, by omega⟩]; omega
      have hi0 : (0 : Int) ≤ (i : Int) := by omega
      obtain ⟨k1, hk1⟩ : ∃ k1, k1 = i + 1 := ⟨_, rfl⟩
      rw [← hk1] at y2 q1 q2 HUP
      have HK1 := Shut.mk (show k1 = i + 1 ∧ k1 < len0 + 1 from ⟨hk1, by omega⟩)
      have hk0 : (0 : Int) ≤ (k1 : Int) := by omega
      have hk2 : (k1 : Int) < ((len0 + 1 : Nat) : Int) := by omega
      have hk3 : k1 < len0 + 1 := HK1.out.2
      have hk4 : k1 ≤ len0 := by omega
      have hk5 : (k1 : Int) ≤ (len0 : Int) := by omega
      have hk6 : (k1 : Int) < (len0 : Int) + 1 := by omega
      obtain ⟨x1, hx1⟩ : ∃ x1, x1 = x - 1 := ⟨_, rfl⟩
      rw [← hx1] at hnx y3
      have HNX := Shut.mk hnx
      clear hcl hv hwf hi hxx hk1 hx1 hx hin hnx
      go_wp2_with (fail)
      refine (number_any v 100 wr HWF.out (by decide) (by decide)).mono ?_
      rintro e wn ⟨rfl, rfl⟩
      rw [HNX.out]
      go_wp2_with (first
        | (refine wpList_store_into rfl 2 (.tmp 67) (.tmp 66) rfl gw k1 (.int .i64 (x : Int)) rfl rfl rfl 2 (rowF (len0 + 1) (shF (cutF (wtF z0) i))) (rowF (len0 + 1) (upX (shF (cutF (wtF z0) i)) k1 (x : Int))) HF.out.atW size1q (by rw [rowF_size]; exact HK1.out.2) (rowF_set _ _ HK1.out.2 _) ?_
           have HF2 := Shut.mk (HF.out.putW (a := k1) (x : Int))
           generalize hq : World.setRow wr gw _ = w8 at *
           clear hq
           have hcx := HF2.out.cw (i := k1) HK1.out.2
           rw [upX_same] at hcx))
      have HF3 := Shut.mk (show FairW w w8 g gw gg (len0 + 1) (shF (cutF (wtF z0) k1)) (shF fun _ => 0) (mkW (wtF z0) (fun _ => 0) i) by rw [← HUP.out]; exact HF2.out)
      clear hcx HF2 HF
      refine (add_f HF3.out (by rw [mkw_len]; have := HN.out; have := HK1.out; omega) HS.out (by decide) (by decide) (k1 : Int) (x : Int)).mono ?_
      rintro e wc ⟨rfl, hst⟩
      rw [q1.out] at hst ⊢
      rw [errV_zero]
      have HF4 := Shut.mk hst
      clear hst HF3
      go_wp2_with (fail)
      refine (active_f HF4.out HS.out (by decide) (k1 : Int) true).mono ?_
      rintro e wd ⟨rfl, hst⟩
      rw [q2.out] at hst ⊢
      rw [errV_zero]
      have HF5 := Shut.mk hst
      clear hst HF4
      go_wp2_with (fail)
      go_roundw
      case rel => exact ⟨k1, by have := HK1.out; omega, rfl, HF5⟩
      case measure => have := HK1.out; simp [intOf]; omega
    · obtain rfl : len0 = i := by omega
      have hge : ¬ (len0 : Int) < (len0 : Int) := by omega
      have hge2 : ¬ len0 < len0 := by omega
      clear hi hin
      obtain ⟨W, hW⟩ : ∃ W, W = shF (cutF (wtF z0) len0) := ⟨_, rfl⟩
      have HWV := Shut.mk (show ∀ j, j < len0 → W (j + 1) = ((wtF z0 j : Nat) : Int) from fun j hj => by rw [hW, shF_at, cutF_at _ hj])
      have HFA := Shut.mk (show ∃ got T : Nat → Nat, FairW w wr g gw gg (len0 + 1) W (shF got) (mkW (wtF z0) T len0) ∧ FairS len0 (wtF z0) got T 0 ∧ ∀ j, j < len0 → got j ≤ 5000 * 0 from ⟨fun _ => 0, fun _ => 0, by rw [hW]; exact HF.out, fairS_zero _ _, fun _ _ => Nat.le_refl _⟩)
      have HWI := Shut.mk (wtF_in z0)
      obtain ⟨wt, hwt⟩ : ∃ wt, wt = wtF z0 := ⟨_, rfl⟩
      rw [← hwt] at HWV HFA HWI
      clear HF hW hwt
      go_wp2_with (fail)
      clear hge hge2
      go_loopw [13, 14, 15] (fun s13 _ _ wr => ∃ j : Nat, j ≤ t ∧ s13 = .int .i64 (j : Int) ∧ Shut (∃ got T : Nat → Nat, FairW w wr g gw gg (len0 + 1) W (shF got) (mkW wt T len0) ∧ FairS len0 wt got T j ∧ ∀ i, i < len0 → got i ≤ 5000 * j)) (fun s13 _ _ _ => t - (intOf s13).toNat)
      case atStart => exact ⟨0, Nat.zero_le _, rfl, HFA⟩
      case round =>
        clear HFA
        obtain ⟨j, hj, rfl, HF⟩ := hrel
        obtain ⟨got, T, hf, hs, hg⟩ := HF.out
        have HFW := Shut.mk hf
        have HFS := Shut.mk hs
        have HGB := Shut.mk hg
        clear hf hs hg HF
        by_cases hjt : j < t
        · obtain ⟨o, ho, hhd, hle⟩ := mkw_head wt T (show 0 < len0 by have := HN.out; omega)
          have HLEN := Shut.mk (mkw_ordlen wt T len0)
          have hil : j % len1 < len1 := Nat.mod_lt _ HM.out.1
          obtain ⟨b1, off1, rfl, hcl, hwf⟩ := HZ1.out.el (j % len1) hil
          have hc := below_at HFW.out.bel hcl
          have y2 := mod_idx (t := j) HM.out.1
          obtain ⟨m, hm⟩ : ∃ m, m = j % len1 := ⟨_, rfl⟩
          rw [← hm] at hil hc hwf hcl y2
          obtain ⟨v, hv⟩ : ∃ v, v = z1.getD m 0 := ⟨_, rfl⟩
          rw [← hv] at hc hwf hcl
          obtain ⟨x, hnx⟩ : ∃ x : Nat, nmod v 5000 = (x : Int) := ⟨(nmod v 5000).toNat, by have := nmod_lo v 5000 (by decide); omega⟩
          have hx5 : x < 5000 := by have := nmod_hi v 5000 (by decide); omega
          have y3 : IntKind.i64.wrap ((x : Int) + 1) = ((x + 1 : Nat) : Int) := by rw [IntWalk.i64_in _ ⟨by omega, by omega⟩]; omega
          have y4 : IntKind.i64.wrap ((m : Nat) : Int) = (m : Int) := by have := HM.out; rw [IntWalk.i64_in _ ⟨by omega, by omega⟩]
          have y5 : IntKind.i64.wrap ((j : Int) + 1) = ((j + 1 : Nat) : Int) := by have := HTL.out; rw [IntWalk.i64_in _ ⟨by omega, by omega⟩]; omega
          have hTo : T o ≤ 50000000 * j := fairS_le HFS.out ho (by have := HWI.out o; omega) (HGB.out o ho)
          have hq : 10000 * (x + 1) / wt o ≤ 50000000 := Nat.le_trans (Nat.div_le_self _ _) (by omega)
          have q1 := Shut.mk (show chT (mkW wt T len0) ((o + 1 : Nat) : Int) ((x + 1 : Nat) : Int) = (mkW wt (addAt T o (10000 * (x + 1) / wt o)) len0, 0) from mkw_ch wt T ho (by omega) (by have := HTL.out; omega))
          have HST := Shut.mk (show FairS len0 wt (addAt got o (x + 1)) (addAt T o (10000 * (x + 1) / wt o)) (j + 1) from fairS_step HFS.out ho hle (by have := HWI.out o; omega) (by omega))
          have HGB2 := Shut.mk (show ∀ i, i < len0 → addAt got o (x + 1) i ≤ 5000 * (j + 1) from fun i hi => by
            have h1 := HGB.out i hi
            unfold addAt
            split <;> omega)
          have hgo := HGB.out o ho
          have HUP := Shut.mk (shF_up got o (x + 1))
          have HGO := Shut.mk (shF_at got o)
          obtain ⟨T2, hT2⟩ : ∃ T2, T2 = addAt T o (10000 * (x + 1) / wt o) := ⟨_, rfl⟩
          rw [← hT2] at q1 HST
          obtain ⟨a1, ha1⟩ : ∃ a1, a1 = x + 1 := ⟨_, rfl⟩
          rw [← ha1] at y3 q1 HST HGB2 HUP
          obtain ⟨k1, hk1⟩ : ∃ k1, k1 = o + 1 := ⟨_, rfl⟩
          rw [← hk1] at q1 hhd HUP HGO
          obtain ⟨go, hgo2⟩ : ∃ go, go = got o := ⟨_, rfl⟩
          rw [← hgo2] at hgo HUP HGO
          have y6 : IntKind.i64.wrap ((go : Int) + (a1 : Int)) = ((go + a1 : Nat) : Int) := by have := HTL.out; rw [IntWalk.i64_in _ ⟨by omega, by omega⟩]; omega
          have HHD := Shut.mk hhd
          have HWF := Shut.mk hwf
          have HNX := Shut.mk hnx
          have HK1 := Shut.mk (show k1 < len0 + 1 by omega)
          have HJ := Shut.mk hjt
          have hj1 : (j : Int) < (t : Int) := by omega
          have hm0 : (0 : Int) ≤ (m : Int) := by omega
          have hm1 : (m : Int) < (len1 : Int) := by omega
          have hk0 : (0 : Int) ≤ (k1 : Int) := by omega
          have hk2 : (k1 : Int) < ((len0 + 1 : Nat) : Int) := by omega
          have hk3 : k1 < len0 + 1 := HK1.out
          have hk4 : k1 ≤ len0 := by omega
          have hk5 : (k1 : Int) ≤ (len0 : Int) := by omega
          have hk6 : (k1 : Int) < (len0 : Int) + 1 := by omega
          have hne : ((len0 : Int) != (len0 : Int)) = false := by simp
          have hp0 : (0 : Int) < (len0 : Int) := by have := HN.out; omega
          have hp1 : 0 < len0 := by have := HN.out; omega
          have HP0 := Shut.mk hp1
          have HCL := Shut.mk hcl
          clear hcl hm hv hwf hx5 hTo hq hgo hT2 ha1 hk1 hgo2 hhd hle ho hnx hil hj hjt HFS HGB hc
          have HC1 := Shut.mk fun (w' : World) (hb : Below w.heap.size w w') => show w'.cell? ⟨b1, off1 + m, none⟩ = some (.int .i64 v) from below_at hb HCL.out
          go_wp2_with (fail)
          refine (order_f HFW.out).mono ?_
          rintro e wo ⟨A5, c5, S5, rfl, hr, hf, hl, h2, hp⟩
          rw [HLEN.out] at hr ⊢
          obtain ⟨b5, o5, rfl, hc0⟩ := hr.el 0 HP0.out
          rw [HHD.out] at hc0
          have HC0 := Shut.mk (show wo.cell? ⟨b5, o5, none⟩ = some (.int .i64 (k1 : Int)) from hc0)
          have HFO := Shut.mk hf
          have HLO := Shut.mk hl
          have HS2 := Shut.mk h2
          have HP5 := Shut.mk (hp _ rfl)
          have hc := HC1.out wo hl.bel
          have hcz := HC0.out
          clear hr hf hl h2 hp hc0 HFW
          go_wp2_with (fail)
          refine (number_any v 5000 wo HWF.out (by decide) (by decide)).mono ?_
          rintro e wn ⟨rfl, rfl⟩
          rw [HNX.out]
          go_wp2_with (fail)
          refine (charge_l HLO.out HS.out (by decide) (by decide) (k1 : Int) (a1 : Int)).mono ?_
          rintro e wc ⟨rfl, hst⟩
          rw [q1.out] at hst ⊢
          have HFC := Shut.mk (HFO.out.of HS2.out hst)
          obtain ⟨S6, hl6, ho6, hf6⟩ := hst
          have HC6 := Shut.mk (show wc.cell? ⟨b5, o5, none⟩ = some (.int .i64 (k1 : Int)) from ho6.cell HC0.out (fun e => HP5.out.1 e))
          rw [errV_zero]
          clear hl6 ho6 hf6 HLO HFO hc hcz
          go_wp2_with (fail)
          have HCF := Shut.mk fun (w' : World) (hb' : Below wc.heap.size wc w') => show w'.cell? ⟨b5, o5, none⟩ = some (.int .i64 (k1 : Int)) from below_at hb' HC6.out
          have HGF := Shut.mk fun (w' : World) (hb' : Below wc.heap.size wc w') => show w'.cell? ⟨gg, k1, none⟩ = some (.int .i64 (go : Int)) from by have h := (HFC.out.quiet hb').cg (i := k1) HK1.out; rw [HGO.out] at h; exact h
          refine wp_region_D (fun w' => Below wc.heap.size wc w') 13 (by kernel_rfl) (show Below wc.heap.size wc (World.drew wc) from (Below.refl _ _).drew) (fun hHeld hC => ?_)
          refine dP 0 hC hHeld ?_; clear hC; intro hC
          refine dP 1 hC hHeld ?_; clear hC; intro hC
          refine dP 2 hC hHeld ?_; clear hC; intro hC
          refine dT 3 hC hHeld (fun w hSw => HCF.out _ hSw) ?_; clear hC; intro hC
          refine dP 4 hC hHeld ?_; clear hC; intro hC
          refine dP 5 hC hHeld ?_; clear hC; intro hC
          refine dP 6 hC hHeld ?_; clear hC; intro hC
          refine dT 7 hC hHeld (fun w hSw => HCF.out _ hSw) ?_; clear hC; intro hC
          refine dP 8 hC hHeld ?_; clear hC; intro hC
          refine dT 9 hC hHeld (fun w hSw => HGF.out _ hSw) ?_; clear hC; intro hC
          refine dP 10 hC hHeld ?_; clear hC; intro hC
          refine dP 11 hC hHeld ?_; clear hC; intro hC
          refine dP 12 hC hHeld ?_; clear hC; intro hC
          refine wpAnyD_one (i := 13) (by kernel_rfl) rfl hC (fun K hK => ?_)
          clear hC
          refine step_store_into rfl 2 (.tmp 124) (.tmp 123) rfl gg k1 (.int .i64 ((go + a1 : Nat) : Int)) rfl rfl rfl 2 (rowF (len0 + 1) (shF got)) (rowF (len0 + 1) (upX (shF got) k1 ((go + a1 : Nat) : Int))) (HFC.out.quiet hHeld).atG size1q (by rw [rowF_size]; exact HK1.out) (rowF_set _ _ HK1.out _) ?_
          have HF6 := Shut.mk ((HFC.out.quiet hHeld).putG (a := k1) ((go + a1 : Nat) : Int))
          generalize hq : World.setRow (World.drew wc) gg _ = w8 at *
          clear hq
          have HF7 := Shut.mk (show FairW w w8 g gw gg (len0 + 1) W (shF (addAt got o a1)) (mkW wt T2 len0) by rw [← HUP.out]; exact HF6.out)
          clear HF6
          refine hK.out _ _ (past (by kernel_rfl)) (fun hC => ?_)
          clear hK K
          try simp only [Act.put, List.getElem_toArray, List.getElem_cons_zero, List.getElem_cons_succ, List.setIfInBounds_toArray, List.set_cons_zero, List.set_cons_succ]
          refine wpAnyD_done (by kernel_rfl) ?_ _
          try simp only [Act.put, List.getElem_toArray, List.getElem_cons_zero, List.getElem_cons_succ, List.setIfInBounds_toArray, List.set_cons_zero, List.set_cons_succ]
          clear hC hHeld
          go_wp2_with (fail)
          go_roundw
          case rel => exact ⟨j + 1, by have := HJ.out; omega, by go_num, Shut.mk ⟨_, T2, HF7.out, HST.out, HGB2.out⟩⟩
          case measure => have := HJ.out; simp [intOf]; omega
        · obtain rfl : t = j := by omega
          have hge : ¬ (t : Int) < (t : Int) := by omega
          have hge2 : ¬ t < t := by omega
          clear hj hjt
          go_wp2_with (fail)
          clear hge hge2
          have HF3 := Shut.mk HFW.out
          go_loopw [16, 17] (fun s16 _ wr => ∃ i : Nat, 1 ≤ i ∧ i ≤ len0 + 1 ∧ s16 = .int .i64 (i : Int) ∧ Shut (FairW w wr g gw gg (len0 + 1) W (shF got) (mkW wt T len0))) (fun s16 _ _ => len0 + 1 - (intOf s16).toNat)
          case atStart => exact ⟨1, Nat.le_refl _, by have := HN.out; omega, rfl, HF3⟩
          case round =>
            clear HF3 HFW
            obtain ⟨i, hi1, hi2, rfl, HF⟩ := hrel
            by_cases hin : i ≤ len0
            · have hi : (i : Int) ≤ (len0 : Int) := by omega
              have HI := Shut.mk (show 1 ≤ i ∧ i ≤ len0 from ⟨hi1, hin⟩)
              have y2 : IntKind.i64.wrap ((i : Int) + 1) = ((i + 1 : Nat) : Int) := by have := HN.out; rw [IntWalk.i64_in _ ⟨by omega, by omega⟩]; omega
              clear hi2
              go_wp2_with (fail)
              have HF3 := Shut.mk HF.out
              go_loopw [17] (fun s17 wr => ∃ k : Nat, 1 ≤ k ∧ k ≤ len0 + 1 ∧ s17 = .int .i64 (k : Int) ∧ Shut (FairW w wr g gw gg (len0 + 1) W (shF got) (mkW wt T len0))) (fun s17 _ => len0 + 1 - (intOf s17).toNat)
              case atStart => exact ⟨1, Nat.le_refl _, by have := HN.out; omega, rfl, HF3⟩
              case round =>
                clear HF3 HF
                obtain ⟨k, hk1, hk2, rfl, HF⟩ := hrel
                by_cases hkn : k ≤ len0
                · have hkk : (k : Int) ≤ (len0 : Int) := by omega
                  have HK := Shut.mk (show 1 ≤ k ∧ k ≤ len0 from ⟨hk1, hkn⟩)
                  obtain ⟨i', hi'⟩ : ∃ i', i = i' + 1 := ⟨i - 1, by have := HI.out; omega⟩
                  obtain ⟨k', hk'⟩ : ∃ k', k = k' + 1 := ⟨k - 1, by have := HK.out; omega⟩
                  have hT := tst_is HFS.out (show i' < len0 by have := HI.out; omega) (show k' < len0 by have := HK.out; omega) (Nat.le_of_lt HTL.out) HWI.out HGB.out
                  have e1 := shF_at got i'
                  have e2 := shF_at got k'
                  have e3 := HWV.out i' (by have := HI.out; omega)
                  have e4 := HWV.out k' (by have := HK.out; omega)
                  rw [← hi'] at e1 e3
                  rw [← hk'] at e2 e4
                  generalize got i' = a at *
                  generalize got k' = b at *
                  generalize wt i' = wi at *
                  generalize wt k' = wk at *
                  obtain ⟨A, B, C, D1, D2, q, F, y3, y4, y5, y6, y7, y8, y9, y10, bA, bB, bC, bq, bF, hle⟩ := hT.out
                  have HGI := Shut.mk fun (w' : World) (hb : Below wr.heap.size wr w') => show w'.cell? ⟨gg, i, none⟩ = some (.int .i64 (a : Int)) from by have h := (HF.out.quiet hb).cg (i := i) (by have := HI.out; omega); rw [e1] at h; exact h
                  have HGK := Shut.mk fun (w' : World) (hb : Below wr.heap.size wr w') => show w'.cell? ⟨gg, k, none⟩ = some (.int .i64 (b : Int)) from by have h := (HF.out.quiet hb).cg (i := k) (by have := HK.out; omega); rw [e2] at h; exact h
                  have HWI2 := Shut.mk fun (w' : World) (hb : Below wr.heap.size wr w') => show w'.cell? ⟨gw, i, none⟩ = some (.int .i64 (wi : Int)) from by have h := (HF.out.quiet hb).cw (i := i) (by have := HI.out; omega); rw [e3] at h; exact h
                  have HWK := Shut.mk fun (w' : World) (hb : Below wr.heap.size wr w') => show w'.cell? ⟨gw, k, none⟩ = some (.int .i64 (wk : Int)) from by have h := (HF.out.quiet hb).cw (i := k) (by have := HK.out; omega); rw [e4] at h; exact h
                  have y11 : IntKind.i64.wrap ((A : Int) - (B : Int)) = (A : Int) - (B : Int) := IntWalk.i64_in _ ⟨by omega, by omega⟩
                  have y12 : IntKind.i64.wrap ((C : Int) + (q : Int)) = (C : Int) + (q : Int) := IntWalk.i64_in _ ⟨by omega, by omega⟩
                  have y13 : IntKind.i64.wrap ((C : Int) + (q : Int) + (F : Int)) = (C : Int) + (q : Int) + (F : Int) := IntWalk.i64_in _ ⟨by omega, by omega⟩
                  have y14 : IntKind.i64.wrap ((k : Int) + 1) = ((k + 1 : Nat) : Int) := by have := HN.out; rw [IntWalk.i64_in _ ⟨by omega, by omega⟩]; omega
                  have d1 : ¬ (C : Int) + (q : Int) + (F : Int) < (A : Int) - (B : Int) := by omega
                  have z1 : (0 : Int) ≤ (i : Int) := by omega
                  have z2 : (0 : Int) ≤ (k : Int) := by omega
                  have z3 : (i : Int) < ((len0 + 1 : Nat) : Int) := by omega
                  have z4 : (k : Int) < ((len0 + 1 : Nat) : Int) := by omega
                  have z5 : i < len0 + 1 := by omega
                  have z8 : (i : Int) < (len0 : Int) + 1 := by omega
                  have z9 : (k : Int) < (len0 : Int) + 1 := by omega
                  have z6 : k < len0 + 1 := by omega
                  have z7 : wrap64 (q : Int) = (q : Int) := by unfold wrap64; omega
                  clear hk1 hk2 hkn hi' hk' e1 e2 e3 e4 hle bA bB bC bq bF hT
                  go_wp2_with (fail)
                  refine wp_region_held_drew (S := fun w' => Below wr.heap.size wr w') (by kernel_rfl) (Below.refl _ _).drew (fun hHeld => ?_)
                  generalize World.drew wr = wr9 at *
                  have HB9 := Shut.mk hHeld
                  refine hP 0 ?_
                  refine hP 1 ?_
                  refine hP 2 ?_
                  refine hT 3 (fun w hSw => HGI.out _ hSw) ?_
                  refine hP 4 ?_
                  refine hP 5 ?_
                  refine hP 6 ?_
                  refine hT 7 (fun w hSw => HWK.out _ hSw) ?_
                  refine hP 8 ?_
                  refine hP 9 ?_
                  refine hP 10 ?_
                  refine hP 11 ?_
                  refine hT 12 (fun w hSw => HGK.out _ hSw) ?_
                  refine hP 13 ?_
                  refine hP 14 ?_
                  refine hP 15 ?_
                  refine hT 16 (fun w hSw => HWI2.out _ hSw) ?_
                  refine hP 17 ?_
                  refine hP 18 ?_
                  refine hP 19 ?_
                  refine hP 20 ?_
                  refine hP 21 ?_
                  refine hT 22 (fun w hSw => HWK.out _ hSw) ?_
                  refine hP 23 ?_
                  refine hP 24 ?_
                  refine hP 25 ?_
                  refine hP 26 ?_
                  refine hP 27 ?_
                  refine hT 28 (fun w hSw => HWI2.out _ hSw) ?_
                  refine hP 29 ?_
                  refine hP 30 ?_
                  refine hP 31 ?_
                  refine hP 32 ?_
                  refine hT 33 (fun w hSw => HWK.out _ hSw) ?_
                  refine hP 34 ?_
                  refine hP 35 ?_
                  refine hP 36 ?_
                  refine hP 37 ?_
                  refine hP 38 ?_
                  refine hP 39 ?_
                  refine hT 40 (fun w hSw => HWI2.out _ hSw) ?_
                  refine hP 41 ?_
                  refine hP 42 ?_
                  refine hP 43 ?_
                  refine hT 44 (fun w hSw => HWK.out _ hSw) ?_
                  refine hP 45 ?_
                  refine hP 46 ?_
                  refine hP 47 ?_
                  refine wpAnyH_done (by kernel_rfl) ?_ _
                  try simp only [Act.put, List.getElem_toArray, List.getElem_cons_zero, List.getElem_cons_succ, List.setIfInBounds_toArray, List.set_cons_zero, List.set_cons_succ]
                  clear hHeld
                  go_wp2_with (fail)
                  go_roundw
                  case rel => exact ⟨k + 1, by omega, by have := HK.out; omega, by go_num, Shut.mk (HF.out.quiet HB9.out)⟩
                  case measure => have := HK.out; simp [intOf]; omega
                · have hk : ¬ (k : Int) ≤ (len0 : Int) := by omega
                  clear hk1 hk2
                  go_wp2_with (fail)
                  go_roundw
                  case rel => exact ⟨i + 1, by omega, by have := HI.out; omega, by go_num, HF⟩
                  case measure => have := HI.out; simp [intOf]; omega
            · have hi : ¬ (i : Int) ≤ (len0 : Int) := by omega
              clear hi1 hi2
              go_wp2_with (fail)
              go_ret
              exact ⟨rfl, HF.out.bel⟩

end Go.Proofs.YtkmblmnffnhpmaaDoor.schedFair
