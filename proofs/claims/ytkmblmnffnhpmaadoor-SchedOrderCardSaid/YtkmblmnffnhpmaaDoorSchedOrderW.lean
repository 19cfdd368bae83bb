/-
  The walk of muezzin/muezzinlaw20.SchedOrder: the Go text returns true.
-/
import Derived.Test.YtkmblmnffnhpmaaDoorSchedF
import Derived.Test.YtkmblmnffnhpmaaDoorNum
import Derived.Test.YtkmblmnffnhpmaaDoorSchedN
import Derived.Test.YtkmblmnffnhpmaaDoorSchedV
import Derived.Test.YtkmblmnffnhpmaaDoorTkD
import Derived.Test.YtkmblmnffnhpmaaDoorTkH
import Derived.LoopTactic
import Derived.Lib.MinMax
import Derived.Deep.CutRange
import Derived.Deep.CutBlock
import Derived.WalkKit
import Derived.ProofKit
import Derived.Below
namespace Go.Proofs.YtkmblmnffnhpmaaDoor.schedOrder
open Go.ChangeShapes Go.WideShapes Go.ChangeAt Go.RowKit Go.Deep
set_option linter.unusedVariables false
set_option linter.unusedSimpArgs false

open Go.Proofs.YtkmblmnffnhpmaaDoor

theorem rem3 (v : Int) : (v.tmod 3 == 0) = decide (v % 3 = 0) := by
  have e := Int.tmod_eq_emod (a := v) (b := 3)
  by_cases h : v % 3 = 0
  · have h2 : v.tmod 3 = 0 := by
      have := Int.dvd_of_emod_eq_zero h
      exact Int.tmod_eq_zero_of_dvd this
    rw [h2]; simp [h]
  · have h2 : ¬ v.tmod 3 = 0 := fun h0 => h (Int.emod_eq_zero_of_dvd (Int.dvd_of_tmod_eq_zero h0))
    simp [h, h2]
def onB (z : List Int) (i : Nat) : Bool := !decide ((z.getD i 0) % 3 = 0)
theorem mk_len16 {b : Nat → Bool} {T : Nat → Nat} {k : Nat} (h : k ≤ 16) : (mkT b T k).length ≤ 800 := by rw [mk_len]; omega
theorem cnt_le (b : Nat → Bool) (k : Nat) : cntB b k ≤ k := by
  unfold cntB
  have := List.length_filter_le (fun i => b i) (List.range k)
  simpa using this
def airO (z : List Int) (i : Nat) : Nat := (nmod (z.getD i 0) 5000).toNat
def tmO (z : List Int) (k : Nat) (i : Nat) : Nat := if i < k then 200 * airO z i else 0
theorem airO_lt (z : List Int) (i : Nat) : airO z i < 5000 := by have h1 := nmod_lo (z.getD i 0) 5000 (by decide); have h2 := nmod_hi (z.getD i 0) 5000 (by decide); unfold airO; omega
theorem airO_is (z : List Int) (i : Nat) : nmod (z.getD i 0) 5000 = ((airO z i : Nat) : Int) := by have h1 := nmod_lo (z.getD i 0) 5000 (by decide); unfold airO; omega
theorem tmO_0 (z : List Int) : tmO z 0 = fun _ => 0 := by funext i; unfold tmO; rw [if_neg (by omega)]
theorem tmO_next (z : List Int) (k : Nat) : (fun j => if j = k then 200 * airO z k else tmO z k j) = tmO z (k + 1) := by
  funext j
  unfold tmO
  by_cases h : j = k
  · rw [if_pos h, if_pos (by omega), h]
  · rw [if_neg h]
    by_cases h2 : j < k
    · rw [if_pos h2, if_pos (by omega)]
    · rw [if_neg h2, if_neg (by omega)]

/-! ### THE WALK -/
set_option maxRecDepth 100000 in
set_option maxHeartbeats 8000000 in
theorem walk (a0 : Option Addr) (len0 cap0 : Nat) (z0 : List Int) (a1 : Option Addr) (len1 cap1 : Nat) (z1 : List Int) (w : World) (E : Nat → Addr) (hS : Sent w E [101, 102, 103, 104, 105, 106, 107, 108, 109, 110, 111, 112, 113, 114]) (w0 : IsRow .i64 w a0 len0 cap0 z0) (w1 : IsRow .i64 w a1 len1 cap1 z1) :
    Calls Tryd.prog 7 #[.slice a0 len0 cap0, .slice a1 len1 cap1] w fun e w' => e = .returned (.bool true) ∧ Below w.heap.size w w' := by
  have HS := Shut.mk hS
  have HZ0 := Shut.mk w0
  have HZ1 := Shut.mk w1
  clear hS w0 w1
  go_enter Tryd.func7, Tryd.ntmps7
  go_wp2_with (fail)
  refine (first_any w E HS.out (by decide) (by decide) (by decide)).mono ?_
  rintro x wa ⟨rfl, hBa⟩
  have HBa := Shut.mk hBa
  clear hBa
  rcases Nat.lt_or_ge 16 len0 with hN | hN
  · have hN' : (16 : Int) < (len0 : Int) := by omega
    go_wp2_with (fail)
    go_ret
    exact ⟨rfl, HBa.out⟩
  have hN0 : ¬ (16 : Int) < (len0 : Int) := by omega
  rcases Nat.lt_or_ge 16 len1 with hM | hM
  · have hM' : (16 : Int) < (len1 : Int) := by omega
    go_wp2_with (fail)
    go_ret
    exact ⟨rfl, HBa.out⟩
  have hN1 : ¬ (16 : Int) < (len1 : Int) := by omega
  have HN0 := Shut.mk hN
  have HN1 := Shut.mk hM
  clear hN hM
  go_wp2_with (fail)
  refine (new_l HBa.out).mono ?_
  rintro x wb ⟨S, g, rfl, hl, hb, hs⟩
  obtain ⟨b, hbb⟩ : ∃ b, b = onB z0 := ⟨_, rfl⟩
  have HB := Shut.mk hbb
  have HL0 := Shut.mk (show ∃ S, LawS w wb S g (mkT b (fun _ => 0) 0) from ⟨S, hl⟩)
  clear hl hb hs hbb
  go_wp2_with (fail)
  go_loopw [7, 8, 9] (fun s7 s8 _ wr => ∃ k : Nat, k ≤ len0 ∧ s8 = .int .i64 (k : Int) ∧ s7 = .int .i64 ((cntB b k : Nat) : Int) ∧ Shut (∃ S, LawS w wr S g (mkT b (fun _ => 0) k))) (fun _ s8 _ _ => len0 - (intOf s8).toNat)
  case atStart => exact ⟨0, Nat.zero_le _, rfl, rfl, HL0⟩
  case round =>
    clear HL0
    obtain ⟨k, hk, rfl, rfl, HLX⟩ := hrel
    obtain ⟨S1, hl1⟩ := HLX.out
    have HL1 := Shut.mk hl1
    clear hl1 HLX
    by_cases hkn : k < len0
    · obtain ⟨bb, off, rfl, hcl, hwf⟩ := HZ0.out.el k hkn
      have hc := below_at HL1.out.bel hcl
      obtain ⟨v, hv⟩ : ∃ v, v = z0.getD k 0 := ⟨_, rfl⟩
      rw [← hv] at hc hwf
      have HK := Shut.mk (show k < len0 ∧ len0 ≤ 16 from ⟨hkn, HN0.out⟩)
      have hi : (k : Int) < (len0 : Int) := by omega
      have hk16 : (k : Int) < 16 := by have := HN0.out; omega
      have y1 : IntKind.i64.wrap ((k : Int) + 1) = ((k + 1 : Nat) : Int) := by rw [IntWalk.i64_in _ ⟨by omega, by omega⟩]; omega
      obtain ⟨k1, hk1⟩ : ∃ k1, k1 = k + 1 := ⟨_, rfl⟩
      have HK1 := Shut.mk hk1
      rw [← hk1] at y1
      have hbk : b k = !decide (v % 3 = 0) := by rw [HB.out, hv]; rfl
      have q1 := Shut.mk (show addT (mkT b (fun _ => 0) k) (k1 : Int) 50 = (mkT b (fun _ => 0) k ++ [⟨k + 1, 50, 0, false⟩], 0) by rw [hk1]; exact mk_add b _ (by have := HK.out; omega))
      have q2 := Shut.mk (show actT (mkT b (fun _ => 0) k ++ [⟨k + 1, 50, 0, false⟩]) (k1 : Int) (b k) = (mkT b (fun _ => 0) (k + 1), 0) by rw [hk1]; exact mk_act b k)
      have q3 := Shut.mk (cnt_next b k)
      have hcb : ((cntB b k : Nat) : Int) ≤ 16 := by have := cnt_le b k; have := HK.out; omega
      obtain ⟨cn, hcn⟩ : ∃ cn, cn = cntB b k := ⟨_, rfl⟩
      rw [← hcn] at hcb q3 ⊢
      have HCN := Shut.mk hcn
      have y2 : IntKind.i64.wrap ((cn : Int) + 1) = ((cn : Int) + 1) := IntWalk.i64_in _ ⟨by omega, by omega⟩
      have hrem := rem3 v
      clear hk hkn hcl hv hk1 hcn hwf
      by_cases h3 : v % 3 = 0
      · have r1 : (v.tmod 3 == 0) = true := by rw [hrem]; simpa using h3
        have r2 : v.tmod 3 = 0 := by simpa using r1
        have hbf : b k = false := by rw [hbk]; simp [h3]
        rw [hbf] at q2 q3
        have q4 := Shut.mk (show ((cntB b (k + 1) : Nat) : Int) = (cn : Int) by rw [q3.out]; simp)
        clear hrem hbk h3 hbf q3
        go_wp2_with (fail)
        refine (add_l HL1.out (mk_len16 (by have := HK.out; omega)) HS.out (by decide) (by decide) (k1 : Int) 50).mono ?_
        rintro x wc ⟨rfl, hst⟩
        rw [q1.out] at hst ⊢
        obtain ⟨S2, hl, ho, hf⟩ := hst
        rw [errV_zero]
        have HL2 := Shut.mk hl
        clear hl ho hf HL1
        go_wp2_with (fail)

        refine (active_l HL2.out HS.out (by decide) (k1 : Int) false).mono ?_
        rintro x wd ⟨rfl, hst⟩
        rw [q2.out] at hst ⊢
        obtain ⟨S3, hl, ho, hf⟩ := hst
        rw [errV_zero]
        have HL3 := Shut.mk hl
        clear hl ho hf HL2
        go_wp2_with (fail)
        go_roundw
        case rel => exact ⟨k + 1, by have := HK.out; omega, by first | rfl | (rw [HK1.out]) | go_num, by rw [q4.out], Shut.mk ⟨_, HL3.out⟩⟩
        case measure => have := HK.out; have := HK1.out; simp [intOf]; omega
      · have r1 : (v.tmod 3 == 0) = false := by rw [hrem]; simpa using h3
        have r2 : ¬ v.tmod 3 = 0 := by simpa using r1
        have hbf : b k = true := by rw [hbk]; simp [h3]
        rw [hbf] at q2 q3
        have q4 := Shut.mk (show ((cntB b (k + 1) : Nat) : Int) = (cn : Int) + 1 by rw [q3.out]; simp)
        have r3 := Shut.mk (show (v.tmod 3 != 0) = true by simpa using r2)
        clear hrem hbk h3 hbf q3 r2
        go_wp2_with (fail)
        try rw [r3.out]
        refine (add_l HL1.out (mk_len16 (by have := HK.out; omega)) HS.out (by decide) (by decide) (k1 : Int) 50).mono ?_
        rintro x wc ⟨rfl, hst⟩
        rw [q1.out] at hst ⊢
        obtain ⟨S2, hl, ho, hf⟩ := hst
        rw [errV_zero]
        have HL2 := Shut.mk hl
        clear hl ho hf HL1
        go_wp2_with (fail)
        try rw [r3.out]
        refine (active_l HL2.out HS.out (by decide) (k1 : Int) true).mono ?_
        rintro x wd ⟨rfl, hst⟩
        rw [q2.out] at hst ⊢
        obtain ⟨S3, hl, ho, hf⟩ := hst
        rw [errV_zero]
        have HL3 := Shut.mk hl
        clear hl ho hf HL2
        go_wp2_with (fail)
        go_roundw
        case rel => exact ⟨k + 1, by have := HK.out; omega, by first | rfl | (rw [HK1.out]) | go_num, by rw [q4.out], Shut.mk ⟨_, HL3.out⟩⟩
        case measure => have := HK.out; have := HK1.out; simp [intOf]; omega
    · obtain rfl : len0 = k := by omega
      have hge : ¬ (len0 : Int) < (len0 : Int) := by omega
      have hge2 : ¬ len0 < len0 := by omega
      clear hk hkn
      go_wp2_with (fail)
      clear hge hge2
      have HL2 := Shut.mk (show ∃ S, LawS w wr S g (mkT b (tmO z1 0) len0) from ⟨_, by rw [tmO_0]; exact HL1.out⟩)
      clear HL1
      go_loopw [10] (fun s10 wq => ∃ i : Nat, i ≤ len0 ∧ i ≤ len1 ∧ s10 = .int .i64 (i : Int) ∧ Shut (∃ S, LawS w wq S g (mkT b (tmO z1 i) len0))) (fun s10 _ => len0 - (intOf s10).toNat)
      case atStart => exact ⟨0, Nat.zero_le _, Nat.zero_le _, rfl, HL2⟩
      case round =>
        clear HL2
        obtain ⟨i, hi0, hi1, rfl, HLX⟩ := hrel
        by_cases h1 : i < len1
        · by_cases h2 : i < len0
          · obtain ⟨S1, hl1⟩ := HLX.out
            have HL1 := Shut.mk hl1
            clear hl1 HLX
            obtain ⟨bb, off, rfl, hcl, hwf⟩ := HZ1.out.el i h1
            have hc := below_at HL1.out.bel hcl
            obtain ⟨v, hv⟩ : ∃ v, v = z1.getD i 0 := ⟨_, rfl⟩
            have HAI := Shut.mk (airO_is z1 i)
            have HAL := Shut.mk (airO_lt z1 i)
            have q1 := Shut.mk (show chT (mkT b (tmO z1 i) len0) ((i + 1 : Nat) : Int) ((airO z1 i : Nat) : Int) = (mkT b (tmO z1 (i + 1)) len0, 0) by rw [← tmO_next]; exact mk_ch b (tmO z1 i) h2 (airO_lt z1 i) (by unfold tmO; rw [if_neg (by omega)]))
            rw [← hv] at hc hwf HAI
            have HWF := Shut.mk hwf
            have h1i : (i : Int) < (len1 : Int) := by omega
            have h2i : (i : Int) < (len0 : Int) := by omega
            have h0i : (0 : Int) ≤ (i : Int) := by omega
            have y1 : IntKind.i64.wrap ((i : Int) + 1) = ((i + 1 : Nat) : Int) := by have := HN0.out; rw [IntWalk.i64_in _ ⟨by omega, by omega⟩]; omega
            obtain ⟨k1, hk1⟩ : ∃ k1, k1 = i + 1 := ⟨_, rfl⟩
            have HK1 := Shut.mk hk1
            have HIB := Shut.mk (show i < len0 ∧ i < len1 from ⟨h2, h1⟩)
            rw [← hk1] at y1 q1
            clear hcl hv hwf hi0 hi1 hk1 h1 h2
            go_wp2_with (fail)
            refine (number_any v 5000 wr HWF.out (by decide) (by decide)).mono ?_
            rintro x wn ⟨rfl, rfl⟩
            rw [HAI.out]
            go_wp2_with (fail)
            refine (charge_l HL1.out HS.out (by decide) (by decide) (k1 : Int) ((airO z1 i : Nat) : Int)).mono ?_
            rintro x wc ⟨rfl, hst⟩
            rw [q1.out] at hst ⊢
            obtain ⟨S3, hl, ho, hf⟩ := hst
            rw [errV_zero]
            have HL3 := Shut.mk hl
            clear hl ho hf HL1
            go_wp2_with (fail)
            go_roundw
            case rel => exact ⟨k1, by have := HK1.out; have := HIB.out; omega, by have := HK1.out; have := HIB.out; omega, rfl, Shut.mk ⟨_, HL3.out⟩⟩
            case measure => have := HK1.out; have := HIB.out; simp [intOf]; omega
          · obtain rfl : len0 = i := by omega
            have h1i : (len0 : Int) < (len1 : Int) := by omega
            have h2i : ¬ (len0 : Int) < (len0 : Int) := by omega
            have h2n : ¬ len0 < len0 := by omega
            clear hi0 hi1 h1 h2
            go_wp2_with (fail)
            obtain ⟨T, hT⟩ : ∃ T, T = tmO z1 len0 := ⟨_, rfl⟩
            obtain ⟨S2, hl2⟩ := HLX.out
            have HLA := Shut.mk (show LawS w wr S2 g (mkT b T len0) by rw [hT]; exact hl2)
            have HLEN := Shut.mk (show (ordI (mkT b T len0)).length = cntB b len0 by rw [ordI_len]; exact mk_cnt b T len0)
            have HN16 := Shut.mk (show cntB b len0 ≤ 16 from Nat.le_trans (cnt_le b len0) HN0.out)
            obtain ⟨n, hn⟩ : ∃ n, n = cntB b len0 := ⟨_, rfl⟩
            rw [← hn] at HLEN HN16 ⊢
            obtain ⟨L, hL⟩ : ∃ L, L = mkT b T len0 := ⟨_, rfl⟩
            have HLD := Shut.mk hL
            rw [← hL] at HLA HLEN
            have hn16 : (n : Int) ≤ 16 := by have := HN16.out; omega
            have hne : ((n : Int) != (n : Int)) = false := by simp
            clear hl2 HLX hT hn hL
            go_wp2_with (fail)
            refine (order_l HLA.out).mono ?_
            rintro x w5 ⟨A5, c5, rfl, hr, hp, S5, hl, ho, hf, hq⟩
            rw [HLEN.out] at hr ⊢
            have HR5 := Shut.mk hr
            have HQ5 := Shut.mk hq
            have HL5 := Shut.mk hl
            have HB5 := Shut.mk (Below.refl w5.heap.size w5)
            clear hr hp hl ho hf hq HLA
            go_wp2_with (fail)
            go_loopw [12, 13, 14, 15] (fun s12 s13 _ _ wr => ∃ i : Nat, i ≤ n ∧ s13 = .int .i64 (i : Int) ∧ s12 = .int .i64 (lastT L i) ∧ Shut (LawS w wr S5 g L) ∧ Shut (Below w5.heap.size w5 wr)) (fun _ s13 _ _ _ => n - (intOf s13).toNat)
            case atStart => exact ⟨0, Nat.zero_le _, rfl, rfl, HL5, HB5⟩
            case round =>
              clear HL5 HB5
              obtain ⟨i, hi, rfl, rfl, HLW, HBW⟩ := hrel
              have HINV := Shut.mk HLW.out.inv
              by_cases hin : i < n
              · have HI := Shut.mk hin
                have hON := ordN_at (l := L) (i := i) (by rw [← ordI_len, HLEN.out]; exact hin)
                obtain ⟨j, hj, ht⟩ := mk_ok b T (k := len0) (t := (ordN L).getD i tu0) (by rw [← HLD.out]; exact hON.1)
                have hto : b j = true := by have := hON.2; rw [ht] at this; exact this
                obtain ⟨b5, o5, rfl, hc⟩ := (HR5.out.below HBW.out).el i hin
                rw [ordI_at (by rw [← ordI_len, HLEN.out]; exact hin), ht] at hc
                obtain ⟨a, ha⟩ : ∃ a, a = j + 1 := ⟨_, rfl⟩
                obtain ⟨tm, htm⟩ : ∃ tm, tm = T j := ⟨_, rfl⟩
                have hcq : wr.cell? ⟨b5, o5 + i, none⟩ = some (.int .i64 (a : Int)) := by rw [ha]; exact hc
                clear hc
                have hc := hcq
                clear hcq
                have QT := Shut.mk (show timeT L (a : Int) = (tm, true) by have := time_mem HINV.out hON.1; rw [ht] at this; rw [ha, htm]; exact this)
                have HLAST := Shut.mk (show lastT L (i + 1) = (tm : Int) by show ((((ordN L).getD i tu0).tm : Nat) : Int) = _; rw [ht, htm])
                obtain ⟨b0, o0, rfl, hz, -⟩ := HZ0.out.el j (by omega)
                obtain ⟨v, hv⟩ : ∃ v, v = z0.getD j 0 := ⟨_, rfl⟩
                rw [← hv] at hz
                have HZC := Shut.mk hz
                have h3 : ¬ v % 3 = 0 := by
                  have h := hto
                  rw [HB.out] at h
                  unfold onB at h
                  rw [← hv] at h
                  simpa using h
                have r1 : (v.tmod 3 == 0) = false := by rw [rem3 v]; simpa using h3
                have r2 : ¬ v.tmod 3 = 0 := by simpa using r1
                have hj2 : j < 16 := by have := HN0.out; omega
                have y1 : IntKind.i64.wrap ((a : Int) - 1) = (j : Int) := by rw [ha, IntWalk.i64_in _ ⟨by omega, by omega⟩]; omega
                have hj0 : (0 : Int) ≤ (j : Int) := by omega
                have hj1 : (j : Int) < (len0 : Int) := by omega
                have hi0 : (0 : Int) ≤ (i : Int) := by omega
                have hi1 : (i : Int) < (n : Int) := by omega
                have y2 : IntKind.i64.wrap ((i : Int) + 1) = ((i + 1 : Nat) : Int) := by rw [IntWalk.i64_in _ ⟨by omega, by omega⟩]; omega
                have HTE := Shut.mk ht
                rcases Nat.eq_zero_or_pos i with hi00 | hi00
                · subst hi00
                  have hcq : wr.cell? ⟨b5, o5, none⟩ = some (.int .i64 (a : Int)) := hc
                  clear hc
                  have hc := hcq
                  clear hcq
                  have l0 : lastT L 0 = -1 := rfl
                  rw [l0]
                  have d1 : ¬ (tm : Int) < -1 := by omega
                  have d3 : ¬ (tm : Int) = -1 := by omega
                  have d2 : ((tm : Int) == -1) = false := by simp
                  clear hi hin hON hj ht hto ha htm hz hv h3 hj2 l0
                  go_wp2_with (fail)
                  refine (time_l HLW.out (a : Int)).mono ?_
                  rintro x wt ⟨rfl, hl, hb⟩
                  rw [QT.out]
                  have HLT := Shut.mk hl
                  have HBT := Shut.mk (HBW.out.trans (hb.mono HBW.out.size))
                  have HCF := Shut.mk fun (w' : World) (hb' : Below wt.heap.size wt w') => show w'.cell? ⟨b5, o5, none⟩ = some (.int .i64 (a : Int)) from below_at hb' (below_at hb hc)
                  have HZF := Shut.mk fun (w' : World) (hb' : Below wt.heap.size wt w') => show w'.cell? ⟨b0, o0 + j, none⟩ = some (.int .i64 v) from below_at hb' (below_at HLT.out.bel HZC.out)
                  clear hl hb hc
                  go_wp2_with (fail)
                  refine wp_region_held_drew (S := fun w' => Below wt.heap.size wt w') (by kernel_rfl) (Below.refl _ _).drew (fun hHeld => ?_)
                  generalize World.drew wt = wr9 at *
                  have HB9 := Shut.mk hHeld
                  refine hP 0 ?_
                  refine hP 1 ?_
                  refine hP 2 ?_
                  refine hP 3 ?_
                  refine hP 4 ?_
                  refine hP 5 ?_
                  refine hP 6 ?_
                  refine hT 7 (fun w hSw => HCF.out w hSw) ?_
                  refine hP 8 ?_
                  refine hP 9 ?_
                  refine hT 10 (fun w hSw => HZF.out w hSw) ?_
                  refine hP 11 ?_
                  refine hP 12 ?_
                  refine hP 13 ?_
                  refine hP 14 ?_
                  refine hP 15 ?_
                  refine hP 16 ?_
                  refine hP 17 ?_
                  refine hP 18 ?_
                  refine hP 19 ?_
                  refine hP 20 ?_
                  refine hP 21 ?_
                  refine hP 22 ?_
                  refine hP 23 ?_
                  refine wpAnyH_take (i := 24) (v := undef) rfl (by kernel_rfl) (by kernel_rfl) (by kernel_rfl) (fun _ _ _ h => h) (Or.inr ⟨by rfl, rfl⟩) (by assumption) ?_
                  try simp only [Act.put, List.getElem_toArray, List.getElem_cons_zero, List.getElem_cons_succ, List.setIfInBounds_toArray, List.set_cons_zero, List.set_cons_succ]
                  refine wpAnyH_take (i := 25) (v := undef) rfl (by kernel_rfl) (by kernel_rfl) (by kernel_rfl) (fun _ _ _ h => h) (Or.inr ⟨by rfl, rfl⟩) (by assumption) ?_
                  try simp only [Act.put, List.getElem_toArray, List.getElem_cons_zero, List.getElem_cons_succ, List.setIfInBounds_toArray, List.set_cons_zero, List.set_cons_succ]
                  refine wpAnyH_take (i := 26) (v := undef) rfl (by kernel_rfl) (by kernel_rfl) (by kernel_rfl) (fun _ _ _ h => h) (Or.inr ⟨by rfl, rfl⟩) (by assumption) ?_
                  try simp only [Act.put, List.getElem_toArray, List.getElem_cons_zero, List.getElem_cons_succ, List.setIfInBounds_toArray, List.set_cons_zero, List.set_cons_succ]
                  refine wpAnyH_take (i := 27) (v := undef) rfl (by kernel_rfl) (by kernel_rfl) (by kernel_rfl) (fun _ _ _ h => h) (Or.inr ⟨by rfl, rfl⟩) (by assumption) ?_
                  try simp only [Act.put, List.getElem_toArray, List.getElem_cons_zero, List.getElem_cons_succ, List.setIfInBounds_toArray, List.set_cons_zero, List.set_cons_succ]
                  refine wpAnyH_take (i := 28) (v := undef) rfl (by kernel_rfl) (by kernel_rfl) (by kernel_rfl) (fun _ _ _ h => h) (Or.inr ⟨by rfl, rfl⟩) (by assumption) ?_
                  try simp only [Act.put, List.getElem_toArray, List.getElem_cons_zero, List.getElem_cons_succ, List.setIfInBounds_toArray, List.set_cons_zero, List.set_cons_succ]
                  refine wpAnyH_take (i := 29) (v := undef) rfl (by kernel_rfl) (by kernel_rfl) (by kernel_rfl) (fun _ _ _ h => h) (Or.inr ⟨by rfl, rfl⟩) (by assumption) ?_
                  try simp only [Act.put, List.getElem_toArray, List.getElem_cons_zero, List.getElem_cons_succ, List.setIfInBounds_toArray, List.set_cons_zero, List.set_cons_succ]
                  refine wpAnyH_take (i := 30) (v := undef) rfl (by kernel_rfl) (by kernel_rfl) (by kernel_rfl) (fun _ _ _ h => h) (Or.inr ⟨by rfl, rfl⟩) (by assumption) ?_
                  try simp only [Act.put, List.getElem_toArray, List.getElem_cons_zero, List.getElem_cons_succ, List.setIfInBounds_toArray, List.set_cons_zero, List.set_cons_succ]
                  refine wpAnyH_take (i := 31) (v := undef) rfl (by kernel_rfl) (by kernel_rfl) (by kernel_rfl) (fun _ _ _ h => h) (Or.inr ⟨by rfl, rfl⟩) (by assumption) ?_
                  try simp only [Act.put, List.getElem_toArray, List.getElem_cons_zero, List.getElem_cons_succ, List.setIfInBounds_toArray, List.set_cons_zero, List.set_cons_succ]
                  refine wpAnyH_take (i := 32) (v := undef) rfl (by kernel_rfl) (by kernel_rfl) (by kernel_rfl) (fun _ _ _ h => h) (Or.inr ⟨by rfl, rfl⟩) (by assumption) ?_
                  try simp only [Act.put, List.getElem_toArray, List.getElem_cons_zero, List.getElem_cons_succ, List.setIfInBounds_toArray, List.set_cons_zero, List.set_cons_succ]
                  refine wpAnyH_take (i := 33) (v := undef) rfl (by kernel_rfl) (by kernel_rfl) (by kernel_rfl) (fun _ _ _ h => h) (Or.inr ⟨by rfl, rfl⟩) (by assumption) ?_
                  try simp only [Act.put, List.getElem_toArray, List.getElem_cons_zero, List.getElem_cons_succ, List.setIfInBounds_toArray, List.set_cons_zero, List.set_cons_succ]
                  refine hP 34 ?_
                  refine hP 35 ?_
                  refine wpAnyH_done (by kernel_rfl) ?_ _
                  try simp only [Act.put, List.getElem_toArray, List.getElem_cons_zero, List.getElem_cons_succ, List.setIfInBounds_toArray, List.set_cons_zero, List.set_cons_succ]
                  clear hHeld
                  go_wp2_with (fail)
                  go_roundw
                  case rel => exact ⟨0 + 1, by have := HI.out; omega, by go_num, by rw [HLAST.out], Shut.mk (HLT.out.quiet HB9.out), Shut.mk (HBT.out.trans (HB9.out.mono HBT.out.size))⟩
                  case measure => have := HI.out; simp [intOf]; omega
                · obtain ⟨i', hii⟩ : ∃ i', i = i' + 1 := ⟨i - 1, by omega⟩
                  have hnx := ordN_next (l := L) (i := i') (by rw [← ordI_len, HLEN.out]; omega)
                  rw [← hii] at hnx
                  have hON' := ordN_at (l := L) (i := i') (by rw [← ordI_len, HLEN.out]; omega)
                  obtain ⟨j', hj', ht'⟩ := mk_ok b T (k := len0) (t := (ordN L).getD i' tu0) (by rw [← HLD.out]; exact hON'.1)
                  obtain ⟨b5', o5', e5, hc'⟩ := (HR5.out.below HBW.out).el i' (by omega)
                  rw [ordI_at (by rw [← ordI_len, HLEN.out]; omega), ht'] at hc'
                  cases e5
                  obtain ⟨a', ha'⟩ : ∃ a', a' = j' + 1 := ⟨_, rfl⟩
                  obtain ⟨tm', htm'⟩ : ∃ tm', tm' = T j' := ⟨_, rfl⟩
                  have HPC := Shut.mk (show wr.cell? ⟨b5, o5 + i', none⟩ = some (.int .i64 (a' : Int)) by rw [ha']; exact hc')
                  have l1 : lastT L i = (tm' : Int) := by rw [hii]; show ((((ordN L).getD i' tu0).tm : Nat) : Int) = _; rw [ht', htm']
                  rw [ht, ht'] at hnx
                  have hle : tm' < tm ∨ tm' = tm ∧ a' ≤ a := by
                    unfold leT at hnx
                    simp only at hnx
                    rw [htm, htm', ha, ha']
                    exact hnx
                  rw [l1]
                  have y3 : IntKind.i64.wrap ((i : Int) - 1) = (i' : Int) := by rw [hii, IntWalk.i64_in _ ⟨by omega, by omega⟩]; omega
                  have hp0 : (0 : Int) ≤ (i' : Int) := by omega
                  have hp1 : (i' : Int) < (n : Int) := by omega
                  clear hi hin hON hj ht hto ha htm hz hv h3 hj2 hnx hON' hj' ht' ha' htm' l1 hii hi00 HTE hc'
                  rcases hle with h | ⟨h, h'⟩
                  · have d1 : ¬ (tm : Int) < (tm' : Int) := by omega
                    have d2 : ((tm : Int) == (tm' : Int)) = false := by simp; omega
                    have d3 : ¬ (tm : Int) = (tm' : Int) := by omega
                    have d4 : ¬ tm = tm' := by omega
                    have d5 : decide (tm < tm') = false := by simp; omega
                    have d6 : decide ((tm : Int) < (tm' : Int)) = false := by simp; omega
                    have d7 : (tm == tm') = false := by simp; omega
                    have d8 : ¬ tm < tm' := by omega
                    clear h
                    go_wp2_with (fail)
                    refine (time_l HLW.out (a : Int)).mono ?_
                    rintro x wt ⟨rfl, hl, hb⟩
                    rw [QT.out]
                    have HLT := Shut.mk hl
                    have HBT := Shut.mk (HBW.out.trans (hb.mono HBW.out.size))
                    have HCF := Shut.mk fun (w' : World) (hb' : Below wt.heap.size wt w') => show w'.cell? ⟨b5, o5 + i, none⟩ = some (.int .i64 (a : Int)) from below_at hb' (below_at hb hc)
                    have HZF := Shut.mk fun (w' : World) (hb' : Below wt.heap.size wt w') => show w'.cell? ⟨b0, o0 + j, none⟩ = some (.int .i64 v) from below_at hb' (below_at HLT.out.bel HZC.out)
                    clear hl hb hc
                    go_wp2_with (fail)
                    refine wp_region_held_drew (S := fun w' => Below wt.heap.size wt w') (by kernel_rfl) (Below.refl _ _).drew (fun hHeld => ?_)
                    generalize World.drew wt = wr9 at *
                    have HB9 := Shut.mk hHeld
                    refine hP 0 ?_
                    refine hP 1 ?_
                    refine hP 2 ?_
                    refine hP 3 ?_
                    refine hP 4 ?_
                    refine hP 5 ?_
                    refine hP 6 ?_
                    refine hT 7 (fun w hSw => HCF.out w hSw) ?_
                    refine hP 8 ?_
                    refine hP 9 ?_
                    refine hT 10 (fun w hSw => HZF.out w hSw) ?_
                    refine hP 11 ?_
                    refine hP 12 ?_
                    refine hP 13 ?_
                    refine hP 14 ?_
                    refine hP 15 ?_
                    refine hP 16 ?_
                    refine hP 17 ?_
                    refine hP 18 ?_
                    refine hP 19 ?_
                    refine hP 20 ?_
                    refine hP 21 ?_
                    refine hP 22 ?_
                    refine hP 23 ?_
                    refine wpAnyH_take (i := 24) (v := undef) rfl (by kernel_rfl) (by kernel_rfl) (by kernel_rfl) (fun _ _ _ h => h) (Or.inr ⟨by rfl, rfl⟩) (by assumption) ?_
                    try simp only [Act.put, List.getElem_toArray, List.getElem_cons_zero, List.getElem_cons_succ, List.setIfInBounds_toArray, List.set_cons_zero, List.set_cons_succ]
                    refine wpAnyH_take (i := 25) (v := undef) rfl (by kernel_rfl) (by kernel_rfl) (by kernel_rfl) (fun _ _ _ h => h) (Or.inr ⟨by rfl, rfl⟩) (by assumption) ?_
                    try simp only [Act.put, List.getElem_toArray, List.getElem_cons_zero, List.getElem_cons_succ, List.setIfInBounds_toArray, List.set_cons_zero, List.set_cons_succ]
                    refine wpAnyH_take (i := 26) (v := undef) rfl (by kernel_rfl) (by kernel_rfl) (by kernel_rfl) (fun _ _ _ h => h) (Or.inr ⟨by rfl, rfl⟩) (by assumption) ?_
                    try simp only [Act.put, List.getElem_toArray, List.getElem_cons_zero, List.getElem_cons_succ, List.setIfInBounds_toArray, List.set_cons_zero, List.set_cons_succ]
                    refine wpAnyH_take (i := 27) (v := undef) rfl (by kernel_rfl) (by kernel_rfl) (by kernel_rfl) (fun _ _ _ h => h) (Or.inr ⟨by rfl, rfl⟩) (by assumption) ?_
                    try simp only [Act.put, List.getElem_toArray, List.getElem_cons_zero, List.getElem_cons_succ, List.setIfInBounds_toArray, List.set_cons_zero, List.set_cons_succ]
                    refine wpAnyH_take (i := 28) (v := undef) rfl (by kernel_rfl) (by kernel_rfl) (by kernel_rfl) (fun _ _ _ h => h) (Or.inr ⟨by rfl, rfl⟩) (by assumption) ?_
                    try simp only [Act.put, List.getElem_toArray, List.getElem_cons_zero, List.getElem_cons_succ, List.setIfInBounds_toArray, List.set_cons_zero, List.set_cons_succ]
                    refine wpAnyH_take (i := 29) (v := undef) rfl (by kernel_rfl) (by kernel_rfl) (by kernel_rfl) (fun _ _ _ h => h) (Or.inr ⟨by rfl, rfl⟩) (by assumption) ?_
                    try simp only [Act.put, List.getElem_toArray, List.getElem_cons_zero, List.getElem_cons_succ, List.setIfInBounds_toArray, List.set_cons_zero, List.set_cons_succ]
                    refine wpAnyH_take (i := 30) (v := undef) rfl (by kernel_rfl) (by kernel_rfl) (by kernel_rfl) (fun _ _ _ h => h) (Or.inr ⟨by rfl, rfl⟩) (by assumption) ?_
                    try simp only [Act.put, List.getElem_toArray, List.getElem_cons_zero, List.getElem_cons_succ, List.setIfInBounds_toArray, List.set_cons_zero, List.set_cons_succ]
                    refine wpAnyH_take (i := 31) (v := undef) rfl (by kernel_rfl) (by kernel_rfl) (by kernel_rfl) (fun _ _ _ h => h) (Or.inr ⟨by rfl, rfl⟩) (by assumption) ?_
                    try simp only [Act.put, List.getElem_toArray, List.getElem_cons_zero, List.getElem_cons_succ, List.setIfInBounds_toArray, List.set_cons_zero, List.set_cons_succ]
                    refine wpAnyH_take (i := 32) (v := undef) rfl (by kernel_rfl) (by kernel_rfl) (by kernel_rfl) (fun _ _ _ h => h) (Or.inr ⟨by rfl, rfl⟩) (by assumption) ?_
                    try simp only [Act.put, List.getElem_toArray, List.getElem_cons_zero, List.getElem_cons_succ, List.setIfInBounds_toArray, List.set_cons_zero, List.set_cons_succ]
                    refine wpAnyH_take (i := 33) (v := undef) rfl (by kernel_rfl) (by kernel_rfl) (by kernel_rfl) (fun _ _ _ h => h) (Or.inr ⟨by rfl, rfl⟩) (by assumption) ?_
                    try simp only [Act.put, List.getElem_toArray, List.getElem_cons_zero, List.getElem_cons_succ, List.setIfInBounds_toArray, List.set_cons_zero, List.set_cons_succ]
                    refine hP 34 ?_
                    refine hP 35 ?_
                    refine wpAnyH_done (by kernel_rfl) ?_ _
                    try simp only [Act.put, List.getElem_toArray, List.getElem_cons_zero, List.getElem_cons_succ, List.setIfInBounds_toArray, List.set_cons_zero, List.set_cons_succ]
                    clear hHeld
                    go_wp2_with (fail)
                    go_roundw
                    case rel => exact ⟨i + 1, by have := HI.out; omega, by go_num, by rw [HLAST.out], Shut.mk (HLT.out.quiet HB9.out), Shut.mk (HBT.out.trans (HB9.out.mono HBT.out.size))⟩
                    case measure => have := HI.out; simp [intOf]; omega
                  · subst h
                    have d1 : ¬ (tm' : Int) < (tm' : Int) := by omega
                    have d2 : ((tm' : Int) == (tm' : Int)) = true := by simp
                    have d3 : ¬ (a : Int) < (a' : Int) := by omega
                    have d4 : ¬ a < a' := by omega
                    clear h'
                    go_wp2_with (fail)
                    refine (time_l HLW.out (a : Int)).mono ?_
                    rintro x wt ⟨rfl, hl, hb⟩
                    rw [QT.out]
                    have HLT := Shut.mk hl
                    have HBT := Shut.mk (HBW.out.trans (hb.mono HBW.out.size))
                    have HCF := Shut.mk fun (w' : World) (hb' : Below wt.heap.size wt w') => show w'.cell? ⟨b5, o5 + i, none⟩ = some (.int .i64 (a : Int)) from below_at hb' (below_at hb hc)
                    have HZF := Shut.mk fun (w' : World) (hb' : Below wt.heap.size wt w') => show w'.cell? ⟨b0, o0 + j, none⟩ = some (.int .i64 v) from below_at hb' (below_at HLT.out.bel HZC.out)
                    have HPF := Shut.mk fun (w' : World) (hb' : Below wt.heap.size wt w') => show w'.cell? ⟨b5, o5 + i', none⟩ = some (.int .i64 (a' : Int)) from below_at hb' (below_at hb HPC.out)
                    clear hl hb hc
                    go_wp2_with (fail)
                    refine wp_region_held_drew (S := fun w' => Below wt.heap.size wt w') (by kernel_rfl) (Below.refl _ _).drew (fun hHeld => ?_)
                    generalize World.drew wt = wr9 at *
                    have HB9 := Shut.mk hHeld
                    refine hP 0 ?_
                    refine hP 1 ?_
                    refine hP 2 ?_
                    refine hP 3 ?_
                    refine hP 4 ?_
                    refine hP 5 ?_
                    refine hP 6 ?_
                    refine hT 7 (fun w hSw => HCF.out w hSw) ?_
                    refine hP 8 ?_
                    refine hP 9 ?_
                    refine hT 10 (fun w hSw => HZF.out w hSw) ?_
                    refine hP 11 ?_
                    refine hP 12 ?_
                    refine hP 13 ?_
                    refine hP 14 ?_
                    refine hP 15 ?_
                    refine hP 16 ?_
                    refine hP 17 ?_
                    refine hP 18 ?_
                    refine hP 19 ?_
                    refine hP 20 ?_
                    refine hP 21 ?_
                    refine hP 22 ?_
                    refine hP 23 ?_
                    refine hP 24 ?_
                    refine hP 25 ?_
                    refine hP 26 ?_
                    refine hP 27 ?_
                    refine hT 28 (fun w hSw => HPF.out w hSw) ?_
                    refine hP 29 ?_
                    refine hP 30 ?_
                    refine hP 31 ?_
                    refine hT 32 (fun w hSw => HCF.out w hSw) ?_
                    refine hP 33 ?_
                    refine hP 34 ?_
                    refine hP 35 ?_
                    refine wpAnyH_done (by kernel_rfl) ?_ _
                    try simp only [Act.put, List.getElem_toArray, List.getElem_cons_zero, List.getElem_cons_succ, List.setIfInBounds_toArray, List.set_cons_zero, List.set_cons_succ]
                    clear hHeld
                    go_wp2_with (fail)
                    go_roundw
                    case rel => exact ⟨i + 1, by have := HI.out; omega, by go_num, by rw [HLAST.out], Shut.mk (HLT.out.quiet HB9.out), Shut.mk (HBT.out.trans (HB9.out.mono HBT.out.size))⟩
                    case measure => have := HI.out; simp [intOf]; omega
              · obtain rfl : n = i := by omega
                have QE := Shut.mk fun (l : List Tu) (hi : InvT l) => show delT l 17 = (l, 107) by unfold delT; rw [if_neg (by rw [has_out hi (by decide)]; simp)]
                clear hi hin
                rcases Nat.eq_zero_or_pos n with hn00 | hn00
                · subst hn00
                  have QE := Shut.mk (QE.out L HINV.out)
                  go_wp2_with (fail)
                  refine (del_l HLW.out HS.out (by decide) 17).mono ?_
                  rintro x wu ⟨rfl, hst⟩
                  rw [QE.out] at hst ⊢
                  obtain ⟨SU, hl, ho, hf⟩ := hst
                  have HLU := Shut.mk hl
                  clear hl ho hf
                  go_wp2_with (fail)
                  refine (is_any E 107 107 wu (HS.out.below HLU.out.bel) (.inr (by decide))).mono ?_
                  rintro x wv ⟨rfl, hb⟩
                  have HBV := Shut.mk (HLU.out.bel.trans (hb.mono HLU.out.bel.size))
                  clear hb
                  go_wp2_with (fail)
                  go_ret
                  exact ⟨rfl, HBV.out⟩
                · obtain ⟨n1, hnn⟩ : ∃ n1, n = n1 + 1 := ⟨n - 1, by omega⟩
                  have hN1 : 0 < (ordN L).length := by rw [← ordI_len, HLEN.out]; omega
                  have hON := ordN_at (l := L) (i := 0) hN1
                  obtain ⟨b5, o5, rfl, hc⟩ := (HR5.out.below HBW.out).el 0 (by omega)
                  rw [ordI_at hN1] at hc
                  obtain ⟨a0, ha0⟩ : ∃ a0, a0 = ((ordN L).getD 0 tu0).aid := ⟨_, rfl⟩
                  rw [← ha0] at hc
                  have HC0 := Shut.mk (show wr.cell? ⟨b5, o5, none⟩ = some (.int .i64 (a0 : Int)) from hc)
                  have hdel := del_on HINV.out hON.1 hON.2
                  rw [← ha0] at hdel
                  have HINV2 := Shut.mk (inv_del HINV.out (a0 : Int))
                  have QD := Shut.mk (show delT L (a0 : Int) = ((delT L (a0 : Int)).1, 0) by
                    have h : hasT L (a0 : Int) = true := has_iff.2 ⟨_, hON.1, by rw [ha0]⟩
                    unfold delT
                    rw [if_pos h])
                  obtain ⟨L2, hL2⟩ : ∃ L2, L2 = (delT L (a0 : Int)).1 := ⟨_, rfl⟩
                  rw [← hL2] at QD hdel HINV2
                  have QN := Shut.mk (show (ordI L2).length = n1 by have h1 := hdel.1; have h2 := HLEN.out; rw [ordI_len] at h2 ⊢; omega)
                  have QH := Shut.mk (show decide ((a0 : Int) ∈ ordI L2) = false by
                    refine decide_eq_false fun h => ?_
                    obtain ⟨t, h1, h2, h3⟩ := ordI_mem.1 h
                    exact hdel.2 t (ordN_mem.2 ⟨h1, h2⟩) (by omega))
                  have QE := Shut.mk (QE.out L2 HINV2.out)
                  have y3 : IntKind.i64.wrap ((n : Int) - 1) = (n1 : Int) := by rw [hnn, IntWalk.i64_in _ ⟨by omega, by omega⟩]; omega
                  have hn0 : (0 : Int) < (n : Int) := by omega
                  have hn1 : (n1 : Int) ≤ 16 := by omega
                  clear hN1 hON hc ha0 hdel hL2 hnn hn00
                  go_wp2_with (fail)
                  refine wp_region_D (fun w' => w'.cell? ⟨b5, o5, none⟩ = some (.int .i64 (a0 : Int))) 20 (by kernel_rfl) (show (World.drew wr).cell? ⟨b5, o5, none⟩ = some (.int .i64 (a0 : Int)) from HC0.out) (fun hHeld hC => ?_)
                  refine dP 0 hC hHeld ?_; clear hC; intro hC
                  refine dP 1 hC hHeld ?_; clear hC; intro hC
                  refine dP 2 hC hHeld ?_; clear hC; intro hC
                  refine dT 3 hC hHeld (fun w hSw => hSw) ?_; clear hC; intro hC
                  refine wpAnyD_one (i := 4) (by kernel_rfl) rfl hC (fun K hK => ?_)
                  clear hC
                  go_simp
                  refine (del_l (HLW.out.quiet (Below.refl _ _).drew) HS.out (by decide) (a0 : Int)).mono ?_
                  rintro e' wd1 ⟨rfl, hst⟩
                  rw [QD.out] at hst ⊢
                  obtain ⟨S6, hl6, ho6, hf6⟩ := hst
                  rw [errV_zero]
                  have HL6 := Shut.mk hl6
                  clear hl6 hf6
                  have hHeld2 := (ho6.cell hHeld (fun e => HQ5.out _ rfl e))
                  clear ho6
                  clear hHeld
                  have hHeld := hHeld2
                  clear hHeld2
                  refine hK.out _ _ (fun _ => hHeld) (fun hC => ?_)
                  clear hK K
                  try simp only [Act.put, List.getElem_toArray, List.getElem_cons_zero, List.getElem_cons_succ, List.setIfInBounds_toArray, List.set_cons_zero, List.set_cons_succ]
                  refine dP 5 hC hHeld ?_; clear hC; intro hC
                  refine dP 6 hC hHeld ?_; clear hC; intro hC
                  refine dP 7 hC hHeld ?_; clear hC; intro hC
                  refine dP 10 hC hHeld ?_; clear hC; intro hC
                  refine dP 11 hC hHeld ?_; clear hC; intro hC
                  refine wpAnyD_one (i := 8) (by kernel_rfl) rfl hC (fun K hK => ?_)
                  clear hC
                  go_simp
                  refine (order_q HL6.out).mono ?_
                  rintro e' wd2 ⟨A7, c7, rfl, hr7, hp7, hl7, hb7⟩
                  rw [QN.out] at hr7 ⊢
                  have HL7 := Shut.mk hl7
                  clear hr7 hp7 hl7
                  have hHeld2 := (below_at hb7 hHeld)
                  clear hb7
                  clear hHeld
                  have hHeld := hHeld2
                  clear hHeld2
                  refine hK.out _ _ (fun _ => hHeld) (fun hC => ?_)
                  clear hK K
                  try simp only [Act.put, List.getElem_toArray, List.getElem_cons_zero, List.getElem_cons_succ, List.setIfInBounds_toArray, List.set_cons_zero, List.set_cons_succ]
                  refine dP 9 hC hHeld ?_; clear hC; intro hC
                  refine dP 12 hC hHeld ?_; clear hC; intro hC
                  refine dP 13 hC hHeld ?_; clear hC; intro hC
                  refine dP 14 hC hHeld ?_; clear hC; intro hC
                  refine dP 15 hC hHeld ?_; clear hC; intro hC
                  refine dP 17 hC hHeld ?_; clear hC; intro hC
                  refine dP 18 hC hHeld ?_; clear hC; intro hC
                  refine dT 19 hC hHeld (fun w hSw => hSw) ?_; clear hC; intro hC
                  refine wpAnyD_one (i := 16) (by kernel_rfl) rfl hC (fun K hK => ?_)
                  clear hC
                  go_simp
                  refine (order_q HL7.out).mono ?_
                  rintro e' wd3 ⟨A8, c8, rfl, hr8, hp8, hl8, hb8⟩
                  rw [QN.out] at hr8 ⊢
                  have HL8 := Shut.mk hl8
                  have HR8 := Shut.mk hr8
                  clear hr8 hp8 hl8
                  have hHeld2 := (below_at hb8 hHeld)
                  clear hb8
                  clear hHeld
                  have hHeld := hHeld2
                  clear hHeld2
                  refine hK.out _ _ (fun _ => hHeld) (fun hC => ?_)
                  clear hK K
                  try simp only [Act.put, List.getElem_toArray, List.getElem_cons_zero, List.getElem_cons_succ, List.setIfInBounds_toArray, List.set_cons_zero, List.set_cons_succ]
                  refine wpAnyD_one (i := 20) (by kernel_rfl) rfl hC (fun K hK => ?_)
                  clear hC
                  go_simp
                  refine (refHas_any A8 n1 c8 (ordI L2) (a0 : Int) _ HR8.out).mono ?_
                  rintro e' wd4 ⟨rfl, rfl⟩
                  rw [QH.out]
                  refine hK.out _ _ (past (by kernel_rfl)) (fun hC => ?_)
                  clear hK K
                  try simp only [Act.put, List.getElem_toArray, List.getElem_cons_zero, List.getElem_cons_succ, List.setIfInBounds_toArray, List.set_cons_zero, List.set_cons_succ]
                  refine dQ 21 hC ?_; clear hC; intro hC
                  refine wpAnyD_done (by kernel_rfl) ?_ _
                  try simp only [Act.put, List.getElem_toArray, List.getElem_cons_zero, List.getElem_cons_succ, List.setIfInBounds_toArray, List.set_cons_zero, List.set_cons_succ]
                  clear hC hHeld
                  go_wp2_with (fail)
                  refine (del_l HL8.out HS.out (by decide) 17).mono ?_
                  rintro x wu ⟨rfl, hst⟩
                  rw [QE.out] at hst ⊢
                  obtain ⟨SU, hl, ho, hf⟩ := hst
                  have HLU := Shut.mk hl
                  clear hl ho hf
                  go_wp2_with (fail)
                  refine (is_any E 107 107 wu (HS.out.below HLU.out.bel) (.inr (by decide))).mono ?_
                  rintro x wv ⟨rfl, hb⟩
                  have HBV := Shut.mk (HLU.out.bel.trans (hb.mono HLU.out.bel.size))
                  clear hb
                  go_wp2_with (fail)
                  go_ret
                  exact ⟨rfl, HBV.out⟩
        · obtain rfl : len1 = i := by omega
          have h1i : ¬ (len1 : Int) < (len1 : Int) := by omega
          have h1n : ¬ len1 < len1 := by omega
          clear hi0 hi1 h1
          go_wp2_with (fail)
          obtain ⟨T, hT⟩ : ∃ T, T = tmO z1 len1 := ⟨_, rfl⟩
          obtain ⟨S2, hl2⟩ := HLX.out
          have HLA := Shut.mk (show LawS w wr S2 g (mkT b T len0) by rw [hT]; exact hl2)
          have HLEN := Shut.mk (show (ordI (mkT b T len0)).length = cntB b len0 by rw [ordI_len]; exact mk_cnt b T len0)
          have HN16 := Shut.mk (show cntB b len0 ≤ 16 from Nat.le_trans (cnt_le b len0) HN0.out)
          obtain ⟨n, hn⟩ : ∃ n, n = cntB b len0 := ⟨_, rfl⟩
          rw [← hn] at HLEN HN16 ⊢
          obtain ⟨L, hL⟩ : ∃ L, L = mkT b T len0 := ⟨_, rfl⟩
          have HLD := Shut.mk hL
          rw [← hL] at HLA HLEN
          have hn16 : (n : Int) ≤ 16 := by have := HN16.out; omega
          have hne : ((n : Int) != (n : Int)) = false := by simp
          clear hl2 HLX hT hn hL
          go_wp2_with (fail)
          refine (order_l HLA.out).mono ?_
          rintro x w5 ⟨A5, c5, rfl, hr, hp, S5, hl, ho, hf, hq⟩
          rw [HLEN.out] at hr ⊢
          have HR5 := Shut.mk hr
          have HQ5 := Shut.mk hq
          have HL5 := Shut.mk hl
          have HB5 := Shut.mk (Below.refl w5.heap.size w5)
          clear hr hp hl ho hf hq HLA
          go_wp2_with (fail)
          go_loopw [12, 13, 14, 15] (fun s12 s13 _ _ wr => ∃ i : Nat, i ≤ n ∧ s13 = .int .i64 (i : Int) ∧ s12 = .int .i64 (lastT L i) ∧ Shut (LawS w wr S5 g L) ∧ Shut (Below w5.heap.size w5 wr)) (fun _ s13 _ _ _ => n - (intOf s13).toNat)
          case atStart => exact ⟨0, Nat.zero_le _, rfl, rfl, HL5, HB5⟩
          case round =>
            clear HL5 HB5
            obtain ⟨i, hi, rfl, rfl, HLW, HBW⟩ := hrel
            have HINV := Shut.mk HLW.out.inv
            by_cases hin : i < n
            · have HI := Shut.mk hin
              have hON := ordN_at (l := L) (i := i) (by rw [← ordI_len, HLEN.out]; exact hin)
              obtain ⟨j, hj, ht⟩ := mk_ok b T (k := len0) (t := (ordN L).getD i tu0) (by rw [← HLD.out]; exact hON.1)
              have hto : b j = true := by have := hON.2; rw [ht] at this; exact this
              obtain ⟨b5, o5, rfl, hc⟩ := (HR5.out.below HBW.out).el i hin
              rw [ordI_at (by rw [← ordI_len, HLEN.out]; exact hin), ht] at hc
              obtain ⟨a, ha⟩ : ∃ a, a = j + 1 := ⟨_, rfl⟩
              obtain ⟨tm, htm⟩ : ∃ tm, tm = T j := ⟨_, rfl⟩
              have hcq : wr.cell? ⟨b5, o5 + i, none⟩ = some (.int .i64 (a : Int)) := by rw [ha]; exact hc
              clear hc
              have hc := hcq
              clear hcq
              have QT := Shut.mk (show timeT L (a : Int) = (tm, true) by have := time_mem HINV.out hON.1; rw [ht] at this; rw [ha, htm]; exact this)
              have HLAST := Shut.mk (show lastT L (i + 1) = (tm : Int) by show ((((ordN L).getD i tu0).tm : Nat) : Int) = _; rw [ht, htm])
              obtain ⟨b0, o0, rfl, hz, -⟩ := HZ0.out.el j (by omega)
              obtain ⟨v, hv⟩ : ∃ v, v = z0.getD j 0 := ⟨_, rfl⟩
              rw [← hv] at hz
              have HZC := Shut.mk hz
              have h3 : ¬ v % 3 = 0 := by
                have h := hto
                rw [HB.out] at h
                unfold onB at h
                rw [← hv] at h
                simpa using h
              have r1 : (v.tmod 3 == 0) = false := by rw [rem3 v]; simpa using h3
              have r2 : ¬ v.tmod 3 = 0 := by simpa using r1
              have hj2 : j < 16 := by have := HN0.out; omega
              have y1 : IntKind.i64.wrap ((a : Int) - 1) = (j : Int) := by rw [ha, IntWalk.i64_in _ ⟨by omega, by omega⟩]; omega
              have hj0 : (0 : Int) ≤ (j : Int) := by omega
              have hj1 : (j : Int) < (len0 : Int) := by omega
              have hi0 : (0 : Int) ≤ (i : Int) := by omega
              have hi1 : (i : Int) < (n : Int) := by omega
              have y2 : IntKind.i64.wrap ((i : Int) + 1) = ((i + 1 : Nat) : Int) := by rw [IntWalk.i64_in _ ⟨by omega, by omega⟩]; omega
              have HTE := Shut.mk ht
              rcases Nat.eq_zero_or_pos i with hi00 | hi00
              · subst hi00
                have hcq : wr.cell? ⟨b5, o5, none⟩ = some (.int .i64 (a : Int)) := hc
                clear hc
                have hc := hcq
                clear hcq
                have l0 : lastT L 0 = -1 := rfl
                rw [l0]
                have d1 : ¬ (tm : Int) < -1 := by omega
                have d3 : ¬ (tm : Int) = -1 := by omega
                have d2 : ((tm : Int) == -1) = false := by simp
                clear hi hin hON hj ht hto ha htm hz hv h3 hj2 l0
                go_wp2_with (fail)
                refine (time_l HLW.out (a : Int)).mono ?_
                rintro x wt ⟨rfl, hl, hb⟩
                rw [QT.out]
                have HLT := Shut.mk hl
                have HBT := Shut.mk (HBW.out.trans (hb.mono HBW.out.size))
                have HCF := Shut.mk fun (w' : World) (hb' : Below wt.heap.size wt w') => show w'.cell? ⟨b5, o5, none⟩ = some (.int .i64 (a : Int)) from below_at hb' (below_at hb hc)
                have HZF := Shut.mk fun (w' : World) (hb' : Below wt.heap.size wt w') => show w'.cell? ⟨b0, o0 + j, none⟩ = some (.int .i64 v) from below_at hb' (below_at HLT.out.bel HZC.out)
                clear hl hb hc
                go_wp2_with (fail)
                refine wp_region_held_drew (S := fun w' => Below wt.heap.size wt w') (by kernel_rfl) (Below.refl _ _).drew (fun hHeld => ?_)
                generalize World.drew wt = wr9 at *
                have HB9 := Shut.mk hHeld
                refine hP 0 ?_
                refine hP 1 ?_
                refine hP 2 ?_
                refine hP 3 ?_
                refine hP 4 ?_
                refine hP 5 ?_
                refine hP 6 ?_
                refine hT 7 (fun w hSw => HCF.out w hSw) ?_
                refine hP 8 ?_
                refine hP 9 ?_
                refine hT 10 (fun w hSw => HZF.out w hSw) ?_
                refine hP 11 ?_
                refine hP 12 ?_
                refine hP 13 ?_
                refine hP 14 ?_
                refine hP 15 ?_
                refine hP 16 ?_
                refine hP 17 ?_
                refine hP 18 ?_
                refine hP 19 ?_
                refine hP 20 ?_
                refine hP 21 ?_
                refine hP 22 ?_
                refine hP 23 ?_
                refine wpAnyH_take (i := 24) (v := undef) rfl (by kernel_rfl) (by kernel_rfl) (by kernel_rfl) (fun _ _ _ h => h) (Or.inr ⟨by rfl, rfl⟩) (by assumption) ?_
                try simp only [Act.put, List.getElem_toArray, List.getElem_cons_zero, List.getElem_cons_succ, List.setIfInBounds_toArray, List.set_cons_zero, List.set_cons_succ]
                refine wpAnyH_take (i := 25) (v := undef) rfl (by kernel_rfl) (by kernel_rfl) (by kernel_rfl) (fun _ _ _ h => h) (Or.inr ⟨by rfl, rfl⟩) (by assumption) ?_
                try simp only [Act.put, List.getElem_toArray, List.getElem_cons_zero, List.getElem_cons_succ, List.setIfInBounds_toArray, List.set_cons_zero, List.set_cons_succ]
                refine wpAnyH_take (i := 26) (v := undef) rfl (by kernel_rfl) (by kernel_rfl) (by kernel_rfl) (fun _ _ _ h => h) (Or.inr ⟨by rfl, rfl⟩) (by assumption) ?_
                try simp only [Act.put, List.getElem_toArray, List.getElem_cons_zero, List.getElem_cons_succ, List.setIfInBounds_toArray, List.set_cons_zero, List.set_cons_succ]
                refine wpAnyH_take (i := 27) (v := undef) rfl (by kernel_rfl) (by kernel_rfl) (by kernel_rfl) (fun _ _ _ h => h) (Or.inr ⟨by rfl, rfl⟩) (by assumption) ?_
                try simp only [Act.put, List.getElem_toArray, List.getElem_cons_zero, List.getElem_cons_succ, List.setIfInBounds_toArray, List.set_cons_zero, List.set_cons_succ]
                refine wpAnyH_take (i := 28) (v := undef) rfl (by kernel_rfl) (by kernel_rfl) (by kernel_rfl) (fun _ _ _ h => h) (Or.inr ⟨by rfl, rfl⟩) (by assumption) ?_
                try simp only [Act.put, List.getElem_toArray, List.getElem_cons_zero, List.getElem_cons_succ, List.setIfInBounds_toArray, List.set_cons_zero, List.set_cons_succ]
                refine wpAnyH_take (i := 29) (v := undef) rfl (by kernel_rfl) (by kernel_rfl) (by kernel_rfl) (fun _ _ _ h => h) (Or.inr ⟨by rfl, rfl⟩) (by assumption) ?_
                try simp only [Act.put, List.getElem_toArray, List.getElem_cons_zero, List.getElem_cons_succ, List.setIfInBounds_toArray, List.set_cons_zero, List.set_cons_succ]
                refine wpAnyH_take (i := 30) (v := undef) rfl (by kernel_rfl) (by kernel_rfl) (by kernel_rfl) (fun _ _ _ h => h) (Or.inr ⟨by rfl, rfl⟩) (by assumption) ?_
                try simp only [Act.put, List.getElem_toArray, List.getElem_cons_zero, List.getElem_cons_succ, List.setIfInBounds_toArray, List.set_cons_zero, List.set_cons_succ]
                refine wpAnyH_take (i := 31) (v := undef) rfl (by kernel_rfl) (by kernel_rfl) (by kernel_rfl) (fun _ _ _ h => h) (Or.inr ⟨by rfl, rfl⟩) (by assumption) ?_
                try simp only [Act.put, List.getElem_toArray, List.getElem_cons_zero, List.getElem_cons_succ, List.setIfInBounds_toArray, List.set_cons_zero, List.set_cons_succ]
                refine wpAnyH_take (i := 32) (v := undef) rfl (by kernel_rfl) (by kernel_rfl) (by kernel_rfl) (fun _ _ _ h => h) (Or.inr ⟨by rfl, rfl⟩) (by assumption) ?_
                try simp only [Act.put, List.getElem_toArray, List.getElem_cons_zero, List.getElem_cons_succ, List.setIfInBounds_toArray, List.set_cons_zero, List.set_cons_succ]
                refine wpAnyH_take (i := 33) (v := undef) rfl (by kernel_rfl) (by kernel_rfl) (by kernel_rfl) (fun _ _ _ h => h) (Or.inr ⟨by rfl, rfl⟩) (by assumption) ?_
                try simp only [Act.put, List.getElem_toArray, List.getElem_cons_zero, List.getElem_cons_succ, List.setIfInBounds_toArray, List.set_cons_zero, List.set_cons_succ]
                refine hP 34 ?_
                refine hP 35 ?_
                refine wpAnyH_done (by kernel_rfl) ?_ _
                try simp only [Act.put, List.getElem_toArray, List.getElem_cons_zero, List.getElem_cons_succ, List.setIfInBounds_toArray, List.set_cons_zero, List.set_cons_succ]
                clear hHeld
                go_wp2_with (fail)
                go_roundw
                case rel => exact ⟨0 + 1, by have := HI.out; omega, by go_num, by rw [HLAST.out], Shut.mk (HLT.out.quiet HB9.out), Shut.mk (HBT.out.trans (HB9.out.mono HBT.out.size))⟩
                case measure => have := HI.out; simp [intOf]; omega
              · obtain ⟨i', hii⟩ : ∃ i', i = i' + 1 := ⟨i - 1, by omega⟩
                have hnx := ordN_next (l := L) (i := i') (by rw [← ordI_len, HLEN.out]; omega)
                rw [← hii] at hnx
                have hON' := ordN_at (l := L) (i := i') (by rw [← ordI_len, HLEN.out]; omega)
                obtain ⟨j', hj', ht'⟩ := mk_ok b T (k := len0) (t := (ordN L).getD i' tu0) (by rw [← HLD.out]; exact hON'.1)
                obtain ⟨b5', o5', e5, hc'⟩ := (HR5.out.below HBW.out).el i' (by omega)
                rw [ordI_at (by rw [← ordI_len, HLEN.out]; omega), ht'] at hc'
                cases e5
                obtain ⟨a', ha'⟩ : ∃ a', a' = j' + 1 := ⟨_, rfl⟩
                obtain ⟨tm', htm'⟩ : ∃ tm', tm' = T j' := ⟨_, rfl⟩
                have HPC := Shut.mk (show wr.cell? ⟨b5, o5 + i', none⟩ = some (.int .i64 (a' : Int)) by rw [ha']; exact hc')
                have l1 : lastT L i = (tm' : Int) := by rw [hii]; show ((((ordN L).getD i' tu0).tm : Nat) : Int) = _; rw [ht', htm']
                rw [ht, ht'] at hnx
                have hle : tm' < tm ∨ tm' = tm ∧ a' ≤ a := by
                  unfold leT at hnx
                  simp only at hnx
                  rw [htm, htm', ha, ha']
                  exact hnx
                rw [l1]
                have y3 : IntKind.i64.wrap ((i : Int) - 1) = (i' : Int) := by rw [hii, IntWalk.i64_in _ ⟨by omega, by omega⟩]; omega
                have hp0 : (0 : Int) ≤ (i' : Int) := by omega
                have hp1 : (i' : Int) < (n : Int) := by omega
                clear hi hin hON hj ht hto ha htm hz hv h3 hj2 hnx hON' hj' ht' ha' htm' l1 hii hi00 HTE hc'
                rcases hle with h | ⟨h, h'⟩
                · have d1 : ¬ (tm : Int) < (tm' : Int) := by omega
                  have d2 : ((tm : Int) == (tm' : Int)) = false := by simp; omega
                  have d3 : ¬ (tm : Int) = (tm' : Int) := by omega
                  have d4 : ¬ tm = tm' := by omega
                  have d5 : decide (tm < tm') = false := by simp; omega
                  have d6 : decide ((tm : Int) < (tm' : Int)) = false := by simp; omega
                  have d7 : (tm == tm') = false := by simp; omega
                  have d8 : ¬ tm < tm' := by omega
                  clear h
                  go_wp2_with (fail)
                  refine (time_l HLW.out (a : Int)).mono ?_
                  rintro x wt ⟨rfl, hl, hb⟩
                  rw [QT.out]
                  have HLT := Shut.mk hl
                  have HBT := Shut.mk (HBW.out.trans (hb.mono HBW.out.size))
                  have HCF := Shut.mk fun (w' : World) (hb' : Below wt.heap.size wt w') => show w'.cell? ⟨b5, o5 + i, none⟩ = some (.int .i64 (a : Int)) from below_at hb' (below_at hb hc)
                  have HZF := Shut.mk fun (w' : World) (hb' : Below wt.heap.size wt w') => show w'.cell? ⟨b0, o0 + j, none⟩ = some (.int .i64 v) from below_at hb' (below_at HLT.out.bel HZC.out)
                  clear hl hb hc
                  go_wp2_with (fail)
                  refine wp_region_held_drew (S := fun w' => Below wt.heap.size wt w') (by kernel_rfl) (Below.refl _ _).drew (fun hHeld => ?_)
                  generalize World.drew wt = wr9 at *
                  have HB9 := Shut.mk hHeld
                  refine hP 0 ?_
                  refine hP 1 ?_
                  refine hP 2 ?_
                  refine hP 3 ?_
                  refine hP 4 ?_
                  refine hP 5 ?_
                  refine hP 6 ?_
                  refine hT 7 (fun w hSw => HCF.out w hSw) ?_
                  refine hP 8 ?_
                  refine hP 9 ?_
                  refine hT 10 (fun w hSw => HZF.out w hSw) ?_
                  refine hP 11 ?_
                  refine hP 12 ?_
                  refine hP 13 ?_
                  refine hP 14 ?_
                  refine hP 15 ?_
                  refine hP 16 ?_
                  refine hP 17 ?_
                  refine hP 18 ?_
                  refine hP 19 ?_
                  refine hP 20 ?_
                  refine hP 21 ?_
                  refine hP 22 ?_
                  refine hP 23 ?_
                  refine wpAnyH_take (i := 24) (v := undef) rfl (by kernel_rfl) (by kernel_rfl) (by kernel_rfl) (fun _ _ _ h => h) (Or.inr ⟨by rfl, rfl⟩) (by assumption) ?_
                  try simp only [Act.put, List.getElem_toArray, List.getElem_cons_zero, List.getElem_cons_succ, List.setIfInBounds_toArray, List.set_cons_zero, List.set_cons_succ]
                  refine wpAnyH_take (i := 25) (v := undef) rfl (by kernel_rfl) (by kernel_rfl) (by kernel_rfl) (fun _ _ _ h => h) (Or.inr ⟨by rfl, rfl⟩) (by assumption) ?_
                  try simp only [Act.put, List.getElem_toArray, List.getElem_cons_zero, List.getElem_cons_succ, List.setIfInBounds_toArray, List.set_cons_zero, List.set_cons_succ]
                  refine wpAnyH_take (i := 26) (v := undef) rfl (by kernel_rfl) (by kernel_rfl) (by kernel_rfl) (fun _ _ _ h => h) (Or.inr ⟨by rfl, rfl⟩) (by assumption) ?_
                  try simp only [Act.put, List.getElem_toArray, List.getElem_cons_zero, List.getElem_cons_succ, List.setIfInBounds_toArray, List.set_cons_zero, List.set_cons_succ]
                  refine wpAnyH_take (i := 27) (v := undef) rfl (by kernel_rfl) (by kernel_rfl) (by kernel_rfl) (fun _ _ _ h => h) (Or.inr ⟨by rfl, rfl⟩) (by assumption) ?_
                  try simp only [Act.put, List.getElem_toArray, List.getElem_cons_zero, List.getElem_cons_succ, List.setIfInBounds_toArray, List.set_cons_zero, List.set_cons_succ]
                  refine wpAnyH_take (i := 28) (v := undef) rfl (by kernel_rfl) (by kernel_rfl) (by kernel_rfl) (fun _ _ _ h => h) (Or.inr ⟨by rfl, rfl⟩) (by assumption) ?_
                  try simp only [Act.put, List.getElem_toArray, List.getElem_cons_zero, List.getElem_cons_succ, List.setIfInBounds_toArray, List.set_cons_zero, List.set_cons_succ]
                  refine wpAnyH_take (i := 29) (v := undef) rfl (by kernel_rfl) (by kernel_rfl) (by kernel_rfl) (fun _ _ _ h => h) (Or.inr ⟨by rfl, rfl⟩) (by assumption) ?_
                  try simp only [Act.put, List.getElem_toArray, List.getElem_cons_zero, List.getElem_cons_succ, List.setIfInBounds_toArray, List.set_cons_zero, List.set_cons_succ]
                  refine wpAnyH_take (i := 30) (v := undef) rfl (by kernel_rfl) (by kernel_rfl) (by kernel_rfl) (fun _ _ _ h => h) (Or.inr ⟨by rfl, rfl⟩) (by assumption) ?_
                  try simp only [Act.put, List.getElem_toArray, List.getElem_cons_zero, List.getElem_cons_succ, List.setIfInBounds_toArray, List.set_cons_zero, List.set_cons_succ]
                  refine wpAnyH_take (i := 31) (v := undef) rfl (by kernel_rfl) (by kernel_rfl) (by kernel_rfl) (fun _ _ _ h => h) (Or.inr ⟨by rfl, rfl⟩) (by assumption) ?_
                  try simp only [Act.put, List.getElem_toArray, List.getElem_cons_zero, List.getElem_cons_succ, List.setIfInBounds_toArray, List.set_cons_zero, List.set_cons_succ]
                  refine wpAnyH_take (i := 32) (v := undef) rfl (by kernel_rfl) (by kernel_rfl) (by kernel_rfl) (fun _ _ _ h => h) (Or.inr ⟨by rfl, rfl⟩) (by assumption) ?_
                  try simp only [Act.put, List.getElem_toArray, List.getElem_cons_zero, List.getElem_cons_succ, List.setIfInBounds_toArray, List.set_cons_zero, List.set_cons_succ]
                  refine wpAnyH_take (i := 33) (v := undef) rfl (by kernel_rfl) (by kernel_rfl) (by kernel_rfl) (fun _ _ _ h => h) (Or.inr ⟨by rfl, rfl⟩) (by assumption) ?_
                  try simp only [Act.put, List.getElem_toArray, List.getElem_cons_zero, List.getElem_cons_succ, List.setIfInBounds_toArray, List.set_cons_zero, List.set_cons_succ]
                  refine hP 34 ?_
                  refine hP 35 ?_
                  refine wpAnyH_done (by kernel_rfl) ?_ _
                  try simp only [Act.put, List.getElem_toArray, List.getElem_cons_zero, List.getElem_cons_succ, List.setIfInBounds_toArray, List.set_cons_zero, List.set_cons_succ]
                  clear hHeld
                  go_wp2_with (fail)
                  go_roundw
                  case rel => exact ⟨i + 1, by have := HI.out; omega, by go_num, by rw [HLAST.out], Shut.mk (HLT.out.quiet HB9.out), Shut.mk (HBT.out.trans (HB9.out.mono HBT.out.size))⟩
                  case measure => have := HI.out; simp [intOf]; omega
                · subst h
                  have d1 : ¬ (tm' : Int) < (tm' : Int) := by omega
                  have d2 : ((tm' : Int) == (tm' : Int)) = true := by simp
                  have d3 : ¬ (a : Int) < (a' : Int) := by omega
                  have d4 : ¬ a < a' := by omega
                  clear h'
                  go_wp2_with (fail)
                  refine (time_l HLW.out (a : Int)).mono ?_
                  rintro x wt ⟨rfl, hl, hb⟩
                  rw [QT.out]
                  have HLT := Shut.mk hl
                  have HBT := Shut.mk (HBW.out.trans (hb.mono HBW.out.size))
                  have HCF := Shut.mk fun (w' : World) (hb' : Below wt.heap.size wt w') => show w'.cell? ⟨b5, o5 + i, none⟩ = some (.int .i64 (a : Int)) from below_at hb' (below_at hb hc)
                  have HZF := Shut.mk fun (w' : World) (hb' : Below wt.heap.size wt w') => show w'.cell? ⟨b0, o0 + j, none⟩ = some (.int .i64 v) from below_at hb' (below_at HLT.out.bel HZC.out)
                  have HPF := Shut.mk fun (w' : World) (hb' : Below wt.heap.size wt w') => show w'.cell? ⟨b5, o5 + i', none⟩ = some (.int .i64 (a' : Int)) from below_at hb' (below_at hb HPC.out)
                  clear hl hb hc
                  go_wp2_with (fail)
                  refine wp_region_held_drew (S := fun w' => Below wt.heap.size wt w') (by kernel_rfl) (Below.refl _ _).drew (fun hHeld => ?_)
                  generalize World.drew wt = wr9 at *
                  have HB9 := Shut.mk hHeld
                  refine hP 0 ?_
                  refine hP 1 ?_
                  refine hP 2 ?_
                  refine hP 3 ?_
                  refine hP 4 ?_
                  refine hP 5 ?_
                  refine hP 6 ?_
                  refine hT 7 (fun w hSw => HCF.out w hSw) ?_
                  refine hP 8 ?_
                  refine hP 9 ?_
                  refine hT 10 (fun w hSw => HZF.out w hSw) ?_
                  refine hP 11 ?_
                  refine hP 12 ?_
                  refine hP 13 ?_
                  refine hP 14 ?_
                  refine hP 15 ?_
                  refine hP 16 ?_
                  refine hP 17 ?_
                  refine hP 18 ?_
                  refine hP 19 ?_
                  refine hP 20 ?_
                  refine hP 21 ?_
                  refine hP 22 ?_
                  refine hP 23 ?_
                  refine hP 24 ?_
                  refine hP 25 ?_
                  refine hP 26 ?_
                  refine hP 27 ?_
                  refine hT 28 (fun w hSw => HPF.out w hSw) ?_
                  refine hP 29 ?_
                  refine hP 30 ?_
                  refine hP 31 ?_
                  refine hT 32 (fun w hSw => HCF.out w hSw) ?_
                  refine hP 33 ?_
                  refine hP 34 ?_
                  refine hP 35 ?_
                  refine wpAnyH_done (by kernel_rfl) ?_ _
                  try simp only [Act.put, List.getElem_toArray, List.getElem_cons_zero, List.getElem_cons_succ, List.setIfInBounds_toArray, List.set_cons_zero, List.set_cons_succ]
                  clear hHeld
                  go_wp2_with (fail)
                  go_roundw
                  case rel => exact ⟨i + 1, by have := HI.out; omega, by go_num, by rw [HLAST.out], Shut.mk (HLT.out.quiet HB9.out), Shut.mk (HBT.out.trans (HB9.out.mono HBT.out.size))⟩
                  case measure => have := HI.out; simp [intOf]; omega
            · obtain rfl : n = i := by omega
              have QE := Shut.mk fun (l : List Tu) (hi : InvT l) => show delT l 17 = (l, 107) by unfold delT; rw [if_neg (by rw [has_out hi (by decide)]; simp)]
              clear hi hin
              rcases Nat.eq_zero_or_pos n with hn00 | hn00
              · subst hn00
                have QE := Shut.mk (QE.out L HINV.out)
                go_wp2_with (fail)
                refine (del_l HLW.out HS.out (by decide) 17).mono ?_
                rintro x wu ⟨rfl, hst⟩
                rw [QE.out] at hst ⊢
                obtain ⟨SU, hl, ho, hf⟩ := hst
                have HLU := Shut.mk hl
                clear hl ho hf
                go_wp2_with (fail)
                refine (is_any E 107 107 wu (HS.out.below HLU.out.bel) (.inr (by decide))).mono ?_
                rintro x wv ⟨rfl, hb⟩
                have HBV := Shut.mk (HLU.out.bel.trans (hb.mono HLU.out.bel.size))
                clear hb
                go_wp2_with (fail)
                go_ret
                exact ⟨rfl, HBV.out⟩
              · obtain ⟨n1, hnn⟩ : ∃ n1, n = n1 + 1 := ⟨n - 1, by omega⟩
                have hN1 : 0 < (ordN L).length := by rw [← ordI_len, HLEN.out]; omega
                have hON := ordN_at (l := L) (i := 0) hN1
                obtain ⟨b5, o5, rfl, hc⟩ := (HR5.out.below HBW.out).el 0 (by omega)
                rw [ordI_at hN1] at hc
                obtain ⟨a0, ha0⟩ : ∃ a0, a0 = ((ordN L).getD 0 tu0).aid := ⟨_, rfl⟩
                rw [← ha0] at hc
                have HC0 := Shut.mk (show wr.cell? ⟨b5, o5, none⟩ = some (.int .i64 (a0 : Int)) from hc)
                have hdel := del_on HINV.out hON.1 hON.2
                rw [← ha0] at hdel
                have HINV2 := Shut.mk (inv_del HINV.out (a0 : Int))
                have QD := Shut.mk (show delT L (a0 : Int) = ((delT L (a0 : Int)).1, 0) by
                  have h : hasT L (a0 : Int) = true := has_iff.2 ⟨_, hON.1, by rw [ha0]⟩
                  unfold delT
                  rw [if_pos h])
                obtain ⟨L2, hL2⟩ : ∃ L2, L2 = (delT L (a0 : Int)).1 := ⟨_, rfl⟩
                rw [← hL2] at QD hdel HINV2
                have QN := Shut.mk (show (ordI L2).length = n1 by have h1 := hdel.1; have h2 := HLEN.out; rw [ordI_len] at h2 ⊢; omega)
                have QH := Shut.mk (show decide ((a0 : Int) ∈ ordI L2) = false by
                  refine decide_eq_false fun h => ?_
                  obtain ⟨t, h1, h2, h3⟩ := ordI_mem.1 h
                  exact hdel.2 t (ordN_mem.2 ⟨h1, h2⟩) (by omega))
                have QE := Shut.mk (QE.out L2 HINV2.out)
                have y3 : IntKind.i64.wrap ((n : Int) - 1) = (n1 : Int) := by rw [hnn, IntWalk.i64_in _ ⟨by omega, by omega⟩]; omega
                have hn0 : (0 : Int) < (n : Int) := by omega
                have hn1 : (n1 : Int) ≤ 16 := by omega
                clear hN1 hON hc ha0 hdel hL2 hnn hn00
                go_wp2_with (fail)
                refine wp_region_D (fun w' => w'.cell? ⟨b5, o5, none⟩ = some (.int .i64 (a0 : Int))) 20 (by kernel_rfl) (show (World.drew wr).cell? ⟨b5, o5, none⟩ = some (.int .i64 (a0 : Int)) from HC0.out) (fun hHeld hC => ?_)
                refine dP 0 hC hHeld ?_; clear hC; intro hC
                refine dP 1 hC hHeld ?_; clear hC; intro hC
                refine dP 2 hC hHeld ?_; clear hC; intro hC
                refine dT 3 hC hHeld (fun w hSw => hSw) ?_; clear hC; intro hC
                refine wpAnyD_one (i := 4) (by kernel_rfl) rfl hC (fun K hK => ?_)
                clear hC
                go_simp
                refine (del_l (HLW.out.quiet (Below.refl _ _).drew) HS.out (by decide) (a0 : Int)).mono ?_
                rintro e' wd1 ⟨rfl, hst⟩
                rw [QD.out] at hst ⊢
                obtain ⟨S6, hl6, ho6, hf6⟩ := hst
                rw [errV_zero]
                have HL6 := Shut.mk hl6
                clear hl6 hf6
                have hHeld2 := (ho6.cell hHeld (fun e => HQ5.out _ rfl e))
                clear ho6
                clear hHeld
                have hHeld := hHeld2
                clear hHeld2
                refine hK.out _ _ (fun _ => hHeld) (fun hC => ?_)
                clear hK K
                try simp only [Act.put, List.getElem_toArray, List.getElem_cons_zero, List.getElem_cons_succ, List.setIfInBounds_toArray, List.set_cons_zero, List.set_cons_succ]
                refine dP 5 hC hHeld ?_; clear hC; intro hC
                refine dP 6 hC hHeld ?_; clear hC; intro hC
                refine dP 7 hC hHeld ?_; clear hC; intro hC
                refine dP 10 hC hHeld ?_; clear hC; intro hC
                refine dP 11 hC hHeld ?_; clear hC; intro hC
                refine wpAnyD_one (i := 8) (by kernel_rfl) rfl hC (fun K hK => ?_)
                clear hC
                go_simp
                refine (order_q HL6.out).mono ?_
                rintro e' wd2 ⟨A7, c7, rfl, hr7, hp7, hl7, hb7⟩
                rw [QN.out] at hr7 ⊢
                have HL7 := Shut.mk hl7
                clear hr7 hp7 hl7
                have hHeld2 := (below_at hb7 hHeld)
                clear hb7
                clear hHeld
                have hHeld := hHeld2
                clear hHeld2
                refine hK.out _ _ (fun _ => hHeld) (fun hC => ?_)
                clear hK K
                try simp only [Act.put, List.getElem_toArray, List.getElem_cons_zero, List.getElem_cons_succ, List.setIfInBounds_toArray, List.set_cons_zero, List.set_cons_succ]
                refine dP 9 hC hHeld ?_; clear hC; intro hC
                refine dP 12 hC hHeld ?_; clear hC; intro hC
                refine dP 13 hC hHeld ?_; clear hC; intro hC
                refine dP 14 hC hHeld ?_; clear hC; intro hC
                refine dP 15 hC hHeld ?_; clear hC; intro hC
                refine dP 17 hC hHeld ?_; clear hC; intro hC
                refine dP 18 hC hHeld ?_; clear hC; intro hC
                refine dT 19 hC hHeld (fun w hSw => hSw) ?_; clear hC; intro hC
                refine wpAnyD_one (i := 16) (by kernel_rfl) rfl hC (fun K hK => ?_)
                clear hC
                go_simp
                refine (order_q HL7.out).mono ?_
                rintro e' wd3 ⟨A8, c8, rfl, hr8, hp8, hl8, hb8⟩
                rw [QN.out] at hr8 ⊢
                have HL8 := Shut.mk hl8
                have HR8 := Shut.mk hr8
                clear hr8 hp8 hl8
                have hHeld2 := (below_at hb8 hHeld)
                clear hb8
                clear hHeld
                have hHeld := hHeld2
                clear hHeld2
                refine hK.out _ _ (fun _ => hHeld) (fun hC => ?_)
                clear hK K
                try simp only [Act.put, List.getElem_toArray, List.getElem_cons_zero, List.getElem_cons_succ, List.setIfInBounds_toArray, List.set_cons_zero, List.set_cons_succ]
                refine wpAnyD_one (i := 20) (by kernel_rfl) rfl hC (fun K hK => ?_)
                clear hC
                go_simp
                refine (refHas_any A8 n1 c8 (ordI L2) (a0 : Int) _ HR8.out).mono ?_
                rintro e' wd4 ⟨rfl, rfl⟩
                rw [QH.out]
                refine hK.out _ _ (past (by kernel_rfl)) (fun hC => ?_)
                clear hK K
                try simp only [Act.put, List.getElem_toArray, List.getElem_cons_zero, List.getElem_cons_succ, List.setIfInBounds_toArray, List.set_cons_zero, List.set_cons_succ]
                refine dQ 21 hC ?_; clear hC; intro hC
                refine wpAnyD_done (by kernel_rfl) ?_ _
                try simp only [Act.put, List.getElem_toArray, List.getElem_cons_zero, List.getElem_cons_succ, List.setIfInBounds_toArray, List.set_cons_zero, List.set_cons_succ]
                clear hC hHeld
                go_wp2_with (fail)
                refine (del_l HL8.out HS.out (by decide) 17).mono ?_
                rintro x wu ⟨rfl, hst⟩
                rw [QE.out] at hst ⊢
                obtain ⟨SU, hl, ho, hf⟩ := hst
                have HLU := Shut.mk hl
                clear hl ho hf
                go_wp2_with (fail)
                refine (is_any E 107 107 wu (HS.out.below HLU.out.bel) (.inr (by decide))).mono ?_
                rintro x wv ⟨rfl, hb⟩
                have HBV := Shut.mk (HLU.out.bel.trans (hb.mono HLU.out.bel.size))
                clear hb
                go_wp2_with (fail)
                go_ret
                exact ⟨rfl, HBV.out⟩

end Go.Proofs.YtkmblmnffnhpmaaDoor.schedOrder
