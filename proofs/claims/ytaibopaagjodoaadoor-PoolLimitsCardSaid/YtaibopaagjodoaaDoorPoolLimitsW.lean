/-
  The walk of muezzin/muezzinlaw14.PoolLimits: the Go text returns true.
-/
import Derived.Test.YtaibopaagjodoaaDoorPoolY
import Derived.Test.YtaibopaagjodoaaDoorOpenDo
import Derived.Test.YtaibopaagjodoaaDoorPoolH
import Derived.Test.YtaibopaagjodoaaDoorErrP
import Derived.Deep.CutRange
import Derived.WalkKit
import Derived.ProofKit
import Derived.Below
namespace Go.Proofs.YtaibopaagjodoaaDoor.poolLimits
open Go.ChangeShapes Go.WideShapes Go.ChangeAt Go.RowKit Go.Deep
set_option linter.unusedVariables false
set_option linter.unusedSimpArgs false


open Go.Proofs.YtaibopaagjodoaaDoor
def hdL (mp mb : Nat) : Hd := ⟨7#32, 50, 1000, (mp : Int), (mb : Int)⟩
theorem lim_put {n i k : Nat} {mp mb : Int} {sd : BitVec 32} {M M' : Nat → Qu} {D ds : List Pk} {S : List Bool} {p : Pk} (hk : k < 128) (h : LimI n i (allP M 128) D S) (hp : p.id = (i : Int) + 1) (hR : Shr mp mb (updF M k (putQ (bkQ sd) (M k) p)) ds M') :
    LimI n (i + 1) (ds ++ allP M' 128) D S ∧ ((allP M' 128).length : Int) ≤ mp ∧ bytesF (allP M' 128) ≤ mb :=
  ⟨(h.new hp).perm ((allP_put (bkQ_lt sd) M hk p).symm.trans (shr_perm hR).1), (shr_perm hR).2⟩

/-! ### THE WALK -/
set_option maxRecDepth 100000 in
set_option maxHeartbeats 8000000 in
theorem walk (n0 : Int) (n1 : Int) (a2 : Option Addr) (cap2 : Nat) (l2 : List Dop) (w : World) (E : Nat → Addr) (hS : Sent w E [103]) (w0 : (Lit.int .i64 n0).wf = true) (w1 : (Lit.int .i64 n1).wf = true) (w2 : RowDo (fun k => k < w.heap.size) w a2 l2.length l2 ∧ l2.length ≤ cap2 ∧ ∀ d ∈ l2, okDo d) :
    Calls Tryd.prog 3 #[.int .i64 n0, .int .i64 n1, .slice a2 l2.length cap2] w fun e w' => e = .returned (.bool true) ∧ Below w.heap.size w w' := by
  obtain ⟨hr2, hc2, hok⟩ := w2
  obtain ⟨n, hn⟩ : ∃ n : Nat, n = l2.length := ⟨_, rfl⟩
  have HN := Shut.mk hn
  have HOK := Shut.mk hok
  have HR := Shut.mk hr2
  have Wm := Shut.mk w0
  have Wq := Shut.mk w1
  obtain ⟨bi, hbi, hzb, hyb, hxb⟩ := info_parts' bool_info
  rw [← hn]
  clear w0 w1 hr2 hc2 hok hn hS
  go_enter Tryd.func3, Tryd.ntmps3
  go_wp2_with (fail)
  refine (first_p_any w).mono ?_
  rintro e wa ⟨rfl, hBa⟩
  have HBa := Shut.mk hBa
  clear hBa
  go_wp2_with (fail)
  refine (number_any n0 20 _ Wm.out (by decide) (by decide)).mono ?_
  rintro e wn ⟨rfl, rfl⟩
  have hm0 := nmod_lo n0 20 (by decide)
  have hm1 := nmod_hi n0 20 (by decide)
  obtain ⟨m, hnm⟩ := Int.eq_ofNat_of_zero_le hm0
  rw [hnm] at hm1 ⊢
  clear hm0 hnm
  have hm : m < 20 := by omega
  clear hm1
  go_wp2_with (fail)
  refine (number_any n1 2000 _ Wq.out (by decide) (by decide)).mono ?_
  rintro e wn ⟨rfl, rfl⟩
  have hm0 := nmod_lo n1 2000 (by decide)
  have hm1 := nmod_hi n1 2000 (by decide)
  obtain ⟨q, hnm⟩ := Int.eq_ofNat_of_zero_le hm0
  rw [hnm] at hm1 ⊢
  clear hm0 hnm
  have hq : q < 2000 := by omega
  clear hm1
  rcases Nat.lt_or_ge 60 n with hN | hN
  · have hN' : (60 : Int) < (n : Int) := by omega
    go_wp2_with (fail)
    go_ret
    exact ⟨rfl, HBa.out⟩
  have hN1 : ¬ (60 : Int) < (n : Int) := by omega
  have hN2 : ¬ 60 < n := by omega
  go_wp2_with (fail)
  obtain ⟨mp, hmp⟩ : ∃ mp : Nat, mp = m + 1 := ⟨_, rfl⟩
  obtain ⟨mb, hmb⟩ : ∃ mb : Nat, mb = q + 1 := ⟨_, rfl⟩
  rw [show (m : Int) + 1 = (mp : Int) by omega, show (q : Int) + 1 = (mb : Int) by omega]
  have hmp20 : 1 ≤ mp ∧ mp ≤ 20 := by omega
  have hmb20 : 1 ≤ mb ∧ mb ≤ 2000 := by omega
  clear hmp hmb hm hq
  refine (new_p_any (hdL mp mb) wa (show (1 : Int) ≤ (mp : Int) ∧ (mp : Int) ≤ 512 by omega) (show (1 : Int) ≤ (mb : Int) ∧ (mb : Int) ≤ 1048576 by omega)).mono ?_
  rintro e wb ⟨rfl, hP, hB⟩
  have hpw := PW.start HBa.out rfl hP hB
  obtain ⟨g, hg⟩ : ∃ g, g = wa.heap.size := ⟨_, rfl⟩
  rw [← hg] at hpw ⊢
  have HP1 := Shut.mk hpw
  have HMP := Shut.mk (show 1 ≤ (hdL mp mb).mp ∧ 1 ≤ (hdL mp mb).mb from ⟨show (1 : Int) ≤ (mp : Int) by omega, show (1 : Int) ≤ (mb : Int) by omega⟩)
  clear hP hB hpw hg hN1 hN2
  go_wp2_with (at_make; refine wpList_make_full _ rfl _ _ 31 rfl wb.heap.size 4 bi (.bool false) 1 Tryd.underlying31 hbi hzb hyb _ _ _ _ (n + 1) rfl rfl (by omega) (by omega) (by rw [hxb]; omega) (by unfold maxLen; omega) (Nat.le_refl _) ?_; intro w4 hown1 hgrow1)
  have HB4 := Shut.mk ((Below.refl wb.heap.size wb).grown hgrow1 (Nat.le_refl _) (by simp))
  have HS0 := Shut.mk (made_rowT hown1)
  clear hown1 hgrow1
  have HGF := Shut.mk (show ∀ j, FootP g X0 j ∨ False → j ≠ wb.heap.size from fun j hj e => by
    rcases hj with hj | hj
    · have := HP1.out.is.lts hj; omega
    · exact hj)
  have HGW := Shut.mk (show w.heap.size ≤ wb.heap.size from HP1.out.bel.size)
  have HP4 := Shut.mk (HP1.out.quiet HB4.out)
  obtain ⟨gS, hgS⟩ : ∃ s, s = wb.heap.size := ⟨_, rfl⟩
  rw [← hgS] at HS0 HGF HGW ⊢
  clear hgS HP1 HB4
  go_wp2_with (fail)
  go_loopw [10, 12, 13] (fun fn fo fi wr => ∃ (i : Nat) (T : Nat → Prop) (X : Nat → Option Qs) (D : List Pk) (S : List Bool), i ≤ n ∧ fn = .int .i64 i ∧ fo = .int .i64 (D.length : Nat) ∧ fi = .int .i64 i ∧ PW w g (hdL mp mb) T wr X ∧ LimI n i (allP (mOf X) 128) D S ∧ wr.heap[gS]? = some (.cells (rowT S) 4 (0, 0)) ∧ (∀ j, FootP g X j ∨ T j → j ≠ gS) ∧ (allP (mOf X) 128).length ≤ 20) (fun _ _ fi _ => n - (intOf fi).toNat)
  case atStart => exact ⟨0, _, X0, [], _, Nat.zero_le _, rfl, rfl, rfl, HP4.out, by rw [mOf_X0, allP_M0]; exact lim_zero n, HS0.out, HGF.out, by rw [mOf_X0, allP_M0]; exact Nat.zero_le _⟩
  case round =>
    clear HP4 HS0 HGF
    obtain ⟨i, T, X, D, S, hi, rfl, rfl, rfl, hp, hli, hs, hng, hl20⟩ := hrel
    have HP := Shut.mk hp
    have HLI := Shut.mk hli
    have HS := Shut.mk hs
    have HNG := Shut.mk hng
    have HLEN := Shut.mk (show (allP (mOf X) 128).length ≤ 900 by omega)
    have HL20 := Shut.mk hl20
    clear hp hli hs hng hl20
    by_cases hin : i < n
    · have hin2 : (i : Int) < (n : Int) := by omega
      obtain ⟨b, off, aa, m, cc, rfl, hrg, hrb, hmc, htb⟩ := RowK.el (RowK.below HR.out HP.out.bel) i (by rw [← HN.out]; exact hin)
      have hdm : l2.getD i do00.1 ∈ l2 := by
        have e : l2.getD i do00.1 = l2[i]'(by rw [← HN.out]; exact hin) := by simp [List.getD, show i < l2.length by rw [← HN.out]; exact hin]
        rw [e]; exact List.getElem_mem _
      have hok := HOK.out _ hdm
      obtain ⟨dd, hdd⟩ : ∃ d, d = l2.getD i do00.1 := ⟨_, rfl⟩
      rw [← hdd] at hrg hrb hok
      obtain ⟨⟨-, oka, okb, -⟩, okp⟩ := hok
      have HC1 := Shut.mk (show wr.cell? ⟨b, off + i * 9 + 4 + 1, none⟩ = some (.int .u32 dd.p.flow) from hrg 5 _ rfl)
      have HC2 := Shut.mk (show wr.cell? ⟨b, off + i * 9 + 2, none⟩ = some (.int .i64 dd.b) from hrg 2 _ rfl)
      have HC3a := Shut.mk (show wr.cell? ⟨b, off + i * 9 + 1, none⟩ = some (.int .i64 dd.a) from hrg 1 _ rfl)
      have hc4 : wr.cell? ⟨b, off + i * 9 + 4 + 4, none⟩ = some (.slice aa m cc) := hrg 8 _ rfl
      have HC4 := Shut.mk hc4
      have HRB := Shut.mk (show RowB .u8 wr aa m dd.p.body from hrb)
      have HDA := Shut.mk oka
      have HDB := Shut.mk okb
      have HFL := Shut.mk (show 0 ≤ dd.p.flow ∧ dd.p.flow ≤ 4294967295 from by have := okp.2.1; simpa [Lit.wf, IntKind.min, IntKind.max, IntKind.signed, IntKind.bits] using this)
      have HNBB := Shut.mk (show 0 < m → ∀ p, aa = some p → ¬ FootP g X p.block from fun hm p hp e => by
        have h1 := HP.out.new _ e
        obtain ⟨b', off', aa', m', cc', e1, hrg', hrb', hmc', ht'⟩ := RowK.el HR.out i (by rw [← HN.out]; exact hin)
        have h8 : w.cell? ⟨b', off' + i * 9 + 8, none⟩ = some (.slice aa' m' cc') := hrg' 8 _ rfl
        have h9 := below_at HP.out.bel h8
        have h10 : wr.cell? ⟨b, off + i * 9 + 8, none⟩ = some (.slice aa m cc) := hc4
        simp only [Option.some.injEq, Addr.mk.injEq, and_true] at e1
        obtain ⟨rfl, rfl⟩ := e1
        rw [h9] at h10
        simp only [Option.some.injEq, Value.slice.injEq] at h10
        obtain ⟨rfl, rfl, rfl⟩ := h10
        have := ht' hm p hp
        omega)
      obtain ⟨p, hpp⟩ : ∃ p, p = dd.p := ⟨_, rfl⟩
      obtain ⟨da, hda⟩ : ∃ d, d = dd.a := ⟨_, rfl⟩
      obtain ⟨db, hdb⟩ : ∃ d, d = dd.b := ⟨_, rfl⟩
      rw [← hpp] at HC1 HRB HFL
      rw [← hda] at HC3a HDA
      rw [← hdb] at HC2 HDB
      clear hrg hrb hmc htb hdm hdd oka okb okp hpp hda hdb
      rcases Nat.lt_or_ge 300 m with hm | hm
      · have hm' : (300 : Int) < (m : Int) := by omega
        go_wp2_with (fail)
        go_ret
        exact ⟨rfl, HP.out.bel⟩
      · have hm' : ¬ (300 : Int) < (m : Int) := by omega
        have HM := Shut.mk (show m ≤ 1000000 by omega)
        have HADD := Shut.mk (show IntKind.i64.wrap ((i : Int) + 1) = (i : Int) + 1 from IntWalk.i64_in _ ⟨by omega, by omega⟩)
        have hm0 := nmod_lo db 8 (by decide)
        have hm1 := nmod_hi db 8 (by decide)
        obtain ⟨t, ht⟩ := Int.eq_ofNat_of_zero_le hm0
        have HTE := Shut.mk ht
        have ht8 : t < 8 := by omega
        clear hm0 hm1 ht
        have hm0 := nmod_lo da 16 (by decide)
        have hm1 := nmod_hi da 16 (by decide)
        obtain ⟨a, ha⟩ := Int.eq_ofNat_of_zero_le hm0
        have HAE := Shut.mk ha
        have ha16 : a < 16 := by omega
        have HAD2 := Shut.mk (show IntKind.i64.wrap ((a : Int) + 1) = (a : Int) + 1 from IntWalk.i64_in _ ⟨by omega, by omega⟩)
        clear hm0 hm1 ha
        go_upto_region 19 with (fail)
        clear hc4 hm'
        go_cut [14] from 50 to 161 (fun u14 wx => ∃ s14 : Nat, u14 = .pointer (some ⟨s14, 0, none⟩) ∧ wx.heap[s14]? = some (.cells ([] ++ [Value.int .i64 ((i : Int) + 1), .int .u32 p.flow, .int .i64 (t : Nat), .int .i64 0, Value.slice aa m cc] ++ []).toArray 34 (0, 0)) ∧ Below wr.heap.size wr wx)
        case first =>
          obtain ⟨w5, hw5⟩ : ∃ wq, wq = World.drew wr := ⟨_, rfl⟩
          have HWw5 := Shut.mk hw5
          have HDw5 := Shut.mk (show Below wr.heap.size wr w5 by rw [hw5]; exact (Below.refl _ _).drew)
          clear hw5
          refine wp_region_D (fun w' => Below w5.heap.size w5 w') 22 (by kernel_rfl) (show Below w5.heap.size w5 (World.drew wr) by rw [HWw5.out]; exact Below.refl _ _) (fun hHeld hC => ?_)
          rw [← HWw5.out] at hHeld ⊢
          refine wpAnyD_pure (i := 0) (v := ?_) rfl hC (by kernel_rfl) (by kernel_rfl) (by kernel_rfl) (by decide) (fun _ _ _ h => h) (Or.inl ⟨by rfl, ?_⟩) (fun _ => hHeld) ?_
          rotate_left
          · intro w hSw
            clear hSw
            go_simp
            try with_reducible rfl
          try simp only [Act.put, List.getElem_toArray, List.getElem_cons_zero, List.getElem_cons_succ, List.setIfInBounds_toArray, List.set_cons_zero, List.set_cons_succ]
          clear hC
          intro hC
          refine wpAnyD_pure (i := 1) (v := ?_) rfl hC (by kernel_rfl) (by kernel_rfl) (by kernel_rfl) (by decide) (fun _ _ _ h => h) (Or.inl ⟨by rfl, ?_⟩) (fun _ => hHeld) ?_
          rotate_left
          · intro w hSw
            have hwr := HADD.out
            clear hSw
            go_simp
            try with_reducible rfl
          try simp only [Act.put, List.getElem_toArray, List.getElem_cons_zero, List.getElem_cons_succ, List.setIfInBounds_toArray, List.set_cons_zero, List.set_cons_succ]
          clear hC
          intro hC
          refine wpAnyD_pure (i := 2) (v := ?_) rfl hC (by kernel_rfl) (by kernel_rfl) (by kernel_rfl) (by decide) (fun _ _ _ h => h) (Or.inl ⟨by rfl, ?_⟩) (fun _ => hHeld) ?_
          rotate_left
          · intro w hSw
            clear hSw
            go_simp
            try with_reducible rfl
          try simp only [Act.put, List.getElem_toArray, List.getElem_cons_zero, List.getElem_cons_succ, List.setIfInBounds_toArray, List.set_cons_zero, List.set_cons_succ]
          clear hC
          intro hC
          refine wpAnyD_pure (i := 3) (v := ?_) rfl hC (by kernel_rfl) (by kernel_rfl) (by kernel_rfl) (by decide) (fun _ _ _ h => h) (Or.inl ⟨by rfl, ?_⟩) (fun _ => hHeld) ?_
          rotate_left
          · intro w hSw
            clear hSw
            go_simp
            try with_reducible rfl
          try simp only [Act.put, List.getElem_toArray, List.getElem_cons_zero, List.getElem_cons_succ, List.setIfInBounds_toArray, List.set_cons_zero, List.set_cons_succ]
          clear hC
          intro hC
          refine wpAnyD_pure (i := 4) (v := ?_) rfl hC (by kernel_rfl) (by kernel_rfl) (by kernel_rfl) (by decide) (fun _ _ _ h => h) (Or.inl ⟨by rfl, ?_⟩) (fun _ => hHeld) ?_
          rotate_left
          · intro w hSw
            clear hSw
            go_simp
            try with_reducible rfl
          try simp only [Act.put, List.getElem_toArray, List.getElem_cons_zero, List.getElem_cons_succ, List.setIfInBounds_toArray, List.set_cons_zero, List.set_cons_succ]
          clear hC
          intro hC
          refine wpAnyD_pure (i := 5) (v := ?_) rfl hC (by kernel_rfl) (by kernel_rfl) (by kernel_rfl) (by decide) (fun _ _ _ h => h) (Or.inl ⟨by rfl, ?_⟩) (fun _ => hHeld) ?_
          rotate_left
          · intro w hSw
            clear hSw
            go_simp
            try with_reducible rfl
          try simp only [Act.put, List.getElem_toArray, List.getElem_cons_zero, List.getElem_cons_succ, List.setIfInBounds_toArray, List.set_cons_zero, List.set_cons_succ]
          clear hC
          intro hC
          refine wpAnyD_pure (i := 6) (v := ?_) rfl hC (by kernel_rfl) (by kernel_rfl) (by kernel_rfl) (by decide) (fun _ _ _ h => h) (Or.inl ⟨by rfl, ?_⟩) (fun _ => hHeld) ?_
          rotate_left
          · intro w hSw
            clear hSw
            go_simp
            try with_reducible rfl
          try simp only [Act.put, List.getElem_toArray, List.getElem_cons_zero, List.getElem_cons_succ, List.setIfInBounds_toArray, List.set_cons_zero, List.set_cons_succ]
          clear hC
          intro hC
          refine wpAnyD_take (i := 7) (v := ?_) 40 rfl (by kernel_rfl) hC (by kernel_rfl) (by kernel_rfl) (by kernel_rfl) (by decide) (fun _ _ _ h => h) (Or.inl ⟨by rfl, ?_⟩) (fun _ => hHeld) ?_
          rotate_left
          · intro w hSw
            have hz := (show w.cell? ⟨b, off + i * 9 + 4 + 1, none⟩ = some (.int .u32 p.flow) from below_at hSw (below_at HDw5.out HC1.out))
            clear hSw
            go_simp
            try with_reducible rfl
          try simp only [Act.put, List.getElem_toArray, List.getElem_cons_zero, List.getElem_cons_succ, List.setIfInBounds_toArray, List.set_cons_zero, List.set_cons_succ]
          clear hC
          intro hC
          refine wpAnyD_pure (i := 8) (v := ?_) rfl hC (by kernel_rfl) (by kernel_rfl) (by kernel_rfl) (by decide) (fun _ _ _ h => h) (Or.inl ⟨by rfl, ?_⟩) (fun _ => hHeld) ?_
          rotate_left
          · intro w hSw
            clear hSw
            go_simp
            try with_reducible rfl
          try simp only [Act.put, List.getElem_toArray, List.getElem_cons_zero, List.getElem_cons_succ, List.setIfInBounds_toArray, List.set_cons_zero, List.set_cons_succ]
          clear hC
          intro hC
          refine wpAnyD_pure (i := 9) (v := ?_) rfl hC (by kernel_rfl) (by kernel_rfl) (by kernel_rfl) (by decide) (fun _ _ _ h => h) (Or.inl ⟨by rfl, ?_⟩) (fun _ => hHeld) ?_
          rotate_left
          · intro w hSw
            clear hSw
            go_simp
            try with_reducible rfl
          try simp only [Act.put, List.getElem_toArray, List.getElem_cons_zero, List.getElem_cons_succ, List.setIfInBounds_toArray, List.set_cons_zero, List.set_cons_succ]
          clear hC
          intro hC
          refine wpAnyD_pure (i := 10) (v := ?_) rfl hC (by kernel_rfl) (by kernel_rfl) (by kernel_rfl) (by decide) (fun _ _ _ h => h) (Or.inl ⟨by rfl, ?_⟩) (fun _ => hHeld) ?_
          rotate_left
          · intro w hSw
            clear hSw
            go_simp
            try with_reducible rfl
          try simp only [Act.put, List.getElem_toArray, List.getElem_cons_zero, List.getElem_cons_succ, List.setIfInBounds_toArray, List.set_cons_zero, List.set_cons_succ]
          clear hC
          intro hC
          refine wpAnyD_pure (i := 11) (v := ?_) rfl hC (by kernel_rfl) (by kernel_rfl) (by kernel_rfl) (by decide) (fun _ _ _ h => h) (Or.inl ⟨by rfl, ?_⟩) (fun _ => hHeld) ?_
          rotate_left
          · intro w hSw
            clear hSw
            go_simp
            try with_reducible rfl
          try simp only [Act.put, List.getElem_toArray, List.getElem_cons_zero, List.getElem_cons_succ, List.setIfInBounds_toArray, List.set_cons_zero, List.set_cons_succ]
          clear hC
          intro hC
          refine wpAnyD_take (i := 12) (v := ?_) 40 rfl (by kernel_rfl) hC (by kernel_rfl) (by kernel_rfl) (by kernel_rfl) (by decide) (fun _ _ _ h => h) (Or.inl ⟨by rfl, ?_⟩) (fun _ => hHeld) ?_
          rotate_left
          · intro w hSw
            have hz := (show w.cell? ⟨b, off + i * 9 + 2, none⟩ = some (.int .i64 db) from below_at hSw (below_at HDw5.out HC2.out))
            clear hSw
            go_simp
            try with_reducible rfl
          try simp only [Act.put, List.getElem_toArray, List.getElem_cons_zero, List.getElem_cons_succ, List.setIfInBounds_toArray, List.set_cons_zero, List.set_cons_succ]
          clear hC
          intro hC
          refine wpAnyD_pure (i := 14) (v := ?_) rfl hC (by kernel_rfl) (by kernel_rfl) (by kernel_rfl) (by decide) (fun _ _ _ h => h) (Or.inl ⟨by rfl, ?_⟩) (fun _ => hHeld) ?_
          rotate_left
          · intro w hSw
            clear hSw
            go_simp
            try with_reducible rfl
          try simp only [Act.put, List.getElem_toArray, List.getElem_cons_zero, List.getElem_cons_succ, List.setIfInBounds_toArray, List.set_cons_zero, List.set_cons_succ]
          clear hC
          intro hC
          refine wpAnyD_pure (i := 15) (v := ?_) rfl hC (by kernel_rfl) (by kernel_rfl) (by kernel_rfl) (by decide) (fun _ _ _ h => h) (Or.inl ⟨by rfl, ?_⟩) (fun _ => hHeld) ?_
          rotate_left
          · intro w hSw
            clear hSw
            go_simp
            try with_reducible rfl
          try simp only [Act.put, List.getElem_toArray, List.getElem_cons_zero, List.getElem_cons_succ, List.setIfInBounds_toArray, List.set_cons_zero, List.set_cons_succ]
          clear hC
          intro hC
          refine wpAnyD_pure (i := 16) (v := ?_) rfl hC (by kernel_rfl) (by kernel_rfl) (by kernel_rfl) (by decide) (fun _ _ _ h => h) (Or.inl ⟨by rfl, ?_⟩) (fun _ => hHeld) ?_
          rotate_left
          · intro w hSw
            clear hSw
            go_simp
            try with_reducible rfl
          try simp only [Act.put, List.getElem_toArray, List.getElem_cons_zero, List.getElem_cons_succ, List.setIfInBounds_toArray, List.set_cons_zero, List.set_cons_succ]
          clear hC
          intro hC
          refine wpAnyD_pure (i := 17) (v := ?_) rfl hC (by kernel_rfl) (by kernel_rfl) (by kernel_rfl) (by decide) (fun _ _ _ h => h) (Or.inl ⟨by rfl, ?_⟩) (fun _ => hHeld) ?_
          rotate_left
          · intro w hSw
            clear hSw
            go_simp
            try with_reducible rfl
          try simp only [Act.put, List.getElem_toArray, List.getElem_cons_zero, List.getElem_cons_succ, List.setIfInBounds_toArray, List.set_cons_zero, List.set_cons_succ]
          clear hC
          intro hC
          refine wpAnyD_pure (i := 18) (v := ?_) rfl hC (by kernel_rfl) (by kernel_rfl) (by kernel_rfl) (by decide) (fun _ _ _ h => h) (Or.inl ⟨by rfl, ?_⟩) (fun _ => hHeld) ?_
          rotate_left
          · intro w hSw
            clear hSw
            go_simp
            try with_reducible rfl
          try simp only [Act.put, List.getElem_toArray, List.getElem_cons_zero, List.getElem_cons_succ, List.setIfInBounds_toArray, List.set_cons_zero, List.set_cons_succ]
          clear hC
          intro hC
          refine wpAnyD_take (i := 19) (v := ?_) 40 rfl (by kernel_rfl) hC (by kernel_rfl) (by kernel_rfl) (by kernel_rfl) (by decide) (fun _ _ _ h => h) (Or.inl ⟨by rfl, ?_⟩) (fun _ => hHeld) ?_
          rotate_left
          · intro w hSw
            have hz := (show w.cell? ⟨b, off + i * 9 + 4 + 4, none⟩ = some (.slice aa m cc) from below_at hSw (below_at HDw5.out HC4.out))
            clear hSw
            go_simp
            try with_reducible rfl
          try simp only [Act.put, List.getElem_toArray, List.getElem_cons_zero, List.getElem_cons_succ, List.setIfInBounds_toArray, List.set_cons_zero, List.set_cons_succ]
          clear hC
          intro hC
          refine wpAnyD_all (rs := [13, 21]) (by kernel_rfl) (by simp) hC (all_cons ⟨_, rfl, fun K hK => ?_⟩ (all_cons ⟨_, rfl, fun K hK => ?_⟩ all_nil))
          · clear hC
            go_simp
            refine (number_any db 8 w5 HDB.out (by decide) (by decide)).mono ?_
            rintro e' wn ⟨rfl, rfl⟩
            rw [HTE.out]
            have hHeld2 := hHeld
            clear hHeld
            have hHeld := hHeld2
            clear hHeld2
            refine hK.out _ _ (fun _ => hHeld) (fun hC => ?_)
            clear hK K
            try simp only [Act.put, List.getElem_toArray, List.getElem_cons_zero, List.getElem_cons_succ, List.setIfInBounds_toArray, List.set_cons_zero, List.set_cons_succ]
            refine wpAnyD_pure (i := 20) (v := ?_) rfl hC (by kernel_rfl) (by kernel_rfl) (by kernel_rfl) (by decide) (fun _ _ _ h => h) (Or.inl ⟨by rfl, ?_⟩) (fun _ => hHeld) ?_
            rotate_left
            · intro w hSw
              clear hSw
              go_simp
              try with_reducible rfl
            try simp only [Act.put, List.getElem_toArray, List.getElem_cons_zero, List.getElem_cons_succ, List.setIfInBounds_toArray, List.set_cons_zero, List.set_cons_succ]
            clear hC
            intro hC
            refine wpAnyD_one (i := 21) (by kernel_rfl) rfl hC (fun K hK => ?_)
            clear hC
            go_simp
            have HAwv1 := Shut.mk ((Below.refl w5.heap.size w5).alloc (Nat.le_refl _) (Obj.cells #[Value.int .i64 0, .int .u32 0, .int .i64 0, .int .i64 0, Value.slice none 0 0] 34 (0, 0)))
            have HXwv1 := Shut.mk (MapKept.heap_alloc w5 (Obj.cells #[Value.int .i64 0, .int .u32 0, .int .i64 0, .int .i64 0, Value.slice none 0 0] 34 (0, 0))).1
            generalize World.alloc w5 _ = wv1 at *
            obtain ⟨s14, hs14⟩ : ∃ s, s = w5.heap.size := ⟨_, rfl⟩
            have HS14 := Shut.mk (show w5.heap.size ≤ s14 by rw [hs14]; exact hHeld.size)
            rw [← hs14] at HXwv1 ⊢
            clear hs14
            have hHeld2 := hHeld.trans (HAwv1.out.mono hHeld.size)
            clear hHeld
            have hHeld := hHeld2
            clear hHeld2
            refine hK.out _ _ (fun _ => hHeld) (fun hC => ?_)
            clear hK K
            try simp only [Act.put, List.getElem_toArray, List.getElem_cons_zero, List.getElem_cons_succ, List.setIfInBounds_toArray, List.set_cons_zero, List.set_cons_succ]
            refine wpAnyD_one (i := 22) (by kernel_rfl) rfl hC (fun K hK => ?_)
            clear hC
            refine step_store_part rfl 34 (.tmp 14) (.tmp 85) rfl s14 0 (.agg ([Value.int .i64 ((i : Int) + 1), .int .u32 p.flow, .int .i64 (t : Nat), .int .i64 0, Value.slice aa m cc]).toArray) rfl rfl 34 [] [Value.int .i64 0, .int .u32 0, .int .i64 0, .int .i64 0, Value.slice none 0 0] [Value.int .i64 ((i : Int) + 1), .int .u32 p.flow, .int .i64 (t : Nat), .int .i64 0, Value.slice aa m cc] [] HXwv1.out rfl rfl rfl size5 (by intro u hu; simp at hu; rcases hu with rfl | rfl | rfl | rfl | rfl <;> rfl) ?_
            have HXN := Shut.mk (setRow_heap wv1 s14 _ ([] ++ [Value.int .i64 ((i : Int) + 1), .int .u32 p.flow, .int .i64 (t : Nat), .int .i64 0, Value.slice aa m cc] ++ []).toArray _ (0, 0) HXwv1.out)
            have HBN := Shut.mk (below_setRow hHeld HS14.out ([] ++ [Value.int .i64 ((i : Int) + 1), .int .u32 p.flow, .int .i64 (t : Nat), .int .i64 0, Value.slice aa m cc] ++ []).toArray)
            generalize hq : World.setRow wv1 s14 _ = wv2 at *
            clear hq
            obtain ⟨w6, hw6⟩ : ∃ w6, w6 = wv2 := ⟨_, rfl⟩
            rw [← hw6] at HXN HBN ⊢
            clear hw6
            refine hK.out _ _ (past (by kernel_rfl)) (fun hC => ?_)
            clear hK K
            try simp only [Act.put, List.getElem_toArray, List.getElem_cons_zero, List.getElem_cons_succ, List.setIfInBounds_toArray, List.set_cons_zero, List.set_cons_succ]
            refine wpAnyD_done (by kernel_rfl) ?_ _
            try simp only [Act.put, List.getElem_toArray, List.getElem_cons_zero, List.getElem_cons_succ, List.setIfInBounds_toArray, List.set_cons_zero, List.set_cons_succ]
            go_wp2_with (fail)
            go_meet
            case rel => exact ⟨s14, rfl, HXN.out, HDw5.out.trans (HBN.out.mono HDw5.out.size)⟩
          · clear hC
            go_simp
            have HAwv1 := Shut.mk ((Below.refl w5.heap.size w5).alloc (Nat.le_refl _) (Obj.cells #[Value.int .i64 0, .int .u32 0, .int .i64 0, .int .i64 0, Value.slice none 0 0] 34 (0, 0)))
            have HXwv1 := Shut.mk (MapKept.heap_alloc w5 (Obj.cells #[Value.int .i64 0, .int .u32 0, .int .i64 0, .int .i64 0, Value.slice none 0 0] 34 (0, 0))).1
            generalize World.alloc w5 _ = wv1 at *
            obtain ⟨s14, hs14⟩ : ∃ s, s = w5.heap.size := ⟨_, rfl⟩
            have HS14 := Shut.mk (show w5.heap.size ≤ s14 by rw [hs14]; exact hHeld.size)
            rw [← hs14] at HXwv1 ⊢
            clear hs14
            have hHeld2 := hHeld.trans (HAwv1.out.mono hHeld.size)
            clear hHeld
            have hHeld := hHeld2
            clear hHeld2
            refine hK.out _ _ (fun _ => hHeld) (fun hC => ?_)
            clear hK K
            try simp only [Act.put, List.getElem_toArray, List.getElem_cons_zero, List.getElem_cons_succ, List.setIfInBounds_toArray, List.set_cons_zero, List.set_cons_succ]
            refine wpAnyD_one (i := 13) (by kernel_rfl) rfl hC (fun K hK => ?_)
            clear hC
            go_simp
            refine (number_any db 8 wv1 HDB.out (by decide) (by decide)).mono ?_
            rintro e' wn ⟨rfl, rfl⟩
            rw [HTE.out]
            have hHeld2 := hHeld
            clear hHeld
            have hHeld := hHeld2
            clear hHeld2
            refine hK.out _ _ (fun _ => hHeld) (fun hC => ?_)
            clear hK K
            try simp only [Act.put, List.getElem_toArray, List.getElem_cons_zero, List.getElem_cons_succ, List.setIfInBounds_toArray, List.set_cons_zero, List.set_cons_succ]
            refine wpAnyD_pure (i := 20) (v := ?_) rfl hC (by kernel_rfl) (by kernel_rfl) (by kernel_rfl) (by decide) (fun _ _ _ h => h) (Or.inl ⟨by rfl, ?_⟩) (fun _ => hHeld) ?_
            rotate_left
            · intro w hSw
              clear hSw
              go_simp
              try with_reducible rfl
            try simp only [Act.put, List.getElem_toArray, List.getElem_cons_zero, List.getElem_cons_succ, List.setIfInBounds_toArray, List.set_cons_zero, List.set_cons_succ]
            clear hC
            intro hC
            refine wpAnyD_one (i := 22) (by kernel_rfl) rfl hC (fun K hK => ?_)
            clear hC
            refine step_store_part rfl 34 (.tmp 14) (.tmp 85) rfl s14 0 (.agg ([Value.int .i64 ((i : Int) + 1), .int .u32 p.flow, .int .i64 (t : Nat), .int .i64 0, Value.slice aa m cc]).toArray) rfl rfl 34 [] [Value.int .i64 0, .int .u32 0, .int .i64 0, .int .i64 0, Value.slice none 0 0] [Value.int .i64 ((i : Int) + 1), .int .u32 p.flow, .int .i64 (t : Nat), .int .i64 0, Value.slice aa m cc] [] HXwv1.out rfl rfl rfl size5 (by intro u hu; simp at hu; rcases hu with rfl | rfl | rfl | rfl | rfl <;> rfl) ?_
            have HXN := Shut.mk (setRow_heap wv1 s14 _ ([] ++ [Value.int .i64 ((i : Int) + 1), .int .u32 p.flow, .int .i64 (t : Nat), .int .i64 0, Value.slice aa m cc] ++ []).toArray _ (0, 0) HXwv1.out)
            have HBN := Shut.mk (below_setRow hHeld HS14.out ([] ++ [Value.int .i64 ((i : Int) + 1), .int .u32 p.flow, .int .i64 (t : Nat), .int .i64 0, Value.slice aa m cc] ++ []).toArray)
            generalize hq : World.setRow wv1 s14 _ = wv2 at *
            clear hq
            obtain ⟨w6, hw6⟩ : ∃ w6, w6 = wv2 := ⟨_, rfl⟩
            rw [← hw6] at HXN HBN ⊢
            clear hw6
            refine hK.out _ _ (past (by kernel_rfl)) (fun hC => ?_)
            clear hK K
            try simp only [Act.put, List.getElem_toArray, List.getElem_cons_zero, List.getElem_cons_succ, List.setIfInBounds_toArray, List.set_cons_zero, List.set_cons_succ]
            refine wpAnyD_done (by kernel_rfl) ?_ _
            try simp only [Act.put, List.getElem_toArray, List.getElem_cons_zero, List.getElem_cons_succ, List.setIfInBounds_toArray, List.set_cons_zero, List.set_cons_succ]
            go_wp2_with (fail)
            go_meet
            case rel => exact ⟨s14, rfl, HXN.out, HDw5.out.trans (HBN.out.mono HDw5.out.size)⟩
        case rest =>
        obtain ⟨s14, rfl, hxn, hbn⟩ := hcut
        have HXN := Shut.mk hxn
        have HB6 := Shut.mk hbn
        obtain ⟨w6, hw6⟩ : ∃ w6, w6 = wc := ⟨_, rfl⟩
        rw [← hw6] at HXN HB6 ⊢
        clear hxn hbn hw6
        obtain ⟨w8, hw8⟩ : ∃ wq, wq = World.drew w6 := ⟨_, rfl⟩
        have HWw8 := Shut.mk hw8
        have HDw8 := Shut.mk (show Below w6.heap.size w6 w8 by rw [hw8]; exact (Below.refl _ _).drew)
        clear hw8
        have HB8 := Shut.mk (HB6.out.trans (HDw8.out.mono HB6.out.size))
        have HX8 := Shut.mk (show w8.heap[s14]? = some (.cells ([Value.int .i64 ((i : Int) + 1), .int .u32 p.flow, .int .i64 (t : Nat), .int .i64 0, Value.slice aa m cc]).toArray 34 (0, 0)) from (HDw8.out.block _ (lt_blk HXN.out)).trans HXN.out)
        have HC3 := Shut.mk (below_at HB8.out HC3a.out)
        have HP8 := Shut.mk (HP.out.quiet HB8.out)
        have HRB8 := Shut.mk (HRB.out.below HB8.out)
        have HS8 := Shut.mk ((HB8.out.block _ (lt_blk HS.out)).trans HS.out)
        go_wp2_with (fail)
        refine wp_region_D (fun w' => w8 = w') 9 (by kernel_rfl) HWw8.out (fun hHeld hC => ?_)
        rw [← HWw8.out] at hHeld ⊢
        refine wpAnyD_pure (i := 0) (v := ?_) rfl hC (by kernel_rfl) (by kernel_rfl) (by kernel_rfl) (by decide) (fun _ _ _ h => h) (Or.inl ⟨by rfl, ?_⟩) (fun _ => hHeld) ?_
        rotate_left
        · intro w hSw
          clear hSw
          go_simp
          try with_reducible rfl
        try simp only [Act.put, List.getElem_toArray, List.getElem_cons_zero, List.getElem_cons_succ, List.setIfInBounds_toArray, List.set_cons_zero, List.set_cons_succ]
        clear hC
        intro hC
        refine wpAnyD_pure (i := 1) (v := ?_) rfl hC (by kernel_rfl) (by kernel_rfl) (by kernel_rfl) (by decide) (fun _ _ _ h => h) (Or.inl ⟨by rfl, ?_⟩) (fun _ => hHeld) ?_
        rotate_left
        · intro w hSw
          clear hSw
          go_simp
          try with_reducible rfl
        try simp only [Act.put, List.getElem_toArray, List.getElem_cons_zero, List.getElem_cons_succ, List.setIfInBounds_toArray, List.set_cons_zero, List.set_cons_succ]
        clear hC
        intro hC
        refine wpAnyD_pure (i := 2) (v := ?_) rfl hC (by kernel_rfl) (by kernel_rfl) (by kernel_rfl) (by decide) (fun _ _ _ h => h) (Or.inl ⟨by rfl, ?_⟩) (fun _ => hHeld) ?_
        rotate_left
        · intro w hSw
          clear hSw
          go_simp
          try with_reducible rfl
        try simp only [Act.put, List.getElem_toArray, List.getElem_cons_zero, List.getElem_cons_succ, List.setIfInBounds_toArray, List.set_cons_zero, List.set_cons_succ]
        clear hC
        intro hC
        refine wpAnyD_pure (i := 3) (v := ?_) rfl hC (by kernel_rfl) (by kernel_rfl) (by kernel_rfl) (by decide) (fun _ _ _ h => h) (Or.inl ⟨by rfl, ?_⟩) (fun _ => hHeld) ?_
        rotate_left
        · intro w hSw
          clear hSw
          go_simp
          try with_reducible rfl
        try simp only [Act.put, List.getElem_toArray, List.getElem_cons_zero, List.getElem_cons_succ, List.setIfInBounds_toArray, List.set_cons_zero, List.set_cons_succ]
        clear hC
        intro hC
        refine wpAnyD_pure (i := 4) (v := ?_) rfl hC (by kernel_rfl) (by kernel_rfl) (by kernel_rfl) (by decide) (fun _ _ _ h => h) (Or.inl ⟨by rfl, ?_⟩) (fun _ => hHeld) ?_
        rotate_left
        · intro w hSw
          clear hSw
          go_simp
          try with_reducible rfl
        try simp only [Act.put, List.getElem_toArray, List.getElem_cons_zero, List.getElem_cons_succ, List.setIfInBounds_toArray, List.set_cons_zero, List.set_cons_succ]
        clear hC
        intro hC
        refine wpAnyD_take (i := 5) (v := ?_) 40 rfl (by kernel_rfl) hC (by kernel_rfl) (by kernel_rfl) (by kernel_rfl) (by decide) (fun _ _ _ h => h) (Or.inl ⟨by rfl, ?_⟩) (fun _ => hHeld) ?_
        rotate_left
        · intro w hSw
          have hz := (show w.cell? ⟨b, off + i * 9 + 1, none⟩ = some (.int .i64 da) from by rw [← hSw]; exact HC3.out)
          clear hSw
          go_simp
          try with_reducible rfl
        try simp only [Act.put, List.getElem_toArray, List.getElem_cons_zero, List.getElem_cons_succ, List.setIfInBounds_toArray, List.set_cons_zero, List.set_cons_succ]
        clear hC
        intro hC
        refine wpAnyD_take (i := 8) (v := .agg ([Value.int .i64 ((i : Int) + 1), .int .u32 p.flow, .int .i64 (t : Nat), .int .i64 0, Value.slice aa m cc]).toArray) 40 rfl (by kernel_rfl) hC (by kernel_rfl) (by kernel_rfl) (by kernel_rfl) (by decide) (fun _ _ _ h => h) (yieldsIf_load_mid (by rfl) 34 (.tmp 14) rfl s14 (0) rfl ([Value.int .i64 ((i : Int) + 1), .int .u32 p.flow, .int .i64 (t : Nat), .int .i64 0, Value.slice aa m cc]) _ (fun w' hSw => (by have h9 := block_range HX8.out; rw [hSw] at h9; exact h9)) Tryd.underlying34 rfl size5) (fun _ => hHeld) ?_
        try simp only [Act.put, List.getElem_toArray, List.getElem_cons_zero, List.getElem_cons_succ, List.setIfInBounds_toArray, List.set_cons_zero, List.set_cons_succ]
        clear hC
        intro hC
        refine wpAnyD_one (i := 6) (by kernel_rfl) rfl hC (fun K hK => ?_)
        clear hC
        go_simp
        refine (number_any da 16 w8 HDA.out (by decide) (by decide)).mono ?_
        rintro e' wn ⟨rfl, rfl⟩
        rw [HAE.out]
        have hHeld2 := hHeld
        clear hHeld
        have hHeld := hHeld2
        clear hHeld2
        refine hK.out _ _ (fun _ => hHeld) (fun hC => ?_)
        clear hK K
        try simp only [Act.put, List.getElem_toArray, List.getElem_cons_zero, List.getElem_cons_succ, List.setIfInBounds_toArray, List.set_cons_zero, List.set_cons_succ]
        refine wpAnyD_pure (i := 7) (v := ?_) rfl hC (by kernel_rfl) (by kernel_rfl) (by kernel_rfl) (by decide) (fun _ _ _ h => h) (Or.inl ⟨by rfl, ?_⟩) (fun _ => hHeld) ?_
        rotate_left
        · intro w hSw
          have hwr := HAD2.out
          clear hSw
          go_simp
          try with_reducible rfl
        try simp only [Act.put, List.getElem_toArray, List.getElem_cons_zero, List.getElem_cons_succ, List.setIfInBounds_toArray, List.set_cons_zero, List.set_cons_succ]
        clear hC
        intro hC
        refine wpAnyD_one (i := 9) (by kernel_rfl) rfl hC (fun K hK => ?_)
        clear hC
        go_simp
        rw [← hHeld]
        refine (pput HP8.out HMP.out a t ha16 ht8 _ _ rfl rfl ((i : Int) + 1) p.flow 0 p.body aa m cc HRB8.out HM.out HFL.out ⟨by decide, by decide⟩ HLEN.out HNBB.out).mono ?_
        rintro e' wx1 ⟨u, T3, T4, X2, ds, rfl, hPW, hPS, hO, hT, hA, hR⟩
        have HP9 := Shut.mk hPW
        have HS9 := Shut.mk hPS
        have HO9 := Shut.mk hO
        have HT9 := Shut.mk hT
        have HA9 := Shut.mk hA
        have HR9 := Shut.mk (lim_put (by omega) HLI.out rfl hR)
        clear hPW hPS hO hT hA hR
        refine hK.out _ _ (past (by kernel_rfl)) (fun hC => ?_)
        clear hK K
        try simp only [Act.put, List.getElem_toArray, List.getElem_cons_zero, List.getElem_cons_succ, List.setIfInBounds_toArray, List.set_cons_zero, List.set_cons_succ]
        refine wpAnyD_pure (i := 10) (v := ?_) rfl hC (by kernel_rfl) (by kernel_rfl) (by kernel_rfl) (by decide) (fun _ _ _ h => h) (Or.inl ⟨by rfl, ?_⟩) (past (by kernel_rfl)) ?_
        rotate_left
        · intro w hSw
          clear hSw
          go_simp
          try with_reducible rfl
        try simp only [Act.put, List.getElem_toArray, List.getElem_cons_zero, List.getElem_cons_succ, List.setIfInBounds_toArray, List.set_cons_zero, List.set_cons_succ]
        clear hC
        intro hC
        refine wpAnyD_pure (i := 11) (v := ?_) rfl hC (by kernel_rfl) (by kernel_rfl) (by kernel_rfl) (by decide) (fun _ _ _ h => h) (Or.inl ⟨by rfl, ?_⟩) (past (by kernel_rfl)) ?_
        rotate_left
        · intro w hSw
          clear hSw
          go_simp
          try with_reducible rfl
        try simp only [Act.put, List.getElem_toArray, List.getElem_cons_zero, List.getElem_cons_succ, List.setIfInBounds_toArray, List.set_cons_zero, List.set_cons_succ]
        clear hC
        intro hC
        refine wpAnyD_pure (i := 12) (v := ?_) rfl hC (by kernel_rfl) (by kernel_rfl) (by kernel_rfl) (by decide) (fun _ _ _ h => h) (Or.inl ⟨by rfl, ?_⟩) (past (by kernel_rfl)) ?_
        rotate_left
        · intro w hSw
          clear hSw
          go_simp
          try with_reducible rfl
        try simp only [Act.put, List.getElem_toArray, List.getElem_cons_zero, List.getElem_cons_succ, List.setIfInBounds_toArray, List.set_cons_zero, List.set_cons_succ]
        clear hC
        intro hC
        refine wpAnyD_pure (i := 13) (v := ?_) rfl hC (by kernel_rfl) (by kernel_rfl) (by kernel_rfl) (by decide) (fun _ _ _ h => h) (Or.inl ⟨by rfl, ?_⟩) (past (by kernel_rfl)) ?_
        rotate_left
        · intro w hSw
          clear hSw
          go_simp
          try with_reducible rfl
        try simp only [Act.put, List.getElem_toArray, List.getElem_cons_zero, List.getElem_cons_succ, List.setIfInBounds_toArray, List.set_cons_zero, List.set_cons_succ]
        clear hC
        intro hC
        refine wpAnyD_pure (i := 14) (v := ?_) rfl hC (by kernel_rfl) (by kernel_rfl) (by kernel_rfl) (by decide) (fun _ _ _ h => h) (Or.inl ⟨by rfl, ?_⟩) (past (by kernel_rfl)) ?_
        rotate_left
        · intro w hSw
          clear hSw
          go_simp
          try with_reducible rfl
        try simp only [Act.put, List.getElem_toArray, List.getElem_cons_zero, List.getElem_cons_succ, List.setIfInBounds_toArray, List.set_cons_zero, List.set_cons_succ]
        clear hC
        intro hC
        refine wpAnyD_done (by kernel_rfl) ?_ _
        try simp only [Act.put, List.getElem_toArray, List.getElem_cons_zero, List.getElem_cons_succ, List.setIfInBounds_toArray, List.set_cons_zero, List.set_cons_succ]
        obtain ⟨wq, hwq⟩ : ∃ wq, wq = wx1 := ⟨_, rfl⟩
        rw [← hwq] at HP9 HS9 HO9 HT9 ⊢
        clear hwq hC
        have hgs8 := lt_blk HS8.out
        have HSQ := Shut.mk (show wq.heap[gS]? = some (.cells (rowT S) 4 (0, 0)) from HS9.out.only.at_ HS8.out (fun e => HNG.out gS (.inl e) rfl))
        have HNQ := Shut.mk (show ∀ j, FootP g X2 j ∨ T3 j → j ≠ gS from fun j hj e => by
          rcases hj with hj | hj
          · rcases HS9.out.fresh j hj with h1 | h1
            · exact HNG.out j (.inl h1) e
            · omega
          · rcases HS9.out.ft j hj with h1 | h1
            · exact HNG.out j (.inr h1) e
            · omega)
        have HPQ := HP9
        have HLQ := Shut.mk HR9.out.1
        have HLM := Shut.mk HR9.out.2
        have hdl := HR9.out.1.len
        rw [List.length_append] at hdl
        obtain ⟨Aq, cq, rfl, hrow, -⟩ := OwnK.row (d := pk00) HO9.out (fun _ _ => rfl) (by unfold maxLen; omega)
        have HAQ := Shut.mk (show RowP T4 wq Aq ds from hrow)
        have HAB := Shut.mk (show ∀ p, Aq = some p → ¬ p.block = gS from fun p hp e => by
          have h1 := (OwnP.lt HO9.out p.block (by rw [hp]; rfl)).1
          omega)
        have HTA := Shut.mk (show ∀ k, T4 k → ¬ k = gS from fun k hk e => by have h1 := (HT9.out k hk).1; omega)
        clear hrow hdl hgs8 HO9 HT9 HA9 HP8 HRB8 HX8 HXN HS8 HR9 HS9 HLI HS HNG HLEN HC1 HC2 HC3 HC3a HC4 HRB HNBB HM HFL HDA HDB HTE HAE HP
        obtain ⟨nA, hnA⟩ : ∃ nA, nA = (ds).length := ⟨_, rfl⟩
        have HNA := Shut.mk hnA
        have hnA60 : nA ≤ 60 := by have h1 := HLQ.out.len; rw [List.length_append, ← hnA] at h1; omega
        rw [← hnA]
        clear hnA
        go_wp2_with (fail)
        go_loopw [12, 17] (fun fo fk wr => ∃ (k : Nat) (D : List Pk) (S : List Bool), k ≤ nA ∧ fk = .int .i64 k ∧ fo = .int .i64 (D.length : Nat) ∧ LimI n (i + 1) ((ds).drop k ++ allP (mOf X2) 128) D S ∧ Only (· = gS) wq wr ∧ wr.heap[gS]? = some (.cells (rowT S) 4 (0, 0))) (fun _ fk _ => nA - (intOf fk).toNat)
        case atStart => exact ⟨0, D, S, Nat.zero_le _, rfl, rfl, by rw [List.drop_zero]; exact HLQ.out, Only.refl _ _, HSQ.out⟩
        case round =>
          clear HLQ HSQ
          obtain ⟨k, D, S, hk, rfl, rfl, hli, hoy, hs⟩ := hrel
          have HLI := Shut.mk hli
          have HO := Shut.mk hoy
          have HS := Shut.mk hs
          clear hli hoy hs
          by_cases hkn : k < nA
          · have hkn2 : (k : Int) < (nA : Int) := by omega
            obtain ⟨b1, off1, a1, m1, c1, rfl, hrg, -⟩ := RowK.el (RowK.only HAQ.out HO.out HAB.out HTA.out) k (by rw [← HNA.out]; exact hkn)
            have hdr : (ds).drop k = (ds).getD k pk00.1 :: (ds).drop (k + 1) := drop_at_pk (by rw [← HNA.out]; exact hkn)
            have hli := HLI.out
            rw [hdr] at hli
            obtain ⟨pk, hpk⟩ : ∃ p, p = (ds).getD k pk00.1 := ⟨_, rfl⟩
            rw [← hpk] at hli hrg
            obtain ⟨q, hq, hq1, hqi, hsq⟩ := LimI.at_ hli (by omega)
            have hqn : q < n + 1 := by omega
            have HNX := Shut.mk (LimI.mark hli hq hqn)
            have hcid : wr.cell? ⟨b1, off1 + k * 5, none⟩ = some (.int .i64 q) := by rw [← hq]; exact hrg 0 _ rfl
            have hcs : wr.cell? ⟨gS, q, none⟩ = some (.bool false) := by rw [← hsq]; exact rowT_cell HS.out q (by rw [hli.lenS]; exact hqn)
            have HLS := Shut.mk (show q < S.length by rw [hli.lenS]; exact hqn)
            have HDL := Shut.mk (show D.length ≤ 60 by have := hli.len; simp at this; omega)
            have HDN := Shut.mk (show ((D ++ [pk]).length : Int) = (D.length : Int) + 1 by rw [List.length_append]; simp)
            have hi1 : ¬ (q : Int) < 1 := by omega
            have hi2 : ¬ ((i : Int) + 1) < (q : Int) := by omega
            have hi3 : ¬ i + 1 < q := by omega
            have hi4 : q < n + 1 := hqn
            obtain ⟨dl, hdl⟩ : ∃ d, d = D.length := ⟨_, rfl⟩
            rw [← hdl] at HDL HDN ⊢
            have hadd : IntKind.i64.wrap ((dl : Int) + 1) = (dl : Int) + 1 := IntWalk.i64_in _ ⟨by omega, by have := HDL.out; omega⟩
            obtain ⟨w7, hw7⟩ : ∃ w7, w7 = wr.setRow gS (rowT (S.set q true)) := ⟨_, rfl⟩
            have HW7 := Shut.mk hw7
            have HO7 := Shut.mk (show Only (· = gS) wr w7 by rw [hw7]; exact only_setRow _ _ _)
            have HS7 := Shut.mk (show w7.heap[gS]? = some (.cells (rowT (S.set q true)) 4 (0, 0)) by rw [hw7]; exact setRow_heap _ gS _ _ _ (0, 0) HS.out)
            clear hw7 hli hrg hdr hpk hq hsq hdl
            go_wp2_with (first
              | (refine wpList_store_into rfl 4 (.tmp 141) _ rfl gS q (.bool true) rfl rfl rfl 4 (rowT S) (rowT (S.set q true)) HS.out size1b (by rw [rowT_size]; exact HLS.out) (rowT_set _ _ _) ?_
                 rw [show World.setRow wr gS _ = w7 from HW7.out.symm]))
            have HOE := Shut.mk (HO.out.trans HO7.out fun _ _ e => e)
            go_roundw
            case rel => exact ⟨k + 1, D ++ [pk], S.set q true, by omega, by go_num, by rw [HDN.out], HNX.out, HOE.out, HS7.out⟩
            case measure => simp [intOf]; omega
          · have hk' : k = nA := by omega
            subst hk'
            have HLE := Shut.mk (show LimI n (i + 1) (allP (mOf X2) 128) D S by have := HLI.out; rwa [HNA.out, List.drop_length, List.nil_append] at this)
            have HPr := Shut.mk (HPQ.out.only HO.out (fun j hj e => HNQ.out j (.inl hj) e) (fun j hj e => HNQ.out j (.inr hj) e) (fun j e => by rw [e]; exact HGW.out))
            have hln := HLE.out.len
            have hb1 := HLM.out.1
            have hb2 := HLM.out.2
            obtain ⟨ln, hl9⟩ : ∃ ln, ln = (allP (mOf X2) 128).length := ⟨_, rfl⟩
            obtain ⟨by_, hby⟩ : ∃ b, b = bytesF (allP (mOf X2) 128) := ⟨_, rfl⟩
            obtain ⟨dl, hdl⟩ : ∃ d, d = D.length := ⟨_, rfl⟩
            rw [← hl9, ← hdl] at hln
            rw [← hl9] at hb1
            rw [← hby] at hb2
            have HL9 := Shut.mk hl9
            have HBY := Shut.mk hby
            have HDLL := Shut.mk hdl
            have hc1 : ¬ (mp : Int) < (ln : Int) := by have h9 : (ln : Int) ≤ (mp : Int) := hb1; omega
            have hc2 : ¬ mp < ln := by omega
            have hc3 : ¬ (mb : Int) < by_ := by have h9 : by_ ≤ (mb : Int) := hb2; omega
            have HL20 := Shut.mk (show (allP (mOf X2) 128).length ≤ 20 by rw [← hl9]; omega)
            have hwr : IntKind.i64.wrap ((i : Int) + 1 - (dl : Int)) = (ln : Int) := by rw [IntWalk.i64_in _ ⟨by omega, by omega⟩]; omega
            have hnn : ((ln : Int) == (ln : Int)) = true := by simp
            clear hl9 hby hdl hb1 hb2 hln
            rw [← HDLL.out]
            go_wp2_with (fail)
            refine (len_p_any HPr.out.is).mono ?_
            rintro e wa1 ⟨rfl, hB1⟩
            rw [← HL9.out]
            have HPa := Shut.mk (HPr.out.quiet hB1)
            have HSa := Shut.mk ((hB1.block _ (lt_blk HS.out)).trans HS.out)
            clear hB1
            go_wp2_with (fail)
            refine (byt_p_any HPa.out.is).mono ?_
            rintro e wa2 ⟨rfl, hB1⟩
            rw [← HBY.out]
            have HPb := Shut.mk (HPa.out.quiet hB1)
            have HSb := Shut.mk ((hB1.block _ (lt_blk HSa.out)).trans HSa.out)
            clear hB1
            go_wp2_with (fail)
            refine (len_p_any HPb.out.is).mono ?_
            rintro e wa3 ⟨rfl, hB1⟩
            rw [← HL9.out]
            have HPc := Shut.mk (HPb.out.quiet hB1)
            have HSc := Shut.mk ((hB1.block _ (lt_blk HSb.out)).trans HSb.out)
            clear hB1
            go_wp2_with (fail)
            go_roundw
            case rel => exact ⟨i + 1, T3, X2, D, S, by omega, by go_num, by rw [HDLL.out], by go_num, HPc.out, HLE.out, HSc.out, HNQ.out, HL20.out⟩
            case measure => simp [intOf]; omega
    · have hi' : i = n := by omega
      subst hi'
      have HZ0 := Shut.mk (show ∀ j, j < 8 * 0 → mOf X j = quZ from fun j hj => by omega)
      go_wp2_with (fail)
      go_loopw [12, 18] (fun fo fa wr => ∃ (a : Nat) (T : Nat → Prop) (X : Nat → Option Qs) (D : List Pk) (S : List Bool), a ≤ 16 ∧ fa = .int .i64 ((a : Int) + 1) ∧ fo = .int .i64 (D.length : Nat) ∧ PW w g (hdL mp mb) T wr X ∧ LimI i i (allP (mOf X) 128) D S ∧ wr.heap[gS]? = some (.cells (rowT S) 4 (0, 0)) ∧ (∀ j, FootP g X j ∨ T j → j ≠ gS) ∧ (∀ j, j < 8 * a → mOf X j = quZ) ∧ (allP (mOf X) 128).length ≤ 20) (fun _ fa _ => 17 - (intOf fa).toNat)
      case atStart => exact ⟨0, T, X, D, S, Nat.zero_le _, rfl, rfl, HP.out, HLI.out, HS.out, HNG.out, HZ0.out, HL20.out⟩
      case round =>
        clear HP HLI HS HNG HZ0 HL20 HLEN
        obtain ⟨a, T, X, D, S, ha, rfl, rfl, hp, hli, hs, hng, hz, hl20⟩ := hrel
        have HP := Shut.mk hp
        have HLI := Shut.mk hli
        have HS := Shut.mk hs
        have HNG := Shut.mk hng
        have HZ := Shut.mk hz
        have HL20 := Shut.mk hl20
        clear hp hli hs hng hz hl20
        by_cases hlt : a < 16
        · have hlti : (a : Int) + 1 ≤ 16 := by omega
          have hlti2 : (a : Int) < 16 := by omega
          obtain ⟨n, hn⟩ : ∃ n, n = i := ⟨_, rfl⟩
          go_wp2_with (fail)
          refine (drop_p_any HP.out.is a hlt (by have := HL20.out; omega)).mono ?_
          rintro e wq ⟨u, T2, rfl, hL⟩
          have hpm := all_drops (mOf X) hlt 8 (Nat.le_refl _)
          have HPQ := Shut.mk (HP.out.call hL.is hL.st)
          have HLQ := Shut.mk (HLI.out.perm hpm)
          have HL22 := Shut.mk (show (allP (mOf (clrX X a 8)) 128).length ≤ 20 by
            have h1 := hpm.length_eq
            rw [List.length_append] at h1
            have h2 := HL20.out
            rw [mOf_clrX]; omega)
          have hgs8 := lt_blk HS.out
          have HSQ := Shut.mk (show wq.heap[gS]? = some (.cells (rowT S) 4 (0, 0)) from hL.st.only.at_ HS.out (fun e => HNG.out gS (.inl e) rfl))
          have HNQ := Shut.mk (show ∀ j, FootP g (clrX X a 8) j ∨ T j → j ≠ gS from fun j hj e => by
            rcases hj with hj | hj
            · exact HNG.out j (.inl (foot_clr hj)) e
            · exact HNG.out j (.inr hj) e)
          have HZ2 := Shut.mk (show ∀ j, j < 8 * (a + 1) → mOf (clrX X a 8) j = quZ from fun j hj => by
            rw [mOf_clrX]
            unfold clrM
            by_cases h : 8 * a ≤ j ∧ j < 8 * a + 8
            · rw [if_pos h]
            · rw [if_neg h]; exact HZ.out j (by omega))
          have hdl := HLQ.out.len
          rw [List.length_append] at hdl
          obtain ⟨Aq, cq, rfl, hrow, -⟩ := OwnK.row (d := pk00) hL.own (fun _ _ => rfl) (by unfold maxLen; omega)
          have HAQ := Shut.mk (show RowP T2 wq Aq (dropA (mOf X) a 8) from hrow)
          have HAB := Shut.mk (show ∀ p, Aq = some p → ¬ p.block = gS from fun p hp e => by
            have h1 := (OwnP.lt hL.own p.block (by rw [hp]; rfl)).1
            omega)
          have HTA := Shut.mk (show ∀ k, T2 k → ¬ k = gS from fun k hk e => by have h1 := (hL.new k hk).1; omega)
          clear hrow hdl hgs8 hL hpm HP HLI HS HNG HZ HL20 hn
          obtain ⟨nA, hnA⟩ : ∃ nA, nA = (dropA (mOf X) a 8).length := ⟨_, rfl⟩
          have HNA := Shut.mk hnA
          have hnA60 : nA ≤ 60 := by have h1 := HLQ.out.len; rw [List.length_append, ← hnA] at h1; omega
          rw [← hnA]
          clear hnA
          go_wp2_with (fail)
          go_loopw [12, 20] (fun fo fk wr => ∃ (k : Nat) (D : List Pk) (S : List Bool), k ≤ nA ∧ fk = .int .i64 k ∧ fo = .int .i64 (D.length : Nat) ∧ LimI i (i) ((dropA (mOf X) a 8).drop k ++ allP (clrM (mOf X) a 8) 128) D S ∧ Only (· = gS) wq wr ∧ wr.heap[gS]? = some (.cells (rowT S) 4 (0, 0))) (fun _ fk _ => nA - (intOf fk).toNat)
          case atStart => exact ⟨0, D, S, Nat.zero_le _, rfl, rfl, by rw [List.drop_zero]; exact HLQ.out, Only.refl _ _, HSQ.out⟩
          case round =>
            clear HLQ HSQ
            obtain ⟨k, D, S, hk, rfl, rfl, hli, hoy, hs⟩ := hrel
            have HLI := Shut.mk hli
            have HO := Shut.mk hoy
            have HS := Shut.mk hs
            clear hli hoy hs
            by_cases hkn : k < nA
            · have hkn2 : (k : Int) < (nA : Int) := by omega
              obtain ⟨b1, off1, a1, m1, c1, rfl, hrg, -⟩ := RowK.el (RowK.only HAQ.out HO.out HAB.out HTA.out) k (by rw [← HNA.out]; exact hkn)
              have hdr : (dropA (mOf X) a 8).drop k = (dropA (mOf X) a 8).getD k pk00.1 :: (dropA (mOf X) a 8).drop (k + 1) := drop_at_pk (by rw [← HNA.out]; exact hkn)
              have hli := HLI.out
              rw [hdr] at hli
              obtain ⟨pk, hpk⟩ : ∃ p, p = (dropA (mOf X) a 8).getD k pk00.1 := ⟨_, rfl⟩
              rw [← hpk] at hli hrg
              obtain ⟨q, hq, hq1, hqi, hsq⟩ := LimI.at_ hli (by omega)
              have hqn : q < i + 1 := by omega
              have HNX := Shut.mk (LimI.mark hli hq hqn)
              have hcid : wr.cell? ⟨b1, off1 + k * 5, none⟩ = some (.int .i64 q) := by rw [← hq]; exact hrg 0 _ rfl
              have hcs : wr.cell? ⟨gS, q, none⟩ = some (.bool false) := by rw [← hsq]; exact rowT_cell HS.out q (by rw [hli.lenS]; exact hqn)
              have HLS := Shut.mk (show q < S.length by rw [hli.lenS]; exact hqn)
              have HDL := Shut.mk (show D.length ≤ 60 by have := hli.len; simp at this; omega)
              have HDN := Shut.mk (show ((D ++ [pk]).length : Int) = (D.length : Int) + 1 by rw [List.length_append]; simp)
              have hi1 : ¬ (q : Int) < 1 := by omega
              have hi2 : ¬ (i : Int) < (q : Int) := by omega
              have hi3 : ¬ i < q := by omega
              have hi4 : q < i + 1 := hqn
              obtain ⟨dl, hdl⟩ : ∃ d, d = D.length := ⟨_, rfl⟩
              rw [← hdl] at HDL HDN ⊢
              have hadd : IntKind.i64.wrap ((dl : Int) + 1) = (dl : Int) + 1 := IntWalk.i64_in _ ⟨by omega, by have := HDL.out; omega⟩
              obtain ⟨w7, hw7⟩ : ∃ w7, w7 = wr.setRow gS (rowT (S.set q true)) := ⟨_, rfl⟩
              have HW7 := Shut.mk hw7
              have HO7 := Shut.mk (show Only (· = gS) wr w7 by rw [hw7]; exact only_setRow _ _ _)
              have HS7 := Shut.mk (show w7.heap[gS]? = some (.cells (rowT (S.set q true)) 4 (0, 0)) by rw [hw7]; exact setRow_heap _ gS _ _ _ (0, 0) HS.out)
              clear hw7 hli hrg hdr hpk hq hsq hdl
              go_wp2_with (first
                | (refine wpList_store_into rfl 4 (.tmp 207) _ rfl gS q (.bool true) rfl rfl rfl 4 (rowT S) (rowT (S.set q true)) HS.out size1b (by rw [rowT_size]; exact HLS.out) (rowT_set _ _ _) ?_
                   rw [show World.setRow wr gS _ = w7 from HW7.out.symm]))
              have HOE := Shut.mk (HO.out.trans HO7.out fun _ _ e => e)
              go_roundw
              case rel => exact ⟨k + 1, D ++ [pk], S.set q true, by omega, by go_num, by rw [HDN.out], HNX.out, HOE.out, HS7.out⟩
              case measure => simp [intOf]; omega
            · have hk' : k = nA := by omega
              subst hk'
              have HLE := Shut.mk (show LimI i (i) (allP (clrM (mOf X) a 8) 128) D S by have := HLI.out; rwa [HNA.out, List.drop_length, List.nil_append] at this)
              have HPr := Shut.mk (HPQ.out.only HO.out (fun j hj e => HNQ.out j (.inl hj) e) (fun j hj e => HNQ.out j (.inr hj) e) (fun j e => by rw [e]; exact HGW.out))
              go_wp2_with (fail)
              go_roundw
              case rel => exact ⟨a + 1, T, clrX X a 8, D, S, by omega, by go_num, rfl, HPr.out, by rw [mOf_clrX]; exact HLE.out, HS.out, HNQ.out, HZ2.out, HL22.out⟩
              case measure => simp [intOf]; omega
        · have ha' : a = 16 := by omega
          subst ha'
          have hal : allP (mOf X) 128 = [] := by
            rw [allP_congr (N := M0) 128 fun k hk => by rw [HZ.out k (by omega)]; rfl]
            exact allP_M0 128
          have HAL := Shut.mk hal
          have hdl := HLI.out.len
          rw [hal, List.length_nil, Nat.zero_add] at hdl
          obtain ⟨dl, hd9⟩ : ∃ d, d = D.length := ⟨_, rfl⟩
          rw [← hd9] at hdl ⊢
          subst hdl
          have hnn : ((dl : Int) == (dl : Int)) = true := by simp
          have h00 : ((0 : Int) == 0) = true := rfl
          clear hal hd9
          go_wp2_with (fail)
          refine (len_p_any HP.out.is).mono ?_
          rintro e wa1 ⟨rfl, hB1⟩
          rw [HAL.out]
          have HPa := Shut.mk (HP.out.quiet hB1)
          clear hB1
          go_wp2_with (fail)
          refine (byt_p_any HPa.out.is).mono ?_
          rintro e wa2 ⟨rfl, hB1⟩
          rw [HAL.out, show bytesF [] = 0 from rfl]
          have HPb := Shut.mk (HPa.out.quiet hB1)
          clear hB1
          go_wp2_with (fail)
          go_ret
          exact ⟨rfl, HPb.out.bel⟩

end Go.Proofs.YtaibopaagjodoaaDoor.poolLimits
