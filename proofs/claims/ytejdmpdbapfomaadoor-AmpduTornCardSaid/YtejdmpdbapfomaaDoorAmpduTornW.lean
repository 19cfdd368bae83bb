/-
  The walk of muezzin/muezzinlaw7.AmpduTorn: the Go text returns true.
-/
import Derived.Test.YtejdmpdbapfomaaDoorAmpJ
import Derived.Test.YtejdmpdbapfomaaDoorOpenP
import Derived.WalkKit
import Derived.ProofKit
import Derived.Below
namespace Go.Proofs.YtejdmpdbapfomaaDoor.ampduTorn
open Go.ChangeShapes Go.WideShapes Go.ChangeAt Go.RowKit Go.Joins Go.Deep
set_option linter.unusedVariables false
set_option linter.unusedSimpArgs false

theorem set_wf {L : List Int} {n q : Nat} {v : Int} (hl : L.length = n) (h : ∀ i, i < n → 0 ≤ L.getD i 0 ∧ L.getD i 0 ≤ 255) (hv : 0 ≤ v ∧ v ≤ 255) : ∀ i, i < n → 0 ≤ (L.set q v).getD i 0 ∧ (L.set q v).getD i 0 ≤ 255 := by
  intro i hi
  by_cases e : q = i
  · subst e
    simpa [List.getD, List.getElem?_set, hl, hi] using hv
  · have := h i hi
    simpa [List.getD, List.getElem?_set, e] using this
theorem fill_step (f : Int) (s j : Nat) (hj : j < s) : (List.replicate j f ++ List.replicate (s - j) (0 : Int)).set j f = List.replicate (j + 1) f ++ List.replicate (s - (j + 1)) 0 := by
  rw [List.set_append_right _ _ (by simp), List.length_replicate, Nat.sub_self, show s - j = (s - (j + 1)) + 1 by omega, List.replicate_succ, List.set_cons_zero, List.replicate_succ', List.append_assoc]
  rfl

/-! ### THE WALK -/
set_option maxRecDepth 100000 in
set_option maxHeartbeats 8000000 in
theorem walk (n0 : Int) (n1 : Int) (n2 : Int) (n3 : Int) (w : World) (E : Nat → Addr) (hS : Sent w E [101, 102, 103, 104, 105, 106, 107, 108, 109, 110, 111, 112, 113, 114]) (w0 : (Lit.int .i64 n0).wf = true) (w1 : (Lit.int .i64 n1).wf = true) (w2 : (Lit.int .i64 n2).wf = true) (w3 : (Lit.int .u8 n3).wf = true) :
    Calls Tryd.prog 5 #[.int .i64 n0, .int .i64 n1, .int .i64 n2, .int .u8 n3] w fun e w' => e = .returned (.bool true) ∧ Below w.heap.size w w' := by
  have HS := Lib.hid (show Sent w E S14 from hS)
  clear hS
  have W0 := Lib.hid w0
  have W1 := Lib.hid w1
  have W2 := Lib.hid w2
  have hf : 0 ≤ n3 ∧ n3 ≤ 255 := by simpa [Lit.wf, IntKind.min, IntKind.max, IntKind.signed, IntKind.bits] using w3
  clear w0 w1 w2 w3
  obtain ⟨i0, hi0, hz0, hz1, hz2⟩ := info_parts byte_info
  go_enter Tryd.func5, Tryd.ntmps5
  go_wp2_with (fail)
  refine (first_any E w HS.out.five).mono ?_
  rintro e w1 ⟨rfl, hB⟩
  have HB := Lib.hid hB
  clear hB
  go_wp2_with (fail)
  refine (number_any n0 20 w1 W0.out (by omega) (by omega)).mono ?_
  rintro e w' ⟨rfl, rfl⟩
  have k1 := nmod_lo n0 20 (by omega)
  have k2 := nmod_hi n0 20 (by omega)
  generalize nmod n0 20 = x1 at *
  obtain ⟨nn, hnn⟩ : ∃ nn : Nat, x1 + 1 = (nn : Int) := ⟨(x1 + 1).toNat, by omega⟩
  have hnna : 1 ≤ nn := by omega
  have hnnb : nn < 1 + 20 := by omega
  clear k1 k2
  go_wp2_with (fail)
  refine (number_any n1 (nn : Int) w1 W1.out (by omega) (by omega)).mono ?_
  rintro e w' ⟨rfl, rfl⟩
  have k1 := nmod_lo n1 (nn : Int) (by omega)
  have k2 := nmod_hi n1 (nn : Int) (by omega)
  generalize nmod n1 (nn : Int) = x2 at *
  obtain ⟨ka, rfl⟩ := Int.eq_ofNat_of_zero_le k1
  have hka : ka < nn := by omega
  clear k1 k2
  go_wp2_with (fail)
  refine (number_any n2 50 w1 W2.out (by omega) (by omega)).mono ?_
  rintro e w' ⟨rfl, rfl⟩
  have k1 := nmod_lo n2 50 (by omega)
  have k2 := nmod_hi n2 50 (by omega)
  generalize nmod n2 50 = x3 at *
  obtain ⟨ss, hss⟩ : ∃ ss : Nat, x3 + 1 = (ss : Int) := ⟨(x3 + 1).toNat, by omega⟩
  have hssa : 1 ≤ ss := by omega
  have hssb : ss < 1 + 50 := by omega
  clear k1 k2
  cases e78 : (n3 == 78)
  case true =>
    go_wp2
    go_ret
    exact ⟨rfl, HB.out⟩
  have hn78 : n3 ≠ 78 := by simpa using e78
  obtain ⟨P, hP⟩ : ∃ P, P = List.replicate ss n3 := ⟨_, rfl⟩
  have HPZ := Lib.hid hP
  have HPLn := Lib.hid (show P.length = ss by rw [hP]; simp)
  have HPM := Lib.hid (show ∀ v ∈ P, v = n3 from fun v hv => by rw [hP] at hv; exact (List.mem_replicate.1 hv).2)
  have HPW := Lib.hid (show ∀ i, i < ss → 0 ≤ P.getD i 0 ∧ P.getD i 0 ≤ 255 from all_wf HPLn.out (fun v hv => by rw [HPM.out v hv]; exact hf))
  have HFW := Lib.hid hf
  have HN78 := Lib.hid hn78
  clear hP hf hn78
  go_wp2
  go_loopw [10, 11] (fun v i wr => ∃ k : Nat, k ≤ nn ∧ i = .int .i64 k ∧ OwnP wr w.heap.size 23 v k (List.replicate k P) ∧ Below w.heap.size w wr) (fun _ i _ => nn - (intOf i).toNat)
  case atStart => exact ⟨0, by omega, rfl, OwnP.nil _ _ _, HB.out⟩
  case round =>
    obtain ⟨k, hk, rfl, hown, hbel⟩ := hrel
    clear HB
    have HP := Lib.hid hown
    have HB := Lib.hid hbel
    clear hown hbel
    by_cases hlt : k < nn
    case pos =>
      have HS1 := Lib.hid (show List.replicate k P ++ [P] = List.replicate (k + 1) P from List.replicate_succ'.symm)
      have hd : decide ((k : Int) < (nn : Int)) = true := by simp; omega
      have hd2 : decide (k < nn) = true := by simp; omega
      obtain ⟨wq, rfl⟩ : ∃ wq, wq = wr := ⟨_, rfl⟩
      go_wp2_with (first
        | (at_make; refine wpList_make_full _ rfl _ _ 23 rfl wq.heap.size 5 i0 (.int .u8 0) 1 Tryd.underlying23 hi0 hz0 hz1 _ _ _ _ ss rfl rfl (by omega) (by omega) (by rw [hz2]; omega) (by unfold maxLen; omega) (Nat.le_refl _) ?_; intro w4 hown1 hgrow1; rw [zeros] at hown1; have HO4 := Lib.hid (show OwnB w4 wq.heap.size 5 .u8 wq.heap.size ss ss (List.replicate 0 n3 ++ List.replicate (ss - 0) 0) from hown1); have HB4 := Lib.hid ((Below.refl wq.heap.size wq).grown hgrow1 (Nat.le_refl _) (by simp)); clear hown1 hgrow1)
        | fail)
      go_loopw [13] (fun i wr => ∃ j : Nat, j ≤ ss ∧ i = .int .i64 j ∧ OwnB wr wq.heap.size 5 .u8 wq.heap.size ss ss (List.replicate j n3 ++ List.replicate (ss - j) 0) ∧ Below wq.heap.size wq wr) (fun i _ => ss - (intOf i).toNat)
      case atStart => exact ⟨0, by omega, rfl, HO4.out, HB4.out⟩
      case round =>
        obtain ⟨j, hj, rfl, hown, hbel⟩ := hrel
        clear HO4 HB4
        have HO := Lib.hid hown
        have HBq := Lib.hid hbel
        clear hown hbel
        by_cases hjt : j < ss
        case pos =>
          have hdj : decide ((j : Int) < (ss : Int)) = true := by simp; omega
          have hdj2 : decide (j < ss) = true := by simp; omega
          have HSET := Lib.hid (fill_step n3 ss j hjt)
          go_wp2_with (refine wpList_store_own rfl 5 (.tmp 49) (.tmp 48) rfl wq.heap.size 5 .u8 wq.heap.size j ss ss _ _ n3 rfl rfl HO.out hjt sizeU8 HSET.out ?_; intro w5 hO hk2 hb; have HO5 := hO; have HB5 := Lib.hid (hb.out _ _ HBq.out (Nat.le_refl _)); clear hO hk2 hb HO HBq)
          go_roundw
          case rel => exact ⟨j + 1, by omega, by go_num, HO5.out, HB5.out⟩
          case measure => simp [intOf]; omega
        have hj' : j = ss := by omega
        subst hj'
        have hdj : decide ((j : Int) < (j : Int)) = false := by simp
        have HOP := Lib.hid (show OwnB wr wq.heap.size 5 .u8 wq.heap.size j j P by have := HO.out; rwa [Nat.sub_self, List.replicate_zero, List.append_nil, ← HPZ.out] at this)
        have HE := Lib.hid (ElP.of_own HP.out HOP.out HPW.out)
        have HP4 := Lib.hid (HP.out.below HBq.out)
        have HB4 := Lib.hid (HB.out.trans (HBq.out.mono HB.out.size))
        clear HO HOP HBq HP HB
        go_wp2_with (first
          | (refine app_part rfl (.tmp 50) (.tmp 52) rfl w.heap.size k u10 (List.replicate k P) rfl (HP4.out.below ((Below.refl wr.heap.size wr).alloc (Nat.le_refl _) _)) (.slice (some ⟨wq.heap.size, 0, none⟩) j j) P (HE.out.keep (fun k _ hk => ((Below.refl wr.heap.size wr).alloc (Nat.le_refl _) _).block k hk)) ⟨wr.heap.size, 0, none⟩ 1 rfl (cell_one_new _ _ _ 0 _ rfl) (by omega) (by have := HB4.out.size; simp; omega) ?_; intro g5 cap5 w5 hP5 hb5; rw [HS1.out] at hP5; have HP5 := hP5; have HB5 := Lib.hid ((HB4.out.alloc HB4.out.size _).trans hb5.out); clear hP5 hb5 HP4 HB4 HE))
        go_roundw
        case rel => exact ⟨k + 1, by omega, by go_num, HP5.out, HB5.out⟩
        case measure => simp [intOf]; omega
    have hk' : k = nn := by omega
    subst hk'
    have hd : decide ((k : Int) < (k : Int)) = false := by simp
    obtain ⟨A5, c5, hv5, hrow5, hc5⟩ := HP.out.row (by unfold maxLen; omega)
    subst hv5
    have HR5 := Lib.hid hrow5
    clear hrow5 HP hk hlt
    have HOKP := Lib.hid (show okP P = true from okP_iff.2 (by rw [HPLn.out]; omega))
    have HOK := Lib.hid (show ∀ p ∈ List.replicate k P, okP p = true from rep_ok k P HOKP.out)
    obtain ⟨st, hst⟩ : ∃ st : Nat, (4 + (ss : Int) + 3) / 4 * 4 = (st : Int) := ⟨(4 + ss + 3) / 4 * 4, by omega⟩
    have hst2 : st ≤ 57 := by omega
    have hst3 : ss + 4 ≤ st := by omega
    have HUL := Lib.hid (show (unitP P).length = st by rw [unit_len, HPLn.out]; have h1 := step_is ss; omega)
    have HPLEN := Lib.hid (show ∃ m, k = m + 1 ∧ (packB (List.replicate k P)).length = m * st + 4 + ss by
      obtain ⟨m, rfl⟩ : ∃ m, k = m + 1 := ⟨k - 1, by omega⟩
      exact ⟨m, rfl, by rw [pack_rep_len, HUL.out, HPLn.out]⟩)
    have HCP := Lib.hid (show codeP (List.replicate k P) = 0 by
      obtain ⟨m, hm, hl⟩ := HPLEN.out
      refine codeP_is (by rw [hm]; simp [List.replicate_succ]) HOK.out (by simp; omega) ?_
      rw [hl]
      have h1 : m * st ≤ 20 * 57 := Nat.mul_le_mul (by omega) (by omega)
      omega)
    obtain ⟨kst, hkst⟩ : ∃ kst : Nat, kst = ka * st := ⟨_, rfl⟩
    have hks : (ka : Int) * (st : Int) = (kst : Int) := by rw [hkst]; push_cast; rfl
    have hkb : kst ≤ 1140 := by
      have h1 : ka * st ≤ 20 * 57 := Nat.mul_le_mul (by omega) (by omega)
      omega
    have hwr1 : IntKind.i64.wrap ((ka : Int) * (st : Int)) = (kst : Int) := by rw [hks]; exact IntWalk.i64_in _ ⟨by omega, by omega⟩
    obtain ⟨jj, hjj⟩ : ∃ jj : Nat, (kst : Int) + 3 = (jj : Int) := ⟨kst + 3, by omega⟩
    have HTA := Lib.hid (show (unpackR ((packB (List.replicate k P)).set jj 0)).length + 1 = k ∧ codeR ((packB (List.replicate k P)).set jj 0) = 102 by
      have h1 := torn_all k ka P HOKP.out (fun x hx => by rw [HPM.out x hx]; exact HN78.out) hka
      rw [HUL.out, ← hkst] at h1
      have e : kst + 3 = jj := by omega
      rwa [e] at h1)
    have HJM := Lib.hid (show jj < (packB (List.replicate k P)).length by
      obtain ⟨m, hm, hl⟩ := HPLEN.out
      rw [hl]
      have h1 : ka * st ≤ m * st := Nat.mul_le_mul_right _ (by omega)
      omega)
    clear hkst
    generalize hLL : List.replicate k P = L at *
    have HWP := Lib.hid (codeP_wf HCP.out HR5.out.wf8)
    clear HPZ HPLn HPM HPW hLL HUL HPLEN HN78 HFW
    go_wp2_with (fail)
    refine (pack_any A5 k c5 L E wr HR5.out (by omega) (HS.out.below HB.out).five).mono ?_
    rintro e w6 ⟨v, rfl, hg, -, hB⟩
    obtain ⟨g, cap, rfl, hO⟩ := hg HCP.out
    rw [HCP.out, errV_zero]
    have HM65 := Lib.hid (codeP_ok HCP.out).2.2.2
    obtain ⟨M, hM⟩ : ∃ M, M = (packB L).length := ⟨_, rfl⟩
    rw [← hM] at hO HWP HJM HM65
    rw [← hM]
    have HML := Lib.hid hM.symm
    have HOp := Lib.hid hO
    have HGw := Lib.hid (show w.heap.size ≤ g from Nat.le_trans HB.out.size hO.lt.1)
    have hcapM := hO.cap_le
    clear hg hM HR5
    have T0 := Lib.hid (HB.out.trans (hB.mono HB.out.size))
    clear HB
    have HB := T0
    clear T0
    clear hB hO
    have hjM := HJM.out
    have hM65 := HM65.out
    have hji : (jj : Int) < (M : Int) := by omega
    generalize hQ : (packB L).set jj 0 = Q at *
    have HQ := Lib.hid hQ
    clear hQ
    go_wp2_with (first
      | (refine wpList_store_own rfl 5 (.tmp 71) (.const (.int .u8 0)) rfl wr.heap.size 5 .u8 g jj M cap (packB L) Q 0 rfl rfl HOp.out hjM sizeU8 HQ.out ?_; intro w7 hO hk2 hb; have HR7 := Lib.hid (hO.out.row8 (by rw [← HQ.out]; exact set_wf HML.out HWP.out (by decide))); have HB7 := Lib.hid (hb.out _ _ HB.out HGw.out); clear hO hk2 hb HOp HB)
      | fail)
    refine (parts_any (some ⟨g, 0, none⟩) M cap Q E w7 HR7.out hcapM (by omega) (HS.out.below HB7.out).five).mono ?_
    rintro e w8 ⟨A8, m8, c8, rfl, -, -, hB⟩
    rw [HTA.out.2]
    have HR8 := Lib.hid (HR7.out.below hB)
    have HB8 := Lib.hid (HB7.out.trans (hB.mono HB7.out.size))
    clear hB HR7 HB7
    go_wp2_with (fail)
    refine (unpack_any (some ⟨g, 0, none⟩) M cap Q E w8 HR8.out hcapM (by omega) (HS.out.below HB8.out).five).mono ?_
    rintro e w9 ⟨A9, m9, c9, rfl, hr, -, hB⟩
    have hm9 : m9 + 1 = k := by have := hr.len; have := HTA.out.1; omega
    have HB := Lib.hid (HB8.out.trans (hB.mono HB8.out.size))
    clear hB hr HR8 HB8
    have deq : ((m9 : Int) == (k : Int) - 1) = true := by simp; omega
    have HM9 := Lib.hid hm9
    clear hm9
    go_wp2_with (fail)
    refine (is_any E 102 102 w9 (HS.out.below HB.out) (by decide)).mono ?_
    rintro e w10 ⟨rfl, hB⟩
    rw [show (((102 : Nat) : Int) == 102) = true by decide]
    have T0 := Lib.hid (HB.out.trans (hB.mono HB.out.size))
    clear HB
    have HB := T0
    clear T0
    clear hB
    go_wp2
    go_ret
    exact ⟨rfl, HB.out⟩
end Go.Proofs.YtejdmpdbapfomaaDoor.ampduTorn
