/-
  CONTRACT of ampdu.Unpack.
-/
import Derived.Test.YtejdmpdbapfomaaDoorAmpE
namespace Go.Proofs.YtejdmpdbapfomaaDoor
open Go.ChangeShapes Go.WideShapes Go.ChangeAt Go.RowKit Go.Deep
set_option linter.unusedVariables false
set_option linter.unusedSimpArgs false

def OutU (xs : List Int) (w : World) (e : Ending) (w' : World) : Prop := ∃ A n c, e = .returned (.slice A n c) ∧ RowP w' A n (unpackR xs) ∧ n ≤ c ∧ Below w.heap.size w w'
theorem OutU.good {xs : List Int} {w w' : World} {l : List (List Int)} {e : TypeId} {v : Value} {k : Nat} (h : unpackR xs = l) (hP : OwnP w' w.heap.size e v k l) (hk : k ≤ 1000000000) (hb : Below w.heap.size w w') : OutU xs w (.returned v) w' := by
  obtain ⟨A, c, rfl, hr, hc⟩ := hP.row (by unfold maxLen; omega)
  exact ⟨A, k, c, rfl, by rw [h]; exact hr, hc, hb⟩
set_option maxRecDepth 100000 in
set_option maxHeartbeats 8000000 in
theorem unpack_any (A : Option Addr) (n c : Nat) (xs : List Int) (E : Nat → Addr) (w : World) (h : RowB .u8 w A n xs) (hnc : n ≤ c) (hn : n ≤ 100000000) (hS : Sent w E S5) :
    Calls Tryd.prog 17 #[.slice A n c] w fun e w' => OutU xs w e w' := by
  have HS := Lib.hid hS
  have HR := Lib.hid h
  have HL := Lib.hid h.len
  clear h hS
  go_enter Tryd.func17, Tryd.ntmps17
  go_wp2
  go_loopw [3, 4] (fun v i wr => ∃ (t k : Nat) (out : List (List Int)), t ≤ n + 3 ∧ t % 4 = 0 ∧ k ≤ t ∧ i = .int .i64 t ∧ OwnP wr w.heap.size 23 v k out ∧ out ++ unpackR (xs.drop t) = unpackR xs ∧ Below w.heap.size w wr) (fun _ i _ => n + 4 - (intOf i).toNat)
  case atStart => exact ⟨0, 0, [], by omega, rfl, by omega, rfl, OwnP.nil _ _ _, rfl, Below.refl _ _⟩
  case round =>
    obtain ⟨t, k, out, ht, hm, hk, rfl, hown, hinv, hbel⟩ := hrel
    have HP := Lib.hid hown
    have HI := Lib.hid hinv
    have HB := Lib.hid hbel
    have HM := Lib.hid hm
    clear hown hinv hbel hm
    by_cases h4 : t + 4 ≤ n
    · have d4 : decide ((4 : Int) ≤ (n : Int) - (t : Int)) = true := by simp; omega
      have htc : t < c := by omega
      obtain ⟨b, off, rfl, -⟩ := HR.out.cells (by omega)
      go_wp2_with (fail)
      refine (size_any (some ⟨b, off + t, none⟩) (n - t) (c - t) (xs.drop t) E wr (drop_row (HR.out.below HB.out) t (by omega)) (by omega) (by omega) (HS.out.below HB.out)).mono ?_
      rintro e w2 ⟨he, m, rfl⟩
      unfold SizeD at he
      subst he
      have HB2 := Lib.hid (below_drewN HB.out m)
      have HP2 := Lib.hid (HP.out.drewN m)
      clear HB HP
      generalize wr.drewN m = w2 at *
      have HGD := Lib.hid (goodD_code (r := xs.drop t) (by rw [List.length_drop, HL.out]; omega))
      by_cases hcd : codeD (xs.drop t) = 0
      case neg =>
        have HNX := Lib.hid (show out ++ unpackR (xs.drop (t + 4)) = unpackR xs by
          rw [← HI.out, unpack_at_bad (b := xs) (i := t) (by rw [HL.out]; omega) (by rw [HGD.out]; simpa using hcd)])
        rw [if_neg hcd, errV_pos E hcd]
        clear hcd HGD
        generalize codeD (xs.drop t) = cd at *
        go_wp2
        go_roundw
        case rel => exact ⟨t + 4, k, out, by omega, by have := HM.out; omega, by omega, by go_num, HP2.out, HNX.out, HB2.out⟩
        case measure => simp [intOf]; omega
      have HNG := Lib.hid (unpack_at_good (b := xs) (i := t) (by rw [HL.out]; omega) (by rw [HGD.out, hcd]; rfl))
      rw [if_pos hcd, hcd, errV_zero]
      obtain ⟨c1, c2, c3, c4, c5, c6⟩ := codeD_fine hcd
      rw [List.length_drop, HL.out] at c6
      clear c1 c2 c3 c4 hcd HGD
      obtain ⟨L, hL⟩ : ∃ L, L = lenD (xs.drop t) := ⟨_, rfl⟩
      rw [← hL] at c5 c6 HNG
      rw [← hL]
      clear hL
      have HPC := Lib.hid (fun (w' : World) (hB : Below w.heap.size w w') => piece (HR.out.below hB) (t + 4) L (by omega))
      have HKK := Lib.hid (show out.length = k by obtain ⟨_, _, h, _⟩ := HP2.out; exact h)
      obtain ⟨P, hPP⟩ : ∃ P, P = (xs.drop (t + 4)).take L := ⟨_, rfl⟩
      rw [← hPP] at HPC HNG
      have HPW := Lib.hid (fun i hi => (HPC.out w (Below.refl _ _)).wf8 i hi)
      clear hPP
      obtain ⟨T, hT⟩ : ∃ T : Nat, (t : Int) + 4 + (L : Int) = (T : Int) := ⟨t + 4 + L, by omega⟩
      have hT1 : T ≤ n := by omega
      have hT2 : T - (t + 4) = L := by omega
      have HT := Lib.hid (show T = t + 4 + L by omega)
      have hp3 : pad T ≤ 3 := by unfold pad; omega
      have HNX := Lib.hid (show (out ++ [P]) ++ unpackR (xs.drop (T + pad T)) = unpackR xs by
        rw [← HI.out, HNG.out, List.append_assoc]
        congr 2
        have h1 := HT.out
        have h2 := HM.out
        rw [h1, show pad (t + 4 + L) = pad L by unfold pad; omega]
        rfl)
      have HMX := Lib.hid (show (T + pad T) % 4 = 0 by unfold pad; omega)
      clear HNG
      go_wp2_with (fail)
      refine (clone_any b (off + (t + 4)) L (c - (t + 4)) P w2 (HPC.out w2 HB2.out) (by omega)).mono ?_
      rintro e w3 ⟨g3, cap3, rfl, hO3, hB3⟩
      have HE := Lib.hid (ElP.of_own HP2.out hO3 HPW.out)
      have HB3 := Lib.hid (HB2.out.trans (hB3.mono HB2.out.size))
      have HP3 := Lib.hid (HP2.out.below hB3)
      clear hO3 hB3 HB2 HP2
      go_wp2_with (first | (refine app_part rfl (.tmp 29) (.tmp 35) rfl w.heap.size k u3 out rfl (HP3.out.below ((Below.refl w3.heap.size w3).alloc (Nat.le_refl _) _)) (.slice (some ⟨g3, 0, none⟩) L cap3) P (HE.out.keep (fun k _ hk => ((Below.refl w3.heap.size w3).alloc (Nat.le_refl _) _).block k hk)) ⟨w3.heap.size, 0, none⟩ 1 rfl (cell_one_new _ _ _ 0 _ rfl) (by omega) (by have := HB3.out.size; simp; omega) ?_; intro g5 cap5 w5 hP5 hb5; have HP5 := hP5; have HB5 := Lib.hid ((HB3.out.alloc HB3.out.size _).trans hb5.out); clear hP5 hb5 HP3 HB3 HE) | fail)
      refine (fill_any T w5 (by omega)).mono ?_
      rintro e w' ⟨rfl, rfl⟩
      generalize pad T = q at *
      have HTT := Lib.hid (show t < T by have := HT.out; omega)
      go_wp2
      go_roundw
      case rel => exact ⟨T + q, k + 1, out ++ [P], by omega, HMX.out, by have := HTT.out; omega, by go_num, HP5.out, HNX.out, HB5.out⟩
      case measure => have := HTT.out; simp [intOf]; omega
    · have d4 : decide ((4 : Int) ≤ (n : Int) - (t : Int)) = false := by simp; omega
      have HF := Lib.hid (show unpackR xs = out by rw [← HI.out, unpack_at_end (b := xs) (i := t) (by rw [HL.out]; omega), List.append_nil])
      go_wp2
      go_ret
      exact OutU.good HF.out HP.out (by omega) HB.out
end Go.Proofs.YtejdmpdbapfomaaDoor
