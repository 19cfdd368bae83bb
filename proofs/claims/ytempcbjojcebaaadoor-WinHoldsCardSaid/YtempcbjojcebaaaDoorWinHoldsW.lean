/-
  The walk of muezzin/muezzinlaw15.WinHolds: the Go text returns true.
-/
import Derived.Test.YtempcbjojcebaaaDoorDoW
import Derived.Test.YtempcbjojcebaaaDoorDoW
import Derived.Test.YtempcbjojcebaaaDoorErrP
import Derived.LoopTactic
import Derived.Deep.CutRange
import Derived.WalkKit
import Derived.ProofKit
import Derived.Below
namespace Go.Proofs.YtempcbjojcebaaaDoor.winHolds
open Go.ChangeShapes Go.WideShapes Go.ChangeAt Go.RowKit Go.Deep
set_option linter.unusedVariables false
set_option linter.unusedSimpArgs false


open Go.Proofs.YtempcbjojcebaaaDoor
theorem inv_line {st gv sz : Nat} (h : st < 4096) (h1 : 1 ≤ sz) (h2 : sz ≤ 64) (hg : gv ≤ sz) : InvW (lineW st gv sz) where
  st := h
  sz := ⟨h1, h2⟩
  gv := hg
  up := List.pairwise_lt_range
  lt := fun d hd => List.mem_range.1 hd
  first := by
    show frontW _ (List.range gv) = 0
    cases gv with
    | zero => rfl
    | succ n => rw [List.range_succ_eq_map]; rfl
theorem below_only {B : Nat} {g : Nat} {a b c : World} (h : Below B a b) (hB : B ≤ a.heap.size) (hg : B ≤ g) (ho : Only (· = g) b c) : Below B a c :=
  h.trans (ho.below (fun i hi e => by omega) (Nat.le_trans hB h.size))

/-- the d of place k. -/
theorem outI_at (x : Wo) {k : Nat} (hk : k < x.ds.length) : (outI x).getD k 0 = ((nmW x (x.ds.getD k 0) : Nat) : Int) := by
  unfold outI
  simp [List.getD, hk]
theorem ds_mem (x : Wo) {k : Nat} (hk : k < x.ds.length) : x.ds.getD k 0 ∈ x.ds := by
  have : x.ds.getD k 0 = x.ds[k] := by simp [List.getD, hk]
  rw [this]; exact List.getElem_mem hk
theorem ds_rise {x : Wo} (hi : InvW x) {i j : Nat} (hij : i < j) (hj : j < x.ds.length) : x.ds.getD i 0 < x.ds.getD j 0 := by
  have h := List.pairwise_iff_getElem.1 hi.up i j (by omega) hj hij
  simpa [List.getD, show i < x.ds.length by omega, hj] using h
theorem outI_wf (x : Wo) : ∀ a ∈ outI x, -9223372036854775808 ≤ a ∧ a ≤ 9223372036854775807 := by
  intro a ha
  obtain ⟨d, hd, rfl⟩ := List.mem_map.1 ha
  have := nm_lt x d
  omega
theorem wf_i64 {n : Int} (h : (Lit.int .i64 n).wf = true) : -9223372036854775808 ≤ n ∧ n ≤ 9223372036854775807 := by
  have h' : IntKind.i64.min ≤ n ∧ n ≤ IntKind.i64.max := by simpa [Lit.wf] using h
  have a : IntKind.i64.min = -9223372036854775808 := by decide
  have b : IntKind.i64.max = 9223372036854775807 := by decide
  rw [a, b] at h'
  exact h'

/-! ### THE WALK -/
set_option maxRecDepth 100000 in
set_option maxHeartbeats 8000000 in
theorem walk (n0 : Int) (n1 : Int) (a2 : Option Addr) (len2 cap2 : Nat) (l2 : List (Int × Int)) (w : World) (E : Nat → Addr) (hS : Sent w E [103, 107]) (hT : Tab64 w) (w0 : (Lit.int .i64 n0).wf = true) (w1 : (Lit.int .i64 n1).wf = true) (w2 : RowS doC 2 (0, 0) w a2 len2 l2 ∧ len2 ≤ cap2 ∧ ∀ u ∈ l2, okDo2 u) :
    Calls Tryd.prog 4 #[.int .i64 n0, .int .i64 n1, .slice a2 len2 cap2] w fun e w' => e = .returned (.bool true) ∧ Below w.heap.size w w' := by
  have HS := Shut.mk hS
  have HT := Shut.mk hT
  have W0 := Shut.mk w0
  have W1 := Shut.mk w1
  clear hS hT w0 w1
  obtain ⟨hr2, hc2, hok2⟩ := w2
  have HR2 := Shut.mk hr2
  have HOK := Shut.mk hok2
  have HL2 := Shut.mk hr2.len
  clear hr2 hc2 hok2
  go_enter Tryd.func4, Tryd.ntmps4
  go_wp2_with (fail)
  refine (first_any w).mono ?_
  rintro e wa ⟨rfl, hBa⟩
  have HBa := Shut.mk hBa
  clear hBa
  go_wp2_with (fail)
  refine (number_any n0 4096 wa W0.out (by decide) (by decide)).mono ?_
  rintro e wn ⟨rfl, rfl⟩
  have hm0 := nmod_lo n0 4096 (by decide)
  have hm1 := nmod_hi n0 4096 (by decide)
  obtain ⟨s, hnm⟩ := Int.eq_ofNat_of_zero_le hm0
  rw [hnm] at hm1 ⊢
  clear hm0 hnm
  have hs : s < 4096 := by omega
  clear hm1
  go_wp2_with (fail)
  refine (number_any n1 64 wa W1.out (by decide) (by decide)).mono ?_
  rintro e wn ⟨rfl, rfl⟩
  have hm0 := nmod_lo n1 64 (by decide)
  have hm1 := nmod_hi n1 64 (by decide)
  obtain ⟨m, hnm⟩ := Int.eq_ofNat_of_zero_le hm0
  rw [hnm] at hm1 ⊢
  clear hm0 hnm
  have hm : m < 64 := by omega
  clear hm1
  obtain ⟨z, hz⟩ : ∃ z : Nat, z = m + 1 := ⟨_, rfl⟩
  have HSZ := Shut.mk (show (m : Int) + 1 = (z : Int) by omega)
  have HZ := Shut.mk (show 1 ≤ z ∧ z ≤ 64 by omega)
  have hmz : (m : Int) < 64 := by omega
  have Hs := Shut.mk hs
  clear hz hm hs
  rcases Nat.lt_or_ge 200 len2 with hN | hN
  · have hN' : (200 : Int) < (len2 : Int) := by omega
    go_wp2_with (fail)
    go_ret
    exact ⟨rfl, HBa.out⟩
  have hN1 : ¬ (200 : Int) < (len2 : Int) := by omega
  have hN2 : ¬ 200 < len2 := by omega
  go_wp2_with (fail)
  rw [HSZ.out]
  have hz1 := HZ.out.1
  have hz2 := HZ.out.2
  clear hmz
  refine (new_ok s z Hs.out (by omega) (by omega) wa).mono ?_
  rintro e wb ⟨rfl, hx, hb⟩
  obtain ⟨g, hg⟩ : ∃ g, g = wa.heap.size := ⟨_, rfl⟩
  rw [← hg] at hx ⊢
  have HGW := Shut.mk (show w.heap.size ≤ g by have := HBa.out.size; omega)
  have HXb := Shut.mk hx
  have HGT := Shut.mk (show g ≠ 3 from fun e => by have h1 := cell_lt' (HT.out 0 (by decide)); have h2 := HGW.out; have h3 : 3 < w.heap.size := h1; omega)
  have HBb := Shut.mk (HBa.out.trans (hb.mono HBa.out.size))
  clear hx hb hg HBa
  have HI0 := Shut.mk (inv_new Hs.out HZ.out.1 HZ.out.2)
  clear hN1 hN2
  have HN := Shut.mk hN
  clear hN
  go_wp2_with (fail)
  go_loopw [10, 11, 12] (fun fi _ _ wr => ∃ (i : Nat) (x : Wo), i ≤ len2 ∧ fi = .int .i64 i ∧ Shut (InvW x) ∧ Shut (x.sz = z) ∧ IsWin wr g x ∧ Below w.heap.size w wr) (fun fi _ _ _ => len2 - (intOf fi).toNat)
  case atStart => exact ⟨0, newW s z, Nat.zero_le _, rfl, HI0, ⟨rfl⟩, HXb.out, HBb.out⟩
  case round =>
    clear HI0 HXb HBb
    obtain ⟨i, x, hi, rfl, HI, HSZ2, hx, hb⟩ := hrel
    have HX := Shut.mk hx
    have HB := Shut.mk hb
    clear hx hb
    by_cases hin : i < len2
    · have hin2 : (i : Int) < (len2 : Int) := by omega
      go_wp2_with (fail)
      refine (out_any g x wr HX.out HI.out (HT.out.below HB.out)).mono ?_
      rintro e w2 ⟨q, rfl, hr, hf, hb⟩
      obtain ⟨A, c, rfl, hc, -⟩ := hr.form
      have HX2 := Shut.mk (HX.out.below hb)
      have HB2 := Shut.mk (HB.out.trans (hb.mono HB.out.size))
      have hll := out_len HI.out
      have hgs := HI.out.gv
      have hs64 := HI.out.sz
      have HRB := Shut.mk (hr.row (by rw [outI_len]; unfold maxLen; omega) (outI_wf x))
      rw [outI_len] at HRB hc ⊢
      have HLE := Shut.mk (show x.ds.length ≤ x.gv ∧ x.gv ≤ x.sz ∧ x.sz ≤ 64 from ⟨hll, hgs, hs64.2⟩)
      clear hr hb hf hll hgs hs64
      obtain ⟨b2, off2, rfl, hrg⟩ := (HR2.out.below HB2.out).el i hin
      have hk1 : w2.cell? ⟨b2, off2 + i * 2, none⟩ = some (.int .i64 (l2.getD i (0, 0)).1) := by simpa using hrg 0 _ rfl
      have hk2 : w2.cell? ⟨b2, off2 + i * 2 + 1, none⟩ = some (.int .i64 (l2.getD i (0, 0)).2) := by simpa using hrg 1 _ rfl
      obtain ⟨ka, kb, hu, hwa, hwb⟩ := HOK.out (l2.getD i (0, 0)) (by
        have e : l2.getD i (0, 0) = l2[i]'(by rw [HL2.out]; exact hin) := by simp [List.getD, show i < l2.length by rw [HL2.out]; exact hin]
        rw [e]; exact List.getElem_mem _)
      rw [hu] at hk1 hk2
      dsimp only at hk1 hk2
      have HWB := Shut.mk hwb
      clear hrg hu hwa hwb
      obtain ⟨n, hn⟩ : ∃ n, n = x.ds.length := ⟨_, rfl⟩
      rw [← hn] at HRB HLE hc ⊢
      have HN9 := Shut.mk hn
      clear hn
      go_upto_if 50 with (fail)
      go_cut [] from 50 to 69 (fun wx => ∃ x : Wo, Shut (InvW x) ∧ Shut (x.sz = z) ∧ IsWin wx g x ∧ Below w.heap.size w wx)
      case first =>
        by_cases hka : ka = 1
        · subst hka
          by_cases hgz : x.gv < x.sz
          · go_wp2_with (fail)
            refine (next_ok g x w2 HX2.out HI.out hgz).mono ?_
            rintro e w3 ⟨rfl, hx, ho⟩
            have HX3 := Shut.mk hx
            have HB3 := Shut.mk (below_only HB2.out (Nat.le_refl _) HGW.out ho)
            clear hx ho
            go_wp2_with (fail)
            go_meet
            exact ⟨nextW x, ⟨inv_next HI.out hgz⟩, ⟨HSZ2.out⟩, HX3.out, HB3.out⟩
          · go_wp2_with (fail)
            refine (next_no g x w2 HX2.out HI.out hgz).mono ?_
            rintro e w3 ⟨rfl, n3, hn3⟩
            have HX3 := Shut.mk (show IsWin w3 g x by rw [hn3]; exact HX2.out)
            have HB3 := Shut.mk (show Below w.heap.size w w3 by rw [hn3]; exact below_drewN HB2.out n3)
            clear hn3
            go_wp2_with (fail)
            go_meet
            exact ⟨x, HI, HSZ2, HX3.out, HB3.out⟩
        · have hka1 : (ka == 1) = false := by simpa using hka
          by_cases hp : 0 < n
          · have hp2 : (0 : Int) < (n : Int) := by omega
            have hn64 : n ≤ 64 := by have := HLE.out; omega
            go_wp2_with (fail)
            refine (number_any kb n _ HWB.out (by omega) (by omega)).mono ?_
            rintro e wn ⟨rfl, rfl⟩
            have hm0 := nmod_lo kb n (by omega)
            have hm1 := nmod_hi kb n (by omega)
            obtain ⟨q, hnm⟩ := Int.eq_ofNat_of_zero_le hm0
            rw [hnm] at hm1 ⊢
            clear hm0 hnm
            have hqn : q < n := by omega
            obtain ⟨b4, off4, rfl, hcq⟩ := HRB.out.el q hqn
            rw [outI_at x (by rw [← HN9.out]; exact hqn)] at hcq
            have hmem := ds_mem x (show q < x.ds.length by rw [← HN9.out]; exact hqn)
            obtain ⟨d, hd⟩ : ∃ d, d = x.ds.getD q 0 := ⟨_, rfl⟩
            rw [← hd] at hcq hmem
            clear hd
            go_wp2_with (fail)
            refine (done_ok g x d w2 HX2.out HI.out hmem (HT.out.below HB2.out) HGT.out).mono ?_
            rintro e w3 ⟨rfl, hx, ho⟩
            have HX3 := Shut.mk hx
            have HB3 := Shut.mk (below_only HB2.out (Nat.le_refl _) HGW.out ho)
            clear hx ho hcq
            go_wp2_with (fail)
            go_meet
            exact ⟨doneW x d, ⟨inv_done HI.out d⟩, ⟨HSZ2.out⟩, HX3.out, HB3.out⟩
          · obtain rfl : n = 0 := by omega
            go_wp2_with (fail)
            go_meet
            exact ⟨x, HI, HSZ2, HX2.out, HB2.out⟩
      case rest =>
        clear HX2 HX HB HRB hk1 hk2 HWB HI HSZ2 HLE hc HN9
        obtain ⟨x, HI, HSZ2, hx, hb⟩ := hcut
        have HX := Shut.mk hx
        have HB3 := Shut.mk hb
        clear hx hb
        go_wp2_with (fail)
        refine (out_any g x wc HX.out HI.out (HT.out.below HB3.out)).mono ?_
        rintro e w4 ⟨q, rfl, hr, hf, hb⟩
        obtain ⟨A2, c2, rfl, hc2, -⟩ := hr.form
        have HX4 := Shut.mk (HX.out.below hb)
        have HB4 := Shut.mk (HB3.out.trans (hb.mono HB3.out.size))
        have hll := out_len HI.out
        have hgs := HI.out.gv
        have hs64 := HI.out.sz
        have HRB := Shut.mk (hr.row (by rw [outI_len]; unfold maxLen; omega) (outI_wf x))
        rw [outI_len] at HRB hc2 ⊢
        obtain ⟨n2, hn2⟩ : ∃ n2, n2 = x.ds.length := ⟨_, rfl⟩
        rw [← hn2] at HRB hc2 hll ⊢
        have HN2 := Shut.mk hn2
        have HLE := Shut.mk (show n2 ≤ x.gv ∧ x.gv ≤ z ∧ z ≤ 64 from ⟨hll, by rw [← HSZ2.out]; exact hgs, by rw [← HSZ2.out]; exact hs64.2⟩)
        have hnz : decide ((z : Int) < (n2 : Int)) = false := by have := HLE.out; simp; omega
        have hgz : decide ((z : Int) < (x.gv : Int)) = false := by have := HLE.out; simp; omega
        have hnzN : decide (z < n2) = false := by have := HLE.out; simp; omega
        have hgzN : decide (z < x.gv) = false := by have := HLE.out; simp; omega
        have HST := Shut.mk (fun w n (h : IsWin w g x) => quiet_same (n := n) (start_any g x (w.drewN n) h))
        have HAH := Shut.mk (fun w n (h : IsWin w g x) => quiet_same (n := n) (ahead_any g x (w.drewN n) h))
        have HDI := Shut.mk (fun (w : World) (n : Nat) => quiet_b (congrArg (Value.int .i64) (rd_dist x HI.out.st (show x.gv < 4096 by have := HLE.out; omega))) (refdist_any (x.st : Nat) (nmW x x.gv : Nat) (w.drewN n) (by have := HI.out.st; omega) (by have := nm_lt x x.gv; omega)))
        clear hr hb hf hll hgs hs64 hn2
        go_upto_region 21 with (fail)
        go_cut [109] from 72 to 109 (fun u wx => u = .bool false ∧ ∃ n, wx = w4.drewN n)
        case first =>
          rcases Nat.eq_zero_or_pos n2 with h0 | h0
          · have hp1 : decide ((0 : Int) < (n2 : Int)) = false := by simp; omega
            have hp1N : decide (0 < n2) = false := by simp; omega
            have hp2 : ((n2 : Int) == 0) = true := by simp; omega
            have hsa : (((x.st : Nat) : Int) != ((nmW x x.gv : Nat) : Int)) = false := by
              have h1 := inv_none HI.out (List.eq_nil_of_length_eq_zero (by rw [← HN2.out]; exact h0))
              have h2 := HI.out.st
              have h3 : nmW x x.gv = x.st := by unfold nmW; rw [h1]; omega
              rw [h3]; simp
            clear h0
            go_quiet ((first | (go_at_call 21; exact HST.out _ _ HX4.out) | (go_at_call 13; exact HAH.out _ _ HX4.out) | (go_at_call 26; exact HDI.out _ _)))
            go_wp2_with (fail)
            go_meet
            exact ⟨rfl, _, rfl⟩
          · obtain ⟨b4, off4, rfl, hc0⟩ := HRB.out.el 0 h0
            rw [outI_at x (by rw [← HN2.out]; exact h0)] at hc0
            have hd0 : x.ds.getD 0 0 = 0 := by
              cases hds : x.ds with
              | nil => rw [hds] at HN2; have := HN2.out; simp at this; omega
              | cons d r => have := inv_head HI.out hds; subst this; rfl
            rw [hd0, show nmW x 0 = x.st by have h2 := HI.out.st; unfold nmW; omega, Nat.add_zero] at hc0
            have hp1 : decide ((0 : Int) < (n2 : Int)) = true := by simp; omega
            have hp1N : decide (0 < n2) = true := by simp; omega
            have hp4 : (0 : Int) < (n2 : Int) := by omega
            have hp2 : ((n2 : Int) == 0) = false := by simp; omega
            have hp3 : ((x.st : Int) != (x.st : Int)) = false := by simp
            clear hd0
            go_quiet ((first | (go_at_call 21; exact HST.out _ _ HX4.out) | (go_at_call 13; exact HAH.out _ _ HX4.out) | (go_at_call 26; exact HDI.out _ _)))
            go_wp2_with (fail)
            go_meet
            exact ⟨rfl, _, rfl⟩
        case rest =>
          obtain ⟨rfl, n5, rfl⟩ := hcut
          have HX5 := Shut.mk (show IsWin (w4.drewN n5) g x from HX4.out)
          have HB5 := Shut.mk (below_drewN HB4.out n5)
          have HRB5 := Shut.mk (HRB.out.drewN n5)
          generalize World.drewN w4 n5 = w5 at *
          have HIN := Shut.mk (fun (w : World) (n d : Nat) (hd : d < x.gv) => quiet_b (u := .bool true) (by rw [rd_dist x HI.out.st (show d < 4096 by have := HLE.out; omega)]; have := HLE.out; simp; omega) (refin_any (x.st : Nat) (z : Nat) (nmW x d : Nat) (w.drewN n) (by have := HI.out.st; omega) (by have := nm_lt x d; omega)))
          have HDG := Shut.mk (fun (w : World) (n d : Nat) (hd : d < x.gv) => quiet_b (congrArg (Value.int .i64) (rd_dist x HI.out.st (show d < 4096 by have := HLE.out; omega))) (refdist_any (x.st : Nat) (nmW x d : Nat) (w.drewN n) (by have := HI.out.st; omega) (by have := nm_lt x d; omega)))
          go_wp2_with (fail)
          go_loopw [12] (fun fk wr => ∃ k n : Nat, k ≤ n2 ∧ fk = .int .i64 k ∧ wr = w5.drewN n) (fun fk _ => n2 - (intOf fk).toNat)
          case atStart => exact ⟨0, 0, Nat.zero_le _, rfl, rfl⟩
          case round =>
            obtain ⟨k, n, hk, rfl, rfl⟩ := hrel
            have HX6 := Shut.mk (show IsWin (w5.drewN n) g x from HX5.out)
            have HB6 := Shut.mk (below_drewN HB5.out n)
            have HRB6 := Shut.mk (HRB5.out.drewN n)
            obtain ⟨w6, hw6⟩ : ∃ w6, w6 = w5.drewN n := ⟨_, rfl⟩
            rw [← hw6] at HX6 HB6 HRB6 ⊢
            have HW6 := Shut.mk hw6
            clear hw6 hnz hnzN hgz hgzN
            by_cases hkn : k < n2
            · have hkn2 : (k : Int) < (n2 : Int) := by omega
              have hk64 : (k : Int) < 64 := by have := HLE.out; omega
              go_upto_region 26 with (fail)
              go_cut [146] from 116 to 146 (fun u wx => u = .bool false ∧ ∃ n, wx = w6.drewN n)
              case first =>
                obtain ⟨b4, off4, rfl, hcs⟩ := HRB6.out.cells (by omega)
                have hc1 := hcs k hkn
                rw [outI_at x (by rw [← HN2.out]; exact hkn)] at hc1
                have hm1 := HI.out.lt _ (ds_mem x (show k < x.ds.length by rw [← HN2.out]; exact hkn))
                obtain ⟨d1, hd1⟩ : ∃ d, d = x.ds.getD k 0 := ⟨_, rfl⟩
                rw [← hd1] at hc1 hm1
                have HD1 := Shut.mk hd1
                clear hd1
                rcases Nat.eq_zero_or_pos k with h0 | h0
                · have hp1 : decide ((0 : Int) < (k : Int)) = false := by simp; omega
                  have hp1N : decide (0 < k) = false := by simp; omega
                  clear h0 hcs
                  go_quiet ((first | (go_at_call 21; exact HST.out _ _ HX6.out) | (go_at_call 27; exact HIN.out _ _ _ hm1) | (go_at_call 26; exact HDG.out _ _ _ (by assumption))))
                  go_wp2_with (fail)
                  go_meet
                  exact ⟨rfl, _, rfl⟩
                · obtain ⟨j, hk9⟩ : ∃ j, k = j + 1 := ⟨k - 1, by omega⟩
                  have hc0 := hcs j (by omega)
                  rw [outI_at x (by rw [← HN2.out]; omega)] at hc0
                  have hm0 := HI.out.lt _ (ds_mem x (show j < x.ds.length by rw [← HN2.out]; omega))
                  have hlt := ds_rise HI.out (i := j) (j := k) (by omega) (show k < x.ds.length by rw [← HN2.out]; exact hkn)
                  rw [← HD1.out] at hlt
                  obtain ⟨d0, hd0⟩ : ∃ d, d = x.ds.getD j 0 := ⟨_, rfl⟩
                  rw [← hd0] at hc0 hm0 hlt
                  clear hd0
                  have hwj : IntKind.i64.wrap ((k : Int) - 1) = (j : Int) := by rw [IntWalk.i64_in _ ⟨by omega, by have := HLE.out; omega⟩]; omega
                  have hjn : (j : Int) < (n2 : Int) := by omega
                  have hp1 : decide ((0 : Int) < (k : Int)) = true := by simp; omega
                  have hp1N : decide (0 < k) = true := by simp; omega
                  have hle1 : decide ((d1 : Int) ≤ (d0 : Int)) = false := by simp; omega
                  have hle2 : decide (d1 ≤ d0) = false := by simp; omega
                  clear hk9 h0 hcs hlt
                  go_quiet ((first | (go_at_call 21; exact HST.out _ _ HX6.out) | (go_at_call 27; exact HIN.out _ _ _ hm1) | (go_at_call 26; exact HDG.out _ _ _ (by assumption))))
                  go_wp2_with (fail)
                  go_meet
                  exact ⟨rfl, _, rfl⟩
              case rest =>
                obtain ⟨rfl, n7, rfl⟩ := hcut
                go_wp2_with (fail)
                go_roundw
                case rel => exact ⟨k + 1, n + n7, by omega, by go_num, by rw [HW6.out]; simp [World.drewN, Nat.add_assoc]⟩
                case measure => simp [intOf]; omega
            · go_wp2_with (fail)
              go_roundw
              case rel => exact ⟨i + 1, x, by omega, by go_num, HI, HSZ2, HX6.out, HB6.out⟩
              case measure => simp [intOf]; omega
    · have hi' : i = len2 := by omega
      subst hi'
      go_wp2_with (fail)
      go_ret
      exact ⟨rfl, HB.out⟩

end Go.Proofs.YtempcbjojcebaaaDoor.winHolds
