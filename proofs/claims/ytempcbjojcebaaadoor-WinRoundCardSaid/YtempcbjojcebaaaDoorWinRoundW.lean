/-
  The walk of muezzin/muezzinlaw15.WinRound: the Go text returns true.
-/
import Derived.Test.YtempcbjojcebaaaDoorDoW
import Derived.Test.YtempcbjojcebaaaDoorDoW
import Derived.Test.YtempcbjojcebaaaDoorErrP
import Derived.LoopTactic
import Derived.WalkKit
import Derived.ProofKit
import Derived.Below
namespace Go.Proofs.YtempcbjojcebaaaDoor.winRound
open Go.ChangeShapes Go.WideShapes Go.ChangeAt Go.RowKit Go.Deep
set_option linter.unusedVariables false
set_option linter.unusedSimpArgs false


open Go.Proofs.YtempcbjojcebaaaDoor
theorem inv_line {st gv sz : Nat} (h : st < 4096) (h1 : 1 ≤ sz) (h2 : sz ≤ 64) (hg : gv ≤ sz) : InvW (lineW st gv sz) where
  st := h
  sz := ⟨h1, h2⟩
  gv := hg
  up := List.pairwise_lt_range
  lt := fun d hd => List.mem_range.1 hd
  first := by
    show frontW _ (List.range gv) = 0
    cases gv with
    | zero => rfl
    | succ n => rw [List.range_succ_eq_map]; rfl
theorem below_only {B : Nat} {g : Nat} {a b c : World} (h : Below B a b) (hB : B ≤ a.heap.size) (hg : B ≤ g) (ho : Only (· = g) b c) : Below B a c :=
  h.trans (ho.below (fun i hi e => by omega) (Nat.le_trans hB h.size))

/-! ### THE WALK -/
set_option maxRecDepth 100000 in
set_option maxHeartbeats 8000000 in
theorem walk (n0 : Int) (n1 : Int) (n2 : Int) (w : World) (E : Nat → Addr) (hS : Sent w E [103, 107]) (hT : Tab64 w) (w0 : (Lit.int .i64 n0).wf = true) (w1 : (Lit.int .i64 n1).wf = true) (w2 : (Lit.int .i64 n2).wf = true) :
    Calls Tryd.prog 5 #[.int .i64 n0, .int .i64 n1, .int .i64 n2] w fun e w' => e = .returned (.bool true) ∧ Below w.heap.size w w' := by
  have HS := Shut.mk hS
  have HT := Shut.mk hT
  have W0 := Shut.mk w0
  have W1 := Shut.mk w1
  clear hS hT w0 w1
  have W2 := Shut.mk w2
  clear w2
  go_enter Tryd.func5, Tryd.ntmps5
  go_wp2_with (fail)
  refine (first_any w).mono ?_
  rintro e wa ⟨rfl, hBa⟩
  have HBa := Shut.mk hBa
  clear hBa
  go_wp2_with (fail)
  refine (number_any n0 4096 wa W0.out (by decide) (by decide)).mono ?_
  rintro e wn ⟨rfl, rfl⟩
  have hm0 := nmod_lo n0 4096 (by decide)
  have hm1 := nmod_hi n0 4096 (by decide)
  obtain ⟨s, hnm⟩ := Int.eq_ofNat_of_zero_le hm0
  rw [hnm] at hm1 ⊢
  clear hm0 hnm
  have hs : s < 4096 := by omega
  clear hm1
  go_wp2_with (fail)
  refine (number_any n1 64 wa W1.out (by decide) (by decide)).mono ?_
  rintro e wn ⟨rfl, rfl⟩
  have hm0 := nmod_lo n1 64 (by decide)
  have hm1 := nmod_hi n1 64 (by decide)
  obtain ⟨m, hnm⟩ := Int.eq_ofNat_of_zero_le hm0
  rw [hnm] at hm1 ⊢
  clear hm0 hnm
  have hm : m < 64 := by omega
  clear hm1
  obtain ⟨z, hz⟩ : ∃ z : Nat, z = m + 1 := ⟨_, rfl⟩
  have HSZ := Shut.mk (show (m : Int) + 1 = (z : Int) by omega)
  have HZ := Shut.mk (show 1 ≤ z ∧ z ≤ 64 by omega)
  have hmz : (m : Int) < 64 := by omega
  have Hs := Shut.mk hs
  clear hz hm hs
  go_wp2_with (fail)
  rw [HSZ.out]
  refine (number_any n2 300 wa W2.out (by decide) (by decide)).mono ?_
  rintro e wn ⟨rfl, rfl⟩
  have hm0 := nmod_lo n2 300 (by decide)
  have hm1 := nmod_hi n2 300 (by decide)
  obtain ⟨n, hnm⟩ := Int.eq_ofNat_of_zero_le hm0
  rw [hnm] at hm1 ⊢
  clear hm0 hnm
  have hn : n < 300 := by omega
  clear hm1
  have HN := Shut.mk hn
  clear hn hmz
  have hz1 := HZ.out.1
  have hz2 := HZ.out.2
  go_wp2_with (fail)
  refine (new_ok s z Hs.out (by omega) (by omega) wa).mono ?_
  rintro e wb ⟨rfl, hx, hb⟩
  obtain ⟨g, hg⟩ : ∃ g, g = wa.heap.size := ⟨_, rfl⟩
  rw [← hg] at hx ⊢
  have HGW := Shut.mk (show w.heap.size ≤ g by have := HBa.out.size; omega)
  have HXb := Shut.mk hx
  have HGT := Shut.mk (show g ≠ 3 from fun e => by have h1 := cell_lt' (HT.out 0 (by decide)); have h2 := HGW.out; have h3 : 3 < w.heap.size := h1; omega)
  have HBb := Shut.mk (HBa.out.trans (hb.mono HBa.out.size))
  clear hx hb hg HBa
  have HR0 := Shut.mk (show IsWin wb g (lineW ((s + (0 - min 0 (z - 1))) % 4096) (min 0 (z - 1)) z) by
    have e : lineW ((s + (0 - min 0 (z - 1))) % 4096) (min 0 (z - 1)) z = newW s z := by
      have h := Hs.out
      unfold lineW newW
      rw [show min 0 (z - 1) = 0 by omega, show (s + (0 - 0)) % 4096 = s by omega]
      rfl
    rw [e]; exact HXb.out)
  clear HXb
  go_wp2_with (fail)
  go_loopw [10, 11, 12] (fun fi _ _ wr => ∃ i : Nat, i ≤ n ∧ fi = .int .i64 i ∧ IsWin wr g (lineW ((s + (i - min i (z - 1))) % 4096) (min i (z - 1)) z) ∧ Below w.heap.size w wr) (fun fi _ _ _ => n - (intOf fi).toNat)
  case atStart => exact ⟨0, Nat.zero_le _, rfl, HR0.out, HBb.out⟩
  case round =>
    clear HR0 HBb
    obtain ⟨i, hi, rfl, hx, hb⟩ := hrel
    have HX := Shut.mk hx
    have HB := Shut.mk hb
    clear hx hb
    obtain ⟨v, hv⟩ : ∃ v, v = min i (z - 1) := ⟨_, rfl⟩
    have HV := Shut.mk hv
    rw [← hv] at HX
    obtain ⟨t, ht⟩ : ∃ t, t = (s + (i - v)) % 4096 := ⟨_, rfl⟩
    have HTT := Shut.mk ht
    rw [← ht] at HX
    have HT4 := Shut.mk (show t < 4096 by omega)
    have HVZ := Shut.mk (show v < z by omega)
    have HVI := Shut.mk (show v ≤ i by omega)
    have HI := Shut.mk (inv_line (st := t) (gv := v) (sz := z) HT4.out HZ.out.1 HZ.out.2 (by omega))
    have HNM := Shut.mk (show nmW (lineW t v z) (lineW t v z).gv = (s + i) % 4096 by unfold nmW lineW; dsimp only; omega)
    clear ht hv
    by_cases hin : i < n
    · have hin2 : (i : Int) < (n : Int) := by omega
      go_wp2_with (fail)
      refine (next_ok g _ wr HX.out HI.out HVZ.out).mono ?_
      rintro e w2 ⟨rfl, hx, ho⟩
      rw [line_next] at hx
      rw [HNM.out]
      have HX2 := Shut.mk hx
      have HB2 := Shut.mk (below_only HB.out (Nat.le_refl _) HGW.out ho)
      have HT2 := Shut.mk (HT.out.below HB2.out)
      clear hx ho
      obtain ⟨a, ha⟩ : ∃ a : Nat, a = (s + i) % 4096 := ⟨_, rfl⟩
      have hrem : ((s : Int) + (i : Int)) % 4096 = (a : Int) := by omega
      rw [← ha]
      have HA := Shut.mk ha
      have hw1 : 0 ≤ (s : Int) + (i : Int) := by omega
      have HN300 := HN.out
      have Hs4 := Hs.out
      have hs9 : (s : Int) < 4096 := by omega
      have hi9 : (i : Int) < 300 := by omega
      clear ha
      by_cases hlt : z - 1 ≤ i
      · have hge : ¬ (i : Int) < (z : Int) - 1 := by omega
        have hge2 : (z : Int) - 1 ≤ (i : Int) := by omega
        have hr2 : ((s : Int) + (i : Int) - (z : Int) + 1) % 4096 = (t : Int) := by have h1 := HTT.out; have h2 := HV.out; omega
        have hp3 : 0 ≤ (s : Int) + (i : Int) - (z : Int) + 1 := by omega
        go_wp2_with (fail)
        have HVV := Shut.mk (show v = z - 1 by have h2 := HV.out; omega)
        have hdn := done_ok g (lineW t (v + 1) z) 0 w2 HX2.out (inv_line HT4.out HZ.out.1 HZ.out.2 HVZ.out) (List.mem_range.2 (Nat.succ_pos _)) HT2.out HGT.out
        rw [show nmW (lineW t (v + 1) z) 0 = t by unfold nmW lineW; dsimp only; have := HT4.out; omega, line_done] at hdn
        refine hdn.mono ?_
        rintro e w3 ⟨rfl, hx, ho⟩
        have HX3 := Shut.mk (show IsWin w3 g (lineW ((s + (i + 1 - min (i + 1) (z - 1))) % 4096) (min (i + 1) (z - 1)) z) by
          have h1 := HVV.out
          have h2 := HTT.out
          rw [show min (i + 1) (z - 1) = v by omega, show (s + (i + 1 - v)) % 4096 = (t + 1) % 4096 by omega]
          exact hx)
        have HB3 := Shut.mk (below_only HB2.out (Nat.le_refl _) HGW.out ho)
        clear hdn hx ho
        go_wp2_with (fail)
        go_roundw
        case rel => exact ⟨i + 1, by omega, by go_num, HX3.out, HB3.out⟩
        case measure => simp [intOf]; omega
      · have hge : (i : Int) < (z : Int) - 1 := by omega
        have hge2 : ¬ (z : Int) - 1 ≤ (i : Int) := by omega
        have HX3 := Shut.mk (show IsWin w2 g (lineW ((s + (i + 1 - min (i + 1) (z - 1))) % 4096) (min (i + 1) (z - 1)) z) by
          have h1 := HV.out
          have h2 := HTT.out
          rw [show min (i + 1) (z - 1) = v + 1 by omega, show (s + (i + 1 - (v + 1))) % 4096 = t by omega]
          exact HX2.out)
        go_wp2_with (fail)
        go_roundw
        case rel => exact ⟨i + 1, by omega, by go_num, HX3.out, HB2.out⟩
        case measure => simp [intOf]; omega
    · have hi' : i = n := by omega
      subst hi'
      have HMN := Shut.mk (show min (i : Int) ((z : Int) - 1) = (v : Int) by have h1 := HV.out; omega)
      obtain ⟨a, ha⟩ : ∃ a : Nat, a = (s + i) % 4096 := ⟨_, rfl⟩
      have hrem : ((s : Int) + (i : Int)) % 4096 = (a : Int) := by omega
      rw [← ha] at HNM
      have hw1 : 0 ≤ (s : Int) + (i : Int) := by omega
      have HN300 := HN.out
      have Hs4 := Hs.out
      have hs9 : (s : Int) < 4096 := by omega
      have hi9 : (i : Int) < 300 := by omega
      clear ha hin
      go_wp2_with (fail)
      refine (ahead_any g _ wr HX.out).mono ?_
      rintro e wn ⟨rfl, rfl⟩
      rw [HNM.out]
      go_wp2_with (fail)
      refine (out_any g _ wr HX.out HI.out (HT.out.below HB.out)).mono ?_
      rintro e w2 ⟨q, rfl, hr, -, hb⟩
      obtain ⟨A, c, rfl, hc, -⟩ := hr.form
      have hll : (outI (lineW t v z)).length = v := by rw [outI_len]; exact List.length_range
      rw [hll] at hc ⊢
      have HB2 := Shut.mk (HB.out.trans (hb.mono HB.out.size))
      clear hr hb hll
      rcases Nat.lt_or_ge (z - 1) i with hl | hl
      · have h1 : (z : Int) - 1 < (i : Int) := by omega
        have h2 : ((v : Int) == (z : Int) - 1) = true := by have hvv := HV.out; simp; omega
        clear hrem
        go_wp2_with (fail)
        go_ret
        exact ⟨rfl, HB2.out⟩
      · have h1 : (i : Int) ≤ (z : Int) - 1 := by omega
        obtain rfl : v = i := by have hvv := HV.out; omega
        clear hrem
        go_wp2_with (fail)
        go_ret
        exact ⟨rfl, HB2.out⟩

end Go.Proofs.YtempcbjojcebaaaDoor.winRound
