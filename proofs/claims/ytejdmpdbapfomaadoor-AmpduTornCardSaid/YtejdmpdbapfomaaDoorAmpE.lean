/-
  CONTRACTS of package ampdu: Parts, Unpack.
-/
import Derived.Test.YtejdmpdbapfomaaDoorAmpD
namespace Go.Proofs.YtejdmpdbapfomaaDoor
open Go.ChangeShapes Go.WideShapes Go.ChangeAt Go.RowKit Go.Deep
set_option linter.unusedVariables false
set_option linter.unusedSimpArgs false

/-! ### the maths of Parts' steps -/
def partsS (r : List Int) : Nat × List (List Int) := if r = [] then (101, []) else partsR r
theorem partsS_bad {r : List Int} (h : codeD r ≠ 0) : partsS r = (codeD r, []) := by
  unfold partsS
  by_cases h0 : r = []
  · rw [if_pos h0, h0]; rfl
  have hl : r.length ≠ 0 := fun e => h0 (List.eq_nil_of_length_eq_zero e)
  rw [if_neg h0, partsR, if_neg hl]
  unfold codeD at h ⊢
  by_cases h1 : r.length < 4
  · rw [dif_pos h1, if_pos h1]
  rw [if_neg h1] at h
  rw [dif_neg h1, if_neg h1]
  by_cases h2 : sum (r.take 2) ≠ r.getD 2 0
  · rw [if_pos h2, if_pos h2]
  rw [if_neg h2] at h
  rw [if_neg h2, if_neg h2]
  by_cases h3 : r.getD 3 0 ≠ 78 ∨ r.getD 0 0 % 16 ≠ 0 ∨ lenD r = 0
  · rw [if_pos h3, if_pos h3]
  rw [if_neg h3] at h
  rw [if_neg h3, if_neg h3]
  by_cases h4 : r.length < 4 + lenD r
  · rw [if_pos h4, if_pos h4]
  rw [if_neg h4] at h
  exact absurd rfl h
theorem partsS_step {r : List Int} (h : codeD r = 0) : partsS r = if ((r.drop (4 + lenD r)).take (pad (lenD r))).any (· != 0) = true then (102, [])
    else if 0 < (r.drop (4 + lenD r)).length ∧ (r.drop (4 + lenD r)).length ≤ pad (lenD r) then (101, []) else comb [(r.drop 4).take (lenD r)] (partsR (r.drop (4 + lenD r + pad (lenD r)))) := by
  obtain ⟨c1, c2, c3, c4, c5, c6⟩ := codeD_fine h
  have h0 : r ≠ [] := fun e => by rw [e] at c1; simp at c1
  unfold partsS
  rw [if_neg h0, partsR, if_neg (by omega), dif_neg (by omega), if_neg (by simp only [Decidable.not_not]; exact c2), if_neg (by simp only [not_or, Decidable.not_not]; exact ⟨c3, c4, by omega⟩), if_neg (by omega)]
theorem partsS_end {r : List Int} (h : codeD r = 0) (hr : r.length = 4 + lenD r) : partsS r = (0, [(r.drop 4).take (lenD r)]) := by
  have e : r.drop (4 + lenD r) = [] := List.drop_of_length_le (by omega)
  have e2 : r.drop (4 + lenD r + pad (lenD r)) = [] := List.drop_of_length_le (by omega)
  rw [partsS_step h, e, e2, if_neg (by simp), if_neg (by simp), parts_nil]
  rfl
theorem partsS_zero {r : List Int} (h : codeD r = 0) (hz : codeZ (r.drop (4 + lenD r)) (pad (lenD r)) ≠ 0) : partsS r = (102, []) := by
  rw [partsS_step h, if_pos]
  unfold codeZ at hz
  by_cases h1 : ((r.drop (4 + lenD r)).take (pad (lenD r))).any (· != 0) = true
  · exact h1
  · rw [if_neg h1] at hz; exact absurd rfl hz
theorem partsS_next {r : List Int} (h : codeD r = 0) (hr : r.length ≠ 4 + lenD r) (hz : codeZ (r.drop (4 + lenD r)) (pad (lenD r)) = 0) : partsS r = comb [(r.drop 4).take (lenD r)] (partsS (r.drop (4 + lenD r + pad (lenD r)))) := by
  obtain ⟨c1, c2, c3, c4, c5, c6⟩ := codeD_fine h
  have hn : ¬ ((r.drop (4 + lenD r)).take (pad (lenD r))).any (· != 0) = true := by
    intro h1
    unfold codeZ at hz
    rw [if_pos h1] at hz
    cases hz
  rw [partsS_step h, if_neg hn]
  have hl : (r.drop (4 + lenD r)).length = r.length - (4 + lenD r) := by simp
  by_cases h2 : r.length - (4 + lenD r) ≤ pad (lenD r)
  · rw [if_pos (by rw [hl]; omega)]
    have e : r.drop (4 + lenD r + pad (lenD r)) = [] := List.drop_of_length_le (by omega)
    rw [e]
    rfl
  · rw [if_neg (by rw [hl]; omega)]
    unfold partsS
    rw [if_neg]
    intro e
    have := congrArg List.length e
    simp at this
    omega
theorem codeR_bad {xs : List Int} (h0 : xs ≠ []) {c : Nat} {l : List (List Int)} (h : partsR xs = (c, l)) (hc : c ≠ 0) : codeR xs = c ∧ outR xs = [] := by
  have e : codeR xs = c := by unfold codeR; rw [if_neg h0, h, if_pos hc]
  exact ⟨e, by unfold outR; rw [e, if_neg hc]⟩
theorem codeR_good {xs : List Int} (h0 : xs ≠ []) {l : List (List Int)} (h : partsR xs = (0, l)) : codeR xs = (if manyB (l.length : Int) (xs.length : Int) = true then 104 else 0) ∧ outR xs = if manyB (l.length : Int) (xs.length : Int) = true then [] else l := by
  have hm : manyB (l.length : Int) (xs.length : Int) = true ↔ (64 < l.length ∨ 65535 < xs.length) := by
    unfold manyB
    simp only [Bool.or_eq_true, decide_eq_true_eq]
    omega
  have e : codeR xs = if manyB (l.length : Int) (xs.length : Int) = true then 104 else 0 := by
    unfold codeR
    rw [if_neg h0, h, if_neg (by simp)]
    by_cases hq : 64 < l.length ∨ 65535 < xs.length
    · rw [if_pos hq, if_pos (hm.2 hq)]
    · rw [if_neg hq, if_neg (fun h => hq (hm.1 h))]
  refine ⟨e, ?_⟩
  unfold outR
  rw [e, h]
  split <;> simp_all
theorem comb_bad (out : List (List Int)) {c : Nat} (hc : c ≠ 0) : comb out (c, []) = (c, []) := by unfold comb; rw [if_neg hc]
theorem comb_good (out l : List (List Int)) : comb out (0, l) = (0, out ++ l) := by unfold comb; rw [if_pos rfl]
def OutB (xs : List Int) (E : Nat → Addr) (w : World) (e : Ending) (w' : World) : Prop := ∃ A n c, e = .returned (.tuple #[.slice A n c, errV E (codeR xs)]) ∧ RowP w' A n (outR xs) ∧ n ≤ c ∧ Below w.heap.size w w'
theorem OutB.bad {xs : List Int} {E : Nat → Addr} {w w' : World} {c : Nat} (h : codeR xs = c ∧ outR xs = []) (hc : c ≠ 0) (hb : Below w.heap.size w w') : OutB xs E w (.returned (.tuple #[.slice none 0 0, errP (E c)])) w' :=
  ⟨none, 0, 0, by rw [h.1, errV_pos E hc], by rw [h.2]; exact RowP.nil, Nat.le_refl _, hb⟩
theorem OutB.badV {xs : List Int} {E : Nat → Addr} {w w' : World} {c : Nat} (h : codeR xs = c ∧ outR xs = []) (hb : Below w.heap.size w w') : OutB xs E w (.returned (.tuple #[.slice none 0 0, errV E c])) w' :=
  ⟨none, 0, 0, by rw [h.1], by rw [h.2]; exact RowP.nil, Nat.le_refl _, hb⟩
theorem OutB.good {xs : List Int} {E : Nat → Addr} {w w' : World} {l : List (List Int)} {e : TypeId} {v : Value} {k : Nat} (h : codeR xs = 0 ∧ outR xs = l) (hP : OwnP w' w.heap.size e v k l) (hk : k ≤ 1000000000) (hb : Below w.heap.size w w') : OutB xs E w (.returned (.tuple #[v, .nilIface])) w' := by
  obtain ⟨A, c, rfl, hr, hc⟩ := hP.row (by unfold maxLen; omega)
  exact ⟨A, k, c, by rw [h.1, errV_zero], by rw [h.2]; exact hr, hc, hb⟩
theorem OwnP.drewN {w : World} {base : Nat} {e : TypeId} {v : Value} {n : Nat} {xss : List (List Int)} (h : OwnP w base e v n xss) (m : Nat) : OwnP (w.drewN m) base e v n xss := h.below (below_drewN (Below.refl _ _) m)
/-- a piece of a row. -/
theorem piece {w : World} {b off n : Nat} {xs : List Int} (h : RowB .u8 w (some ⟨b, off, none⟩) n xs) (t L : Nat) (ht : t + L ≤ n) : RowB .u8 w (some ⟨b, off + t, none⟩) L ((xs.drop t).take L) := by
  have h1 := (drop_row h t (by omega)).first L (by omega)
  exact h1
set_option maxRecDepth 100000 in
set_option maxHeartbeats 8000000 in
theorem parts_any (A : Option Addr) (n c : Nat) (xs : List Int) (E : Nat → Addr) (w : World) (h : RowB .u8 w A n xs) (hnc : n ≤ c) (hn : n ≤ 100000000) (hS : Sent w E S5) :
    Calls Tryd.prog 12 #[.slice A n c] w fun e w' => OutB xs E w e w' := by
  have HS := Lib.hid hS
  rcases Nat.eq_zero_or_pos n with h0 | hp
  · subst h0
    have h102 := hS.at_ 102 (by decide)
    simp only [gOf] at h102
    have hx : xs = [] := List.eq_nil_of_length_eq_zero h.len
    have HC := Lib.hid (show codeR xs = 102 ∧ outR xs = [] by rw [hx]; exact ⟨rfl, rfl⟩)
    clear h hS hx
    go_enter Tryd.func12, Tryd.ntmps12
    go_wp2
    go_quiet (fail)
    go_wp2
    go_ret2
    exact OutB.bad HC.out (by decide) (below_drewN (Below.refl _ _) _)
  obtain ⟨b, off, rfl, -⟩ := h.cells hp
  have HR := Lib.hid h
  have HL := Lib.hid h.len
  have HNE := Lib.hid (show xs ≠ [] from fun e => by have := h.len; rw [e] at this; simp at this; omega)
  have hn0 : ((n : Int) == 0) = false := by simp; omega
  have h00 : Hid (partsS (xs.drop 0) = partsR xs) := Lib.hid (by unfold partsS; rw [List.drop_zero, if_neg HNE.out])
  clear h hS
  go_enter Tryd.func12, Tryd.ntmps12
  go_wp2
  go_loopw [4, 5] (fun v i wr => ∃ (t k : Nat) (out : List (List Int)), t ≤ n ∧ (t % 4 = 0 ∨ t = n) ∧ k ≤ t ∧ i = .int .i64 t ∧ OwnP wr w.heap.size 23 v k out ∧ comb out (partsS (xs.drop t)) = partsR xs ∧ Below w.heap.size w wr) (fun _ i _ => n - (intOf i).toNat)
  case atStart => exact ⟨0, 0, [], by omega, .inl rfl, by omega, rfl, OwnP.nil _ _ _, by rw [h00.out]; exact comb_nil _ (parts_zero _), Below.refl _ _⟩
  case round =>
    obtain ⟨t, k, out, ht, hm, hk, rfl, hown, hinv, hbel⟩ := hrel
    have HP := Lib.hid hown
    have HI := Lib.hid hinv
    have HB := Lib.hid hbel
    have HM := Lib.hid hm
    clear hown hinv hbel hm
    by_cases htc : t < c
    · go_wp2_with (fail)
      refine (size_any (some ⟨b, off + t, none⟩) (n - t) (c - t) (xs.drop t) E wr (drop_row (HR.out.below HB.out) t ht) (by omega) (by omega) (HS.out.below HB.out)).mono ?_
      rintro e w2 ⟨he, m, rfl⟩
      unfold SizeD at he
      subst he
      have HB2 := Lib.hid (below_drewN HB.out m)
      have HP2 := Lib.hid (HP.out.drewN m)
      clear HB HP
      generalize wr.drewN m = w2 at *
      by_cases hcd : codeD (xs.drop t) = 0
      case neg =>
        have HC := Lib.hid (codeR_bad HNE.out (l := []) (by rw [← HI.out, partsS_bad hcd, comb_bad _ hcd]) hcd)
        rw [if_neg hcd, errV_pos E hcd]
        have HCD := Lib.hid hcd
        clear hcd
        generalize codeD (xs.drop t) = cd at *
        go_wp2
        go_ret2
        exact OutB.bad HC.out HCD.out HB2.out
      rw [if_pos hcd, hcd, errV_zero]
      obtain ⟨c1, c2, c3, c4, c5, c6⟩ := codeD_fine hcd
      have HCD := Lib.hid hcd
      rw [List.length_drop, HL.out] at c6
      clear c1 c2 c3 c4 hcd
      obtain ⟨L, hL⟩ : ∃ L, L = lenD (xs.drop t) := ⟨_, rfl⟩
      have HLL := Lib.hid hL.symm
      rw [← hL] at c5 c6
      rw [← hL]
      clear hL
      have HPC := Lib.hid (fun (w' : World) (hB : Below w.heap.size w w') => piece (HR.out.below hB) (t + 4) L (by omega))
      obtain ⟨P, hPP⟩ : ∃ P, P = (xs.drop (t + 4)).take L := ⟨_, rfl⟩
      rw [← hPP] at HPC
      have HPE := Lib.hid hPP
      clear hPP
      have HPW := Lib.hid (fun i hi => (HPC.out w (Below.refl _ _)).wf8 i hi)
      have HKK := Lib.hid (show out.length = k by obtain ⟨_, _, h, _⟩ := HP2.out; exact h)
      obtain ⟨T, hT⟩ : ∃ T : Nat, (t : Int) + 4 + (L : Int) = (T : Int) := ⟨t + 4 + L, by omega⟩
      have hT1 : T ≤ n := by omega
      have hT2 : T - (t + 4) = L := by omega
      have HT := Lib.hid (show T = t + 4 + L by omega)
      go_wp2_with (fail)
      refine (clone_any b (off + (t + 4)) L (c - (t + 4)) P w2 (HPC.out w2 HB2.out) (by omega)).mono ?_
      rintro e w3 ⟨g3, cap3, rfl, hO3, hB3⟩
      have HE := Lib.hid (ElP.of_own HP2.out hO3 HPW.out)
      have HB3 := Lib.hid (HB2.out.trans (hB3.mono HB2.out.size))
      have HP3 := Lib.hid (HP2.out.below hB3)
      clear hO3 hB3 HB2 HP2
      by_cases hend : T = n
      · have d1 : ((T : Int) == (n : Int)) = true := by simp; omega
        subst hend
        have HEND := Lib.hid (show partsR xs = (0, out ++ [P]) by
          rw [← HI.out, partsS_end HCD.out (by rw [List.length_drop, HL.out, HLL.out]; have := HT.out; omega), comb_good, HLL.out, List.drop_drop, HPE.out])
        have HG := Lib.hid (codeR_good HNE.out HEND.out)
        rw [List.length_append, HKK.out, HL.out] at HG
        go_wp2_with (first | (refine app_part rfl (.tmp 29) (.tmp 35) rfl w.heap.size k u4 out rfl (HP3.out.below ((Below.refl w3.heap.size w3).alloc (Nat.le_refl _) _)) (.slice (some ⟨g3, 0, none⟩) L cap3) P (HE.out.keep (fun k _ hk => ((Below.refl w3.heap.size w3).alloc (Nat.le_refl _) _).block k hk)) ⟨w3.heap.size, 0, none⟩ 1 rfl (cell_one_new _ _ _ 0 _ rfl) (by omega) (by have := HB3.out.size; simp; omega) ?_; intro g5 cap5 w5 hP5 hb5; have HP5 := hP5; have HB5 := Lib.hid ((HB3.out.alloc HB3.out.size _).trans hb5.out); clear hP5 hb5 HP3 HB3 HE) | fail)
        refine (many_any ((k : Int) + 1) (T : Int) w5).mono ?_
        rintro e w' ⟨rfl, rfl⟩
        have HG := Lib.hid (show codeR xs = (if manyB ((k : Int) + 1) (T : Int) = true then 104 else 0) ∧ outR xs = if manyB ((k : Int) + 1) (T : Int) = true then [] else out ++ [P] from HG.out)
        cases hmy : manyB ((k : Int) + 1) (T : Int)
        · have HC := Lib.hid (show codeR xs = 0 ∧ outR xs = out ++ [P] by have := HG.out; rw [hmy] at this; exact this)
          clear hmy HG
          go_wp2
          go_ret2
          exact OutB.good HC.out HP5.out (by omega) HB5.out
        · have HC := Lib.hid (show codeR xs = 104 ∧ outR xs = [] by have := HG.out; rw [hmy] at this; exact this)
          have he0 := (HS.out.below HB5.out).at_ 104 (by decide)
          simp only [gOf] at he0
          clear hmy HG
          go_wp2
          go_quiet (fail)
          go_wp2
          go_ret2
          exact OutB.bad HC.out (by decide) (below_drewN HB5.out _)
      · have d1 : ((T : Int) == (n : Int)) = false := by simp; omega
        have hTc : T < c := by omega
        have HZR := Lib.hid (fun (w' : World) (hB : Below w.heap.size w w') => drop_row (HR.out.below hB) T hT1)
        have HZE := Lib.hid (show (xs.drop t).drop (4 + lenD (xs.drop t)) = xs.drop T by rw [List.drop_drop, HLL.out, HT.out, Nat.add_assoc])
        have HZP := Lib.hid (show pad T = pad L by
          have h1 := HT.out
          rcases HM.out with h2 | h2
          · unfold pad; omega
          · omega)
        have HZN := Lib.hid (show (xs.drop T).length = n - T by rw [List.length_drop, HL.out])
        go_wp2_with (first | (refine app_part rfl (.tmp 29) (.tmp 35) rfl w.heap.size k u4 out rfl (HP3.out.below ((Below.refl w3.heap.size w3).alloc (Nat.le_refl _) _)) (.slice (some ⟨g3, 0, none⟩) L cap3) P (HE.out.keep (fun k _ hk => ((Below.refl w3.heap.size w3).alloc (Nat.le_refl _) _).block k hk)) ⟨w3.heap.size, 0, none⟩ 1 rfl (cell_one_new _ _ _ 0 _ rfl) (by omega) (by have := HB3.out.size; simp; omega) ?_; intro g5 cap5 w5 hP5 hb5; have HP5 := hP5; have HB5 := Lib.hid ((HB3.out.alloc HB3.out.size _).trans hb5.out); clear hP5 hb5 HP3 HB3 HE) | fail)
        refine (filled_any b (off + T) (n - T) (c - T) T (xs.drop T) E w5 (HZR.out w5 HB5.out) (by omega) (by omega) (by omega) (by omega) (HS.out.below HB5.out)).mono ?_
        rintro e w6 ⟨he, m2, rfl⟩
        unfold FillD at he
        rw [HZP.out, HZN.out] at he
        subst he
        have HB6 := Lib.hid (below_drewN HB5.out m2)
        have HP6 := Lib.hid (HP5.out.drewN m2)
        clear HB5 HP5
        generalize w5.drewN m2 = w6 at *
        by_cases hz : codeZ (xs.drop T) (pad L) = 0
        · rw [if_pos hz, hz, errV_zero]
          have HNX := Lib.hid (show comb (out ++ [P]) (partsS (xs.drop (T + min (pad L) (n - T)))) = partsR xs by
            rw [← HI.out, partsS_next HCD.out (by rw [List.length_drop, HL.out, HLL.out]; have := HT.out; omega) (by rw [HZE.out, HLL.out]; exact hz), comb_comb, HLL.out, List.drop_drop, HPE.out, List.drop_drop]
            congr 2
            rcases Nat.le_total (pad L) (n - T) with h1 | h1
            · rw [Nat.min_eq_left h1, HT.out]; congr 1; omega
            · rw [Nat.min_eq_right h1, List.drop_of_length_le (by rw [HL.out]; omega), List.drop_of_length_le (by rw [HL.out]; have := HT.out; omega)])
          have HMX := Lib.hid (show (T + min (pad L) (n - T)) % 4 = 0 ∨ T + min (pad L) (n - T) = n by
            have h1 := HT.out
            rcases Nat.le_total (pad L) (n - T) with h2 | h2
            · rw [Nat.min_eq_left h2]
              rcases HM.out with h3 | h3
              · left; unfold pad; omega
              · omega
            · right; rw [Nat.min_eq_right h2]; omega)
          clear hz
          have hzl : min (pad L) (n - T) ≤ n - T := Nat.min_le_right _ _
          have HTT := Lib.hid (show t < T by have := HT.out; omega)
          generalize min (pad L) (n - T) = z at *
          go_wp2
          go_roundw
          case rel => exact ⟨T + z, k + 1, out ++ [P], by omega, HMX.out, by have := HTT.out; omega, by go_num, HP6.out, HNX.out, HB6.out⟩
          case measure => have := HTT.out; simp [intOf]; omega
        · have HC := Lib.hid (codeR_bad HNE.out (c := 102) (l := []) (by rw [← HI.out, partsS_zero HCD.out (by rw [HZE.out, HLL.out]; exact hz)]; exact comb_bad _ (by decide)) (by decide))
          have hz2 : codeZ (xs.drop T) (pad L) = 102 := by
            unfold codeZ at hz ⊢
            split
            · rfl
            · rename_i h1; rw [if_neg h1] at hz; exact absurd rfl hz
          rw [if_neg hz, hz2, errV_pos E (by decide)]
          clear hz hz2
          go_wp2
          go_ret2
          exact OutB.bad HC.out (by decide) HB6.out
    · have e : t = c := by omega
      have e2 : n = c := by omega
      subst e
      subst e2
      have hd : xs.drop n = [] := List.drop_of_length_le (by rw [HL.out]; omega)
      have HC := Lib.hid (codeR_bad HNE.out (c := 101) (l := []) (by rw [← HI.out, hd]; exact comb_bad _ (by decide)) (by decide))
      clear hd
      go_wp2_with (fail)
      refine (size_any (some ⟨b, off, none⟩) 0 0 [] E wr RowB.nil (by omega) (by omega) (HS.out.below HB.out)).mono ?_
      rintro e w2 ⟨he, m, rfl⟩
      obtain rfl : e = .returned (.tuple #[.int .i64 0, errP (E 101)]) := he
      have HB2 := Lib.hid (below_drewN HB.out m)
      clear HB HP
      generalize wr.drewN m = w2 at *
      go_wp2
      go_ret2
      exact OutB.bad HC.out (by decide) HB2.out
end Go.Proofs.YtejdmpdbapfomaaDoor
