/-
  CONTRACTS of package ampdu: size, filled; of bytes.Clone; a part more in a list of parts.
-/
import Derived.Test.YtejdmpdbapfomaaDoorAmpC
import Derived.Lib.SliceRun
namespace Go.Proofs.YtejdmpdbapfomaaDoor
open Go.ChangeShapes Go.WideShapes Go.ChangeAt Go.RowKit Go.Deep
set_option linter.unusedVariables false
set_option linter.unusedSimpArgs false

/-! ### a delimiter: what it says -/
def codeD (r : List Int) : Nat := if r.length < 4 then 101 else if sum (r.take 2) ≠ r.getD 2 0 then 106 else if r.getD 3 0 ≠ 78 ∨ r.getD 0 0 % 16 ≠ 0 ∨ lenD r = 0 then 102 else if r.length < 4 + lenD r then 101 else 0
theorem codeD_S5 (r : List Int) : codeD r = 0 ∨ codeD r ∈ S5 := by
  unfold codeD
  repeat' split
  all_goals first | exact .inl rfl | exact .inr (by decide)
theorem codeD_few {r : List Int} (h : r.length < 4) : codeD r = 101 := by unfold codeD; rw [if_pos h]
theorem codeD_fine {r : List Int} (h : codeD r = 0) : 4 ≤ r.length ∧ sum (r.take 2) = r.getD 2 0 ∧ r.getD 3 0 = 78 ∧ r.getD 0 0 % 16 = 0 ∧ 0 < lenD r ∧ 4 + lenD r ≤ r.length := by
  unfold codeD at h
  by_cases h1 : r.length < 4
  · rw [if_pos h1] at h; cases h
  rw [if_neg h1] at h
  by_cases h2 : sum (r.take 2) ≠ r.getD 2 0
  · rw [if_pos h2] at h; cases h
  rw [if_neg h2] at h
  by_cases h3 : r.getD 3 0 ≠ 78 ∨ r.getD 0 0 % 16 ≠ 0 ∨ lenD r = 0
  · rw [if_pos h3] at h; cases h
  rw [if_neg h3] at h
  by_cases h4 : r.length < 4 + lenD r
  · rw [if_pos h4] at h; cases h
  simp only [not_or, Decidable.not_not] at h2 h3
  exact ⟨by omega, h2, h3.1, h3.2.1, by omega, by omega⟩
theorem goodD_code {r : List Int} (h : 4 ≤ r.length) : goodD r = (codeD r == 0) := by
  rw [Bool.eq_iff_iff]
  constructor
  · intro hg
    unfold goodD at hg
    simp only [Bool.and_eq_true, beq_iff_eq, decide_eq_true_eq] at hg
    obtain ⟨⟨⟨⟨g1, g2⟩, g3⟩, g4⟩, g5⟩ := hg
    unfold codeD
    rw [if_neg (by omega), if_neg (by simp only [Decidable.not_not]; exact g1), if_neg (by simp only [not_or, Decidable.not_not]; exact ⟨g2, g3, by omega⟩), if_neg (by omega)]
    rfl
  · intro hc
    obtain ⟨c1, c2, c3, c4, c5, c6⟩ := codeD_fine (by simpa using hc)
    unfold goodD
    simp only [Bool.and_eq_true, beq_iff_eq, decide_eq_true_eq]
    exact ⟨⟨⟨⟨c2, c3⟩, c4⟩, c5⟩, by omega⟩
def SizeD (r : List Int) (E : Nat → Addr) (e : Ending) : Prop := e = .returned (.tuple #[.int .i64 ((if codeD r = 0 then lenD r else 0 : Nat) : Int), errV E (codeD r)])
theorem SizeD.bad {r : List Int} {E : Nat → Addr} {c : Nat} (h : codeD r = c) (h0 : c ≠ 0) : SizeD r E (.returned (.tuple #[.int .i64 0, errP (E c)])) := by
  unfold SizeD; rw [h, if_neg h0, errV_pos E h0]; rfl
theorem SizeD.good {r : List Int} {E : Nat → Addr} {L : Nat} (h : codeD r = 0) (hL : lenD r = L) : SizeD r E (.returned (.tuple #[.int .i64 L, .nilIface])) := by
  unfold SizeD; rw [h, if_pos rfl, errV_zero, hL]
theorem fits3 {r : List Int} (h : 4 ≤ r.length) : fitsB (r.take 3) = (r.getD 2 0 == sum (r.take 2)) := by
  unfold fitsB
  have e1 : (r.take 3).length = 3 := by simp; omega
  have e2 : (r.take 3).getD (3 - 1) 0 = r.getD 2 0 := by simp [List.getD]
  have e3 : (r.take 3).take (3 - 1) = r.take 2 := by rw [List.take_take]; rfl
  rw [e1, e2, e3]
  simp
set_option maxRecDepth 100000 in
set_option maxHeartbeats 8000000 in
theorem size_any (A : Option Addr) (n c : Nat) (r : List Int) (E : Nat → Addr) (w : World) (h : RowB .u8 w A n r) (hnc : n ≤ c) (hn : n ≤ 1000000000) (hS : Sent w E S5) :
    Calls Tryd.prog 31 #[.slice A n c] w fun e w' => SizeD r E e ∧ ∃ m, w' = w.drewN m := by
  have h101 := hS.at_ 101 (by decide)
  have h102 := hS.at_ 102 (by decide)
  have h106 := hS.at_ 106 (by decide)
  simp only [gOf] at h101 h102 h106
  have hl := h.len
  by_cases hp : n < 4
  · have hp1 : decide ((n : Int) ≤ 3) = true := by simp; omega
    have hp2 : decide ((n : Int) < 4) = true := by simp; omega
    have HC := Lib.hid (codeD_few (r := r) (by omega))
    clear h hS hl
    go_enter Tryd.func31, Tryd.ntmps31
    go_wp2
    go_quiet (fail)
    go_wp2
    go_ret2
    exact ⟨SizeD.bad HC.out (by decide), _, rfl⟩
  have hp1 : decide ((n : Int) ≤ 3) = false := by simp; omega
  have hp2 : decide ((n : Int) < 4) = false := by simp; omega
  obtain ⟨b, off, rfl, hc⟩ := h.cells (by omega)
  have c0 := hc 0 (by omega)
  rw [Nat.add_zero] at c0
  have c1 := hc 1 (by omega)
  have c3 := hc 3 (by omega)
  have b0 : (0 : Int) < (n : Int) := by omega
  have b1 : (1 : Int) < (n : Int) := by omega
  have b3 : (3 : Int) < (n : Int) := by omega
  have W0 := Lib.hid (h.wf8 0 (by omega))
  have W1 := Lib.hid (h.wf8 1 (by omega))
  have H3 := Lib.hid (h.first 3 (by omega))
  have HF := Lib.hid (fits3 (r := r) (by omega))
  have HC106 := Lib.hid (show (r.getD 2 0 == sum (r.take 2)) = false → codeD r = 106 by
    intro e
    unfold codeD
    rw [if_neg (by omega), if_pos (fun h => by rw [h] at e; simp at e)])
  have HC102 := Lib.hid (show (r.getD 2 0 == sum (r.take 2)) = true → r.getD 3 0 ≠ 78 ∨ r.getD 0 0 % 16 ≠ 0 ∨ lenD r = 0 → codeD r = 102 by
    intro e h
    unfold codeD
    rw [if_neg (by omega), if_neg (by simp only [Decidable.not_not]; exact (by simpa using e : r.getD 2 0 = sum (r.take 2)).symm), if_pos h])
  have HC101 := Lib.hid (show (r.getD 2 0 == sum (r.take 2)) = true → ¬ (r.getD 3 0 ≠ 78 ∨ r.getD 0 0 % 16 ≠ 0 ∨ lenD r = 0) → n < 4 + lenD r → codeD r = 101 by
    intro e h h2
    unfold codeD
    rw [if_neg (by omega), if_neg (by simp only [Decidable.not_not]; exact (by simpa using e : r.getD 2 0 = sum (r.take 2)).symm), if_neg h, if_pos (by omega)])
  have HC0 := Lib.hid (show (r.getD 2 0 == sum (r.take 2)) = true → ¬ (r.getD 3 0 ≠ 78 ∨ r.getD 0 0 % 16 ≠ 0 ∨ lenD r = 0) → ¬ n < 4 + lenD r → codeD r = 0 by
    intro e h h2
    unfold codeD
    rw [if_neg (by omega), if_neg (by simp only [Decidable.not_not]; exact (by simpa using e : r.getD 2 0 = sum (r.take 2)).symm), if_neg h, if_neg (by omega)])
  have HLD := Lib.hid (show (r.getD 0 0 + r.getD 1 0 * 256) / 16 = ((lenD r : Nat) : Int) by
    have := W0.out; have := W1.out
    unfold lenD; omega)
  have HLD2 := Lib.hid (show ∃ L, lenD r = L from ⟨_, rfl⟩)
  have hLb : lenD r ≤ 4095 := by
    have := W0.out; have := W1.out
    unfold lenD; omega
  clear hS hc h hl
  obtain ⟨L, hL⟩ := HLD2.out
  have HL := Lib.hid hL
  rw [hL] at HC102 HC101 HC0 HLD hLb
  generalize r.getD 0 0 = v0 at *
  generalize r.getD 1 0 = v1 at *
  generalize r.getD 3 0 = v3 at *
  generalize (r.getD 2 0 == sum (r.take 2)) = fit at *
  clear hL HLD2
  go_enter Tryd.func31, Tryd.ntmps31
  go_wp2_with (fail)
  refine (fits_any (some ⟨b, off, none⟩) 3 c (r.take 3) w H3.out (by omega)).mono ?_
  rintro e w' ⟨rfl, m, rfl⟩
  rw [HF.out]
  have c0' : (w.drewN m).cell? ⟨b, off, none⟩ = some (.int .u8 v0) := c0
  have c1' : (w.drewN m).cell? ⟨b, off + 1, none⟩ = some (.int .u8 v1) := c1
  have c3' : (w.drewN m).cell? ⟨b, off + 3, none⟩ = some (.int .u8 v3) := c3
  have h101' : (w.drewN m).cell? ⟨3, 0, none⟩ = some (errP (E 101)) := h101
  have h102' : (w.drewN m).cell? ⟨2, 0, none⟩ = some (errP (E 102)) := h102
  have h106' : (w.drewN m).cell? ⟨4, 0, none⟩ = some (errP (E 106)) := h106
  clear c0 c1 c3 h101 h102 h106 HF H3
  generalize hq : w.drewN m = w1 at *
  have HW := Lib.hid hq.symm
  clear hq
  cases fit
  · have HC := Lib.hid (HC106.out rfl)
    go_wp2
    go_quiet (fail)
    go_wp2
    go_ret2
    exact ⟨SizeD.bad HC.out (by decide), _, drew_add HW.out⟩
  have HC102 := Lib.hid (HC102.out rfl)
  have HC101 := Lib.hid (HC101.out rfl)
  have HC0 := Lib.hid (HC0.out rfl)
  cases e3 : (v3 != 78)
  case true =>
    have HC := Lib.hid (HC102.out (.inl (by simpa using e3)))
    go_wp2
    go_quiet (fail)
    go_wp2
    go_ret2
    exact ⟨SizeD.bad HC.out (by decide), _, drew_add HW.out⟩
  cases e0 : (v0 % 16 != 0)
  case true =>
    have HC := Lib.hid (HC102.out (.inr (.inl (by simpa using e0))))
    have w0 := W0.out
    go_wp2
    go_quiet (fail)
    go_wp2
    go_ret2
    exact ⟨SizeD.bad HC.out (by decide), _, drew_add HW.out⟩
  have y0 : IntKind.i64.wrap v0 = v0 := IntWalk.i64_in _ ⟨by have := W0.out; omega, by have := W0.out; omega⟩
  have y1 : IntKind.i64.wrap v1 = v1 := IntWalk.i64_in _ ⟨by have := W1.out; omega, by have := W1.out; omega⟩
  have y2 : IntKind.i64.wrap (v1 * 256) = v1 * 256 := IntWalk.i64_in _ ⟨by have := W1.out; omega, by have := W1.out; omega⟩
  have y3 : IntKind.i64.wrap (v0 + v1 * 256) = v0 + v1 * 256 := IntWalk.i64_in _ ⟨by have := W1.out; have := W0.out; omega, by have := W1.out; have := W0.out; omega⟩
  have y4 : (v0 + v1 * 256) / 16 = (L : Int) := HLD.out
  have y5 : IntKind.i64.wrap (L : Int) = (L : Int) := IntWalk.i64_in _ ⟨by omega, by omega⟩
  have y6 : (0 : Int) ≤ v0 + v1 * 256 := by have := W1.out; have := W0.out; omega
  have w0 := W0.out
  have w1x := W1.out
  by_cases hz : L = 0
  · subst hz
    have HC := Lib.hid (HC102.out (.inr (.inr rfl)))
    go_wp2
    go_quiet (fail)
    go_wp2
    go_quiet (fail)
    go_wp2
    go_ret2
    exact ⟨SizeD.bad HC.out (by decide), _, drew_add (drew_add HW.out)⟩
  have hz1 : ((L : Int) == 0) = false := by simp; omega
  have hno : ¬ (v3 ≠ 78 ∨ v0 % 16 ≠ 0 ∨ L = 0) := by
    simp only [not_or, Decidable.not_not]
    exact ⟨by simpa using e3, by simpa using e0, hz⟩
  have HC101 := Lib.hid (HC101.out hno)
  have HC0 := Lib.hid (HC0.out hno)
  clear hno HC102
  by_cases hlt : n < 4 + L
  · have d1 : decide ((n : Int) - 4 < (L : Int)) = true := by simp; omega
    have HC := Lib.hid (HC101.out hlt)
    go_wp2
    go_quiet (fail)
    go_wp2
    go_quiet (fail)
    go_wp2
    go_ret2
    exact ⟨SizeD.bad HC.out (by decide), _, drew_add (drew_add HW.out)⟩
  · have d1 : decide ((n : Int) - 4 < (L : Int)) = false := by simp; omega
    have HC := Lib.hid (HC0.out hlt)
    go_wp2
    go_quiet (fail)
    rw [y4]
    go_wp2
    go_ret2
    exact ⟨SizeD.good HC.out HL.out, _, drew_add HW.out⟩

/-! ### zeros behind a part -/
def codeZ (ys : List Int) (q : Nat) : Nat := if (ys.take q).any (· != 0) = true then 102 else 0
def FillD (ys : List Int) (q : Nat) (E : Nat → Addr) (e : Ending) : Prop := e = .returned (.tuple #[.int .i64 ((if codeZ ys q = 0 then min q ys.length else 0 : Nat) : Int), errV E (codeZ ys q)])
theorem FillD.bad {ys : List Int} {q : Nat} {E : Nat → Addr} (h : codeZ ys q = 102) : FillD ys q E (.returned (.tuple #[.int .i64 0, errP (E 102)])) := by
  unfold FillD; rw [h, if_neg (by decide), errV_pos E (by decide)]; rfl
theorem FillD.good {ys : List Int} {q z : Nat} {E : Nat → Addr} (h : codeZ ys q = 0) (hz : min q ys.length = z) : FillD ys q E (.returned (.tuple #[.int .i64 z, .nilIface])) := by
  unfold FillD; rw [h, if_pos rfl, errV_zero, hz]
theorem codeZ_bad {ys : List Int} {q i : Nat} (hi : i < q) (hl : i < ys.length) (h : ys.getD i 0 ≠ 0) : codeZ ys q = 102 := by
  unfold codeZ
  rw [if_pos]
  rw [List.any_eq_true]
  have hlt : i < (ys.take q).length := by simp; omega
  refine ⟨(ys.take q)[i], List.getElem_mem hlt, ?_⟩
  have : (ys.take q)[i] = ys.getD i 0 := by simp [List.getD, hl]
  rw [this]; simpa using h
theorem codeZ_good {ys : List Int} {q : Nat} (h : ∀ i, i < min q ys.length → ys.getD i 0 = 0) : codeZ ys q = 0 := by
  unfold codeZ
  rw [if_neg]
  simp only [Bool.not_eq_true, List.any_eq_false]
  intro x hx
  obtain ⟨i, hi, rfl⟩ := List.getElem_of_mem hx
  have hi' : i < min q ys.length := by simpa using hi
  have := h i hi'
  have e : (ys.take q)[i] = ys.getD i 0 := by simp [List.getD, show i < ys.length by omega]
  rw [e, this]; decide
set_option maxRecDepth 100000 in
set_option maxHeartbeats 8000000 in
theorem filled_any (b off n c N : Nat) (ys : List Int) (E : Nat → Addr) (w : World) (h : RowB .u8 w (some ⟨b, off, none⟩) n ys) (hnc : n ≤ c) (hn : n ≤ 1000000000) (hN : N ≤ 1000000000) (h0 : 0 < n) (hS : Sent w E S5) :
    Calls Tryd.prog 33 #[.slice (some ⟨b, off, none⟩) n c, .int .i64 N] w fun e w' => FillD ys (pad N) E e ∧ ∃ m, w' = w.drewN m := by
  have h102 := hS.at_ 102 (by decide)
  simp only [gOf] at h102
  have HR := Lib.hid h
  have HL := Lib.hid h.len
  have hq3 : pad N ≤ 3 := by unfold pad; omega
  obtain ⟨q, hq⟩ : ∃ q, q = pad N := ⟨_, rfl⟩
  rw [← hq] at hq3
  have HZB := Lib.hid (fun i => codeZ_bad (ys := ys) (q := q) (i := i))
  have HZG := Lib.hid (codeZ_good (ys := ys) (q := q))
  have HFG := Lib.hid (fun z => FillD.good (ys := ys) (q := q) (z := z) (E := E))
  have HFB := Lib.hid (FillD.bad (ys := ys) (q := q) (E := E))
  have HQ := Lib.hid hq
  clear h hS
  go_enter Tryd.func33, Tryd.ntmps33
  go_wp2_with (fail)
  refine (fill_any N w (by omega)).mono ?_
  rintro e w' ⟨rfl, rfl⟩
  rw [← hq]
  clear hq
  obtain ⟨z, hz⟩ : ∃ z, z = min q n := ⟨_, rfl⟩
  have HZ := Lib.hid hz
  have hz1 : z ≤ q := by omega
  have hz2 : z ≤ n := by omega
  have hz3 : z ≤ c := by omega
  have HMIN := Lib.hid (show (q ≤ n ∧ z = q) ∨ (n < q ∧ z = n) by omega)
  clear hz
  rcases HMIN.out with ⟨hqn, e⟩ | ⟨hqn, e⟩
  · have hd1 : decide ((q : Int) ≤ (n : Int)) = true := by simp; omega
    have hd2 : decide ((n : Int) < (q : Int)) = false := by simp; omega
    have hmm : min (q : Int) (n : Int) = (q : Int) := by omega
    subst e
    go_wp2
    go_loop [18] (fun i => ∃ k : Nat, k ≤ z ∧ i = .int .i64 k ∧ ∀ j, j < k → ys.getD j 0 = 0) (fun i => z - (intOf i).toNat)
    case atStart => exact ⟨0, by omega, rfl, fun j hj => by omega⟩
    case round =>
      obtain ⟨k, hk, rfl, hall⟩ := hrel
      have HA := Lib.hid hall
      clear hall
      by_cases hlt : k < z
      · have hc := HR.out.at_ k (by omega)
        have HB := Lib.hid (fun h => HZB.out k (by omega) (by rw [HL.out]; omega) h)
        have HN := Lib.hid (show ys.getD k 0 = 0 → ∀ j, j < k + 1 → ys.getD j 0 = 0 from fun h j hj => by
          rcases Nat.lt_or_ge j k with h1 | h1
          · exact HA.out j h1
          · rw [show j = k by omega]; exact h)
        have hkz : (k : Int) < (z : Int) := by omega
        generalize ys.getD k 0 = v at *
        cases e0 : (v != 0)
        · have HN2 := Lib.hid (HN.out (by simpa using e0))
          go_wp2
          go_round
          case rel => exact ⟨k + 1, by omega, by go_num, HN2.out⟩
          case measure => simp [intOf]; omega
        · have HF := Lib.hid (HFB.out (HB.out (by simpa using e0)))
          go_wp2
          go_quiet (fail)
          go_wp2
          go_ret2
          exact ⟨by rw [← HQ.out]; exact HF.out, _, rfl⟩
      · have hk' : k = z := by omega
        subst hk'
        have HF := Lib.hid (HFG.out k (HZG.out (by intro i hi; exact HA.out i (by rw [HL.out] at hi; omega))) (by rw [HL.out]; exact HZ.out.symm))
        go_wp2
        go_ret2
        exact ⟨by rw [← HQ.out]; exact HF.out, 0, rfl⟩
  · have hd1 : decide ((q : Int) ≤ (n : Int)) = false := by simp; omega
    have hd2 : decide ((n : Int) < (q : Int)) = true := by simp; omega
    have hmm : min (q : Int) (n : Int) = (n : Int) := by omega
    subst e
    go_wp2
    go_loop [18] (fun i => ∃ k : Nat, k ≤ z ∧ i = .int .i64 k ∧ ∀ j, j < k → ys.getD j 0 = 0) (fun i => z - (intOf i).toNat)
    case atStart => exact ⟨0, by omega, rfl, fun j hj => by omega⟩
    case round =>
      obtain ⟨k, hk, rfl, hall⟩ := hrel
      have HA := Lib.hid hall
      clear hall
      by_cases hlt : k < z
      · have hc := HR.out.at_ k (by omega)
        have HB := Lib.hid (fun h => HZB.out k (by omega) (by rw [HL.out]; omega) h)
        have HN := Lib.hid (show ys.getD k 0 = 0 → ∀ j, j < k + 1 → ys.getD j 0 = 0 from fun h j hj => by
          rcases Nat.lt_or_ge j k with h1 | h1
          · exact HA.out j h1
          · rw [show j = k by omega]; exact h)
        have hkz : (k : Int) < (z : Int) := by omega
        generalize ys.getD k 0 = v at *
        cases e0 : (v != 0)
        · have HN2 := Lib.hid (HN.out (by simpa using e0))
          go_wp2
          go_round
          case rel => exact ⟨k + 1, by omega, by go_num, HN2.out⟩
          case measure => simp [intOf]; omega
        · have HF := Lib.hid (HFB.out (HB.out (by simpa using e0)))
          go_wp2
          go_quiet (fail)
          go_wp2
          go_ret2
          exact ⟨by rw [← HQ.out]; exact HF.out, _, rfl⟩
      · have hk' : k = z := by omega
        subst hk'
        have HF := Lib.hid (HFG.out k (HZG.out (by intro i hi; exact HA.out i (by rw [HL.out] at hi; omega))) (by rw [HL.out]; exact HZ.out.symm))
        go_wp2
        go_ret2
        exact ⟨by rw [← HQ.out]; exact HF.out, 0, rfl⟩

/-! ### bytes.Clone; one part more -/
set_option maxRecDepth 100000 in
set_option maxHeartbeats 4000000 in
theorem clone_any (b off n c : Nat) (xs : List Int) (w : World) (h : RowB .u8 w (some ⟨b, off, none⟩) n xs) (hn : n ≤ 1000000000) :
    Calls Tryd.prog 32 #[.slice (some ⟨b, off, none⟩) n c] w fun e w' => ∃ g cap, e = .returned (.slice (some ⟨g, 0, none⟩) n cap) ∧ OwnB w' w.heap.size 5 .u8 g n cap xs ∧ Below w.heap.size w w' := by
  obtain ⟨i0, hi0, hz0, hz1, hz2⟩ := info_parts byte_info
  have HR := Lib.hid h
  have HN := Lib.hid (show ∀ j u, (xs.map (Value.int .u8))[j]? = some u → (w.alloc (.cells #[] 5)).cell? ((⟨b, off, none⟩ : Addr).add j) = some u from fun j u hu => by
    simp only [List.getElem?_map, Option.map_eq_some_iff] at hu
    obtain ⟨x, hx, rfl⟩ := hu
    have hj : j < n := by have := (List.getElem?_eq_some_iff.1 hx).1; have := h.len; omega
    obtain ⟨b', off', e, hc⟩ := h.el j hj
    cases e
    rw [show (⟨b, off, none⟩ : Addr).add j = ⟨b, off + j, none⟩ from Addr.add_mid b off j]
    have hx' : xs.getD j 0 = x := by simp [List.getD, hx]
    rw [hx'] at hc
    exact below_at ((Below.refl w.heap.size w).alloc (Nat.le_refl _) _) hc)
  have HO := Lib.hid (show OwnB (w.alloc (.cells #[] 5)) w.heap.size 5 .u8 w.heap.size 0 0 [] from World.ownsRow_lit w #[] 0 (Nat.le_refl _) (by unfold maxLen; omega) rfl)
  have HB := Lib.hid ((Below.refl w.heap.size w).alloc (Nat.le_refl _) (.cells #[] 5))
  have hq := Lib.run_eql_slice_nil (P := Tryd.prog) w 23 5 (some ⟨b, off, none⟩) n c 0 0 Tryd.underlying23
  simp only [Option.isNone_some] at hq
  clear h
  go_enter Tryd.func32, Tryd.ntmps32
  go_wp2_with (at_builtin; refine wpList_append_own _ rfl (.tmp 5) (.tmp 6) 23 rfl w.heap.size 5 i0 _ 1 1 Tryd.underlying23 hi0 hz0 hz1 hz2 rfl (by omega) (.slice (some ⟨w.heap.size, 0, none⟩) 0 0) 0 [] rfl HO.out ⟨b, off, none⟩ n c (xs.map (Value.int .u8)) rfl (by simp [HR.out.len]) HN.out (by intro u hu; simp at hu; obtain ⟨x, _, rfl⟩ := hu; rfl) (by unfold maxLen; omega) (by omega) (by simp) ?_; intro v' w2 hown' hgrow' hnil)
  have HB3 := Lib.hid (HB.out.grown hgrow' (by simp) (by intro q hq; simp [Value.ownBlock] at hq; omega))
  rcases hown'.2 with ⟨hv, _⟩ | ⟨g, cap, cur, hv, _⟩
  · exact absurd (hnil.1 hv).1 (by simp)
  subst hv
  have HO3 := Lib.hid (show OwnB w2 w.heap.size 5 .u8 g n cap xs by have := hown'; simpa [OwnB] using this)
  clear hown' hgrow' hnil
  rw [Nat.zero_add]
  go_wp2
  go_ret
  exact ⟨g, cap, rfl, HO3.out, HB3.out⟩
theorem slice_info : (Tryd.prog.info? 23).map (fun i => (i.zero, i.size, i.bytes)) = some (some (.slice none 0 0), 1, 24) := by kernel_rfl
theorem ElP.of_own {w2 w3 : World} {base : Nat} {e T : TypeId} {lv : Value} {k g L cap : Nat} {out : List (List Int)} {p : List Int} (hP : OwnP w2 base e lv k out) (hO : OwnB w3 w2.heap.size T .u8 g L cap p) (hw : ∀ i, i < L → 0 ≤ p.getD i 0 ∧ p.getD i 0 ≤ 255) : ElP w3 lv.ownBlock (.slice (some ⟨g, 0, none⟩) L cap) p := by
  refine ⟨_, _, _, rfl, hO.row8 hw, hO.cap_le, fun _ ad ha => ?_⟩
  cases ha
  intro hq
  obtain ⟨vals, ho, -, -⟩ := hP
  have h1 := (World.ownsRow.lt ho g hq).2
  have h2 := hO.lt.1
  omega
theorem app_part {w : World} {ops : Array Oper} {rest : List Oper} {o : Oper} {a : Act} {Q : Exit → Act → World → Prop} (hgd : o.guard = none) (s x : Operand)
    (ho : o.op = .call { callee := .builtin .append, args := #[s, x], argTypes := #[22, 22] }) (B k : Nat) (lv : Value) (out : List (List Int)) (hs : a.eval s = lv) (hP : OwnP w B 23 lv k out)
    (u : Value) (p : List Int) (hu : ElP w lv.ownBlock u p) (ad : Addr) (c : Nat) (hx : a.eval x = .slice (some ad) 1 c) (hc : w.cell? (ad.add 0) = some u) (hk : k ≤ 1000000000) (hB : B ≤ w.heap.size)
    (h : ∀ g' cap' w', Hid (OwnP w' B 23 (.slice (some ⟨g', 0, none⟩) (k + 1) cap') (k + 1) (out ++ [p])) → Hid (Below B w w') → wpList Tryd.prog ops Q rest (a.put o.dst (.slice (some ⟨g', 0, none⟩) (k + 1) cap')) w') : wpList Tryd.prog ops Q (o :: rest) a w := by
  obtain ⟨i0, hi0, hz0, hz1, hz2⟩ := info_parts slice_info
  have hP' := hP
  obtain ⟨vals, hown, hl, hx'⟩ := hP'
  refine wpList_append_lies w hgd s x 22 ho B 23 i0 _ 1 24 Tryd.underlying22 hi0 hz0 hz1 hz2 rfl (by omega) lv k vals hs hown ad 1 c [u] hx rfl (by
    intro j v hj
    match j, hj with
    | 0, hj => simp at hj; subst hj; exact hc) (by intro v hv; simp at hv; subst hv; obtain ⟨q1, q2, q3, rfl, -⟩ := hu; rfl) (by omega) (by unfold maxLen; omega) (by omega) hB w.heap.size rfl ?_
  intro g cap w' hown' hgrow hor hlt
  exact h g cap w' (hP.snoc hown hown' hgrow hor hu) ((Below.refl B w).grown hgrow hB (by intro q hq; exact (World.ownsRow.lt hown q hq).1))
end Go.Proofs.YtejdmpdbapfomaaDoor
