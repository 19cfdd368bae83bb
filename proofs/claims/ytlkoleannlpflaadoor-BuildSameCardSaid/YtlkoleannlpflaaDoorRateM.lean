/-
  MATHS OF RATES: which may be, their bits, symbols, preambles; all of a mode, in their order. No program is named.
-/
import Derived.Test.YtlkoleannlpflaaDoorRows
namespace Go.Proofs.YtlkoleannlpflaaDoor
set_option linter.unusedVariables false
set_option linter.unusedSimpArgs false

/-- a rate: its mode, scheme, streams, width, guard. -/
structure Rt where
  m : Int
  c : Int
  s : Int
  w : Int
  g : Int
theorem Rt.same {a b : Rt} (h1 : a.m = b.m) (h2 : a.c = b.c) (h3 : a.s = b.s) (h4 : a.w = b.w) (h5 : a.g = b.g) : a = b := by
  cases a; cases b; simp only [Rt.mk.injEq]; exact ⟨h1, h2, h3, h4, h5⟩
def sameR (a b : Rt) : Bool := a.m == b.m && a.c == b.c && a.s == b.s && a.w == b.w && a.g == b.g
theorem sameR_eq {a b : Rt} (h : sameR a b = true) : a = b := by
  unfold sameR at h
  simp only [Bool.and_eq_true, beq_iff_eq] at h
  exact Rt.same h.1.1.1.1 h.1.1.1.2 h.1.1.2 h.1.2 h.2
theorem sameR_refl (a : Rt) : sameR a a = true := by unfold sameR; simp
def Rt.cells (r : Rt) : List Value := [.int .i64 r.m, .int .i64 r.c, .int .i64 r.s, .int .i64 r.w, .int .i64 r.g]
theorem Rt.cells_len (r : Rt) : r.cells.length = 5 := rfl
/-- the place of a width. -/
def wid (w : Int) : Int := if w = 20 then 0 else if w = 40 then 1 else if w = 80 then 2 else if w = 160 then 3 else -1
def inB (x m : Int) : Bool := decide (0 ≤ x) && decide (x ≤ m)
theorem inB_iff {x m : Int} : inB x m = true ↔ 0 ≤ x ∧ x ≤ m := by unfold inB; simp
def validR (r : Rt) : Bool :=
  if r.m = 1 then inB r.c 7 && r.s == 1 && wid r.w == 0 && r.g == 0
  else if r.m = 2 then inB r.c 7 && inB (r.s - 1) 3 && inB (wid r.w) 1 && inB r.g 1
  else if r.m = 3 then inB r.c 9 && inB (r.s - 1) 7 && decide (0 ≤ wid r.w) && inB r.g 1
  else if r.m = 4 then inB r.c 11 && inB (r.s - 1) 7 && decide (0 ≤ wid r.w) && inB r.g 2
  else false
def carR (r : Rt) : Int := if r.m = 4 then [234, 468, 980, 1960].getD (wid r.w).toNat 0 else [52, 108, 234, 468].getD (wid r.w).toNat 0
def perR (c : Int) : Int := [1, 2, 2, 4, 4, 6, 6, 6, 8, 8, 10, 10].getD c.toNat 0
def upR (c : Int) : Int := [1, 1, 3, 1, 3, 2, 3, 5, 3, 5, 3, 5].getD c.toNat 0
def downR (c : Int) : Int := [2, 2, 4, 2, 4, 3, 4, 6, 4, 6, 4, 6].getD c.toNat 1
def trainR (s : Int) : Int := [1, 2, 4, 4, 6, 6, 8, 8].getD (s - 1).toNat 0
def bitsR (r : Rt) : Int := if validR r = true then (if r.m = 1 then [24, 36, 48, 72, 96, 144, 192, 216].getD r.c.toNat 0 else carR r * perR r.c * r.s * upR r.c / downR r.c) else 0
def symR (r : Rt) : Int := if validR r = true then (if r.m = 4 then [160, 144, 136].getD r.g.toNat 0 else if r.m ≠ 1 ∧ r.g = 1 then 36 else 40) else 0
def preR (r : Rt) : Int := if validR r = true then (if r.m = 1 then 200 else if r.m = 2 then 320 + 40 * trainR r.s else if r.m = 3 then 360 + 40 * trainR r.s else 360 + 80 * trainR r.s) else 0
theorem valid_mode {r : Rt} (h : validR r = true) : r.m = 1 ∨ r.m = 2 ∨ r.m = 3 ∨ r.m = 4 := by
  unfold validR at h
  by_cases h1 : r.m = 1
  · exact .inl h1
  rw [if_neg h1] at h
  by_cases h2 : r.m = 2
  · exact .inr (.inl h2)
  rw [if_neg h2] at h
  by_cases h3 : r.m = 3
  · exact .inr (.inr (.inl h3))
  rw [if_neg h3] at h
  by_cases h4 : r.m = 4
  · exact .inr (.inr (.inr h4))
  rw [if_neg h4] at h
  cases h
theorem wid_lo (w : Int) : -1 ≤ wid w ∧ wid w ≤ 3 := by unfold wid; repeat' split <;> omega
/-- what each that may be keeps. -/
theorem valid_in {r : Rt} (h : validR r = true) : (0 ≤ r.c ∧ r.c ≤ 11) ∧ (1 ≤ r.s ∧ r.s ≤ 8) ∧ (0 ≤ wid r.w ∧ wid r.w ≤ 3) ∧ (0 ≤ r.g ∧ r.g ≤ 2) := by
  have hw := wid_lo r.w
  unfold validR at h
  by_cases h1 : r.m = 1
  · rw [if_pos h1] at h
    simp only [Bool.and_eq_true, inB_iff, beq_iff_eq] at h
    omega
  rw [if_neg h1] at h
  by_cases h2 : r.m = 2
  · rw [if_pos h2] at h
    simp only [Bool.and_eq_true, inB_iff] at h
    omega
  rw [if_neg h2] at h
  by_cases h3 : r.m = 3
  · rw [if_pos h3] at h
    simp only [Bool.and_eq_true, inB_iff, decide_eq_true_eq] at h
    omega
  rw [if_neg h3] at h
  by_cases h4 : r.m = 4
  · rw [if_pos h4] at h
    simp only [Bool.and_eq_true, inB_iff, decide_eq_true_eq] at h
    omega
  rw [if_neg h4] at h
  cases h
theorem wid_of {w : Int} (h : 0 ≤ wid w) : w = 20 * 2 ^ (wid w).toNat := by
  unfold wid at h ⊢
  by_cases h1 : w = 20
  · rw [if_pos h1, h1]; rfl
  rw [if_neg h1] at h ⊢
  by_cases h2 : w = 40
  · rw [if_pos h2, h2]; rfl
  rw [if_neg h2] at h ⊢
  by_cases h3 : w = 80
  · rw [if_pos h3, h3]; rfl
  rw [if_neg h3] at h ⊢
  by_cases h4 : w = 160
  · rw [if_pos h4, h4]; rfl
  rw [if_neg h4] at h
  omega

/-! ### all of a mode -/
def rt (m : Int) (j : Nat) : Rt := ⟨m, ((j / 96 : Nat) : Int), ((j / 12 % 8 + 1 : Nat) : Int), 20 * 2 ^ (j / 3 % 4), ((j % 3 : Nat) : Int)⟩
def allTo (m : Int) (j : Nat) : List Rt := ((List.range j).map (rt m)).filter validR
def allR (m : Int) : List Rt := allTo m 1152
theorem allTo_zero (m : Int) : allTo m 0 = [] := rfl
theorem allTo_yes {m : Int} {j : Nat} (h : validR (rt m j) = true) : allTo m (j + 1) = allTo m j ++ [rt m j] := by
  unfold allTo; rw [List.range_succ, List.map_append, List.filter_append]; simp [h]
theorem allTo_no {m : Int} {j : Nat} (h : validR (rt m j) = false) : allTo m (j + 1) = allTo m j := by
  unfold allTo; rw [List.range_succ, List.map_append, List.filter_append]; simp [h]
theorem allTo_len (m : Int) (j : Nat) : (allTo m j).length ≤ j := by
  unfold allTo
  refine Nat.le_trans (List.length_filter_le _ _) ?_
  simp
theorem all_mem {m : Int} {r : Rt} (h : r ∈ allR m) : validR r = true ∧ r.m = m := by
  unfold allR allTo at h
  rw [List.mem_filter, List.mem_map] at h
  obtain ⟨⟨j, hj, rfl⟩, hv⟩ := h
  exact ⟨hv, rfl⟩
/-- each that may be is one of them. -/
theorem valid_rt {r : Rt} (h : validR r = true) : ∃ j, j < 1152 ∧ r = rt r.m j := by
  obtain ⟨⟨c0, c1⟩, ⟨s0, s1⟩, ⟨w0, w1⟩, g0, g1⟩ := valid_in h
  have hw := wid_of w0
  obtain ⟨C, hC⟩ := Int.eq_ofNat_of_zero_le c0
  obtain ⟨S, hS⟩ := Int.eq_ofNat_of_zero_le (show 0 ≤ r.s - 1 by omega)
  obtain ⟨W, hW⟩ := Int.eq_ofNat_of_zero_le w0
  obtain ⟨G, hG⟩ := Int.eq_ofNat_of_zero_le g0
  refine ⟨((C * 8 + S) * 4 + W) * 3 + G, by omega, ?_⟩
  have e1 : (((C * 8 + S) * 4 + W) * 3 + G) / 96 = C := by omega
  have e2 : (((C * 8 + S) * 4 + W) * 3 + G) / 12 % 8 = S := by omega
  have e3 : (((C * 8 + S) * 4 + W) * 3 + G) / 3 % 4 = W := by omega
  have e4 : (((C * 8 + S) * 4 + W) * 3 + G) % 3 = G := by omega
  unfold rt
  rw [e1, e2, e3, e4]
  refine Rt.same rfl hC (by rw [Int.natCast_add]; show r.s = (S : Int) + 1; omega) ?_ hG
  rw [hW] at hw
  exact hw
theorem valid_mem {r : Rt} (h : validR r = true) : r ∈ allR r.m := by
  obtain ⟨j, hj, e⟩ := valid_rt h
  unfold allR allTo
  rw [List.mem_filter, List.mem_map]
  exact ⟨⟨j, List.mem_range.2 hj, e.symm⟩, h⟩
theorem valid_all {p : Rt → Prop} (m : Int) (h : ∀ j : Nat, j < 1152 → validR (rt m j) = true → p (rt m j)) : ∀ r : Rt, validR r = true → r.m = m → p r := by
  intro r hv hm
  obtain ⟨j, hj, e⟩ := valid_rt hv
  rw [hm] at e
  rw [e] at hv ⊢
  exact h j hj hv
theorem all_none {m : Int} (h : m ≠ 1 ∧ m ≠ 2 ∧ m ≠ 3 ∧ m ≠ 4) : allR m = [] := by
  unfold allR allTo
  rw [List.filter_eq_nil_iff]
  intro r hr hv
  obtain ⟨j, -, rfl⟩ := List.mem_map.1 hr
  have := valid_mode hv
  simp only [rt] at this
  omega
theorem all_1 : (allR 1).length = 8 := by decide +kernel
theorem all_2 : (allR 2).length = 128 := by decide +kernel
theorem all_3 : (allR 3).length = 640 := by decide +kernel
theorem all_4 : (allR 4).length = 1152 := by decide +kernel
theorem rt_inj {m : Int} {i j : Nat} (hi : i < 1152) (hj : j < 1152) (h : rt m i = rt m j) : i = j := by
  have h1 : i / 96 = j / 96 := by have := congrArg Rt.c h; simp only [rt] at this; exact_mod_cast this
  have h2 : i / 12 % 8 = j / 12 % 8 := by have := congrArg Rt.s h; simp only [rt] at this; omega
  have h4 : i % 3 = j % 3 := by have := congrArg Rt.g h; simp only [rt] at this; exact_mod_cast this
  have h3 : i / 3 % 4 = j / 3 % 4 := by
    have hw := congrArg Rt.w h
    simp only [rt] at hw
    have key : ∀ x : Nat, x < 4 → ∀ y : Nat, y < 4 → (20 : Int) * 2 ^ x = 20 * 2 ^ y → x = y := by decide
    exact key _ (Nat.mod_lt _ (by omega)) _ (Nat.mod_lt _ (by omega)) hw
  omega
/-- no two of them are one. -/
theorem all_apart (m : Int) : (allR m).Pairwise fun a b => sameR a b = false := by
  unfold allR allTo
  refine List.Pairwise.filter _ ?_
  rw [List.pairwise_map]
  refine List.Pairwise.imp_of_mem ?_ (List.nodup_range (n := 1152))
  intro i j hi hj hne
  rw [Bool.eq_false_iff]
  exact fun e => hne (rt_inj (List.mem_range.1 hi) (List.mem_range.1 hj) (sameR_eq e))
theorem all_next {m : Int} {i : Nat} (d : Rt) (hi : i + 1 < (allR m).length) : sameR ((allR m).getD i d) ((allR m).getD (i + 1) d) = false := by
  have h := List.pairwise_iff_getElem.1 (all_apart m) i (i + 1) (by omega) hi (by omega)
  simpa [List.getD, hi, show i < (allR m).length by omega] using h
theorem all_get {m : Int} {i : Nat} (d : Rt) (hi : i < (allR m).length) : validR ((allR m).getD i d) = true ∧ ((allR m).getD i d).m = m := by
  have e : (allR m).getD i d = (allR m)[i] := by simp [List.getD, hi]
  rw [e]
  exact all_mem (List.getElem_mem hi)

/-! ### a shorter guard; the least of each -/
def gi1 (r : Rt) : Rt := { r with g := r.g + 1 }
def guardB (r : Rt) : Bool := !validR (gi1 r) || (decide (symR (gi1 r) < symR r) && bitsR (gi1 r) == bitsR r && preR (gi1 r) == preR r)
def leastB (r : Rt) : Bool := decide (24 ≤ bitsR r) && decide (36 ≤ symR r) && decide (200 ≤ preR r)
def checkM (m : Int) : Bool := (allR m).all fun r => leastB r && (m == 1 || guardB r)
theorem check_1 : checkM 1 = true := by decide +kernel
theorem check_2 : checkM 2 = true := by decide +kernel
theorem check_3 : checkM 3 = true := by decide +kernel
theorem check_4 : checkM 4 = true := by decide +kernel
theorem check_of {r : Rt} (h : validR r = true) : leastB r = true ∧ (r.m ≠ 1 → guardB r = true) := by
  have hc : checkM r.m = true := by
    rcases valid_mode h with e | e | e | e <;> rw [e]
    · exact check_1
    · exact check_2
    · exact check_3
    · exact check_4
  have := List.all_eq_true.1 hc r (valid_mem h)
  simp only [Bool.and_eq_true, Bool.or_eq_true, beq_iff_eq] at this
  exact ⟨this.1, fun hm => this.2.resolve_left hm⟩
theorem least_of {r : Rt} (h : validR r = true) : 24 ≤ bitsR r ∧ 36 ≤ symR r ∧ 200 ≤ preR r := by
  have := (check_of h).1
  unfold leastB at this
  simp only [Bool.and_eq_true, decide_eq_true_eq] at this
  exact ⟨this.1.1, this.1.2, this.2⟩
theorem guard_of {r : Rt} (h : validR r = true) (hm : r.m ≠ 1) (h1 : validR (gi1 r) = true) : symR (gi1 r) < symR r ∧ bitsR (gi1 r) = bitsR r ∧ preR (gi1 r) = preR r := by
  have := (check_of h).2 hm
  unfold guardB at this
  simp only [h1, Bool.not_true, Bool.false_or, Bool.and_eq_true, decide_eq_true_eq, beq_iff_eq] at this
  exact ⟨this.1.1, this.1.2, this.2⟩

/-! ### more never has fewer -/
def quoR (c : Int) : Int := [6, 12, 18, 24, 36, 48, 54, 60, 72, 80, 90, 100].getD c.toNat 0
theorem quo_nat : ∀ n : Nat, n < 12 → quoR (n : Int) * downR (n : Int) = 12 * (perR (n : Int) * upR (n : Int)) ∧ 0 < downR (n : Int) := by decide +kernel
theorem quo_of {c : Int} (h : 0 ≤ c ∧ c ≤ 11) : quoR c * downR c = 12 * (perR c * upR c) ∧ 0 < downR c := by
  obtain ⟨n, rfl⟩ := Int.eq_ofNat_of_zero_le h.1
  exact quo_nat n (by omega)
theorem bits_quo {r : Rt} (h : validR r = true) (hm : r.m ≠ 1) : bitsR r = carR r * r.s * quoR r.c / 12 := by
  obtain ⟨hc, hs, hw, hg⟩ := valid_in h
  obtain ⟨q1, q2⟩ := quo_of hc
  unfold bitsR
  rw [if_pos h, if_neg hm]
  have e1 : carR r * perR r.c * r.s * upR r.c * 12 = carR r * r.s * quoR r.c * downR r.c := by
    have : carR r * perR r.c * r.s * upR r.c * 12 = carR r * r.s * (12 * (perR r.c * upR r.c)) := by ac_nf
    rw [this, ← q1]; ac_nf
  rw [← Int.mul_ediv_mul_of_pos_left (carR r * perR r.c * r.s * upR r.c) (downR r.c) (show (0 : Int) < 12 by decide), e1, Int.mul_comm (downR r.c) 12, Int.mul_ediv_mul_of_pos_left _ _ q2]
theorem quo_mono_nat : ∀ a : Nat, a < 12 → ∀ b : Nat, b < 12 → a ≤ b → quoR (a : Int) ≤ quoR (b : Int) ∧ 0 ≤ quoR (a : Int) := by decide +kernel
theorem car_mono {a b : Rt} (hm : a.m = b.m) (ha : 0 ≤ wid a.w ∧ wid a.w ≤ 3) (hb : 0 ≤ wid b.w ∧ wid b.w ≤ 3) (h : a.w ≤ b.w) : carR a ≤ carR b ∧ 0 ≤ carR a := by
  have h1 := wid_of ha.1
  have h2 := wid_of hb.1
  obtain ⟨x, hx⟩ := Int.eq_ofNat_of_zero_le ha.1
  obtain ⟨y, hy⟩ := Int.eq_ofNat_of_zero_le hb.1
  rw [hx] at h1
  rw [hy] at h2
  have hxy : x ≤ y := by
    have key : ∀ x : Nat, x < 4 → ∀ y : Nat, y < 4 → (20 : Int) * 2 ^ x ≤ 20 * 2 ^ y → x ≤ y := by decide
    exact key x (by omega) y (by omega) (by rw [h1, h2] at h; simpa using h)
  have k1 : ∀ x : Nat, x < 4 → ∀ y : Nat, y < 4 → x ≤ y → [234, 468, 980, 1960].getD x (0 : Int) ≤ [234, 468, 980, 1960].getD y 0 ∧ 0 ≤ [234, 468, 980, 1960].getD x (0 : Int) := by decide
  have k2 : ∀ x : Nat, x < 4 → ∀ y : Nat, y < 4 → x ≤ y → [52, 108, 234, 468].getD x (0 : Int) ≤ [52, 108, 234, 468].getD y 0 ∧ 0 ≤ [52, 108, 234, 468].getD x (0 : Int) := by decide
  unfold carR
  rw [hx, hy, ← hm]
  by_cases h4 : a.m = 4
  · rw [if_pos h4, if_pos h4]; exact k1 x (by omega) y (by omega) hxy
  · rw [if_neg h4, if_neg h4]; exact k2 x (by omega) y (by omega) hxy
theorem train_mono_nat : ∀ a : Nat, a < 8 → ∀ b : Nat, b < 8 → a ≤ b → [1, 2, 4, 4, 6, 6, 8, 8].getD a (0 : Int) ≤ [1, 2, 4, 4, 6, 6, 8, 8].getD b 0 := by decide
theorem legacy_nat : ∀ a : Nat, a < 8 → ∀ b : Nat, b < 8 → a ≤ b → [24, 36, 48, 72, 96, 144, 192, 216].getD a (0 : Int) ≤ [24, 36, 48, 72, 96, 144, 192, 216].getD b 0 := by decide
theorem grows {a b : Rt} (ha : validR a = true) (hb : validR b = true) (hm : a.m = b.m) (hc : a.c ≤ b.c) (hs : a.s ≤ b.s) (hw : a.w ≤ b.w) : bitsR a ≤ bitsR b ∧ preR a ≤ preR b := by
  obtain ⟨ac, asx, aw, ag⟩ := valid_in ha
  obtain ⟨bc, bsx, bw, bg⟩ := valid_in hb
  obtain ⟨x, hx⟩ := Int.eq_ofNat_of_zero_le ac.1
  obtain ⟨y, hy⟩ := Int.eq_ofNat_of_zero_le bc.1
  have hxy : x ≤ y := by omega
  constructor
  · by_cases h1 : a.m = 1
    · have l1 : x < 8 := by
        unfold validR at ha; rw [if_pos h1] at ha
        simp only [Bool.and_eq_true, inB_iff, beq_iff_eq] at ha
        omega
      have l2 : y < 8 := by
        unfold validR at hb; rw [if_pos (hm ▸ h1)] at hb
        simp only [Bool.and_eq_true, inB_iff, beq_iff_eq] at hb
        omega
      unfold bitsR
      rw [if_pos ha, if_pos hb, if_pos h1, if_pos (hm ▸ h1), hx, hy]
      exact legacy_nat x l1 y l2 hxy
    · rw [bits_quo ha h1, bits_quo hb (hm ▸ h1)]
      obtain ⟨c1, c2⟩ := car_mono hm aw bw hw
      obtain ⟨q1, q2⟩ := quo_mono_nat x (by omega) y (by omega) hxy
      rw [← hx, ← hy] at q1
      rw [← hx] at q2
      refine Int.ediv_le_ediv (by decide) (Int.mul_le_mul (Int.mul_le_mul c1 hs (by omega) (by omega)) q1 q2 ?_)
      exact Int.mul_nonneg (by omega) (by omega)
  · obtain ⟨p, hp⟩ := Int.eq_ofNat_of_zero_le (show 0 ≤ a.s - 1 by omega)
    obtain ⟨q, hq⟩ := Int.eq_ofNat_of_zero_le (show 0 ≤ b.s - 1 by omega)
    have ht : trainR a.s ≤ trainR b.s := by
      unfold trainR
      rw [hp, hq]
      exact train_mono_nat p (by omega) q (by omega) (by omega)
    unfold preR
    rw [if_pos ha, if_pos hb, ← hm]
    repeat' split
    all_goals omega
end Go.Proofs.YtlkoleannlpflaaDoor
