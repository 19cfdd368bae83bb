/-
  The walk of muezzin/muezzinlaw15.WinGaps: the Go text returns true.
-/
import Derived.Test.YtempcbjojcebaaaDoorDoW
import Derived.Test.YtempcbjojcebaaaDoorDoW
import Derived.Test.YtempcbjojcebaaaDoorErrP
import Derived.LoopTactic
import Derived.WalkKit
import Derived.ProofKit
import Derived.Below
namespace Go.Proofs.YtempcbjojcebaaaDoor.winGaps
open Go.ChangeShapes Go.WideShapes Go.ChangeAt Go.RowKit Go.Deep
set_option linter.unusedVariables false
set_option linter.unusedSimpArgs false


open Go.Proofs.YtempcbjojcebaaaDoor
theorem inv_line {st gv sz : Nat} (h : st < 4096) (h1 : 1 ≤ sz) (h2 : sz ≤ 64) (hg : gv ≤ sz) : InvW (lineW st gv sz) where
  st := h
  sz := ⟨h1, h2⟩
  gv := hg
  up := List.pairwise_lt_range
  lt := fun d hd => List.mem_range.1 hd
  first := by
    show frontW _ (List.range gv) = 0
    cases gv with
    | zero => rfl
    | succ n => rw [List.range_succ_eq_map]; rfl
theorem below_only {B : Nat} {g : Nat} {a b c : World} (h : Below B a b) (hB : B ≤ a.heap.size) (hg : B ≤ g) (ho : Only (· = g) b c) : Below B a c :=
  h.trans (ho.below (fun i hi e => by omega) (Nat.le_trans hB h.size))

theorem wf_u64 {n : Int} (h : (Lit.int .u64 n).wf = true) : 0 ≤ n ∧ n < 18446744073709551616 := by
  have h' : IntKind.u64.min ≤ n ∧ n ≤ IntKind.u64.max := by simpa [Lit.wf] using h
  have a : IntKind.u64.min = 0 := by decide
  have b : IntKind.u64.max = 18446744073709551615 := by decide
  rw [a, b] at h'
  omega
theorem bit_word {B : Nat} (hB : B < 18446744073709551616) (k : Nat) : (bits .and .u64 ((B : Int) / 2 ^ k) 1 == 1) = decide (B / 2 ^ k % 2 = 1) := by
  have e2 : ((B : Int) / 2 ^ k) = ((B / 2 ^ k : Nat) : Int) := by
    rw [Int.natCast_ediv]
    congr 1
  rw [e2, shr_and _ _ hB]
  generalize B / 2 ^ k = q
  rcases Nat.mod_two_eq_zero_or_one q with h | h <;> rw [h] <;> rfl
/-- those from i on whose bit is not set. -/
def tailL (bit : Nat → Bool) (n i : Nat) : List Nat := (List.range n).filter fun k => decide (i ≤ k) && !bit k
theorem gap_tail (bit : Nat → Bool) (n i : Nat) : gapL bit n i = List.range i ++ tailL bit n i := rfl
theorem tail_end (bit : Nat → Bool) (n : Nat) : tailL bit n n = [] := by
  unfold tailL
  rw [List.filter_eq_nil_iff]
  intro k hk
  have := List.mem_range.1 hk
  simp; omega
theorem tail_up {bit : Nat → Bool} {n i : Nat} : (tailL bit n i).Pairwise fun a b => a < b := List.pairwise_lt_range.filter _
theorem tail_mem {bit : Nat → Bool} {n i k : Nat} : k ∈ tailL bit n i ↔ k < n ∧ i ≤ k ∧ bit k = false := by
  unfold tailL
  rw [List.mem_filter, List.mem_range]
  simp
theorem tail_skip {bit : Nat → Bool} {n i : Nat} (hb : bit i = true) : tailL bit n i = tailL bit n (i + 1) :=
  up_one tail_up tail_up fun k => by
    rw [tail_mem, tail_mem]
    constructor
    · rintro ⟨h1, h2, h3⟩
      refine ⟨h1, ?_, h3⟩
      by_cases e : k = i
      · subst e; rw [hb] at h3; cases h3
      · omega
    · rintro ⟨h1, h2, h3⟩; exact ⟨h1, by omega, h3⟩
theorem tail_more {bit : Nat → Bool} {n i : Nat} (hi : i < n) (hb : bit i = false) : tailL bit n i = i :: tailL bit n (i + 1) := by
  refine up_one tail_up ?_ fun k => ?_
  · rw [List.pairwise_cons]
    exact ⟨fun k hk => by have := (tail_mem.1 hk).2.1; omega, tail_up⟩
  · rw [List.mem_cons, tail_mem, tail_mem]
    constructor
    · rintro ⟨h1, h2, h3⟩
      by_cases e : k = i
      · exact .inl e
      · exact .inr ⟨h1, by omega, h3⟩
    · rintro (rfl | ⟨h1, h2, h3⟩)
      · exact ⟨hi, Nat.le_refl _, hb⟩
      · exact ⟨h1, by omega, h3⟩
/-- the first of them; n: none. -/
def frontN (n : Nat) : List Nat → Nat
  | [] => n
  | d :: _ => d
theorem frontN_le {bit : Nat → Bool} {n i : Nat} : frontN n (tailL bit n i) ≤ n := by
  cases h : tailL bit n i with
  | nil => exact Nat.le_refl _
  | cons d r =>
    have := (tail_mem.1 (show d ∈ tailL bit n i by rw [h]; exact List.mem_cons_self)).1
    exact Nat.le_of_lt this
/-- how the window stands behind those from j on. -/
def GapS (bit : Nat → Bool) (s z j : Nat) (x : Wo) : Prop :=
  (0 < j ∧ x = ⟨s, z, z, gapL bit z j⟩) ∨ (j = 0 ∧ x = ⟨(s + frontN z (tailL bit z 0)) % 4096, z - frontN z (tailL bit z 0), z, (tailL bit z 0).map fun k => k - frontN z (tailL bit z 0)⟩)
theorem inv_gap {bit : Nat → Bool} {s z j : Nat} (hs : s < 4096) (h1 : 1 ≤ z) (h2 : z ≤ 64) (h0 : 0 < j) (hj : j ≤ z) : InvW ⟨s, z, z, gapL bit z j⟩ where
  st := hs
  sz := ⟨h1, h2⟩
  gv := Nat.le_refl _
  up := gap_up
  lt := fun d hd => ((gap_mem hj).1 hd).1
  first := by
    obtain ⟨k, rfl⟩ : ∃ k, j = k + 1 := ⟨j - 1, by omega⟩
    rw [gap_tail, List.range_succ_eq_map]; rfl
theorem front_w (s z : Nat) (l m : List Nat) : frontW ⟨s, z, z, m⟩ l = frontN z l := by cases l <;> rfl
theorem gap_zero (bit : Nat → Bool) (z : Nat) : gapL bit z 0 = tailL bit z 0 := by rw [gap_tail]; rfl
/-- one whose bit is not set stays. -/
theorem gapS_keep {bit : Nat → Bool} {s z k : Nat} {x : Wo} (hs : s < 4096) (hk : k < z) (hb : bit k = false) (h : GapS bit s z (k + 1) x) : GapS bit s z k x := by
  rcases h with ⟨-, e⟩ | ⟨e, -⟩
  · rw [← gap_keep hk hb] at e
    rcases Nat.eq_zero_or_pos k with h0 | h0
    · subst h0
      refine .inr ⟨rfl, ?_⟩
      rw [e, gap_zero]
      have hf : frontN z (tailL bit z 0) = 0 := by rw [tail_more hk hb]; rfl
      rw [hf]
      simp
      omega
    · exact .inl ⟨h0, e⟩
  · omega
/-- one whose bit is set is done. -/
theorem gapS_done {bit : Nat → Bool} {s z k : Nat} {x : Wo} (hs : s < 4096) (hk : k < z) (hb : bit k = true) (h : GapS bit s z (k + 1) x) : GapS bit s z k (doneW x k) := by
  rcases h with ⟨-, e⟩ | ⟨e, -⟩
  · subst e
    have hf := gap_done hk hb
    rcases Nat.eq_zero_or_pos k with h0 | h0
    · subst h0
      refine .inr ⟨rfl, ?_⟩
      unfold doneW
      dsimp only
      rw [hf, gap_zero, front_w]
      rfl
    · refine .inl ⟨h0, ?_⟩
      obtain ⟨j, rfl⟩ : ∃ j, k = j + 1 := ⟨k - 1, by omega⟩
      have e2 : gapL bit z (j + 1 + 1) = 0 :: (gapL bit z (j + 1 + 1)).tail := by rw [gap_tail, List.range_succ_eq_map]; rfl
      rw [mid_done (r := (gapL bit z (j + 1 + 1)).tail) hs e2 (by omega)]
      dsimp only
      rw [hf]
  · omega
theorem gapS_inv {bit : Nat → Bool} {s z j : Nat} {x : Wo} (hs : s < 4096) (h1 : 1 ≤ z) (h2 : z ≤ 64) (hj : j ≤ z) (h : GapS bit s z (j + 1) x) (hj1 : j + 1 ≤ z) : InvW x ∧ x.st = s ∧ j ∈ x.ds := by
  rcases h with ⟨h0, e⟩ | ⟨e, -⟩
  · subst e
    exact ⟨inv_gap hs h1 h2 h0 hj1, rfl, (gap_mem hj1).2 ⟨by omega, .inl (by omega)⟩⟩
  · omega
theorem not_out {x : Wo} (hi : InvW x) {d : Nat} (hd : d < 4096) : outB_ (doneW x d) ((nmW x d : Nat) : Int) = false := by
  unfold outB_
  rw [decide_eq_false_iff_not]
  rintro ⟨c, hc, e⟩
  have h1 : nmW (doneW x d) c ∈ outW (doneW x d) := List.mem_map_of_mem hc
  rw [out_done hi] at h1
  obtain ⟨b, hb, e2⟩ := List.mem_map.1 h1
  have h2 := List.mem_filter.1 hb
  have h3 := hi.lts b h2.1
  have h4 : nmW x b = nmW x d := by rw [e2]; omega
  have := nm_inj (w := x) (by omega) hd h4
  subst this
  simp at h2
/-- behind all of them; then as many again. -/
theorem gap_last {bit : Nat → Bool} {s z : Nat} {x : Wo} (hs : s < 4096) (h1 : 1 ≤ z) (h2 : z ≤ 64) (h : GapS bit s z 0 x) : InvW x ∧ x.st = (s + frontN z (tailL bit z 0)) % 4096 ∧ x.gv + frontN z (tailL bit z 0) = z ∧ x.sz = z ∧ x.ds.length = (tailL bit z 0).length := by
  have hfl := @frontN_le bit z 0
  rcases h with ⟨e, -⟩ | ⟨-, e⟩
  · omega
  · subst e
    have hm : ∀ d ∈ tailL bit z 0, frontN z (tailL bit z 0) ≤ d ∧ d < z := fun d hd => by
      refine ⟨?_, (tail_mem.1 hd).1⟩
      have hu := @tail_up bit z 0
      cases hl : tailL bit z 0 with
      | nil => rw [hl] at hd; cases hd
      | cons c r =>
        rw [hl] at hd hu
        rw [List.pairwise_cons] at hu
        rcases List.mem_cons.1 hd with e | e
        · rw [e]; exact Nat.le_refl _
        · exact Nat.le_of_lt (hu.1 d e)
    refine ⟨⟨Nat.mod_lt _ (by decide), ⟨h1, h2⟩, Nat.sub_le _ _, ?_, ?_, ?_⟩, rfl, by dsimp only; omega, rfl, by simp⟩
    · rw [List.pairwise_map]
      refine (@tail_up bit z 0).imp_of_mem fun {a b} ha hb hab => ?_
      have := (hm a ha).1
      have := (hm b hb).1
      omega
    · intro d hd
      obtain ⟨c, hc, rfl⟩ := List.mem_map.1 hd
      have := hm c hc
      show c - _ < z - _
      omega
    · cases hl : tailL bit z 0 with
      | nil => show z - z = 0; omega
      | cons c r => show c - c = 0; omega

/-! ### THE WALK -/
set_option maxRecDepth 100000 in
set_option maxHeartbeats 8000000 in
theorem walk (n0 : Int) (n1 : Int) (n2 : Int) (w : World) (E : Nat → Addr) (hS : Sent w E [101, 102, 103, 104, 105, 106, 107, 108, 109, 110, 111, 112, 113, 114]) (hT : Tab64 w) (w0 : (Lit.int .i64 n0).wf = true) (w1 : (Lit.int .i64 n1).wf = true) (w2 : (Lit.int .u64 n2).wf = true) :
    Calls Tryd.prog 6 #[.int .i64 n0, .int .i64 n1, .int .u64 n2] w fun e w' => e = .returned (.bool true) ∧ Below w.heap.size w w' := by
  have HS := Shut.mk hS
  have HT := Shut.mk hT
  have W0 := Shut.mk w0
  have W1 := Shut.mk w1
  clear hS hT w0 w1
  have hw2 := wf_u64 w2
  clear w2
  obtain ⟨B, rfl⟩ := Int.eq_ofNat_of_zero_le hw2.1
  have HBL := Shut.mk (show B < 18446744073709551616 by omega)
  clear hw2
  obtain ⟨bit, hbit⟩ : ∃ bit : Nat → Bool, bit = fun k => decide (B / 2 ^ k % 2 = 1) := ⟨_, rfl⟩
  have HBIT := Shut.mk hbit
  clear hbit
  go_enter Tryd.func6, Tryd.ntmps6
  go_wp2_with (fail)
  refine (first_any w).mono ?_
  rintro e wa ⟨rfl, hBa⟩
  have HBa := Shut.mk hBa
  clear hBa
  go_wp2_with (fail)
  refine (number_any n0 4096 wa W0.out (by decide) (by decide)).mono ?_
  rintro e wn ⟨rfl, rfl⟩
  have hm0 := nmod_lo n0 4096 (by decide)
  have hm1 := nmod_hi n0 4096 (by decide)
  obtain ⟨s, hnm⟩ := Int.eq_ofNat_of_zero_le hm0
  rw [hnm] at hm1 ⊢
  clear hm0 hnm
  have hs : s < 4096 := by omega
  clear hm1
  go_wp2_with (fail)
  refine (number_any n1 64 wa W1.out (by decide) (by decide)).mono ?_
  rintro e wn ⟨rfl, rfl⟩
  have hm0 := nmod_lo n1 64 (by decide)
  have hm1 := nmod_hi n1 64 (by decide)
  obtain ⟨m, hnm⟩ := Int.eq_ofNat_of_zero_le hm0
  rw [hnm] at hm1 ⊢
  clear hm0 hnm
  have hm : m < 64 := by omega
  clear hm1
  obtain ⟨z, hz⟩ : ∃ z : Nat, z = m + 1 := ⟨_, rfl⟩
  have HSZ := Shut.mk (show (m : Int) + 1 = (z : Int) by omega)
  have HZ := Shut.mk (show 1 ≤ z ∧ z ≤ 64 by omega)
  have hmz : (m : Int) < 64 := by omega
  have Hs := Shut.mk hs
  clear hz hm hs
  go_wp2_with (fail)
  rw [HSZ.out]
  have hz1 := HZ.out.1
  have hz2 := HZ.out.2
  clear hmz
  refine (new_ok s z Hs.out (by omega) (by omega) wa).mono ?_
  rintro e wb ⟨rfl, hx, hb⟩
  obtain ⟨g, hg⟩ : ∃ g, g = wa.heap.size := ⟨_, rfl⟩
  rw [← hg] at hx ⊢
  have HGW := Shut.mk (show w.heap.size ≤ g by have := HBa.out.size; omega)
  have HXb := Shut.mk hx
  have HGT := Shut.mk (show g ≠ 3 from fun e => by have h1 := cell_lt' (HT.out 0 (by decide)); have h2 := HGW.out; have h3 : 3 < w.heap.size := h1; omega)
  have HBb := Shut.mk (HBa.out.trans (hb.mono HBa.out.size))
  clear hx hb hg HBa
  have HR0 := Shut.mk (show IsWin wb g (lineW s 0 z) from HXb.out)
  clear HXb
  go_wp2_with (fail)
  go_loopw [10, 11, 12] (fun fi _ _ wr => ∃ i : Nat, i ≤ z ∧ fi = .int .i64 i ∧ IsWin wr g (lineW s i z) ∧ Below w.heap.size w wr) (fun fi _ _ _ => z - (intOf fi).toNat)
  case atStart => exact ⟨0, Nat.zero_le _, rfl, HR0.out, HBb.out⟩
  case round =>
    clear HR0 HBb
    obtain ⟨i, hi, rfl, hx, hb⟩ := hrel
    have HX := Shut.mk hx
    have HB := Shut.mk hb
    clear hx hb
    have HI := Shut.mk (inv_line Hs.out HZ.out.1 HZ.out.2 hi)
    have HNM := Shut.mk (show nmW (lineW s i z) (lineW s i z).gv = (s + i) % 4096 from rfl)
    have Hs4 := Hs.out
    have hs9 : (s : Int) < 4096 := by omega
    by_cases hin : i < z
    · have hin2 : (i : Int) < (z : Int) := by omega
      go_wp2_with (fail)
      refine (next_ok g _ wr HX.out HI.out hin).mono ?_
      rintro e w2 ⟨rfl, hx, ho⟩
      rw [line_next] at hx
      rw [HNM.out]
      have HX2 := Shut.mk hx
      have HB2 := Shut.mk (below_only HB.out (Nat.le_refl _) HGW.out ho)
      clear hx ho
      obtain ⟨a, ha⟩ : ∃ a : Nat, a = (s + i) % 4096 := ⟨_, rfl⟩
      have hrem : ((s : Int) + (i : Int)) % 4096 = (a : Int) := by omega
      rw [← ha]
      have hw1 : 0 ≤ (s : Int) + (i : Int) := by omega
      have hi9 : (i : Int) < 64 := by omega
      clear ha
      go_wp2_with (fail)
      go_roundw
      case rel => exact ⟨i + 1, by omega, by go_num, HX2.out, HB2.out⟩
      case measure => simp [intOf]; omega
    · have hi' : i = z := by omega
      subst hi'
      have HG0 := Shut.mk (show GapS bit s i i ⟨s, i, i, gapL bit i i⟩ from .inl ⟨by omega, rfl⟩)
      have HX0 := Shut.mk (show IsWin wr g ⟨s, i, i, gapL bit i i⟩ by rw [gap_start]; exact HX.out)
      have HT0 := Shut.mk (show frontN i (tailL bit i i) = i ∧ (tailL bit i i).length = 0 by rw [tail_end]; exact ⟨rfl, rfl⟩)
      clear HX HI HNM hin
      obtain ⟨z, hzi⟩ : ∃ z, z = i := ⟨_, rfl⟩
      subst hzi
      go_wp2_with (fail)
      go_loopw [13, 14, 15] (fun ff fn fi wr => ∃ (j : Nat) (x : Wo), j ≤ z ∧ fi = .int .i64 ((j : Int) - 1) ∧ ff = .int .i64 ((frontN z (tailL bit z j) : Nat) : Int) ∧ fn = .int .i64 (((tailL bit z j).length : Nat) : Int) ∧ GapS bit s z j x ∧ IsWin wr g x ∧ Below w.heap.size w wr) (fun _ _ fi _ => ((intOf fi) + 1).toNat)
      case atStart => exact ⟨z, _, Nat.le_refl _, rfl, by rw [HT0.out.1], by rw [HT0.out.2]; rfl, HG0.out, HX0.out, HB.out⟩
      case round =>
        clear HX0 HB HG0 HT0
        obtain ⟨j, x, hj, rfl, rfl, rfl, hg, hx, hb⟩ := hrel
        have HX := Shut.mk hx
        have HB := Shut.mk hb
        have HG := Shut.mk hg
        clear hx hb hg
        rcases Nat.eq_zero_or_pos j with h0 | h0
        · subst h0
          rw [show ((0 : Nat) : Int) - 1 = -1 by decide]
          obtain ⟨hiv, hst, hgv, hsz, hln⟩ := gap_last Hs.out HZ.out.1 HZ.out.2 HG.out
          have HFL := Shut.mk (@frontN_le bit z 0)
          obtain ⟨f1, hf1⟩ : ∃ f1, f1 = frontN z (tailL bit z 0) := ⟨_, rfl⟩
          obtain ⟨l1, hl1⟩ : ∃ l1, l1 = (tailL bit z 0).length := ⟨_, rfl⟩
          rw [← hf1] at hst hgv HFL ⊢
          rw [← hl1] at hln ⊢
          have HL0 := Shut.mk (show Shut (InvW x) ∧ x.st = (s + f1) % 4096 ∧ x.gv + (f1 - 0) = z ∧ x.sz = z ∧ x.ds.length = l1 + 0 from ⟨⟨hiv⟩, hst, by omega, hsz, by omega⟩)
          have HL1 := Shut.mk (show l1 ≤ 64 by rw [hl1]; exact Nat.le_trans (List.length_filter_le _ _) (by rw [List.length_range]; omega))
          clear hiv hst hgv hsz hln hf1 hl1 HG hj
          go_wp2_with (fail)
          go_loopw [16, 17, 18] (fun fm _ _ wr => ∃ (m : Nat) (x : Wo), m ≤ f1 ∧ fm = .int .i64 m ∧ (Shut (InvW x) ∧ x.st = (s + f1) % 4096 ∧ x.gv + (f1 - m) = z ∧ x.sz = z ∧ x.ds.length = l1 + m) ∧ IsWin wr g x ∧ Below w.heap.size w wr) (fun fm _ _ _ => f1 - (intOf fm).toNat)
          case atStart => exact ⟨0, x, Nat.zero_le _, rfl, HL0.out, HX.out, HB.out⟩
          case round =>
            clear HL0 HX HB
            obtain ⟨m, x, hm, rfl, ⟨HI, hst, hgv, hsz, hln⟩, hx, hb⟩ := hrel
            have HX := Shut.mk hx
            have HB := Shut.mk hb
            have HFF := HFL.out
            clear hx hb
            by_cases hmf : m < f1
            · have hm9 : (m : Int) < 64 := by omega
              go_wp2_with (fail)
              refine (next_ok g x wr HX.out HI.out (by rw [hsz]; omega)).mono ?_
              rintro e w2 ⟨rfl, hx, ho⟩
              have HI2 := Shut.mk (inv_next HI.out (by rw [hsz]; omega))
              have HX2 := Shut.mk hx
              have HB2 := Shut.mk (below_only HB.out (Nat.le_refl _) HGW.out ho)
              have HP := Shut.mk (show (nextW x).st = (s + f1) % 4096 ∧ (nextW x).gv + (f1 - (m + 1)) = z ∧ (nextW x).sz = z ∧ (nextW x).ds.length = l1 + (m + 1) from ⟨hst, by show x.gv + 1 + _ = z; omega, hsz, by show (x.ds ++ [x.gv]).length = _; rw [List.length_append, hln]; rfl⟩)
              clear hx ho hst hgv hsz hln
              go_wp2_with (fail)
              go_roundw
              case rel => exact ⟨m + 1, nextW x, by omega, by go_num, ⟨HI2, HP.out⟩, HX2.out, HB2.out⟩
              case measure => simp [intOf]; omega
            · obtain rfl : m = f1 := by omega
              have HLN := Shut.mk hln
              have HST := Shut.mk hst
              have hno : ¬ x.gv < x.sz := by rw [hsz]; omega
              clear hst hgv hsz hln
              go_wp2_with (fail)
              refine (next_no g x wr HX.out HI.out hno).mono ?_
              rintro e w2 ⟨rfl, n2, hn2⟩
              have HX2 := Shut.mk (show IsWin w2 g x by rw [hn2]; exact HX.out)
              have HB2 := Shut.mk (show Below w.heap.size w w2 by rw [hn2]; exact below_drewN HB.out n2)
              clear hn2 hno
              obtain ⟨a, ha⟩ : ∃ a : Nat, a = (s + m) % 4096 := ⟨_, rfl⟩
              have hrem : ((s : Int) + (m : Int)) % 4096 = (a : Int) := by omega
              have hw1 : 0 ≤ (s : Int) + (m : Int) := by omega
              have hs9 : (s : Int) < 4096 := by have := Hs.out; omega
              have hm9 : (m : Int) ≤ 64 := by omega
              have hl9 : (l1 : Int) ≤ 64 := by have := HL1.out; omega
              rw [← ha] at HST
              clear ha
              go_wp2_with (fail)
              refine (start_any g x w2 HX2.out).mono ?_
              rintro e wn ⟨rfl, rfl⟩
              rw [HST.out]
              go_wp2_with (fail)
              refine (out_any g x w2 HX2.out HI.out (HT.out.below HB2.out)).mono ?_
              rintro e w3 ⟨q, rfl, hr, -, hb⟩
              obtain ⟨A, c, rfl, hc, -⟩ := hr.form
              have hll : (outI x).length = l1 + m := by rw [outI_len]; exact HLN.out
              rw [hll] at hc ⊢
              have HX3 := Shut.mk (HX2.out.below hb)
              have HB3 := Shut.mk (HB2.out.trans (hb.mono HB2.out.size))
              clear hr hb hll
              go_wp2_with (fail)
              have hfit : fitB (5 : Int) = true := by decide
              by_cases hd : x.ds = []
              · have hz0 : ((l1 : Int) + (m : Int) == 0) = true := by have h1 := HLN.out; rw [hd] at h1; simp at h1; simp; omega
                refine (resize_ok g x 5 w3 HX3.out hfit hd).mono ?_
                rintro e w4 ⟨rfl, -, ho⟩
                have HB4 := Shut.mk (below_only HB3.out (Nat.le_refl _) HGW.out ho)
                clear ho hfit
                rw [hz0]
                clear hz0
                go_wp2_with (fail)
                rw [← errV_zero E]
                refine (is_any E 0 0 w4 (HS.out.below HB4.out) (.inl rfl)).mono ?_
                rintro e w5 ⟨rfl, hb5⟩
                have HB5 := Shut.mk (HB4.out.trans (hb5.mono HB4.out.size))
                clear hb5
                go_wp2_with (fail)
                go_ret
                exact ⟨rfl, HB5.out⟩
              · have hz0 : ((l1 : Int) + (m : Int) == 0) = false := by
                  have h1 := HLN.out
                  have h2 : x.ds.length ≠ 0 := fun e => hd (List.eq_nil_of_length_eq_zero e)
                  simp; omega
                refine (resize_state g x 5 w3 HX3.out hfit hd E ((HS.out.below HB3.out).at_ 110 (by decide))).mono ?_
                rintro e w4 ⟨rfl, rfl⟩
                clear hfit
                rw [hz0]
                clear hz0
                go_wp2_with (fail)
                refine (is_any E 110 0 w3 (HS.out.below HB3.out) (.inr (by decide))).mono ?_
                rintro e w5 ⟨rfl, hb5⟩
                have HB5 := Shut.mk (HB3.out.trans (hb5.mono HB3.out.size))
                clear hb5
                go_wp2_with (fail)
                go_ret
                exact ⟨rfl, HB5.out⟩
        · obtain ⟨k, rfl⟩ : ∃ k, j = k + 1 := ⟨j - 1, by omega⟩
          rw [show ((k + 1 : Nat) : Int) - 1 = (k : Int) by omega]
          have hk64 : (k : Int) < 64 := by omega
          have hkN : k < 64 := by omega
          obtain ⟨f1, hf1⟩ : ∃ f1, f1 = frontN z (tailL bit z (k + 1)) := ⟨_, rfl⟩
          obtain ⟨l1, hl1⟩ : ∃ l1, l1 = (tailL bit z (k + 1)).length := ⟨_, rfl⟩
          rw [← hf1, ← hl1]
          have HF1 := Shut.mk hf1
          have HL1 := Shut.mk hl1
          have HKZ := Shut.mk (show k < z by omega)
          clear hf1 hl1 h0
          have hbt := bit_word (B := B) HBL.out k
          have HBB := Shut.mk (show bit k = decide (B / 2 ^ k % 2 = 1) by rw [HBIT.out])
          rw [← HBB.out] at hbt
          have hs9 : (s : Int) < 4096 := by have := Hs.out; omega
          have HLB := Shut.mk (show l1 ≤ 64 by rw [HL1.out]; exact Nat.le_trans (List.length_filter_le _ _) (by rw [List.length_range]; omega))
          cases eb : bit k with
          | false =>
            rw [eb] at hbt
            have HF2 := Shut.mk (show frontN z (tailL bit z k) = k by rw [tail_more HKZ.out eb]; rfl)
            have HL2 := Shut.mk (show (tailL bit z k).length = l1 + 1 by rw [tail_more HKZ.out eb, HL1.out]; rfl)
            have HG2 := Shut.mk (gapS_keep Hs.out HKZ.out eb HG.out)
            have hl9 : (l1 : Int) ≤ 64 := by have := HLB.out; omega
            clear eb
            go_wp2_with (fail)
            go_roundw
            case rel => exact ⟨k, x, by omega, rfl, by rw [HF2.out], by rw [HL2.out]; go_num, HG2.out, HX.out, HB.out⟩
            case measure => simp [intOf] <;> omega
          | true =>
            rw [eb] at hbt
            have HF2 := Shut.mk (show frontN z (tailL bit z k) = f1 by rw [tail_skip eb, HF1.out])
            have HL2 := Shut.mk (show (tailL bit z k).length = l1 by rw [tail_skip eb, HL1.out])
            obtain ⟨hiv, hst, hmem⟩ := gapS_inv Hs.out HZ.out.1 HZ.out.2 (by have := HKZ.out; omega) HG.out HKZ.out
            have HIV := Shut.mk hiv
            have HME := Shut.mk hmem
            have HG2 := Shut.mk (gapS_done Hs.out HKZ.out eb HG.out)
            have HNM := Shut.mk (show nmW x k = (s + k) % 4096 by unfold nmW; rw [hst])
            clear eb hiv hst hmem
            obtain ⟨a, ha⟩ : ∃ a : Nat, a = (s + k) % 4096 := ⟨_, rfl⟩
            have hrem : ((s : Int) + (k : Int)) % 4096 = (a : Int) := by omega
            have hw1 : 0 ≤ (s : Int) + (k : Int) := by omega
            rw [← ha] at HNM
            clear ha
            go_wp2_with (fail)
            have hdn := done_ok g x k wr HX.out HIV.out HME.out (HT.out.below HB.out) HGT.out
            rw [HNM.out] at hdn
            refine hdn.mono ?_
            rintro e w2 ⟨rfl, hx, ho⟩
            have HX2 := Shut.mk hx
            have HB2 := Shut.mk (below_only HB.out (Nat.le_refl _) HGW.out ho)
            clear hdn hx ho
            go_wp2_with (fail)
            have hno := not_out HIV.out (show k < 4096 by omega)
            rw [HNM.out] at hno
            refine (done_no g (doneW x k) (a : Nat) w2 HX2.out (inv_done HIV.out k) hno E ((HS.out.below HB2.out).at_ 107 (by decide))).mono ?_
            rintro e w3 ⟨rfl, n3, hn3⟩
            have HX3 := Shut.mk (show IsWin w3 g (doneW x k) by rw [hn3]; exact HX2.out)
            have HB3 := Shut.mk (show Below w.heap.size w w3 by rw [hn3]; exact below_drewN HB2.out n3)
            clear hno hn3
            go_wp2_with (fail)
            refine (is_any E 107 107 w3 (HS.out.below HB3.out) (.inr (by decide))).mono ?_
            rintro e w4 ⟨rfl, hb4⟩
            have HX4 := Shut.mk (HX3.out.below hb4)
            have HB4 := Shut.mk (HB3.out.trans (hb4.mono HB3.out.size))
            clear hb4
            go_wp2_with (fail)
            go_roundw
            case rel => exact ⟨k, _, by omega, rfl, by rw [HF2.out], by rw [HL2.out], HG2.out, HX4.out, HB4.out⟩
            case measure => simp [intOf] <;> omega

end Go.Proofs.YtempcbjojcebaaaDoor.winGaps
