/-
  The walk of muezzin/muezzinlaw16.BaSeqs: the Go text returns true.
-/
import Derived.Test.YtlbfioknkagboaaDoorSeN
import Derived.Test.YtlbfioknkagboaaDoorErrP
import Derived.LoopTactic
import Derived.Deep.CutRange
import Derived.Deep.CutBlock
import Derived.WalkKit
import Derived.ProofKit
import Derived.Below
namespace Go.Proofs.YtlbfioknkagboaaDoor.baSeqs
open Go.ChangeShapes Go.WideShapes Go.ChangeAt Go.RowKit Go.Deep
set_option linter.unusedVariables false
set_option linter.unusedSimpArgs false


open Go.Proofs.YtlbfioknkagboaaDoor
/-- number 0 flies, all others are due. -/
def oneL (z : Nat) : List Fm := (lineL pkI 100 0 false z).map (goI [0])
theorem goI0 (i : Nat) : goI [0] (lineF pkI 100 0 false i) = if i = 0 then (⟨pkI 0, 0, 1, 100⟩, true) else lineF pkI 100 0 false i := by
  unfold goI
  by_cases h : i = 0
  · subst h; rfl
  · rw [if_neg h, if_neg]
    show ¬ ((i : Nat) : Int) ∈ [(0 : Int)]
    simp; omega
theorem one_due {z : Nat} {n : Int} : ((oneL z).any (dueP n) = true ↔ ∃ i, i < z ∧ i ≠ 0 ∧ ((i : Nat) : Int) = n) := by
  unfold oneL
  rw [any_line]
  constructor
  · rintro ⟨i, hi, h⟩
    rw [goI0] at h
    by_cases h0 : i = 0
    · rw [if_pos h0] at h; cases h
    · rw [if_neg h0] at h
      exact ⟨i, hi, h0, by have h2 : (true && decide (((i : Nat) : Int) = n)) = true := h; simpa using h2⟩
  · rintro ⟨i, hi, h0, h⟩
    refine ⟨i, hi, ?_⟩
    rw [goI0, if_neg h0]
    show (true && decide (((i : Nat) : Int) = n)) = true
    simpa using h
theorem one_fly {z : Nat} (h : 0 < z) : (oneL z).any flyP = true := by
  unfold oneL
  rw [any_line]
  exact ⟨0, h, by rw [goI0]; rfl⟩
theorem one_near {z a : Nat} (h : 0 < z) : ((oneL z).any (nearP (a : Int)) = true ↔ rd (0 - (a : Int)) < 64) := by
  unfold oneL
  rw [any_line]
  constructor
  · rintro ⟨i, hi, hp⟩
    rw [goI0] at hp
    by_cases h0 : i = 0
    · rw [if_pos h0] at hp
      have h2 : (true && decide (rd (((0 : Nat) : Int) - (a : Int)) < 64)) = true := hp
      simpa using h2
    · rw [if_neg h0] at hp; cases hp
  · intro hp
    refine ⟨0, h, ?_⟩
    rw [goI0, if_pos rfl]
    show (true && decide (rd (((0 : Nat) : Int) - (a : Int)) < 64)) = true
    simpa using hp
theorem one_told {z : Nat} (h : 0 < z) : (toldM flyP (oneL z)).length = 1 := by
  obtain ⟨k, rfl⟩ : ∃ k, z = k + 1 := ⟨z - 1, by omega⟩
  unfold toldM oneL lineL
  rw [List.map_map, List.range_succ_eq_map, List.map_cons, List.filter_cons, if_pos (by show flyP (goI [0] (lineF pkI 100 0 false 0)) = true; rw [goI0]; rfl), List.filter_eq_nil_iff.2]
  · rfl
  · intro f hf
    obtain ⟨i, hi, rfl⟩ := List.mem_map.1 hf
    obtain ⟨j, -, rfl⟩ := List.mem_map.1 hi
    show ¬ flyP (goI [0] (lineF pkI 100 0 false (j + 1))) = true
    rw [goI0, if_neg (by omega)]
    intro e; cases e
theorem one_sent {z : Nat} : ∀ f ∈ oneL z, f.1.sent ≤ 1000000 := by
  intro f hf
  unfold oneL lineL at hf
  rw [List.map_map] at hf
  obtain ⟨i, -, rfl⟩ := List.mem_map.1 hf
  show (goI [0] (lineF pkI 100 0 false i)).1.sent ≤ 1000000
  rw [goI0]
  by_cases h0 : i = 0
  · rw [if_pos h0]; show 1 ≤ 1000000; decide
  · rw [if_neg h0]; show 0 ≤ 1000000; decide
theorem lost_fly (l : List Fm) : (lostL l).any flyP = false := by
  unfold lostL
  rw [List.any_map, List.any_eq_false]
  intro f _ e
  cases e

/-! ### THE WALK -/
set_option maxRecDepth 100000 in
set_option maxHeartbeats 8000000 in
theorem walk (n0 : Int) (n1 : Int) (w : World) (E : Nat → Addr) (hS : Sent w E [101, 102, 103, 104, 105, 106, 107, 108, 109, 110, 111, 112, 113, 114]) (hT : Tab64 w) (w0 : (Lit.int .i64 n0).wf = true) (w1 : (Lit.int .i64 n1).wf = true) :
    Calls Tryd.prog 8 #[.int .i64 n0, .int .i64 n1] w fun e w' => e = .returned (.bool true) ∧ Below w.heap.size w w' := by
  have HS := Shut.mk hS
  have HT := Shut.mk hT
  have W0 := Shut.mk w0
  have W1 := Shut.mk w1
  clear hS hT w0 w1
  go_enter Tryd.func8, Tryd.ntmps8
  go_wp2_with (fail)
  refine (first_any w).mono ?_
  rintro e wa ⟨rfl, hBa⟩
  have HBa := Shut.mk hBa
  clear hBa
  go_wp2_with (fail)
  refine (number_any n0 10 wa W0.out (by decide) (by decide)).mono ?_
  rintro e wn ⟨rfl, rfl⟩
  have hm0 := nmod_lo n0 10 (by decide)
  have hm1 := nmod_hi n0 10 (by decide)
  obtain ⟨m, hnm⟩ := Int.eq_ofNat_of_zero_le hm0
  rw [hnm] at hm1 ⊢
  clear hm0 hnm
  have hm : m < 10 := by omega
  clear hm1
  obtain ⟨z, hz⟩ : ∃ z : Nat, z = m + 2 := ⟨_, rfl⟩
  have HSZ := Shut.mk (show ((m : Nat) : Int) + 2 = ((z : Nat) : Int) by omega)
  have hz1 : 2 ≤ z := by omega
  have hz2 : z ≤ 11 := by omega
  have hmz : ((m : Nat) : Int) < 10 := by omega
  clear hz hm
  go_wp2_with (fail)
  rw [HSZ.out]
  refine (number_any n1 3900 wa W1.out (by decide) (by decide)).mono ?_
  rintro e wn ⟨rfl, rfl⟩
  have hm0 := nmod_lo n1 3900 (by decide)
  have hm1 := nmod_hi n1 3900 (by decide)
  obtain ⟨t, hnm⟩ := Int.eq_ofNat_of_zero_le hm0
  rw [hnm] at hm1 ⊢
  clear hm0 hnm
  have ht : t < 3900 := by omega
  clear hm1
  clear hmz
  obtain ⟨a, hqa⟩ : ∃ a : Nat, a = t + 100 := ⟨_, rfl⟩
  have HSQ := Shut.mk (show ((t : Nat) : Int) + 100 = ((a : Nat) : Int) by omega)
  have ha1 : 100 ≤ a := by omega
  have ha2 : a < 4000 + 100 := by omega
  have ha3 : a < 4000 := by omega
  have htz : ((t : Nat) : Int) < 3900 := by omega
  clear hqa ht
  have hz3 : ((z : Nat) : Int) ≤ 11 := by omega
  go_wp2_with (fail)
  rw [HSQ.out]
  refine (new_l (w0 := w) 64 3 100 (by decide) (by decide) (by decide) (by decide) (by decide) HBa.out).mono ?_
  rintro e wb ⟨p0, rfl, hl, hfo, hb⟩
  have HL0 := Shut.mk hl
  obtain ⟨g, hg⟩ : ∃ g, g = p0.g := ⟨_, rfl⟩
  rw [← hg]
  have HG0 := Shut.mk hg.symm
  clear hl hg hfo hb
  clear htz
  go_wp2_with (fail)
  have hcall := ask_l HL0.out 0 (by decide) (by decide) rfl rfl 0 rfl
  rw [HG0.out] at hcall
  refine hcall.mono ?_
  clear hcall
  rintro e wc ⟨rfl, hl1, -⟩
  have HL1 := Shut.mk hl1
  clear hl1
  go_wp2_with (fail)
  have hcall := answer_l HL1.out 64 rfl rfl (by decide) 0 rfl 64 (by rfl)
  rw [HG0.out] at hcall
  refine hcall.mono ?_
  clear hcall
  rintro e wd ⟨rfl, hl2, -⟩
  rw [line_zero _ 64 3 100 0 100 64 rfl rfl rfl rfl rfl rfl rfl rfl rfl] at hl2
  have HL2 := Shut.mk hl2
  clear hl2
  go_wp2_with (fail)
  have hcall := lost_no HL2.out.se HL2.out.inv rfl E ((HL2.out.sent HS.out).at_ 110 (by decide))
  rw [HG0.out] at hcall
  refine hcall.mono ?_
  clear hcall
  rintro e we ⟨rfl, hb⟩
  have HL3 := Shut.mk (HL2.out.quiet hb)
  clear hb HL2
  go_wp2_with (fail)
  have hcall := isP_any E 110 110 we (HL3.out.sent HS.out) (by decide) true (by rfl)
  refine hcall.mono ?_
  clear hcall
  rintro e wf0 ⟨rfl, hb⟩
  have HL4 := Shut.mk (HL3.out.quiet hb)
  clear hb HL3
  go_wp2_with (fail)
  go_loopw [10] (fun i wr => ∃ (k : Nat) (q : Sp), k ≤ z ∧ i = .int .i64 k ∧ LawS w wr q (lineB 64 3 100 0 100 0 false 64 k) ∧ q.g = g) (fun i _ => z - (intOf i).toNat)
  case atStart => exact ⟨0, p0, by omega, rfl, HL4.out, HG0.out⟩
  case round =>
    clear HL4
    obtain ⟨k, q, hk, rfl, hl, hg⟩ := hrel
    have HLK := Shut.mk hl
    have HGK := Shut.mk hg
    clear hl hg
    by_cases hlt : k < z
    · have hki : ((k : Nat) : Int) < ((z : Nat) : Int) := by omega
      go_wp2_with (fail)
      have hcall := fresh_l HLK.out (by show (3 : Nat) ≠ 2; decide) rfl (by show k < 64; omega) ((k : Nat) : Int) 0 0 0 0 (by decide) (by decide) k 100 (nm_line (by omega)) rfl
      rw [HGK.out] at hcall
      refine hcall.mono ?_
      clear hcall
      rintro e wf ⟨rfl, q2, hl2, -, hg2⟩
      rw [fresh_line] at hl2
      have HLN := Shut.mk hl2
      have HGN := Shut.mk hg2
      clear hl2 hg2
      have HBM := Shut.mk ((Below.refl wf.heap.size wf).alloc (Nat.le_refl _) (Obj.cells #[.int .i64 ((k : Nat) : Int), .int .u32 0, .int .i64 0, .int .i64 0, .slice none 0 0, .int .i64 ((k : Nat) : Int), .int .i64 0, .int .i64 100] 40 (0, 0)))
      have HLM := Shut.mk (HLN.out.quiet HBM.out)
      go_wp2_with (fail)
      generalize World.alloc wf _ = wg at *
      go_roundw
      case rel => exact ⟨k + 1, q2, by omega, by go_num, HLM.out, HGN.out⟩
      case measure => simp [intOf]; omega
    · have hk' : k = z := by omega
      subst hk'
      have HLZ := HLK
      have HGZ := HGK
      clear HLK HGK hlt hk
      have hzi : ((k : Nat) : Int) ≤ 11 := by omega
      have HW0 := Shut.mk (@went_bad (lineL pkI 100 0 false k) [0, 0] 1 (by show 1 < 2; decide) (by
        show ((lineL pkI 100 0 false k).any (dueP 0) && !decide ((0 : Int) ∈ [(0 : Int)])) = false
        simp))
      have HWZ := Shut.mk (show wentC (lineL pkI 100 0 false k) [((k : Nat) : Int)] = 107 from went_no (any_false seq_due fun ⟨i, hi, e⟩ => by omega))
      have HW1 := Shut.mk (show wentC (lineL pkI 100 0 false k) [0] = 0 by rw [went_one (l := lineL pkI 100 0 false k) (n := 0) (seq_due.2 ⟨0, by omega, rfl⟩), seq_fly]; rfl)
      have HT1 := Shut.mk (show wentT (lineL pkI 100 0 false k) [0] = oneL k from wentT_0 HW1.out)
      have HW2 := Shut.mk (show wentC (oneL k) [1] = 110 by rw [went_one (l := oneL k) (n := 1) (one_due.2 ⟨1, by omega, by decide, rfl⟩), one_fly (by omega)]; rfl)
      have HW3 := Shut.mk (show wentC (oneL k) [0] = 107 from went_no (any_false one_due fun ⟨i, hi, h0, e⟩ => h0 (by omega)))
      have HQWA := Shut.mk ((Below.refl wr.heap.size wr).alloc (Nat.le_refl _) (Obj.cells #[.int .i64 0, .int .i64 0] 3 (0, 0)))
      have HQWR := Shut.mk (row_lit2 (heap_alloc_last wr (Obj.cells #[.int .i64 0, .int .i64 0] 3 (0, 0))))
      have HQWL := Shut.mk (HLZ.out.quiet HQWA.out)
      have HQWF := Shut.mk HLZ.out.foot
      go_wp2_with (fail)
      generalize World.alloc wr _ = wrx at *
      have hcall := went_l HQWL.out (HS.out.sub (by decide)) (some ⟨wr.heap.size, 0, none⟩) 2 2 [0, 0] HQWR.out (by decide) (fun a ha => by cases ha; exact fun e => by have h9 : wr.heap.size < wr.heap.size := (HQWF.out _ e).2; omega) (seq_sent (by decide)) 107 HW0.out _ (wentT_n HW0.out)
      rw [HGZ.out] at hcall
      rw [errV_pos E (by decide)] at hcall
      refine hcall.mono ?_
      clear hcall
      rintro e wq0 ⟨rfl, hl2, -⟩
      have HL_wq0 := Shut.mk hl2
      clear hl2 HQWA HQWR HQWL HQWF
      have HQWA := Shut.mk ((Below.refl wq0.heap.size wq0).alloc (Nat.le_refl _) (Obj.cells #[.int .i64 ((k : Nat) : Int)] 3 (0, 0)))
      have HQWR := Shut.mk (row_lit1 (heap_alloc_last wq0 (Obj.cells #[.int .i64 ((k : Nat) : Int)] 3 (0, 0))) (by omega) (by omega))
      have HQWL := Shut.mk (HL_wq0.out.quiet HQWA.out)
      have HQWF := Shut.mk HL_wq0.out.foot
      go_wp2_with (fail)
      generalize World.alloc wq0 _ = wq0x at *
      have hcall := went_l HQWL.out (HS.out.sub (by decide)) (some ⟨wq0.heap.size, 0, none⟩) 1 1 [((k : Nat) : Int)] HQWR.out (by decide) (fun a ha => by cases ha; exact fun e => by have h9 : wq0.heap.size < wq0.heap.size := (HQWF.out _ e).2; omega) (seq_sent (by decide)) 107 HWZ.out _ (wentT_n HWZ.out)
      rw [HGZ.out] at hcall
      rw [errV_pos E (by decide)] at hcall
      refine hcall.mono ?_
      clear hcall
      rintro e wq1 ⟨rfl, hl2, -⟩
      have HL_wq1 := Shut.mk hl2
      clear hl2 HQWA HQWR HQWL HQWF
      have HQWA := Shut.mk ((Below.refl wq1.heap.size wq1).alloc (Nat.le_refl _) (Obj.cells #[.int .i64 0] 3 (0, 0)))
      have HQWR := Shut.mk (row_lit1 (heap_alloc_last wq1 (Obj.cells #[.int .i64 0] 3 (0, 0))) (by omega) (by omega))
      have HQWL := Shut.mk (HL_wq1.out.quiet HQWA.out)
      have HQWF := Shut.mk HL_wq1.out.foot
      go_wp2_with (fail)
      generalize World.alloc wq1 _ = wq1x at *
      have hcall := went_l HQWL.out (HS.out.sub (by decide)) (some ⟨wq1.heap.size, 0, none⟩) 1 1 [0] HQWR.out (by decide) (fun a ha => by cases ha; exact fun e => by have h9 : wq1.heap.size < wq1.heap.size := (HQWF.out _ e).2; omega) (seq_sent (by decide)) 0 HW1.out (oneL k) HT1.out
      rw [HGZ.out] at hcall
      rw [errV_zero] at hcall
      refine hcall.mono ?_
      clear hcall
      rintro e wq2 ⟨rfl, hl2, -⟩
      have HL_wq2 := Shut.mk hl2
      clear hl2 HQWA HQWR HQWL HQWF
      have HQWA := Shut.mk ((Below.refl wq2.heap.size wq2).alloc (Nat.le_refl _) (Obj.cells #[.int .i64 1] 3 (0, 0)))
      have HQWR := Shut.mk (row_lit1 (heap_alloc_last wq2 (Obj.cells #[.int .i64 1] 3 (0, 0))) (by omega) (by omega))
      have HQWL := Shut.mk (HL_wq2.out.quiet HQWA.out)
      have HQWF := Shut.mk HL_wq2.out.foot
      go_wp2_with (fail)
      generalize World.alloc wq2 _ = wq2x at *
      have hcall := went_l HQWL.out (HS.out.sub (by decide)) (some ⟨wq2.heap.size, 0, none⟩) 1 1 [1] HQWR.out (by decide) (fun a ha => by cases ha; exact fun e => by have h9 : wq2.heap.size < wq2.heap.size := (HQWF.out _ e).2; omega) one_sent 110 HW2.out (oneL k) (wentT_n HW2.out)
      rw [HGZ.out] at hcall
      rw [errV_pos E (by decide)] at hcall
      refine hcall.mono ?_
      clear hcall
      rintro e wq3 ⟨rfl, hl2, -⟩
      have HL_wq3 := Shut.mk hl2
      clear hl2 HQWA HQWR HQWL HQWF
      have HQWA := Shut.mk ((Below.refl wq3.heap.size wq3).alloc (Nat.le_refl _) (Obj.cells #[.int .i64 0] 3 (0, 0)))
      have HQWR := Shut.mk (row_lit1 (heap_alloc_last wq3 (Obj.cells #[.int .i64 0] 3 (0, 0))) (by omega) (by omega))
      have HQWL := Shut.mk (HL_wq3.out.quiet HQWA.out)
      have HQWF := Shut.mk HL_wq3.out.foot
      go_wp2_with (fail)
      generalize World.alloc wq3 _ = wq3x at *
      have hcall := went_l HQWL.out (HS.out.sub (by decide)) (some ⟨wq3.heap.size, 0, none⟩) 1 1 [0] HQWR.out (by decide) (fun a ha => by cases ha; exact fun e => by have h9 : wq3.heap.size < wq3.heap.size := (HQWF.out _ e).2; omega) one_sent 107 HW3.out (oneL k) (wentT_n HW3.out)
      rw [HGZ.out] at hcall
      rw [errV_pos E (by decide)] at hcall
      refine hcall.mono ?_
      clear hcall
      rintro e wq4 ⟨rfl, hl2, -⟩
      have HL_wq4 := Shut.mk hl2
      clear hl2 HQWA HQWR HQWL HQWF
      go_wp2_with (fail)
      by_cases hfar : a < 4033
      · have HNF := Shut.mk (show (oneL k).any (nearP ((a : Nat) : Int)) = false from any_false (one_near (by omega)) (by unfold rd; omega))
        have hfi : ((a : Nat) : Int) < 4033 := by omega
        have hcall := heard_seq HL_wq4.out.se HL_wq4.out.inv (one_fly (by omega)) a 18446744073709551615 (fun _ => HNF.out) E ((HL_wq4.out.sent HS.out).at_ 111 (by decide))
        rw [HGZ.out] at hcall
        refine hcall.mono ?_
        clear hcall
        rintro e wq5 ⟨rfl, hb⟩
        have HL_wq5 := Shut.mk (HL_wq4.out.quiet hb)
        clear hb
        go_wp2_with (fail)
        have hcall := heard_seq HL_wq5.out.se HL_wq5.out.inv (one_fly (by omega)) 4096 0 (fun h => absurd h (by decide)) E ((HL_wq5.out.sent HS.out).at_ 111 (by decide))
        rw [HGZ.out] at hcall
        refine hcall.mono ?_
        clear hcall
        rintro e wq6 ⟨rfl, hb⟩
        have HL_wq6 := Shut.mk (HL_wq5.out.quiet hb)
        clear hb
        go_wp2_with (fail)
        have hcall := isP_any E 107 107 wq6 (HL_wq6.out.sent HS.out) (by decide) true (by rfl)
        refine hcall.mono ?_
        clear hcall
        rintro e wi0 ⟨rfl, hb⟩
        have HL_wi0 := Shut.mk (HL_wq6.out.quiet hb)
        clear hb
        go_wp2_with (fail)
        have hcall := isP_any E 107 107 wi0 (HL_wi0.out.sent HS.out) (by decide) true (by rfl)
        refine hcall.mono ?_
        clear hcall
        rintro e wi1 ⟨rfl, hb⟩
        have HL_wi1 := Shut.mk (HL_wi0.out.quiet hb)
        clear hb
        go_wp2_with (fail)
        have hcall := isP_any E 110 110 wi1 (HL_wi1.out.sent HS.out) (by decide) true (by rfl)
        refine hcall.mono ?_
        clear hcall
        rintro e wi2 ⟨rfl, hb⟩
        have HL_wi2 := Shut.mk (HL_wi1.out.quiet hb)
        clear hb
        go_wp2_with (fail)
        have hcall := isP_any E 107 107 wi2 (HL_wi2.out.sent HS.out) (by decide) true (by rfl)
        refine hcall.mono ?_
        clear hcall
        rintro e wi3 ⟨rfl, hb⟩
        have HL_wi3 := Shut.mk (HL_wi2.out.quiet hb)
        clear hb
        go_wp2_with (fail)
        have hcall := isP_any E 111 111 wi3 (HL_wi3.out.sent HS.out) (by decide) true (by rfl)
        refine hcall.mono ?_
        clear hcall
        rintro e wi4 ⟨rfl, hb⟩
        have HL_wi4 := Shut.mk (HL_wi3.out.quiet hb)
        clear hb
        go_wp2_with (fail)
        have hcall := flying_l HL_wi4.out
        rw [HGZ.out] at hcall
        rw [(show (toldM flyP (oneL k)).length = 1 from one_told (by omega))] at hcall
        refine hcall.mono ?_
        clear hcall
        rintro e wfl ⟨Af, cf, rfl, -, hb⟩
        have HL_wfl := Shut.mk (HL_wi4.out.quiet hb)
        clear hb
        go_wp2_with (fail)
        have hcall := isP_any E 111 111 wfl (HL_wfl.out.sent HS.out) (by decide) true (by rfl)
        refine hcall.mono ?_
        clear hcall
        rintro e wlast ⟨rfl, hb⟩
        have HL_wlast := Shut.mk (HL_wfl.out.quiet hb)
        clear hb
        go_wp2_with (fail)
        go_ret
        exact ⟨rfl, HL_wlast.out.bel⟩
      · have HNF := Shut.mk (show (oneL k).any (nearP ((a : Nat) : Int)) = true from (one_near (by omega)).2 (by unfold rd; omega))
        have HFI := Shut.mk (show ¬ ((a : Nat) : Int) < 4033 by omega)
        have hcall := heard_l HL_wq4.out HT.out (one_fly (by omega)) a 18446744073709551615 (by omega) (by decide) HNF.out
        rw [HGZ.out] at hcall
        refine hcall.mono ?_
        clear hcall
        rintro e wq5 ⟨Ah, ch, ph, xh, rfl, -, hl5, -, -, -, hg5, -⟩
        have HL_wq5 := Shut.mk hl5
        have HG5 := Shut.mk hg5
        clear hl5 hg5 hfar ha1 ha2 ha3
        go_wp2_with (fail)
        have hcall := heard_no HL_wq5.out.se HL_wq5.out.inv (lost_fly _) 4096 0 E ((HL_wq5.out.sent HS.out).at_ 110 (by decide))
        rw [HG5.out] at hcall
        refine hcall.mono ?_
        clear hcall
        rintro e wq6 ⟨rfl, hb⟩
        have HL_wq6 := Shut.mk (HL_wq5.out.quiet hb)
        clear hb
        go_wp2_with (fail)
        have hcall := isP_any E 107 107 wq6 (HL_wq6.out.sent HS.out) (by decide) true (by rfl)
        refine hcall.mono ?_
        clear hcall
        rintro e wi0 ⟨rfl, hb⟩
        have HL_wi0 := Shut.mk (HL_wq6.out.quiet hb)
        clear hb
        go_wp2_with (fail)
        have hcall := isP_any E 107 107 wi0 (HL_wi0.out.sent HS.out) (by decide) true (by rfl)
        refine hcall.mono ?_
        clear hcall
        rintro e wi1 ⟨rfl, hb⟩
        have HL_wi1 := Shut.mk (HL_wi0.out.quiet hb)
        clear hb
        go_wp2_with (fail)
        have hcall := isP_any E 110 110 wi1 (HL_wi1.out.sent HS.out) (by decide) true (by rfl)
        refine hcall.mono ?_
        clear hcall
        rintro e wi2 ⟨rfl, hb⟩
        have HL_wi2 := Shut.mk (HL_wi1.out.quiet hb)
        clear hb
        go_wp2_with (fail)
        have hcall := isP_any E 107 107 wi2 (HL_wi2.out.sent HS.out) (by decide) true (by rfl)
        refine hcall.mono ?_
        clear hcall
        rintro e wi3 ⟨rfl, hb⟩
        have HL_wi3 := Shut.mk (HL_wi2.out.quiet hb)
        clear hb
        go_wp2_with (fail)
        have hfi := HFI.out
        have hcall := is_any E 0 111 wi3 (HL_wi3.out.sent HS.out) (.inl rfl)
        rw [errV_zero] at hcall
        rw [show (((0 : Nat) : Int) == 111) = false from rfl] at hcall
        refine hcall.mono ?_
        clear hcall
        rintro e wi4 ⟨rfl, hb⟩
        have HL_wi4 := Shut.mk (HL_wi3.out.quiet hb)
        clear hb
        go_wp2_with (fail)
        have hcall := isP_any E 110 111 wi4 (HL_wi4.out.sent HS.out) (by decide) false (by rfl)
        refine hcall.mono ?_
        clear hcall
        rintro e wlast ⟨rfl, hb⟩
        have HL_wlast := Shut.mk (HL_wi4.out.quiet hb)
        clear hb
        go_wp2_with (fail)
        go_ret
        exact ⟨ret_b (by rw [decide_eq_false (by have := HFI.out; omega)]; rfl), HL_wlast.out.bel⟩

end Go.Proofs.YtlbfioknkagboaaDoor.baSeqs
