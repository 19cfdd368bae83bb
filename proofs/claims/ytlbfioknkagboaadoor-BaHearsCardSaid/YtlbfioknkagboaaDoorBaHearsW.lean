/-
  The walk of muezzin/muezzinlaw16.BaHears: the Go text returns true.
-/
import Derived.Test.YtlbfioknkagboaaDoorSeO
import Derived.Test.YtlbfioknkagboaaDoorErrP
import Derived.LoopTactic
import Derived.Deep.CutRange
import Derived.Deep.CutBlock
import Derived.WalkKit
import Derived.ProofKit
import Derived.Below
namespace Go.Proofs.YtlbfioknkagboaaDoor.baHears
open Go.ChangeShapes Go.WideShapes Go.ChangeAt Go.RowKit Go.Deep
set_option linter.unusedVariables false
set_option linter.unusedSimpArgs false


open Go.Proofs.YtlbfioknkagboaaDoor
theorem wf_u64b {n : Int} (h : (Lit.int .u64 n).wf = true) : 0 ≤ n ∧ n < 18446744073709551616 := by
  have h' : IntKind.u64.min ≤ n ∧ n ≤ IntKind.u64.max := by simpa [Lit.wf] using h
  have a : IntKind.u64.min = 0 := by decide
  have b : IntKind.u64.max = 18446744073709551615 := by decide
  rw [a, b] at h'
  omega
def hitL (M nb n : Nat) : List Nat := (List.range n).filter fun i => hitB (bitM M) nb i
def misL (M nb n : Nat) : List Nat := (List.range n).filter fun i => !hitB (bitM M) nb i
def natI (l : List Nat) : List Int := l.map fun i => ((i : Nat) : Int)
theorem natI_snoc (l : List Nat) (j : Nat) : natI (l ++ [j]) = natI l ++ [((j : Nat) : Int)] := by unfold natI; rw [List.map_append]; rfl
theorem natI_wf {l : List Nat} (h : ∀ i ∈ l, i < 1000) : ∀ x ∈ natI l, -9223372036854775808 ≤ x ∧ x ≤ 9223372036854775807 := by
  intro x hx
  obtain ⟨i, hi, rfl⟩ := List.mem_map.1 hx
  have := h i hi
  omega
theorem hit_yes {M nb j : Nat} (h : hitB (bitM M) nb j = true) : hitL M nb (j + 1) = hitL M nb j ++ [j] := by unfold hitL; rw [List.range_succ, List.filter_append, List.filter_cons, if_pos h]; rfl
theorem hit_no {M nb j : Nat} (h : hitB (bitM M) nb j = false) : hitL M nb (j + 1) = hitL M nb j := by unfold hitL; rw [List.range_succ, List.filter_append, List.filter_cons, if_neg (by rw [h]; simp)]; simp
theorem mis_yes {M nb j : Nat} (h : hitB (bitM M) nb j = false) : misL M nb (j + 1) = misL M nb j ++ [j] := by unfold misL; rw [List.range_succ, List.filter_append, List.filter_cons, if_pos (by rw [h]; rfl)]; rfl
theorem mis_no {M nb j : Nat} (h : hitB (bitM M) nb j = true) : misL M nb (j + 1) = misL M nb j := by unfold misL; rw [List.range_succ, List.filter_append, List.filter_cons, if_neg (by rw [h]; simp)]; simp
theorem hit_lt {M nb n : Nat} (h : n ≤ 64) : ∀ i ∈ hitL M nb n, i < 1000 := fun i hi => by have := List.mem_range.1 (List.mem_filter.1 hi).1; omega
theorem mis_lt {M nb n : Nat} (h : n ≤ 64) : ∀ i ∈ misL M nb n, i < 1000 := fun i hi => by have := List.mem_range.1 (List.mem_filter.1 hi).1; omega
section
variable {M nb k a : Nat}
theorem ack_at {i : Nat} (hi : i < 64) (hn : nb < 64) (ha : a = (4096 - nb) % 4096) : ackP a M (lineF pkI 100 1 true i) = hitB (bitM M) nb i := by
  show (true && (decide (distN a i < 64) && bitM M (distN a i))) = (decide (i + nb < 64) && bitM M (i + nb))
  rw [ha, back_dist hn hi, Bool.true_and, Nat.add_comm nb i]
theorem told_ack (hk : k ≤ 64) (hn : nb < 64) (ha : a = (4096 - nb) % 4096) : toldM (ackP a M) (lineL pkI 100 1 true k) = (hitL M nb k).map fun i => (⟨pkI i, i, 1, 100⟩ : Mp) := by
  unfold toldM lineL hitL
  rw [List.filter_map, List.map_map]
  have e : (List.range k).filter (ackP a M ∘ lineF pkI 100 1 true) = (List.range k).filter fun i => hitB (bitM M) nb i :=
    List.filter_congr fun i hi => ack_at (by have := List.mem_range.1 hi; omega) hn ha
  rw [e]
  rfl
theorem left_ack (hk : k ≤ 64) (hn : nb < 64) (ha : a = (4096 - nb) % 4096) : ((lineL pkI 100 1 true k).filter fun f => !ackP a M f) = (misL M nb k).map (lineF pkI 100 1 true) := by
  unfold lineL misL
  rw [List.filter_map]
  have e : (List.range k).filter ((fun f => !ackP a M f) ∘ lineF pkI 100 1 true) = (List.range k).filter fun i => !hitB (bitM M) nb i :=
    List.filter_congr fun i hi => by show (!ackP a M (lineF pkI 100 1 true i)) = _; rw [ack_at (by have := List.mem_range.1 hi; omega) hn ha]
  rw [e]
theorem lost_left : lostL ((misL M nb k).map (lineF pkI 100 1 true)) = (misL M nb k).map (lineF pkI 100 1 false) := by
  unfold lostL
  rw [List.map_map]
  rfl
theorem near_line (h : 0 < k) (hn : nb < 64) (ha : a = (4096 - nb) % 4096) : (lineL pkI 100 1 true k).any (nearP ((a : Nat) : Int)) = true := by
  refine any_line0.2 ⟨0, h, ?_⟩
  show (true && decide (rd (((0 : Nat) : Int) - ((a : Nat) : Int)) < 64)) = true
  rw [Bool.true_and, decide_eq_true_iff]
  unfold rd
  omega
theorem seqI_map {l : List Nat} {t : Nat} {til : Int} : seqI (l.map fun i => (⟨pkI i, i, t, til⟩ : Mp)) = natI l := by
  unfold seqI natI
  rw [List.map_map]
  rfl
theorem due_left : toldM idleP ((misL M nb k).map (lineF pkI 100 1 false)) = (misL M nb k).map fun i => (⟨pkI i, i, 1, 100⟩ : Mp) := by
  unfold toldM
  rw [List.filter_eq_self.2]
  · rw [List.map_map]; rfl
  · intro f hf
    obtain ⟨i, -, rfl⟩ := List.mem_map.1 hf
    rfl
theorem fly_left : toldM flyP ((misL M nb k).map (lineF pkI 100 1 false)) = [] := by
  unfold toldM
  rw [List.filter_eq_nil_iff.2]
  · rfl
  · intro f hf
    obtain ⟨i, -, rfl⟩ := List.mem_map.1 hf
    intro e; cases e
def firstN (l : List Nat) (n : Nat) : Nat := match l with | [] => n | d :: _ => d
theorem ends_at {x : Wo} {j fs : Nat} (h : InvX x ((misL M nb j).map (lineF pkI 100 1 false))) (hs : x.sz = 64) (ha : nmW x x.gv = j) (hj : j ≤ 64) (hf : fs = firstN (misL M nb j) j) : x.st = fs ∧ x.sz - x.gv = 64 - (j - fs) ∧ fs ≤ j := by
  have h1 := h.inv.st
  have h2 := h.inv.gv
  subst hf
  cases e : misL M nb j with
  | nil =>
    rw [e] at h
    have h3 := h.start_nil.1
    rw [h3] at ha ⊢
    unfold nmW at ha
    show x.st = j ∧ x.sz - 0 = 64 - (j - j) ∧ j ≤ j
    omega
  | cons d r =>
    rw [e] at h
    have h3 : x.st = d := h.start_cons
    have h4 : d < j := List.mem_range.1 (List.mem_filter.1 (show d ∈ misL M nb j by rw [e]; exact List.mem_cons_self)).1
    unfold nmW at ha
    show x.st = d ∧ x.sz - x.gv = 64 - (j - d) ∧ d ≤ j
    omega
theorem bit_any {n : Nat} (hM : M < 18446744073709551616) (h : n < 64) : (bits .and .u64 ((M : Int) / 2 ^ n) 1 == 1) = bitM M n := by
  have := ack_word (d := n) hM
  rw [show min n 64 = n by omega, decide_eq_true h, Bool.true_and] at this
  exact this
theorem natI_get {l : List Nat} (h : 0 < l.length) (n : Nat) : (natI l).getD 0 0 = ((firstN l n : Nat) : Int) := by
  cases l with
  | nil => simp at h
  | cons d r => rfl
end

/-! ### THE WALK -/
set_option maxRecDepth 100000 in
set_option maxHeartbeats 8000000 in
theorem walk (n0 : Int) (n1 : Int) (n2 : Int) (w : World) (E : Nat → Addr) (hS : Sent w E [103, 107, 109, 110, 111]) (hT : Tab64 w) (w0 : (Lit.int .i64 n0).wf = true) (w1 : (Lit.int .i64 n1).wf = true) (w2 : (Lit.int .u64 n2).wf = true) :
    Calls Tryd.prog 4 #[.int .i64 n0, .int .i64 n1, .int .u64 n2] w fun e w' => e = .returned (.bool true) ∧ Below w.heap.size w w' := by
  have HS := Shut.mk hS
  have HT := Shut.mk hT
  have W0 := Shut.mk w0
  have W1 := Shut.mk w1
  clear hS hT w0 w1
  obtain ⟨hu0, hu1⟩ := wf_u64b w2
  obtain ⟨M, hM⟩ := Int.eq_ofNat_of_zero_le hu0
  subst hM
  have HM := Shut.mk (show M < 18446744073709551616 by omega)
  clear w2 hu0 hu1
  go_enter Tryd.func4, Tryd.ntmps4
  go_wp2_with (fail)
  refine (first_any w).mono ?_
  rintro e wa ⟨rfl, hBa⟩
  have HBa := Shut.mk hBa
  clear hBa
  go_wp2_with (fail)
  refine (number_any n0 64 wa W0.out (by decide) (by decide)).mono ?_
  rintro e wn ⟨rfl, rfl⟩
  have hm0 := nmod_lo n0 64 (by decide)
  have hm1 := nmod_hi n0 64 (by decide)
  obtain ⟨m, hnm⟩ := Int.eq_ofNat_of_zero_le hm0
  rw [hnm] at hm1 ⊢
  clear hm0 hnm
  have hm : m < 64 := by omega
  clear hm1
  obtain ⟨z, hz⟩ : ∃ z : Nat, z = m + 1 := ⟨_, rfl⟩
  have HSZ := Shut.mk (show ((m : Nat) : Int) + 1 = ((z : Nat) : Int) by omega)
  have hz1 : 1 ≤ z := by omega
  have hz2 : z ≤ 64 := by omega
  have hmz : ((m : Nat) : Int) < 64 := by omega
  clear hz hm
  go_wp2_with (fail)
  rw [HSZ.out]
  refine (number_any n1 64 wa W1.out (by decide) (by decide)).mono ?_
  rintro e wn ⟨rfl, rfl⟩
  have hm0 := nmod_lo n1 64 (by decide)
  have hm1 := nmod_hi n1 64 (by decide)
  obtain ⟨nb, hnm⟩ := Int.eq_ofNat_of_zero_le hm0
  rw [hnm] at hm1 ⊢
  clear hm0 hnm
  have hnb : nb < 64 := by omega
  clear hm1
  clear hmz
  have hz3 : ((z : Nat) : Int) ≤ 64 := by omega
  go_wp2_with (fail)
  refine (new_l (w0 := w) 64 3 100 (by decide) (by decide) (by decide) (by decide) (by decide) HBa.out).mono ?_
  rintro e wb ⟨p0, rfl, hl, hfo, hb⟩
  have HL0 := Shut.mk hl
  obtain ⟨g, hg⟩ : ∃ g, g = p0.g := ⟨_, rfl⟩
  rw [← hg]
  have HG0 := Shut.mk hg.symm
  clear hl hg hfo hb
  go_wp2_with (fail)
  have hcall := ask_l HL0.out 1 (by decide) (by decide) rfl rfl 0 rfl
  rw [HG0.out] at hcall
  refine hcall.mono ?_
  clear hcall
  rintro e wc ⟨rfl, hl1, -⟩
  have HL1 := Shut.mk hl1
  clear hl1
  go_wp2_with (fail)
  have hcall := answer_l HL1.out 0 rfl rfl (by decide) 1 rfl 64 (by rfl)
  rw [HG0.out] at hcall
  refine hcall.mono ?_
  clear hcall
  rintro e wd ⟨rfl, hl2, -⟩
  rw [line_zero _ 64 3 100 1 100 64 rfl rfl rfl rfl rfl rfl rfl rfl rfl] at hl2
  have HL2 := Shut.mk hl2
  clear hl2
  go_wp2_with (fail)
  go_loopw [12, 13] (fun u i wr => ∃ (k : Nat) (q : Sp), k ≤ z ∧ i = .int .i64 k ∧ LawS w wr q (lineB 64 3 100 1 100 0 false 64 k) ∧ q.g = g ∧ RowN wr u (idxI k) ∧ (∀ j, u.ownBlock = some j → ¬ FootS q j ∧ w.heap.size ≤ j)) (fun _ i _ => z - (intOf i).toNat)
  case atStart => exact ⟨0, p0, by omega, rfl, HL2.out, HG0.out, RowN.nil _, (fun j hj => by cases hj)⟩
  case round =>
    clear HL2
    obtain ⟨k, q, hk, rfl, hl, hg, hrn, hap⟩ := hrel
    have HLK := Shut.mk hl
    have HGK := Shut.mk hg
    have HRN := Shut.mk hrn
    have HAP := Shut.mk hap
    clear hl hg hrn hap
    by_cases hlt : k < z
    · have hki : ((k : Nat) : Int) < ((z : Nat) : Int) := by omega
      go_wp2_with (fail)
      have hcall := fresh_l HLK.out (by show (3 : Nat) ≠ 2; decide) rfl (by show k < 64; omega) ((k : Nat) : Int) 0 0 0 0 (by decide) (by decide) k 100 (nm_line (by omega)) rfl
      rw [HGK.out] at hcall
      refine hcall.mono ?_
      clear hcall
      rintro e wf ⟨rfl, q2, hl2, hst, hg2⟩
      rw [fresh_line] at hl2
      obtain ⟨hrn, hap⟩ := hst.row HRN.out (fun j hj => (HAP.out j hj).1)
      have HLN := Shut.mk hl2
      have HGN := Shut.mk hg2
      have HBM := Shut.mk ((Below.refl wf.heap.size wf).alloc (Nat.le_refl _) (Obj.cells #[.int .i64 ((k : Nat) : Int), .int .u32 0, .int .i64 0, .int .i64 0, .slice none 0 0, .int .i64 ((k : Nat) : Int), .int .i64 0, .int .i64 100] 40 (0, 0)))
      have HLM := Shut.mk (HLN.out.quiet HBM.out)
      have HRN2 := Shut.mk (hrn.only (S := fun _ => False) (Only.of_quiet HBM.out) (fun _ _ e => e))
      have HAP2 := Shut.mk hap
      have c5 : (wf.alloc (Obj.cells #[.int .i64 ((k : Nat) : Int), .int .u32 0, .int .i64 0, .int .i64 0, .slice none 0 0, .int .i64 ((k : Nat) : Int), .int .i64 0, .int .i64 100] 40 (0, 0))).cell? ⟨wf.heap.size, 5, none⟩ = some (.int .i64 ((k : Nat) : Int)) := by have h9 := (block_range (heap_alloc_last wf (Obj.cells #[.int .i64 ((k : Nat) : Int), .int .u32 0, .int .i64 0, .int .i64 0, .slice none 0 0, .int .i64 ((k : Nat) : Int), .int .i64 0, .int .i64 100] 40 (0, 0)))) 5 _ rfl; rw [Nat.zero_add] at h9; exact h9
      obtain ⟨wg, hwg⟩ : ∃ wg, wg = wf.alloc (Obj.cells #[.int .i64 ((k : Nat) : Int), .int .u32 0, .int .i64 0, .int .i64 0, .slice none 0 0, .int .i64 ((k : Nat) : Int), .int .i64 0, .int .i64 100] 40 (0, 0)) := ⟨_, rfl⟩
      have HWG := Shut.mk hwg
      have HLL := Shut.mk (show (idxI k).length ≤ 1000000 by rw [idxI_len]; omega)
      have HA7 := Shut.mk (show Below wg.heap.size wg (wg.alloc (Obj.cells #[.int .i64 ((k : Nat) : Int)] 3 (0, 0))) from (Below.refl wg.heap.size wg).alloc (Nat.le_refl _) _)
      have HX7 := Shut.mk (show (wg.alloc (Obj.cells #[.int .i64 ((k : Nat) : Int)] 3 (0, 0))).rangeAt (wf.heap.size + 1) 0 [.int .i64 ((k : Nat) : Int)] from by rw [hwg]; exact block_range (two_alloc wf _ (Obj.cells #[.int .i64 ((k : Nat) : Int)] 3 (0, 0))).2.2.1)
      rw [← hwg] at HLM HRN2
      have HR7 := Shut.mk (HRN2.out.only (S := fun _ => False) (Only.of_quiet HA7.out) (fun _ _ e => e))
      have HL7 := Shut.mk (HLM.out.quiet HA7.out)
      rw [hwg] at HA7 HX7 HR7 HL7
      clear hl2 hg2 hst hrn hap hwg
      go_wp2_with (first
        | (refine wpList_app_n rfl (.tmp 72) (.tmp 74) rfl u12 (idxI k) rfl HR7.out ((k : Nat) : Int) ⟨wf.heap.size + 1, 0, none⟩ 1 rfl (fun j q hq => by rw [Addr.add_mid]; exact HX7.out j q hq) HLL.out ?_
           intro uq w8 HO8 HB8 HZ8))
      have HL8 := Shut.mk (HL7.out.beside HB8.out (fun j hj e => HAP2.out j e hj) (fun j hj => (HAP.out j hj).2))
      have hsz7 := HL7.out.bel.size
      go_roundw
      case rel =>
        refine ⟨k + 1, q2, by omega, by go_num, HL8.out, HGN.out, by rw [idxI_succ]; exact HO8.out, fun j hj => ?_⟩
        rcases HZ8.out j hj with h1 | h1
        · exact ⟨HAP2.out j h1, (HAP.out j h1).2⟩
        · exact ⟨fun e => by have h9 := (HL7.out.foot j e).2; omega, by omega⟩
      case measure => simp [intOf]; omega
    · have hk' : k = z := by omega
      subst hk'
      obtain ⟨An, cn, hun, hcn, -⟩ := HRN.out.form
      subst hun
      rw [idxI_len] at HRN HAP hcn ⊢
      have HRB := Shut.mk (show RowB .i64 wr An k (idxI k) from by
        have h9 := RowN.row (A := An) (c := cn) (l := idxI k) (w := wr) (by rw [idxI_len]; exact HRN.out) (by rw [idxI_len]; unfold maxLen; omega) (idxI_wf (by omega))
        rw [idxI_len] at h9
        exact h9)
      have HFR := Shut.mk (show ∀ a, An = some a → ¬ FootS q a.block from fun a ha => (HAP.out a.block (by rw [ha]; rfl)).1)
      have HCN := Shut.mk hcn
      clear hcn hlt hk
      go_wp2_with (fail)
      have hcall := went_l HLK.out (HS.out.sub (by decide)) An k cn (idxI k) HRB.out HCN.out HFR.out (seq_sent (by decide)) 0 wentC_line (lineL pkI 100 1 true k) wentT_line
      rw [HGK.out] at hcall
      rw [errV_zero] at hcall
      refine hcall.mono ?_
      clear hcall
      rintro e wf ⟨rfl, hl5, -⟩
      have HL5 := Shut.mk hl5
      obtain ⟨a, haa⟩ : ∃ a : Nat, a = (4096 - nb) % 4096 := ⟨_, rfl⟩
      have HAA := Shut.mk haa
      have hrem : (4096 - ((nb : Nat) : Int)) % 4096 = ((a : Nat) : Int) := by omega
      have hnb3 : ((nb : Nat) : Int) < 64 := by omega
      have hp0 : 0 ≤ 4096 - ((nb : Nat) : Int) := by omega
      have HA4 := Shut.mk (show a < 4096 by omega)
      clear hl5 haa
      go_wp2_with (fail)
      have hcall := heard_l HL5.out HT.out (fly_line (by omega)) a M HA4.out HM.out (near_line (by omega) hnb HAA.out)
      rw [HGK.out] at hcall
      rw [show (toldM (ackP a M) (lineL pkI 100 1 true k)) = _ from told_ack (by omega) hnb HAA.out] at hcall
      rw [show ((lineL pkI 100 1 true k).filter fun f => !ackP a M f) = _ from left_ack (by omega) hnb HAA.out] at hcall
      rw [lost_left] at hcall
      rw [show ((hitL M nb k).map fun i => (⟨pkI i, i, 1, 100⟩ : Mp)).length = (hitL M nb k).length by simp] at hcall
      refine hcall.mono ?_
      clear hcall
      rintro e wh ⟨Ah, ch, ph, xh, rfl, hrow, hl6, hsz6, hah6, -, hg6, -⟩
      have HG6 := Shut.mk hg6
      have HL6 := Shut.mk hl6
      have HX6 := Shut.mk (show xh.sz = 64 ∧ nmW xh xh.gv = k from ⟨hsz6, hah6.trans (nm_line (by omega))⟩)
      have HROW := Shut.mk hrow
      have HHL := Shut.mk (show (hitL M nb k).length ≤ 64 from Nat.le_trans (List.length_filter_le _ _) (by rw [List.length_range]; exact hz2))
      have HML := Shut.mk (show (misL M nb k).length ≤ 64 from Nat.le_trans (List.length_filter_le _ _) (by rw [List.length_range]; exact hz2))
      clear hrow hl6 hsz6 hah6 hg6 hrem hp0
      go_wp2_with (fail)
      go_loopw [18, 19, 20] (fun u v i wr => ∃ j : Nat, j ≤ k ∧ i = .int .i64 j ∧ Below wh.heap.size wh wr ∧ RowN wr u (natI (hitL M nb j)) ∧ RowN wr v (natI (misL M nb j)) ∧ (∀ b, u.ownBlock = some b → wh.heap.size ≤ b ∧ ¬ v.ownBlock = some b) ∧ (∀ b, v.ownBlock = some b → wh.heap.size ≤ b)) (fun _ _ i _ => k - (intOf i).toNat)
      case atStart => exact ⟨0, by omega, rfl, Below.refl _ _, RowN.nil _, RowN.nil _, (fun b hb => by cases hb), (fun b hb => by cases hb)⟩
      case round =>
        obtain ⟨j, hj, rfl, hb, hru, hrv, hau, hav⟩ := hrel
        have HBJ := Shut.mk hb
        have HRU := Shut.mk hru
        have HRV := Shut.mk hrv
        have HAU := Shut.mk hau
        have HAV := Shut.mk hav
        clear hb hru hrv hau hav
        by_cases hlt : j < k
        · have hji : ((j : Nat) : Int) < ((k : Nat) : Int) := by omega
          have HUL := Shut.mk (show (natI (hitL M nb j)).length ≤ 1000000 by unfold natI; rw [List.length_map]; have h9 := List.length_filter_le (fun i => hitB (bitM M) nb i) (List.range j); rw [List.length_range] at h9; have h8 : (hitL M nb j).length ≤ j := h9; omega)
          have HVL := Shut.mk (show (natI (misL M nb j)).length ≤ 1000000 by unfold natI; rw [List.length_map]; have h9 := List.length_filter_le (fun i => !hitB (bitM M) nb i) (List.range j); rw [List.length_range] at h9; have h8 : (misL M nb j).length ≤ j := h9; omega)
          have HA7 := Shut.mk ((Below.refl wr.heap.size wr).alloc (Nat.le_refl _) (Obj.cells #[.int .i64 ((j : Nat) : Int)] 3 (0, 0)))
          have HX7 := Shut.mk (block_range (MapKept.heap_alloc wr (Obj.cells #[.int .i64 ((j : Nat) : Int)] 3 (0, 0))).1)
          have HU7 := Shut.mk (HRU.out.only (S := fun _ => False) (Only.of_quiet HA7.out) (fun _ _ e => e))
          have HV7 := Shut.mk (HRV.out.only (S := fun _ => False) (Only.of_quiet HA7.out) (fun _ _ e => e))
          have HB7 := Shut.mk (HBJ.out.trans (HA7.out.mono HBJ.out.size))
          have HSZ7 := Shut.mk HA7.out.size
          by_cases h64 : j + nb < 64
          · have hb6 : ((j : Nat) : Int) + ((nb : Nat) : Int) < 64 := by omega
            have hwb := bit_any HM.out (show j + nb < 64 from h64)
            have HHB := Shut.mk (show hitB (bitM M) nb j = bitM M (j + nb) by unfold hitB; rw [decide_eq_true h64, Bool.true_and])
            clear h64
            cases hbit : bitM M (j + nb) with
            | true =>
              have HIT := Shut.mk (show hitB (bitM M) nb j = true by rw [HHB.out, hbit])
              rw [hbit] at hwb
              clear hbit
              have HSU := Shut.mk (show hitL M nb (j + 1) = hitL M nb j ++ [j] from hit_yes HIT.out)
              have HSV := Shut.mk (show misL M nb (j + 1) = misL M nb j from mis_no HIT.out)
              go_wp2_with (first
                | (refine wpList_app_n rfl (.tmp 111) (.tmp 113) rfl u18 (natI (hitL M nb j)) rfl HU7.out ((j : Nat) : Int) ⟨wr.heap.size, 0, none⟩ 1 rfl (fun i q hq => by rw [Addr.add_mid]; exact HX7.out i q hq) HUL.out ?_
                   intro uq w8 HO8 HB8 HZ8))
              go_roundw
              case rel =>
                have hs8 := HSZ7.out
                have hs9 := HBJ.out.size
                refine ⟨j + 1, by omega, by go_num, HB7.out.trans (HB8.out.below (fun i hi e => by have h9 := (HAU.out i e).1; omega) HB7.out.size), by rw [HSU.out, natI_snoc]; exact HO8.out, by rw [HSV.out]; exact HV7.out.only HB8.out (fun b hb e => (HAU.out b e).2 hb), fun b hb => ?_, HAV.out⟩
                rcases HZ8.out b hb with h1 | h1
                · exact HAU.out b h1
                · exact ⟨by omega, fun e => by have h9 := HRV.out.lt b e; omega⟩
              case measure => simp [intOf]; omega
            | false =>
              have HIT := Shut.mk (show hitB (bitM M) nb j = false by rw [HHB.out, hbit])
              rw [hbit] at hwb
              clear hbit
              have HSU := Shut.mk (show hitL M nb (j + 1) = hitL M nb j from hit_no HIT.out)
              have HSV := Shut.mk (show misL M nb (j + 1) = misL M nb j ++ [j] from mis_yes HIT.out)
              go_wp2_with (first
                | (refine wpList_app_n rfl (.tmp 115) (.tmp 117) rfl u19 (natI (misL M nb j)) rfl HV7.out ((j : Nat) : Int) ⟨wr.heap.size, 0, none⟩ 1 rfl (fun i q hq => by rw [Addr.add_mid]; exact HX7.out i q hq) HVL.out ?_
                   intro uq w8 HO8 HB8 HZ8))
              go_roundw
              case rel =>
                have hs8 := HSZ7.out
                have hs9 := HBJ.out.size
                refine ⟨j + 1, by omega, by go_num, HB7.out.trans (HB8.out.below (fun i hi e => by have h9 := HAV.out i e; omega) HB7.out.size), by rw [HSU.out]; exact HU7.out.only HB8.out (fun b hb e => (HAU.out b hb).2 e), by rw [HSV.out, natI_snoc]; exact HO8.out, fun b hb => ⟨(HAU.out b hb).1, fun e => ?_⟩, fun b hb => ?_⟩
                · rcases HZ8.out b e with h1 | h1
                  · exact (HAU.out b hb).2 h1
                  · have h9 := HRU.out.lt b hb; omega
                · rcases HZ8.out b hb with h1 | h1
                  · exact HAV.out b h1
                  · omega
              case measure => simp [intOf]; omega
          · have hb6 : ¬ ((j : Nat) : Int) + ((nb : Nat) : Int) < 64 := by omega
            have HIT := Shut.mk (show hitB (bitM M) nb j = false by unfold hitB; rw [decide_eq_false h64]; rfl)
            clear h64
            have HSU := Shut.mk (show hitL M nb (j + 1) = hitL M nb j from hit_no HIT.out)
            have HSV := Shut.mk (show misL M nb (j + 1) = misL M nb j ++ [j] from mis_yes HIT.out)
            go_wp2_with (first
              | (refine wpList_app_n rfl (.tmp 115) (.tmp 117) rfl u19 (natI (misL M nb j)) rfl HV7.out ((j : Nat) : Int) ⟨wr.heap.size, 0, none⟩ 1 rfl (fun i q hq => by rw [Addr.add_mid]; exact HX7.out i q hq) HVL.out ?_
                 intro uq w8 HO8 HB8 HZ8))
            go_roundw
            case rel =>
              have hs8 := HSZ7.out
              have hs9 := HBJ.out.size
              refine ⟨j + 1, by omega, by go_num, HB7.out.trans (HB8.out.below (fun i hi e => by have h9 := HAV.out i e; omega) HB7.out.size), by rw [HSU.out]; exact HU7.out.only HB8.out (fun b hb e => (HAU.out b hb).2 e), by rw [HSV.out, natI_snoc]; exact HO8.out, fun b hb => ⟨(HAU.out b hb).1, fun e => ?_⟩, fun b hb => ?_⟩
              · rcases HZ8.out b e with h1 | h1
                · exact (HAU.out b hb).2 h1
                · have h9 := HRU.out.lt b hb; omega
              · rcases HZ8.out b hb with h1 | h1
                · exact HAV.out b h1
                · omega
            case measure => simp [intOf]; omega
        · have hj' : j = k := by omega
          subst hj'
          have HL7 := Shut.mk (HL6.out.quiet HBJ.out)
          have HROW7 := Shut.mk (RowS.below HROW.out HBJ.out)
          obtain ⟨Au, cu, huu, hcu, -⟩ := HRU.out.form
          obtain ⟨Av, cv, hvv, hcv, -⟩ := HRV.out.form
          subst huu hvv
          have hul : (natI (hitL M nb j)).length = (hitL M nb j).length := by unfold natI; simp
          have hvl : (natI (misL M nb j)).length = (misL M nb j).length := by unfold natI; simp
          have HUB := Shut.mk (HRU.out.row (by rw [hul]; have := HHL.out; unfold maxLen; omega) (natI_wf (hit_lt (by omega))))
          have HVB := Shut.mk (HRV.out.row (by rw [hvl]; have := HML.out; unfold maxLen; omega) (natI_wf (mis_lt (by omega))))
          rw [hul] at HUB ⊢
          rw [hvl] at HVB ⊢
          clear hul hvl hcu hcv
          obtain ⟨nl, hnl⟩ : ∃ n, n = (misL M nb j).length := ⟨_, rfl⟩
          obtain ⟨nh, hnh⟩ : ∃ n, n = (hitL M nb j).length := ⟨_, rfl⟩
          rw [← hnl] at HVB HML ⊢
          rw [← hnh] at HUB HHL HROW7 ⊢
          have HNL := Shut.mk hnl
          have HNH := Shut.mk hnh
          obtain ⟨fs, hfs⟩ : ∃ f, f = firstN (misL M nb j) j := ⟨_, rfl⟩
          have HFS := Shut.mk hfs
          have HX7 := Shut.mk (ends_at HL7.out.inv.inv HX6.out.1 HX6.out.2 (by omega) hfs)
          clear hnl hnh hfs hlt hj
          by_cases hn0 : nl = 0
          · have hfe : fs = j := by
              have h9 : misL M nb j = [] := List.length_eq_zero_iff.1 (by rw [← HNL.out]; exact hn0)
              rw [HFS.out, h9]
              rfl
            have hnli : ¬ (0 : Int) < ((nl : Nat) : Int) := by omega
            subst hfe
            clear hn0
            go_wp2_with (fail)
            refine (seqs_any Ah nh ch _ wr HROW7.out (by have := HHL.out; omega)).mono ?_
            rintro e wi ⟨v1, rfl, hr1, hf1, hb1⟩
            rw [seqI_map] at hr1
            obtain ⟨A1, c1, hv1, -⟩ := hr1.form
            subst hv1
            have hl1 : (natI (hitL M nb fs)).length = nh := by rw [HNH.out]; unfold natI; simp
            rw [hl1] at hr1 ⊢
            have HR1 := Shut.mk (show RowB .i64 wi A1 nh (natI (hitL M nb fs)) from by
              have h9 := RowN.row (A := A1) (c := c1) (l := natI (hitL M nb fs)) (w := wi) (by rw [hl1]; exact hr1) (by rw [hl1]; have := HHL.out; unfold maxLen; omega) (natI_wf (hit_lt (by omega)))
              rw [hl1] at h9
              exact h9)
            have HL8 := Shut.mk (HL7.out.quiet hb1)
            have HU8 := Shut.mk (HUB.out.below hb1)
            have HV8 := Shut.mk (HVB.out.below hb1)
            clear hr1 hf1 hb1 hl1
            go_wp2_with (fail)
            refine (sameInts_any A1 Au nh c1 nh cu (natI (hitL M nb fs)) (natI (hitL M nb fs)) wi HR1.out HU8.out).mono ?_
            rintro e wj ⟨rfl, nd, hnd⟩
            rw [show sameB (natI (hitL M nb fs)) (natI (hitL M nb fs)) = true from by unfold sameB; simp]
            have HL9 := Shut.mk (show LawS w wj ph _ from by rw [hnd]; exact HL8.out.drewN nd)
            have HV9 := Shut.mk (show RowB .i64 wj Av nl (natI (misL M nb fs)) from by rw [hnd]; exact HV8.out.drewN nd)
            clear hnd
            go_wp2_with (fail)
            have hcall := due_l HL9.out
            rw [HG6.out] at hcall
            rw [show toldM idleP ((misL M nb fs).map (lineF pkI 100 1 false)) = _ from due_left] at hcall
            rw [show ((misL M nb fs).map fun i => (⟨pkI i, i, 1, 100⟩ : Mp)).length = nl by rw [HNL.out]; simp] at hcall
            refine hcall.mono ?_
            clear hcall
            rintro e wk ⟨Ad, cd, rfl, hrd, hb⟩
            have HLA := Shut.mk (HL9.out.quiet hb)
            have HVA := Shut.mk (HV9.out.below hb)
            have HRD := Shut.mk hrd
            clear hb hrd
            go_wp2_with (fail)
            refine (seqs_any Ad nl cd _ wk HRD.out (by have := HML.out; omega)).mono ?_
            rintro e wl ⟨v2, rfl, hr2, hf2, hb2⟩
            rw [seqI_map] at hr2
            obtain ⟨A2, c2, hv2, -⟩ := hr2.form
            subst hv2
            have hl2 : (natI (misL M nb fs)).length = nl := by rw [HNL.out]; unfold natI; simp
            rw [hl2] at hr2 ⊢
            have HR2 := Shut.mk (show RowB .i64 wl A2 nl (natI (misL M nb fs)) from by
              have h9 := RowN.row (A := A2) (c := c2) (l := natI (misL M nb fs)) (w := wl) (by rw [hl2]; exact hr2) (by rw [hl2]; have := HML.out; unfold maxLen; omega) (natI_wf (mis_lt (by omega)))
              rw [hl2] at h9
              exact h9)
            have HLB := Shut.mk (HLA.out.quiet hb2)
            have HVB2 := Shut.mk (HVA.out.below hb2)
            clear hr2 hf2 hb2 hl2
            go_wp2_with (fail)
            refine (sameInts_any A2 Av nl c2 nl cv (natI (misL M nb fs)) (natI (misL M nb fs)) wl HR2.out HVB2.out).mono ?_
            rintro e wm ⟨rfl, nd, hnd⟩
            rw [show sameB (natI (misL M nb fs)) (natI (misL M nb fs)) = true from by unfold sameB; simp]
            have HLC := Shut.mk (show LawS w wm ph _ from by rw [hnd]; exact HLB.out.drewN nd)
            clear hnd
            go_wp2_with (fail)
            have hcall := startS_any HLC.out.se
            rw [HG6.out] at hcall
            rw [show ((xh.st : Nat) : Int) = ((fs : Nat) : Int) by rw [HX7.out.1]] at hcall
            refine hcall.mono ?_
            clear hcall
            rintro e wn ⟨rfl, rfl⟩
            go_wp2_with (fail)
            have hcall := flying_l HLC.out
            rw [HG6.out] at hcall
            rw [show toldM flyP ((misL M nb fs).map (lineF pkI 100 1 false)) = _ from fly_left] at hcall
            rw [show ([] : List Mp).length = 0 from rfl] at hcall
            refine hcall.mono ?_
            clear hcall
            rintro e wo ⟨Af, cf, rfl, -, hb⟩
            have HLD := Shut.mk (HLC.out.quiet hb)
            clear hb
            go_wp2_with (fail)
            have hcall := room_l HLD.out
            rw [HG6.out] at hcall
            rw [show ((xh.sz - xh.gv : Nat) : Int) = 64 - (((fs : Nat) : Int) - ((fs : Nat) : Int)) by rw [HX7.out.2.1]; have h9 := HX7.out.2.2; omega] at hcall
            refine hcall.mono ?_
            clear hcall
            rintro e wp ⟨rfl, hb⟩
            have HLE := Shut.mk (HLD.out.quiet hb)
            clear hb
            have hfj : ((fs : Nat) : Int) ≤ ((fs : Nat) : Int) := by have h9 := HX7.out.2.2; omega
            go_wp2_with (fail)
            go_ret
            exact ⟨rfl, HLE.out.bel⟩
          · have hnli : (0 : Int) < ((nl : Nat) : Int) := by omega
            obtain ⟨bv, ov, rfl, hcv⟩ := HVB.out.el 0 (by omega)
            have cz : wr.cell? ⟨bv, ov, none⟩ = some (.int .i64 ((fs : Nat) : Int)) := by
              have h9 := hcv
              rw [natI_get (by rw [← HNL.out]; omega) j, ← HFS.out] at h9
              exact h9
            clear hn0 hcv
            go_wp2_with (fail)
            refine (seqs_any Ah nh ch _ wr HROW7.out (by have := HHL.out; omega)).mono ?_
            rintro e wi ⟨v1, rfl, hr1, hf1, hb1⟩
            rw [seqI_map] at hr1
            obtain ⟨A1, c1, hv1, -⟩ := hr1.form
            subst hv1
            have hl1 : (natI (hitL M nb j)).length = nh := by rw [HNH.out]; unfold natI; simp
            rw [hl1] at hr1 ⊢
            have HR1 := Shut.mk (show RowB .i64 wi A1 nh (natI (hitL M nb j)) from by
              have h9 := RowN.row (A := A1) (c := c1) (l := natI (hitL M nb j)) (w := wi) (by rw [hl1]; exact hr1) (by rw [hl1]; have := HHL.out; unfold maxLen; omega) (natI_wf (hit_lt (by omega)))
              rw [hl1] at h9
              exact h9)
            have HL8 := Shut.mk (HL7.out.quiet hb1)
            have HU8 := Shut.mk (HUB.out.below hb1)
            have HV8 := Shut.mk (HVB.out.below hb1)
            clear hr1 hf1 hb1 hl1
            go_wp2_with (fail)
            refine (sameInts_any A1 Au nh c1 nh cu (natI (hitL M nb j)) (natI (hitL M nb j)) wi HR1.out HU8.out).mono ?_
            rintro e wj ⟨rfl, nd, hnd⟩
            rw [show sameB (natI (hitL M nb j)) (natI (hitL M nb j)) = true from by unfold sameB; simp]
            have HL9 := Shut.mk (show LawS w wj ph _ from by rw [hnd]; exact HL8.out.drewN nd)
            have HV9 := Shut.mk (show RowB .i64 wj (some ⟨bv, ov, none⟩) nl (natI (misL M nb j)) from by rw [hnd]; exact HV8.out.drewN nd)
            clear hnd
            go_wp2_with (fail)
            have hcall := due_l HL9.out
            rw [HG6.out] at hcall
            rw [show toldM idleP ((misL M nb j).map (lineF pkI 100 1 false)) = _ from due_left] at hcall
            rw [show ((misL M nb j).map fun i => (⟨pkI i, i, 1, 100⟩ : Mp)).length = nl by rw [HNL.out]; simp] at hcall
            refine hcall.mono ?_
            clear hcall
            rintro e wk ⟨Ad, cd, rfl, hrd, hb⟩
            have HLA := Shut.mk (HL9.out.quiet hb)
            have HVA := Shut.mk (HV9.out.below hb)
            have HRD := Shut.mk hrd
            clear hb hrd
            go_wp2_with (fail)
            refine (seqs_any Ad nl cd _ wk HRD.out (by have := HML.out; omega)).mono ?_
            rintro e wl ⟨v2, rfl, hr2, hf2, hb2⟩
            rw [seqI_map] at hr2
            obtain ⟨A2, c2, hv2, -⟩ := hr2.form
            subst hv2
            have hl2 : (natI (misL M nb j)).length = nl := by rw [HNL.out]; unfold natI; simp
            rw [hl2] at hr2 ⊢
            have HR2 := Shut.mk (show RowB .i64 wl A2 nl (natI (misL M nb j)) from by
              have h9 := RowN.row (A := A2) (c := c2) (l := natI (misL M nb j)) (w := wl) (by rw [hl2]; exact hr2) (by rw [hl2]; have := HML.out; unfold maxLen; omega) (natI_wf (mis_lt (by omega)))
              rw [hl2] at h9
              exact h9)
            have HLB := Shut.mk (HLA.out.quiet hb2)
            have HVB2 := Shut.mk (HVA.out.below hb2)
            clear hr2 hf2 hb2 hl2
            go_wp2_with (fail)
            refine (sameInts_any A2 (some ⟨bv, ov, none⟩) nl c2 nl cv (natI (misL M nb j)) (natI (misL M nb j)) wl HR2.out HVB2.out).mono ?_
            rintro e wm ⟨rfl, nd, hnd⟩
            rw [show sameB (natI (misL M nb j)) (natI (misL M nb j)) = true from by unfold sameB; simp]
            have HLC := Shut.mk (show LawS w wm ph _ from by rw [hnd]; exact HLB.out.drewN nd)
            clear hnd
            go_wp2_with (fail)
            have hcall := startS_any HLC.out.se
            rw [HG6.out] at hcall
            rw [show ((xh.st : Nat) : Int) = ((fs : Nat) : Int) by rw [HX7.out.1]] at hcall
            refine hcall.mono ?_
            clear hcall
            rintro e wn ⟨rfl, rfl⟩
            go_wp2_with (fail)
            have hcall := flying_l HLC.out
            rw [HG6.out] at hcall
            rw [show toldM flyP ((misL M nb j).map (lineF pkI 100 1 false)) = _ from fly_left] at hcall
            rw [show ([] : List Mp).length = 0 from rfl] at hcall
            refine hcall.mono ?_
            clear hcall
            rintro e wo ⟨Af, cf, rfl, -, hb⟩
            have HLD := Shut.mk (HLC.out.quiet hb)
            clear hb
            go_wp2_with (fail)
            have hcall := room_l HLD.out
            rw [HG6.out] at hcall
            rw [show ((xh.sz - xh.gv : Nat) : Int) = 64 - (((j : Nat) : Int) - ((fs : Nat) : Int)) by rw [HX7.out.2.1]; have h9 := HX7.out.2.2; omega] at hcall
            refine hcall.mono ?_
            clear hcall
            rintro e wp ⟨rfl, hb⟩
            have HLE := Shut.mk (HLD.out.quiet hb)
            clear hb
            have hfj : ((fs : Nat) : Int) ≤ ((j : Nat) : Int) := by have h9 := HX7.out.2.2; omega
            go_wp2_with (fail)
            go_ret
            exact ⟨rfl, HLE.out.bel⟩

end Go.Proofs.YtlbfioknkagboaaDoor.baHears
