/-
  muezzin/muezzinlaw13.FqOrder returns true, for all arguments; no condition.
-/
import Derived.Test.YtaibopaagjodoaaFqX
import Derived.Test.YtaibopaagjodoaaFqFair
import Derived.Deep.CutRange
import Derived.Test.YtaibopaagjodoaaOpenK
import Derived.WalkKit
import Derived.ProofKit
import Derived.OpenShut
import Derived.ChangeOld
import Derived.Below
namespace Go.Proofs.Ytaibopaagjodoaa.fqOrder
open Go.ChangeShapes Go.WideShapes Go.ChangeAt Go.RowKit Go.Deep
set_option linter.unusedVariables false
set_option linter.unusedSimpArgs false

theorem own : ownKnob Try.prog.godebug = none := by kernel_rfl
theorem laidOut : laidOutB Try.prog = true := by kernel_rfl


open Go.Proofs.Ytaibopaagjodoaa
theorem bool_info : (Try.prog.info? 4).map (fun i => (i.zero, i.size, i.bytes)) = some (some (.bool false), 1, 1) := by kernel_rfl
theorem size1b : (Try.prog.info? 4).map (·.size) = some 1 := by kernel_rfl
theorem own_pk {T : Nat → Prop} {w : World} {B : Nat} {v : Value} {l : List Pk} (h : OwnP T w B v l) : RowPk T w v l := by
  obtain ⟨l', h1, h2, h3, -⟩ := h
  refine ⟨l', ?_, h2, h3⟩
  rw [h1.2]
  exact RowAt.of_owns h1.1
theorem alloc_sz (w : World) (o : Obj) : (w.alloc o).heap.size = w.heap.size + 1 := by simp
/-- bools in a row of cells. -/
def rowT (l : List Bool) : Array Value := (l.map Value.bool).toArray
theorem rowT_size (l : List Bool) : (rowT l).size = l.length := by simp [rowT]
theorem rowT_set (l : List Bool) (i : Nat) (v : Bool) : (rowT l).setIfInBounds i (.bool v) = rowT (l.set i v) := by
  unfold rowT
  rw [List.setIfInBounds_toArray, List.map_set]
theorem rowT_cell {w : World} {g : Nat} {l : List Bool} {t : TypeId} (h : w.heap[g]? = some (.cells (rowT l) t (0, 0))) (i : Nat) (hi : i < l.length) : w.cell? ⟨g, i, none⟩ = some (.bool (l.getD i false)) := by
  have e := (block_range h) i (.bool (l.getD i false)) (by simp [rowT, List.getD, hi])
  simpa using e
theorem made_rowT {w : World} {B g n : Nat} (h : w.ownsRow B 4 1 (.slice (some ⟨g, 0, none⟩) n n) n (madeCells (Value.bool false).cells (n * 1)).toList) : w.heap[g]? = some (.cells (rowT (List.replicate n false)) 4 (0, 0)) := by
  rcases h.2 with ⟨h0, -⟩ | ⟨g', cap, cur, hv, hb, hg, hc, hm, hs, ht⟩
  · cases h0
  · simp only [Value.slice.injEq, Option.some.injEq, Addr.mk.injEq, and_true, true_and] at hv
    obtain ⟨rfl, rfl⟩ := hv
    have e : cur = rowT (List.replicate n false) := by
      apply Array.ext'
      rw [List.take_of_length_le (by rw [Array.length_toList, hs]; exact Nat.le_refl _)] at ht
      rw [ht]
      unfold rowT
      rw [List.map_replicate, Nat.mul_one]
      exact toList_madeCells_one _ _
    rw [← e]; exact hg

/-! ### THE WALK -/
set_option maxRecDepth 100000 in
set_option maxHeartbeats 8000000 in
theorem walk (n0 : Int) (n1 : Int) (a2 : Option Addr) (cap2 : Nat) (l2 : List Pk) (a3 : Option Addr) (len3 cap3 : Nat) (z3 : List Int) (w : World) (w0 : (Lit.int .u32 n0).wf = true) (w1 : (Lit.int .i64 n1).wf = true) (w2 : RowP (fun k => k < w.heap.size) w a2 l2 ∧ l2.length ≤ cap2 ∧ ∀ p ∈ l2, okPk p) (w3 : IsRow .i64 w a3 len3 cap3 z3) :
    Calls Try.prog 4 #[.int .u32 n0, .int .i64 n1, .slice a2 l2.length cap2, .slice a3 len3 cap3] w fun e w' => e = .returned (.bool true) ∧ Below w.heap.size w w' := by
  obtain ⟨hr2, hc2, hok⟩ := w2
  obtain ⟨n, hn⟩ : ∃ n : Nat, n = l2.length := ⟨_, rfl⟩
  have HN := Shut.mk hn
  have HOK := Shut.mk hok
  have HR := Shut.mk hr2
  obtain ⟨z, hz⟩ : ∃ z, z = z3.take len3 := ⟨_, rfl⟩
  have HZ := Shut.mk (show RowB .i64 w a3 len3 z by rw [hz]; exact RowB.of_row w3)
  have HW1 := Shut.mk w1
  have hs : 0 ≤ n0 ∧ n0 ≤ 4294967295 := by simpa [Lit.wf, IntKind.min, IntKind.max, IntKind.signed, IntKind.bits] using w0
  obtain ⟨sd, rfl⟩ := uv_of hs.1 hs.2
  obtain ⟨bi, hbi, hzb, hyb, hxb⟩ := info_parts' bool_info
  rw [← hn]
  clear w0 w1 w3 hr2 hc2 hok hn hz hs
  go_enter Try.func4, Try.ntmps4
  go_wp2_with (fail)
  refine (first_any w).mono ?_
  rintro e wa ⟨rfl, hBa⟩
  have HBa := Shut.mk hBa
  clear hBa
  rcases Nat.lt_or_ge 60 n with hN | hN
  · have hN' : (60 : Int) < (n : Int) := by omega
    go_wp2_with (fail)
    go_ret
    exact ⟨rfl, HBa.out⟩
  have hN1 : ¬ (60 : Int) < (n : Int) := by omega
  have hN2 : ¬ 60 < n := by omega
  rcases Nat.lt_or_ge 100 len3 with hL | hL
  · have hL' : (100 : Int) < (len3 : Int) := by omega
    go_wp2_with (fail)
    go_ret
    exact ⟨rfl, HBa.out⟩
  have hL1 : ¬ (100 : Int) < (len3 : Int) := by omega
  have hL2 : ¬ 100 < len3 := by omega
  by_cases hT : n1 < 0
  · go_wp2_with (fail)
    go_ret
    exact ⟨rfl, HBa.out⟩
  by_cases hT2 : 1073741824 < n1
  · go_wp2_with (fail)
    go_ret
    exact ⟨rfl, HBa.out⟩
  go_wp2_with (fail)
  refine (new_any (uv sd) n1 1000 wa).mono ?_
  rintro e wb ⟨rfl, hQ, hB⟩
  have hQW := QW.start (bk := bkQ sd) (w0 := w) (sd := sd) HBa.out hQ hB
  obtain ⟨x, hx⟩ : ∃ x : Rq, x = ⟨wa.heap.size, uv sd, n1, 1000⟩ := ⟨_, rfl⟩
  rw [← hx] at hQW
  have HQ1 := Shut.mk hQW
  have HSD := Shut.mk (show x.seed = uv sd by rw [hx])
  rw [show wa.heap.size = x.g by rw [hx]]
  clear hQ hB hQW hx hT hT2 hN1 hN2 hL1 hL2
  go_wp2_with (at_make; refine wpList_make_full _ rfl _ _ 52 rfl wb.heap.size 4 bi (.bool false) 1 Try.underlying52 hbi hzb hyb _ _ _ _ (n + 1) rfl rfl (by omega) (by omega) (by rw [hxb]; omega) (by unfold maxLen; omega) (by simp) ?_; intro w4 hown1 hgrow1)
  have HOn := (Only.refl (fun _ => False) _).grown hgrow1 (by simp)
  have hL0 := HOn.at_ (MapKept.heap_alloc wb _).1 (fun e => e)
  have HL0 := Shut.mk (show w4.heap[wb.heap.size]? = some (.cells (rowC (List.replicate 16 0)) 51 (0, 0)) from hL0)
  have HB4 := Shut.mk (show Below wb.heap.size wb w4 from ((Below.refl wb.heap.size wb).alloc (Nat.le_refl _) _).trans (((Below.refl _ _).grown hgrow1 (Nat.le_refl _) (by simp)).mono (by simp)))
  have hS0 := made_rowT hown1
  rw [alloc_sz] at hS0
  have HS0 := Shut.mk hS0
  clear HOn hL0 hS0 hown1 hgrow1
  obtain ⟨gS, hgS⟩ : ∃ g, g = wb.heap.size + 1 := ⟨_, rfl⟩
  rw [← hgS] at HS0 ⊢
  obtain ⟨gL, hgL⟩ : ∃ g, g = wb.heap.size := ⟨_, rfl⟩
  rw [← hgL] at HL0 ⊢
  have HNG := Shut.mk (show gL ≠ gS by omega)
  have HGW := Shut.mk (show w.heap.size ≤ gL ∧ w.heap.size ≤ gS by have := HQ1.out.bel.size; omega)
  have HAP0 := Shut.mk (show ∀ j, FootC x VZ j ∨ False → j ≠ gL ∧ j ≠ gS from fun j hj => by
    rcases hj with hj | hj
    · have := HQ1.out.is.lts hj; omega
    · exact hj.elim)
  have HQ4 := Shut.mk (HQ1.out.quiet HB4.out)
  clear hgS hgL HB4 HQ1
  go_loopw [13, 14] (fun fi _ wr => ∃ (i : Nat) (T : Nat → Prop) (V : Nat → Value) (q : Qu), i ≤ n ∧ fi = .int .i64 i ∧ QW (bkQ sd) w x T wr V q ∧ (∀ b, (q.fl b).pk = outOf (bkQ sd) b (ordN l2 i)) ∧ wr.heap[gL]? = some (.cells (rowC (List.replicate 16 0)) 51 (0, 0)) ∧ wr.heap[gS]? = some (.cells (rowT (List.replicate (n + 1) false)) 4 (0, 0)) ∧ ∀ j, FootC x V j ∨ T j → j ≠ gL ∧ j ≠ gS) (fun fi _ _ => n - (intOf fi).toNat)
  case atStart => exact ⟨0, _, _, _, Nat.zero_le _, rfl, HQ4.out, fun b => rfl, HL0.out, HS0.out, HAP0.out⟩
  case round =>
    clear HQ4 HL0 HS0 HAP0
    obtain ⟨i, T, V, q, hi, rfl, hq, hoi, hl, hs, hap⟩ := hrel
    have HQ := Shut.mk hq
    have HOI := Shut.mk hoi
    have HL := Shut.mk hl
    have HS := Shut.mk hs
    have HAP := Shut.mk hap
    clear hq hoi hl hs hap
    by_cases hin : i < n
    · have hin2 : (i : Int) < (n : Int) := by omega
      obtain ⟨b, off, aa, m, cc, rfl, hrg, hrb, hmc, -⟩ := RowK.el (RowK.below HR.out HQ.out.bel) i (by rw [← HN.out]; exact hin)
      have hpm : l2.getD i pk00.1 ∈ l2 := by
        have e : l2.getD i pk00.1 = l2[i]'(by rw [← HN.out]; exact hin) := by simp [List.getD, show i < l2.length by rw [← HN.out]; exact hin]
        rw [e]; exact List.getElem_mem _
      have hok := HOK.out _ hpm
      obtain ⟨p, hp⟩ : ∃ p, p = l2.getD i pk00.1 := ⟨_, rfl⟩
      rw [← hp] at hrg hrb hok
      have HP := Shut.mk hp
      have HRB := Shut.mk hrb
      have HC1 := Shut.mk (show wr.cell? ⟨b, off + i * 5 + 1, none⟩ = some (.int .u32 p.flow) from hrg 1 _ rfl)
      have hc4 : wr.cell? ⟨b, off + i * 5 + 4, none⟩ = some (.slice aa m cc) := hrg 4 _ rfl
      have HC4 := Shut.mk hc4
      have HFL := Shut.mk (show 0 ≤ p.flow ∧ p.flow ≤ 4294967295 from by have := hok.2.1; simpa [Lit.wf, IntKind.min, IntKind.max, IntKind.signed, IntKind.bits] using this)
      have HLN := Shut.mk (show (q.fl (bkQ sd (ordP i p).flow)).pk.length < 1000 by
        rw [HOI.out]
        have h1 : (outOf (bkQ sd) (bkQ sd (ordP i p).flow) (ordN l2 i)).length ≤ (ordN l2 i).length := List.length_filter_le _ _
        rw [ordN_len] at h1
        omega)
      obtain ⟨bq, hbq⟩ : ∃ bq : Nat, bkQ sd p.flow = bq := ⟨_, rfl⟩
      have hb16 : bq < 16 := by rw [← hbq]; exact bkQ_lt sd _
      have HBQ := Shut.mk hbq
      clear hrg hrb hmc hok hp hpm hbq
      rcases Nat.lt_or_ge 200 m with hm | hm
      · have hm' : (200 : Int) < (m : Int) := by omega
        go_wp2_with (fail)
        go_ret
        exact ⟨rfl, HQ.out.bel⟩
      · have hm' : ¬ (200 : Int) < (m : Int) := by omega
        have HM := Shut.mk hm
        have hadd : IntKind.i64.wrap ((i : Int) + 1) = (i : Int) + 1 := IntWalk.i64_in _ ⟨by omega, by omega⟩
        obtain ⟨w5, hw5⟩ : ∃ wq, wq = World.drew wr := ⟨_, rfl⟩
        have HWw5 := Shut.mk hw5
        have HDw5 := Shut.mk (show Below wr.heap.size wr w5 by rw [hw5]; exact (Below.refl _ _).drew)
        clear hw5
        go_wp2_with (fail)
        clear hc4 hm'
        refine wp_region_D (fun w' => w5 = w') 14 (by kernel_rfl) HWw5.out (fun hHeld hC => ?_)
        rw [← HWw5.out] at hHeld ⊢
        refine wpAnyD_pure (i := 0) (v := ?_) rfl hC (by kernel_rfl) (by kernel_rfl) (by kernel_rfl) (by decide) (fun _ _ _ h => h) (Or.inl ⟨by rfl, ?_⟩) (fun _ => hHeld) ?_
        rotate_left
        · intro w hSw
          clear hSw
          go_simp
          try with_reducible rfl
        try simp only [Act.put, List.getElem_toArray, List.getElem_cons_zero, List.getElem_cons_succ, List.setIfInBounds_toArray, List.set_cons_zero, List.set_cons_succ]
        clear hC
        intro hC
        refine wpAnyD_pure (i := 1) (v := ?_) rfl hC (by kernel_rfl) (by kernel_rfl) (by kernel_rfl) (by decide) (fun _ _ _ h => h) (Or.inl ⟨by rfl, ?_⟩) (fun _ => hHeld) ?_
        rotate_left
        · intro w hSw
          clear hSw
          go_simp
          try with_reducible rfl
        try simp only [Act.put, List.getElem_toArray, List.getElem_cons_zero, List.getElem_cons_succ, List.setIfInBounds_toArray, List.set_cons_zero, List.set_cons_succ]
        clear hC
        intro hC
        refine wpAnyD_pure (i := 2) (v := ?_) rfl hC (by kernel_rfl) (by kernel_rfl) (by kernel_rfl) (by decide) (fun _ _ _ h => h) (Or.inl ⟨by rfl, ?_⟩) (fun _ => hHeld) ?_
        rotate_left
        · intro w hSw
          clear hSw
          go_simp
          try with_reducible rfl
        try simp only [Act.put, List.getElem_toArray, List.getElem_cons_zero, List.getElem_cons_succ, List.setIfInBounds_toArray, List.set_cons_zero, List.set_cons_succ]
        clear hC
        intro hC
        refine wpAnyD_pure (i := 3) (v := ?_) rfl hC (by kernel_rfl) (by kernel_rfl) (by kernel_rfl) (by decide) (fun _ _ _ h => h) (Or.inl ⟨by rfl, ?_⟩) (fun _ => hHeld) ?_
        rotate_left
        · intro w hSw
          clear hSw
          go_simp
          try with_reducible rfl
        try simp only [Act.put, List.getElem_toArray, List.getElem_cons_zero, List.getElem_cons_succ, List.setIfInBounds_toArray, List.set_cons_zero, List.set_cons_succ]
        clear hC
        intro hC
        refine wpAnyD_pure (i := 4) (v := ?_) rfl hC (by kernel_rfl) (by kernel_rfl) (by kernel_rfl) (by decide) (fun _ _ _ h => h) (Or.inl ⟨by rfl, ?_⟩) (fun _ => hHeld) ?_
        rotate_left
        · intro w hSw
          clear hSw
          go_simp
          try with_reducible rfl
        try simp only [Act.put, List.getElem_toArray, List.getElem_cons_zero, List.getElem_cons_succ, List.setIfInBounds_toArray, List.set_cons_zero, List.set_cons_succ]
        clear hC
        intro hC
        refine wpAnyD_pure (i := 5) (v := ?_) rfl hC (by kernel_rfl) (by kernel_rfl) (by kernel_rfl) (by decide) (fun _ _ _ h => h) (Or.inl ⟨by rfl, ?_⟩) (fun _ => hHeld) ?_
        rotate_left
        · intro w hSw
          clear hSw
          go_simp
          try with_reducible rfl
        try simp only [Act.put, List.getElem_toArray, List.getElem_cons_zero, List.getElem_cons_succ, List.setIfInBounds_toArray, List.set_cons_zero, List.set_cons_succ]
        clear hC
        intro hC
        refine wpAnyD_pure (i := 6) (v := ?_) rfl hC (by kernel_rfl) (by kernel_rfl) (by kernel_rfl) (by decide) (fun _ _ _ h => h) (Or.inl ⟨by rfl, ?_⟩) (fun _ => hHeld) ?_
        rotate_left
        · intro w hSw
          clear hSw
          go_simp
          try with_reducible rfl
        try simp only [Act.put, List.getElem_toArray, List.getElem_cons_zero, List.getElem_cons_succ, List.setIfInBounds_toArray, List.set_cons_zero, List.set_cons_succ]
        clear hC
        intro hC
        refine wpAnyD_take (i := 7) (v := ?_) 40 rfl (by kernel_rfl) hC (by kernel_rfl) (by kernel_rfl) (by kernel_rfl) (by decide) (fun _ _ _ h => h) (Or.inl ⟨by rfl, ?_⟩) (fun _ => hHeld) ?_
        rotate_left
        · intro w hSw
          have hz := (show w.cell? ⟨b, off + i * 5 + 1, none⟩ = some (.int .u32 p.flow) from by rw [← hSw]; exact below_at HDw5.out HC1.out)
          clear hSw
          go_simp
          try with_reducible rfl
        try simp only [Act.put, List.getElem_toArray, List.getElem_cons_zero, List.getElem_cons_succ, List.setIfInBounds_toArray, List.set_cons_zero, List.set_cons_succ]
        clear hC
        intro hC
        refine wpAnyD_pure (i := 8) (v := ?_) rfl hC (by kernel_rfl) (by kernel_rfl) (by kernel_rfl) (by decide) (fun _ _ _ h => h) (Or.inl ⟨by rfl, ?_⟩) (fun _ => hHeld) ?_
        rotate_left
        · intro w hSw
          clear hSw
          go_simp
          try with_reducible rfl
        try simp only [Act.put, List.getElem_toArray, List.getElem_cons_zero, List.getElem_cons_succ, List.setIfInBounds_toArray, List.set_cons_zero, List.set_cons_succ]
        clear hC
        intro hC
        refine wpAnyD_pure (i := 9) (v := ?_) rfl hC (by kernel_rfl) (by kernel_rfl) (by kernel_rfl) (by decide) (fun _ _ _ h => h) (Or.inl ⟨by rfl, ?_⟩) (fun _ => hHeld) ?_
        rotate_left
        · intro w hSw
          clear hSw
          go_simp
          try with_reducible rfl
        try simp only [Act.put, List.getElem_toArray, List.getElem_cons_zero, List.getElem_cons_succ, List.setIfInBounds_toArray, List.set_cons_zero, List.set_cons_succ]
        clear hC
        intro hC
        refine wpAnyD_pure (i := 10) (v := ?_) rfl hC (by kernel_rfl) (by kernel_rfl) (by kernel_rfl) (by decide) (fun _ _ _ h => h) (Or.inl ⟨by rfl, ?_⟩) (fun _ => hHeld) ?_
        rotate_left
        · intro w hSw
          clear hSw
          go_simp
          try with_reducible rfl
        try simp only [Act.put, List.getElem_toArray, List.getElem_cons_zero, List.getElem_cons_succ, List.setIfInBounds_toArray, List.set_cons_zero, List.set_cons_succ]
        clear hC
        intro hC
        refine wpAnyD_pure (i := 11) (v := ?_) rfl hC (by kernel_rfl) (by kernel_rfl) (by kernel_rfl) (by decide) (fun _ _ _ h => h) (Or.inl ⟨by rfl, ?_⟩) (fun _ => hHeld) ?_
        rotate_left
        · intro w hSw
          clear hSw
          go_simp
          try with_reducible rfl
        try simp only [Act.put, List.getElem_toArray, List.getElem_cons_zero, List.getElem_cons_succ, List.setIfInBounds_toArray, List.set_cons_zero, List.set_cons_succ]
        clear hC
        intro hC
        refine wpAnyD_take (i := 12) (v := ?_) 40 rfl (by kernel_rfl) hC (by kernel_rfl) (by kernel_rfl) (by kernel_rfl) (by decide) (fun _ _ _ h => h) (Or.inl ⟨by rfl, ?_⟩) (fun _ => hHeld) ?_
        rotate_left
        · intro w hSw
          have hz := (show w.cell? ⟨b, off + i * 5 + 4, none⟩ = some (.slice aa m cc) from by rw [← hSw]; exact below_at HDw5.out HC4.out)
          clear hSw
          go_simp
          try with_reducible rfl
        try simp only [Act.put, List.getElem_toArray, List.getElem_cons_zero, List.getElem_cons_succ, List.setIfInBounds_toArray, List.set_cons_zero, List.set_cons_succ]
        clear hC
        intro hC
        refine wpAnyD_pure (i := 13) (v := ?_) rfl hC (by kernel_rfl) (by kernel_rfl) (by kernel_rfl) (by decide) (fun _ _ _ h => h) (Or.inl ⟨by rfl, ?_⟩) (fun _ => hHeld) ?_
        rotate_left
        · intro w hSw
          clear hSw
          go_simp
          try with_reducible rfl
        try simp only [Act.put, List.getElem_toArray, List.getElem_cons_zero, List.getElem_cons_succ, List.setIfInBounds_toArray, List.set_cons_zero, List.set_cons_succ]
        clear hC
        intro hC
        refine wpAnyD_one (i := 14) (by kernel_rfl) rfl hC (fun K hK => ?_)
        clear hC
        go_simp
        refine (qput (HQ.out.quiet HDw5.out) HSD.out (ordP i p) aa m cc (HRB.out.below HDw5.out) (by have := HM.out; omega) HFL.out ⟨Int.le_refl _, by show (0 : Int) ≤ 4503599627370496; omega⟩ HLN.out).mono ?_
        rintro e' wv1 ⟨rfl, T', V', hQ', hC'⟩
        rw [show bkQ sd (ordP i p).flow = bq from HBQ.out]
        have HQ' := Shut.mk hQ'
        have HC' := Shut.mk hC'
        clear hQ' hC'
        refine hK.out _ _ (past (by kernel_rfl)) (fun hC => ?_)
        clear hK K
        try simp only [Act.put, List.getElem_toArray, List.getElem_cons_zero, List.getElem_cons_succ, List.setIfInBounds_toArray, List.set_cons_zero, List.set_cons_succ]
        refine wpAnyD_pure (i := 15) (v := ?_) rfl hC (by kernel_rfl) (by kernel_rfl) (by kernel_rfl) (by decide) (fun _ _ _ h => h) (Or.inl ⟨by rfl, ?_⟩) (past (by kernel_rfl)) ?_
        rotate_left
        · intro w hSw
          clear hSw
          go_simp
          try with_reducible rfl
        try simp only [Act.put, List.getElem_toArray, List.getElem_cons_zero, List.getElem_cons_succ, List.setIfInBounds_toArray, List.set_cons_zero, List.set_cons_succ]
        clear hC
        intro hC
        refine wpAnyD_done (by kernel_rfl) ?_ _
        try simp only [Act.put, List.getElem_toArray, List.getElem_cons_zero, List.getElem_cons_succ, List.setIfInBounds_toArray, List.set_cons_zero, List.set_cons_succ]
        clear hHeld hC
        have hb1 : ¬ (bq : Int) < 0 := by omega
        have hb2 : ¬ (15 : Int) < (bq : Int) := by omega
        have HBN := HDw5
        go_wp2_with (fail)
        go_roundw
        case rel =>
          refine ⟨i + 1, T', V', _, by omega, by go_num, HQ'.out, ?_, ?_, ?_, fun j hj => ?_⟩
          · have h1 := ord_put (k := i) HOI.out
            rw [← HP.out] at h1
            exact h1
          · exact HC'.out.only.at_ ((HDw5.out.block _ (lt_blk HL.out)).trans HL.out) (fun e => (HAP.out gL (.inl e)).1 rfl)
          · exact HC'.out.only.at_ ((HDw5.out.block _ (lt_blk HS.out)).trans HS.out) (fun e => (HAP.out gS (.inl e)).2 rfl)
          · have h2 := lt_blk HL.out
            have h3 := lt_blk HS.out
            have h4 := HDw5.out.size
            rcases hj with hj | hj
            · rcases HC'.out.fresh j hj with h1 | h1
              · exact HAP.out j (.inl h1)
              · exact ⟨by omega, by omega⟩
            · rcases HC'.out.ft j hj with h1 | h1
              · exact HAP.out j (.inr h1)
              · exact ⟨by omega, by omega⟩
        case measure => simp [intOf]; omega
    · have hi' : n = i := by omega
      subst hi'
      have HOZ := Shut.mk (show ∀ b, outOf (bkQ sd) b [] ++ (q.fl b).pk = outOf (bkQ sd) b (ordN l2 n) from fun b => by rw [HOI.out b]; rfl)
      clear HOI
      go_wp2_with (fail)
      go_loopw [15, 16, 17] (fun fn fo fi wr => ∃ (i : Nat) (now : Int) (o : Nat) (O : List Pk) (V : Nat → Value) (q : Qu) (S : List Bool) (L : List Int), i ≤ len3 + n + 1 ∧ fi = .int .i64 i ∧ fn = .int .i64 now ∧ (0 ≤ now ∧ now ≤ 65536 * (i : Int)) ∧ fo = .int .i64 o ∧ o = O.length ∧ i ≤ o ∧ QW (bkQ sd) w x T wr V q ∧ (∀ b, outOf (bkQ sd) b O ++ (q.fl b).pk = outOf (bkQ sd) b (ordN l2 n)) ∧ SeenI (bkQ sd) n O S L ∧ wr.heap[gL]? = some (.cells (rowC L) 51 (0, 0)) ∧ wr.heap[gS]? = some (.cells (rowT S) 4 (0, 0)) ∧ ∀ j, FootC x V j ∨ T j → j ≠ gL ∧ j ≠ gS) (fun _ _ fi _ => len3 + n + 1 - (intOf fi).toNat)
      case atStart => exact ⟨0, 0, 0, [], V, q, _, _, Nat.zero_le _, rfl, rfl, ⟨Int.le_refl _, Int.le_refl _⟩, rfl, rfl, Nat.le_refl _, HQ.out, HOZ.out, seen_zero _ n, HL.out, HS.out, HAP.out⟩
      case round =>
        clear HQ HOZ HL HS HAP
        obtain ⟨i, now, o, O, V, q, S, L, hi, rfl, rfl, hnow, rfl, ho, hio, hq, hoi, hse, hl, hs, hap⟩ := hrel
        have HQ := Shut.mk hq
        have HOI := Shut.mk hoi
        have HSE := Shut.mk hse
        have HL := Shut.mk hl
        have HS := Shut.mk hs
        have HAP := Shut.mk hap
        have HOL := Shut.mk ho
        have hon : o ≤ n := by rw [ho]; exact ord_le (bkQ_lt sd) hoi
        have hib : i < len3 + n + 1 := by omega
        have HIO := Shut.mk hio
        have hib2 : (i : Int) < (len3 : Int) + (n : Int) + 1 := by omega
        clear hq hoi hse hl hs hap ho hio
        go_upto_if 102 with (fail)
        go_cut [15] from 89 to 199 (fun fn wx => ∃ now' : Int, fn = .int .i64 now' ∧ (0 ≤ now' ∧ now' ≤ 65536 * ((i : Int) + 1)) ∧ wr = wx)
        case first =>
          rcases Nat.lt_or_ge i len3 with h3 | h3
          · have h32 : (i : Int) < (len3 : Int) := by omega
            obtain ⟨b3, off3, rfl, hz3⟩ := (HZ.out.below HQ.out.bel).el i h3
            have HWF := Shut.mk (show (Lit.int .i64 (z.getD i 0)).wf = true from by have := HZ.out.wf i h3; simpa [Lit.wf] using this)
            have h1 := nmod_lo (z.getD i 0) 65536 (by decide)
            have h2 := nmod_hi (z.getD i 0) 65536 (by decide)
            obtain ⟨zi, hzi⟩ : ∃ zi, zi = z.getD i 0 := ⟨_, rfl⟩
            rw [← hzi] at hz3 HWF h1 h2
            clear hzi
            go_wp2_with (fail)
            refine (number_any zi 65536 wr HWF.out (by decide) (by decide)).mono ?_
            rintro e wn ⟨rfl, rfl⟩
            obtain ⟨nm, hnm⟩ : ∃ nm, nm = nmod zi 65536 := ⟨_, rfl⟩
            rw [← hnm] at h1 h2 ⊢
            have hwr : IntKind.i64.wrap (now + nm) = now + nm := IntWalk.i64_in _ ⟨by omega, by omega⟩
            have HNW := Shut.mk (show 0 ≤ now + nm ∧ now + nm ≤ 65536 * ((i : Int) + 1) from ⟨by omega, by omega⟩)
            clear hnm
            go_wp2_with (fail)
            go_meet
            case rel => exact ⟨_, rfl, HNW.out, rfl⟩
          · have h32 : ¬ (i : Int) < (len3 : Int) := by omega
            have HNW := Shut.mk (show 0 ≤ now ∧ now ≤ 65536 * ((i : Int) + 1) from ⟨by omega, by omega⟩)
            go_wp2_with (fail)
            go_meet
            case rel => exact ⟨now, rfl, HNW.out, rfl⟩
        case rest =>
          clear hnow
          obtain ⟨now, rfl, hnow, rfl⟩ := hcut
          have HNW := Shut.mk hnow
          obtain ⟨r, ds, q2, hT⟩ := takes_is ⟨now, clampR x.tg 0 1073741824, clampR x.iv 0 1073741824⟩ (mu q + 1) q [] (by omega) HQ.out.inv
          have HT := Shut.mk hT
          have ho2 := ord_take hT HQ.out.inv HOI.out
          have HO2 := Shut.mk ho2
          have HLE := Shut.mk (ord_le (bkQ_lt sd) ho2)
          have HEM := Shut.mk ((takes_keep hT HQ.out.inv).2.2)
          clear hT ho2
          go_wp2_with (fail)
          refine (qtake (bkQ_lt sd) HQ.out now (by omega) (by omega) _ _ _ HT.out).mono ?_
          rintro e w2 ⟨V3, late, T3, v, hQ3, hC3, hO3, hT3, hap3, hvo3, hE⟩
          have HQ3 := Shut.mk hQ3
          have HC3 := Shut.mk hC3
          have HO3 := Shut.mk hO3
          have HT3 := Shut.mk hT3
          have HAP3 := Shut.mk hap3
          have HVO3 := Shut.mk hvo3
          clear hQ3 hC3 hO3 hT3 hap3 hvo3
          rcases r with _ | p0
          · have hee : e = .returned (.tuple #[pkV pk00.1 (.slice none 0 0), late, .bool false]) := by
              rcases hE with ⟨-, hv, he⟩ | ⟨p, h0, -⟩
              · rw [← hv]; exact he
              · cases h0
            subst hee
            obtain ⟨Aq, cq, rfl, hrq, -⟩ := OwnK.row (d := pk00) HO3.out (fun _ _ => rfl) (by unfold maxLen; have := HLE.out; simp at this; omega)
            unfold pkV
            dsimp only [pk00]
            obtain ⟨s18, hs18⟩ : ∃ s, s = w2.heap.size := ⟨_, rfl⟩
            have HSs18 := Shut.mk hs18
            have HAw3 := Shut.mk ((Below.refl w2.heap.size w2).alloc (Nat.le_refl _) (Obj.cells #[Value.int .i64 0, .int .u32 0, .int .i64 0, .int .i64 0, Value.slice none 0 0] 32 (0, 0)))
            have HXw3 := Shut.mk (show (w2.alloc (Obj.cells #[Value.int .i64 0, .int .u32 0, .int .i64 0, .int .i64 0, Value.slice none 0 0] 32 (0, 0))).heap[s18]? = some (Obj.cells #[Value.int .i64 0, .int .u32 0, .int .i64 0, .int .i64 0, Value.slice none 0 0] 32 (0, 0)) by rw [hs18]; exact (MapKept.heap_alloc w2 (Obj.cells #[Value.int .i64 0, .int .u32 0, .int .i64 0, .int .i64 0, Value.slice none 0 0] 32 (0, 0))).1)
            obtain ⟨w3, hw3⟩ : ∃ w4, w4 = (w2.alloc (Obj.cells #[Value.int .i64 0, .int .u32 0, .int .i64 0, .int .i64 0, Value.slice none 0 0] 32 (0, 0))).setRow s18 #[Value.int .i64 0, .int .u32 0, .int .i64 0, .int .i64 0, Value.slice none 0 0] := ⟨_, rfl⟩
            have HYw3 := Shut.mk (show w3.heap[s18]? = some (Obj.cells #[Value.int .i64 0, .int .u32 0, .int .i64 0, .int .i64 0, Value.slice none 0 0] 32 (0, 0)) by rw [hw3]; exact setRow_heap _ s18 _ #[Value.int .i64 0, .int .u32 0, .int .i64 0, .int .i64 0, Value.slice none 0 0] _ (0, 0) HXw3.out)
            have HBw3 := Shut.mk (show Below w2.heap.size w2 w3 by rw [hw3]; exact below_setRow HAw3.out (by omega) _)
            have HWw3 := Shut.mk hw3
            clear hw3 hs18
            have hQ4 := HQ3.out.quiet HBw3.out
            obtain ⟨wq, hwq⟩ : ∃ wq, wq = w3 := ⟨_, rfl⟩
            obtain ⟨nA, hnA⟩ : ∃ nA, nA = ds.length := ⟨_, rfl⟩
            have HNA := Shut.mk hnA
            rw [← hnA]
            have HO2 := Shut.mk (show ∀ b, outOf (bkQ sd) b (O ++ ds) ++ (q2.fl b).pk = outOf (bkQ sd) b (ordN l2 n) by have := HO2.out; simpa using this)
            have HLE := Shut.mk (show (O ++ ds).length ≤ n by have := HLE.out; simpa using this)
            have HAw := Shut.mk (show RowP T3 wq Aq ds by rw [hwq]; exact RowK.below hrq HBw3.out)
            have hgl := lt_blk HL.out
            have hgs := lt_blk HS.out
            have HAB := Shut.mk (show ∀ p, Aq = some p → ¬ (p.block = gL ∨ p.block = gS) from fun p hp e => by
              have h1 := (OwnP.lt HO3.out p.block (by rw [hp]; rfl)).1
              rcases e with e | e <;> omega)
            have HTA := Shut.mk (show ∀ k, T3 k → ¬ (k = gL ∨ k = gS) from fun k hk e => by
              have h1 := (HT3.out k hk).1
              rcases e with e | e <;> omega)
            have HAPQ := Shut.mk (show ∀ j, FootC x V3 j ∨ T j → j ≠ gL ∧ j ≠ gS from fun j hj => by
              rcases hj with hj | hj
              · rcases HC3.out.fresh j hj with h1 | h1
                · exact HAP.out j (.inl h1)
                · exact ⟨by omega, by omega⟩
              · exact HAP.out j (.inr hj))
            have HLw := Shut.mk (show wq.heap[gL]? = some (.cells (rowC L) 51 (0, 0)) by
              have h1 := HC3.out.only.at_ HL.out (fun e => (HAP.out gL (.inl e)).1 rfl)
              rw [hwq]; exact (HBw3.out.block _ (lt_blk h1)).trans h1)
            have HSw := Shut.mk (show wq.heap[gS]? = some (.cells (rowT S) 4 (0, 0)) by
              have h1 := HC3.out.only.at_ HS.out (fun e => (HAP.out gS (.inl e)).2 rfl)
              rw [hwq]; exact (HBw3.out.block _ (lt_blk h1)).trans h1)
            have HQw := Shut.mk (show QW (bkQ sd) w x T wq V3 q2 by rw [hwq]; exact hQ4)
            have HALN := Shut.mk (show o + nA ≤ n by have := HLE.out; rw [List.length_append] at this; rw [HOL.out, hnA]; exact this)
            rw [← hwq] at HWw3
            clear hQ4 hwq hnA hgl hgs hrq
            clear HQ HL HS HAP HC3 HQ3 HAP3 HVO3 HT HO3 HT3
            go_wp2_with (first
              | (refine wpList_store_row rfl 32 (.tmp 18) (.tmp 114) rfl s18 #[Value.int .i64 0, .int .u32 0, .int .i64 0, .int .i64 0, Value.slice none 0 0] (by show Value.pointer (some ⟨w2.heap.size, 0, none⟩) = _; rw [HSs18.out]) rfl 32 _ HXw3.out size5 rfl (pkt_one _ _ _ _ _ _ _) ?_
                 rw [show World.setRow (World.alloc w2 _) s18 _ = wq from HWw3.out.symm, ← HSs18.out]))
            clear HWw3 HSs18
            go_loopw [16, 22] (fun fo fk wr => ∃ (k oo : Nat) (S : List Bool) (L : List Int), k ≤ nA ∧ fk = .int .i64 k ∧ oo = o + k ∧ fo = .int .i64 oo ∧ SeenI (bkQ sd) n (O ++ (ds).take k) S L ∧ Only (fun j => j = gL ∨ j = gS) wq wr ∧ wr.heap[gL]? = some (.cells (rowC L) 51 (0, 0)) ∧ wr.heap[gS]? = some (.cells (rowT S) 4 (0, 0))) (fun _ fk _ => nA - (intOf fk).toNat)
            case atStart => exact ⟨0, o, S, L, Nat.zero_le _, rfl, rfl, rfl, by rw [List.take_zero, List.append_nil]; exact HSE.out, Only.refl _ _, HLw.out, HSw.out⟩
            case round =>
              clear HSE HLw HSw
              obtain ⟨k, oo, S, L, hk, rfl, hoo, rfl, hse, hoy, hl, hs⟩ := hrel
              have HSE := Shut.mk hse
              have HO := Shut.mk hoy
              have HL := Shut.mk hl
              have HS := Shut.mk hs
              have HOO := Shut.mk hoo
              have HQr := Shut.mk (fqFair.QW.only HQw.out hoy (fun j hj e => by
                rcases e with e | e
                · exact (HAPQ.out j (.inl hj)).1 e
                · exact (HAPQ.out j (.inl hj)).2 e) (fun j hj e => by
                rcases e with e | e
                · exact (HAPQ.out j (.inr hj)).1 e
                · exact (HAPQ.out j (.inr hj)).2 e) (fun j hj e => by
                have h5 := HGW.out
                rcases e with e | e <;> omega))
              have hoob : oo ≤ n := by
                have h5 := HALN.out
                omega
              clear hse hoy hl hs hoo
              by_cases hkn : k < nA
              · have hkn2 : (k : Int) < (nA : Int) := by omega
                have hk60 : k < 60 := by have := HALN.out; omega
                obtain ⟨b1, off1, a1, m1, c1, rfl, hrg, hrb, -, -⟩ := RowK.el (RowK.only HAw.out HO.out HAB.out HTA.out) k (by rw [← HNA.out]; exact hkn)
                obtain ⟨p, hp⟩ : ∃ p, p = (ds).getD k pk00.1 := ⟨_, rfl⟩
                rw [← hp] at hrg hrb
                obtain ⟨id, hid, hpid, hfe, hbe, hsn, hla, hnx⟩ := ord_at (bkQ_lt sd) HO2.out (by rw [← HNA.out]; exact hkn) HSE.out hp
                obtain ⟨b4, off4, a4, m4, c4, rfl, hrg4, hrb4, -, -⟩ := RowK.el (RowK.below HR.out HQr.out.bel) id (by rw [← HN.out]; exact hid)
                have hpm : l2.getD id pk00.1 ∈ l2 := by
                  have e : l2.getD id pk00.1 = l2[id]'(by rw [← HN.out]; exact hid) := by simp [List.getD, show id < l2.length by rw [← HN.out]; exact hid]
                  rw [e]; exact List.getElem_mem _
                have hokp := (HOK.out _ hpm).2.1
                rw [hfe] at hokp
                have hfl : 0 ≤ p.flow ∧ p.flow ≤ 4294967295 := by simpa [Lit.wf, IntKind.min, IntKind.max, IntKind.signed, IntKind.bits] using hokp
                obtain ⟨fb, hfb⟩ := uv_of hfl.1 hfl.2
                obtain ⟨pb, hpb⟩ : ∃ pb, pb = p.body := ⟨_, rfl⟩
                obtain ⟨bq, hbq⟩ : ∃ bq : Nat, bq = bkQ sd p.flow := ⟨_, rfl⟩
                have hb16 : bq < 16 := by rw [hbq]; exact bkQ_lt sd _
                have HBK := Shut.mk (show bkt fb sd = bq by rw [hbq, ← hfb, bkQ_uv])
                obtain ⟨idd, hidd⟩ : ∃ idd : Nat, idd = id + 1 := ⟨_, rfl⟩
                rw [← hidd] at hpid hsn hnx
                obtain ⟨lv, hlv⟩ : ∃ lv, lv = L.getD bq 0 := ⟨_, rfl⟩
                rw [← hbq, ← hlv, hpid] at hla
                rw [← hbq, hpid] at hnx
                have HNX := Shut.mk hnx
                have hcid : wr.cell? ⟨b1, off1 + k * 5, none⟩ = some (.int .i64 idd) := by rw [← hpid]; exact hrg 0 _ rfl
                have hcfl : wr.cell? ⟨b1, off1 + k * 5 + 1, none⟩ = some (.int .u32 (uv fb)) := by rw [hfb]; exact hrg 1 _ rfl
                have HC1 := Shut.mk hcfl
                have HC4 := Shut.mk (show wr.cell? ⟨b1, off1 + k * 5 + 4, none⟩ = some (.slice a1 m1 c1) from hrg 4 _ rfl)
                have HD1 := Shut.mk (show wr.cell? ⟨b4, off4 + id * 5 + 1, none⟩ = some (.int .u32 (uv fb)) by rw [hfb, ← hfe]; exact hrg4 1 _ rfl)
                have HD4 := Shut.mk (show wr.cell? ⟨b4, off4 + id * 5 + 4, none⟩ = some (.slice a4 m4 c4) from hrg4 4 _ rfl)
                have hcs : wr.cell? ⟨gS, idd, none⟩ = some (.bool false) := by rw [← hsn]; exact rowT_cell HS.out idd (by rw [HSE.out.lenS]; omega)
                have HLB := Shut.mk (show wr.cell? ⟨gL, bq, none⟩ = some (.int .i64 lv) by rw [hlv]; exact rowC_cell HL.out bq (by rw [HSE.out.lenL]; exact hb16))
                have HSB := Shut.mk (show sameB pb pb = true by simp [sameB])
                have HLL := Shut.mk HSE.out.lenL
                have HLS := Shut.mk HSE.out.lenS
                have hi1 : ¬ (idd : Int) < 1 := by omega
                have hi2 : ¬ (n : Int) < (idd : Int) := by omega
                have hi3 : ¬ n < idd := by omega
                have hi4 : idd < n + 1 := by omega
                have HSUB := Shut.mk (show IntKind.i64.wrap ((idd : Int) - 1) = (id : Int) by rw [IntWalk.i64_in _ ⟨by omega, by omega⟩]; omega)
                have HGE := Shut.mk (show lv < (idd : Int) from hla)
                have HIDD := Shut.mk hidd
                have hid2 : (id : Int) < (n : Int) := by omega
                have hrb1 := hrb
                rw [← hpb] at hrb1
                rw [hbe, ← hpb] at hrb4
                have HRA := Shut.mk hrb1
                have HRD := Shut.mk hrb4
                clear hrg hrb hrb1 hrg4 hrb4 hnx hla hlv hidd hbq hpb hfb hfl hokp hpm hbe hfe hsn hpid hp
                go_wp2_with (fail)
                refine (refbucket_any fb sd wr).mono ?_
                rintro e wn ⟨rfl, rfl⟩
                rw [HBK.out]
                obtain ⟨w5, hw5⟩ : ∃ wq, wq = World.drew wr := ⟨_, rfl⟩
                have HWw5 := Shut.mk hw5
                have HDw5 := Shut.mk (show Below wr.heap.size wr w5 by rw [hw5]; exact (Below.refl _ _).drew)
                clear hw5
                have HRB1 := Shut.mk (HRA.out.below HDw5.out)
                have HRB4 := Shut.mk (HRD.out.below HDw5.out)
                have hb17 : (bq : Int) < 16 := by omega
                have hge : lv < (idd : Int) := HGE.out
                have hge2 : ¬ (idd : Int) ≤ lv := by omega
                clear hcid hcfl hcs
                go_wp2_with (fail)
                refine wp_region_D (fun w' => Below w5.heap.size w5 w') 33 (by kernel_rfl) (show Below w5.heap.size w5 (World.drew wr) by rw [HWw5.out]; exact Below.refl _ _) (fun hHeld hC => ?_)
                rw [← HWw5.out] at hHeld ⊢
                refine wpAnyD_pure (i := 0) (v := ?_) rfl hC (by kernel_rfl) (by kernel_rfl) (by kernel_rfl) (by decide) (fun _ _ _ h => h) (Or.inl ⟨by rfl, ?_⟩) (fun _ => hHeld) ?_
                rotate_left
                · intro w hSw
                  clear hSw
                  go_simp
                  try with_reducible rfl
                try simp only [Act.put, List.getElem_toArray, List.getElem_cons_zero, List.getElem_cons_succ, List.setIfInBounds_toArray, List.set_cons_zero, List.set_cons_succ]
                clear hC
                intro hC
                refine wpAnyD_pure (i := 1) (v := ?_) rfl hC (by kernel_rfl) (by kernel_rfl) (by kernel_rfl) (by decide) (fun _ _ _ h => h) (Or.inl ⟨by rfl, ?_⟩) (fun _ => hHeld) ?_
                rotate_left
                · intro w hSw
                  clear hSw
                  go_simp
                  try with_reducible rfl
                try simp only [Act.put, List.getElem_toArray, List.getElem_cons_zero, List.getElem_cons_succ, List.setIfInBounds_toArray, List.set_cons_zero, List.set_cons_succ]
                clear hC
                intro hC
                refine wpAnyD_pure (i := 2) (v := ?_) rfl hC (by kernel_rfl) (by kernel_rfl) (by kernel_rfl) (by decide) (fun _ _ _ h => h) (Or.inl ⟨by rfl, ?_⟩) (fun _ => hHeld) ?_
                rotate_left
                · intro w hSw
                  clear hSw
                  go_simp
                  try with_reducible rfl
                try simp only [Act.put, List.getElem_toArray, List.getElem_cons_zero, List.getElem_cons_succ, List.setIfInBounds_toArray, List.set_cons_zero, List.set_cons_succ]
                clear hC
                intro hC
                refine wpAnyD_pure (i := 3) (v := ?_) rfl hC (by kernel_rfl) (by kernel_rfl) (by kernel_rfl) (by decide) (fun _ _ _ h => h) (Or.inl ⟨by rfl, ?_⟩) (fun _ => hHeld) ?_
                rotate_left
                · intro w hSw
                  clear hSw
                  go_simp
                  try with_reducible rfl
                try simp only [Act.put, List.getElem_toArray, List.getElem_cons_zero, List.getElem_cons_succ, List.setIfInBounds_toArray, List.set_cons_zero, List.set_cons_succ]
                clear hC
                intro hC
                refine wpAnyD_take (i := 4) (v := ?_) 40 rfl (by kernel_rfl) hC (by kernel_rfl) (by kernel_rfl) (by kernel_rfl) (by decide) (fun _ _ _ h => h) (Or.inl ⟨by rfl, ?_⟩) (fun _ => hHeld) ?_
                rotate_left
                · intro w hSw
                  have hz := (show w.cell? ⟨b1, off1 + k * 5 + 1, none⟩ = some (.int .u32 (uv fb)) from below_at hSw (below_at HDw5.out HC1.out))
                  clear hSw
                  go_simp
                  try with_reducible rfl
                try simp only [Act.put, List.getElem_toArray, List.getElem_cons_zero, List.getElem_cons_succ, List.setIfInBounds_toArray, List.set_cons_zero, List.set_cons_succ]
                clear hC
                intro hC
                refine wpAnyD_pure (i := 5) (v := ?_) rfl hC (by kernel_rfl) (by kernel_rfl) (by kernel_rfl) (by decide) (fun _ _ _ h => h) (Or.inl ⟨by rfl, ?_⟩) (fun _ => hHeld) ?_
                rotate_left
                · intro w hSw
                  clear hSw
                  go_simp
                  try with_reducible rfl
                try simp only [Act.put, List.getElem_toArray, List.getElem_cons_zero, List.getElem_cons_succ, List.setIfInBounds_toArray, List.set_cons_zero, List.set_cons_succ]
                clear hC
                intro hC
                refine wpAnyD_pure (i := 6) (v := ?_) rfl hC (by kernel_rfl) (by kernel_rfl) (by kernel_rfl) (by decide) (fun _ _ _ h => h) (Or.inl ⟨by rfl, ?_⟩) (fun _ => hHeld) ?_
                rotate_left
                · intro w hSw
                  clear hSw
                  go_simp
                  try with_reducible rfl
                try simp only [Act.put, List.getElem_toArray, List.getElem_cons_zero, List.getElem_cons_succ, List.setIfInBounds_toArray, List.set_cons_zero, List.set_cons_succ]
                clear hC
                intro hC
                refine wpAnyD_pure (i := 7) (v := ?_) rfl hC (by kernel_rfl) (by kernel_rfl) (by kernel_rfl) (by decide) (fun _ _ _ h => h) (Or.inl ⟨by rfl, ?_⟩) (fun _ => hHeld) ?_
                rotate_left
                · intro w hSw
                  have hwr := HSUB.out
                  clear hSw
                  go_simp
                  try with_reducible rfl
                try simp only [Act.put, List.getElem_toArray, List.getElem_cons_zero, List.getElem_cons_succ, List.setIfInBounds_toArray, List.set_cons_zero, List.set_cons_succ]
                clear hC
                intro hC
                refine wpAnyD_pure (i := 8) (v := ?_) rfl hC (by kernel_rfl) (by kernel_rfl) (by kernel_rfl) (by decide) (fun _ _ _ h => h) (Or.inl ⟨by rfl, ?_⟩) (fun _ => hHeld) ?_
                rotate_left
                · intro w hSw
                  clear hSw
                  go_simp
                  try with_reducible rfl
                try simp only [Act.put, List.getElem_toArray, List.getElem_cons_zero, List.getElem_cons_succ, List.setIfInBounds_toArray, List.set_cons_zero, List.set_cons_succ]
                clear hC
                intro hC
                refine wpAnyD_pure (i := 9) (v := ?_) rfl hC (by kernel_rfl) (by kernel_rfl) (by kernel_rfl) (by decide) (fun _ _ _ h => h) (Or.inl ⟨by rfl, ?_⟩) (fun _ => hHeld) ?_
                rotate_left
                · intro w hSw
                  clear hSw
                  go_simp
                  try with_reducible rfl
                try simp only [Act.put, List.getElem_toArray, List.getElem_cons_zero, List.getElem_cons_succ, List.setIfInBounds_toArray, List.set_cons_zero, List.set_cons_succ]
                clear hC
                intro hC
                refine wpAnyD_take (i := 10) (v := ?_) 40 rfl (by kernel_rfl) hC (by kernel_rfl) (by kernel_rfl) (by kernel_rfl) (by decide) (fun _ _ _ h => h) (Or.inl ⟨by rfl, ?_⟩) (fun _ => hHeld) ?_
                rotate_left
                · intro w hSw
                  have hz := (show w.cell? ⟨b4, off4 + id * 5 + 1, none⟩ = some (.int .u32 (uv fb)) from below_at hSw (below_at HDw5.out HD1.out))
                  clear hSw
                  go_simp
                  try with_reducible rfl
                try simp only [Act.put, List.getElem_toArray, List.getElem_cons_zero, List.getElem_cons_succ, List.setIfInBounds_toArray, List.set_cons_zero, List.set_cons_succ]
                clear hC
                intro hC
                refine wpAnyD_pure (i := 11) (v := ?_) rfl hC (by kernel_rfl) (by kernel_rfl) (by kernel_rfl) (by decide) (fun _ _ _ h => h) (Or.inl ⟨by rfl, ?_⟩) (fun _ => hHeld) ?_
                rotate_left
                · intro w hSw
                  clear hSw
                  go_simp
                  try with_reducible rfl
                try simp only [Act.put, List.getElem_toArray, List.getElem_cons_zero, List.getElem_cons_succ, List.setIfInBounds_toArray, List.set_cons_zero, List.set_cons_succ]
                clear hC
                intro hC
                refine wpAnyD_pure (i := 12) (v := ?_) rfl hC (by kernel_rfl) (by kernel_rfl) (by kernel_rfl) (by decide) (fun _ _ _ h => h) (Or.inl ⟨by rfl, ?_⟩) (fun _ => hHeld) ?_
                rotate_left
                · intro w hSw
                  clear hSw
                  go_simp
                  try with_reducible rfl
                try simp only [Act.put, List.getElem_toArray, List.getElem_cons_zero, List.getElem_cons_succ, List.setIfInBounds_toArray, List.set_cons_zero, List.set_cons_succ]
                clear hC
                intro hC
                refine wpAnyD_pure (i := 13) (v := ?_) rfl hC (by kernel_rfl) (by kernel_rfl) (by kernel_rfl) (by decide) (fun _ _ _ h => h) (Or.inl ⟨by rfl, ?_⟩) (fun _ => hHeld) ?_
                rotate_left
                · intro w hSw
                  clear hSw
                  go_simp
                  try with_reducible rfl
                try simp only [Act.put, List.getElem_toArray, List.getElem_cons_zero, List.getElem_cons_succ, List.setIfInBounds_toArray, List.set_cons_zero, List.set_cons_succ]
                clear hC
                intro hC
                refine wpAnyD_pure (i := 14) (v := ?_) rfl hC (by kernel_rfl) (by kernel_rfl) (by kernel_rfl) (by decide) (fun _ _ _ h => h) (Or.inl ⟨by rfl, ?_⟩) (fun _ => hHeld) ?_
                rotate_left
                · intro w hSw
                  clear hSw
                  go_simp
                  try with_reducible rfl
                try simp only [Act.put, List.getElem_toArray, List.getElem_cons_zero, List.getElem_cons_succ, List.setIfInBounds_toArray, List.set_cons_zero, List.set_cons_succ]
                clear hC
                intro hC
                refine wpAnyD_pure (i := 15) (v := ?_) rfl hC (by kernel_rfl) (by kernel_rfl) (by kernel_rfl) (by decide) (fun _ _ _ h => h) (Or.inl ⟨by rfl, ?_⟩) (fun _ => hHeld) ?_
                rotate_left
                · intro w hSw
                  clear hSw
                  go_simp
                  try with_reducible rfl
                try simp only [Act.put, List.getElem_toArray, List.getElem_cons_zero, List.getElem_cons_succ, List.setIfInBounds_toArray, List.set_cons_zero, List.set_cons_succ]
                clear hC
                intro hC
                refine wpAnyD_pure (i := 16) (v := ?_) rfl hC (by kernel_rfl) (by kernel_rfl) (by kernel_rfl) (by decide) (fun _ _ _ h => h) (Or.inl ⟨by rfl, ?_⟩) (fun _ => hHeld) ?_
                rotate_left
                · intro w hSw
                  clear hSw
                  go_simp
                  try with_reducible rfl
                try simp only [Act.put, List.getElem_toArray, List.getElem_cons_zero, List.getElem_cons_succ, List.setIfInBounds_toArray, List.set_cons_zero, List.set_cons_succ]
                clear hC
                intro hC
                refine wpAnyD_take (i := 17) (v := ?_) 40 rfl (by kernel_rfl) hC (by kernel_rfl) (by kernel_rfl) (by kernel_rfl) (by decide) (fun _ _ _ h => h) (Or.inl ⟨by rfl, ?_⟩) (fun _ => hHeld) ?_
                rotate_left
                · intro w hSw
                  have hz := (show w.cell? ⟨b1, off1 + k * 5 + 4, none⟩ = some (.slice a1 m1 c1) from below_at hSw (below_at HDw5.out HC4.out))
                  clear hSw
                  go_simp
                  try with_reducible rfl
                try simp only [Act.put, List.getElem_toArray, List.getElem_cons_zero, List.getElem_cons_succ, List.setIfInBounds_toArray, List.set_cons_zero, List.set_cons_succ]
                clear hC
                intro hC
                refine wpAnyD_pure (i := 18) (v := ?_) rfl hC (by kernel_rfl) (by kernel_rfl) (by kernel_rfl) (by decide) (fun _ _ _ h => h) (Or.inl ⟨by rfl, ?_⟩) (fun _ => hHeld) ?_
                rotate_left
                · intro w hSw
                  clear hSw
                  go_simp
                  try with_reducible rfl
                try simp only [Act.put, List.getElem_toArray, List.getElem_cons_zero, List.getElem_cons_succ, List.setIfInBounds_toArray, List.set_cons_zero, List.set_cons_succ]
                clear hC
                intro hC
                refine wpAnyD_pure (i := 19) (v := ?_) rfl hC (by kernel_rfl) (by kernel_rfl) (by kernel_rfl) (by decide) (fun _ _ _ h => h) (Or.inl ⟨by rfl, ?_⟩) (fun _ => hHeld) ?_
                rotate_left
                · intro w hSw
                  clear hSw
                  go_simp
                  try with_reducible rfl
                try simp only [Act.put, List.getElem_toArray, List.getElem_cons_zero, List.getElem_cons_succ, List.setIfInBounds_toArray, List.set_cons_zero, List.set_cons_succ]
                clear hC
                intro hC
                refine wpAnyD_pure (i := 20) (v := ?_) rfl hC (by kernel_rfl) (by kernel_rfl) (by kernel_rfl) (by decide) (fun _ _ _ h => h) (Or.inl ⟨by rfl, ?_⟩) (fun _ => hHeld) ?_
                rotate_left
                · intro w hSw
                  have hwr := HSUB.out
                  clear hSw
                  go_simp
                  try with_reducible rfl
                try simp only [Act.put, List.getElem_toArray, List.getElem_cons_zero, List.getElem_cons_succ, List.setIfInBounds_toArray, List.set_cons_zero, List.set_cons_succ]
                clear hC
                intro hC
                refine wpAnyD_pure (i := 21) (v := ?_) rfl hC (by kernel_rfl) (by kernel_rfl) (by kernel_rfl) (by decide) (fun _ _ _ h => h) (Or.inl ⟨by rfl, ?_⟩) (fun _ => hHeld) ?_
                rotate_left
                · intro w hSw
                  clear hSw
                  go_simp
                  try with_reducible rfl
                try simp only [Act.put, List.getElem_toArray, List.getElem_cons_zero, List.getElem_cons_succ, List.setIfInBounds_toArray, List.set_cons_zero, List.set_cons_succ]
                clear hC
                intro hC
                refine wpAnyD_pure (i := 22) (v := ?_) rfl hC (by kernel_rfl) (by kernel_rfl) (by kernel_rfl) (by decide) (fun _ _ _ h => h) (Or.inl ⟨by rfl, ?_⟩) (fun _ => hHeld) ?_
                rotate_left
                · intro w hSw
                  clear hSw
                  go_simp
                  try with_reducible rfl
                try simp only [Act.put, List.getElem_toArray, List.getElem_cons_zero, List.getElem_cons_succ, List.setIfInBounds_toArray, List.set_cons_zero, List.set_cons_succ]
                clear hC
                intro hC
                refine wpAnyD_take (i := 23) (v := ?_) 40 rfl (by kernel_rfl) hC (by kernel_rfl) (by kernel_rfl) (by kernel_rfl) (by decide) (fun _ _ _ h => h) (Or.inl ⟨by rfl, ?_⟩) (fun _ => hHeld) ?_
                rotate_left
                · intro w hSw
                  have hz := (show w.cell? ⟨b4, off4 + id * 5 + 4, none⟩ = some (.slice a4 m4 c4) from below_at hSw (below_at HDw5.out HD4.out))
                  clear hSw
                  go_simp
                  try with_reducible rfl
                try simp only [Act.put, List.getElem_toArray, List.getElem_cons_zero, List.getElem_cons_succ, List.setIfInBounds_toArray, List.set_cons_zero, List.set_cons_succ]
                clear hC
                intro hC
                refine wpAnyD_one (i := 24) (by kernel_rfl) rfl hC (fun K hK => ?_)
                clear hC
                go_simp
                refine (same_any a1 a4 m1 c1 m4 c4 pb pb w5 (HRB1.out.below hHeld) (HRB4.out.below hHeld)).mono ?_
                rintro e' wv1 ⟨rfl, kd, hkd⟩
                rw [HSB.out]
                have HKD := Shut.mk (show Below w5.heap.size w5 wv1 by rw [hkd]; exact below_drewN (Below.refl _ _) _)
                clear hkd
                have hHeld2 := hHeld.trans (HKD.out.mono hHeld.size)
                clear hHeld
                have hHeld := hHeld2
                clear hHeld2
                refine hK.out _ _ (fun _ => hHeld) (fun hC => ?_)
                clear hK K
                try simp only [Act.put, List.getElem_toArray, List.getElem_cons_zero, List.getElem_cons_succ, List.setIfInBounds_toArray, List.set_cons_zero, List.set_cons_succ]
                refine wpAnyD_pure (i := 25) (v := ?_) rfl hC (by kernel_rfl) (by kernel_rfl) (by kernel_rfl) (by decide) (fun _ _ _ h => h) (Or.inl ⟨by rfl, ?_⟩) (fun _ => hHeld) ?_
                rotate_left
                · intro w hSw
                  clear hSw
                  go_simp
                  try with_reducible rfl
                try simp only [Act.put, List.getElem_toArray, List.getElem_cons_zero, List.getElem_cons_succ, List.setIfInBounds_toArray, List.set_cons_zero, List.set_cons_succ]
                clear hC
                intro hC
                refine wpAnyD_pure (i := 26) (v := ?_) rfl hC (by kernel_rfl) (by kernel_rfl) (by kernel_rfl) (by decide) (fun _ _ _ h => h) (Or.inl ⟨by rfl, ?_⟩) (fun _ => hHeld) ?_
                rotate_left
                · intro w hSw
                  clear hSw
                  go_simp
                  try with_reducible rfl
                try simp only [Act.put, List.getElem_toArray, List.getElem_cons_zero, List.getElem_cons_succ, List.setIfInBounds_toArray, List.set_cons_zero, List.set_cons_succ]
                clear hC
                intro hC
                refine wpAnyD_pure (i := 27) (v := ?_) rfl hC (by kernel_rfl) (by kernel_rfl) (by kernel_rfl) (by decide) (fun _ _ _ h => h) (Or.inl ⟨by rfl, ?_⟩) (fun _ => hHeld) ?_
                rotate_left
                · intro w hSw
                  clear hSw
                  go_simp
                  try with_reducible rfl
                try simp only [Act.put, List.getElem_toArray, List.getElem_cons_zero, List.getElem_cons_succ, List.setIfInBounds_toArray, List.set_cons_zero, List.set_cons_succ]
                clear hC
                intro hC
                refine wpAnyD_pure (i := 28) (v := ?_) rfl hC (by kernel_rfl) (by kernel_rfl) (by kernel_rfl) (by decide) (fun _ _ _ h => h) (Or.inl ⟨by rfl, ?_⟩) (fun _ => hHeld) ?_
                rotate_left
                · intro w hSw
                  clear hSw
                  go_simp
                  try with_reducible rfl
                try simp only [Act.put, List.getElem_toArray, List.getElem_cons_zero, List.getElem_cons_succ, List.setIfInBounds_toArray, List.set_cons_zero, List.set_cons_succ]
                clear hC
                intro hC
                refine wpAnyD_pure (i := 29) (v := ?_) rfl hC (by kernel_rfl) (by kernel_rfl) (by kernel_rfl) (by decide) (fun _ _ _ h => h) (Or.inl ⟨by rfl, ?_⟩) (fun _ => hHeld) ?_
                rotate_left
                · intro w hSw
                  clear hSw
                  go_simp
                  try with_reducible rfl
                try simp only [Act.put, List.getElem_toArray, List.getElem_cons_zero, List.getElem_cons_succ, List.setIfInBounds_toArray, List.set_cons_zero, List.set_cons_succ]
                clear hC
                intro hC
                refine wpAnyD_take (i := 30) (v := ?_) 40 rfl (by kernel_rfl) hC (by kernel_rfl) (by kernel_rfl) (by kernel_rfl) (by decide) (fun _ _ _ h => h) (Or.inl ⟨by rfl, ?_⟩) (fun _ => hHeld) ?_
                rotate_left
                · intro w hSw
                  have hz := (show w.cell? ⟨gL, bq, none⟩ = some (.int .i64 lv) from below_at hSw (below_at HDw5.out HLB.out))
                  clear hSw
                  go_simp
                  try with_reducible rfl
                try simp only [Act.put, List.getElem_toArray, List.getElem_cons_zero, List.getElem_cons_succ, List.setIfInBounds_toArray, List.set_cons_zero, List.set_cons_succ]
                clear hC
                intro hC
                refine wpAnyD_pure (i := 31) (v := ?_) rfl hC (by kernel_rfl) (by kernel_rfl) (by kernel_rfl) (by decide) (fun _ _ _ h => h) (Or.inl ⟨by rfl, ?_⟩) (fun _ => hHeld) ?_
                rotate_left
                · intro w hSw
                  clear hSw
                  go_simp
                  try with_reducible rfl
                try simp only [Act.put, List.getElem_toArray, List.getElem_cons_zero, List.getElem_cons_succ, List.setIfInBounds_toArray, List.set_cons_zero, List.set_cons_succ]
                clear hC
                intro hC
                refine wpAnyD_pure (i := 32) (v := ?_) rfl hC (by kernel_rfl) (by kernel_rfl) (by kernel_rfl) (by decide) (fun _ _ _ h => h) (Or.inl ⟨by rfl, ?_⟩) (fun _ => hHeld) ?_
                rotate_left
                · intro w hSw
                  have hge := HGE.out
                  clear hSw
                  go_simp
                  try with_reducible rfl
                try simp only [Act.put, List.getElem_toArray, List.getElem_cons_zero, List.getElem_cons_succ, List.setIfInBounds_toArray, List.set_cons_zero, List.set_cons_succ]
                clear hC
                intro hC
                refine wpAnyD_one (i := 33) (by kernel_rfl) rfl hC (fun K hK => ?_)
                clear hC
                go_simp
                refine hK.out _ _ (past (by kernel_rfl)) (fun hC => ?_)
                clear hK K
                try simp only [Act.put, List.getElem_toArray, List.getElem_cons_zero, List.getElem_cons_succ, List.setIfInBounds_toArray, List.set_cons_zero, List.set_cons_succ]
                refine wpAnyD_done (by kernel_rfl) ?_ _
                try simp only [Act.put, List.getElem_toArray, List.getElem_cons_zero, List.getElem_cons_succ, List.setIfInBounds_toArray, List.set_cons_zero, List.set_cons_succ]
                have HBV := Shut.mk (HDw5.out.trans (hHeld.mono HDw5.out.size))
                clear hHeld hC
                have HL5 := Shut.mk ((HBV.out.block _ (lt_blk HL.out)).trans HL.out)
                have HS5 := Shut.mk ((HBV.out.block _ (lt_blk HS.out)).trans HS.out)
                obtain ⟨w6, hw6⟩ : ∃ w6, w6 = wv1.setRow gL (rowC (L.set bq (idd : Int))) := ⟨_, rfl⟩
                have HW6 := Shut.mk hw6
                have HO6 := Shut.mk (show Only (· = gL) wv1 w6 by rw [hw6]; exact only_setRow _ _ _)
                have HL6 := Shut.mk (show w6.heap[gL]? = some (.cells (rowC (L.set bq (idd : Int))) 51 (0, 0)) by rw [hw6]; exact setRow_heap _ gL _ _ _ (0, 0) HL5.out)
                have HS6 := Shut.mk (HO6.out.at_ HS5.out (fun e => HNG.out e.symm))
                obtain ⟨w7, hw7⟩ : ∃ w7, w7 = w6.setRow gS (rowT (S.set idd true)) := ⟨_, rfl⟩
                have HW7 := Shut.mk hw7
                have HO7 := Shut.mk (show Only (· = gS) w6 w7 by rw [hw7]; exact only_setRow _ _ _)
                have HS7 := Shut.mk (show w7.heap[gS]? = some (.cells (rowT (S.set idd true)) 4 (0, 0)) by rw [hw7]; exact setRow_heap _ gS _ _ _ (0, 0) HS6.out)
                have HL7 := Shut.mk (HO7.out.at_ HL6.out (fun e => HNG.out e))
                clear hw6 hw7
                have hge : lv < (idd : Int) := HGE.out
                have hge2 : ¬ (idd : Int) ≤ lv := by omega
                have hadd : IntKind.i64.wrap ((oo : Int) + 1) = (oo : Int) + 1 := IntWalk.i64_in _ ⟨by omega, by omega⟩
                go_wp2_with (first
                  | (refine wpList_store_into rfl 3 (.tmp 192) (.tmp 191) rfl gL bq (.int .i64 idd) rfl rfl rfl 51 (rowC L) (rowC (L.set bq (idd : Int))) HL5.out fqFair.size1i (by rw [rowC_size, HLL.out]; exact hb16) (rowC_set _ _ _) ?_
                     rw [show World.setRow wv1 gL _ = w6 from HW6.out.symm])
                  | (refine wpList_store_into rfl 4 (.tmp 195) _ rfl gS idd (.bool true) rfl rfl rfl 4 (rowT S) (rowT (S.set idd true)) HS6.out size1b (by rw [rowT_size, HLS.out]; exact hi4) (rowT_set _ _ _) ?_
                     rw [show World.setRow w6 gS _ = w7 from HW7.out.symm]))
                have HOE := Shut.mk (show Only (fun j => j = gL ∨ j = gS) wq w7 from ((HO.out.then_quiet HBV.out).trans HO6.out fun _ _ e => .inl e).trans HO7.out fun _ _ e => .inr e)
                first
                  | (go_roundw
                     case rel => exact ⟨k + 1, oo + 1, S.set idd true, L.set bq (idd : Int), by omega, by go_num, by have := HOO.out; omega, by go_num, HNX.out, HOE.out, HL7.out, HS7.out⟩
                     case measure => simp [intOf]; omega)
                  | (refine ⟨⟨k + 1, oo + 1, S.set idd true, L.set bq (idd : Int), by omega, by go_num, by have := HOO.out; omega, by go_num, HNX.out, HOE.out, HL7.out, HS7.out⟩, ?_⟩
                     simp [intOf]
                     omega)
              · have hk' : nA = k := by omega
                subst hk'
                have hall : (ds).take nA = ds := by rw [HNA.out]; exact List.take_length
                rw [hall] at HSE
                have hfin : oo = n := by
                  have h1 := ord_all (bkQ_lt sd) HO2.out (HEM.out (by simp))
                  rw [List.length_append, ← HOL.out, ← HNA.out] at h1
                  have h2 := HOO.out
                  omega
                have hem := HEM.out (by simp)
                have HLT := Shut.mk (len_empty hem).1
                have HBT := Shut.mk (len_empty hem).2
                have HL0 := Shut.mk (show ∀ b, b < 16 → (q2.fl b).pk.length ≤ 10000 from fun b _ => by rw [hem b]; exact Nat.zero_le _)
                have HB0 := Shut.mk (show ∀ b, b < 16 → ∀ p ∈ (q2.fl b).pk, p.body.length ≤ 1000000 from fun b _ p hp => by rw [hem b] at hp; cases hp)
                clear hem hoob
                subst hfin
                go_wp2_with (fail)
                refine (len_any T wr x V3 q2 HQr.out.is HL0.out).mono ?_
                rintro e wn ⟨rfl, rfl⟩
                rw [HLT.out]
                go_wp2_with (fail)
                refine (bytes_q_any T wr x V3 q2 HQr.out.is HL0.out HB0.out).mono ?_
                rintro e wn ⟨rfl, rfl⟩
                rw [HBT.out]
                go_wp2_with (fail)
                go_ret
                exact ⟨rfl, HQr.out.bel⟩
          · obtain ⟨A0, c0, rfl, rfl, hov⟩ := hE.some_
            obtain ⟨Aq, cq, rfl, hrq, -⟩ := OwnK.row (d := pk00) HO3.out (fun _ _ => rfl) (by unfold maxLen; have := HLE.out; simp at this; omega)
            have HO2 := Shut.mk (show ∀ b, outOf (bkQ sd) b (O ++ (ds ++ [p0])) ++ (q2.fl b).pk = outOf (bkQ sd) b (ordN l2 n) from HO2.out)
            have HLE := Shut.mk (show (O ++ (ds ++ [p0])).length ≤ n from HLE.out)
            have HDL := Shut.mk (show ds.length ≤ 100000 by have := HLE.out; simp at this; omega)
            have hwf0 : ∀ j, j < p0.body.length → IntKind.u8.min ≤ p0.body.getD j 0 ∧ p0.body.getD j 0 ≤ IntKind.u8.max := by
              obtain ⟨⟨id, hid, hpi⟩, -, -⟩ := ord_next (bk := bkQ sd) (l := l2) (n := n) (M := O ++ ds) (R := []) (p := p0) (fun b => ⟨(q2.fl b).pk, by have := HO2.out b; rw [← List.append_assoc] at this; exact this⟩)
              obtain ⟨b4, off4, a4, m4, c4, -, -, hrb4, -, -⟩ := RowK.el (RowK.below HR.out HQ.out.bel) id (by rw [← HN.out]; exact hid)
              have hbe : (l2.getD id pk00.1).body = p0.body := by rw [hpi]; rfl
              rw [hbe] at hrb4
              intro j hj
              exact hrb4.wf j (by rw [← hrb4.len]; exact hj)
            obtain ⟨pi, pf0, pt, pa, pb0⟩ := p0
            unfold pkV
            dsimp only at hov hwf0 ⊢
            obtain ⟨T4, hT4⟩ : ∃ T4 : Nat → Prop, T4 = fun k => T3 k ∨ (Value.slice A0 pb0.length c0).ownBlock = some k := ⟨_, rfl⟩
            obtain ⟨s18, hs18⟩ : ∃ s, s = w2.heap.size := ⟨_, rfl⟩
            have HSs18 := Shut.mk hs18
            have HAw3 := Shut.mk ((Below.refl w2.heap.size w2).alloc (Nat.le_refl _) (Obj.cells #[Value.int .i64 0, .int .u32 0, .int .i64 0, .int .i64 0, Value.slice none 0 0] 32 (0, 0)))
            have HXw3 := Shut.mk (show (w2.alloc (Obj.cells #[Value.int .i64 0, .int .u32 0, .int .i64 0, .int .i64 0, Value.slice none 0 0] 32 (0, 0))).heap[s18]? = some (Obj.cells #[Value.int .i64 0, .int .u32 0, .int .i64 0, .int .i64 0, Value.slice none 0 0] 32 (0, 0)) by rw [hs18]; exact (MapKept.heap_alloc w2 (Obj.cells #[Value.int .i64 0, .int .u32 0, .int .i64 0, .int .i64 0, Value.slice none 0 0] 32 (0, 0))).1)
            obtain ⟨w3, hw3⟩ : ∃ w4, w4 = (w2.alloc (Obj.cells #[Value.int .i64 0, .int .u32 0, .int .i64 0, .int .i64 0, Value.slice none 0 0] 32 (0, 0))).setRow s18 #[Value.int .i64 pi, .int .u32 pf0, .int .i64 pt, .int .i64 pa, Value.slice A0 pb0.length c0] := ⟨_, rfl⟩
            have HYw3 := Shut.mk (show w3.heap[s18]? = some (Obj.cells #[Value.int .i64 pi, .int .u32 pf0, .int .i64 pt, .int .i64 pa, Value.slice A0 pb0.length c0] 32 (0, 0)) by rw [hw3]; exact setRow_heap _ s18 _ #[Value.int .i64 pi, .int .u32 pf0, .int .i64 pt, .int .i64 pa, Value.slice A0 pb0.length c0] _ (0, 0) HXw3.out)
            have HBw3 := Shut.mk (show Below w2.heap.size w2 w3 by rw [hw3]; exact below_setRow HAw3.out (by omega) _)
            have HWw3 := Shut.mk hw3
            clear hw3 hs18
            have HAR := Shut.mk (show RowP T4 w3 Aq ds by rw [hT4]; exact RowK.mono (RowK.below hrq HBw3.out) (fun k _ h => .inl h))
            have HEL := Shut.mk (show ElK T4 w3 (.slice A0 pb0.length c0) pb0 by rw [hT4]; exact OwnV.el (owns_below hov HBw3.out) (by have h := hov.2; rcases h with ⟨h1, h2⟩ | ⟨g, cap, cur, h1, h2, h3, h4, h5, -⟩ <;> omega) hwf0 (fun k hk => .inr hk))
            have HT4 := Shut.mk (show ∀ k, T4 k → k < w3.heap.size from fun k hk => by
              rw [hT4] at hk
              rcases hk with hk | hk
              · exact Nat.lt_of_lt_of_le (HT3.out k hk).2 HBw3.out.size
              · exact Nat.lt_of_lt_of_le (World.ownsRow.lt hov k hk).2 HBw3.out.size)
            have HTB := Shut.mk (show ∀ k, T4 k → wr.heap.size ≤ k from fun k hk => by
              rw [hT4] at hk
              rcases hk with hk | hk
              · exact (HT3.out k hk).1
              · exact (World.ownsRow.lt hov k hk).1)
            clear hrq hov hwf0 hT4 hE
            obtain ⟨w4, hw4⟩ : ∃ wq, wq = World.drew w3 := ⟨_, rfl⟩
            have HWw4 := Shut.mk hw4
            have HDw4 := Shut.mk (show Below w3.heap.size w3 w4 by rw [hw4]; exact (Below.refl _ _).drew)
            clear hw4
            have HX4 := Shut.mk (show w4.heap[s18]? = _ from (HDw4.out.block _ (lt_blk HYw3.out)).trans HYw3.out)
            go_wp2_with (first
              | (refine wpList_store_row rfl 32 (.tmp 18) (.tmp 114) rfl s18 #[Value.int .i64 pi, .int .u32 pf0, .int .i64 pt, .int .i64 pa, Value.slice A0 pb0.length c0] (by show Value.pointer (some ⟨w2.heap.size, 0, none⟩) = _; rw [HSs18.out]) rfl 32 _ HXw3.out size5 rfl (pkt_one _ _ _ _ _ _ _) ?_
                 rw [show World.setRow (World.alloc w2 _) s18 _ = w3 from HWw3.out.symm, ← HSs18.out]))
            clear HWw3 HSs18
            refine wp_region_D (fun w' => Below w4.heap.size w4 w') 4 (by kernel_rfl) (show Below w4.heap.size w4 (World.drew w3) by rw [HWw4.out]; exact Below.refl _ _) (fun hHeld hC => ?_)
            rw [← HWw4.out] at hHeld ⊢
            refine wpAnyD_pure (i := 0) (v := ?_) rfl hC (by kernel_rfl) (by kernel_rfl) (by kernel_rfl) (by decide) (fun _ _ _ h => h) (Or.inl ⟨by rfl, ?_⟩) (fun _ => hHeld) ?_
            rotate_left
            · intro w hSw
              clear hSw
              go_simp
              try with_reducible rfl
            try simp only [Act.put, List.getElem_toArray, List.getElem_cons_zero, List.getElem_cons_succ, List.setIfInBounds_toArray, List.set_cons_zero, List.set_cons_succ]
            clear hC
            intro hC
            refine wpAnyD_take (i := 2) (v := .agg ([Value.int .i64 pi, .int .u32 pf0, .int .i64 pt, .int .i64 pa, Value.slice A0 pb0.length c0]).toArray) 40 rfl (by kernel_rfl) hC (by kernel_rfl) (by kernel_rfl) (by kernel_rfl) (by decide) (fun _ _ _ h => h) (yieldsIf_load_mid (by rfl) 32 (.tmp 18) rfl s18 (0) rfl ([Value.int .i64 pi, .int .u32 pf0, .int .i64 pt, .int .i64 pa, Value.slice A0 pb0.length c0]) _ (fun w' hSw => (block_range ((hSw.block _ (lt_blk HX4.out)).trans HX4.out))) Try.underlying32 rfl size5) (fun _ => hHeld) ?_
            try simp only [Act.put, List.getElem_toArray, List.getElem_cons_zero, List.getElem_cons_succ, List.setIfInBounds_toArray, List.set_cons_zero, List.set_cons_succ]
            clear hC
            intro hC
            refine wpAnyD_all (rs := [1, 3]) (by kernel_rfl) (by simp) hC (all_cons ⟨_, rfl, fun K hK => ?_⟩ (all_cons ⟨_, rfl, fun K hK => ?_⟩ all_nil))
            · clear hC
              go_simp
              refine (packets_any T4 Aq cq ds w4 (RowK.below HAR.out (HDw4.out.trans (hHeld.mono HDw4.out.size))) HDL.out (fun k hk => Nat.lt_of_lt_of_le (HT4.out k hk) (Nat.le_trans HDw4.out.size hHeld.size))).mono ?_
              rintro e' wv1 ⟨u, rfl, hO', hB', hU'⟩
              have HU := Shut.mk (OwnP.base hO' hHeld.size)
              have HBP := Shut.mk hB'
              clear hO' hB' hU'
              have hHeld2 := hHeld.trans (HBP.out.mono hHeld.size)
              clear hHeld
              have hHeld := hHeld2
              clear hHeld2
              refine hK.out _ _ (fun _ => hHeld) (fun hC => ?_)
              clear hK K
              try simp only [Act.put, List.getElem_toArray, List.getElem_cons_zero, List.getElem_cons_succ, List.setIfInBounds_toArray, List.set_cons_zero, List.set_cons_succ]
              refine wpAnyD_one (i := 3) (by kernel_rfl) rfl hC (fun K hK => ?_)
              clear hC
              go_simp
              have HAB4 := Shut.mk ((Below.refl wv1.heap.size wv1).alloc (Nat.le_refl _) (Obj.cells #[Value.int .i64 pi, .int .u32 pf0, .int .i64 pt, .int .i64 pa, Value.slice A0 pb0.length c0] 32 (0, 0)))
              have HNB := Shut.mk (block_range (MapKept.heap_alloc wv1 (Obj.cells #[Value.int .i64 pi, .int .u32 pf0, .int .i64 pt, .int .i64 pa, Value.slice A0 pb0.length c0] 32 (0, 0))).1)
              obtain ⟨sN, hsN⟩ : ∃ s, s = wv1.heap.size := ⟨_, rfl⟩
              rw [← hsN] at HNB ⊢
              generalize World.alloc wv1 _ = wv2 at *
              clear hsN
              have HUU := Shut.mk (OwnK.below HU.out HAB4.out)
              have HNN := HNB
              have hHeld2 := hHeld.trans (HAB4.out.mono hHeld.size)
              clear hHeld
              have hHeld := hHeld2
              clear hHeld2
              refine hK.out _ _ (fun _ => hHeld) (fun hC => ?_)
              clear hK K
              try simp only [Act.put, List.getElem_toArray, List.getElem_cons_zero, List.getElem_cons_succ, List.setIfInBounds_toArray, List.set_cons_zero, List.set_cons_succ]
              refine wpAnyD_one (i := 4) (by kernel_rfl) rfl hC (fun K hK => ?_)
              clear hC
              refine step_app_pk (T := T4) (T' := T4) rfl (.tmp 120) (.tmp 122) rfl u ds rfl (own_pk HUU.out) ⟨pi, pf0, pt, pa, pb0⟩ (.slice A0 pb0.length c0) ⟨sN, 0, none⟩ 1 rfl (fun j q hq => by rw [Addr.add_mid]; exact HNN.out j q hq) (HEL.out.below (HDw4.out.trans (hHeld.mono HDw4.out.size))) (fun _ h => h) (by obtain ⟨l', -, -, -, h⟩ := HUU.out; exact h) (by have := HDL.out; omega) ?_
              intro va wv3 hP8 hO8 hf8
              have HPV := Shut.mk hP8
              have HBV4 := Shut.mk (show Below w4.heap.size w4 wv3 from hHeld.trans (hO8.below (fun k hk e => by have := (OwnP.lt HUU.out k e).1; omega) hHeld.size))
              have HFV := Shut.mk (show ∀ g, va.ownBlock = some g → w4.heap.size ≤ g from fun g hg => by
                rcases hf8 g hg with h1 | h1
                · exact (OwnP.lt HUU.out g h1).1
                · rw [h1]; exact hHeld.size)
              obtain ⟨wq, hwq⟩ : ∃ wq, wq = wv3 := ⟨_, rfl⟩
              rw [← hwq] at HPV HBV4 ⊢
              clear hP8 hO8 hf8 hwq
              refine hK.out _ _ (past (by kernel_rfl)) (fun hC => ?_)
              clear hK K
              try simp only [Act.put, List.getElem_toArray, List.getElem_cons_zero, List.getElem_cons_succ, List.setIfInBounds_toArray, List.set_cons_zero, List.set_cons_succ]
              refine wpAnyD_pure (i := 5) (v := ?_) rfl hC (by kernel_rfl) (by kernel_rfl) (by kernel_rfl) (by decide) (fun _ _ _ h => h) (Or.inl ⟨by rfl, ?_⟩) (past (by kernel_rfl)) ?_
              rotate_left
              · intro w hSw
                clear hSw
                go_simp
                try with_reducible rfl
              try simp only [Act.put, List.getElem_toArray, List.getElem_cons_zero, List.getElem_cons_succ, List.setIfInBounds_toArray, List.set_cons_zero, List.set_cons_succ]
              clear hC
              intro hC
              refine wpAnyD_done (by kernel_rfl) ?_ _
              try simp only [Act.put, List.getElem_toArray, List.getElem_cons_zero, List.getElem_cons_succ, List.setIfInBounds_toArray, List.set_cons_zero, List.set_cons_succ]
              obtain ⟨Av, cv, hva, -, -⟩ := HPV.out.form
              subst hva
              obtain ⟨nA, hnA⟩ : ∃ nA, nA = (ds ++ [(⟨pi, pf0, pt, pa, pb0⟩ : Pk)]).length := ⟨_, rfl⟩
              have HNA := Shut.mk hnA
              have HAw := Shut.mk (show RowP T4 wq Av (ds ++ [⟨pi, pf0, pt, pa, pb0⟩]) from HPV.out.row (by rw [List.length_append]; have := HDL.out; unfold maxLen; simp; omega))
              rw [← hnA]
              have hB24 : Below w2.heap.size w2 wq := (HBw3.out.trans (HDw4.out.mono HBw3.out.size)).trans (HBV4.out.mono (Nat.le_trans HBw3.out.size HDw4.out.size))
              have h24 : wr.heap.size ≤ w4.heap.size := Nat.le_trans HC3.out.only.size (Nat.le_trans HBw3.out.size HDw4.out.size)
              have hgl := lt_blk HL.out
              have hgs := lt_blk HS.out
              have HAB := Shut.mk (show ∀ p, Av = some p → ¬ (p.block = gL ∨ p.block = gS) from fun p hp e => by
                have h1 := HFV.out p.block (by rw [hp]; rfl)
                rcases e with e | e <;> omega)
              have HTA := Shut.mk (show ∀ k, T4 k → ¬ (k = gL ∨ k = gS) from fun k hk e => by
                have h1 := HTB.out k hk
                rcases e with e | e <;> omega)
              have HAPQ := Shut.mk (show ∀ j, FootC x V3 j ∨ T j → j ≠ gL ∧ j ≠ gS from fun j hj => by
                rcases hj with hj | hj
                · rcases HC3.out.fresh j hj with h1 | h1
                  · exact HAP.out j (.inl h1)
                  · exact ⟨by omega, by omega⟩
                · exact HAP.out j (.inr hj))
              have HLw := Shut.mk (show wq.heap[gL]? = some (.cells (rowC L) 51 (0, 0)) by
                have h1 := HC3.out.only.at_ HL.out (fun e => (HAP.out gL (.inl e)).1 rfl)
                exact (hB24.block _ (lt_blk h1)).trans h1)
              have HSw := Shut.mk (show wq.heap[gS]? = some (.cells (rowT S) 4 (0, 0)) by
                have h1 := HC3.out.only.at_ HS.out (fun e => (HAP.out gS (.inl e)).2 rfl)
                exact (hB24.block _ (lt_blk h1)).trans h1)
              have HQw := Shut.mk (HQ3.out.quiet hB24)
              have HALN := Shut.mk (show o + nA ≤ n by have := HLE.out; rw [List.length_append] at this; rw [HOL.out, hnA]; exact this)
              clear hnA hgl hgs hB24 h24 HQ HL HS HAP HC3 HQ3 HAP3 HVO3 HT HO3 HT3 HBw3 HDw4 HBV4 HFV hHeld hC
              go_wp2_with (fail)
              go_loopw [16, 22] (fun fo fk wr => ∃ (k oo : Nat) (S : List Bool) (L : List Int), k ≤ nA ∧ fk = .int .i64 k ∧ oo = o + k ∧ fo = .int .i64 oo ∧ SeenI (bkQ sd) n (O ++ (ds ++ [(⟨pi, pf0, pt, pa, pb0⟩ : Pk)]).take k) S L ∧ Only (fun j => j = gL ∨ j = gS) wq wr ∧ wr.heap[gL]? = some (.cells (rowC L) 51 (0, 0)) ∧ wr.heap[gS]? = some (.cells (rowT S) 4 (0, 0))) (fun _ fk _ => nA - (intOf fk).toNat)
              case atStart => exact ⟨0, o, S, L, Nat.zero_le _, rfl, rfl, rfl, by rw [List.take_zero, List.append_nil]; exact HSE.out, Only.refl _ _, HLw.out, HSw.out⟩
              case round =>
                clear HSE HLw HSw
                obtain ⟨k, oo, S, L, hk, rfl, hoo, rfl, hse, hoy, hl, hs⟩ := hrel
                have HSE := Shut.mk hse
                have HO := Shut.mk hoy
                have HL := Shut.mk hl
                have HS := Shut.mk hs
                have HOO := Shut.mk hoo
                have HQr := Shut.mk (fqFair.QW.only HQw.out hoy (fun j hj e => by
                  rcases e with e | e
                  · exact (HAPQ.out j (.inl hj)).1 e
                  · exact (HAPQ.out j (.inl hj)).2 e) (fun j hj e => by
                  rcases e with e | e
                  · exact (HAPQ.out j (.inr hj)).1 e
                  · exact (HAPQ.out j (.inr hj)).2 e) (fun j hj e => by
                  have h5 := HGW.out
                  rcases e with e | e <;> omega))
                have hoob : oo ≤ n := by
                  have h5 := HALN.out
                  omega
                clear hse hoy hl hs hoo
                by_cases hkn : k < nA
                · have hkn2 : (k : Int) < (nA : Int) := by omega
                  have hk60 : k < 60 := by have := HALN.out; omega
                  obtain ⟨b1, off1, a1, m1, c1, rfl, hrg, hrb, -, -⟩ := RowK.el (RowK.only HAw.out HO.out HAB.out HTA.out) k (by rw [← HNA.out]; exact hkn)
                  obtain ⟨p, hp⟩ : ∃ p, p = (ds ++ [(⟨pi, pf0, pt, pa, pb0⟩ : Pk)]).getD k pk00.1 := ⟨_, rfl⟩
                  rw [← hp] at hrg hrb
                  obtain ⟨id, hid, hpid, hfe, hbe, hsn, hla, hnx⟩ := ord_at (bkQ_lt sd) HO2.out (by rw [← HNA.out]; exact hkn) HSE.out hp
                  obtain ⟨b4, off4, a4, m4, c4, rfl, hrg4, hrb4, -, -⟩ := RowK.el (RowK.below HR.out HQr.out.bel) id (by rw [← HN.out]; exact hid)
                  have hpm : l2.getD id pk00.1 ∈ l2 := by
                    have e : l2.getD id pk00.1 = l2[id]'(by rw [← HN.out]; exact hid) := by simp [List.getD, show id < l2.length by rw [← HN.out]; exact hid]
                    rw [e]; exact List.getElem_mem _
                  have hokp := (HOK.out _ hpm).2.1
                  rw [hfe] at hokp
                  have hfl : 0 ≤ p.flow ∧ p.flow ≤ 4294967295 := by simpa [Lit.wf, IntKind.min, IntKind.max, IntKind.signed, IntKind.bits] using hokp
                  obtain ⟨fb, hfb⟩ := uv_of hfl.1 hfl.2
                  obtain ⟨pb, hpb⟩ : ∃ pb, pb = p.body := ⟨_, rfl⟩
                  obtain ⟨bq, hbq⟩ : ∃ bq : Nat, bq = bkQ sd p.flow := ⟨_, rfl⟩
                  have hb16 : bq < 16 := by rw [hbq]; exact bkQ_lt sd _
                  have HBK := Shut.mk (show bkt fb sd = bq by rw [hbq, ← hfb, bkQ_uv])
                  obtain ⟨idd, hidd⟩ : ∃ idd : Nat, idd = id + 1 := ⟨_, rfl⟩
                  rw [← hidd] at hpid hsn hnx
                  obtain ⟨lv, hlv⟩ : ∃ lv, lv = L.getD bq 0 := ⟨_, rfl⟩
                  rw [← hbq, ← hlv, hpid] at hla
                  rw [← hbq, hpid] at hnx
                  have HNX := Shut.mk hnx
                  have hcid : wr.cell? ⟨b1, off1 + k * 5, none⟩ = some (.int .i64 idd) := by rw [← hpid]; exact hrg 0 _ rfl
                  have hcfl : wr.cell? ⟨b1, off1 + k * 5 + 1, none⟩ = some (.int .u32 (uv fb)) := by rw [hfb]; exact hrg 1 _ rfl
                  have HC1 := Shut.mk hcfl
                  have HC4 := Shut.mk (show wr.cell? ⟨b1, off1 + k * 5 + 4, none⟩ = some (.slice a1 m1 c1) from hrg 4 _ rfl)
                  have HD1 := Shut.mk (show wr.cell? ⟨b4, off4 + id * 5 + 1, none⟩ = some (.int .u32 (uv fb)) by rw [hfb, ← hfe]; exact hrg4 1 _ rfl)
                  have HD4 := Shut.mk (show wr.cell? ⟨b4, off4 + id * 5 + 4, none⟩ = some (.slice a4 m4 c4) from hrg4 4 _ rfl)
                  have hcs : wr.cell? ⟨gS, idd, none⟩ = some (.bool false) := by rw [← hsn]; exact rowT_cell HS.out idd (by rw [HSE.out.lenS]; omega)
                  have HLB := Shut.mk (show wr.cell? ⟨gL, bq, none⟩ = some (.int .i64 lv) by rw [hlv]; exact rowC_cell HL.out bq (by rw [HSE.out.lenL]; exact hb16))
                  have HSB := Shut.mk (show sameB pb pb = true by simp [sameB])
                  have HLL := Shut.mk HSE.out.lenL
                  have HLS := Shut.mk HSE.out.lenS
                  have hi1 : ¬ (idd : Int) < 1 := by omega
                  have hi2 : ¬ (n : Int) < (idd : Int) := by omega
                  have hi3 : ¬ n < idd := by omega
                  have hi4 : idd < n + 1 := by omega
                  have HSUB := Shut.mk (show IntKind.i64.wrap ((idd : Int) - 1) = (id : Int) by rw [IntWalk.i64_in _ ⟨by omega, by omega⟩]; omega)
                  have HGE := Shut.mk (show lv < (idd : Int) from hla)
                  have HIDD := Shut.mk hidd
                  have hid2 : (id : Int) < (n : Int) := by omega
                  have hrb1 := hrb
                  rw [← hpb] at hrb1
                  rw [hbe, ← hpb] at hrb4
                  have HRA := Shut.mk hrb1
                  have HRD := Shut.mk hrb4
                  clear hrg hrb hrb1 hrg4 hrb4 hnx hla hlv hidd hbq hpb hfb hfl hokp hpm hbe hfe hsn hpid hp
                  go_wp2_with (fail)
                  refine (refbucket_any fb sd wr).mono ?_
                  rintro e wn ⟨rfl, rfl⟩
                  rw [HBK.out]
                  obtain ⟨w5, hw5⟩ : ∃ wq, wq = World.drew wr := ⟨_, rfl⟩
                  have HWw5 := Shut.mk hw5
                  have HDw5 := Shut.mk (show Below wr.heap.size wr w5 by rw [hw5]; exact (Below.refl _ _).drew)
                  clear hw5
                  have HRB1 := Shut.mk (HRA.out.below HDw5.out)
                  have HRB4 := Shut.mk (HRD.out.below HDw5.out)
                  have hb17 : (bq : Int) < 16 := by omega
                  have hge : lv < (idd : Int) := HGE.out
                  have hge2 : ¬ (idd : Int) ≤ lv := by omega
                  clear hcid hcfl hcs
                  go_wp2_with (fail)
                  refine wp_region_D (fun w' => Below w5.heap.size w5 w') 33 (by kernel_rfl) (show Below w5.heap.size w5 (World.drew wr) by rw [HWw5.out]; exact Below.refl _ _) (fun hHeld hC => ?_)
                  rw [← HWw5.out] at hHeld ⊢
                  refine wpAnyD_pure (i := 0) (v := ?_) rfl hC (by kernel_rfl) (by kernel_rfl) (by kernel_rfl) (by decide) (fun _ _ _ h => h) (Or.inl ⟨by rfl, ?_⟩) (fun _ => hHeld) ?_
                  rotate_left
                  · intro w hSw
                    clear hSw
                    go_simp
                    try with_reducible rfl
                  try simp only [Act.put, List.getElem_toArray, List.getElem_cons_zero, List.getElem_cons_succ, List.setIfInBounds_toArray, List.set_cons_zero, List.set_cons_succ]
                  clear hC
                  intro hC
                  refine wpAnyD_pure (i := 1) (v := ?_) rfl hC (by kernel_rfl) (by kernel_rfl) (by kernel_rfl) (by decide) (fun _ _ _ h => h) (Or.inl ⟨by rfl, ?_⟩) (fun _ => hHeld) ?_
                  rotate_left
                  · intro w hSw
                    clear hSw
                    go_simp
                    try with_reducible rfl
                  try simp only [Act.put, List.getElem_toArray, List.getElem_cons_zero, List.getElem_cons_succ, List.setIfInBounds_toArray, List.set_cons_zero, List.set_cons_succ]
                  clear hC
                  intro hC
                  refine wpAnyD_pure (i := 2) (v := ?_) rfl hC (by kernel_rfl) (by kernel_rfl) (by kernel_rfl) (by decide) (fun _ _ _ h => h) (Or.inl ⟨by rfl, ?_⟩) (fun _ => hHeld) ?_
                  rotate_left
                  · intro w hSw
                    clear hSw
                    go_simp
                    try with_reducible rfl
                  try simp only [Act.put, List.getElem_toArray, List.getElem_cons_zero, List.getElem_cons_succ, List.setIfInBounds_toArray, List.set_cons_zero, List.set_cons_succ]
                  clear hC
                  intro hC
                  refine wpAnyD_pure (i := 3) (v := ?_) rfl hC (by kernel_rfl) (by kernel_rfl) (by kernel_rfl) (by decide) (fun _ _ _ h => h) (Or.inl ⟨by rfl, ?_⟩) (fun _ => hHeld) ?_
                  rotate_left
                  · intro w hSw
                    clear hSw
                    go_simp
                    try with_reducible rfl
                  try simp only [Act.put, List.getElem_toArray, List.getElem_cons_zero, List.getElem_cons_succ, List.setIfInBounds_toArray, List.set_cons_zero, List.set_cons_succ]
                  clear hC
                  intro hC
                  refine wpAnyD_take (i := 4) (v := ?_) 40 rfl (by kernel_rfl) hC (by kernel_rfl) (by kernel_rfl) (by kernel_rfl) (by decide) (fun _ _ _ h => h) (Or.inl ⟨by rfl, ?_⟩) (fun _ => hHeld) ?_
                  rotate_left
                  · intro w hSw
                    have hz := (show w.cell? ⟨b1, off1 + k * 5 + 1, none⟩ = some (.int .u32 (uv fb)) from below_at hSw (below_at HDw5.out HC1.out))
                    clear hSw
                    go_simp
                    try with_reducible rfl
                  try simp only [Act.put, List.getElem_toArray, List.getElem_cons_zero, List.getElem_cons_succ, List.setIfInBounds_toArray, List.set_cons_zero, List.set_cons_succ]
                  clear hC
                  intro hC
                  refine wpAnyD_pure (i := 5) (v := ?_) rfl hC (by kernel_rfl) (by kernel_rfl) (by kernel_rfl) (by decide) (fun _ _ _ h => h) (Or.inl ⟨by rfl, ?_⟩) (fun _ => hHeld) ?_
                  rotate_left
                  · intro w hSw
                    clear hSw
                    go_simp
                    try with_reducible rfl
                  try simp only [Act.put, List.getElem_toArray, List.getElem_cons_zero, List.getElem_cons_succ, List.setIfInBounds_toArray, List.set_cons_zero, List.set_cons_succ]
                  clear hC
                  intro hC
                  refine wpAnyD_pure (i := 6) (v := ?_) rfl hC (by kernel_rfl) (by kernel_rfl) (by kernel_rfl) (by decide) (fun _ _ _ h => h) (Or.inl ⟨by rfl, ?_⟩) (fun _ => hHeld) ?_
                  rotate_left
                  · intro w hSw
                    clear hSw
                    go_simp
                    try with_reducible rfl
                  try simp only [Act.put, List.getElem_toArray, List.getElem_cons_zero, List.getElem_cons_succ, List.setIfInBounds_toArray, List.set_cons_zero, List.set_cons_succ]
                  clear hC
                  intro hC
                  refine wpAnyD_pure (i := 7) (v := ?_) rfl hC (by kernel_rfl) (by kernel_rfl) (by kernel_rfl) (by decide) (fun _ _ _ h => h) (Or.inl ⟨by rfl, ?_⟩) (fun _ => hHeld) ?_
                  rotate_left
                  · intro w hSw
                    have hwr := HSUB.out
                    clear hSw
                    go_simp
                    try with_reducible rfl
                  try simp only [Act.put, List.getElem_toArray, List.getElem_cons_zero, List.getElem_cons_succ, List.setIfInBounds_toArray, List.set_cons_zero, List.set_cons_succ]
                  clear hC
                  intro hC
                  refine wpAnyD_pure (i := 8) (v := ?_) rfl hC (by kernel_rfl) (by kernel_rfl) (by kernel_rfl) (by decide) (fun _ _ _ h => h) (Or.inl ⟨by rfl, ?_⟩) (fun _ => hHeld) ?_
                  rotate_left
                  · intro w hSw
                    clear hSw
                    go_simp
                    try with_reducible rfl
                  try simp only [Act.put, List.getElem_toArray, List.getElem_cons_zero, List.getElem_cons_succ, List.setIfInBounds_toArray, List.set_cons_zero, List.set_cons_succ]
                  clear hC
                  intro hC
                  refine wpAnyD_pure (i := 9) (v := ?_) rfl hC (by kernel_rfl) (by kernel_rfl) (by kernel_rfl) (by decide) (fun _ _ _ h => h) (Or.inl ⟨by rfl, ?_⟩) (fun _ => hHeld) ?_
                  rotate_left
                  · intro w hSw
                    clear hSw
                    go_simp
                    try with_reducible rfl
                  try simp only [Act.put, List.getElem_toArray, List.getElem_cons_zero, List.getElem_cons_succ, List.setIfInBounds_toArray, List.set_cons_zero, List.set_cons_succ]
                  clear hC
                  intro hC
                  refine wpAnyD_take (i := 10) (v := ?_) 40 rfl (by kernel_rfl) hC (by kernel_rfl) (by kernel_rfl) (by kernel_rfl) (by decide) (fun _ _ _ h => h) (Or.inl ⟨by rfl, ?_⟩) (fun _ => hHeld) ?_
                  rotate_left
                  · intro w hSw
                    have hz := (show w.cell? ⟨b4, off4 + id * 5 + 1, none⟩ = some (.int .u32 (uv fb)) from below_at hSw (below_at HDw5.out HD1.out))
                    clear hSw
                    go_simp
                    try with_reducible rfl
                  try simp only [Act.put, List.getElem_toArray, List.getElem_cons_zero, List.getElem_cons_succ, List.setIfInBounds_toArray, List.set_cons_zero, List.set_cons_succ]
                  clear hC
                  intro hC
                  refine wpAnyD_pure (i := 11) (v := ?_) rfl hC (by kernel_rfl) (by kernel_rfl) (by kernel_rfl) (by decide) (fun _ _ _ h => h) (Or.inl ⟨by rfl, ?_⟩) (fun _ => hHeld) ?_
                  rotate_left
                  · intro w hSw
                    clear hSw
                    go_simp
                    try with_reducible rfl
                  try simp only [Act.put, List.getElem_toArray, List.getElem_cons_zero, List.getElem_cons_succ, List.setIfInBounds_toArray, List.set_cons_zero, List.set_cons_succ]
                  clear hC
                  intro hC
                  refine wpAnyD_pure (i := 12) (v := ?_) rfl hC (by kernel_rfl) (by kernel_rfl) (by kernel_rfl) (by decide) (fun _ _ _ h => h) (Or.inl ⟨by rfl, ?_⟩) (fun _ => hHeld) ?_
                  rotate_left
                  · intro w hSw
                    clear hSw
                    go_simp
                    try with_reducible rfl
                  try simp only [Act.put, List.getElem_toArray, List.getElem_cons_zero, List.getElem_cons_succ, List.setIfInBounds_toArray, List.set_cons_zero, List.set_cons_succ]
                  clear hC
                  intro hC
                  refine wpAnyD_pure (i := 13) (v := ?_) rfl hC (by kernel_rfl) (by kernel_rfl) (by kernel_rfl) (by decide) (fun _ _ _ h => h) (Or.inl ⟨by rfl, ?_⟩) (fun _ => hHeld) ?_
                  rotate_left
                  · intro w hSw
                    clear hSw
                    go_simp
                    try with_reducible rfl
                  try simp only [Act.put, List.getElem_toArray, List.getElem_cons_zero, List.getElem_cons_succ, List.setIfInBounds_toArray, List.set_cons_zero, List.set_cons_succ]
                  clear hC
                  intro hC
                  refine wpAnyD_pure (i := 14) (v := ?_) rfl hC (by kernel_rfl) (by kernel_rfl) (by kernel_rfl) (by decide) (fun _ _ _ h => h) (Or.inl ⟨by rfl, ?_⟩) (fun _ => hHeld) ?_
                  rotate_left
                  · intro w hSw
                    clear hSw
                    go_simp
                    try with_reducible rfl
                  try simp only [Act.put, List.getElem_toArray, List.getElem_cons_zero, List.getElem_cons_succ, List.setIfInBounds_toArray, List.set_cons_zero, List.set_cons_succ]
                  clear hC
                  intro hC
                  refine wpAnyD_pure (i := 15) (v := ?_) rfl hC (by kernel_rfl) (by kernel_rfl) (by kernel_rfl) (by decide) (fun _ _ _ h => h) (Or.inl ⟨by rfl, ?_⟩) (fun _ => hHeld) ?_
                  rotate_left
                  · intro w hSw
                    clear hSw
                    go_simp
                    try with_reducible rfl
                  try simp only [Act.put, List.getElem_toArray, List.getElem_cons_zero, List.getElem_cons_succ, List.setIfInBounds_toArray, List.set_cons_zero, List.set_cons_succ]
                  clear hC
                  intro hC
                  refine wpAnyD_pure (i := 16) (v := ?_) rfl hC (by kernel_rfl) (by kernel_rfl) (by kernel_rfl) (by decide) (fun _ _ _ h => h) (Or.inl ⟨by rfl, ?_⟩) (fun _ => hHeld) ?_
                  rotate_left
                  · intro w hSw
                    clear hSw
                    go_simp
                    try with_reducible rfl
                  try simp only [Act.put, List.getElem_toArray, List.getElem_cons_zero, List.getElem_cons_succ, List.setIfInBounds_toArray, List.set_cons_zero, List.set_cons_succ]
                  clear hC
                  intro hC
                  refine wpAnyD_take (i := 17) (v := ?_) 40 rfl (by kernel_rfl) hC (by kernel_rfl) (by kernel_rfl) (by kernel_rfl) (by decide) (fun _ _ _ h => h) (Or.inl ⟨by rfl, ?_⟩) (fun _ => hHeld) ?_
                  rotate_left
                  · intro w hSw
                    have hz := (show w.cell? ⟨b1, off1 + k * 5 + 4, none⟩ = some (.slice a1 m1 c1) from below_at hSw (below_at HDw5.out HC4.out))
                    clear hSw
                    go_simp
                    try with_reducible rfl
                  try simp only [Act.put, List.getElem_toArray, List.getElem_cons_zero, List.getElem_cons_succ, List.setIfInBounds_toArray, List.set_cons_zero, List.set_cons_succ]
                  clear hC
                  intro hC
                  refine wpAnyD_pure (i := 18) (v := ?_) rfl hC (by kernel_rfl) (by kernel_rfl) (by kernel_rfl) (by decide) (fun _ _ _ h => h) (Or.inl ⟨by rfl, ?_⟩) (fun _ => hHeld) ?_
                  rotate_left
                  · intro w hSw
                    clear hSw
                    go_simp
                    try with_reducible rfl
                  try simp only [Act.put, List.getElem_toArray, List.getElem_cons_zero, List.getElem_cons_succ, List.setIfInBounds_toArray, List.set_cons_zero, List.set_cons_succ]
                  clear hC
                  intro hC
                  refine wpAnyD_pure (i := 19) (v := ?_) rfl hC (by kernel_rfl) (by kernel_rfl) (by kernel_rfl) (by decide) (fun _ _ _ h => h) (Or.inl ⟨by rfl, ?_⟩) (fun _ => hHeld) ?_
                  rotate_left
                  · intro w hSw
                    clear hSw
                    go_simp
                    try with_reducible rfl
                  try simp only [Act.put, List.getElem_toArray, List.getElem_cons_zero, List.getElem_cons_succ, List.setIfInBounds_toArray, List.set_cons_zero, List.set_cons_succ]
                  clear hC
                  intro hC
                  refine wpAnyD_pure (i := 20) (v := ?_) rfl hC (by kernel_rfl) (by kernel_rfl) (by kernel_rfl) (by decide) (fun _ _ _ h => h) (Or.inl ⟨by rfl, ?_⟩) (fun _ => hHeld) ?_
                  rotate_left
                  · intro w hSw
                    have hwr := HSUB.out
                    clear hSw
                    go_simp
                    try with_reducible rfl
                  try simp only [Act.put, List.getElem_toArray, List.getElem_cons_zero, List.getElem_cons_succ, List.setIfInBounds_toArray, List.set_cons_zero, List.set_cons_succ]
                  clear hC
                  intro hC
                  refine wpAnyD_pure (i := 21) (v := ?_) rfl hC (by kernel_rfl) (by kernel_rfl) (by kernel_rfl) (by decide) (fun _ _ _ h => h) (Or.inl ⟨by rfl, ?_⟩) (fun _ => hHeld) ?_
                  rotate_left
                  · intro w hSw
                    clear hSw
                    go_simp
                    try with_reducible rfl
                  try simp only [Act.put, List.getElem_toArray, List.getElem_cons_zero, List.getElem_cons_succ, List.setIfInBounds_toArray, List.set_cons_zero, List.set_cons_succ]
                  clear hC
                  intro hC
                  refine wpAnyD_pure (i := 22) (v := ?_) rfl hC (by kernel_rfl) (by kernel_rfl) (by kernel_rfl) (by decide) (fun _ _ _ h => h) (Or.inl ⟨by rfl, ?_⟩) (fun _ => hHeld) ?_
                  rotate_left
                  · intro w hSw
                    clear hSw
                    go_simp
                    try with_reducible rfl
                  try simp only [Act.put, List.getElem_toArray, List.getElem_cons_zero, List.getElem_cons_succ, List.setIfInBounds_toArray, List.set_cons_zero, List.set_cons_succ]
                  clear hC
                  intro hC
                  refine wpAnyD_take (i := 23) (v := ?_) 40 rfl (by kernel_rfl) hC (by kernel_rfl) (by kernel_rfl) (by kernel_rfl) (by decide) (fun _ _ _ h => h) (Or.inl ⟨by rfl, ?_⟩) (fun _ => hHeld) ?_
                  rotate_left
                  · intro w hSw
                    have hz := (show w.cell? ⟨b4, off4 + id * 5 + 4, none⟩ = some (.slice a4 m4 c4) from below_at hSw (below_at HDw5.out HD4.out))
                    clear hSw
                    go_simp
                    try with_reducible rfl
                  try simp only [Act.put, List.getElem_toArray, List.getElem_cons_zero, List.getElem_cons_succ, List.setIfInBounds_toArray, List.set_cons_zero, List.set_cons_succ]
                  clear hC
                  intro hC
                  refine wpAnyD_one (i := 24) (by kernel_rfl) rfl hC (fun K hK => ?_)
                  clear hC
                  go_simp
                  refine (same_any a1 a4 m1 c1 m4 c4 pb pb w5 (HRB1.out.below hHeld) (HRB4.out.below hHeld)).mono ?_
                  rintro e' wv1 ⟨rfl, kd, hkd⟩
                  rw [HSB.out]
                  have HKD := Shut.mk (show Below w5.heap.size w5 wv1 by rw [hkd]; exact below_drewN (Below.refl _ _) _)
                  clear hkd
                  have hHeld2 := hHeld.trans (HKD.out.mono hHeld.size)
                  clear hHeld
                  have hHeld := hHeld2
                  clear hHeld2
                  refine hK.out _ _ (fun _ => hHeld) (fun hC => ?_)
                  clear hK K
                  try simp only [Act.put, List.getElem_toArray, List.getElem_cons_zero, List.getElem_cons_succ, List.setIfInBounds_toArray, List.set_cons_zero, List.set_cons_succ]
                  refine wpAnyD_pure (i := 25) (v := ?_) rfl hC (by kernel_rfl) (by kernel_rfl) (by kernel_rfl) (by decide) (fun _ _ _ h => h) (Or.inl ⟨by rfl, ?_⟩) (fun _ => hHeld) ?_
                  rotate_left
                  · intro w hSw
                    clear hSw
                    go_simp
                    try with_reducible rfl
                  try simp only [Act.put, List.getElem_toArray, List.getElem_cons_zero, List.getElem_cons_succ, List.setIfInBounds_toArray, List.set_cons_zero, List.set_cons_succ]
                  clear hC
                  intro hC
                  refine wpAnyD_pure (i := 26) (v := ?_) rfl hC (by kernel_rfl) (by kernel_rfl) (by kernel_rfl) (by decide) (fun _ _ _ h => h) (Or.inl ⟨by rfl, ?_⟩) (fun _ => hHeld) ?_
                  rotate_left
                  · intro w hSw
                    clear hSw
                    go_simp
                    try with_reducible rfl
                  try simp only [Act.put, List.getElem_toArray, List.getElem_cons_zero, List.getElem_cons_succ, List.setIfInBounds_toArray, List.set_cons_zero, List.set_cons_succ]
                  clear hC
                  intro hC
                  refine wpAnyD_pure (i := 27) (v := ?_) rfl hC (by kernel_rfl) (by kernel_rfl) (by kernel_rfl) (by decide) (fun _ _ _ h => h) (Or.inl ⟨by rfl, ?_⟩) (fun _ => hHeld) ?_
                  rotate_left
                  · intro w hSw
                    clear hSw
                    go_simp
                    try with_reducible rfl
                  try simp only [Act.put, List.getElem_toArray, List.getElem_cons_zero, List.getElem_cons_succ, List.setIfInBounds_toArray, List.set_cons_zero, List.set_cons_succ]
                  clear hC
                  intro hC
                  refine wpAnyD_pure (i := 28) (v := ?_) rfl hC (by kernel_rfl) (by kernel_rfl) (by kernel_rfl) (by decide) (fun _ _ _ h => h) (Or.inl ⟨by rfl, ?_⟩) (fun _ => hHeld) ?_
                  rotate_left
                  · intro w hSw
                    clear hSw
                    go_simp
                    try with_reducible rfl
                  try simp only [Act.put, List.getElem_toArray, List.getElem_cons_zero, List.getElem_cons_succ, List.setIfInBounds_toArray, List.set_cons_zero, List.set_cons_succ]
                  clear hC
                  intro hC
                  refine wpAnyD_pure (i := 29) (v := ?_) rfl hC (by kernel_rfl) (by kernel_rfl) (by kernel_rfl) (by decide) (fun _ _ _ h => h) (Or.inl ⟨by rfl, ?_⟩) (fun _ => hHeld) ?_
                  rotate_left
                  · intro w hSw
                    clear hSw
                    go_simp
                    try with_reducible rfl
                  try simp only [Act.put, List.getElem_toArray, List.getElem_cons_zero, List.getElem_cons_succ, List.setIfInBounds_toArray, List.set_cons_zero, List.set_cons_succ]
                  clear hC
                  intro hC
                  refine wpAnyD_take (i := 30) (v := ?_) 40 rfl (by kernel_rfl) hC (by kernel_rfl) (by kernel_rfl) (by kernel_rfl) (by decide) (fun _ _ _ h => h) (Or.inl ⟨by rfl, ?_⟩) (fun _ => hHeld) ?_
                  rotate_left
                  · intro w hSw
                    have hz := (show w.cell? ⟨gL, bq, none⟩ = some (.int .i64 lv) from below_at hSw (below_at HDw5.out HLB.out))
                    clear hSw
                    go_simp
                    try with_reducible rfl
                  try simp only [Act.put, List.getElem_toArray, List.getElem_cons_zero, List.getElem_cons_succ, List.setIfInBounds_toArray, List.set_cons_zero, List.set_cons_succ]
                  clear hC
                  intro hC
                  refine wpAnyD_pure (i := 31) (v := ?_) rfl hC (by kernel_rfl) (by kernel_rfl) (by kernel_rfl) (by decide) (fun _ _ _ h => h) (Or.inl ⟨by rfl, ?_⟩) (fun _ => hHeld) ?_
                  rotate_left
                  · intro w hSw
                    clear hSw
                    go_simp
                    try with_reducible rfl
                  try simp only [Act.put, List.getElem_toArray, List.getElem_cons_zero, List.getElem_cons_succ, List.setIfInBounds_toArray, List.set_cons_zero, List.set_cons_succ]
                  clear hC
                  intro hC
                  refine wpAnyD_pure (i := 32) (v := ?_) rfl hC (by kernel_rfl) (by kernel_rfl) (by kernel_rfl) (by decide) (fun _ _ _ h => h) (Or.inl ⟨by rfl, ?_⟩) (fun _ => hHeld) ?_
                  rotate_left
                  · intro w hSw
                    have hge := HGE.out
                    clear hSw
                    go_simp
                    try with_reducible rfl
                  try simp only [Act.put, List.getElem_toArray, List.getElem_cons_zero, List.getElem_cons_succ, List.setIfInBounds_toArray, List.set_cons_zero, List.set_cons_succ]
                  clear hC
                  intro hC
                  refine wpAnyD_one (i := 33) (by kernel_rfl) rfl hC (fun K hK => ?_)
                  clear hC
                  go_simp
                  refine hK.out _ _ (past (by kernel_rfl)) (fun hC => ?_)
                  clear hK K
                  try simp only [Act.put, List.getElem_toArray, List.getElem_cons_zero, List.getElem_cons_succ, List.setIfInBounds_toArray, List.set_cons_zero, List.set_cons_succ]
                  refine wpAnyD_done (by kernel_rfl) ?_ _
                  try simp only [Act.put, List.getElem_toArray, List.getElem_cons_zero, List.getElem_cons_succ, List.setIfInBounds_toArray, List.set_cons_zero, List.set_cons_succ]
                  have HBV := Shut.mk (HDw5.out.trans (hHeld.mono HDw5.out.size))
                  clear hHeld hC
                  have HL5 := Shut.mk ((HBV.out.block _ (lt_blk HL.out)).trans HL.out)
                  have HS5 := Shut.mk ((HBV.out.block _ (lt_blk HS.out)).trans HS.out)
                  obtain ⟨w6, hw6⟩ : ∃ w6, w6 = wv1.setRow gL (rowC (L.set bq (idd : Int))) := ⟨_, rfl⟩
                  have HW6 := Shut.mk hw6
                  have HO6 := Shut.mk (show Only (· = gL) wv1 w6 by rw [hw6]; exact only_setRow _ _ _)
                  have HL6 := Shut.mk (show w6.heap[gL]? = some (.cells (rowC (L.set bq (idd : Int))) 51 (0, 0)) by rw [hw6]; exact setRow_heap _ gL _ _ _ (0, 0) HL5.out)
                  have HS6 := Shut.mk (HO6.out.at_ HS5.out (fun e => HNG.out e.symm))
                  obtain ⟨w7, hw7⟩ : ∃ w7, w7 = w6.setRow gS (rowT (S.set idd true)) := ⟨_, rfl⟩
                  have HW7 := Shut.mk hw7
                  have HO7 := Shut.mk (show Only (· = gS) w6 w7 by rw [hw7]; exact only_setRow _ _ _)
                  have HS7 := Shut.mk (show w7.heap[gS]? = some (.cells (rowT (S.set idd true)) 4 (0, 0)) by rw [hw7]; exact setRow_heap _ gS _ _ _ (0, 0) HS6.out)
                  have HL7 := Shut.mk (HO7.out.at_ HL6.out (fun e => HNG.out e))
                  clear hw6 hw7
                  have hge : lv < (idd : Int) := HGE.out
                  have hge2 : ¬ (idd : Int) ≤ lv := by omega
                  have hadd : IntKind.i64.wrap ((oo : Int) + 1) = (oo : Int) + 1 := IntWalk.i64_in _ ⟨by omega, by omega⟩
                  go_wp2_with (first
                    | (refine wpList_store_into rfl 3 (.tmp 192) (.tmp 191) rfl gL bq (.int .i64 idd) rfl rfl rfl 51 (rowC L) (rowC (L.set bq (idd : Int))) HL5.out fqFair.size1i (by rw [rowC_size, HLL.out]; exact hb16) (rowC_set _ _ _) ?_
                       rw [show World.setRow wv1 gL _ = w6 from HW6.out.symm])
                    | (refine wpList_store_into rfl 4 (.tmp 195) _ rfl gS idd (.bool true) rfl rfl rfl 4 (rowT S) (rowT (S.set idd true)) HS6.out size1b (by rw [rowT_size, HLS.out]; exact hi4) (rowT_set _ _ _) ?_
                       rw [show World.setRow w6 gS _ = w7 from HW7.out.symm]))
                  have HOE := Shut.mk (show Only (fun j => j = gL ∨ j = gS) wq w7 from ((HO.out.then_quiet HBV.out).trans HO6.out fun _ _ e => .inl e).trans HO7.out fun _ _ e => .inr e)
                  first
                    | (go_roundw
                       case rel => exact ⟨k + 1, oo + 1, S.set idd true, L.set bq (idd : Int), by omega, by go_num, by have := HOO.out; omega, by go_num, HNX.out, HOE.out, HL7.out, HS7.out⟩
                       case measure => simp [intOf]; omega)
                    | (refine ⟨⟨k + 1, oo + 1, S.set idd true, L.set bq (idd : Int), by omega, by go_num, by have := HOO.out; omega, by go_num, HNX.out, HOE.out, HL7.out, HS7.out⟩, ?_⟩
                       simp [intOf]
                       omega)
                · have hk' : nA = k := by omega
                  subst hk'
                  have hall : (ds ++ [(⟨pi, pf0, pt, pa, pb0⟩ : Pk)]).take nA = ds ++ [(⟨pi, pf0, pt, pa, pb0⟩ : Pk)] := by rw [HNA.out]; exact List.take_length
                  rw [hall] at HSE
                  clear hoob
                  have HNO := Shut.mk (show oo = (O ++ (ds ++ [(⟨pi, pf0, pt, pa, pb0⟩ : Pk)])).length ∧ i + 1 ≤ oo by
                    have h1 := HOO.out
                    have h2 := HOL.out
                    have h3 := HNA.out
                    have h4 := HIO.out
                    rw [List.length_append, ← h2, ← h3]
                    rw [List.length_append] at h3
                    simp at h3
                    omega)
                  go_wp2_with (fail)
                  go_roundw
                  case rel => exact ⟨i + 1, _, oo, O ++ (ds ++ [(⟨pi, pf0, pt, pa, pb0⟩ : Pk)]), V3, q2, S, L, by omega, by go_num, rfl, by have := HNW.out; push_cast; exact this, rfl, HNO.out.1, HNO.out.2, HQr.out, HO2.out, HSE.out, HL.out, HS.out, HAPQ.out⟩
                  case measure => simp [intOf]; omega
            · clear hC
              go_simp
              have HAB4 := Shut.mk ((Below.refl w4.heap.size w4).alloc (Nat.le_refl _) (Obj.cells #[Value.int .i64 pi, .int .u32 pf0, .int .i64 pt, .int .i64 pa, Value.slice A0 pb0.length c0] 32 (0, 0)))
              have HNB := Shut.mk (block_range (MapKept.heap_alloc w4 (Obj.cells #[Value.int .i64 pi, .int .u32 pf0, .int .i64 pt, .int .i64 pa, Value.slice A0 pb0.length c0] 32 (0, 0))).1)
              obtain ⟨sN, hsN⟩ : ∃ s, s = w4.heap.size := ⟨_, rfl⟩
              rw [← hsN] at HNB ⊢
              generalize World.alloc w4 _ = wv1 at *
              clear hsN
              have hHeld2 := hHeld.trans (HAB4.out.mono hHeld.size)
              clear hHeld
              have hHeld := hHeld2
              clear hHeld2
              refine hK.out _ _ (fun _ => hHeld) (fun hC => ?_)
              clear hK K
              try simp only [Act.put, List.getElem_toArray, List.getElem_cons_zero, List.getElem_cons_succ, List.setIfInBounds_toArray, List.set_cons_zero, List.set_cons_succ]
              refine wpAnyD_one (i := 1) (by kernel_rfl) rfl hC (fun K hK => ?_)
              clear hC
              go_simp
              refine (packets_any T4 Aq cq ds wv1 (RowK.below HAR.out (HDw4.out.trans (hHeld.mono HDw4.out.size))) HDL.out (fun k hk => Nat.lt_of_lt_of_le (HT4.out k hk) (Nat.le_trans HDw4.out.size hHeld.size))).mono ?_
              rintro e' wv2 ⟨u, rfl, hO', hB', hU'⟩
              have HU := Shut.mk (OwnP.base hO' hHeld.size)
              have HBP := Shut.mk hB'
              clear hO' hB' hU'
              have HUU := HU
              have HNN := Shut.mk (range_below (B := 0) HNB.out HBP.out)
              have hHeld2 := hHeld.trans (HBP.out.mono hHeld.size)
              clear hHeld
              have hHeld := hHeld2
              clear hHeld2
              refine hK.out _ _ (fun _ => hHeld) (fun hC => ?_)
              clear hK K
              try simp only [Act.put, List.getElem_toArray, List.getElem_cons_zero, List.getElem_cons_succ, List.setIfInBounds_toArray, List.set_cons_zero, List.set_cons_succ]
              refine wpAnyD_one (i := 4) (by kernel_rfl) rfl hC (fun K hK => ?_)
              clear hC
              refine step_app_pk (T := T4) (T' := T4) rfl (.tmp 120) (.tmp 122) rfl u ds rfl (own_pk HUU.out) ⟨pi, pf0, pt, pa, pb0⟩ (.slice A0 pb0.length c0) ⟨sN, 0, none⟩ 1 rfl (fun j q hq => by rw [Addr.add_mid]; exact HNN.out j q hq) (HEL.out.below (HDw4.out.trans (hHeld.mono HDw4.out.size))) (fun _ h => h) (by obtain ⟨l', -, -, -, h⟩ := HUU.out; exact h) (by have := HDL.out; omega) ?_
              intro va wv3 hP8 hO8 hf8
              have HPV := Shut.mk hP8
              have HBV4 := Shut.mk (show Below w4.heap.size w4 wv3 from hHeld.trans (hO8.below (fun k hk e => by have := (OwnP.lt HUU.out k e).1; omega) hHeld.size))
              have HFV := Shut.mk (show ∀ g, va.ownBlock = some g → w4.heap.size ≤ g from fun g hg => by
                rcases hf8 g hg with h1 | h1
                · exact (OwnP.lt HUU.out g h1).1
                · rw [h1]; exact hHeld.size)
              obtain ⟨wq, hwq⟩ : ∃ wq, wq = wv3 := ⟨_, rfl⟩
              rw [← hwq] at HPV HBV4 ⊢
              clear hP8 hO8 hf8 hwq
              refine hK.out _ _ (past (by kernel_rfl)) (fun hC => ?_)
              clear hK K
              try simp only [Act.put, List.getElem_toArray, List.getElem_cons_zero, List.getElem_cons_succ, List.setIfInBounds_toArray, List.set_cons_zero, List.set_cons_succ]
              refine wpAnyD_pure (i := 5) (v := ?_) rfl hC (by kernel_rfl) (by kernel_rfl) (by kernel_rfl) (by decide) (fun _ _ _ h => h) (Or.inl ⟨by rfl, ?_⟩) (past (by kernel_rfl)) ?_
              rotate_left
              · intro w hSw
                clear hSw
                go_simp
                try with_reducible rfl
              try simp only [Act.put, List.getElem_toArray, List.getElem_cons_zero, List.getElem_cons_succ, List.setIfInBounds_toArray, List.set_cons_zero, List.set_cons_succ]
              clear hC
              intro hC
              refine wpAnyD_done (by kernel_rfl) ?_ _
              try simp only [Act.put, List.getElem_toArray, List.getElem_cons_zero, List.getElem_cons_succ, List.setIfInBounds_toArray, List.set_cons_zero, List.set_cons_succ]
              obtain ⟨Av, cv, hva, -, -⟩ := HPV.out.form
              subst hva
              obtain ⟨nA, hnA⟩ : ∃ nA, nA = (ds ++ [(⟨pi, pf0, pt, pa, pb0⟩ : Pk)]).length := ⟨_, rfl⟩
              have HNA := Shut.mk hnA
              have HAw := Shut.mk (show RowP T4 wq Av (ds ++ [⟨pi, pf0, pt, pa, pb0⟩]) from HPV.out.row (by rw [List.length_append]; have := HDL.out; unfold maxLen; simp; omega))
              rw [← hnA]
              have hB24 : Below w2.heap.size w2 wq := (HBw3.out.trans (HDw4.out.mono HBw3.out.size)).trans (HBV4.out.mono (Nat.le_trans HBw3.out.size HDw4.out.size))
              have h24 : wr.heap.size ≤ w4.heap.size := Nat.le_trans HC3.out.only.size (Nat.le_trans HBw3.out.size HDw4.out.size)
              have hgl := lt_blk HL.out
              have hgs := lt_blk HS.out
              have HAB := Shut.mk (show ∀ p, Av = some p → ¬ (p.block = gL ∨ p.block = gS) from fun p hp e => by
                have h1 := HFV.out p.block (by rw [hp]; rfl)
                rcases e with e | e <;> omega)
              have HTA := Shut.mk (show ∀ k, T4 k → ¬ (k = gL ∨ k = gS) from fun k hk e => by
                have h1 := HTB.out k hk
                rcases e with e | e <;> omega)
              have HAPQ := Shut.mk (show ∀ j, FootC x V3 j ∨ T j → j ≠ gL ∧ j ≠ gS from fun j hj => by
                rcases hj with hj | hj
                · rcases HC3.out.fresh j hj with h1 | h1
                  · exact HAP.out j (.inl h1)
                  · exact ⟨by omega, by omega⟩
                · exact HAP.out j (.inr hj))
              have HLw := Shut.mk (show wq.heap[gL]? = some (.cells (rowC L) 51 (0, 0)) by
                have h1 := HC3.out.only.at_ HL.out (fun e => (HAP.out gL (.inl e)).1 rfl)
                exact (hB24.block _ (lt_blk h1)).trans h1)
              have HSw := Shut.mk (show wq.heap[gS]? = some (.cells (rowT S) 4 (0, 0)) by
                have h1 := HC3.out.only.at_ HS.out (fun e => (HAP.out gS (.inl e)).2 rfl)
                exact (hB24.block _ (lt_blk h1)).trans h1)
              have HQw := Shut.mk (HQ3.out.quiet hB24)
              have HALN := Shut.mk (show o + nA ≤ n by have := HLE.out; rw [List.length_append] at this; rw [HOL.out, hnA]; exact this)
              clear hnA hgl hgs hB24 h24 HQ HL HS HAP HC3 HQ3 HAP3 HVO3 HT HO3 HT3 HBw3 HDw4 HBV4 HFV hHeld hC
              go_wp2_with (fail)
              go_loopw [16, 22] (fun fo fk wr => ∃ (k oo : Nat) (S : List Bool) (L : List Int), k ≤ nA ∧ fk = .int .i64 k ∧ oo = o + k ∧ fo = .int .i64 oo ∧ SeenI (bkQ sd) n (O ++ (ds ++ [(⟨pi, pf0, pt, pa, pb0⟩ : Pk)]).take k) S L ∧ Only (fun j => j = gL ∨ j = gS) wq wr ∧ wr.heap[gL]? = some (.cells (rowC L) 51 (0, 0)) ∧ wr.heap[gS]? = some (.cells (rowT S) 4 (0, 0))) (fun _ fk _ => nA - (intOf fk).toNat)
              case atStart => exact ⟨0, o, S, L, Nat.zero_le _, rfl, rfl, rfl, by rw [List.take_zero, List.append_nil]; exact HSE.out, Only.refl _ _, HLw.out, HSw.out⟩
              case round =>
                clear HSE HLw HSw
                obtain ⟨k, oo, S, L, hk, rfl, hoo, rfl, hse, hoy, hl, hs⟩ := hrel
                have HSE := Shut.mk hse
                have HO := Shut.mk hoy
                have HL := Shut.mk hl
                have HS := Shut.mk hs
                have HOO := Shut.mk hoo
                have HQr := Shut.mk (fqFair.QW.only HQw.out hoy (fun j hj e => by
                  rcases e with e | e
                  · exact (HAPQ.out j (.inl hj)).1 e
                  · exact (HAPQ.out j (.inl hj)).2 e) (fun j hj e => by
                  rcases e with e | e
                  · exact (HAPQ.out j (.inr hj)).1 e
                  · exact (HAPQ.out j (.inr hj)).2 e) (fun j hj e => by
                  have h5 := HGW.out
                  rcases e with e | e <;> omega))
                have hoob : oo ≤ n := by
                  have h5 := HALN.out
                  omega
                clear hse hoy hl hs hoo
                by_cases hkn : k < nA
                · have hkn2 : (k : Int) < (nA : Int) := by omega
                  have hk60 : k < 60 := by have := HALN.out; omega
                  obtain ⟨b1, off1, a1, m1, c1, rfl, hrg, hrb, -, -⟩ := RowK.el (RowK.only HAw.out HO.out HAB.out HTA.out) k (by rw [← HNA.out]; exact hkn)
                  obtain ⟨p, hp⟩ : ∃ p, p = (ds ++ [(⟨pi, pf0, pt, pa, pb0⟩ : Pk)]).getD k pk00.1 := ⟨_, rfl⟩
                  rw [← hp] at hrg hrb
                  obtain ⟨id, hid, hpid, hfe, hbe, hsn, hla, hnx⟩ := ord_at (bkQ_lt sd) HO2.out (by rw [← HNA.out]; exact hkn) HSE.out hp
                  obtain ⟨b4, off4, a4, m4, c4, rfl, hrg4, hrb4, -, -⟩ := RowK.el (RowK.below HR.out HQr.out.bel) id (by rw [← HN.out]; exact hid)
                  have hpm : l2.getD id pk00.1 ∈ l2 := by
                    have e : l2.getD id pk00.1 = l2[id]'(by rw [← HN.out]; exact hid) := by simp [List.getD, show id < l2.length by rw [← HN.out]; exact hid]
                    rw [e]; exact List.getElem_mem _
                  have hokp := (HOK.out _ hpm).2.1
                  rw [hfe] at hokp
                  have hfl : 0 ≤ p.flow ∧ p.flow ≤ 4294967295 := by simpa [Lit.wf, IntKind.min, IntKind.max, IntKind.signed, IntKind.bits] using hokp
                  obtain ⟨fb, hfb⟩ := uv_of hfl.1 hfl.2
                  obtain ⟨pb, hpb⟩ : ∃ pb, pb = p.body := ⟨_, rfl⟩
                  obtain ⟨bq, hbq⟩ : ∃ bq : Nat, bq = bkQ sd p.flow := ⟨_, rfl⟩
                  have hb16 : bq < 16 := by rw [hbq]; exact bkQ_lt sd _
                  have HBK := Shut.mk (show bkt fb sd = bq by rw [hbq, ← hfb, bkQ_uv])
                  obtain ⟨idd, hidd⟩ : ∃ idd : Nat, idd = id + 1 := ⟨_, rfl⟩
                  rw [← hidd] at hpid hsn hnx
                  obtain ⟨lv, hlv⟩ : ∃ lv, lv = L.getD bq 0 := ⟨_, rfl⟩
                  rw [← hbq, ← hlv, hpid] at hla
                  rw [← hbq, hpid] at hnx
                  have HNX := Shut.mk hnx
                  have hcid : wr.cell? ⟨b1, off1 + k * 5, none⟩ = some (.int .i64 idd) := by rw [← hpid]; exact hrg 0 _ rfl
                  have hcfl : wr.cell? ⟨b1, off1 + k * 5 + 1, none⟩ = some (.int .u32 (uv fb)) := by rw [hfb]; exact hrg 1 _ rfl
                  have HC1 := Shut.mk hcfl
                  have HC4 := Shut.mk (show wr.cell? ⟨b1, off1 + k * 5 + 4, none⟩ = some (.slice a1 m1 c1) from hrg 4 _ rfl)
                  have HD1 := Shut.mk (show wr.cell? ⟨b4, off4 + id * 5 + 1, none⟩ = some (.int .u32 (uv fb)) by rw [hfb, ← hfe]; exact hrg4 1 _ rfl)
                  have HD4 := Shut.mk (show wr.cell? ⟨b4, off4 + id * 5 + 4, none⟩ = some (.slice a4 m4 c4) from hrg4 4 _ rfl)
                  have hcs : wr.cell? ⟨gS, idd, none⟩ = some (.bool false) := by rw [← hsn]; exact rowT_cell HS.out idd (by rw [HSE.out.lenS]; omega)
                  have HLB := Shut.mk (show wr.cell? ⟨gL, bq, none⟩ = some (.int .i64 lv) by rw [hlv]; exact rowC_cell HL.out bq (by rw [HSE.out.lenL]; exact hb16))
                  have HSB := Shut.mk (show sameB pb pb = true by simp [sameB])
                  have HLL := Shut.mk HSE.out.lenL
                  have HLS := Shut.mk HSE.out.lenS
                  have hi1 : ¬ (idd : Int) < 1 := by omega
                  have hi2 : ¬ (n : Int) < (idd : Int) := by omega
                  have hi3 : ¬ n < idd := by omega
                  have hi4 : idd < n + 1 := by omega
                  have HSUB := Shut.mk (show IntKind.i64.wrap ((idd : Int) - 1) = (id : Int) by rw [IntWalk.i64_in _ ⟨by omega, by omega⟩]; omega)
                  have HGE := Shut.mk (show lv < (idd : Int) from hla)
                  have HIDD := Shut.mk hidd
                  have hid2 : (id : Int) < (n : Int) := by omega
                  have hrb1 := hrb
                  rw [← hpb] at hrb1
                  rw [hbe, ← hpb] at hrb4
                  have HRA := Shut.mk hrb1
                  have HRD := Shut.mk hrb4
                  clear hrg hrb hrb1 hrg4 hrb4 hnx hla hlv hidd hbq hpb hfb hfl hokp hpm hbe hfe hsn hpid hp
                  go_wp2_with (fail)
                  refine (refbucket_any fb sd wr).mono ?_
                  rintro e wn ⟨rfl, rfl⟩
                  rw [HBK.out]
                  obtain ⟨w5, hw5⟩ : ∃ wq, wq = World.drew wr := ⟨_, rfl⟩
                  have HWw5 := Shut.mk hw5
                  have HDw5 := Shut.mk (show Below wr.heap.size wr w5 by rw [hw5]; exact (Below.refl _ _).drew)
                  clear hw5
                  have HRB1 := Shut.mk (HRA.out.below HDw5.out)
                  have HRB4 := Shut.mk (HRD.out.below HDw5.out)
                  have hb17 : (bq : Int) < 16 := by omega
                  have hge : lv < (idd : Int) := HGE.out
                  have hge2 : ¬ (idd : Int) ≤ lv := by omega
                  clear hcid hcfl hcs
                  go_wp2_with (fail)
                  refine wp_region_D (fun w' => Below w5.heap.size w5 w') 33 (by kernel_rfl) (show Below w5.heap.size w5 (World.drew wr) by rw [HWw5.out]; exact Below.refl _ _) (fun hHeld hC => ?_)
                  rw [← HWw5.out] at hHeld ⊢
                  refine wpAnyD_pure (i := 0) (v := ?_) rfl hC (by kernel_rfl) (by kernel_rfl) (by kernel_rfl) (by decide) (fun _ _ _ h => h) (Or.inl ⟨by rfl, ?_⟩) (fun _ => hHeld) ?_
                  rotate_left
                  · intro w hSw
                    clear hSw
                    go_simp
                    try with_reducible rfl
                  try simp only [Act.put, List.getElem_toArray, List.getElem_cons_zero, List.getElem_cons_succ, List.setIfInBounds_toArray, List.set_cons_zero, List.set_cons_succ]
                  clear hC
                  intro hC
                  refine wpAnyD_pure (i := 1) (v := ?_) rfl hC (by kernel_rfl) (by kernel_rfl) (by kernel_rfl) (by decide) (fun _ _ _ h => h) (Or.inl ⟨by rfl, ?_⟩) (fun _ => hHeld) ?_
                  rotate_left
                  · intro w hSw
                    clear hSw
                    go_simp
                    try with_reducible rfl
                  try simp only [Act.put, List.getElem_toArray, List.getElem_cons_zero, List.getElem_cons_succ, List.setIfInBounds_toArray, List.set_cons_zero, List.set_cons_succ]
                  clear hC
                  intro hC
                  refine wpAnyD_pure (i := 2) (v := ?_) rfl hC (by kernel_rfl) (by kernel_rfl) (by kernel_rfl) (by decide) (fun _ _ _ h => h) (Or.inl ⟨by rfl, ?_⟩) (fun _ => hHeld) ?_
                  rotate_left
                  · intro w hSw
                    clear hSw
                    go_simp
                    try with_reducible rfl
                  try simp only [Act.put, List.getElem_toArray, List.getElem_cons_zero, List.getElem_cons_succ, List.setIfInBounds_toArray, List.set_cons_zero, List.set_cons_succ]
                  clear hC
                  intro hC
                  refine wpAnyD_pure (i := 3) (v := ?_) rfl hC (by kernel_rfl) (by kernel_rfl) (by kernel_rfl) (by decide) (fun _ _ _ h => h) (Or.inl ⟨by rfl, ?_⟩) (fun _ => hHeld) ?_
                  rotate_left
                  · intro w hSw
                    clear hSw
                    go_simp
                    try with_reducible rfl
                  try simp only [Act.put, List.getElem_toArray, List.getElem_cons_zero, List.getElem_cons_succ, List.setIfInBounds_toArray, List.set_cons_zero, List.set_cons_succ]
                  clear hC
                  intro hC
                  refine wpAnyD_take (i := 4) (v := ?_) 40 rfl (by kernel_rfl) hC (by kernel_rfl) (by kernel_rfl) (by kernel_rfl) (by decide) (fun _ _ _ h => h) (Or.inl ⟨by rfl, ?_⟩) (fun _ => hHeld) ?_
                  rotate_left
                  · intro w hSw
                    have hz := (show w.cell? ⟨b1, off1 + k * 5 + 1, none⟩ = some (.int .u32 (uv fb)) from below_at hSw (below_at HDw5.out HC1.out))
                    clear hSw
                    go_simp
                    try with_reducible rfl
                  try simp only [Act.put, List.getElem_toArray, List.getElem_cons_zero, List.getElem_cons_succ, List.setIfInBounds_toArray, List.set_cons_zero, List.set_cons_succ]
                  clear hC
                  intro hC
                  refine wpAnyD_pure (i := 5) (v := ?_) rfl hC (by kernel_rfl) (by kernel_rfl) (by kernel_rfl) (by decide) (fun _ _ _ h => h) (Or.inl ⟨by rfl, ?_⟩) (fun _ => hHeld) ?_
                  rotate_left
                  · intro w hSw
                    clear hSw
                    go_simp
                    try with_reducible rfl
                  try simp only [Act.put, List.getElem_toArray, List.getElem_cons_zero, List.getElem_cons_succ, List.setIfInBounds_toArray, List.set_cons_zero, List.set_cons_succ]
                  clear hC
                  intro hC
                  refine wpAnyD_pure (i := 6) (v := ?_) rfl hC (by kernel_rfl) (by kernel_rfl) (by kernel_rfl) (by decide) (fun _ _ _ h => h) (Or.inl ⟨by rfl, ?_⟩) (fun _ => hHeld) ?_
                  rotate_left
                  · intro w hSw
                    clear hSw
                    go_simp
                    try with_reducible rfl
                  try simp only [Act.put, List.getElem_toArray, List.getElem_cons_zero, List.getElem_cons_succ, List.setIfInBounds_toArray, List.set_cons_zero, List.set_cons_succ]
                  clear hC
                  intro hC
                  refine wpAnyD_pure (i := 7) (v := ?_) rfl hC (by kernel_rfl) (by kernel_rfl) (by kernel_rfl) (by decide) (fun _ _ _ h => h) (Or.inl ⟨by rfl, ?_⟩) (fun _ => hHeld) ?_
                  rotate_left
                  · intro w hSw
                    have hwr := HSUB.out
                    clear hSw
                    go_simp
                    try with_reducible rfl
                  try simp only [Act.put, List.getElem_toArray, List.getElem_cons_zero, List.getElem_cons_succ, List.setIfInBounds_toArray, List.set_cons_zero, List.set_cons_succ]
                  clear hC
                  intro hC
                  refine wpAnyD_pure (i := 8) (v := ?_) rfl hC (by kernel_rfl) (by kernel_rfl) (by kernel_rfl) (by decide) (fun _ _ _ h => h) (Or.inl ⟨by rfl, ?_⟩) (fun _ => hHeld) ?_
                  rotate_left
                  · intro w hSw
                    clear hSw
                    go_simp
                    try with_reducible rfl
                  try simp only [Act.put, List.getElem_toArray, List.getElem_cons_zero, List.getElem_cons_succ, List.setIfInBounds_toArray, List.set_cons_zero, List.set_cons_succ]
                  clear hC
                  intro hC
                  refine wpAnyD_pure (i := 9) (v := ?_) rfl hC (by kernel_rfl) (by kernel_rfl) (by kernel_rfl) (by decide) (fun _ _ _ h => h) (Or.inl ⟨by rfl, ?_⟩) (fun _ => hHeld) ?_
                  rotate_left
                  · intro w hSw
                    clear hSw
                    go_simp
                    try with_reducible rfl
                  try simp only [Act.put, List.getElem_toArray, List.getElem_cons_zero, List.getElem_cons_succ, List.setIfInBounds_toArray, List.set_cons_zero, List.set_cons_succ]
                  clear hC
                  intro hC
                  refine wpAnyD_take (i := 10) (v := ?_) 40 rfl (by kernel_rfl) hC (by kernel_rfl) (by kernel_rfl) (by kernel_rfl) (by decide) (fun _ _ _ h => h) (Or.inl ⟨by rfl, ?_⟩) (fun _ => hHeld) ?_
                  rotate_left
                  · intro w hSw
                    have hz := (show w.cell? ⟨b4, off4 + id * 5 + 1, none⟩ = some (.int .u32 (uv fb)) from below_at hSw (below_at HDw5.out HD1.out))
                    clear hSw
                    go_simp
                    try with_reducible rfl
                  try simp only [Act.put, List.getElem_toArray, List.getElem_cons_zero, List.getElem_cons_succ, List.setIfInBounds_toArray, List.set_cons_zero, List.set_cons_succ]
                  clear hC
                  intro hC
                  refine wpAnyD_pure (i := 11) (v := ?_) rfl hC (by kernel_rfl) (by kernel_rfl) (by kernel_rfl) (by decide) (fun _ _ _ h => h) (Or.inl ⟨by rfl, ?_⟩) (fun _ => hHeld) ?_
                  rotate_left
                  · intro w hSw
                    clear hSw
                    go_simp
                    try with_reducible rfl
                  try simp only [Act.put, List.getElem_toArray, List.getElem_cons_zero, List.getElem_cons_succ, List.setIfInBounds_toArray, List.set_cons_zero, List.set_cons_succ]
                  clear hC
                  intro hC
                  refine wpAnyD_pure (i := 12) (v := ?_) rfl hC (by kernel_rfl) (by kernel_rfl) (by kernel_rfl) (by decide) (fun _ _ _ h => h) (Or.inl ⟨by rfl, ?_⟩) (fun _ => hHeld) ?_
                  rotate_left
                  · intro w hSw
                    clear hSw
                    go_simp
                    try with_reducible rfl
                  try simp only [Act.put, List.getElem_toArray, List.getElem_cons_zero, List.getElem_cons_succ, List.setIfInBounds_toArray, List.set_cons_zero, List.set_cons_succ]
                  clear hC
                  intro hC
                  refine wpAnyD_pure (i := 13) (v := ?_) rfl hC (by kernel_rfl) (by kernel_rfl) (by kernel_rfl) (by decide) (fun _ _ _ h => h) (Or.inl ⟨by rfl, ?_⟩) (fun _ => hHeld) ?_
                  rotate_left
                  · intro w hSw
                    clear hSw
                    go_simp
                    try with_reducible rfl
                  try simp only [Act.put, List.getElem_toArray, List.getElem_cons_zero, List.getElem_cons_succ, List.setIfInBounds_toArray, List.set_cons_zero, List.set_cons_succ]
                  clear hC
                  intro hC
                  refine wpAnyD_pure (i := 14) (v := ?_) rfl hC (by kernel_rfl) (by kernel_rfl) (by kernel_rfl) (by decide) (fun _ _ _ h => h) (Or.inl ⟨by rfl, ?_⟩) (fun _ => hHeld) ?_
                  rotate_left
                  · intro w hSw
                    clear hSw
                    go_simp
                    try with_reducible rfl
                  try simp only [Act.put, List.getElem_toArray, List.getElem_cons_zero, List.getElem_cons_succ, List.setIfInBounds_toArray, List.set_cons_zero, List.set_cons_succ]
                  clear hC
                  intro hC
                  refine wpAnyD_pure (i := 15) (v := ?_) rfl hC (by kernel_rfl) (by kernel_rfl) (by kernel_rfl) (by decide) (fun _ _ _ h => h) (Or.inl ⟨by rfl, ?_⟩) (fun _ => hHeld) ?_
                  rotate_left
                  · intro w hSw
                    clear hSw
                    go_simp
                    try with_reducible rfl
                  try simp only [Act.put, List.getElem_toArray, List.getElem_cons_zero, List.getElem_cons_succ, List.setIfInBounds_toArray, List.set_cons_zero, List.set_cons_succ]
                  clear hC
                  intro hC
                  refine wpAnyD_pure (i := 16) (v := ?_) rfl hC (by kernel_rfl) (by kernel_rfl) (by kernel_rfl) (by decide) (fun _ _ _ h => h) (Or.inl ⟨by rfl, ?_⟩) (fun _ => hHeld) ?_
                  rotate_left
                  · intro w hSw
                    clear hSw
                    go_simp
                    try with_reducible rfl
                  try simp only [Act.put, List.getElem_toArray, List.getElem_cons_zero, List.getElem_cons_succ, List.setIfInBounds_toArray, List.set_cons_zero, List.set_cons_succ]
                  clear hC
                  intro hC
                  refine wpAnyD_take (i := 17) (v := ?_) 40 rfl (by kernel_rfl) hC (by kernel_rfl) (by kernel_rfl) (by kernel_rfl) (by decide) (fun _ _ _ h => h) (Or.inl ⟨by rfl, ?_⟩) (fun _ => hHeld) ?_
                  rotate_left
                  · intro w hSw
                    have hz := (show w.cell? ⟨b1, off1 + k * 5 + 4, none⟩ = some (.slice a1 m1 c1) from below_at hSw (below_at HDw5.out HC4.out))
                    clear hSw
                    go_simp
                    try with_reducible rfl
                  try simp only [Act.put, List.getElem_toArray, List.getElem_cons_zero, List.getElem_cons_succ, List.setIfInBounds_toArray, List.set_cons_zero, List.set_cons_succ]
                  clear hC
                  intro hC
                  refine wpAnyD_pure (i := 18) (v := ?_) rfl hC (by kernel_rfl) (by kernel_rfl) (by kernel_rfl) (by decide) (fun _ _ _ h => h) (Or.inl ⟨by rfl, ?_⟩) (fun _ => hHeld) ?_
                  rotate_left
                  · intro w hSw
                    clear hSw
                    go_simp
                    try with_reducible rfl
                  try simp only [Act.put, List.getElem_toArray, List.getElem_cons_zero, List.getElem_cons_succ, List.setIfInBounds_toArray, List.set_cons_zero, List.set_cons_succ]
                  clear hC
                  intro hC
                  refine wpAnyD_pure (i := 19) (v := ?_) rfl hC (by kernel_rfl) (by kernel_rfl) (by kernel_rfl) (by decide) (fun _ _ _ h => h) (Or.inl ⟨by rfl, ?_⟩) (fun _ => hHeld) ?_
                  rotate_left
                  · intro w hSw
                    clear hSw
                    go_simp
                    try with_reducible rfl
                  try simp only [Act.put, List.getElem_toArray, List.getElem_cons_zero, List.getElem_cons_succ, List.setIfInBounds_toArray, List.set_cons_zero, List.set_cons_succ]
                  clear hC
                  intro hC
                  refine wpAnyD_pure (i := 20) (v := ?_) rfl hC (by kernel_rfl) (by kernel_rfl) (by kernel_rfl) (by decide) (fun _ _ _ h => h) (Or.inl ⟨by rfl, ?_⟩) (fun _ => hHeld) ?_
                  rotate_left
                  · intro w hSw
                    have hwr := HSUB.out
                    clear hSw
                    go_simp
                    try with_reducible rfl
                  try simp only [Act.put, List.getElem_toArray, List.getElem_cons_zero, List.getElem_cons_succ, List.setIfInBounds_toArray, List.set_cons_zero, List.set_cons_succ]
                  clear hC
                  intro hC
                  refine wpAnyD_pure (i := 21) (v := ?_) rfl hC (by kernel_rfl) (by kernel_rfl) (by kernel_rfl) (by decide) (fun _ _ _ h => h) (Or.inl ⟨by rfl, ?_⟩) (fun _ => hHeld) ?_
                  rotate_left
                  · intro w hSw
                    clear hSw
                    go_simp
                    try with_reducible rfl
                  try simp only [Act.put, List.getElem_toArray, List.getElem_cons_zero, List.getElem_cons_succ, List.setIfInBounds_toArray, List.set_cons_zero, List.set_cons_succ]
                  clear hC
                  intro hC
                  refine wpAnyD_pure (i := 22) (v := ?_) rfl hC (by kernel_rfl) (by kernel_rfl) (by kernel_rfl) (by decide) (fun _ _ _ h => h) (Or.inl ⟨by rfl, ?_⟩) (fun _ => hHeld) ?_
                  rotate_left
                  · intro w hSw
                    clear hSw
                    go_simp
                    try with_reducible rfl
                  try simp only [Act.put, List.getElem_toArray, List.getElem_cons_zero, List.getElem_cons_succ, List.setIfInBounds_toArray, List.set_cons_zero, List.set_cons_succ]
                  clear hC
                  intro hC
                  refine wpAnyD_take (i := 23) (v := ?_) 40 rfl (by kernel_rfl) hC (by kernel_rfl) (by kernel_rfl) (by kernel_rfl) (by decide) (fun _ _ _ h => h) (Or.inl ⟨by rfl, ?_⟩) (fun _ => hHeld) ?_
                  rotate_left
                  · intro w hSw
                    have hz := (show w.cell? ⟨b4, off4 + id * 5 + 4, none⟩ = some (.slice a4 m4 c4) from below_at hSw (below_at HDw5.out HD4.out))
                    clear hSw
                    go_simp
                    try with_reducible rfl
                  try simp only [Act.put, List.getElem_toArray, List.getElem_cons_zero, List.getElem_cons_succ, List.setIfInBounds_toArray, List.set_cons_zero, List.set_cons_succ]
                  clear hC
                  intro hC
                  refine wpAnyD_one (i := 24) (by kernel_rfl) rfl hC (fun K hK => ?_)
                  clear hC
                  go_simp
                  refine (same_any a1 a4 m1 c1 m4 c4 pb pb w5 (HRB1.out.below hHeld) (HRB4.out.below hHeld)).mono ?_
                  rintro e' wv1 ⟨rfl, kd, hkd⟩
                  rw [HSB.out]
                  have HKD := Shut.mk (show Below w5.heap.size w5 wv1 by rw [hkd]; exact below_drewN (Below.refl _ _) _)
                  clear hkd
                  have hHeld2 := hHeld.trans (HKD.out.mono hHeld.size)
                  clear hHeld
                  have hHeld := hHeld2
                  clear hHeld2
                  refine hK.out _ _ (fun _ => hHeld) (fun hC => ?_)
                  clear hK K
                  try simp only [Act.put, List.getElem_toArray, List.getElem_cons_zero, List.getElem_cons_succ, List.setIfInBounds_toArray, List.set_cons_zero, List.set_cons_succ]
                  refine wpAnyD_pure (i := 25) (v := ?_) rfl hC (by kernel_rfl) (by kernel_rfl) (by kernel_rfl) (by decide) (fun _ _ _ h => h) (Or.inl ⟨by rfl, ?_⟩) (fun _ => hHeld) ?_
                  rotate_left
                  · intro w hSw
                    clear hSw
                    go_simp
                    try with_reducible rfl
                  try simp only [Act.put, List.getElem_toArray, List.getElem_cons_zero, List.getElem_cons_succ, List.setIfInBounds_toArray, List.set_cons_zero, List.set_cons_succ]
                  clear hC
                  intro hC
                  refine wpAnyD_pure (i := 26) (v := ?_) rfl hC (by kernel_rfl) (by kernel_rfl) (by kernel_rfl) (by decide) (fun _ _ _ h => h) (Or.inl ⟨by rfl, ?_⟩) (fun _ => hHeld) ?_
                  rotate_left
                  · intro w hSw
                    clear hSw
                    go_simp
                    try with_reducible rfl
                  try simp only [Act.put, List.getElem_toArray, List.getElem_cons_zero, List.getElem_cons_succ, List.setIfInBounds_toArray, List.set_cons_zero, List.set_cons_succ]
                  clear hC
                  intro hC
                  refine wpAnyD_pure (i := 27) (v := ?_) rfl hC (by kernel_rfl) (by kernel_rfl) (by kernel_rfl) (by decide) (fun _ _ _ h => h) (Or.inl ⟨by rfl, ?_⟩) (fun _ => hHeld) ?_
                  rotate_left
                  · intro w hSw
                    clear hSw
                    go_simp
                    try with_reducible rfl
                  try simp only [Act.put, List.getElem_toArray, List.getElem_cons_zero, List.getElem_cons_succ, List.setIfInBounds_toArray, List.set_cons_zero, List.set_cons_succ]
                  clear hC
                  intro hC
                  refine wpAnyD_pure (i := 28) (v := ?_) rfl hC (by kernel_rfl) (by kernel_rfl) (by kernel_rfl) (by decide) (fun _ _ _ h => h) (Or.inl ⟨by rfl, ?_⟩) (fun _ => hHeld) ?_
                  rotate_left
                  · intro w hSw
                    clear hSw
                    go_simp
                    try with_reducible rfl
                  try simp only [Act.put, List.getElem_toArray, List.getElem_cons_zero, List.getElem_cons_succ, List.setIfInBounds_toArray, List.set_cons_zero, List.set_cons_succ]
                  clear hC
                  intro hC
                  refine wpAnyD_pure (i := 29) (v := ?_) rfl hC (by kernel_rfl) (by kernel_rfl) (by kernel_rfl) (by decide) (fun _ _ _ h => h) (Or.inl ⟨by rfl, ?_⟩) (fun _ => hHeld) ?_
                  rotate_left
                  · intro w hSw
                    clear hSw
                    go_simp
                    try with_reducible rfl
                  try simp only [Act.put, List.getElem_toArray, List.getElem_cons_zero, List.getElem_cons_succ, List.setIfInBounds_toArray, List.set_cons_zero, List.set_cons_succ]
                  clear hC
                  intro hC
                  refine wpAnyD_take (i := 30) (v := ?_) 40 rfl (by kernel_rfl) hC (by kernel_rfl) (by kernel_rfl) (by kernel_rfl) (by decide) (fun _ _ _ h => h) (Or.inl ⟨by rfl, ?_⟩) (fun _ => hHeld) ?_
                  rotate_left
                  · intro w hSw
                    have hz := (show w.cell? ⟨gL, bq, none⟩ = some (.int .i64 lv) from below_at hSw (below_at HDw5.out HLB.out))
                    clear hSw
                    go_simp
                    try with_reducible rfl
                  try simp only [Act.put, List.getElem_toArray, List.getElem_cons_zero, List.getElem_cons_succ, List.setIfInBounds_toArray, List.set_cons_zero, List.set_cons_succ]
                  clear hC
                  intro hC
                  refine wpAnyD_pure (i := 31) (v := ?_) rfl hC (by kernel_rfl) (by kernel_rfl) (by kernel_rfl) (by decide) (fun _ _ _ h => h) (Or.inl ⟨by rfl, ?_⟩) (fun _ => hHeld) ?_
                  rotate_left
                  · intro w hSw
                    clear hSw
                    go_simp
                    try with_reducible rfl
                  try simp only [Act.put, List.getElem_toArray, List.getElem_cons_zero, List.getElem_cons_succ, List.setIfInBounds_toArray, List.set_cons_zero, List.set_cons_succ]
                  clear hC
                  intro hC
                  refine wpAnyD_pure (i := 32) (v := ?_) rfl hC (by kernel_rfl) (by kernel_rfl) (by kernel_rfl) (by decide) (fun _ _ _ h => h) (Or.inl ⟨by rfl, ?_⟩) (fun _ => hHeld) ?_
                  rotate_left
                  · intro w hSw
                    have hge := HGE.out
                    clear hSw
                    go_simp
                    try with_reducible rfl
                  try simp only [Act.put, List.getElem_toArray, List.getElem_cons_zero, List.getElem_cons_succ, List.setIfInBounds_toArray, List.set_cons_zero, List.set_cons_succ]
                  clear hC
                  intro hC
                  refine wpAnyD_one (i := 33) (by kernel_rfl) rfl hC (fun K hK => ?_)
                  clear hC
                  go_simp
                  refine hK.out _ _ (past (by kernel_rfl)) (fun hC => ?_)
                  clear hK K
                  try simp only [Act.put, List.getElem_toArray, List.getElem_cons_zero, List.getElem_cons_succ, List.setIfInBounds_toArray, List.set_cons_zero, List.set_cons_succ]
                  refine wpAnyD_done (by kernel_rfl) ?_ _
                  try simp only [Act.put, List.getElem_toArray, List.getElem_cons_zero, List.getElem_cons_succ, List.setIfInBounds_toArray, List.set_cons_zero, List.set_cons_succ]
                  have HBV := Shut.mk (HDw5.out.trans (hHeld.mono HDw5.out.size))
                  clear hHeld hC
                  have HL5 := Shut.mk ((HBV.out.block _ (lt_blk HL.out)).trans HL.out)
                  have HS5 := Shut.mk ((HBV.out.block _ (lt_blk HS.out)).trans HS.out)
                  obtain ⟨w6, hw6⟩ : ∃ w6, w6 = wv1.setRow gL (rowC (L.set bq (idd : Int))) := ⟨_, rfl⟩
                  have HW6 := Shut.mk hw6
                  have HO6 := Shut.mk (show Only (· = gL) wv1 w6 by rw [hw6]; exact only_setRow _ _ _)
                  have HL6 := Shut.mk (show w6.heap[gL]? = some (.cells (rowC (L.set bq (idd : Int))) 51 (0, 0)) by rw [hw6]; exact setRow_heap _ gL _ _ _ (0, 0) HL5.out)
                  have HS6 := Shut.mk (HO6.out.at_ HS5.out (fun e => HNG.out e.symm))
                  obtain ⟨w7, hw7⟩ : ∃ w7, w7 = w6.setRow gS (rowT (S.set idd true)) := ⟨_, rfl⟩
                  have HW7 := Shut.mk hw7
                  have HO7 := Shut.mk (show Only (· = gS) w6 w7 by rw [hw7]; exact only_setRow _ _ _)
                  have HS7 := Shut.mk (show w7.heap[gS]? = some (.cells (rowT (S.set idd true)) 4 (0, 0)) by rw [hw7]; exact setRow_heap _ gS _ _ _ (0, 0) HS6.out)
                  have HL7 := Shut.mk (HO7.out.at_ HL6.out (fun e => HNG.out e))
                  clear hw6 hw7
                  have hge : lv < (idd : Int) := HGE.out
                  have hge2 : ¬ (idd : Int) ≤ lv := by omega
                  have hadd : IntKind.i64.wrap ((oo : Int) + 1) = (oo : Int) + 1 := IntWalk.i64_in _ ⟨by omega, by omega⟩
                  go_wp2_with (first
                    | (refine wpList_store_into rfl 3 (.tmp 192) (.tmp 191) rfl gL bq (.int .i64 idd) rfl rfl rfl 51 (rowC L) (rowC (L.set bq (idd : Int))) HL5.out fqFair.size1i (by rw [rowC_size, HLL.out]; exact hb16) (rowC_set _ _ _) ?_
                       rw [show World.setRow wv1 gL _ = w6 from HW6.out.symm])
                    | (refine wpList_store_into rfl 4 (.tmp 195) _ rfl gS idd (.bool true) rfl rfl rfl 4 (rowT S) (rowT (S.set idd true)) HS6.out size1b (by rw [rowT_size, HLS.out]; exact hi4) (rowT_set _ _ _) ?_
                       rw [show World.setRow w6 gS _ = w7 from HW7.out.symm]))
                  have HOE := Shut.mk (show Only (fun j => j = gL ∨ j = gS) wq w7 from ((HO.out.then_quiet HBV.out).trans HO6.out fun _ _ e => .inl e).trans HO7.out fun _ _ e => .inr e)
                  first
                    | (go_roundw
                       case rel => exact ⟨k + 1, oo + 1, S.set idd true, L.set bq (idd : Int), by omega, by go_num, by have := HOO.out; omega, by go_num, HNX.out, HOE.out, HL7.out, HS7.out⟩
                       case measure => simp [intOf]; omega)
                    | (refine ⟨⟨k + 1, oo + 1, S.set idd true, L.set bq (idd : Int), by omega, by go_num, by have := HOO.out; omega, by go_num, HNX.out, HOE.out, HL7.out, HS7.out⟩, ?_⟩
                       simp [intOf]
                       omega)
                · have hk' : nA = k := by omega
                  subst hk'
                  have hall : (ds ++ [(⟨pi, pf0, pt, pa, pb0⟩ : Pk)]).take nA = ds ++ [(⟨pi, pf0, pt, pa, pb0⟩ : Pk)] := by rw [HNA.out]; exact List.take_length
                  rw [hall] at HSE
                  clear hoob
                  have HNO := Shut.mk (show oo = (O ++ (ds ++ [(⟨pi, pf0, pt, pa, pb0⟩ : Pk)])).length ∧ i + 1 ≤ oo by
                    have h1 := HOO.out
                    have h2 := HOL.out
                    have h3 := HNA.out
                    have h4 := HIO.out
                    rw [List.length_append, ← h2, ← h3]
                    rw [List.length_append] at h3
                    simp at h3
                    omega)
                  go_wp2_with (fail)
                  go_roundw
                  case rel => exact ⟨i + 1, _, oo, O ++ (ds ++ [(⟨pi, pf0, pt, pa, pb0⟩ : Pk)]), V3, q2, S, L, by omega, by go_num, rfl, by have := HNW.out; push_cast; exact this, rfl, HNO.out.1, HNO.out.2, HQr.out, HO2.out, HSE.out, HL.out, HS.out, HAPQ.out⟩
                  case measure => simp [intOf]; omega

/-! ### THE ROW -/
set_option maxRecDepth 100000 in
theorem lifted (os : Os) (started : os.Started) (H : Type) (enc : TypeId × Value → H) :
    ReturnsInHanded {} Try.checked os 4 .any (Rows.fqOrderSpec.pre6 enc Try.prog Try.f4 Rows.fqOrderRow.domain false) (Rows.fqOrderSpec.post enc Try.prog Try.f4 false true false false) := by
  refine returnsInHanded_of_change (C := Try.checked) own started (by kernel_rfl) Try.func4
    (ChangeSpec.witness6 (enc := enc) (C := Try.checked) false ⟨#[], #[.int .u32 0, .int .i64 0, .slice none 0 0, .slice none 0 0], []⟩ 8 (by kernel_rfl) (by kernel_rfl) (by kernel_rfl) (by kernel_rfl)) ?_
  intro W base args ds gs before hval0 hW hcnd _
  have hval : ∀ (j : Nat) t v, Try.f4.params[j]? = some t → args[j]? = some v → Value.okWide Try.prog W .any base t v := hval0
  have hW' := hW
  obtain ⟨p, q, hA0, hV, rfl, hfz, hnd⟩ := hW
  have hA : DataW.TrodAll enc Try.prog W 0 (fun _ => true) true Try.f4.params.toList args.toList ds p := hA0
  rw [Try.params4] at hA hval
  obtain ⟨v0, vs0, d0, ds0, p0, q0', hargs, rfl, rfl, h0, r0⟩ := trodAll_cons hA
  obtain ⟨v1, vs1, d1, ds1, p1, q1', rfl, rfl, rfl, h1, r1⟩ := trodAll_cons r0
  obtain ⟨v2, vs2, d2, ds2, p2, q2', rfl, rfl, rfl, h2, r2⟩ := trodAll_cons r1
  obtain ⟨v3, vs3, d3, ds3, p3, q3', rfl, rfl, rfl, h3, r3⟩ := trodAll_cons r2
  obtain ⟨rfl, rfl, rfl⟩ := trodAll_nil r3
  obtain rfl : args = #[v0, v1, v2, v3] := by cases args; simp_all
  obtain ⟨rfl, rfl⟩ := trodVars_none hV
  have k0 := h0
  have lt0 : ∀ x ∈ p0, x.block < W.heap.size := by obtain ⟨m, hm⟩ := k0; exact DataW.trod_lt m _ _ _ hm
  have k1 := h1
  have lt1 : ∀ x ∈ p1, x.block < W.heap.size := by obtain ⟨m, hm⟩ := k1; exact DataW.trod_lt m _ _ _ hm
  have k2 := h2
  have lt2 : ∀ x ∈ p2, x.block < W.heap.size := by obtain ⟨m, hm⟩ := k2; exact DataW.trod_lt m _ _ _ hm
  have k3 := h3
  have lt3 : ∀ x ∈ p3, x.block < W.heap.size := by obtain ⟨m, hm⟩ := k3; exact DataW.trod_lt m _ _ _ hm
  obtain ⟨n0, rfl, rfl, rfl, w0⟩ := open_int Try.underlying22 (hval 0 22 v0 rfl rfl) h0
  obtain ⟨n1, rfl, rfl, rfl, w1⟩ := open_int Try.underlying2 (hval 1 2 v1 rfl rfl) h1
  obtain ⟨a2, len2, cap2, rfl⟩ := okWide_slice Try.underlying39 (hval 2 39 v2 rfl rfl)
  obtain ⟨l2, rfl, w2⟩ : ∃ l : List Pk, len2 = l.length ∧ RowP (fun k => k < W.heap.size) W a2 l ∧ l.length ≤ cap2 ∧ ∀ p ∈ l, okPk p := by
    obtain ⟨fuel, hf⟩ := h2
    obtain ⟨A, c, l, e, hr⟩ := open_pkts (v := .slice a2 len2 cap2) hf
    cases e
    exact ⟨l, rfl, hr⟩
  obtain ⟨a3, len3, cap3, rfl⟩ := okWide_slice Try.underlying50 (hval 3 50 v3 rfl rfl)
  obtain ⟨z3, w3⟩ : ∃ zs, IsRow .i64 W a3 len3 cap3 zs := by
    obtain ⟨fuel, hf⟩ := h3
    rcases open_ints Try.underlying50 Try.underlying3 (by kernel_rfl) hf with ⟨hcs, _⟩ | ⟨x, l, c, zs, hcs, _, hl, hm, hz, _, hcell, hwz⟩
    · simp [Value.cells] at hcs
      obtain ⟨rfl, rfl, rfl⟩ := hcs
      exact ⟨[], .inl ⟨rfl, rfl, rfl, rfl⟩⟩
    · simp [Value.cells] at hcs
      obtain ⟨rfl, rfl, rfl⟩ := hcs
      exact ⟨zs, .inr ⟨_, rfl, hl, hm, by simpa using hz, hcell, hwz⟩⟩
  clear hA0 hval0
  refine (walk n0 n1 a2 cap2 l2 a3 len3 cap3 z3 W w0 w1 w2 w3).mono fun e W' ⟨he, bel⟩ => ?_
  subst he
  exact ⟨_, rfl, _, _, _, [], _, [], hW', trodAll_mk1 (shut_bool Try.underlying4 _), (trodAll_cons_mk (Below.trod laidOut (by kernel_rfl) (of_decide_eq_true (by kernel_rfl)) k0 bel lt0) (trodAll_cons_mk (Below.trod laidOut (by kernel_rfl) (of_decide_eq_true (by kernel_rfl)) k1 bel lt1) (trodAll_cons_mk (Below.trod laidOut (by kernel_rfl) (of_decide_eq_true (by kernel_rfl)) k2 bel lt2) (trodAll_cons_mk (Below.trod laidOut (by kernel_rfl) (of_decide_eq_true (by kernel_rfl)) k3 bel lt3) trodAll_mk0)))), rfl, bel.frame _, fun h => by cases h⟩

theorem over : Rows.fqOrderRow.holds Try.pinned (OpenSpec.ofChange Rows.fqOrderSpec) :=
  OpenClaim.holds_of_wide 4 Try.f4 rfl rfl rfl rfl rfl rfl rfl ⟨rfl, rfl, rfl, rfl, rfl⟩ rfl rfl rfl rfl rfl (by kernel_rfl) Try.func4 (by kernel_rfl)
    (of_decide_eq_true (by kernel_rfl)) (by unfold Func.isWrapper; first | (rw [if_pos (by decide +kernel)]; kernel_rfl) | (rw [if_neg (by decide +kernel)]; exact ⟨rfl, rfl⟩))
    (fun os started H enc _ => lifted os started H enc)
theorem proved : Rows.FqOrderSaid := over
#print axioms proved
end Go.Proofs.Ytaibopaagjodoaa.fqOrder
