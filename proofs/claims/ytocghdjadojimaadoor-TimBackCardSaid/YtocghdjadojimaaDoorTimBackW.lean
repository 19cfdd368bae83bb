/-
  The walk of muezzin/muezzinlaw6.TimBack: the Go text returns true.
-/
import Derived.Test.YtocghdjadojimaaDoorTimY
import Derived.Test.YtocghdjadojimaaDoorOpenT
import Derived.WalkKit
import Derived.ProofKit
import Derived.Below
namespace Go.Proofs.YtocghdjadojimaaDoor.timBack
open Go.ChangeShapes Go.WideShapes Go.ChangeAt Go.RowKit Go.Joins
set_option linter.unusedVariables false
set_option linter.unusedSimpArgs false

/-! ### THE WALK -/
set_option maxRecDepth 100000 in
set_option maxHeartbeats 8000000 in
theorem walk (f0 : Tm) (a0 : Option Addr) (n0 k0 : Nat) (n1 : Int) (w : World) (E : Nat → Addr) (hS : Sent w E [101, 102, 103, 105]) (w0 : RowB .i64 w a0 n0 f0.l) (w1 : (Lit.int .i64 n1).wf = true) :
    Calls Tryd.prog 4 #[f0.val a0 n0 k0, .int .i64 n1] w fun e w' => e = .returned (.bool true) ∧ Below w.heap.size w w' := by
  have HS := Lib.hid (show Sent w E S4 from hS)
  have HR := Lib.hid w0
  have W1 := Lib.hid w1
  clear w0 w1 hS
  obtain ⟨qc, qp, qg, l⟩ := f0
  dsimp only at HR
  have HB := Lib.hid ((Below.refl w.heap.size w).alloc (Nat.le_refl _) (.cells ((Tm.mk qc qp qg l).cells a0 n0 k0) 24))
  have HG := Lib.hid (heap_alloc_last w (.cells ((Tm.mk qc qp qg l).cells a0 n0 k0) 24))
  go_enter Tryd.func4, Tryd.ntmps4
  go_wp2_with (fail)
  generalize World.alloc w _ = w0 at *
  refine (first_any w0).mono ?_
  rintro e w1 ⟨rfl, hB⟩
  have T0 := Lib.hid (HB.out.trans (hB.mono HB.out.size))
  have T1 := Lib.hid ((hB.block _ (lt_blk HG.out)).trans HG.out)
  clear hB HB HG
  have HB := T0
  have HG := T1
  clear T0 T1
  have d3 : w1.cell? ⟨w.heap.size, 3, none⟩ = some (.slice a0 n0 k0) := cell_of_row w1 _ 3 _ _ _ HG.out
  by_cases h60 : 60 < n0
  · have g1 : decide ((60 : Int) < (n0 : Int)) = true := by simp; omega
    have g2 : decide (60 < n0) = true := by simp; omega
    go_wp2
    go_ret
    exact ⟨rfl, HB.out⟩
  have g1 : decide ((60 : Int) < (n0 : Int)) = false := by simp; omega
  have g2 : decide (60 < n0) = false := by simp; omega
  go_wp2_with (refine wpList_load_row rfl 24 (.tmp 2) rfl w.heap.size rfl 24 ((Tm.mk qc qp qg l).cells a0 n0 k0) (0, 0) _ HG.out Tryd.underlying24 rfl sizeTim ?_)
  clear d3 g1 g2
  cases hok : okT ⟨qc, qp, qg, l⟩
  · refine (bytes_no ⟨qc, qp, qg, l⟩ a0 n0 k0 E w1 (HR.out.below HB.out) hok (HS.out.below HB.out)).mono ?_
    rintro e w2 ⟨rfl, hB⟩
    have T0 := Lib.hid (HB.out.trans (hB.mono HB.out.size))
    have T1 := Lib.hid ((hB.block _ (lt_blk HG.out)).trans HG.out)
    clear hB HB HG
    have HB := T0
    have HG := T1
    clear T0 T1
    go_wp2
    go_ret
    exact ⟨rfl, HB.out⟩
  obtain ⟨p1, p2, c1, c2, hr⟩ := okT_fine hok
  dsimp only at p1 p2 c1 c2 hr
  obtain ⟨f0, f1, f2, f3, f4, f5⟩ := fst_facts hr
  have HLEN := Lib.hid (encT_len ⟨qc, qp, qg, l⟩)
  have HWF := Lib.hid (all_wf (encT_len ⟨qc, qp, qg, l⟩) (encT_wf ⟨qc, qp, qg, l⟩ hok))
  have HOK := Lib.hid hok
  have HRI := Lib.hid hr
  have HLw := Lib.hid (lt_blk HG.out)
  refine (bytes_yes ⟨qc, qp, qg, l⟩ a0 n0 k0 w1 (HR.out.below HB.out) hok).mono ?_
  rintro e w2 ⟨g, cap, rfl, hO, hB⟩
  have HO := Lib.hid hO
  have hcap := hO.cap_le
  have HBs := Lib.hid HB.out.size
  dsimp only at HO hcap HLEN HWF
  clear hO hok hr p1 p2 c1 c2
  have T0 := Lib.hid (HB.out.trans (hB.mono HB.out.size))
  have T1 := Lib.hid ((hB.block _ (lt_blk HG.out)).trans HG.out)
  clear hB HB HG
  have HB := T0
  have HG := T1
  clear T0 T1
  clear f0 f1 f2 f3 f4
  have HRB := Lib.hid (HO.out.row8 HWF.out)
  have HRD := Lib.hid (rdT_enc ⟨qc, qp, qg, l⟩ HOK.out)
  have HH := Lib.hid (fun v => hasT_enc ⟨qc, qp, qg, l⟩ HOK.out v)
  have HFF := Lib.hid (fst_facts HRI.out)
  have HPL := Lib.hid (fun hp => part_last HRI.out hp)
  have HPF := Lib.hid (fun hp h2 => part_first HRI.out hp h2)
  have HPT := Lib.hid (fun i => encT_part ⟨qc, qp, qg, l⟩ i)
  have HLL := Lib.hid HR.out.len
  have HLZ := Lib.hid (show l = [] → lenB l = 1 from fun h => by subst h; decide)
  have hm1 : 1 ≤ lenB l := by unfold lenB; omega
  dsimp only at HRD HH HPT
  generalize encT _ = L at *
  generalize lenB l = m at *
  clear HO HOK HWF HLEN HFF
  have HC := Lib.hid (read_all (some ⟨g, 0, none⟩) (m + 5) cap L E w2 HRB.out (HS.out.below HB.out) hcap)
  go_wp2_with (fail)
  refine HC.out.mono ?_
  rintro e w3 ⟨A', k', rfl, hR, hB⟩
  rw [HRD.out.1, HRD.out.2, errV_zero]
  rw [HRD.out.2] at hR
  dsimp only at hR ⊢
  clear HC HRD
  have T0 := Lib.hid (HB.out.trans (hB.mono HB.out.size))
  have T1 := Lib.hid ((hB.block _ (lt_blk HG.out)).trans HG.out)
  have T2 := Lib.hid (HRB.out.below hB)
  clear hB HB HG HRB
  have HB := T0
  have HG := T1
  have HRB := T2
  clear T0 T1 T2
  have T0 := Lib.hid (HB.out.alloc HB.out.size (.cells ((Tm.mk qc qp qg l).cells A' l.length k') 24))
  have T1 := Lib.hid (((Below.refl w3.heap.size w3).alloc (Nat.le_refl _) (.cells ((Tm.mk qc qp qg l).cells A' l.length k') 24)).block _ (lt_blk HG.out) |>.trans HG.out)
  have HGp := Lib.hid (heap_alloc_last w3 (.cells ((Tm.mk qc qp qg l).cells A' l.length k') 24))
  have HRP := Lib.hid (hR.below ((Below.refl w3.heap.size w3).alloc (Nat.le_refl _) (.cells ((Tm.mk qc qp qg l).cells A' l.length k') 24)))
  have T2 := Lib.hid (HRB.out.below ((Below.refl w3.heap.size w3).alloc (Nat.le_refl _) (.cells ((Tm.mk qc qp qg l).cells A' l.length k') 24)))
  clear HB HG hR HRB
  have HB := T0
  have HG := T1
  have HRB := T2
  clear T0 T1 T2
  go_wp2_with (refine wpList_store_row rfl 24 (.tmp 8) (.tmp 36) rfl w3.heap.size ((Tm.mk qc qp qg l).cells A' l.length k') rfl rfl 24 t0c (heap_alloc_last _ _) sizeTim rfl (Tm.oneCell _ _ _ _) ?_; rw [World.setRow_alloc_new]; generalize World.alloc w3 _ = w4 at *; generalize w3.heap.size = gp at *)
  go_wp2_with (fail)
  refine wp_region_held_drew (S := fun w' => Below w4.heap.size w4 w') (by kernel_rfl) (Below.refl _ _).drew (fun hHeld => ?_)
  have HG' := Lib.hid (fun (w' : World) (hB : Below w4.heap.size w4 w') => (hB.block _ (lt_blk HG.out)).trans HG.out)
  have HGp' := Lib.hid (fun (w' : World) (hB : Below w4.heap.size w4 w') => (hB.block _ (lt_blk HGp.out)).trans HGp.out)
  have HR' := Lib.hid (fun (w' : World) (hB : Below w4.heap.size w4 w') => HR.out.below (HB.out.trans (hB.mono HB.out.size)))
  have HRP' := Lib.hid (fun (w' : World) (hB : Below w4.heap.size w4 w') => HRP.out.below hB)
  have HRB' := Lib.hid (fun (w' : World) (hB : Below w4.heap.size w4 w') => HRB.out.below hB)
  have HS' := Lib.hid (fun (w' : World) (hB : Below w4.heap.size w4 w') => HS.out.below (HB.out.trans (hB.mono HB.out.size)))
  have HQ3 := Lib.hid (show ∀ (w' : World) (hB : Below w4.heap.size w4 w'), w'.cell? ⟨w.heap.size, 3, none⟩ = some (.slice a0 n0 k0) from fun w' hB => cell_of_row w' _ 3 _ _ _ (HG'.out w' hB))
  have hm0 : decide ((m : Int) < 1) = false := by simp; omega
  have hm0' : decide (m < 1) = false := by simp; omega
  generalize World.drew w4 = w5 at *
  have HB5 := Lib.hid hHeld
  refine wpAnyH_take (i := 0) (v := ?_) rfl (by kernel_rfl) (by kernel_rfl) (by kernel_rfl) (fun _ _ _ h => h) (Or.inl ⟨by rfl, ?_⟩) (by assumption) ?_
  rotate_left
  · intro w hSw
    clear hSw
    go_simp
    try with_reducible rfl
  try simp only [Act.put, List.getElem_toArray, List.getElem_cons_zero, List.getElem_cons_succ, List.setIfInBounds_toArray, List.set_cons_zero, List.set_cons_succ]
  refine wpAnyH_take (i := 1) (v := ?_) rfl (by kernel_rfl) (by kernel_rfl) (by kernel_rfl) (fun _ _ _ h => h) (Or.inl ⟨by rfl, ?_⟩) (by assumption) ?_
  rotate_left
  · intro w hSw
    clear hSw
    go_simp
    try with_reducible rfl
  try simp only [Act.put, List.getElem_toArray, List.getElem_cons_zero, List.getElem_cons_succ, List.setIfInBounds_toArray, List.set_cons_zero, List.set_cons_succ]
  refine wpAnyH_take (i := 2) (v := ?_) rfl (by kernel_rfl) (by kernel_rfl) (by kernel_rfl) (fun _ _ _ h => h) (Or.inl ⟨by rfl, ?_⟩) (by assumption) ?_
  rotate_left
  · intro w hSw
    clear hSw
    go_simp
    try with_reducible rfl
  try simp only [Act.put, List.getElem_toArray, List.getElem_cons_zero, List.getElem_cons_succ, List.setIfInBounds_toArray, List.set_cons_zero, List.set_cons_succ]
  refine wpAnyH_take (i := 3) (v := .agg ((Tm.mk qc qp qg l).cells A' l.length k')) rfl (by kernel_rfl) (by kernel_rfl) (by kernel_rfl) (fun _ _ _ h => h) (yieldsIf_load_mid (by rfl) 24 (.tmp 8) rfl gp 0 rfl ((Tm.mk qc qp qg l).cells A' l.length k').toList _ (fun w' hw' => block_range (HGp'.out w' hw')) Tryd.underlying24 rfl sizeTim) (by assumption) ?_
  try simp only [Act.put, List.getElem_toArray, List.getElem_cons_zero, List.getElem_cons_succ, List.setIfInBounds_toArray, List.set_cons_zero, List.set_cons_succ]
  refine wpAnyH_take (i := 4) (v := .agg ((Tm.mk qc qp qg l).cells a0 n0 k0)) rfl (by kernel_rfl) (by kernel_rfl) (by kernel_rfl) (fun _ _ _ h => h) (yieldsIf_load_mid (by rfl) 24 (.tmp 2) rfl w.heap.size 0 rfl ((Tm.mk qc qp qg l).cells a0 n0 k0).toList _ (fun w' hw' => block_range (HG'.out w' hw')) Tryd.underlying24 rfl sizeTim) (by assumption) ?_
  try simp only [Act.put, List.getElem_toArray, List.getElem_cons_zero, List.getElem_cons_succ, List.setIfInBounds_toArray, List.set_cons_zero, List.set_cons_succ]
  refine wpAnyH_ready (rs := [5]) (by kernel_rfl) (by simp) ?_
  refine AllReadyH.cons rfl (fun K hK => ?_) AllReadyH.nil
  go_simp
  refine (sameTim_any ⟨qc, qp, qg, l⟩ ⟨qc, qp, qg, l⟩ A' l.length k' a0 n0 k0 w5 (HRP'.out _ HB5.out) (HR'.out _ HB5.out)).mono ?_
  rintro e' w6 ⟨rfl, hb⟩
  rw [sameT_refl]
  have HB6 := Lib.hid (HB5.out.trans (hb.mono HB5.out.size))
  clear hb hHeld
  refine hK.out _ _ HB6.out (fun hHeld => ?_)
  clear hK K
  try simp only [Act.put, List.getElem_toArray, List.getElem_cons_zero, List.getElem_cons_succ, List.setIfInBounds_toArray, List.set_cons_zero, List.set_cons_succ]
  refine wpAnyH_take (i := 6) (v := ?_) rfl (by kernel_rfl) (by kernel_rfl) (by kernel_rfl) (fun _ _ _ h => h) (Or.inl ⟨by rfl, ?_⟩) (by assumption) ?_
  rotate_left
  · intro w hSw
    clear hSw
    go_simp
    try with_reducible rfl
  try simp only [Act.put, List.getElem_toArray, List.getElem_cons_zero, List.getElem_cons_succ, List.setIfInBounds_toArray, List.set_cons_zero, List.set_cons_succ]
  refine wpAnyH_take (i := 7) (v := ?_) rfl (by kernel_rfl) (by kernel_rfl) (by kernel_rfl) (fun _ _ _ h => h) (Or.inl ⟨by rfl, ?_⟩) (by assumption) ?_
  rotate_left
  · intro w hSw
    clear hSw
    go_simp
    try with_reducible rfl
  try simp only [Act.put, List.getElem_toArray, List.getElem_cons_zero, List.getElem_cons_succ, List.setIfInBounds_toArray, List.set_cons_zero, List.set_cons_succ]
  refine wpAnyH_take (i := 8) (v := ?_) rfl (by kernel_rfl) (by kernel_rfl) (by kernel_rfl) (fun _ _ _ h => h) (Or.inl ⟨by rfl, ?_⟩) (by assumption) ?_
  rotate_left
  · intro w hSw
    clear hSw
    go_simp
    try with_reducible rfl
  try simp only [Act.put, List.getElem_toArray, List.getElem_cons_zero, List.getElem_cons_succ, List.setIfInBounds_toArray, List.set_cons_zero, List.set_cons_succ]
  refine wpAnyH_take (i := 9) (v := ?_) rfl (by kernel_rfl) (by kernel_rfl) (by kernel_rfl) (fun _ _ _ h => h) (Or.inl ⟨by rfl, ?_⟩) (by assumption) ?_
  rotate_left
  · intro w hSw
    clear hSw
    go_simp
    try with_reducible rfl
  try simp only [Act.put, List.getElem_toArray, List.getElem_cons_zero, List.getElem_cons_succ, List.setIfInBounds_toArray, List.set_cons_zero, List.set_cons_succ]
  refine wpAnyH_take (i := 10) (v := ?_) rfl (by kernel_rfl) (by kernel_rfl) (by kernel_rfl) (fun _ _ _ h => h) (Or.inl ⟨by rfl, ?_⟩) (by assumption) ?_
  rotate_left
  · intro w hSw
    clear hSw
    go_simp
    try with_reducible rfl
  try simp only [Act.put, List.getElem_toArray, List.getElem_cons_zero, List.getElem_cons_succ, List.setIfInBounds_toArray, List.set_cons_zero, List.set_cons_succ]
  refine wpAnyH_take (i := 11) (v := ?_) rfl (by kernel_rfl) (by kernel_rfl) (by kernel_rfl) (fun _ _ _ h => h) (Or.inl ⟨by rfl, ?_⟩) (by assumption) ?_
  rotate_left
  · intro w hSw
    clear hSw
    go_simp
    try with_reducible rfl
  try simp only [Act.put, List.getElem_toArray, List.getElem_cons_zero, List.getElem_cons_succ, List.setIfInBounds_toArray, List.set_cons_zero, List.set_cons_succ]
  refine wpAnyH_take (i := 12) (v := ?_) rfl (by kernel_rfl) (by kernel_rfl) (by kernel_rfl) (fun _ _ _ h => h) (Or.inl ⟨by rfl, ?_⟩) (by assumption) ?_
  rotate_left
  · intro w hSw
    clear hSw
    go_simp
    try with_reducible rfl
  try simp only [Act.put, List.getElem_toArray, List.getElem_cons_zero, List.getElem_cons_succ, List.setIfInBounds_toArray, List.set_cons_zero, List.set_cons_succ]
  refine wpAnyH_take (i := 13) (v := ?_) rfl (by kernel_rfl) (by kernel_rfl) (by kernel_rfl) (fun _ _ _ h => h) (Or.inl ⟨by rfl, ?_⟩) (by assumption) ?_
  rotate_left
  · intro w hSw
    clear hSw
    go_simp
    try with_reducible rfl
  try simp only [Act.put, List.getElem_toArray, List.getElem_cons_zero, List.getElem_cons_succ, List.setIfInBounds_toArray, List.set_cons_zero, List.set_cons_succ]
  refine wpAnyH_take (i := 14) (v := ?_) rfl (by kernel_rfl) (by kernel_rfl) (by kernel_rfl) (fun _ _ _ h => h) (Or.inl ⟨by rfl, ?_⟩) (by assumption) ?_
  rotate_left
  · intro w hSw
    clear hSw
    go_simp
    try with_reducible rfl
  try simp only [Act.put, List.getElem_toArray, List.getElem_cons_zero, List.getElem_cons_succ, List.setIfInBounds_toArray, List.set_cons_zero, List.set_cons_succ]
  refine wpAnyH_take (i := 16) (v := ?_) rfl (by kernel_rfl) (by kernel_rfl) (by kernel_rfl) (fun _ _ _ h => h) (Or.inl ⟨by rfl, ?_⟩) (by assumption) ?_
  rotate_left
  · intro w hSw
    clear hSw
    go_simp
    try with_reducible rfl
  try simp only [Act.put, List.getElem_toArray, List.getElem_cons_zero, List.getElem_cons_succ, List.setIfInBounds_toArray, List.set_cons_zero, List.set_cons_succ]
  refine wpAnyH_take (i := 17) (v := ?_) rfl (by kernel_rfl) (by kernel_rfl) (by kernel_rfl) (fun _ _ _ h => h) (Or.inl ⟨by rfl, ?_⟩) (by assumption) ?_
  rotate_left
  · intro w hSw
    have c := HQ3.out w hSw
    clear hSw
    go_simp
    try with_reducible rfl
  try simp only [Act.put, List.getElem_toArray, List.getElem_cons_zero, List.getElem_cons_succ, List.setIfInBounds_toArray, List.set_cons_zero, List.set_cons_succ]
  refine wpAnyH_take (i := 18) (v := ?_) rfl (by kernel_rfl) (by kernel_rfl) (by kernel_rfl) (fun _ _ _ h => h) (Or.inl ⟨by rfl, ?_⟩) (by assumption) ?_
  rotate_left
  · intro w hSw
    clear hSw
    go_simp
    try with_reducible rfl
  try simp only [Act.put, List.getElem_toArray, List.getElem_cons_zero, List.getElem_cons_succ, List.setIfInBounds_toArray, List.set_cons_zero, List.set_cons_succ]
  refine wpAnyH_ready (rs := [15]) (by kernel_rfl) (by simp) ?_
  refine AllReadyH.cons rfl (fun K hK => ?_) AllReadyH.nil
  go_simp
  refine (has_any (some ⟨g, 0, none⟩) (m + 5) cap L n1 E w6 (HRB'.out _ HB6.out) (HS'.out _ HB6.out) hcap).mono ?_
  rintro e' w7 ⟨rfl, hb⟩
  rw [HH.out n1]
  have HB7 := Lib.hid (HB6.out.trans (hb.mono HB6.out.size))
  clear hb hHeld
  refine hK.out _ _ HB7.out (fun hHeld => ?_)
  clear hK K
  try simp only [Act.put, List.getElem_toArray, List.getElem_cons_zero, List.getElem_cons_succ, List.setIfInBounds_toArray, List.set_cons_zero, List.set_cons_succ]
  refine wpAnyH_ready (rs := [19]) (by kernel_rfl) (by simp) ?_
  refine AllReadyH.cons rfl (fun K hK => ?_) AllReadyH.nil
  go_simp
  refine (refHas_any a0 n0 k0 l n1 w7 (HR'.out _ HB7.out)).mono ?_
  rintro e' w8 ⟨rfl, rfl⟩
  clear hHeld
  refine hK.out _ _ HB7.out (fun hHeld => ?_)
  clear hK K
  generalize decide (n1 ∈ l) = hv at *
  try simp only [Act.put, List.getElem_toArray, List.getElem_cons_zero, List.getElem_cons_succ, List.setIfInBounds_toArray, List.set_cons_zero, List.set_cons_succ]
  refine wpAnyH_take (i := 20) (v := ?_) rfl (by kernel_rfl) (by kernel_rfl) (by kernel_rfl) (fun _ _ _ h => h) (Or.inl ⟨by rfl, ?_⟩) (by assumption) ?_
  rotate_left
  · intro w hSw
    clear hSw
    go_simp
    try with_reducible rfl
  try simp only [Act.put, List.getElem_toArray, List.getElem_cons_zero, List.getElem_cons_succ, List.setIfInBounds_toArray, List.set_cons_zero, List.set_cons_succ]
  refine wpAnyH_take (i := 21) (v := ?_) rfl (by kernel_rfl) (by kernel_rfl) (by kernel_rfl) (fun _ _ _ h => h) (Or.inl ⟨by rfl, ?_⟩) (by assumption) ?_
  rotate_left
  · intro w hSw
    clear hSw
    go_simp
    try with_reducible rfl
  try simp only [Act.put, List.getElem_toArray, List.getElem_cons_zero, List.getElem_cons_succ, List.setIfInBounds_toArray, List.set_cons_zero, List.set_cons_succ]
  refine wpAnyH_done (by kernel_rfl) ?_ _
  try simp only [Act.put, List.getElem_toArray, List.getElem_cons_zero, List.getElem_cons_succ, List.setIfInBounds_toArray, List.set_cons_zero, List.set_cons_succ]
  have T0 := Lib.hid (HB.out.trans (HB7.out.mono HB.out.size))
  have T1 := Lib.hid (HG'.out _ HB7.out)
  have T2 := Lib.hid (HRB'.out _ HB7.out)
  clear HB HG HRB HGp HRP HG' HGp' HR' HRP' HRB' HS' HQ3 HB5 HB6 hHeld HB7
  have HB := T0
  have HG := T1
  have HRB := T2
  clear T0 T1 T2
  go_wp2
  go_loopw [11] (fun i wr => ∃ k : Nat, k ≤ n0 ∧ i = .int .i64 k ∧ Below w.heap.size w wr ∧ wr.heap[w.heap.size]? = some (.cells ((Tm.mk qc qp qg l).cells a0 n0 k0) 24 (0, 0)) ∧ RowB .u8 wr (some ⟨g, 0, none⟩) (m + 5) L) (fun i _ => n0 - (intOf i).toNat)
  case atStart => exact ⟨0, by omega, rfl, HB.out, HG.out, HRB.out⟩
  case round =>
    obtain ⟨k, hk, rfl, hbel, hblk, hrow⟩ := hrel
    clear HB HG HRB
    have HB := Lib.hid hbel
    have HG := Lib.hid hblk
    have HRB := Lib.hid hrow
    clear hbel hblk hrow
    have d3 : wr.cell? ⟨w.heap.size, 3, none⟩ = some (.slice a0 n0 k0) := cell_of_row wr _ 3 _ _ _ HG.out
    by_cases hlt : k < n0
    · obtain ⟨b, off, rfl, hc⟩ := (HR.out.below HB.out).el k hlt
      have hi : (k : Int) < (n0 : Int) := by omega
      have HHk := Lib.hid (HH.out (l.getD k 0))
      rw [show decide (l.getD k 0 ∈ l) = true from decide_eq_true (getD_mem (by rw [HLL.out]; exact hlt))] at HHk
      generalize l.getD k 0 = x at *
      go_wp2_with (fail)
      refine (has_any (some ⟨g, 0, none⟩) (m + 5) cap L x E wr HRB.out (HS.out.below HB.out) hcap).mono ?_
      rintro e w9 ⟨rfl, hB⟩
      rw [HHk.out]
      clear d3 hc
      have T0 := Lib.hid (HB.out.trans (hB.mono HB.out.size))
      have T1 := Lib.hid ((hB.block _ (lt_blk HG.out)).trans HG.out)
      have T2 := Lib.hid (HRB.out.below hB)
      clear hB HB HG HRB
      have HB := T0
      have HG := T1
      have HRB := T2
      clear T0 T1 T2
      go_wp2
      go_roundw
      case rel => exact ⟨k + 1, by omega, by go_num, HB.out, HG.out, HRB.out⟩
      case measure => simp [intOf]; omega
    · have hk' : k = n0 := by omega
      subst hk'
      obtain ⟨M, rfl⟩ : ∃ M, m = M + 1 := ⟨m - 1, by omega⟩
      rcases Nat.eq_zero_or_pos k with h0 | hp
      · have hl0 : l = [] := List.eq_nil_of_length_eq_zero (HLL.out.trans h0)
        have hM : M = 0 := by have := HLZ.out hl0; omega
        subst h0
        subst hM
        clear hl0
        go_wp2
        go_ret
        exact ⟨rfl, HB.out⟩
      have hn1 : ((k : Int) == 0) = false := by simp; omega
      have hn2 : decide ((0 : Int) < (k : Int)) = true := by simp; omega
      have hn3 : decide (0 < k) = true := by simp; omega
      have HZ := Lib.hid (HPL.out (by rw [HLL.out]; exact hp))
      have cl := HRB.out.at_ (M + 5) (by omega)
      rw [Nat.zero_add, HPT.out M] at cl
      have HZ2 := Lib.hid (show (partB l).getD M 0 ≠ 0 from HZ.out)
      have HF2 := Lib.hid (fun h2 => HPF.out (by rw [HLL.out]; exact hp) h2)
      have c5 := HRB.out.at_ 5 (by omega)
      rw [Nat.zero_add, HPT.out 0] at c5
      have ix1 : (0 : Int) ≤ (M : Int) + 1 + 5 - 1 := by omega
      have ix2 : (M : Int) + 1 + 5 - 1 < (M : Int) + 1 + 5 := by omega
      have ix3 : ((M : Int) + 1 + 5 - 1).toNat = M + 5 := by omega
      rcases Nat.eq_zero_or_pos M with h0 | hM
      · subst h0
        have hz : ((partB l).getD 0 0 != 0) = true := by simpa using HZ2.out
        clear HZ HZ2 HF2 cl HPL HPF HPT
        generalize (partB l).getD 0 0 = z at *
        go_wp2
        go_ret
        exact ⟨rfl, HB.out⟩
      have hz : ((partB l).getD M 0 != 0) = true := by simpa using HZ2.out
      have c6 := HRB.out.at_ 6 (by omega)
      rw [Nat.zero_add, HPT.out 1] at c6
      have HF := Lib.hid (HF2.out (by omega))
      have hge : decide ((M : Int) + 1 + 5 - 5 < 2) = false := by simp; omega
      have hge2 : decide ((M : Int) + 1 < 2) = false := by simp; omega
      have hge3 : ((M : Int) + 1 == 1) = false := by simp; omega
      clear HZ HZ2 HF2 HPL HPF HPT
      generalize (partB l).getD M 0 = z at *
      generalize (partB l).getD 0 0 = z0 at *
      generalize (partB l).getD 1 0 = z1 at *
      cases e0 : (z0 != 0)
      · have e1 : (z1 != 0) = true := by
          rcases HF.out with h | h
          · exact absurd (by simpa using e0) h
          · simpa using h
        go_wp2
        go_ret
        exact ⟨rfl, HB.out⟩
      · go_wp2
        go_ret
        exact ⟨rfl, HB.out⟩
end Go.Proofs.YtocghdjadojimaaDoor.timBack
