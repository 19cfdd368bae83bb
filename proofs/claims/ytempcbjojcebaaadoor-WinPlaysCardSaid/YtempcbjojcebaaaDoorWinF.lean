/-
  THE REFERENCE's WINDOW: Done.
-/
import Derived.Test.YtempcbjojcebaaaDoorWinE
namespace Go.Proofs.YtempcbjojcebaaaDoor
open Go.ChangeShapes Go.WideShapes Go.ChangeAt Go.RowKit Go.Deep
set_option linter.unusedVariables false
set_option linter.unusedSimpArgs false

/-- what is out behind it. -/
theorem outI_done {x : Wo} (hi : InvW x) (d : Nat) (hd : d ∈ x.ds) : outI (doneW x d) = (outI x).filter fun a => a != ((nmW x d : Nat) : Int) := by
  have e1 : outI (doneW x d) = (outW (doneW x d)).map fun (n : Nat) => (n : Int) := by unfold outI outW; rw [List.map_map]; rfl
  rw [e1, out_done hi, List.map_map]
  unfold outI
  rw [List.filter_map]
  congr 1
  refine List.filter_congr fun c hc => ?_
  have h1 := hi.lts c hc
  have h2 := hi.lts d hd
  rw [Bool.eq_iff_iff]
  simp only [bne_iff_ne, ne_eq, Function.comp]
  constructor
  · intro h e
    exact h (nm_inj (w := x) (by omega) (by omega) (by omega))
  · intro h e
    subst e
    exact h rfl
theorem out_has {x : Wo} (s : Int) : decide (s ∈ outI x) = outB_ x s := by
  unfold outB_ outI
  rw [decide_eq_decide, List.mem_map]
  constructor
  · rintro ⟨d, hd, rfl⟩; exact ⟨d, hd, rfl⟩
  · rintro ⟨d, hd, rfl⟩; exact ⟨d, hd, rfl⟩
set_option maxRecDepth 100000 in
set_option maxHeartbeats 4000000 in
theorem refahead_at (h : Nat) (x : Wo) (w : World) (c0 : w.cell? ⟨h, 0, none⟩ = some (.int .i64 ((x.st : Nat) : Int))) (c1 : w.cell? ⟨h, 1, none⟩ = some (.int .i64 ((x.gv : Nat) : Int))) (hi : InvW x) :
    Calls Tryd.prog 22 #[.pointer (some ⟨h, 0, none⟩)] w fun e w' => e = .returned (.int .i64 (nmW x x.gv : Nat)) ∧ ∃ n, w' = w.drewN n := by
  have HAD := Shut.mk (fun k => quiet_b (congrArg (Value.int .i64) (rd_nm x x.gv)) (refadd_any (x.st : Nat) (x.gv : Nat) (w.drewN k) (by have := hi.st; omega) (by have := hi.gv; have := hi.sz; omega)))
  clear hi
  go_enter Tryd.func22, Tryd.ntmps22
  go_wp2_with (fail)
  go_quiet ((go_at_call 38; exact HAD.out _))
  go_wp2_with (fail)
  go_ret
  exact ⟨rfl, _, rfl⟩
set_option maxRecDepth 100000 in
set_option maxHeartbeats 8000000 in
theorem refdone_no (h : Nat) (v : Value) (x : Wo) (s : Int) (w : World) (hr : IsRw w h v x) (hi : InvW x) (hs : outB_ x s = false) :
    Calls Tryd.prog 18 #[.pointer (some ⟨h, 0, none⟩), .int .i64 s] w fun e w' => e = .returned (.int .i64 107) ∧ w = w' := by
  obtain ⟨-, -, -, c3⟩ := hr.cell
  obtain ⟨A, c, hv, hc, -⟩ := hr.row.form
  subst hv
  have HH := Shut.mk (refHas_any A _ c _ s w (hr.row.row (by rw [outI_len]; have := out_len hi; have := hi.gv; have := hi.sz; unfold maxLen; omega) (outI_wf x)))
  rw [out_has, hs] at HH
  generalize (outI x).length = l at *
  clear hr hi hs
  go_enter Tryd.func18, Tryd.ntmps18
  go_wp2_with (fail)
  refine HH.out.mono ?_
  rintro e wn ⟨rfl, rfl⟩
  go_wp2_with (fail)
  go_ret
  exact ⟨rfl, rfl⟩
set_option maxRecDepth 100000 in
set_option maxHeartbeats 8000000 in
theorem refdone_ok (h : Nat) (v : Value) (x : Wo) (d : Nat) (w : World) (hr : IsRw w h v x) (hi : InvW x) (hdm : d ∈ x.ds) :
    Calls Tryd.prog 18 #[.pointer (some ⟨h, 0, none⟩), .int .i64 (nmW x d : Nat)] w fun e w' => e = .returned (.int .i64 0) ∧ ∃ v', IsRw w' h v' (doneW x d) ∧ RwS w h v w' v' := by
  obtain ⟨-, -, -, c3⟩ := hr.cell
  obtain ⟨A, c, hv, hc, -⟩ := hr.row.form
  have HB := Shut.mk (show RowB .i64 w A (outI x).length (outI x) by
    have h1 := hr.row
    rw [hv] at h1
    exact h1.row (by rw [outI_len]; have := out_len hi; have := hi.gv; have := hi.sz; unfold maxLen; omega) (outI_wf x))
  have HV := Shut.mk hv
  rw [hv] at c3
  have HH := Shut.mk (refHas_any A _ c _ ((nmW x d : Nat) : Int) w HB.out)
  rw [out_has, show outB_ x ((nmW x d : Nat) : Int) = true by unfold outB_; rw [decide_eq_true_eq]; exact ⟨d, hdm, rfl⟩] at HH
  have HDL := Shut.mk (refdel_any A _ c _ ((nmW x d : Nat) : Int) w HB.out (by rw [outI_len]; have := out_len hi; have := hi.gv; have := hi.sz; omega))
  have HX := Shut.mk hr
  have HI := Shut.mk hi
  have HDM := Shut.mk hdm
  generalize (outI x).length = l at *
  clear hr hi hdm hc hv
  go_enter Tryd.func18, Tryd.ntmps18
  go_wp2_with (fail)
  refine HH.out.mono ?_
  rintro e wn ⟨rfl, rfl⟩
  go_wp2_with (fail)
  refine HDL.out.mono ?_
  rintro e w5 ⟨u, rfl, hu, huw, hb⟩
  have HU5 := Shut.mk hu
  have HUW := Shut.mk huw
  have HB5 := Shut.mk hb
  have HX5 := Shut.mk (HX.out.quiet hb)
  have HUH := Shut.mk (show ∀ k, u.ownBlock = some k → k ≠ h from fun k hk e => by
    have h1 := huw k hk
    have h2 := lt_blk HX.out.blk
    omega)
  clear hu huw hb c3
  have HBw6 := Shut.mk (setRow_heap w5 h _ #[.int .i64 ((x.st : Nat) : Int), .int .i64 ((x.gv : Nat) : Int), .int .i64 ((x.sz : Nat) : Int), u] _ (0, 0) HX5.out.blk)
  have HSw6 := Shut.mk (only_setRow w5 h #[.int .i64 ((x.st : Nat) : Int), .int .i64 ((x.gv : Nat) : Int), .int .i64 ((x.sz : Nat) : Int), u])
  obtain ⟨w6, hw6⟩ : ∃ w', w' = w5.setRow h #[.int .i64 ((x.st : Nat) : Int), .int .i64 ((x.gv : Nat) : Int), .int .i64 ((x.sz : Nat) : Int), u] := ⟨_, rfl⟩
  rw [← hw6] at HBw6 HSw6
  have HWw6 := Shut.mk hw6.symm
  clear hw6
  have c0 : w6.cell? ⟨h, 0, none⟩ = some (.int .i64 ((x.st : Nat) : Int)) := by simpa using (block_range HBw6.out) 0 _ rfl
  have c1 : w6.cell? ⟨h, 1, none⟩ = some (.int .i64 ((x.gv : Nat) : Int)) := by simpa using (block_range HBw6.out) 1 _ rfl
  have HAH := Shut.mk (refahead_at h x w6 c0 c1 HI.out)
  clear c0 c1
  go_wp2_with (refine wpList_store_into rfl 39 (.tmp 21) (.tmp 19) rfl h 3 u rfl rfl HU5.out.one 41 _ #[.int .i64 ((x.st : Nat) : Int), .int .i64 ((x.gv : Nat) : Int), .int .i64 ((x.sz : Nat) : Int), u] HX5.out.blk size1N (show 3 < 4 by decide) rfl ?_; rw [HWw6.out])
  refine HAH.out.mono ?_
  rintro e w8 ⟨rfl, n, hn⟩
  have HBw8 := Shut.mk (show w8.heap[h]? = some (.cells #[.int .i64 ((x.st : Nat) : Int), .int .i64 ((x.gv : Nat) : Int), .int .i64 ((x.sz : Nat) : Int), u] 41 (0, 0)) by rw [hn]; exact HBw6.out)
  have HO8 := Shut.mk (show Only (FootR h v) w w8 by
    have h1 : Only (FootR h v) w w6 := (Only.of_quiet (S := FootR h v) HB5.out).trans HSw6.out (fun i _ e => .inl e)
    rw [hn]
    exact h1.then_quiet (below_drewN (Below.refl _ _) n))
  have HU := Shut.mk (show RowN w8 u ((outI x).filter fun a => a != ((nmW x d : Nat) : Int)) by
    have h1 := HU5.out.only HSw6.out (fun k hk e => HUH.out k hk e)
    rw [hn]
    exact h1.only (S := fun _ => False) (Only.of_quiet (below_drewN (Below.refl _ _) n)) (fun _ _ e => e))
  clear hn HAH HH HDL
  have cc3 : w8.cell? ⟨h, 3, none⟩ = some u := by simpa using (block_range HBw8.out) 3 _ rfl
  obtain ⟨A2, c2, hu2, hcc, -⟩ := HU.out.form
  have hFl : ((outI x).filter fun a => a != ((nmW x d : Nat) : Int)) = outI (doneW x d) := (outI_done HI.out d HDM.out).symm
  have HLN := Shut.mk (show ((outI x).filter fun a => a != ((nmW x d : Nat) : Int)).length = (doneW x d).ds.length by rw [hFl, outI_len])
  have HRB := Shut.mk (show RowB .i64 w8 A2 ((outI x).filter fun a => a != ((nmW x d : Nat) : Int)).length ((outI x).filter fun a => a != ((nmW x d : Nat) : Int)) by
    have h1 := HU.out
    rw [hu2] at h1
    exact h1.row (by rw [hFl, outI_len]; have h3 := inv_done HI.out d; have := out_len h3; have := h3.gv; have := h3.sz; unfold maxLen; omega) (by rw [hFl]; exact outI_wf _))
  rw [hFl] at HRB
  rw [hu2, HLN.out] at cc3
  obtain ⟨F, hF⟩ : ∃ F, x.ds.filter (fun k => k != d) = F := ⟨_, rfl⟩
  have HFM := Shut.mk (front_le (w := x) (filter_up HI.out.up d) fun k hk => HI.out.lt k (List.mem_filter.1 hk).1)
  have hdl : (doneW x d).ds.length = F.length := by rw [← hF]; show (List.map _ _).length = _; rw [List.length_map]
  obtain ⟨fr, hfr⟩ : ∃ fr, fr = frontW x F := ⟨_, rfl⟩
  have HFE := Shut.mk (show fr = frontW x (x.ds.filter fun k => k != d) by rw [hF]; exact hfr)
  have HFR := Shut.mk (show fr ≤ x.gv by rw [HFE.out]; exact HFM.out.1)
  rw [outI_len] at HRB
  clear hFl hcc HFM
  cases F with
  | nil =>
    have hl0 : (doneW x d).ds.length = 0 := hdl
    rw [hl0] at cc3
    obtain rfl : fr = x.gv := hfr
    clear hl0 hdl hF hu2
    go_wp2_with (fail)
    obtain ⟨fr, hfr⟩ : ∃ fr, x.gv = fr := ⟨_, rfl⟩
    rw [show nmW x x.gv = nmW x fr by rw [hfr]]
    rw [hfr] at HFR HFE
    have HFR : Shut (fr ≤ x.gv) := ⟨by omega⟩
    clear hfr
    have HFL := Shut.mk (show fr < 4096 by have := HFR.out; have := HI.out.gv; have := HI.out.sz; omega)
    have HDR := Shut.mk (rd_dist x HI.out.st HFL.out)
    obtain ⟨gn, hgn⟩ : ∃ gn, gn = x.gv - fr := ⟨_, rfl⟩
    have HGN := Shut.mk hgn
    have y5 : IntKind.i64.wrap ((x.gv : Int) - (fr : Int)) = (gn : Int) := by rw [IntWalk.i64_in _ ⟨by have := HFR.out; omega, by have := HI.out.gv; have := HI.out.sz; omega⟩]; have := HFR.out; omega
    clear hgn
    have cc1 : w8.cell? ⟨h, 1, none⟩ = some (.int .i64 ((x.gv : Nat) : Int)) := by simpa using (block_range HBw8.out) 1 _ rfl
    have cc0 : w8.cell? ⟨h, 0, none⟩ = some (.int .i64 ((x.st : Nat) : Int)) := by simpa using (block_range HBw8.out) 0 _ rfl
    go_still_tail 14, (by kernel_rfl)
    still_call (still_same (refdist_any (x.st : Nat) (nmW x fr : Nat) _ (by have := HI.out.st; omega) (by have := nm_lt x fr; omega)))
    rw [HDR.out]
    repeat still_step
    refine wpStill_nil ?_
    change wpList _ _ _ _ _ (World.drewN w8 1)
    generalize hq : World.drewN w8 1 = w9
    have HBw9 := Shut.mk (show w9.heap[h]? = some (.cells #[.int .i64 ((x.st : Nat) : Int), .int .i64 ((x.gv : Nat) : Int), .int .i64 ((x.sz : Nat) : Int), u] 41 (0, 0)) from block_of hq HBw8.out)
    have HD9 := Shut.mk (show Below w8.heap.size w8 w9 by rw [← hq]; exact below_drewN (Below.refl _ _) _)
    clear hq cc1 cc0
    have HBwa := Shut.mk (setRow_heap w9 h _ #[.int .i64 ((x.st : Nat) : Int), .int .i64 ((gn : Nat) : Int), .int .i64 ((x.sz : Nat) : Int), u] _ (0, 0) HBw9.out)
    have HSwa := Shut.mk (only_setRow w9 h #[.int .i64 ((x.st : Nat) : Int), .int .i64 ((gn : Nat) : Int), .int .i64 ((x.sz : Nat) : Int), u])
    obtain ⟨wa, hwa⟩ : ∃ w', w' = w9.setRow h #[.int .i64 ((x.st : Nat) : Int), .int .i64 ((gn : Nat) : Int), .int .i64 ((x.sz : Nat) : Int), u] := ⟨_, rfl⟩
    rw [← hwa] at HBwa HSwa
    have HWwa := Shut.mk hwa.symm
    clear hwa
    have HBwb := Shut.mk (setRow_heap wa h _ #[.int .i64 ((nmW x fr : Nat) : Int), .int .i64 ((gn : Nat) : Int), .int .i64 ((x.sz : Nat) : Int), u] _ (0, 0) HBwa.out)
    have HSwb := Shut.mk (only_setRow wa h #[.int .i64 ((nmW x fr : Nat) : Int), .int .i64 ((gn : Nat) : Int), .int .i64 ((x.sz : Nat) : Int), u])
    obtain ⟨wb, hwb⟩ : ∃ w', w' = wa.setRow h #[.int .i64 ((nmW x fr : Nat) : Int), .int .i64 ((gn : Nat) : Int), .int .i64 ((x.sz : Nat) : Int), u] := ⟨_, rfl⟩
    rw [← hwb] at HBwb HSwb
    have HWwb := Shut.mk hwb.symm
    clear hwb
    refine wpList_store_into rfl 3 (.tmp 49) (.tmp 47) rfl h 1 (.int .i64 ((gn : Nat) : Int)) rfl rfl rfl 41 _ #[.int .i64 ((x.st : Nat) : Int), .int .i64 ((gn : Nat) : Int), .int .i64 ((x.sz : Nat) : Int), u] HBw9.out size1i (show 1 < 4 by decide) rfl ?_
    rw [HWwa.out]
    clear y5
    go_wp2_with (refine wpList_store_into rfl 3 (.tmp 53) (.tmp 51) rfl h 0 (.int .i64 ((nmW x fr : Nat) : Int)) rfl rfl rfl 41 _ #[.int .i64 ((nmW x fr : Nat) : Int), .int .i64 ((gn : Nat) : Int), .int .i64 ((x.sz : Nat) : Int), u] HBwa.out size1i (show 0 < 4 by decide) rfl ?_; rw [HWwb.out])
    go_ret
    have h1 : Only (FootR h v) w w8 := HO8.out
    have h2 : Only (FootR h v) w w9 := h1.then_quiet HD9.out
    have h3 : Only (FootR h v) w wa := h2.trans HSwa.out (fun i _ e => .inl e)
    have h4 : Only (FootR h v) w wb := h3.trans HSwb.out (fun i _ e => .inl e)
    refine ⟨rfl, u, ⟨?_, ?_, HUH.out⟩, h4, fun k hk => ?_⟩
    · obtain ⟨S1, -, -, -⟩ := done_cells HI.out d
      have hb := HBwb.out
      show _ = some (Obj.cells #[.int .i64 (((doneW x d).st : Nat) : Int), .int .i64 (((doneW x d).gv : Nat) : Int), .int .i64 ((x.sz : Nat) : Int), u] 41 (0, 0))
      have e2 : (doneW x d).gv = gn := by show x.gv - frontW x (x.ds.filter fun k => k != d) = gn; rw [← HFE.out, HGN.out]
      rw [S1.out, e2, ← HFE.out]
      exact hb
    · have hu := HU.out.only (HD9.out |> fun b => (Only.of_quiet (S := (· = h)) b).trans HSwa.out (fun i _ e => e) |>.trans HSwb.out (fun i _ e => e)) (fun k hk e => HUH.out k hk e)
      rw [← outI_done HI.out d HDM.out] at hu
      exact hu
    · rcases hk with rfl | hk
      · exact .inl (.inl rfl)
      · exact .inr (HUW.out k hk)
  | cons f r =>
    obtain rfl : fr = f := hfr
    have hl0 : 0 < (doneW x d).ds.length := by rw [hdl]; exact Nat.succ_pos _
    obtain ⟨b4, off4, rfl, hc0⟩ := HRB.out.el 0 hl0
    have e0 : (outI (doneW x d)).getD 0 0 = ((nmW x fr : Nat) : Int) := by
      rw [outI_done HI.out d HDM.out]
      unfold outI
      rw [List.filter_map]
      have e9 : x.ds.filter ((fun a => a != ((nmW x d : Nat) : Int)) ∘ fun d => ((nmW x d : Nat) : Int)) = fr :: r := by
        rw [← hF]
        refine List.filter_congr fun c hc => ?_
        have h1 := HI.out.lts c hc
        have h2 := HI.out.lts d HDM.out
        rw [Bool.eq_iff_iff]
        simp only [bne_iff_ne, ne_eq, Function.comp]
        constructor
        · intro h e; subst e; exact h rfl
        · intro h e; exact h (nm_inj (w := x) (by omega) (by omega) (by omega))
      rw [e9]
      rfl
    rw [e0, Nat.add_zero] at hc0
    generalize (doneW x d).ds.length = l2 at *
    have hl2 : (0 : Int) < (l2 : Int) := by omega
    clear e0 hdl hF hu2
    go_wp2_with (fail)
    have HFL := Shut.mk (show fr < 4096 by have := HFR.out; have := HI.out.gv; have := HI.out.sz; omega)
    have HDR := Shut.mk (rd_dist x HI.out.st HFL.out)
    obtain ⟨gn, hgn⟩ : ∃ gn, gn = x.gv - fr := ⟨_, rfl⟩
    have HGN := Shut.mk hgn
    have y5 : IntKind.i64.wrap ((x.gv : Int) - (fr : Int)) = (gn : Int) := by rw [IntWalk.i64_in _ ⟨by have := HFR.out; omega, by have := HI.out.gv; have := HI.out.sz; omega⟩]; have := HFR.out; omega
    clear hgn
    have cc1 : w8.cell? ⟨h, 1, none⟩ = some (.int .i64 ((x.gv : Nat) : Int)) := by simpa using (block_range HBw8.out) 1 _ rfl
    have cc0 : w8.cell? ⟨h, 0, none⟩ = some (.int .i64 ((x.st : Nat) : Int)) := by simpa using (block_range HBw8.out) 0 _ rfl
    go_still_tail 14, (by kernel_rfl)
    still_call (still_same (refdist_any (x.st : Nat) (nmW x fr : Nat) _ (by have := HI.out.st; omega) (by have := nm_lt x fr; omega)))
    rw [HDR.out]
    repeat still_step
    refine wpStill_nil ?_
    change wpList _ _ _ _ _ (World.drewN w8 1)
    generalize hq : World.drewN w8 1 = w9
    have HBw9 := Shut.mk (show w9.heap[h]? = some (.cells #[.int .i64 ((x.st : Nat) : Int), .int .i64 ((x.gv : Nat) : Int), .int .i64 ((x.sz : Nat) : Int), u] 41 (0, 0)) from block_of hq HBw8.out)
    have HD9 := Shut.mk (show Below w8.heap.size w8 w9 by rw [← hq]; exact below_drewN (Below.refl _ _) _)
    clear hq cc1 cc0
    have HBwa := Shut.mk (setRow_heap w9 h _ #[.int .i64 ((x.st : Nat) : Int), .int .i64 ((gn : Nat) : Int), .int .i64 ((x.sz : Nat) : Int), u] _ (0, 0) HBw9.out)
    have HSwa := Shut.mk (only_setRow w9 h #[.int .i64 ((x.st : Nat) : Int), .int .i64 ((gn : Nat) : Int), .int .i64 ((x.sz : Nat) : Int), u])
    obtain ⟨wa, hwa⟩ : ∃ w', w' = w9.setRow h #[.int .i64 ((x.st : Nat) : Int), .int .i64 ((gn : Nat) : Int), .int .i64 ((x.sz : Nat) : Int), u] := ⟨_, rfl⟩
    rw [← hwa] at HBwa HSwa
    have HWwa := Shut.mk hwa.symm
    clear hwa
    have HBwb := Shut.mk (setRow_heap wa h _ #[.int .i64 ((nmW x fr : Nat) : Int), .int .i64 ((gn : Nat) : Int), .int .i64 ((x.sz : Nat) : Int), u] _ (0, 0) HBwa.out)
    have HSwb := Shut.mk (only_setRow wa h #[.int .i64 ((nmW x fr : Nat) : Int), .int .i64 ((gn : Nat) : Int), .int .i64 ((x.sz : Nat) : Int), u])
    obtain ⟨wb, hwb⟩ : ∃ w', w' = wa.setRow h #[.int .i64 ((nmW x fr : Nat) : Int), .int .i64 ((gn : Nat) : Int), .int .i64 ((x.sz : Nat) : Int), u] := ⟨_, rfl⟩
    rw [← hwb] at HBwb HSwb
    have HWwb := Shut.mk hwb.symm
    clear hwb
    refine wpList_store_into rfl 3 (.tmp 49) (.tmp 47) rfl h 1 (.int .i64 ((gn : Nat) : Int)) rfl rfl rfl 41 _ #[.int .i64 ((x.st : Nat) : Int), .int .i64 ((gn : Nat) : Int), .int .i64 ((x.sz : Nat) : Int), u] HBw9.out size1i (show 1 < 4 by decide) rfl ?_
    rw [HWwa.out]
    clear y5
    go_wp2_with (refine wpList_store_into rfl 3 (.tmp 53) (.tmp 51) rfl h 0 (.int .i64 ((nmW x fr : Nat) : Int)) rfl rfl rfl 41 _ #[.int .i64 ((nmW x fr : Nat) : Int), .int .i64 ((gn : Nat) : Int), .int .i64 ((x.sz : Nat) : Int), u] HBwa.out size1i (show 0 < 4 by decide) rfl ?_; rw [HWwb.out])
    go_ret
    have h1 : Only (FootR h v) w w8 := HO8.out
    have h2 : Only (FootR h v) w w9 := h1.then_quiet HD9.out
    have h3 : Only (FootR h v) w wa := h2.trans HSwa.out (fun i _ e => .inl e)
    have h4 : Only (FootR h v) w wb := h3.trans HSwb.out (fun i _ e => .inl e)
    refine ⟨rfl, u, ⟨?_, ?_, HUH.out⟩, h4, fun k hk => ?_⟩
    · obtain ⟨S1, -, -, -⟩ := done_cells HI.out d
      have hb := HBwb.out
      show _ = some (Obj.cells #[.int .i64 (((doneW x d).st : Nat) : Int), .int .i64 (((doneW x d).gv : Nat) : Int), .int .i64 ((x.sz : Nat) : Int), u] 41 (0, 0))
      have e2 : (doneW x d).gv = gn := by show x.gv - frontW x (x.ds.filter fun k => k != d) = gn; rw [← HFE.out, HGN.out]
      rw [S1.out, e2, ← HFE.out]
      exact hb
    · have hu := HU.out.only (HD9.out |> fun b => (Only.of_quiet (S := (· = h)) b).trans HSwa.out (fun i _ e => e) |>.trans HSwb.out (fun i _ e => e)) (fun k hk e => HUH.out k hk e)
      rw [← outI_done HI.out d HDM.out] at hu
      exact hu
    · rcases hk with rfl | hk
      · exact .inl (.inl rfl)
      · exact .inr (HUW.out k hk)
end Go.Proofs.YtempcbjojcebaaaDoor
