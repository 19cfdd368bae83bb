/-
  CONTRACTS of ba's End (it ends), Lost, Barred.
-/
import Derived.Test.YtlbfioknkagboaaDoorSeH
namespace Go.Proofs.YtlbfioknkagboaaDoor
open Go.ChangeShapes Go.WideShapes Go.ChangeAt Go.RowKit Go.Deep
set_option linter.unusedVariables false
set_option linter.unusedSimpArgs false

section
variable {B : Nat} {w : World} {p : Sp} {s : Sb}
set_option maxRecDepth 100000 in
set_option maxHeartbeats 4000000 in
theorem end_ok (h : IsSe B w p s) (hi : InvB s) (hs : s.state ≠ 1) (hl : s.l = []) :
    Calls Tryd.prog 30 #[.pointer (some ⟨p.g, 0, none⟩)] w fun e w' => e = .returned .nilIface ∧ IsSe B w' p { s with state := 1, x := newW s.x.st 1, ask := false, fr := 0, vain := 0 } ∧ Only (FootS p) w w' := by
  obtain ⟨-, -, -, c3, -, c5, -⟩ := h.cells
  have HSE := Shut.mk h
  have HXE := Shut.mk (show s.x = newW s.x.st s.x.sz by
    have h5 := hi.inv
    rw [hl] at h5
    have h6 := h5.start_nil
    cases hx : s.x with
    | mk a b c d => rw [hx] at h6; dsimp only at h6; rw [h6.1, h6.2]; rfl)
  have HRS := Shut.mk (resize_ok p.gw s.x 1 w h.win (by decide) (by have h5 := hi.inv; rw [hl] at h5; exact h5.start_nil.2))
  have h3 : (((s.state : Nat) : Int) == 1) = false := by simp; omega
  clear h hi hl
  go_enter Tryd.func30, Tryd.ntmps30
  go_wp2_with (fail)
  refine HRS.out.mono ?_
  rintro e w1 ⟨rfl, hx, ho⟩
  rw [HXE.out] at hx
  have HX := Shut.mk hx
  have HO := Shut.mk ho
  have HB1 := Shut.mk (show w1.heap[p.g]? = some (.cells #[.int .i64 ((s.size : Nat) : Int), .int .i64 ((s.retry : Nat) : Int), .int .i64 s.life, .int .i64 ((s.state : Nat) : Int), .int .i64 s.token, .pointer (some ⟨p.gw, 0, none⟩), p.v, .bool s.ask, .int .i64 ((s.fr : Nat) : Int), .int .i64 ((s.vain : Nat) : Int)] 80 (0, 0)) from ho.at_ HSE.out.blk HSE.out.ne)
  clear hx ho h3 hs
  have HBwa := Shut.mk (setRow_heap w1 p.g _ #[.int .i64 ((s.size : Nat) : Int), .int .i64 ((s.retry : Nat) : Int), .int .i64 s.life, .int .i64 1, .int .i64 s.token, .pointer (some ⟨p.gw, 0, none⟩), p.v, .bool s.ask, .int .i64 ((s.fr : Nat) : Int), .int .i64 ((s.vain : Nat) : Int)] _ (0, 0) HB1.out)
  have HOwa := Shut.mk (only_setRow w1 p.g #[.int .i64 ((s.size : Nat) : Int), .int .i64 ((s.retry : Nat) : Int), .int .i64 s.life, .int .i64 1, .int .i64 s.token, .pointer (some ⟨p.gw, 0, none⟩), p.v, .bool s.ask, .int .i64 ((s.fr : Nat) : Int), .int .i64 ((s.vain : Nat) : Int)])
  obtain ⟨wa, hwa⟩ : ∃ wa, wa = w1.setRow p.g #[.int .i64 ((s.size : Nat) : Int), .int .i64 ((s.retry : Nat) : Int), .int .i64 s.life, .int .i64 1, .int .i64 s.token, .pointer (some ⟨p.gw, 0, none⟩), p.v, .bool s.ask, .int .i64 ((s.fr : Nat) : Int), .int .i64 ((s.vain : Nat) : Int)] := ⟨_, rfl⟩
  rw [← hwa] at HBwa HOwa
  have HWwa := Shut.mk hwa.symm
  clear hwa
  have HBwb := Shut.mk (setRow_heap wa p.g _ #[.int .i64 ((s.size : Nat) : Int), .int .i64 ((s.retry : Nat) : Int), .int .i64 s.life, .int .i64 1, .int .i64 s.token, .pointer (some ⟨p.gw, 0, none⟩), p.v, .bool false, .int .i64 0, .int .i64 0] _ (0, 0) HBwa.out)
  have HOwb := Shut.mk (only_setRow wa p.g #[.int .i64 ((s.size : Nat) : Int), .int .i64 ((s.retry : Nat) : Int), .int .i64 s.life, .int .i64 1, .int .i64 s.token, .pointer (some ⟨p.gw, 0, none⟩), p.v, .bool false, .int .i64 0, .int .i64 0])
  obtain ⟨wb, hwb⟩ : ∃ wb, wb = wa.setRow p.g #[.int .i64 ((s.size : Nat) : Int), .int .i64 ((s.retry : Nat) : Int), .int .i64 s.life, .int .i64 1, .int .i64 s.token, .pointer (some ⟨p.gw, 0, none⟩), p.v, .bool false, .int .i64 0, .int .i64 0] := ⟨_, rfl⟩
  rw [← hwb] at HBwb HOwb
  have HWwb := Shut.mk hwb.symm
  clear hwb
  have HB2' := Shut.mk (show wa.heap[p.g]? = some (.cells ((([.int .i64 ((s.size : Nat) : Int), .int .i64 ((s.retry : Nat) : Int), .int .i64 s.life, .int .i64 1, .int .i64 s.token, .pointer (some ⟨p.gw, 0, none⟩), p.v] : List Value)) ++ ([.bool s.ask, .int .i64 ((s.fr : Nat) : Int), .int .i64 ((s.vain : Nat) : Int)] : List Value) ++ []).toArray 80 (0, 0)) from HBwa.out)
  go_wp2_with (first
    | (refine wpList_store_into rfl 3 (.tmp 22) (.const (.int .i64 1)) rfl p.g 3 (.int .i64 1) rfl rfl rfl 80 _ #[.int .i64 ((s.size : Nat) : Int), .int .i64 ((s.retry : Nat) : Int), .int .i64 s.life, .int .i64 1, .int .i64 s.token, .pointer (some ⟨p.gw, 0, none⟩), p.v, .bool s.ask, .int .i64 ((s.fr : Nat) : Int), .int .i64 ((s.vain : Nat) : Int)] HB1.out size1i (by show 3 < 10; omega) rfl ?_; rw [HWwa.out])
    | (refine wpList_store_part rfl 78 (.tmp 24) (.tmp 20) rfl p.g 7 (.agg #[.bool false, .int .i64 0, .int .i64 0]) rfl rfl 80 ([.int .i64 ((s.size : Nat) : Int), .int .i64 ((s.retry : Nat) : Int), .int .i64 s.life, .int .i64 1, .int .i64 s.token, .pointer (some ⟨p.gw, 0, none⟩), p.v] : List Value) ([.bool s.ask, .int .i64 ((s.fr : Nat) : Int), .int .i64 ((s.vain : Nat) : Int)] : List Value) ([.bool false, .int .i64 0, .int .i64 0] : List Value) [] HB2'.out rfl rfl rfl sizeQ (by intro u hu; simp only [List.mem_cons, List.not_mem_nil, or_false] at hu; rcases hu with rfl | rfl | rfl <;> rfl) ?_; generalize hq9 : World.setRow wa p.g _ = w9; obtain rfl : wb = w9 := HWwb.out.symm.trans hq9; clear hq9))
  go_ret
  have q1 : Only (· = p.g) w1 wb := HOwa.out.trans HOwb.out fun i _ e => e
  have q2 : Only (fun j => j = p.g ∨ j = p.gw) w wb := (HO.out.mono (T := fun j => j = p.g ∨ j = p.gw) fun i _ e => .inr e).trans q1 fun i _ e => .inl e
  refine ⟨rfl, ⟨?_, ?_, own_only HSE.out.row q2 (fun g hg e => by rcases e with e | e; exact (HSE.out.ng g hg).1 e; exact (HSE.out.ng g hg).2 e), HSE.out.ne, HSE.out.ng, HSE.out.lo⟩, q2.mono fun i _ e => by rcases e with e | e; exact .inl e; exact .inr (.inl e)⟩
  · exact HBwb.out
  · exact HX.out.only q1 (fun e => HSE.out.ne e.symm)

/-! ### Lost -/
set_option maxRecDepth 100000 in
set_option maxHeartbeats 4000000 in
theorem lost_ok (h : IsSe B w p s) (hi : InvB s) (hf : s.l.any flyP = true) :
    Calls Tryd.prog 23 #[.pointer (some ⟨p.g, 0, none⟩)] w fun e w' => e = .returned .nilIface ∧ IsSe B w' p { s with l := lostL s.l } ∧ Only (FootS p) w w' := by
  have HSE := Shut.mk h
  have HI := Shut.mk hi
  have HF := Shut.mk (somefly_any h hi)
  rw [hf] at HF
  clear h hi hf
  go_enter Tryd.func23, Tryd.ntmps23
  go_wp2_with (fail)
  refine HF.out.mono ?_
  rintro e w1 ⟨rfl, hb⟩
  have HB1 := Shut.mk hb
  clear hb
  go_wp2_with (fail)
  refine (land_any (HSE.out.below HB1.out) HI.out.len).mono ?_
  rintro e w2 ⟨rfl, hs2, ho2⟩
  have HS2 := Shut.mk hs2
  have HO2 := Shut.mk ho2
  clear hs2 ho2
  go_wp2_with (fail)
  go_ret
  exact ⟨rfl, HS2.out, (show Only (FootS p) w w1 from Only.of_quiet HB1.out).trans HO2.out fun i _ e => e⟩
set_option maxRecDepth 100000 in
set_option maxHeartbeats 4000000 in
theorem lost_no (h : IsSe B w p s) (hi : InvB s) (hf : s.l.any flyP = false) (E : Nat → Addr) (he : w.cell? ⟨1, 0, none⟩ = some (errP (E 110))) :
    Calls Tryd.prog 23 #[.pointer (some ⟨p.g, 0, none⟩)] w fun e w' => e = .returned (errP (E 110)) ∧ Below w.heap.size w w' := by
  generalize E 110 = er at *
  have HF := Shut.mk (somefly_any h hi)
  rw [hf] at HF
  clear h hi hf
  go_enter Tryd.func23, Tryd.ntmps23
  go_wp2_with (fail)
  refine HF.out.mono ?_
  rintro e w1 ⟨rfl, hb⟩
  have he1 := below_at hb he
  have HB1 := Shut.mk hb
  clear hb he
  go_wp2_with (fail)
  go_ret
  exact ⟨rfl, HB1.out⟩

/-! ### Barred -/
def barC (s : Sb) (done : Bool) : Sb := if s.ask = true then (if (done || decide (s.retry < s.vain + 1)) = true then { s with ask := false, fr := 0, vain := 0 } else { s with vain := s.vain + 1 }) else s
set_option maxRecDepth 100000 in
set_option maxHeartbeats 4000000 in
theorem barred_any (h : IsSe B w p s) (hv : s.vain ≤ 1000) (hr : s.retry ≤ 1000) (done : Bool) :
    Calls Tryd.prog 24 #[.pointer (some ⟨p.g, 0, none⟩), .bool done] w fun e w' => e = .returned (.tuple #[]) ∧ IsSe B w' p (barC s done) ∧ Only (FootS p) w w' := by
  obtain ⟨-, c1, -, -, -, -, -, c7, -, c9⟩ := h.cells
  have HSE := Shut.mk h
  cases ha : s.ask with
  | false =>
    have HBC := Shut.mk (show barC s done = s by unfold barC; rw [if_neg (by rw [ha]; simp)])
    rw [ha] at c7
    clear ha h
    go_enter Tryd.func24, Tryd.ntmps24
    go_wp2_with (fail)
    try simp only [Exit.inBlock, Exit.then]
    refine bodyPost_ret (results_none rfl _ _ _) rfl ?_
    exact ⟨rfl, by rw [HBC.out]; exact HSE.out, Only.refl _ _⟩
  | true =>
    rw [ha] at c7
    have HBw := Shut.mk (show w.heap[p.g]? = some (.cells #[.int .i64 ((s.size : Nat) : Int), .int .i64 ((s.retry : Nat) : Int), .int .i64 s.life, .int .i64 ((s.state : Nat) : Int), .int .i64 s.token, .pointer (some ⟨p.gw, 0, none⟩), p.v, .bool s.ask, .int .i64 ((s.fr : Nat) : Int), .int .i64 ((s.vain : Nat) : Int)] 80 (0, 0)) from h.blk)
    have HAK := Shut.mk ha
    obtain ⟨v1, hv1⟩ : ∃ v1 : Nat, v1 = s.vain + 1 := ⟨_, rfl⟩
    have HV1 := Shut.mk hv1
    have hwr : IntKind.i64.wrap (((s.vain : Nat) : Int) + 1) = ((v1 : Nat) : Int) := by rw [IntWalk.i64_in _ ⟨by omega, by omega⟩]; omega
    have hw9 : ((s.vain : Nat) : Int) + 1 = ((v1 : Nat) : Int) := by omega
    clear ha h hv1
    have HBwa := Shut.mk (setRow_heap w p.g _ #[.int .i64 ((s.size : Nat) : Int), .int .i64 ((s.retry : Nat) : Int), .int .i64 s.life, .int .i64 ((s.state : Nat) : Int), .int .i64 s.token, .pointer (some ⟨p.gw, 0, none⟩), p.v, .bool s.ask, .int .i64 ((s.fr : Nat) : Int), .int .i64 ((v1 : Nat) : Int)] _ (0, 0) HBw.out)
    have HOwa := Shut.mk (only_setRow w p.g #[.int .i64 ((s.size : Nat) : Int), .int .i64 ((s.retry : Nat) : Int), .int .i64 s.life, .int .i64 ((s.state : Nat) : Int), .int .i64 s.token, .pointer (some ⟨p.gw, 0, none⟩), p.v, .bool s.ask, .int .i64 ((s.fr : Nat) : Int), .int .i64 ((v1 : Nat) : Int)])
    obtain ⟨wa, hwa⟩ : ∃ wa, wa = w.setRow p.g #[.int .i64 ((s.size : Nat) : Int), .int .i64 ((s.retry : Nat) : Int), .int .i64 s.life, .int .i64 ((s.state : Nat) : Int), .int .i64 s.token, .pointer (some ⟨p.gw, 0, none⟩), p.v, .bool s.ask, .int .i64 ((s.fr : Nat) : Int), .int .i64 ((v1 : Nat) : Int)] := ⟨_, rfl⟩
    rw [← hwa] at HBwa HOwa
    have HWwa := Shut.mk hwa.symm
    clear hwa
    have d1 : wa.cell? ⟨p.g, 1, none⟩ = some (.int .i64 ((s.retry : Nat) : Int)) := by have h9 := block_range HBwa.out 1 _ rfl; rw [Nat.zero_add] at h9; exact h9
    have d9 : wa.cell? ⟨p.g, 9, none⟩ = some (.int .i64 ((v1 : Nat) : Int)) := by have h9 := block_range HBwa.out 9 _ rfl; rw [Nat.zero_add] at h9; exact h9
    by_cases hd : done = true ∨ s.retry < v1
    · have HBC := Shut.mk (show barC s done = { s with ask := false, fr := 0, vain := 0 } by
        unfold barC
        rw [if_pos HAK.out, if_pos]
        have := HV1.out
        rcases hd with hd | hd
        · rw [hd]; rfl
        · rw [decide_eq_true (by omega : s.retry < s.vain + 1)]; simp)
      rcases hd with hd | hd
      · subst hd
        go_enter Tryd.func24, Tryd.ntmps24
        go_wp2_with (first
          | (refine wpList_store_into rfl 3 (.tmp 18) (.tmp 15) rfl p.g 9 (.int .i64 ((v1 : Nat) : Int)) rfl rfl rfl 80 _ #[.int .i64 ((s.size : Nat) : Int), .int .i64 ((s.retry : Nat) : Int), .int .i64 s.life, .int .i64 ((s.state : Nat) : Int), .int .i64 s.token, .pointer (some ⟨p.gw, 0, none⟩), p.v, .bool s.ask, .int .i64 ((s.fr : Nat) : Int), .int .i64 ((v1 : Nat) : Int)] HBw.out size1i (by show 9 < 10; omega) rfl ?_; rw [HWwa.out]))
        obtain ⟨wq, hwq⟩ : ∃ wq, wq = World.drew wa := ⟨_, rfl⟩
        have HWQ := Shut.mk hwq
        have HQ := Shut.mk (show Below wa.heap.size wa wq by rw [hwq]; exact (Below.refl _ _).drew)
        have HBq := Shut.mk ((HQ.out.block _ (lt_blk HBwa.out)).trans HBwa.out)
        have D9 := Shut.mk (show wq.cell? ⟨p.g, 9, none⟩ = some (.int .i64 ((v1 : Nat) : Int)) from by have h9 := block_range HBq.out 9 _ rfl; rw [Nat.zero_add] at h9; exact h9)
        have D1 := Shut.mk (show wq.cell? ⟨p.g, 1, none⟩ = some (.int .i64 ((s.retry : Nat) : Int)) from by have h9 := block_range HBq.out 1 _ rfl; rw [Nat.zero_add] at h9; exact h9)
        clear hwq d1 d9
        refine wp_region_D (fun w' => wq = w') 12 (by kernel_rfl) HWQ.out (fun hHeld hC => ?_)
        rw [← HWQ.out] at hHeld ⊢
        refine wpAnyD_pure (i := 0) (v := ?_) rfl hC (by kernel_rfl) (by kernel_rfl) (by kernel_rfl) (by decide) (fun _ _ _ h => h) (Or.inl ⟨by rfl, ?_⟩) (fun _ => hHeld) ?_
        rotate_left
        · intro w hSw
          clear hSw
          go_simp
          try with_reducible rfl
        try simp only [Act.put, List.getElem_toArray, List.getElem_cons_zero, List.getElem_cons_succ, List.setIfInBounds_toArray, List.set_cons_zero, List.set_cons_succ]
        clear hC
        intro hC
        refine wpAnyD_pure (i := 1) (v := ?_) rfl hC (by kernel_rfl) (by kernel_rfl) (by kernel_rfl) (by decide) (fun _ _ _ h => h) (Or.inl ⟨by rfl, ?_⟩) (fun _ => hHeld) ?_
        rotate_left
        · intro w hSw
          clear hSw
          go_simp
          try with_reducible rfl
        try simp only [Act.put, List.getElem_toArray, List.getElem_cons_zero, List.getElem_cons_succ, List.setIfInBounds_toArray, List.set_cons_zero, List.set_cons_succ]
        clear hC
        intro hC
        refine wpAnyD_pure (i := 2) (v := undef) rfl hC (by kernel_rfl) (by kernel_rfl) (by kernel_rfl) (by decide) (fun _ _ _ h => h) (Or.inr ⟨by rfl, rfl⟩) (fun _ => hHeld) ?_
        try simp only [Act.put, List.getElem_toArray, List.getElem_cons_zero, List.getElem_cons_succ, List.setIfInBounds_toArray, List.set_cons_zero, List.set_cons_succ]
        clear hC
        intro hC
        refine wpAnyD_pure (i := 3) (v := undef) rfl hC (by kernel_rfl) (by kernel_rfl) (by kernel_rfl) (by decide) (fun _ _ _ h => h) (Or.inr ⟨by rfl, rfl⟩) (fun _ => hHeld) ?_
        try simp only [Act.put, List.getElem_toArray, List.getElem_cons_zero, List.getElem_cons_succ, List.setIfInBounds_toArray, List.set_cons_zero, List.set_cons_succ]
        clear hC
        intro hC
        refine wpAnyD_pure (i := 4) (v := undef) rfl hC (by kernel_rfl) (by kernel_rfl) (by kernel_rfl) (by decide) (fun _ _ _ h => h) (Or.inr ⟨by rfl, rfl⟩) (fun _ => hHeld) ?_
        try simp only [Act.put, List.getElem_toArray, List.getElem_cons_zero, List.getElem_cons_succ, List.setIfInBounds_toArray, List.set_cons_zero, List.set_cons_succ]
        clear hC
        intro hC
        refine wpAnyD_pure (i := 5) (v := undef) rfl hC (by kernel_rfl) (by kernel_rfl) (by kernel_rfl) (by decide) (fun _ _ _ h => h) (Or.inr ⟨by rfl, rfl⟩) (fun _ => hHeld) ?_
        try simp only [Act.put, List.getElem_toArray, List.getElem_cons_zero, List.getElem_cons_succ, List.setIfInBounds_toArray, List.set_cons_zero, List.set_cons_succ]
        clear hC
        intro hC
        refine wpAnyD_pure (i := 6) (v := undef) rfl hC (by kernel_rfl) (by kernel_rfl) (by kernel_rfl) (by decide) (fun _ _ _ h => h) (Or.inr ⟨by rfl, rfl⟩) (fun _ => hHeld) ?_
        try simp only [Act.put, List.getElem_toArray, List.getElem_cons_zero, List.getElem_cons_succ, List.setIfInBounds_toArray, List.set_cons_zero, List.set_cons_succ]
        clear hC
        intro hC
        refine wpAnyD_pure (i := 7) (v := undef) rfl hC (by kernel_rfl) (by kernel_rfl) (by kernel_rfl) (by decide) (fun _ _ _ h => h) (Or.inr ⟨by rfl, rfl⟩) (fun _ => hHeld) ?_
        try simp only [Act.put, List.getElem_toArray, List.getElem_cons_zero, List.getElem_cons_succ, List.setIfInBounds_toArray, List.set_cons_zero, List.set_cons_succ]
        clear hC
        intro hC
        refine wpAnyD_pure (i := 8) (v := undef) rfl hC (by kernel_rfl) (by kernel_rfl) (by kernel_rfl) (by decide) (fun _ _ _ h => h) (Or.inr ⟨by rfl, rfl⟩) (fun _ => hHeld) ?_
        try simp only [Act.put, List.getElem_toArray, List.getElem_cons_zero, List.getElem_cons_succ, List.setIfInBounds_toArray, List.set_cons_zero, List.set_cons_succ]
        clear hC
        intro hC
        refine wpAnyD_pure (i := 9) (v := undef) rfl hC (by kernel_rfl) (by kernel_rfl) (by kernel_rfl) (by decide) (fun _ _ _ h => h) (Or.inr ⟨by rfl, rfl⟩) (fun _ => hHeld) ?_
        try simp only [Act.put, List.getElem_toArray, List.getElem_cons_zero, List.getElem_cons_succ, List.setIfInBounds_toArray, List.set_cons_zero, List.set_cons_succ]
        clear hC
        intro hC
        refine wpAnyD_pure (i := 10) (v := undef) rfl hC (by kernel_rfl) (by kernel_rfl) (by kernel_rfl) (by decide) (fun _ _ _ h => h) (Or.inr ⟨by rfl, rfl⟩) (fun _ => hHeld) ?_
        try simp only [Act.put, List.getElem_toArray, List.getElem_cons_zero, List.getElem_cons_succ, List.setIfInBounds_toArray, List.set_cons_zero, List.set_cons_succ]
        clear hC
        intro hC
        refine wpAnyD_pure (i := 11) (v := undef) rfl hC (by kernel_rfl) (by kernel_rfl) (by kernel_rfl) (by decide) (fun _ _ _ h => h) (Or.inr ⟨by rfl, rfl⟩) (fun _ => hHeld) ?_
        try simp only [Act.put, List.getElem_toArray, List.getElem_cons_zero, List.getElem_cons_succ, List.setIfInBounds_toArray, List.set_cons_zero, List.set_cons_succ]
        clear hC
        intro hC
        refine wpAnyD_one (i := 12) (by kernel_rfl) rfl hC (fun K hK => ?_)
        clear hC
        go_simp
        refine hK.out _ _ (past (by kernel_rfl)) (fun hC => ?_)
        clear hK K
        try simp only [Act.put, List.getElem_toArray, List.getElem_cons_zero, List.getElem_cons_succ, List.setIfInBounds_toArray, List.set_cons_zero, List.set_cons_succ]
        refine wpAnyD_done (by kernel_rfl) ?_ _
        try simp only [Act.put, List.getElem_toArray, List.getElem_cons_zero, List.getElem_cons_succ, List.setIfInBounds_toArray, List.set_cons_zero, List.set_cons_succ]
        try clear hC hHeld
        have HBwb := Shut.mk (setRow_heap wq p.g _ #[.int .i64 ((s.size : Nat) : Int), .int .i64 ((s.retry : Nat) : Int), .int .i64 s.life, .int .i64 ((s.state : Nat) : Int), .int .i64 s.token, .pointer (some ⟨p.gw, 0, none⟩), p.v, .bool false, .int .i64 0, .int .i64 0] _ (0, 0) HBq.out)
        have HOwb := Shut.mk (only_setRow wq p.g #[.int .i64 ((s.size : Nat) : Int), .int .i64 ((s.retry : Nat) : Int), .int .i64 s.life, .int .i64 ((s.state : Nat) : Int), .int .i64 s.token, .pointer (some ⟨p.gw, 0, none⟩), p.v, .bool false, .int .i64 0, .int .i64 0])
        obtain ⟨wb, hwb⟩ : ∃ wb, wb = wq.setRow p.g #[.int .i64 ((s.size : Nat) : Int), .int .i64 ((s.retry : Nat) : Int), .int .i64 s.life, .int .i64 ((s.state : Nat) : Int), .int .i64 s.token, .pointer (some ⟨p.gw, 0, none⟩), p.v, .bool false, .int .i64 0, .int .i64 0] := ⟨_, rfl⟩
        rw [← hwb] at HBwb HOwb
        have HWwb := Shut.mk hwb.symm
        clear hwb
        have HBq' := Shut.mk (show wq.heap[p.g]? = some (.cells ((([.int .i64 ((s.size : Nat) : Int), .int .i64 ((s.retry : Nat) : Int), .int .i64 s.life, .int .i64 ((s.state : Nat) : Int), .int .i64 s.token, .pointer (some ⟨p.gw, 0, none⟩), p.v] : List Value)) ++ ([.bool s.ask, .int .i64 ((s.fr : Nat) : Int), .int .i64 ((v1 : Nat) : Int)] : List Value) ++ []).toArray 80 (0, 0)) from HBq.out)
        go_wp2_with (first
          | (refine wpList_store_part rfl 78 (.tmp 35) (.tmp 33) rfl p.g 7 (.agg #[.bool false, .int .i64 0, .int .i64 0]) rfl rfl 80 ([.int .i64 ((s.size : Nat) : Int), .int .i64 ((s.retry : Nat) : Int), .int .i64 s.life, .int .i64 ((s.state : Nat) : Int), .int .i64 s.token, .pointer (some ⟨p.gw, 0, none⟩), p.v] : List Value) ([.bool s.ask, .int .i64 ((s.fr : Nat) : Int), .int .i64 ((v1 : Nat) : Int)] : List Value) ([.bool false, .int .i64 0, .int .i64 0] : List Value) [] HBq'.out rfl rfl rfl sizeQ (by intro u hu; simp only [List.mem_cons, List.not_mem_nil, or_false] at hu; rcases hu with rfl | rfl | rfl <;> rfl) ?_; generalize hq9 : World.setRow wq p.g _ = w9; obtain rfl : wb = w9 := HWwb.out.symm.trans hq9; clear hq9))
        go_end0
        have q1 : Only (· = p.g) w wb := (HOwa.out.then_quiet HQ.out).trans HOwb.out fun i _ e => e
        rw [HBC.out]
        exact ⟨rfl, ⟨HBwb.out, HSE.out.win.only q1 (fun e => HSE.out.ne e.symm), own_only HSE.out.row q1 (fun g hg e => (HSE.out.ng g hg).1 e), HSE.out.ne, HSE.out.ng, HSE.out.lo⟩, q1.mono fun i _ e => .inl e⟩
      · cases done with
        | true =>
          go_enter Tryd.func24, Tryd.ntmps24
          go_wp2_with (first
            | (refine wpList_store_into rfl 3 (.tmp 18) (.tmp 15) rfl p.g 9 (.int .i64 ((v1 : Nat) : Int)) rfl rfl rfl 80 _ #[.int .i64 ((s.size : Nat) : Int), .int .i64 ((s.retry : Nat) : Int), .int .i64 s.life, .int .i64 ((s.state : Nat) : Int), .int .i64 s.token, .pointer (some ⟨p.gw, 0, none⟩), p.v, .bool s.ask, .int .i64 ((s.fr : Nat) : Int), .int .i64 ((v1 : Nat) : Int)] HBw.out size1i (by show 9 < 10; omega) rfl ?_; rw [HWwa.out]))
          obtain ⟨wq, hwq⟩ : ∃ wq, wq = World.drew wa := ⟨_, rfl⟩
          have HWQ := Shut.mk hwq
          have HQ := Shut.mk (show Below wa.heap.size wa wq by rw [hwq]; exact (Below.refl _ _).drew)
          have HBq := Shut.mk ((HQ.out.block _ (lt_blk HBwa.out)).trans HBwa.out)
          have D9 := Shut.mk (show wq.cell? ⟨p.g, 9, none⟩ = some (.int .i64 ((v1 : Nat) : Int)) from by have h9 := block_range HBq.out 9 _ rfl; rw [Nat.zero_add] at h9; exact h9)
          have D1 := Shut.mk (show wq.cell? ⟨p.g, 1, none⟩ = some (.int .i64 ((s.retry : Nat) : Int)) from by have h9 := block_range HBq.out 1 _ rfl; rw [Nat.zero_add] at h9; exact h9)
          clear hwq d1 d9
          refine wp_region_D (fun w' => wq = w') 12 (by kernel_rfl) HWQ.out (fun hHeld hC => ?_)
          rw [← HWQ.out] at hHeld ⊢
          refine wpAnyD_pure (i := 0) (v := ?_) rfl hC (by kernel_rfl) (by kernel_rfl) (by kernel_rfl) (by decide) (fun _ _ _ h => h) (Or.inl ⟨by rfl, ?_⟩) (fun _ => hHeld) ?_
          rotate_left
          · intro w hSw
            clear hSw
            go_simp
            try with_reducible rfl
          try simp only [Act.put, List.getElem_toArray, List.getElem_cons_zero, List.getElem_cons_succ, List.setIfInBounds_toArray, List.set_cons_zero, List.set_cons_succ]
          clear hC
          intro hC
          refine wpAnyD_pure (i := 1) (v := ?_) rfl hC (by kernel_rfl) (by kernel_rfl) (by kernel_rfl) (by decide) (fun _ _ _ h => h) (Or.inl ⟨by rfl, ?_⟩) (fun _ => hHeld) ?_
          rotate_left
          · intro w hSw
            clear hSw
            go_simp
            try with_reducible rfl
          try simp only [Act.put, List.getElem_toArray, List.getElem_cons_zero, List.getElem_cons_succ, List.setIfInBounds_toArray, List.set_cons_zero, List.set_cons_succ]
          clear hC
          intro hC
          refine wpAnyD_pure (i := 2) (v := undef) rfl hC (by kernel_rfl) (by kernel_rfl) (by kernel_rfl) (by decide) (fun _ _ _ h => h) (Or.inr ⟨by rfl, rfl⟩) (fun _ => hHeld) ?_
          try simp only [Act.put, List.getElem_toArray, List.getElem_cons_zero, List.getElem_cons_succ, List.setIfInBounds_toArray, List.set_cons_zero, List.set_cons_succ]
          clear hC
          intro hC
          refine wpAnyD_pure (i := 3) (v := undef) rfl hC (by kernel_rfl) (by kernel_rfl) (by kernel_rfl) (by decide) (fun _ _ _ h => h) (Or.inr ⟨by rfl, rfl⟩) (fun _ => hHeld) ?_
          try simp only [Act.put, List.getElem_toArray, List.getElem_cons_zero, List.getElem_cons_succ, List.setIfInBounds_toArray, List.set_cons_zero, List.set_cons_succ]
          clear hC
          intro hC
          refine wpAnyD_pure (i := 4) (v := undef) rfl hC (by kernel_rfl) (by kernel_rfl) (by kernel_rfl) (by decide) (fun _ _ _ h => h) (Or.inr ⟨by rfl, rfl⟩) (fun _ => hHeld) ?_
          try simp only [Act.put, List.getElem_toArray, List.getElem_cons_zero, List.getElem_cons_succ, List.setIfInBounds_toArray, List.set_cons_zero, List.set_cons_succ]
          clear hC
          intro hC
          refine wpAnyD_pure (i := 5) (v := undef) rfl hC (by kernel_rfl) (by kernel_rfl) (by kernel_rfl) (by decide) (fun _ _ _ h => h) (Or.inr ⟨by rfl, rfl⟩) (fun _ => hHeld) ?_
          try simp only [Act.put, List.getElem_toArray, List.getElem_cons_zero, List.getElem_cons_succ, List.setIfInBounds_toArray, List.set_cons_zero, List.set_cons_succ]
          clear hC
          intro hC
          refine wpAnyD_pure (i := 6) (v := undef) rfl hC (by kernel_rfl) (by kernel_rfl) (by kernel_rfl) (by decide) (fun _ _ _ h => h) (Or.inr ⟨by rfl, rfl⟩) (fun _ => hHeld) ?_
          try simp only [Act.put, List.getElem_toArray, List.getElem_cons_zero, List.getElem_cons_succ, List.setIfInBounds_toArray, List.set_cons_zero, List.set_cons_succ]
          clear hC
          intro hC
          refine wpAnyD_pure (i := 7) (v := undef) rfl hC (by kernel_rfl) (by kernel_rfl) (by kernel_rfl) (by decide) (fun _ _ _ h => h) (Or.inr ⟨by rfl, rfl⟩) (fun _ => hHeld) ?_
          try simp only [Act.put, List.getElem_toArray, List.getElem_cons_zero, List.getElem_cons_succ, List.setIfInBounds_toArray, List.set_cons_zero, List.set_cons_succ]
          clear hC
          intro hC
          refine wpAnyD_pure (i := 8) (v := undef) rfl hC (by kernel_rfl) (by kernel_rfl) (by kernel_rfl) (by decide) (fun _ _ _ h => h) (Or.inr ⟨by rfl, rfl⟩) (fun _ => hHeld) ?_
          try simp only [Act.put, List.getElem_toArray, List.getElem_cons_zero, List.getElem_cons_succ, List.setIfInBounds_toArray, List.set_cons_zero, List.set_cons_succ]
          clear hC
          intro hC
          refine wpAnyD_pure (i := 9) (v := undef) rfl hC (by kernel_rfl) (by kernel_rfl) (by kernel_rfl) (by decide) (fun _ _ _ h => h) (Or.inr ⟨by rfl, rfl⟩) (fun _ => hHeld) ?_
          try simp only [Act.put, List.getElem_toArray, List.getElem_cons_zero, List.getElem_cons_succ, List.setIfInBounds_toArray, List.set_cons_zero, List.set_cons_succ]
          clear hC
          intro hC
          refine wpAnyD_pure (i := 10) (v := undef) rfl hC (by kernel_rfl) (by kernel_rfl) (by kernel_rfl) (by decide) (fun _ _ _ h => h) (Or.inr ⟨by rfl, rfl⟩) (fun _ => hHeld) ?_
          try simp only [Act.put, List.getElem_toArray, List.getElem_cons_zero, List.getElem_cons_succ, List.setIfInBounds_toArray, List.set_cons_zero, List.set_cons_succ]
          clear hC
          intro hC
          refine wpAnyD_pure (i := 11) (v := undef) rfl hC (by kernel_rfl) (by kernel_rfl) (by kernel_rfl) (by decide) (fun _ _ _ h => h) (Or.inr ⟨by rfl, rfl⟩) (fun _ => hHeld) ?_
          try simp only [Act.put, List.getElem_toArray, List.getElem_cons_zero, List.getElem_cons_succ, List.setIfInBounds_toArray, List.set_cons_zero, List.set_cons_succ]
          clear hC
          intro hC
          refine wpAnyD_one (i := 12) (by kernel_rfl) rfl hC (fun K hK => ?_)
          clear hC
          go_simp
          refine hK.out _ _ (past (by kernel_rfl)) (fun hC => ?_)
          clear hK K
          try simp only [Act.put, List.getElem_toArray, List.getElem_cons_zero, List.getElem_cons_succ, List.setIfInBounds_toArray, List.set_cons_zero, List.set_cons_succ]
          refine wpAnyD_done (by kernel_rfl) ?_ _
          try simp only [Act.put, List.getElem_toArray, List.getElem_cons_zero, List.getElem_cons_succ, List.setIfInBounds_toArray, List.set_cons_zero, List.set_cons_succ]
          try clear hC hHeld
          have HBwb := Shut.mk (setRow_heap wq p.g _ #[.int .i64 ((s.size : Nat) : Int), .int .i64 ((s.retry : Nat) : Int), .int .i64 s.life, .int .i64 ((s.state : Nat) : Int), .int .i64 s.token, .pointer (some ⟨p.gw, 0, none⟩), p.v, .bool false, .int .i64 0, .int .i64 0] _ (0, 0) HBq.out)
          have HOwb := Shut.mk (only_setRow wq p.g #[.int .i64 ((s.size : Nat) : Int), .int .i64 ((s.retry : Nat) : Int), .int .i64 s.life, .int .i64 ((s.state : Nat) : Int), .int .i64 s.token, .pointer (some ⟨p.gw, 0, none⟩), p.v, .bool false, .int .i64 0, .int .i64 0])
          obtain ⟨wb, hwb⟩ : ∃ wb, wb = wq.setRow p.g #[.int .i64 ((s.size : Nat) : Int), .int .i64 ((s.retry : Nat) : Int), .int .i64 s.life, .int .i64 ((s.state : Nat) : Int), .int .i64 s.token, .pointer (some ⟨p.gw, 0, none⟩), p.v, .bool false, .int .i64 0, .int .i64 0] := ⟨_, rfl⟩
          rw [← hwb] at HBwb HOwb
          have HWwb := Shut.mk hwb.symm
          clear hwb
          have HBq' := Shut.mk (show wq.heap[p.g]? = some (.cells ((([.int .i64 ((s.size : Nat) : Int), .int .i64 ((s.retry : Nat) : Int), .int .i64 s.life, .int .i64 ((s.state : Nat) : Int), .int .i64 s.token, .pointer (some ⟨p.gw, 0, none⟩), p.v] : List Value)) ++ ([.bool s.ask, .int .i64 ((s.fr : Nat) : Int), .int .i64 ((v1 : Nat) : Int)] : List Value) ++ []).toArray 80 (0, 0)) from HBq.out)
          go_wp2_with (first
            | (refine wpList_store_part rfl 78 (.tmp 35) (.tmp 33) rfl p.g 7 (.agg #[.bool false, .int .i64 0, .int .i64 0]) rfl rfl 80 ([.int .i64 ((s.size : Nat) : Int), .int .i64 ((s.retry : Nat) : Int), .int .i64 s.life, .int .i64 ((s.state : Nat) : Int), .int .i64 s.token, .pointer (some ⟨p.gw, 0, none⟩), p.v] : List Value) ([.bool s.ask, .int .i64 ((s.fr : Nat) : Int), .int .i64 ((v1 : Nat) : Int)] : List Value) ([.bool false, .int .i64 0, .int .i64 0] : List Value) [] HBq'.out rfl rfl rfl sizeQ (by intro u hu; simp only [List.mem_cons, List.not_mem_nil, or_false] at hu; rcases hu with rfl | rfl | rfl <;> rfl) ?_; generalize hq9 : World.setRow wq p.g _ = w9; obtain rfl : wb = w9 := HWwb.out.symm.trans hq9; clear hq9))
          go_end0
          have q1 : Only (· = p.g) w wb := (HOwa.out.then_quiet HQ.out).trans HOwb.out fun i _ e => e
          rw [HBC.out]
          exact ⟨rfl, ⟨HBwb.out, HSE.out.win.only q1 (fun e => HSE.out.ne e.symm), own_only HSE.out.row q1 (fun g hg e => (HSE.out.ng g hg).1 e), HSE.out.ne, HSE.out.ng, HSE.out.lo⟩, q1.mono fun i _ e => .inl e⟩
        | false =>
          have hlt : ((s.retry : Nat) : Int) < ((v1 : Nat) : Int) := by omega
          go_enter Tryd.func24, Tryd.ntmps24
          go_wp2_with (first
            | (refine wpList_store_into rfl 3 (.tmp 18) (.tmp 15) rfl p.g 9 (.int .i64 ((v1 : Nat) : Int)) rfl rfl rfl 80 _ #[.int .i64 ((s.size : Nat) : Int), .int .i64 ((s.retry : Nat) : Int), .int .i64 s.life, .int .i64 ((s.state : Nat) : Int), .int .i64 s.token, .pointer (some ⟨p.gw, 0, none⟩), p.v, .bool s.ask, .int .i64 ((s.fr : Nat) : Int), .int .i64 ((v1 : Nat) : Int)] HBw.out size1i (by show 9 < 10; omega) rfl ?_; rw [HWwa.out]))
          obtain ⟨wq, hwq⟩ : ∃ wq, wq = World.drew wa := ⟨_, rfl⟩
          have HWQ := Shut.mk hwq
          have HQ := Shut.mk (show Below wa.heap.size wa wq by rw [hwq]; exact (Below.refl _ _).drew)
          have HBq := Shut.mk ((HQ.out.block _ (lt_blk HBwa.out)).trans HBwa.out)
          have D9 := Shut.mk (show wq.cell? ⟨p.g, 9, none⟩ = some (.int .i64 ((v1 : Nat) : Int)) from by have h9 := block_range HBq.out 9 _ rfl; rw [Nat.zero_add] at h9; exact h9)
          have D1 := Shut.mk (show wq.cell? ⟨p.g, 1, none⟩ = some (.int .i64 ((s.retry : Nat) : Int)) from by have h9 := block_range HBq.out 1 _ rfl; rw [Nat.zero_add] at h9; exact h9)
          clear hwq d1 d9
          refine wp_region_D (fun w' => wq = w') 12 (by kernel_rfl) HWQ.out (fun hHeld hC => ?_)
          rw [← HWQ.out] at hHeld ⊢
          refine wpAnyD_pure (i := 0) (v := ?_) rfl hC (by kernel_rfl) (by kernel_rfl) (by kernel_rfl) (by decide) (fun _ _ _ h => h) (Or.inl ⟨by rfl, ?_⟩) (fun _ => hHeld) ?_
          rotate_left
          · intro w hSw
            clear hSw
            go_simp
            try with_reducible rfl
          try simp only [Act.put, List.getElem_toArray, List.getElem_cons_zero, List.getElem_cons_succ, List.setIfInBounds_toArray, List.set_cons_zero, List.set_cons_succ]
          clear hC
          intro hC
          refine wpAnyD_pure (i := 1) (v := ?_) rfl hC (by kernel_rfl) (by kernel_rfl) (by kernel_rfl) (by decide) (fun _ _ _ h => h) (Or.inl ⟨by rfl, ?_⟩) (fun _ => hHeld) ?_
          rotate_left
          · intro w hSw
            clear hSw
            go_simp
            try with_reducible rfl
          try simp only [Act.put, List.getElem_toArray, List.getElem_cons_zero, List.getElem_cons_succ, List.setIfInBounds_toArray, List.set_cons_zero, List.set_cons_succ]
          clear hC
          intro hC
          refine wpAnyD_pure (i := 2) (v := ?_) rfl hC (by kernel_rfl) (by kernel_rfl) (by kernel_rfl) (by decide) (fun _ _ _ h => h) (Or.inl ⟨by rfl, ?_⟩) (fun _ => hHeld) ?_
          rotate_left
          · intro w hSw
            clear hSw
            go_simp
            try with_reducible rfl
          try simp only [Act.put, List.getElem_toArray, List.getElem_cons_zero, List.getElem_cons_succ, List.setIfInBounds_toArray, List.set_cons_zero, List.set_cons_succ]
          clear hC
          intro hC
          refine wpAnyD_pure (i := 3) (v := ?_) rfl hC (by kernel_rfl) (by kernel_rfl) (by kernel_rfl) (by decide) (fun _ _ _ h => h) (Or.inl ⟨by rfl, ?_⟩) (fun _ => hHeld) ?_
          rotate_left
          · intro w hSw
            clear hSw
            go_simp
            try with_reducible rfl
          try simp only [Act.put, List.getElem_toArray, List.getElem_cons_zero, List.getElem_cons_succ, List.setIfInBounds_toArray, List.set_cons_zero, List.set_cons_succ]
          clear hC
          intro hC
          refine wpAnyD_pure (i := 4) (v := ?_) rfl hC (by kernel_rfl) (by kernel_rfl) (by kernel_rfl) (by decide) (fun _ _ _ h => h) (Or.inl ⟨by rfl, ?_⟩) (fun _ => hHeld) ?_
          rotate_left
          · intro w hSw
            clear hSw
            go_simp
            try with_reducible rfl
          try simp only [Act.put, List.getElem_toArray, List.getElem_cons_zero, List.getElem_cons_succ, List.setIfInBounds_toArray, List.set_cons_zero, List.set_cons_succ]
          clear hC
          intro hC
          refine wpAnyD_pure (i := 5) (v := ?_) rfl hC (by kernel_rfl) (by kernel_rfl) (by kernel_rfl) (by decide) (fun _ _ _ h => h) (Or.inl ⟨by rfl, ?_⟩) (fun _ => hHeld) ?_
          rotate_left
          · intro w hSw
            clear hSw
            go_simp
            try with_reducible rfl
          try simp only [Act.put, List.getElem_toArray, List.getElem_cons_zero, List.getElem_cons_succ, List.setIfInBounds_toArray, List.set_cons_zero, List.set_cons_succ]
          clear hC
          intro hC
          refine wpAnyD_take (i := 6) (v := ?_) 40 rfl (by kernel_rfl) hC (by kernel_rfl) (by kernel_rfl) (by kernel_rfl) (by decide) (fun _ _ _ h => h) (Or.inl ⟨by rfl, ?_⟩) (fun _ => hHeld) ?_
          rotate_left
          · intro w hSw
            have hz := (show w.cell? ⟨p.g, 9, none⟩ = some (.int .i64 ((v1 : Nat) : Int)) from by rw [← hSw]; exact D9.out)
            clear hSw
            go_simp
            try with_reducible rfl
          try simp only [Act.put, List.getElem_toArray, List.getElem_cons_zero, List.getElem_cons_succ, List.setIfInBounds_toArray, List.set_cons_zero, List.set_cons_succ]
          clear hC
          intro hC
          refine wpAnyD_pure (i := 7) (v := ?_) rfl hC (by kernel_rfl) (by kernel_rfl) (by kernel_rfl) (by decide) (fun _ _ _ h => h) (Or.inl ⟨by rfl, ?_⟩) (fun _ => hHeld) ?_
          rotate_left
          · intro w hSw
            clear hSw
            go_simp
            try with_reducible rfl
          try simp only [Act.put, List.getElem_toArray, List.getElem_cons_zero, List.getElem_cons_succ, List.setIfInBounds_toArray, List.set_cons_zero, List.set_cons_succ]
          clear hC
          intro hC
          refine wpAnyD_pure (i := 8) (v := ?_) rfl hC (by kernel_rfl) (by kernel_rfl) (by kernel_rfl) (by decide) (fun _ _ _ h => h) (Or.inl ⟨by rfl, ?_⟩) (fun _ => hHeld) ?_
          rotate_left
          · intro w hSw
            clear hSw
            go_simp
            try with_reducible rfl
          try simp only [Act.put, List.getElem_toArray, List.getElem_cons_zero, List.getElem_cons_succ, List.setIfInBounds_toArray, List.set_cons_zero, List.set_cons_succ]
          clear hC
          intro hC
          refine wpAnyD_pure (i := 9) (v := ?_) rfl hC (by kernel_rfl) (by kernel_rfl) (by kernel_rfl) (by decide) (fun _ _ _ h => h) (Or.inl ⟨by rfl, ?_⟩) (fun _ => hHeld) ?_
          rotate_left
          · intro w hSw
            clear hSw
            go_simp
            try with_reducible rfl
          try simp only [Act.put, List.getElem_toArray, List.getElem_cons_zero, List.getElem_cons_succ, List.setIfInBounds_toArray, List.set_cons_zero, List.set_cons_succ]
          clear hC
          intro hC
          refine wpAnyD_take (i := 10) (v := ?_) 40 rfl (by kernel_rfl) hC (by kernel_rfl) (by kernel_rfl) (by kernel_rfl) (by decide) (fun _ _ _ h => h) (Or.inl ⟨by rfl, ?_⟩) (fun _ => hHeld) ?_
          rotate_left
          · intro w hSw
            have hz := (show w.cell? ⟨p.g, 1, none⟩ = some (.int .i64 ((s.retry : Nat) : Int)) from by rw [← hSw]; exact D1.out)
            clear hSw
            go_simp
            try with_reducible rfl
          try simp only [Act.put, List.getElem_toArray, List.getElem_cons_zero, List.getElem_cons_succ, List.setIfInBounds_toArray, List.set_cons_zero, List.set_cons_succ]
          clear hC
          intro hC
          refine wpAnyD_pure (i := 11) (v := ?_) rfl hC (by kernel_rfl) (by kernel_rfl) (by kernel_rfl) (by decide) (fun _ _ _ h => h) (Or.inl ⟨by rfl, ?_⟩) (fun _ => hHeld) ?_
          rotate_left
          · intro w hSw
            clear hSw
            go_simp
            try with_reducible rfl
          try simp only [Act.put, List.getElem_toArray, List.getElem_cons_zero, List.getElem_cons_succ, List.setIfInBounds_toArray, List.set_cons_zero, List.set_cons_succ]
          clear hC
          intro hC
          refine wpAnyD_one (i := 12) (by kernel_rfl) rfl hC (fun K hK => ?_)
          clear hC
          go_simp
          refine hK.out _ _ (past (by kernel_rfl)) (fun hC => ?_)
          clear hK K
          try simp only [Act.put, List.getElem_toArray, List.getElem_cons_zero, List.getElem_cons_succ, List.setIfInBounds_toArray, List.set_cons_zero, List.set_cons_succ]
          refine wpAnyD_done (by kernel_rfl) ?_ _
          try simp only [Act.put, List.getElem_toArray, List.getElem_cons_zero, List.getElem_cons_succ, List.setIfInBounds_toArray, List.set_cons_zero, List.set_cons_succ]
          try clear hC hHeld
          have HBwb := Shut.mk (setRow_heap wq p.g _ #[.int .i64 ((s.size : Nat) : Int), .int .i64 ((s.retry : Nat) : Int), .int .i64 s.life, .int .i64 ((s.state : Nat) : Int), .int .i64 s.token, .pointer (some ⟨p.gw, 0, none⟩), p.v, .bool false, .int .i64 0, .int .i64 0] _ (0, 0) HBq.out)
          have HOwb := Shut.mk (only_setRow wq p.g #[.int .i64 ((s.size : Nat) : Int), .int .i64 ((s.retry : Nat) : Int), .int .i64 s.life, .int .i64 ((s.state : Nat) : Int), .int .i64 s.token, .pointer (some ⟨p.gw, 0, none⟩), p.v, .bool false, .int .i64 0, .int .i64 0])
          obtain ⟨wb, hwb⟩ : ∃ wb, wb = wq.setRow p.g #[.int .i64 ((s.size : Nat) : Int), .int .i64 ((s.retry : Nat) : Int), .int .i64 s.life, .int .i64 ((s.state : Nat) : Int), .int .i64 s.token, .pointer (some ⟨p.gw, 0, none⟩), p.v, .bool false, .int .i64 0, .int .i64 0] := ⟨_, rfl⟩
          rw [← hwb] at HBwb HOwb
          have HWwb := Shut.mk hwb.symm
          clear hwb
          have HBq' := Shut.mk (show wq.heap[p.g]? = some (.cells ((([.int .i64 ((s.size : Nat) : Int), .int .i64 ((s.retry : Nat) : Int), .int .i64 s.life, .int .i64 ((s.state : Nat) : Int), .int .i64 s.token, .pointer (some ⟨p.gw, 0, none⟩), p.v] : List Value)) ++ ([.bool s.ask, .int .i64 ((s.fr : Nat) : Int), .int .i64 ((v1 : Nat) : Int)] : List Value) ++ []).toArray 80 (0, 0)) from HBq.out)
          go_wp2_with (first
            | (refine wpList_store_part rfl 78 (.tmp 35) (.tmp 33) rfl p.g 7 (.agg #[.bool false, .int .i64 0, .int .i64 0]) rfl rfl 80 ([.int .i64 ((s.size : Nat) : Int), .int .i64 ((s.retry : Nat) : Int), .int .i64 s.life, .int .i64 ((s.state : Nat) : Int), .int .i64 s.token, .pointer (some ⟨p.gw, 0, none⟩), p.v] : List Value) ([.bool s.ask, .int .i64 ((s.fr : Nat) : Int), .int .i64 ((v1 : Nat) : Int)] : List Value) ([.bool false, .int .i64 0, .int .i64 0] : List Value) [] HBq'.out rfl rfl rfl sizeQ (by intro u hu; simp only [List.mem_cons, List.not_mem_nil, or_false] at hu; rcases hu with rfl | rfl | rfl <;> rfl) ?_; generalize hq9 : World.setRow wq p.g _ = w9; obtain rfl : wb = w9 := HWwb.out.symm.trans hq9; clear hq9))
          go_end0
          have q1 : Only (· = p.g) w wb := (HOwa.out.then_quiet HQ.out).trans HOwb.out fun i _ e => e
          rw [HBC.out]
          exact ⟨rfl, ⟨HBwb.out, HSE.out.win.only q1 (fun e => HSE.out.ne e.symm), own_only HSE.out.row q1 (fun g hg e => (HSE.out.ng g hg).1 e), HSE.out.ne, HSE.out.ng, HSE.out.lo⟩, q1.mono fun i _ e => .inl e⟩
    · have hd1 : done = false := by cases done with | true => exact absurd (.inl rfl) hd | false => rfl
      subst hd1
      have hlt : ¬ ((s.retry : Nat) : Int) < ((v1 : Nat) : Int) := fun e => hd (.inr (by omega))
      have HBC := Shut.mk (show barC s false = { s with vain := s.vain + 1 } by
        unfold barC
        have := HV1.out
        rw [if_pos HAK.out, if_neg]
        rw [Bool.false_or, decide_eq_true_iff]
        omega)
      clear hd
      go_enter Tryd.func24, Tryd.ntmps24
      go_wp2_with (first
        | (refine wpList_store_into rfl 3 (.tmp 18) (.tmp 15) rfl p.g 9 (.int .i64 ((v1 : Nat) : Int)) rfl rfl rfl 80 _ #[.int .i64 ((s.size : Nat) : Int), .int .i64 ((s.retry : Nat) : Int), .int .i64 s.life, .int .i64 ((s.state : Nat) : Int), .int .i64 s.token, .pointer (some ⟨p.gw, 0, none⟩), p.v, .bool s.ask, .int .i64 ((s.fr : Nat) : Int), .int .i64 ((v1 : Nat) : Int)] HBw.out size1i (by show 9 < 10; omega) rfl ?_; rw [HWwa.out]))
      obtain ⟨wq, hwq⟩ : ∃ wq, wq = World.drew wa := ⟨_, rfl⟩
      have HWQ := Shut.mk hwq
      have HQ := Shut.mk (show Below wa.heap.size wa wq by rw [hwq]; exact (Below.refl _ _).drew)
      have HBq := Shut.mk ((HQ.out.block _ (lt_blk HBwa.out)).trans HBwa.out)
      have D9 := Shut.mk (show wq.cell? ⟨p.g, 9, none⟩ = some (.int .i64 ((v1 : Nat) : Int)) from by have h9 := block_range HBq.out 9 _ rfl; rw [Nat.zero_add] at h9; exact h9)
      have D1 := Shut.mk (show wq.cell? ⟨p.g, 1, none⟩ = some (.int .i64 ((s.retry : Nat) : Int)) from by have h9 := block_range HBq.out 1 _ rfl; rw [Nat.zero_add] at h9; exact h9)
      clear hwq d1 d9
      refine wp_region_D (fun w' => wq = w') 12 (by kernel_rfl) HWQ.out (fun hHeld hC => ?_)
      rw [← HWQ.out] at hHeld ⊢
      refine wpAnyD_pure (i := 0) (v := ?_) rfl hC (by kernel_rfl) (by kernel_rfl) (by kernel_rfl) (by decide) (fun _ _ _ h => h) (Or.inl ⟨by rfl, ?_⟩) (fun _ => hHeld) ?_
      rotate_left
      · intro w hSw
        clear hSw
        go_simp
        try with_reducible rfl
      try simp only [Act.put, List.getElem_toArray, List.getElem_cons_zero, List.getElem_cons_succ, List.setIfInBounds_toArray, List.set_cons_zero, List.set_cons_succ]
      clear hC
      intro hC
      refine wpAnyD_pure (i := 1) (v := ?_) rfl hC (by kernel_rfl) (by kernel_rfl) (by kernel_rfl) (by decide) (fun _ _ _ h => h) (Or.inl ⟨by rfl, ?_⟩) (fun _ => hHeld) ?_
      rotate_left
      · intro w hSw
        clear hSw
        go_simp
        try with_reducible rfl
      try simp only [Act.put, List.getElem_toArray, List.getElem_cons_zero, List.getElem_cons_succ, List.setIfInBounds_toArray, List.set_cons_zero, List.set_cons_succ]
      clear hC
      intro hC
      refine wpAnyD_pure (i := 2) (v := ?_) rfl hC (by kernel_rfl) (by kernel_rfl) (by kernel_rfl) (by decide) (fun _ _ _ h => h) (Or.inl ⟨by rfl, ?_⟩) (fun _ => hHeld) ?_
      rotate_left
      · intro w hSw
        clear hSw
        go_simp
        try with_reducible rfl
      try simp only [Act.put, List.getElem_toArray, List.getElem_cons_zero, List.getElem_cons_succ, List.setIfInBounds_toArray, List.set_cons_zero, List.set_cons_succ]
      clear hC
      intro hC
      refine wpAnyD_pure (i := 3) (v := ?_) rfl hC (by kernel_rfl) (by kernel_rfl) (by kernel_rfl) (by decide) (fun _ _ _ h => h) (Or.inl ⟨by rfl, ?_⟩) (fun _ => hHeld) ?_
      rotate_left
      · intro w hSw
        clear hSw
        go_simp
        try with_reducible rfl
      try simp only [Act.put, List.getElem_toArray, List.getElem_cons_zero, List.getElem_cons_succ, List.setIfInBounds_toArray, List.set_cons_zero, List.set_cons_succ]
      clear hC
      intro hC
      refine wpAnyD_pure (i := 4) (v := ?_) rfl hC (by kernel_rfl) (by kernel_rfl) (by kernel_rfl) (by decide) (fun _ _ _ h => h) (Or.inl ⟨by rfl, ?_⟩) (fun _ => hHeld) ?_
      rotate_left
      · intro w hSw
        clear hSw
        go_simp
        try with_reducible rfl
      try simp only [Act.put, List.getElem_toArray, List.getElem_cons_zero, List.getElem_cons_succ, List.setIfInBounds_toArray, List.set_cons_zero, List.set_cons_succ]
      clear hC
      intro hC
      refine wpAnyD_pure (i := 5) (v := ?_) rfl hC (by kernel_rfl) (by kernel_rfl) (by kernel_rfl) (by decide) (fun _ _ _ h => h) (Or.inl ⟨by rfl, ?_⟩) (fun _ => hHeld) ?_
      rotate_left
      · intro w hSw
        clear hSw
        go_simp
        try with_reducible rfl
      try simp only [Act.put, List.getElem_toArray, List.getElem_cons_zero, List.getElem_cons_succ, List.setIfInBounds_toArray, List.set_cons_zero, List.set_cons_succ]
      clear hC
      intro hC
      refine wpAnyD_take (i := 6) (v := ?_) 40 rfl (by kernel_rfl) hC (by kernel_rfl) (by kernel_rfl) (by kernel_rfl) (by decide) (fun _ _ _ h => h) (Or.inl ⟨by rfl, ?_⟩) (fun _ => hHeld) ?_
      rotate_left
      · intro w hSw
        have hz := (show w.cell? ⟨p.g, 9, none⟩ = some (.int .i64 ((v1 : Nat) : Int)) from by rw [← hSw]; exact D9.out)
        clear hSw
        go_simp
        try with_reducible rfl
      try simp only [Act.put, List.getElem_toArray, List.getElem_cons_zero, List.getElem_cons_succ, List.setIfInBounds_toArray, List.set_cons_zero, List.set_cons_succ]
      clear hC
      intro hC
      refine wpAnyD_pure (i := 7) (v := ?_) rfl hC (by kernel_rfl) (by kernel_rfl) (by kernel_rfl) (by decide) (fun _ _ _ h => h) (Or.inl ⟨by rfl, ?_⟩) (fun _ => hHeld) ?_
      rotate_left
      · intro w hSw
        clear hSw
        go_simp
        try with_reducible rfl
      try simp only [Act.put, List.getElem_toArray, List.getElem_cons_zero, List.getElem_cons_succ, List.setIfInBounds_toArray, List.set_cons_zero, List.set_cons_succ]
      clear hC
      intro hC
      refine wpAnyD_pure (i := 8) (v := ?_) rfl hC (by kernel_rfl) (by kernel_rfl) (by kernel_rfl) (by decide) (fun _ _ _ h => h) (Or.inl ⟨by rfl, ?_⟩) (fun _ => hHeld) ?_
      rotate_left
      · intro w hSw
        clear hSw
        go_simp
        try with_reducible rfl
      try simp only [Act.put, List.getElem_toArray, List.getElem_cons_zero, List.getElem_cons_succ, List.setIfInBounds_toArray, List.set_cons_zero, List.set_cons_succ]
      clear hC
      intro hC
      refine wpAnyD_pure (i := 9) (v := ?_) rfl hC (by kernel_rfl) (by kernel_rfl) (by kernel_rfl) (by decide) (fun _ _ _ h => h) (Or.inl ⟨by rfl, ?_⟩) (fun _ => hHeld) ?_
      rotate_left
      · intro w hSw
        clear hSw
        go_simp
        try with_reducible rfl
      try simp only [Act.put, List.getElem_toArray, List.getElem_cons_zero, List.getElem_cons_succ, List.setIfInBounds_toArray, List.set_cons_zero, List.set_cons_succ]
      clear hC
      intro hC
      refine wpAnyD_take (i := 10) (v := ?_) 40 rfl (by kernel_rfl) hC (by kernel_rfl) (by kernel_rfl) (by kernel_rfl) (by decide) (fun _ _ _ h => h) (Or.inl ⟨by rfl, ?_⟩) (fun _ => hHeld) ?_
      rotate_left
      · intro w hSw
        have hz := (show w.cell? ⟨p.g, 1, none⟩ = some (.int .i64 ((s.retry : Nat) : Int)) from by rw [← hSw]; exact D1.out)
        clear hSw
        go_simp
        try with_reducible rfl
      try simp only [Act.put, List.getElem_toArray, List.getElem_cons_zero, List.getElem_cons_succ, List.setIfInBounds_toArray, List.set_cons_zero, List.set_cons_succ]
      clear hC
      intro hC
      refine wpAnyD_pure (i := 11) (v := ?_) rfl hC (by kernel_rfl) (by kernel_rfl) (by kernel_rfl) (by decide) (fun _ _ _ h => h) (Or.inl ⟨by rfl, ?_⟩) (fun _ => hHeld) ?_
      rotate_left
      · intro w hSw
        clear hSw
        go_simp
        try with_reducible rfl
      try simp only [Act.put, List.getElem_toArray, List.getElem_cons_zero, List.getElem_cons_succ, List.setIfInBounds_toArray, List.set_cons_zero, List.set_cons_succ]
      clear hC
      intro hC
      refine wpAnyD_one (i := 12) (by kernel_rfl) rfl hC (fun K hK => ?_)
      clear hC
      go_simp
      refine hK.out _ _ (past (by kernel_rfl)) (fun hC => ?_)
      clear hK K
      try simp only [Act.put, List.getElem_toArray, List.getElem_cons_zero, List.getElem_cons_succ, List.setIfInBounds_toArray, List.set_cons_zero, List.set_cons_succ]
      refine wpAnyD_done (by kernel_rfl) ?_ _
      try simp only [Act.put, List.getElem_toArray, List.getElem_cons_zero, List.getElem_cons_succ, List.setIfInBounds_toArray, List.set_cons_zero, List.set_cons_succ]
      try clear hC hHeld
      go_wp2_with (fail)
      go_end0
      refine ⟨rfl, ?_, ?_⟩
      · rw [HBC.out]
        have q1 := HOwa.out.then_quiet HQ.out
        exact ⟨by have h9 := HBq.out; rw [HV1.out] at h9; exact h9, HSE.out.win.only q1 (fun e => HSE.out.ne e.symm), own_only HSE.out.row q1 (fun g hg e => (HSE.out.ng g hg).1 e), HSE.out.ne, HSE.out.ng, HSE.out.lo⟩
      · exact (HOwa.out.then_quiet HQ.out).mono fun i _ e => .inl e
end
end Go.Proofs.YtlbfioknkagboaaDoor
