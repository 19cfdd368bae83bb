/-
  CONTRACTS of win's Resize, Clone, Out.
-/
import Derived.Test.YtempcbjojcebaaaDoorWinB
namespace Go.Proofs.YtempcbjojcebaaaDoor
open Go.ChangeShapes Go.WideShapes Go.ChangeAt Go.RowKit Go.Deep
set_option linter.unusedVariables false
set_option linter.unusedSimpArgs false

/-! ### Resize -/
set_option maxRecDepth 100000 in
set_option maxHeartbeats 4000000 in
theorem resize_range (g : Nat) (n : Int) (w : World) (hn : fitB n = false) (E : Nat → Addr) (he : w.cell? ⟨0, 0, none⟩ = some (errP (E 103))) :
    Calls Tryd.prog 19 #[.pointer (some ⟨g, 0, none⟩), .int .i64 n] w fun e w' => e = .returned (errP (E 103)) ∧ w = w' := by
  generalize E 103 = er at *
  have HF := Shut.mk (fits_any n w)
  rw [hn] at HF
  clear hn
  go_enter Tryd.func19, Tryd.ntmps19
  go_wp2_with (fail)
  refine HF.out.mono ?_
  rintro e w5 ⟨rfl, rfl⟩
  go_wp2_with (fail)
  go_ret
  exact ⟨rfl, rfl⟩
set_option maxRecDepth 100000 in
set_option maxHeartbeats 4000000 in
theorem resize_state (g : Nat) (x : Wo) (n : Int) (w : World) (hx : IsWin w g x) (hn : fitB n = true) (hd : x.ds ≠ []) (E : Nat → Addr) (he : w.cell? ⟨2, 0, none⟩ = some (errP (E 110))) :
    Calls Tryd.prog 19 #[.pointer (some ⟨g, 0, none⟩), .int .i64 n] w fun e w' => e = .returned (errP (E 110)) ∧ w = w' := by
  generalize E 110 = er at *
  have HF := Shut.mk (fits_any n w)
  rw [hn] at HF
  have hz : (((wdW x.ds : Nat) : Int) != 0) = true := by
    have : wdW x.ds ≠ 0 := fun h => hd (wd_none h)
    simpa using this
  obtain ⟨-, -, -, c3⟩ := hx.cell
  clear hn hx hd
  generalize wdW x.ds = u at *
  go_enter Tryd.func19, Tryd.ntmps19
  go_wp2_with (fail)
  refine HF.out.mono ?_
  rintro e w5 ⟨rfl, rfl⟩
  go_wp2_with (fail)
  go_ret
  exact ⟨rfl, rfl⟩
set_option maxRecDepth 100000 in
set_option maxHeartbeats 4000000 in
theorem resize_ok (g : Nat) (x : Wo) (n : Nat) (w : World) (hx : IsWin w g x) (hn : fitB (n : Int) = true) (hd : x.ds = []) :
    Calls Tryd.prog 19 #[.pointer (some ⟨g, 0, none⟩), .int .i64 (n : Nat)] w fun e w' => e = .returned .nilIface ∧ IsWin w' g ⟨x.st, x.gv, n, x.ds⟩ ∧ Only (· = g) w w' := by
  have HF := Shut.mk (fits_any n w)
  rw [hn] at HF
  have hz : (((wdW x.ds : Nat) : Int) != 0) = false := by rw [hd]; rfl
  obtain ⟨-, -, -, c3⟩ := hx.cell
  have HX := Shut.mk hx
  have HR := Shut.mk (Only.refl (· = g) w)
  have HBw7 := Shut.mk (setRow_heap w g _ #[.int .i64 ((x.st : Nat) : Int), .int .i64 ((nmW x x.gv : Nat) : Int), .int .i64 ((n : Nat) : Int), .int .u64 ((wdW x.ds : Nat) : Int)] _ (0, 0) HX.out)
  have HOw7 := Shut.mk (HR.out.setRow (g := g) (fun _ => rfl) #[.int .i64 ((x.st : Nat) : Int), .int .i64 ((nmW x x.gv : Nat) : Int), .int .i64 ((n : Nat) : Int), .int .u64 ((wdW x.ds : Nat) : Int)])
  obtain ⟨w7, hw7⟩ : ∃ w', w' = w.setRow g #[.int .i64 ((x.st : Nat) : Int), .int .i64 ((nmW x x.gv : Nat) : Int), .int .i64 ((n : Nat) : Int), .int .u64 ((wdW x.ds : Nat) : Int)] := ⟨_, rfl⟩
  rw [← hw7] at HBw7 HOw7
  have HWw7 := Shut.mk hw7.symm
  clear hw7
  clear hn hx hd
  go_enter Tryd.func19, Tryd.ntmps19
  go_wp2_with (fail)
  refine HF.out.mono ?_
  rintro e w5 ⟨rfl, rfl⟩
  go_wp2_with (refine wpList_store_into rfl 3 (.tmp 18) (.tmp 16) rfl g 2 (.int .i64 ((n : Nat) : Int)) rfl rfl rfl 54 _ #[.int .i64 ((x.st : Nat) : Int), .int .i64 ((nmW x x.gv : Nat) : Int), .int .i64 ((n : Nat) : Int), .int .u64 ((wdW x.ds : Nat) : Int)] HX.out size1i (show 2 < 4 by decide) rfl ?_; rw [HWw7.out])
  go_ret
  exact ⟨rfl, HBw7.out, HOw7.out⟩

/-! ### Clone -/
set_option maxRecDepth 100000 in
set_option maxHeartbeats 4000000 in
theorem clone_any (g : Nat) (x : Wo) (w : World) (hx : IsWin w g x) :
    Calls Tryd.prog 12 #[.pointer (some ⟨g, 0, none⟩)] w fun e w' => e = .returned (.pointer (some ⟨w.heap.size, 0, none⟩)) ∧ IsWin w' w.heap.size x ∧ Below w.heap.size w w' := by
  obtain ⟨G, hG⟩ : ∃ G, G = w.heap.size := ⟨_, rfl⟩
  have HG := Shut.mk hG
  have HX := Shut.mk hx
  have HB := Shut.mk ((Below.refl w.heap.size w).alloc (Nat.le_refl _) (Obj.cells #[.int .i64 ((x.st : Nat) : Int), .int .i64 ((nmW x x.gv : Nat) : Int), .int .i64 ((x.sz : Nat) : Int), .int .u64 ((wdW x.ds : Nat) : Int)] 54 (0, 0)))
  have HN := Shut.mk (MapKept.heap_alloc w (Obj.cells #[.int .i64 ((x.st : Nat) : Int), .int .i64 ((nmW x x.gv : Nat) : Int), .int .i64 ((x.sz : Nat) : Int), .int .u64 ((wdW x.ds : Nat) : Int)] 54 (0, 0))).1
  have HZ := Shut.mk (MapKept.heap_alloc w (Obj.cells #[.int .i64 0, .int .i64 0, .int .i64 0, .int .u64 0] 54 (0, 0))).1
  have HXa := Shut.mk (show IsWin (w.alloc (Obj.cells #[.int .i64 0, .int .i64 0, .int .i64 0, .int .u64 0] 54 (0, 0))) g x from hx.below ((Below.refl w.heap.size w).alloc (Nat.le_refl _) _))
  clear hx hG
  go_enter Tryd.func12, Tryd.ntmps12
  go_wp2_with (first
    | (refine wpList_load_row rfl 54 (.tmp 5) rfl g rfl 54 #[.int .i64 ((x.st : Nat) : Int), .int .i64 ((nmW x x.gv : Nat) : Int), .int .i64 ((x.sz : Nat) : Int), .int .u64 ((wdW x.ds : Nat) : Int)] (0, 0) _ HX.out Tryd.underlying54 rfl sizeWin ?_)
    | (refine wpList_store_row rfl 54 (.tmp 3) (.tmp 6) rfl w.heap.size #[.int .i64 ((x.st : Nat) : Int), .int .i64 ((nmW x x.gv : Nat) : Int), .int .i64 ((x.sz : Nat) : Int), .int .u64 ((wdW x.ds : Nat) : Int)] rfl rfl 54 _ HZ.out sizeWin rfl rfl ?_; rw [World.setRow_alloc_new]))
  go_ret
  exact ⟨rfl, HN.out, HB.out⟩

/-! ### Out -/
/-- what is out, as its numbers. -/
def outI (x : Wo) : List Int := x.ds.map fun d => ((nmW x d : Nat) : Int)
theorem outI_len (x : Wo) : (outI x).length = x.ds.length := by unfold outI; simp
theorem and_low {d : Nat} {r : List Nat} (h : (d :: r).Pairwise fun a b => a < b) (hl : ∀ k ∈ d :: r, k < 64) : bits .and .u64 ((wdW (d :: r) : Nat) : Int) (((wdW (d :: r) : Nat) : Int) - 1) = ((wdW r : Nat) : Int) := by
  have h0 : wdW (d :: r) ≠ 0 := wd_pos
  have hw := wd_lt hl
  rw [show ((wdW (d :: r) : Nat) : Int) - 1 = ((wdW (d :: r) - 1 : Nat) : Int) by omega, bits_and_u64_nat _ _ hw (by omega), wd_low h]
theorem wd_less {d : Nat} {r : List Nat} (h : (d :: r).Pairwise fun a b => a < b) : wdW r < wdW (d :: r) := by
  obtain ⟨e1, e2⟩ := wd_odd h
  have hp : 0 < 2 ^ d := Nat.pos_of_ne_zero (by simp)
  have e3 : 2 ^ d * (2 * (wdW r / 2 ^ (d + 1)) + 1) = 2 ^ d * (2 * (wdW r / 2 ^ (d + 1))) + 2 ^ d := by rw [Nat.mul_add, Nat.mul_one]
  omega
set_option maxRecDepth 100000 in
set_option maxHeartbeats 8000000 in
theorem out_any (g : Nat) (x : Wo) (w : World) (hx : IsWin w g x) (hi : InvW x) (hT : Tab64 w) :
    Calls Tryd.prog 25 #[.pointer (some ⟨g, 0, none⟩)] w fun e w' => ∃ v, e = .returned v ∧ RowN w' v (outI x) ∧ (∀ k, v.ownBlock = some k → w.heap.size ≤ k) ∧ Below w.heap.size w w' := by
  obtain ⟨-, -, -, c3⟩ := hx.cell
  have HX := Shut.mk hx
  have HI := Shut.mk hi
  have HT := Shut.mk hT
  have HGL := Shut.mk (lt_blk hx)
  clear hx hi hT
  go_enter Tryd.func25, Tryd.ntmps25
  go_wp2_with (fail)
  clear c3
  go_loopw [3, 4] (fun v left wr => ∃ k : Nat, k ≤ x.ds.length ∧ left = .int .u64 ((wdW (x.ds.drop k) : Nat) : Int) ∧ RowN wr v ((x.ds.take k).map fun d => ((nmW x d : Nat) : Int)) ∧ (∀ j, v.ownBlock = some j → w.heap.size ≤ j) ∧ Below w.heap.size w wr) (fun _ left _ => (intOf left).toNat)
  case atStart => exact ⟨0, Nat.zero_le _, rfl, RowN.nil _, (fun j hj => by cases hj), Below.refl _ _⟩
  case round =>
    obtain ⟨k, hk, rfl, hr, hf, hb⟩ := hrel
    by_cases hkl : k < x.ds.length
    · obtain ⟨f, r, hfr, hft⟩ : ∃ f r, x.ds.drop k = f :: r ∧ (x.ds.take (k + 1)) = x.ds.take k ++ [f] ∧ x.ds.drop (k + 1) = r := by
        refine ⟨x.ds[k], x.ds.drop (k + 1), List.drop_eq_getElem_cons hkl, ?_, rfl⟩
        rw [List.take_succ_eq_append_getElem hkl]
      have hpw : (f :: r).Pairwise fun a b => a < b := by rw [← hfr]; exact HI.out.up.sublist (List.drop_sublist _ _)
      have hl64 : ∀ j ∈ f :: r, j < 64 := fun j hj => HI.out.lts j (by rw [← hfr] at hj; exact List.mem_of_mem_drop hj)
      have hf64 := hl64 f List.mem_cons_self
      rw [hfr]
      have HCT := Shut.mk (wd_ctz hpw hf64)
      have HAL := Shut.mk (and_low hpw hl64)
      have HLS := Shut.mk (wd_less hpw)
      have HWL := Shut.mk (wd_lt hl64)
      have HNZ := Shut.mk (wd_pos (d := f) (r := r))
      have HRD := Shut.mk (rd_nm x f)
      have HFT := Shut.mk hft
      have hz : (((wdW (f :: r) : Nat) : Int) != 0) = true := by have := HNZ.out; simpa using this
      obtain ⟨L, hL⟩ : ∃ L : List Int, L = (x.ds.take k).map fun d => ((nmW x d : Nat) : Int) := ⟨_, rfl⟩
      have HL := Shut.mk hL
      rw [← hL] at hr
      obtain ⟨F, hF⟩ : ∃ F : List Nat, F = f :: r := ⟨_, rfl⟩
      rw [← hF] at HCT HAL HLS HWL HNZ hz ⊢
      have HLL := Shut.mk (show L.length ≤ 1000000 by rw [hL]; have h1 := out_len HI.out; have h2 := HI.out.gv; have h3 := HI.out.sz; simp; omega)
      have HK := Shut.mk hkl
      obtain ⟨w5, hw5⟩ : ∃ w5, w5 = World.drew wr := ⟨_, rfl⟩
      have HWw5 := Shut.mk hw5
      have HD5 := Shut.mk (show Below wr.heap.size wr w5 by rw [hw5]; exact (Below.refl _ _).drew)
      have HX5 := Shut.mk (show IsWin w5 g x from (HX.out.below hb).below HD5.out)
      have HT5 := Shut.mk (show Tab64 w5 from (HT.out.below hb).below HD5.out)
      have HR5 := Shut.mk (hr.only (S := fun _ => False) (Only.of_quiet HD5.out) (fun _ _ e => e))
      have HB5 := Shut.mk (hb.trans (HD5.out.mono hb.size))
      have HFR := Shut.mk hf
      clear hfr hft hpw hl64 hf64 hL hF hr hb hf hw5 hkl hk
      go_wp2_with (fail)
      refine wp_region_D (fun w' => w5 = w') 8 (by kernel_rfl) HWw5.out (fun hHeld hC => ?_)
      rw [← HWw5.out] at hHeld ⊢
      refine wpAnyD_pure (i := 0) (v := ?_) rfl hC (by kernel_rfl) (by kernel_rfl) (by kernel_rfl) (by decide) (fun _ _ _ h => h) (Or.inl ⟨by rfl, ?_⟩) (fun _ => hHeld) ?_
      rotate_left
      · intro w hSw
        clear hSw
        go_simp
        try with_reducible rfl
      try simp only [Act.put, List.getElem_toArray, List.getElem_cons_zero, List.getElem_cons_succ, List.setIfInBounds_toArray, List.set_cons_zero, List.set_cons_succ]
      clear hC
      intro hC
      refine wpAnyD_pure (i := 1) (v := ?_) rfl hC (by kernel_rfl) (by kernel_rfl) (by kernel_rfl) (by decide) (fun _ _ _ h => h) (Or.inl ⟨by rfl, ?_⟩) (fun _ => hHeld) ?_
      rotate_left
      · intro w hSw
        clear hSw
        go_simp
        try with_reducible rfl
      try simp only [Act.put, List.getElem_toArray, List.getElem_cons_zero, List.getElem_cons_succ, List.setIfInBounds_toArray, List.set_cons_zero, List.set_cons_succ]
      clear hC
      intro hC
      refine wpAnyD_pure (i := 2) (v := ?_) rfl hC (by kernel_rfl) (by kernel_rfl) (by kernel_rfl) (by decide) (fun _ _ _ h => h) (Or.inl ⟨by rfl, ?_⟩) (fun _ => hHeld) ?_
      rotate_left
      · intro w hSw
        clear hSw
        go_simp
        try with_reducible rfl
      try simp only [Act.put, List.getElem_toArray, List.getElem_cons_zero, List.getElem_cons_succ, List.setIfInBounds_toArray, List.set_cons_zero, List.set_cons_succ]
      clear hC
      intro hC
      refine wpAnyD_pure (i := 3) (v := ?_) rfl hC (by kernel_rfl) (by kernel_rfl) (by kernel_rfl) (by decide) (fun _ _ _ h => h) (Or.inl ⟨by rfl, ?_⟩) (fun _ => hHeld) ?_
      rotate_left
      · intro w hSw
        clear hSw
        go_simp
        try with_reducible rfl
      try simp only [Act.put, List.getElem_toArray, List.getElem_cons_zero, List.getElem_cons_succ, List.setIfInBounds_toArray, List.set_cons_zero, List.set_cons_succ]
      clear hC
      intro hC
      refine wpAnyD_take (i := 4) (v := ?_) 40 rfl (by kernel_rfl) hC (by kernel_rfl) (by kernel_rfl) (by kernel_rfl) (by decide) (fun _ _ _ h => h) (Or.inl ⟨by rfl, ?_⟩) (fun _ => hHeld) ?_
      rotate_left
      · intro w hSw
        have hz := (show w.cell? ⟨g, 0, none⟩ = some (.int .i64 ((x.st : Nat) : Int)) from by rw [← hSw]; exact HX5.out.cell.1)
        clear hSw
        go_simp
        try with_reducible rfl
      try simp only [Act.put, List.getElem_toArray, List.getElem_cons_zero, List.getElem_cons_succ, List.setIfInBounds_toArray, List.set_cons_zero, List.set_cons_succ]
      clear hC
      intro hC
      refine wpAnyD_pure (i := 5) (v := ?_) rfl hC (by kernel_rfl) (by kernel_rfl) (by kernel_rfl) (by decide) (fun _ _ _ h => h) (Or.inl ⟨by rfl, ?_⟩) (fun _ => hHeld) ?_
      rotate_left
      · intro w hSw
        clear hSw
        go_simp
        try with_reducible rfl
      try simp only [Act.put, List.getElem_toArray, List.getElem_cons_zero, List.getElem_cons_succ, List.setIfInBounds_toArray, List.set_cons_zero, List.set_cons_succ]
      clear hC
      intro hC
      refine wpAnyD_one (i := 6) (by kernel_rfl) rfl hC (fun K hK => ?_)
      clear hC
      go_simp
      refine (tz_any (wdW F) HWL.out HNZ.out w5 (hHeld ▸ HT5.out)).mono ?_
      rintro e' wz1 ⟨rfl, hwz1⟩
      subst hwz1
      rw [HCT.out]
      have hHeld2 := hHeld
      clear hHeld
      have hHeld := hHeld2
      clear hHeld2
      refine hK.out _ _ (fun _ => hHeld) (fun hC => ?_)
      clear hK K
      try simp only [Act.put, List.getElem_toArray, List.getElem_cons_zero, List.getElem_cons_succ, List.setIfInBounds_toArray, List.set_cons_zero, List.set_cons_succ]
      refine wpAnyD_one (i := 7) (by kernel_rfl) rfl hC (fun K hK => ?_)
      clear hC
      go_simp
      refine (add_any (x.st : Nat) (f : Nat) w5).mono ?_
      rintro e' wz1 ⟨rfl, hwz1⟩
      subst hwz1
      rw [HRD.out]
      have hHeld2 := hHeld
      clear hHeld
      have hHeld := hHeld2
      clear hHeld2
      refine hK.out _ _ (fun _ => hHeld) (fun hC => ?_)
      clear hK K
      try simp only [Act.put, List.getElem_toArray, List.getElem_cons_zero, List.getElem_cons_succ, List.setIfInBounds_toArray, List.set_cons_zero, List.set_cons_succ]
      refine wpAnyD_one (i := 8) (by kernel_rfl) rfl hC (fun K hK => ?_)
      clear hC
      go_simp
      rw [← hHeld]
      have HA6 := Shut.mk ((Below.refl w5.heap.size w5).alloc (Nat.le_refl _) (Obj.cells #[.int .i64 ((nmW x f : Nat) : Int)] 3 (0, 0)))
      have HN6 := Shut.mk (block_range (MapKept.heap_alloc w5 (Obj.cells #[.int .i64 ((nmW x f : Nat) : Int)] 3 (0, 0))).1)
      have HR6 := Shut.mk (HR5.out.only (S := fun _ => False) (Only.of_quiet HA6.out) (fun _ _ e => e))
      generalize World.alloc w5 _ = wz1 at *
      refine hK.out _ _ (past (by kernel_rfl)) (fun hC => ?_)
      clear hK K
      try simp only [Act.put, List.getElem_toArray, List.getElem_cons_zero, List.getElem_cons_succ, List.setIfInBounds_toArray, List.set_cons_zero, List.set_cons_succ]
      refine wpAnyD_one (i := 9) (by kernel_rfl) rfl hC (fun K hK => ?_)
      clear hC
      refine step_app_n rfl (.tmp 15) (.tmp 23) rfl u3 L rfl HR6.out ((nmW x f : Nat) : Int) ⟨w5.heap.size, 0, none⟩ 1 rfl (fun j q hq => by rw [Addr.add_mid]; exact HN6.out j q hq) HLL.out ?_
      intro v' wz2 hP hO hf
      have HR7 := Shut.mk hP
      have HF7 := Shut.mk hf
      have HO7 := Shut.mk hO
      clear hP hO hf
      refine hK.out _ _ (past (by kernel_rfl)) (fun hC => ?_)
      clear hK K
      try simp only [Act.put, List.getElem_toArray, List.getElem_cons_zero, List.getElem_cons_succ, List.setIfInBounds_toArray, List.set_cons_zero, List.set_cons_succ]
      refine wpAnyD_pure (i := 10) (v := ?_) rfl hC (by kernel_rfl) (by kernel_rfl) (by kernel_rfl) (by decide) (fun _ _ _ h => h) (Or.inl ⟨by rfl, ?_⟩) (past (by kernel_rfl)) ?_
      rotate_left
      · intro w hSw
        clear hSw
        go_simp
        try with_reducible rfl
      try simp only [Act.put, List.getElem_toArray, List.getElem_cons_zero, List.getElem_cons_succ, List.setIfInBounds_toArray, List.set_cons_zero, List.set_cons_succ]
      clear hC
      intro hC
      refine wpAnyD_done (by kernel_rfl) ?_ _
      try simp only [Act.put, List.getElem_toArray, List.getElem_cons_zero, List.getElem_cons_succ, List.setIfInBounds_toArray, List.set_cons_zero, List.set_cons_succ]
      clear hHeld hC
      obtain ⟨wn, hwn⟩ : ∃ wn, wn = wz2 := ⟨_, rfl⟩
      have HBN := Shut.mk (show Below w.heap.size w wn by
        rw [hwn]
        have h1 := HB5.out.trans (HA6.out.mono HB5.out.size)
        exact h1.trans (HO7.out.below (fun i hi e => by have := HFR.out i e; omega) h1.size))
      have HRN := Shut.mk (show RowN wn v' ((x.ds.take (k + 1)).map fun d => ((nmW x d : Nat) : Int)) by
        rw [hwn, HFT.out.1, List.map_append, ← HL.out]
        exact HR7.out)
      have HFN := Shut.mk (show ∀ j, v'.ownBlock = some j → w.heap.size ≤ j from fun j hj => by
        rcases HF7.out j hj with h1 | h1
        · exact HFR.out j h1
        · have := HB5.out.size; have := HA6.out.size; omega)
      rw [← hwn]
      clear hwn HR7 HF7 HO7 HA6 HN6 HR6
      have hal := HAL.out
      have hp1 : (1 : Int) ≤ ((wdW F : Nat) : Int) := by have := HNZ.out; omega
      have hp2 : ((wdW F : Nat) : Int) < 18446744073709551616 := by have := HWL.out; omega
      go_wp2_with (fail)
      go_roundw
      case rel => exact ⟨k + 1, HK.out, by rw [HFT.out.2], HRN.out, HFN.out, HBN.out⟩
      case measure => have := HLS.out; simp [intOf]; omega
    · have e : x.ds.drop k = [] := List.drop_eq_nil_of_le (by omega)
      have hz : (((wdW (x.ds.drop k) : Nat) : Int) != 0) = false := by rw [e]; rfl
      have e2 : (x.ds.take k) = x.ds := List.take_of_length_le (by omega)
      rw [e2] at hr
      have HR := Shut.mk (show RowN wr u3 (outI x) from hr)
      have HF := Shut.mk hf
      have HB := Shut.mk hb
      clear hr hf hb e e2
      generalize wdW (x.ds.drop k) = u at *
      go_wp2_with (fail)
      go_ret
      exact ⟨_, rfl, HR.out, HF.out, HB.out⟩
end Go.Proofs.YtempcbjojcebaaaDoor
