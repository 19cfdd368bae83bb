/-
  CONTRACTS of win's Next, isOut, Done.
-/
import Derived.Test.YtlbfioknkagboaaDoorWinA
namespace Go.Proofs.YtlbfioknkagboaaDoor
open Go.ChangeShapes Go.WideShapes Go.ChangeAt Go.RowKit Go.Deep
set_option linter.unusedVariables false
set_option linter.unusedSimpArgs false

theorem block_of {w wq : World} {n g : Nat} {o : Obj} (hq : World.drewN w n = wq) (hg : w.heap[g]? = some o) : wq.heap[g]? = some o := by subst hq; exact hg
theorem quiet_b {P : Program} {f : FuncId} {args : Array Value} {w : World} {n : Nat} {v u : Value} (hv : v = u)
    (h : Calls P f args (w.drewN n) fun e w' => e = .returned v ∧ w.drewN n = w') : Calls P f args (w.drewN n) fun e w'' => e = .returned u ∧ ∃ m, w'' = w.drewN m := by subst hv; exact quiet_same h
theorem pow_wrap {d : Nat} (hd : d < 64) : IntKind.u64.wrap (2 ^ min d 64) = ((2 ^ d : Nat) : Int) := by
  rw [show min d 64 = d by omega, IntKind.wrap_u64]
  have hp : 2 ^ d < 2 ^ 64 := Nat.pow_lt_pow_right (by decide) hd
  have e : ((2 : Int) ^ d) = ((2 ^ d : Nat) : Int) := by simp
  rw [e]
  generalize 2 ^ d = q at *
  omega
theorem or_word {ds : List Nat} (h : ∀ d ∈ ds, d < 64) {g : Nat} (hg : g < 64) : bits .or .u64 ((wdW ds : Nat) : Int) (IntKind.u64.wrap (2 ^ min g 64)) = ((wdW (ds ++ [g]) : Nat) : Int) := by
  rw [pow_wrap hg, bits_or_u64_nat _ _ (wd_lt h) (Nat.pow_lt_pow_right (by decide) hg : 2 ^ g < 2 ^ 64), wd_snoc]
theorem rd_next (x : Wo) (hg : x.gv < 4095) : rd (((nmW x x.gv : Nat) : Int) + 1) = ((nmW (nextW x) (nextW x).gv : Nat) : Int) := by unfold rd nmW nextW; dsimp only; omega
/-- one field of it turned. -/
theorem IsWin.cell {w : World} {g : Nat} {x : Wo} (h : IsWin w g x) : w.cell? ⟨g, 0, none⟩ = some (.int .i64 ((x.st : Nat) : Int)) ∧ w.cell? ⟨g, 1, none⟩ = some (.int .i64 ((nmW x x.gv : Nat) : Int)) ∧ w.cell? ⟨g, 2, none⟩ = some (.int .i64 ((x.sz : Nat) : Int)) ∧ w.cell? ⟨g, 3, none⟩ = some (.int .u64 ((wdW x.ds : Nat) : Int)) :=
  ⟨by simpa using (block_range h) 0 _ rfl, by simpa using (block_range h) 1 _ rfl, by simpa using (block_range h) 2 _ rfl, by simpa using (block_range h) 3 _ rfl⟩

set_option maxRecDepth 100000 in
set_option maxHeartbeats 4000000 in
theorem next_ok (g : Nat) (x : Wo) (w : World) (hx : IsWin w g x) (hi : InvW x) (hg : x.gv < x.sz) :
    Calls Tryd.prog 35 #[.pointer (some ⟨g, 0, none⟩)] w fun e w' => e = .returned (.tuple #[.int .i64 (nmW x x.gv : Nat), .bool true]) ∧ IsWin w' g (nextW x) ∧ Only (· = g) w w' := by
  obtain ⟨c0, c1, c2, -⟩ := hx.cell
  have HX := Shut.mk hx
  have HI := Shut.mk hi
  have HIN := Shut.mk (fun k => quiet_b (u := .bool true) (by rw [rd_dist x hi.st (by have := hi.sz; omega)]; simp; omega) (in_any (x.st : Nat) (x.sz : Nat) (nmW x x.gv : Nat) (w.drewN k)))
  have HG := Shut.mk hg
  have HV := Shut.mk (or_word hi.lts (show x.gv < 64 by have := hi.sz; omega))
  have HN := Shut.mk (rd_next x (by have := hi.sz; omega))
  clear hx hi hg
  go_enter Tryd.func35, Tryd.ntmps35
  go_wp2_with (fail)
  go_quiet ((go_at_call 57; exact HIN.out _))
  go_wp2_with (fail)
  generalize hq : World.drewN w _ = w5
  have HX5 := Shut.mk (show IsWin w5 g x from block_of hq HX.out)
  have HO5 := Shut.mk (show Only (· = g) w w5 by subst hq; exact Only.of_quiet (below_drewN (Below.refl _ _) _))
  clear hq c0 c1 c2
  obtain ⟨c0, -, -, c3⟩ := HX5.out.cell
  go_still_tail 14, (by kernel_rfl)
  still_call (still_same (dist_any (x.st : Nat) (nmW x x.gv : Nat) _))
  rw [rd_dist x HI.out.st (by have := HI.out.sz; have := HI.out.gv; omega)]
  repeat still_step
  refine wpStill_nil ?_
  rw [HV.out]
  change wpList _ _ _ _ _ (World.drewN w5 1)
  generalize hq : World.drewN w5 1 = w6
  have HX6 := Shut.mk (show IsWin w6 g x from block_of hq HX5.out)
  have HO6 := Shut.mk (show Only (· = g) w w6 by subst hq; exact HO5.out.then_quiet (below_drewN (Below.refl _ _) _))
  clear hq c0 c3
  have HB7 := Shut.mk (setRow_heap w6 g _ #[.int .i64 ((x.st : Nat) : Int), .int .i64 ((nmW x x.gv : Nat) : Int), .int .i64 ((x.sz : Nat) : Int), .int .u64 ((wdW (x.ds ++ [x.gv]) : Nat) : Int)] _ (0, 0) HX6.out)
  have HO7 := Shut.mk (HO6.out.setRow (g := g) (fun _ => rfl) #[.int .i64 ((x.st : Nat) : Int), .int .i64 ((nmW x x.gv : Nat) : Int), .int .i64 ((x.sz : Nat) : Int), .int .u64 ((wdW (x.ds ++ [x.gv]) : Nat) : Int)])
  obtain ⟨w7, hw7⟩ : ∃ w7, w7 = w6.setRow g #[.int .i64 ((x.st : Nat) : Int), .int .i64 ((nmW x x.gv : Nat) : Int), .int .i64 ((x.sz : Nat) : Int), .int .u64 ((wdW (x.ds ++ [x.gv]) : Nat) : Int)] := ⟨_, rfl⟩
  rw [← hw7] at HB7 HO7
  have HW7 := Shut.mk hw7.symm
  clear hw7
  refine wpList_store_into rfl 42 (.tmp 33) (.tmp 31) rfl g 3 (.int .u64 ((wdW (x.ds ++ [x.gv]) : Nat) : Int)) rfl rfl rfl 97 _ #[.int .i64 ((x.st : Nat) : Int), .int .i64 ((nmW x x.gv : Nat) : Int), .int .i64 ((x.sz : Nat) : Int), .int .u64 ((wdW (x.ds ++ [x.gv]) : Nat) : Int)] HX6.out sizeU64 (show 3 < 4 by decide) rfl ?_
  rw [HW7.out]
  go_wp2_with (fail)
  refine (add_any (nmW x x.gv : Nat) 1 _).mono ?_
  rintro e w8 ⟨rfl, rfl⟩
  rw [HN.out]
  go_wp2_with (refine wpList_store_into rfl 3 (.tmp 38) (.tmp 36) rfl g 1 (.int .i64 ((nmW (nextW x) (nextW x).gv : Nat) : Int)) rfl rfl rfl 97 _ #[.int .i64 ((x.st : Nat) : Int), .int .i64 ((nmW (nextW x) (nextW x).gv : Nat) : Int), .int .i64 ((x.sz : Nat) : Int), .int .u64 ((wdW (x.ds ++ [x.gv]) : Nat) : Int)] HB7.out size1i (show 1 < 4 by decide) rfl ?_)
  go_ret2
  exact ⟨rfl, setRow_heap w7 g _ _ _ (0, 0) HB7.out, HO7.out.setRow (g := g) (fun _ => rfl) _⟩
set_option maxRecDepth 100000 in
set_option maxHeartbeats 4000000 in
theorem next_no (g : Nat) (x : Wo) (w : World) (hx : IsWin w g x) (hi : InvW x) (hg : ¬ x.gv < x.sz) :
    Calls Tryd.prog 35 #[.pointer (some ⟨g, 0, none⟩)] w fun e w' => e = .returned (.tuple #[.int .i64 0, .bool false]) ∧ ∃ n, w' = w.drewN n := by
  obtain ⟨c0, c1, c2, -⟩ := hx.cell
  have HIN := Shut.mk (fun k => quiet_b (u := .bool false) (by rw [rd_dist x hi.st (by have := hi.sz; have := hi.gv; omega)]; simp; omega) (in_any (x.st : Nat) (x.sz : Nat) (nmW x x.gv : Nat) (w.drewN k)))
  clear hx hi hg
  go_enter Tryd.func35, Tryd.ntmps35
  go_wp2_with (fail)
  go_quiet ((go_at_call 57; exact HIN.out _))
  go_wp2_with (fail)
  go_ret2
  exact ⟨rfl, _, rfl⟩

/-! ### is it out? -/
theorem nm_of {x : Wo} {s : Nat} (hs : s < 4096) (hst : x.st < 4096) : nmW x ((s + 4096 - x.st) % 4096) = s := by unfold nmW; omega
/-- whether a number, as it is, is out. -/
def outB_ (x : Wo) (s : Int) : Bool := decide (∃ d ∈ x.ds, s = ((nmW x d : Nat) : Int))
theorem shr_and (u k : Nat) (hu : u < 18446744073709551616) : bits .and .u64 (((u / 2 ^ k : Nat)) : Int) 1 = ((u / 2 ^ k % 2 : Nat) : Int) := by
  have h1 : u / 2 ^ k < 18446744073709551616 := Nat.lt_of_le_of_lt (Nat.div_le_self _ _) hu
  have := bits_and_u64_nat (u / 2 ^ k) 1 h1 (by decide)
  rw [Nat.and_one_is_mod] at this
  exact this
theorem out_word {x : Wo} (hi : InvW x) {n d : Nat} (hn : n < 4096) (hd : rd ((n : Int) - (x.st : Int)) = (d : Int)) (hdl : d < 4096) :
    (bits .and .u64 (((wdW x.ds : Nat) : Int) / 2 ^ min d 64) 1 == 1) = outB_ x (n : Int) := by
  have hst := hi.st
  have hn2 : n = nmW x d := by unfold rd at hd; unfold nmW; omega
  have e1 : outB_ x (n : Int) = decide (d ∈ x.ds) := by
    unfold outB_
    rw [decide_eq_decide]
    constructor
    · rintro ⟨c, hc, e⟩
      have hcl := hi.lts c hc
      have : nmW x c = nmW x d := by rw [← hn2]; omega
      have := nm_inj (w := x) (by omega) hdl this
      subst this
      exact hc
    · intro hc
      exact ⟨d, hc, by rw [← hn2]⟩
  rw [e1]
  have e2 : (((wdW x.ds : Nat) : Int) / 2 ^ min d 64) = ((wdW x.ds / 2 ^ min d 64 : Nat) : Int) := by
    rw [Int.natCast_ediv]
    congr 1
  rw [e2, shr_and _ _ hi.wd, wd_at]
  by_cases h64 : d < 64
  · rw [show min d 64 = d by omega]
    by_cases hm : d ∈ x.ds <;> simp [hm]
  · have h1 : ¬ d ∈ x.ds := fun h => h64 (hi.lts d h)
    have h2 : ¬ min d 64 ∈ x.ds := fun h => by have := hi.lts _ h; omega
    simp [h1, h2]
set_option maxRecDepth 100000 in
set_option maxHeartbeats 4000000 in
theorem isOut_any (g : Nat) (x : Wo) (s : Int) (w : World) (hx : IsWin w g x) (hi : InvW x) :
    Calls Tryd.prog 68 #[.pointer (some ⟨g, 0, none⟩), .int .i64 s] w fun e w' => e = .returned (.bool (outB_ x s)) ∧ ∃ n, w' = w.drewN n := by
  by_cases h : 0 ≤ s ∧ s < 4096
  · obtain ⟨c0, -, -, c3⟩ := hx.cell
    obtain ⟨n, rfl⟩ := Int.eq_ofNat_of_zero_le h.1
    have t1 : ¬ ((n : Int)) < 0 := by omega
    have t2 : (n : Int) < 4096 := by omega
    have hd0 := rd_lo ((n : Int) - (x.st : Int))
    have hd1 := rd_hi ((n : Int) - (x.st : Int))
    obtain ⟨d, hd⟩ := Int.eq_ofNat_of_zero_le hd0
    rw [hd] at hd1
    have hdl : d < 4096 := by omega
    have HW := Shut.mk (out_word hi (by omega) hd hdl)
    have HD := Shut.mk (fun k => quiet_b (congrArg (Value.int .i64) hd) (dist_any (x.st : Nat) (n : Nat) (w.drewN k)))
    clear hx hd hd0 hd1
    go_enter Tryd.func68, Tryd.ntmps68
    go_wp2_with (fail)
    go_quiet ((go_at_call 50; exact HD.out _))
    rw [HW.out]
    go_wp2_with (fail)
    go_ret
    exact ⟨rfl, _, rfl⟩
  · have HF := Shut.mk (show outB_ x s = false by
      unfold outB_
      simp only [decide_eq_false_iff_not]
      rintro ⟨d, -, e⟩
      have := nm_lt x d
      omega)
    by_cases h0 : s < 0
    · clear h hx
      go_enter Tryd.func68, Tryd.ntmps68
      go_wp2_with (fail)
      go_ret
      exact ⟨ret_b HF.out, 0, rfl⟩
    · have t2 : ¬ s < 4096 := by omega
      clear h hx
      go_enter Tryd.func68, Tryd.ntmps68
      go_wp2_with (fail)
      go_ret
      exact ⟨ret_b HF.out, 0, rfl⟩

/-! ### Done -/
set_option maxRecDepth 100000 in
set_option maxHeartbeats 4000000 in
theorem done_no (g : Nat) (x : Wo) (s : Int) (w : World) (hx : IsWin w g x) (hi : InvW x) (hs : outB_ x s = false) (E : Nat → Addr) (he : w.cell? ⟨3, 0, none⟩ = some (errP (E 107))) :
    Calls Tryd.prog 60 #[.pointer (some ⟨g, 0, none⟩), .int .i64 s] w fun e w' => e = .returned (errP (E 107)) ∧ ∃ n, w' = w.drewN n := by
  generalize E 107 = er at *
  have HO := Shut.mk (isOut_any g x s w hx hi)
  rw [hs] at HO
  clear hx hi hs
  go_enter Tryd.func60, Tryd.ntmps60
  go_wp2_with (fail)
  refine HO.out.mono ?_
  rintro e w5 ⟨rfl, n, hn⟩
  have he5 : w5.cell? ⟨3, 0, none⟩ = some (errP er) := by rw [hn]; exact he
  have HN := Shut.mk hn
  clear he hn
  go_wp2_with (fail)
  go_ret
  exact ⟨rfl, n, HN.out⟩
/-- behind the bit: the word, the start. -/
theorem filter_head {x : Wo} (hi : InvW x) (d : Nat) {f : Nat} {r : List Nat} (hf : x.ds.filter (fun k => k != d) = f :: r) : Lib.ctz 64 (wdW (f :: r)) = f ∧ f < 64 := by
  have hp := filter_up hi.up d
  have hl : f < 64 := hi.lts f (List.mem_filter.1 (by rw [hf]; exact List.mem_cons_self)).1
  rw [hf] at hp
  exact ⟨wd_ctz hp hl, hl⟩
theorem shr_word {ds : List Nat} (h : ∀ d ∈ ds, d < 64) {n : Nat} (hn : n < 64) (hl : ∀ d ∈ ds, n ≤ d) : ((wdW ds : Nat) : Int) / 2 ^ min n 64 = ((wdW (ds.map fun k => k - n) : Nat) : Int) := by
  rw [show min n 64 = n by omega, ← wd_shift hl, Int.natCast_ediv]
  congr 1
/-- what it is behind that, field by field. -/
theorem done_cells {x : Wo} (hi : InvW x) (d : Nat) : Shut ((doneW x d).st = nmW x (frontW x (x.ds.filter fun k => k != d))) ∧ Shut (nmW (doneW x d) (doneW x d).gv = nmW x x.gv) ∧ Shut ((doneW x d).sz = x.sz) ∧ Shut (wdW (doneW x d).ds = wdW ((x.ds.filter fun k => k != d).map fun k => k - frontW x (x.ds.filter fun k => k != d))) := by
  obtain ⟨f1, f2⟩ := front_le (w := x) (filter_up hi.up d) fun k hk => hi.lt k (List.mem_filter.1 hk).1
  refine ⟨⟨rfl⟩, ⟨?_⟩, ⟨rfl⟩, ⟨rfl⟩⟩
  show ((x.st + frontW x (x.ds.filter fun k => k != d)) % 4096 + (x.gv - frontW x (x.ds.filter fun k => k != d))) % 4096 = (x.st + x.gv) % 4096
  omega
set_option maxRecDepth 100000 in
set_option maxHeartbeats 4000000 in
theorem done_ok (g : Nat) (x : Wo) (d : Nat) (w : World) (hx : IsWin w g x) (hi : InvW x) (hd : d ∈ x.ds) (hT : Tab64 w) (hgt : g ≠ 5) :
    Calls Tryd.prog 60 #[.pointer (some ⟨g, 0, none⟩), .int .i64 (nmW x d : Nat)] w fun e w' => e = .returned .nilIface ∧ IsWin w' g (doneW x d) ∧ Only (· = g) w w' := by
  have HO := Shut.mk (isOut_any g x (nmW x d : Nat) w hx hi)
  rw [show outB_ x ((nmW x d : Nat) : Int) = true by unfold outB_; rw [decide_eq_true_eq]; exact ⟨d, hd, rfl⟩] at HO
  have hd64 := hi.lts d hd
  have HX := Shut.mk hx
  have HI := Shut.mk hi
  have HT := Shut.mk hT
  have HV := Shut.mk (wd_not x.ds hi.lts hd64)
  have HP : Shut (IntKind.u64.wrap (2 ^ d) = ((2 ^ d : Nat) : Int)) := ⟨by have h1 := pow_wrap hd64; rwa [show min d 64 = d by omega] at h1⟩
  have HD := Shut.mk (rd_dist x hi.st (show d < 4096 by omega))
  have HGT := Shut.mk hgt
  have HL := Shut.mk (show ∀ k ∈ x.ds.filter (fun k => k != d), k < 64 from fun k hk => hi.lts k (List.mem_filter.1 hk).1)
  clear hx hi hT hgt
  go_enter Tryd.func60, Tryd.ntmps60
  go_wp2_with (fail)
  refine HO.out.mono ?_
  rintro e w5 ⟨rfl, n, hn⟩
  have HX5 := Shut.mk (show IsWin w5 g x by rw [hn]; exact HX.out)
  have HO5 := Shut.mk (show Only (· = g) w w5 by rw [hn]; exact Only.of_quiet (below_drewN (Below.refl _ _) _))
  clear hn
  obtain ⟨c0, c1, -, c3⟩ := HX5.out.cell
  go_wp2_with (fail)
  go_still_tail 14, (by kernel_rfl)
  still_call (still_same (dist_any (x.st : Nat) (nmW x d : Nat) _))
  rw [HD.out]
  repeat still_step
  refine wpStill_nil ?_
  rw [HP.out, HV.out]
  change wpList _ _ _ _ _ (World.drewN w5 1)
  generalize hq : World.drewN w5 1 = w6
  have HX6 := Shut.mk (show IsWin w6 g x from block_of hq HX5.out)
  have HOw6 := Shut.mk (show Only (· = g) w w6 by subst hq; exact HO5.out.then_quiet (below_drewN (Below.refl _ _) _))
  clear hq c0 c1 c3
  obtain ⟨S1, HS2, HS3, S4⟩ := done_cells HI.out d
  have HFH := Shut.mk (fun f r => filter_head (x := x) HI.out d (f := f) (r := r))
  have HFM := Shut.mk (front_le (w := x) (filter_up HI.out.up d) fun k hk => HI.out.lt k (List.mem_filter.1 hk).1)
  obtain ⟨F, hF⟩ : ∃ F, x.ds.filter (fun k => k != d) = F := ⟨_, rfl⟩
  rw [hF] at HL HFH HFM S1 S4 ⊢
  clear hF
  have HBw7 := Shut.mk (setRow_heap w6 g _ #[.int .i64 ((x.st : Nat) : Int), .int .i64 ((nmW x x.gv : Nat) : Int), .int .i64 ((x.sz : Nat) : Int), .int .u64 ((wdW F : Nat) : Int)] _ (0, 0) HX6.out)
  have HOw7 := Shut.mk (HOw6.out.setRow (g := g) (fun _ => rfl) #[.int .i64 ((x.st : Nat) : Int), .int .i64 ((nmW x x.gv : Nat) : Int), .int .i64 ((x.sz : Nat) : Int), .int .u64 ((wdW F : Nat) : Int)])
  obtain ⟨w7, hw7⟩ : ∃ w', w' = w6.setRow g #[.int .i64 ((x.st : Nat) : Int), .int .i64 ((nmW x x.gv : Nat) : Int), .int .i64 ((x.sz : Nat) : Int), .int .u64 ((wdW F : Nat) : Int)] := ⟨_, rfl⟩
  rw [← hw7] at HBw7 HOw7
  have HWw7 := Shut.mk hw7.symm
  clear hw7
  have HTw7 := Shut.mk (show Tab64 w7 from fun j hj => HOw7.out.cell (HT.out j hj) (fun e => HGT.out e.symm))
  refine wpList_store_into rfl 42 (.tmp 24) (.tmp 22) rfl g 3 (.int .u64 ((wdW F : Nat) : Int)) rfl rfl rfl 97 _ #[.int .i64 ((x.st : Nat) : Int), .int .i64 ((nmW x x.gv : Nat) : Int), .int .i64 ((x.sz : Nat) : Int), .int .u64 ((wdW F : Nat) : Int)] HX6.out sizeU64 (show 3 < 4 by decide) rfl ?_
  rw [HWw7.out]
  have cc3 : w7.cell? ⟨g, 3, none⟩ = some (.int .u64 ((wdW F : Nat) : Int)) := by simpa using (block_range HBw7.out) 3 _ rfl
  by_cases hz0 : wdW F = 0
  · have hFn : F = [] := wd_none hz0
    have HS1 := Shut.mk (show (doneW x d).st = nmW x x.gv by rw [S1.out, hFn]; rfl)
    have HS4 := Shut.mk (show wdW (doneW x d).ds = wdW F by rw [S4.out, hFn]; rfl)
    have hz : (((wdW F : Nat) : Int) == 0) = true := by rw [hz0]; rfl
    have cc1 : w7.cell? ⟨g, 1, none⟩ = some (.int .i64 ((nmW x x.gv : Nat) : Int)) := by simpa using (block_range HBw7.out) 1 _ rfl
    clear hz0 hFn S1 S4
    have HBw8 := Shut.mk (setRow_heap w7 g _ #[.int .i64 ((nmW x x.gv : Nat) : Int), .int .i64 ((nmW x x.gv : Nat) : Int), .int .i64 ((x.sz : Nat) : Int), .int .u64 ((wdW F : Nat) : Int)] _ (0, 0) HBw7.out)
    have HOw8 := Shut.mk (HOw7.out.setRow (g := g) (fun _ => rfl) #[.int .i64 ((nmW x x.gv : Nat) : Int), .int .i64 ((nmW x x.gv : Nat) : Int), .int .i64 ((x.sz : Nat) : Int), .int .u64 ((wdW F : Nat) : Int)])
    obtain ⟨w8, hw8⟩ : ∃ w', w' = w7.setRow g #[.int .i64 ((nmW x x.gv : Nat) : Int), .int .i64 ((nmW x x.gv : Nat) : Int), .int .i64 ((x.sz : Nat) : Int), .int .u64 ((wdW F : Nat) : Int)] := ⟨_, rfl⟩
    rw [← hw8] at HBw8 HOw8
    have HWw8 := Shut.mk hw8.symm
    clear hw8
    go_wp2_with (refine wpList_store_into rfl 3 (.tmp 36) (.tmp 34) rfl g 0 (.int .i64 ((nmW x x.gv : Nat) : Int)) rfl rfl rfl 97 _ #[.int .i64 ((nmW x x.gv : Nat) : Int), .int .i64 ((nmW x x.gv : Nat) : Int), .int .i64 ((x.sz : Nat) : Int), .int .u64 ((wdW F : Nat) : Int)] HBw7.out size1i (show 0 < 4 by decide) rfl ?_; rw [HWw8.out])
    go_ret
    refine ⟨rfl, ?_, HOw8.out⟩
    unfold IsWin
    rw [HS1.out, HS2.out, HS3.out, HS4.out]
    exact HBw8.out
  · obtain ⟨f, r, hFc⟩ : ∃ f r, F = f :: r := by
      cases hF : F with
      | nil => rw [hF] at hz0; exact absurd rfl hz0
      | cons f r => exact ⟨f, r, rfl⟩
    have hfr : frontW x F = f := by rw [hFc]; rfl
    have HS1 := Shut.mk (show (doneW x d).st = nmW x f by rw [S1.out, hfr])
    have HS4 := Shut.mk (show wdW (doneW x d).ds = wdW (F.map fun k => k - f) by rw [S4.out, hfr])
    have HCT := Shut.mk (show Lib.ctz 64 (wdW F) = f by rw [hFc]; exact (HFH.out f r hFc).1)
    have hf64 := (HFH.out f r hFc).2
    have hsh := shr_word HL.out hf64 (by have h1 := HFM.out.2; rw [hfr] at h1; exact h1)
    rw [show min f 64 = f by omega] at hsh
    have hz : (((wdW F : Nat) : Int) == 0) = false := by simpa using hz0
    have HWL := Shut.mk (wd_lt HL.out)
    have HNZ := Shut.mk hz0
    have HRD := Shut.mk (rd_nm x f)
    clear hz0 hFc hfr S1 S4 HFH HFM
    have HBw8 := Shut.mk (setRow_heap w7 g _ #[.int .i64 ((x.st : Nat) : Int), .int .i64 ((nmW x x.gv : Nat) : Int), .int .i64 ((x.sz : Nat) : Int), .int .u64 ((wdW (F.map fun k => k - f) : Nat) : Int)] _ (0, 0) HBw7.out)
    have HOw8 := Shut.mk (HOw7.out.setRow (g := g) (fun _ => rfl) #[.int .i64 ((x.st : Nat) : Int), .int .i64 ((nmW x x.gv : Nat) : Int), .int .i64 ((x.sz : Nat) : Int), .int .u64 ((wdW (F.map fun k => k - f) : Nat) : Int)])
    obtain ⟨w8, hw8⟩ : ∃ w', w' = w7.setRow g #[.int .i64 ((x.st : Nat) : Int), .int .i64 ((nmW x x.gv : Nat) : Int), .int .i64 ((x.sz : Nat) : Int), .int .u64 ((wdW (F.map fun k => k - f) : Nat) : Int)] := ⟨_, rfl⟩
    rw [← hw8] at HBw8 HOw8
    have HWw8 := Shut.mk hw8.symm
    clear hw8
    have HBw9 := Shut.mk (setRow_heap w8 g _ #[.int .i64 ((nmW x f : Nat) : Int), .int .i64 ((nmW x x.gv : Nat) : Int), .int .i64 ((x.sz : Nat) : Int), .int .u64 ((wdW (F.map fun k => k - f) : Nat) : Int)] _ (0, 0) HBw8.out)
    have HOw9 := Shut.mk (HOw8.out.setRow (g := g) (fun _ => rfl) #[.int .i64 ((nmW x f : Nat) : Int), .int .i64 ((nmW x x.gv : Nat) : Int), .int .i64 ((x.sz : Nat) : Int), .int .u64 ((wdW (F.map fun k => k - f) : Nat) : Int)])
    obtain ⟨w9, hw9⟩ : ∃ w', w' = w8.setRow g #[.int .i64 ((nmW x f : Nat) : Int), .int .i64 ((nmW x x.gv : Nat) : Int), .int .i64 ((x.sz : Nat) : Int), .int .u64 ((wdW (F.map fun k => k - f) : Nat) : Int)] := ⟨_, rfl⟩
    rw [← hw9] at HBw9 HOw9
    have HWw9 := Shut.mk hw9.symm
    clear hw9
    go_wp2_with (fail)
    refine (tz_any (wdW F) HWL.out HNZ.out w7 (HTw7.out)).mono ?_
    rintro e wz ⟨rfl, rfl⟩
    rw [HCT.out]
    have cc0 : w8.cell? ⟨g, 0, none⟩ = some (.int .i64 ((x.st : Nat) : Int)) := by simpa using (block_range HBw8.out) 0 _ rfl
    go_wp2_with (refine wpList_store_into rfl 42 (.tmp 49) (.tmp 47) rfl g 3 (.int .u64 ((wdW (F.map fun k => k - f) : Nat) : Int)) rfl rfl rfl 97 _ #[.int .i64 ((x.st : Nat) : Int), .int .i64 ((nmW x x.gv : Nat) : Int), .int .i64 ((x.sz : Nat) : Int), .int .u64 ((wdW (F.map fun k => k - f) : Nat) : Int)] HBw7.out sizeU64 (show 3 < 4 by decide) rfl ?_; rw [HWw8.out])
    refine (add_any (x.st : Nat) (f : Nat) w8).mono ?_
    rintro e wz ⟨rfl, rfl⟩
    rw [HRD.out]
    go_wp2_with (refine wpList_store_into rfl 3 (.tmp 58) (.tmp 56) rfl g 0 (.int .i64 ((nmW x f : Nat) : Int)) rfl rfl rfl 97 _ #[.int .i64 ((nmW x f : Nat) : Int), .int .i64 ((nmW x x.gv : Nat) : Int), .int .i64 ((x.sz : Nat) : Int), .int .u64 ((wdW (F.map fun k => k - f) : Nat) : Int)] HBw8.out size1i (show 0 < 4 by decide) rfl ?_; rw [HWw9.out])
    go_ret
    refine ⟨rfl, ?_, HOw9.out⟩
    unfold IsWin
    rw [HS1.out, HS2.out, HS3.out, HS4.out]
    exact HBw9.out
end Go.Proofs.YtlbfioknkagboaaDoor
