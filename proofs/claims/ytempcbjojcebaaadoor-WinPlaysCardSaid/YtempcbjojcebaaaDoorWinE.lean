/-
  THE REFERENCE's WINDOW: Next, Done, Resize.
-/
import Derived.Test.YtempcbjojcebaaaDoorWinD
namespace Go.Proofs.YtempcbjojcebaaaDoor
open Go.ChangeShapes Go.WideShapes Go.ChangeAt Go.RowKit Go.Deep
set_option linter.unusedVariables false
set_option linter.unusedSimpArgs false

theorem outI_next (x : Wo) : outI (nextW x) = outI x ++ [((nmW x x.gv : Nat) : Int)] := by
  unfold outI
  show (x.ds ++ [x.gv]).map _ = _
  rw [List.map_append]
  rfl
set_option maxRecDepth 100000 in
set_option maxHeartbeats 8000000 in
theorem refnext_ok (h : Nat) (v : Value) (x : Wo) (w : World) (hr : IsRw w h v x) (hi : InvW x) (hg : x.gv < x.sz) :
    Calls Tryd.prog 15 #[.pointer (some ⟨h, 0, none⟩)] w fun e w' => e = .returned (.tuple #[.int .i64 (nmW x x.gv : Nat), .bool true]) ∧ ∃ v', IsRw w' h v' (nextW x) ∧ RwS w h v w' v' := by
  obtain ⟨c0, c1, c2, c3⟩ := hr.cell
  have HX := Shut.mk hr
  have HI := Shut.mk hi
  have t1 : decide ((x.sz : Int) ≤ (x.gv : Int)) = false := by simp; omega
  have t2 : decide (x.sz ≤ x.gv) = false := by simp; omega
  obtain ⟨n1, hn1⟩ : ∃ n1, n1 = x.gv + 1 := ⟨_, rfl⟩
  have HN1 := Shut.mk hn1
  have y5 : IntKind.i64.wrap ((x.gv : Int) + 1) = (n1 : Int) := by rw [IntWalk.i64_in _ ⟨by omega, by have := hi.gv; have := hi.sz; omega⟩]; omega
  have HLL := Shut.mk (show (outI x).length ≤ 1000000 by rw [outI_len]; have := out_len hi; have := hi.gv; have := hi.sz; omega)
  clear hr hi hg hn1
  go_enter Tryd.func15, Tryd.ntmps15
  go_wp2_with (fail)
  go_quiet (fail)
  go_wp2_with (fail)
  generalize hq : World.drewN w _ = w5
  have HX5 := Shut.mk (show IsRw w5 h v x by rw [← hq]; exact HX.out.quiet (below_drewN (Below.refl _ _) _))
  have HB5 := Shut.mk (show Below w.heap.size w w5 by rw [← hq]; exact below_drewN (Below.refl _ _) _)
  clear hq c0 c1 c2 c3
  refine (refahead_any h v x w5 HX5.out HI.out).mono ?_
  rintro e w6 ⟨rfl, n, hn⟩
  have HX6 := Shut.mk (show IsRw w6 h v x by rw [hn]; exact HX5.out.quiet (below_drewN (Below.refl _ _) _))
  have HB6 := Shut.mk (show Below w.heap.size w w6 by rw [hn]; exact below_drewN HB5.out n)
  clear hn HX5 HB5
  obtain ⟨-, c1, -, -⟩ := HX6.out.cell
  have HBw7 := Shut.mk (setRow_heap w6 h _ #[.int .i64 ((x.st : Nat) : Int), .int .i64 ((n1 : Nat) : Int), .int .i64 ((x.sz : Nat) : Int), v] _ (0, 0) HX6.out.blk)
  have HSw7 := Shut.mk (only_setRow w6 h #[.int .i64 ((x.st : Nat) : Int), .int .i64 ((n1 : Nat) : Int), .int .i64 ((x.sz : Nat) : Int), v])
  obtain ⟨w7, hw7⟩ : ∃ w', w' = w6.setRow h #[.int .i64 ((x.st : Nat) : Int), .int .i64 ((n1 : Nat) : Int), .int .i64 ((x.sz : Nat) : Int), v] := ⟨_, rfl⟩
  rw [← hw7] at HBw7 HSw7
  have HWw7 := Shut.mk hw7.symm
  clear hw7
  have c3 : w7.cell? ⟨h, 3, none⟩ = some v := by simpa using (block_range HBw7.out) 3 _ rfl
  have HR7 := Shut.mk (HX6.out.row.only HSw7.out (fun k hk e => HX6.out.ap k hk e))
  have HA := Shut.mk ((Below.refl w7.heap.size w7).alloc (Nat.le_refl _) (Obj.cells #[.int .i64 ((nmW x x.gv : Nat) : Int)] 3 (0, 0)))
  have HR8 := Shut.mk (HR7.out.only (S := fun _ => False) (Only.of_quiet HA.out) (fun _ _ e => e))
  have HN8 := Shut.mk (one_new w7 ((nmW x x.gv : Nat) : Int))
  have HBA := Shut.mk ((HA.out.block _ (lt_blk HBw7.out)).trans HBw7.out)
  go_wp2_with (first
    | (refine wpList_store_into rfl 3 (.tmp 23) (.tmp 21) rfl h 1 (.int .i64 ((n1 : Nat) : Int)) rfl rfl rfl 41 _ #[.int .i64 ((x.st : Nat) : Int), .int .i64 ((n1 : Nat) : Int), .int .i64 ((x.sz : Nat) : Int), v] HX6.out.blk size1i (show 1 < 4 by decide) rfl ?_; rw [HWw7.out])
    | (at_builtin; refine wpList_app_n rfl (.tmp 28) (.tmp 30) rfl v (outI x) rfl HR8.out ((nmW x x.gv : Nat) : Int) ⟨w7.heap.size, 0, none⟩ 1 rfl HN8.out HLL.out ?_; intro v' w9 hP hO hF; have HP := Shut.mk hP; have HF := Shut.mk hF; have HO := Shut.mk hO; have HB9 := Shut.mk (hO.at_ HBA.out (fun e => HX6.out.ap _ e rfl)); clear hP hO hF)
    | (refine wpList_store_into rfl 39 (.tmp 33) (.tmp 31) rfl h 3 v' rfl rfl HP.out.one 41 _ #[.int .i64 ((x.st : Nat) : Int), .int .i64 ((n1 : Nat) : Int), .int .i64 ((x.sz : Nat) : Int), v'] HB9.out size1N (show 3 < 4 by decide) rfl ?_))
  go_ret2
  refine ⟨rfl, v', ?_, ?_⟩
  · have hgv : ∀ k, v'.ownBlock = some k → k ≠ h := fun k hk e => by
      rcases HF.out k hk with h1 | h1
      · exact HX6.out.ap k h1 e
      · have := lt_blk HBA.out; have := lt_blk HBw7.out; omega
    refine ⟨?_, ?_, hgv⟩
    · have hb := setRow_heap w9 h _ #[.int .i64 ((x.st : Nat) : Int), .int .i64 ((n1 : Nat) : Int), .int .i64 ((x.sz : Nat) : Int), v'] _ (0, 0) HB9.out
      show _ = some (Obj.cells #[.int .i64 ((x.st : Nat) : Int), .int .i64 ((x.gv + 1 : Nat) : Int), .int .i64 ((x.sz : Nat) : Int), v'] 41 (0, 0))
      rw [← HN1.out]
      exact hb
    · rw [outI_next]
      exact HP.out.only (only_setRow w9 h #[.int .i64 ((x.st : Nat) : Int), .int .i64 ((n1 : Nat) : Int), .int .i64 ((x.sz : Nat) : Int), v']) (fun k hk e => hgv k hk e)
  · have h1 : Only (FootR h v) w w7 := (Only.of_quiet (S := FootR h v) HB6.out).trans HSw7.out (fun i _ e => .inl e)
    have h2 : Only (FootR h v) w (w7.alloc (Obj.cells #[.int .i64 ((nmW x x.gv : Nat) : Int)] 3 (0, 0))) := h1.then_quiet HA.out
    have h3 : Only (FootR h v) w w9 := h2.trans HO.out (fun i _ e => .inr e)
    refine ⟨h3.setRow (g := h) (fun _ => .inl rfl) _, fun k hk => ?_⟩
    rcases hk with rfl | hk
    · exact .inl (.inl rfl)
    · rcases HF.out k hk with e | e
      · exact .inl (.inr e)
      · have := h2.size; exact .inr (by omega)
set_option maxRecDepth 100000 in
set_option maxHeartbeats 8000000 in
theorem refnext_no (h : Nat) (v : Value) (x : Wo) (w : World) (hr : IsRw w h v x) (hg : ¬ x.gv < x.sz) :
    Calls Tryd.prog 15 #[.pointer (some ⟨h, 0, none⟩)] w fun e w' => e = .returned (.tuple #[.int .i64 0, .bool false]) ∧ ∃ n, w' = w.drewN n := by
  obtain ⟨c0, c1, c2, c3⟩ := hr.cell
  have t1 : decide ((x.sz : Int) ≤ (x.gv : Int)) = true := by simp; omega
  have t2 : decide (x.sz ≤ x.gv) = true := by simp; omega
  clear hr hg
  go_enter Tryd.func15, Tryd.ntmps15
  go_wp2_with (fail)
  go_quiet (fail)
  go_wp2_with (fail)
  go_ret2
  exact ⟨rfl, _, rfl⟩

/-! ### Resize -/
set_option maxRecDepth 100000 in
set_option maxHeartbeats 8000000 in
theorem refresize_range (h : Nat) (n : Int) (w : World) (hn : fitB n = false) :
    Calls Tryd.prog 20 #[.pointer (some ⟨h, 0, none⟩), .int .i64 n] w fun e w' => e = .returned (.int .i64 103) ∧ w = w' := by
  by_cases h1 : n < 1
  · clear hn
    go_enter Tryd.func20, Tryd.ntmps20
    go_wp2
    go_ret
    exact ⟨rfl, rfl⟩
  · have h2 : 64 < n := by
      unfold fitB at hn
      simp at hn
      omega
    clear hn
    go_enter Tryd.func20, Tryd.ntmps20
    go_wp2
    go_ret
    exact ⟨rfl, rfl⟩
set_option maxRecDepth 100000 in
set_option maxHeartbeats 8000000 in
theorem refresize_state (h : Nat) (v : Value) (x : Wo) (n : Int) (w : World) (hr : IsRw w h v x) (hn : fitB n = true) (hd : x.ds ≠ []) :
    Calls Tryd.prog 20 #[.pointer (some ⟨h, 0, none⟩), .int .i64 n] w fun e w' => e = .returned (.int .i64 110) ∧ w = w' := by
  obtain ⟨-, -, -, c3⟩ := hr.cell
  obtain ⟨A, c, rfl, hc, -⟩ := hr.row.form
  have h1 : ¬ n < 1 := by unfold fitB at hn; simp at hn; omega
  have h2 : ¬ 64 < n := by unfold fitB at hn; simp at hn; omega
  have hp : 0 < (outI x).length := by
    rw [outI_len]
    exact List.length_pos_iff.2 hd
  generalize (outI x).length = l at *
  have hp2 : (0 : Int) < (l : Int) := by omega
  clear hr hn hd
  go_enter Tryd.func20, Tryd.ntmps20
  go_wp2
  go_ret
  exact ⟨rfl, rfl⟩
set_option maxRecDepth 100000 in
set_option maxHeartbeats 8000000 in
theorem refresize_ok (h : Nat) (v : Value) (x : Wo) (n : Nat) (w : World) (hr : IsRw w h v x) (hn : fitB (n : Int) = true) (hd : x.ds = []) :
    Calls Tryd.prog 20 #[.pointer (some ⟨h, 0, none⟩), .int .i64 (n : Nat)] w fun e w' => e = .returned (.int .i64 0) ∧ IsRw w' h v ⟨x.st, x.gv, n, x.ds⟩ ∧ RwS w h v w' v := by
  obtain ⟨-, -, -, c3⟩ := hr.cell
  obtain ⟨A, c, hv, hc, -⟩ := hr.row.form
  have hl : (outI x).length = 0 := by rw [outI_len, hd]; rfl
  rw [hl] at hv
  subst hv
  have h1 : ¬ (n : Int) < 1 := by unfold fitB at hn; simp at hn; omega
  have h2 : ¬ 64 < (n : Int) := by unfold fitB at hn; simp at hn; omega
  have HX := Shut.mk hr
  have HBw7 := Shut.mk (setRow_heap w h _ #[.int .i64 ((x.st : Nat) : Int), .int .i64 ((x.gv : Nat) : Int), .int .i64 ((n : Nat) : Int), Value.slice A 0 c] _ (0, 0) HX.out.blk)
  have HSw7 := Shut.mk (only_setRow w h #[.int .i64 ((x.st : Nat) : Int), .int .i64 ((x.gv : Nat) : Int), .int .i64 ((n : Nat) : Int), Value.slice A 0 c])
  obtain ⟨w7, hw7⟩ : ∃ w', w' = w.setRow h #[.int .i64 ((x.st : Nat) : Int), .int .i64 ((x.gv : Nat) : Int), .int .i64 ((n : Nat) : Int), Value.slice A 0 c] := ⟨_, rfl⟩
  rw [← hw7] at HBw7 HSw7
  have HWw7 := Shut.mk hw7.symm
  clear hw7
  clear hr hn hd hl hc
  go_enter Tryd.func20, Tryd.ntmps20
  go_wp2_with (refine wpList_store_into rfl 3 (.tmp 20) (.tmp 18) rfl h 2 (.int .i64 ((n : Nat) : Int)) rfl rfl rfl 41 _ #[.int .i64 ((x.st : Nat) : Int), .int .i64 ((x.gv : Nat) : Int), .int .i64 ((n : Nat) : Int), Value.slice A 0 c] HX.out.blk size1i (show 2 < 4 by decide) rfl ?_; rw [HWw7.out])
  go_ret
  exact ⟨rfl, ⟨HBw7.out, HX.out.row.only HSw7.out (fun k hk e => HX.out.ap k hk e), HX.out.ap⟩, HSw7.out.mono (fun i _ e => .inl e), fun k hk => .inl hk⟩
end Go.Proofs.YtempcbjojcebaaaDoor
