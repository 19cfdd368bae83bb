/-
  CONTRACTS of ba's New, Ask, Answer, End, Lost, Heard, Barred.
-/
import Derived.Test.YtlbfioknkagboaaDoorSeG
namespace Go.Proofs.YtlbfioknkagboaaDoor
open Go.ChangeShapes Go.WideShapes Go.ChangeAt Go.RowKit Go.Deep
set_option linter.unusedVariables false
set_option linter.unusedSimpArgs false

def newB (size retry : Nat) (life : Int) : Sb := ⟨size, retry, life, 1, 0, newW 0 1, [], false, 0, 0⟩
theorem invB_new {size retry : Nat} {life : Int} (h1 : 1 ≤ size) (h2 : size ≤ 64) (h3 : retry ≤ 15) (h4 : 1 ≤ life) (h5 : life ≤ 1099511627776) : InvB (newB size retry life) := ⟨InvX.new (by decide) (by decide) (by decide), ⟨h1, h2⟩, h3, ⟨h4, h5⟩⟩
set_option maxRecDepth 100000 in
set_option maxHeartbeats 4000000 in
theorem newS_any (size retry : Nat) (life : Int) (h1 : 1 ≤ size) (h2 : size ≤ 64) (h3 : retry ≤ 15) (h4 : 1 ≤ life) (h5 : life ≤ 1099511627776) (B : Nat) (w : World) (hB : B ≤ w.heap.size) :
    Calls Tryd.prog 11 #[.int .i64 ((size : Nat) : Int), .int .i64 ((retry : Nat) : Int), .int .i64 life] w fun e w' => ∃ p, e = .returned (.tuple #[.pointer (some ⟨p.g, 0, none⟩), .nilIface]) ∧ IsSe B w' p (newB size retry life) ∧ Below w.heap.size w w' := by
  have t1 : ¬ (size : Int) < 1 := by omega
  have t2 : ¬ (64 : Int) < (size : Int) := by omega
  have t3 : ¬ (retry : Int) < 0 := by omega
  have t4 : ¬ (15 : Int) < (retry : Int) := by omega
  have t5 : ¬ life < 1 := by omega
  have t6 : ¬ (1099511627776 : Int) < life := by omega
  have HN := Shut.mk (new_ok 0 1 (by decide) (by decide) (by decide) w)
  go_enter Tryd.func11, Tryd.ntmps11
  go_wp2_with (fail)
  refine HN.out.mono ?_
  rintro e w1 ⟨rfl, hx, hb⟩
  have HX := Shut.mk hx
  have HBB := Shut.mk hb
  have HLT := Shut.mk hx.lt
  obtain ⟨gw, hgw⟩ : ∃ g, g = w.heap.size := ⟨_, rfl⟩
  rw [← hgw] at HX HLT ⊢
  have HGW := Shut.mk hgw
  clear hx hb hgw HN
  have HA := Shut.mk ((Below.refl w1.heap.size w1).alloc (Nat.le_refl _) (Obj.cells #[.int .i64 ((size : Nat) : Int), .int .i64 ((retry : Nat) : Int), .int .i64 life, .int .i64 1, .int .i64 0, .pointer (some ⟨gw, 0, none⟩), .slice none 0 0, .bool false, .int .i64 0, .int .i64 0] 80 (0, 0)))
  have HG := Shut.mk (MapKept.heap_alloc w1 (Obj.cells #[.int .i64 ((size : Nat) : Int), .int .i64 ((retry : Nat) : Int), .int .i64 life, .int .i64 1, .int .i64 0, .pointer (some ⟨gw, 0, none⟩), .slice none 0 0, .bool false, .int .i64 0, .int .i64 0] 80 (0, 0))).1
  go_wp2_with (fail)
  generalize World.alloc w1 _ = w2 at *
  generalize hg : w1.heap.size = g at *
  have HGG := Shut.mk hg
  clear hg
  go_ret2
  have h8 := HLT.out
  have h9 := HGW.out
  refine ⟨⟨g, gw, .slice none 0 0⟩, rfl, ⟨HG.out, HX.out.below (by rw [HGG.out]; exact HA.out), OwnS.nil _ _ _, ?_, (fun k hk => by cases hk), ?_⟩, HBB.out.trans (HA.out.mono (by rw [← HGG.out]; exact HBB.out.size))⟩
  · show g ≠ gw
    omega
  · have h10 := HBB.out.size
    rw [HGG.out] at h10
    exact ⟨show B ≤ g by omega, show B ≤ gw by omega⟩
section
variable {B : Nat} {w : World} {p : Sp} {s : Sb}

/-! ### Ask -/
set_option maxRecDepth 100000 in
set_option maxHeartbeats 4000000 in
theorem ask_ok (h : IsSe B w p s) (tok : Int) (h0 : 0 ≤ tok) (h1 : tok ≤ 255) (hs : s.state = 1) (hl : s.l = []) :
    Calls Tryd.prog 12 #[.pointer (some ⟨p.g, 0, none⟩), .int .i64 tok] w fun e w' => e = .returned (.tuple #[.int .i64 ((nmW s.x s.x.gv : Nat) : Int), .nilIface]) ∧ IsSe B w' p { s with state := 2, token := tok } ∧ Only (FootS p) w w' := by
  obtain ⟨A, cp, hv, -⟩ := owns_form h.row.1
  obtain ⟨-, -, -, c3, -, -, c6, -⟩ := h.cells
  rw [hv, hl] at c6
  rw [hs] at c3
  have HSE := Shut.mk h
  have HBw := Shut.mk (show w.heap[p.g]? = some (.cells #[.int .i64 ((s.size : Nat) : Int), .int .i64 ((s.retry : Nat) : Int), .int .i64 s.life, .int .i64 ((s.state : Nat) : Int), .int .i64 s.token, .pointer (some ⟨p.gw, 0, none⟩), p.v, .bool s.ask, .int .i64 ((s.fr : Nat) : Int), .int .i64 ((s.vain : Nat) : Int)] 80 (0, 0)) from h.blk)
  have t1 : ¬ tok < 0 := by omega
  have t2 : ¬ (255 : Int) < tok := by omega
  clear h hv hs
  have HBwa := Shut.mk (setRow_heap w p.g _ #[.int .i64 ((s.size : Nat) : Int), .int .i64 ((s.retry : Nat) : Int), .int .i64 s.life, .int .i64 2, .int .i64 s.token, .pointer (some ⟨p.gw, 0, none⟩), p.v, .bool s.ask, .int .i64 ((s.fr : Nat) : Int), .int .i64 ((s.vain : Nat) : Int)] _ (0, 0) HBw.out)
  have HOwa := Shut.mk (only_setRow w p.g #[.int .i64 ((s.size : Nat) : Int), .int .i64 ((s.retry : Nat) : Int), .int .i64 s.life, .int .i64 2, .int .i64 s.token, .pointer (some ⟨p.gw, 0, none⟩), p.v, .bool s.ask, .int .i64 ((s.fr : Nat) : Int), .int .i64 ((s.vain : Nat) : Int)])
  obtain ⟨wa, hwa⟩ : ∃ wa, wa = w.setRow p.g #[.int .i64 ((s.size : Nat) : Int), .int .i64 ((s.retry : Nat) : Int), .int .i64 s.life, .int .i64 2, .int .i64 s.token, .pointer (some ⟨p.gw, 0, none⟩), p.v, .bool s.ask, .int .i64 ((s.fr : Nat) : Int), .int .i64 ((s.vain : Nat) : Int)] := ⟨_, rfl⟩
  rw [← hwa] at HBwa HOwa
  have HWwa := Shut.mk hwa.symm
  clear hwa
  have HBwb := Shut.mk (setRow_heap wa p.g _ #[.int .i64 ((s.size : Nat) : Int), .int .i64 ((s.retry : Nat) : Int), .int .i64 s.life, .int .i64 2, .int .i64 tok, .pointer (some ⟨p.gw, 0, none⟩), p.v, .bool s.ask, .int .i64 ((s.fr : Nat) : Int), .int .i64 ((s.vain : Nat) : Int)] _ (0, 0) HBwa.out)
  have HOwb := Shut.mk (only_setRow wa p.g #[.int .i64 ((s.size : Nat) : Int), .int .i64 ((s.retry : Nat) : Int), .int .i64 s.life, .int .i64 2, .int .i64 tok, .pointer (some ⟨p.gw, 0, none⟩), p.v, .bool s.ask, .int .i64 ((s.fr : Nat) : Int), .int .i64 ((s.vain : Nat) : Int)])
  obtain ⟨wb, hwb⟩ : ∃ wb, wb = wa.setRow p.g #[.int .i64 ((s.size : Nat) : Int), .int .i64 ((s.retry : Nat) : Int), .int .i64 s.life, .int .i64 2, .int .i64 tok, .pointer (some ⟨p.gw, 0, none⟩), p.v, .bool s.ask, .int .i64 ((s.fr : Nat) : Int), .int .i64 ((s.vain : Nat) : Int)] := ⟨_, rfl⟩
  rw [← hwb] at HBwb HOwb
  have HWwb := Shut.mk hwb.symm
  clear hwb
  have HX2 := Shut.mk ((HSE.out.win.only HOwa.out (fun e => HSE.out.ne e.symm)).only HOwb.out (fun e => HSE.out.ne e.symm))
  have HO2 := Shut.mk (HOwa.out.trans HOwb.out fun i _ e => e)
  have d5 : wb.cell? ⟨p.g, 5, none⟩ = some (.pointer (some ⟨p.gw, 0, none⟩)) := by have h9 := block_range HBwb.out 5 _ rfl; rw [Nat.zero_add] at h9; exact h9
  go_enter Tryd.func12, Tryd.ntmps12
  go_wp2_with (first
    | (refine wpList_store_into rfl 3 (.tmp 31) (.const (.int .i64 2)) rfl p.g 3 (.int .i64 2) rfl rfl rfl 80 _ #[.int .i64 ((s.size : Nat) : Int), .int .i64 ((s.retry : Nat) : Int), .int .i64 s.life, .int .i64 2, .int .i64 s.token, .pointer (some ⟨p.gw, 0, none⟩), p.v, .bool s.ask, .int .i64 ((s.fr : Nat) : Int), .int .i64 ((s.vain : Nat) : Int)] HBw.out size1i (by show 3 < 10; omega) rfl ?_; rw [HWwa.out])
    | (refine wpList_store_into rfl 3 (.tmp 33) (.tmp 29) rfl p.g 4 (.int .i64 tok) rfl rfl rfl 80 _ #[.int .i64 ((s.size : Nat) : Int), .int .i64 ((s.retry : Nat) : Int), .int .i64 s.life, .int .i64 2, .int .i64 tok, .pointer (some ⟨p.gw, 0, none⟩), p.v, .bool s.ask, .int .i64 ((s.fr : Nat) : Int), .int .i64 ((s.vain : Nat) : Int)] HBwa.out size1i (by show 4 < 10; omega) rfl ?_; rw [HWwb.out]))
  refine (ahead_any p.gw s.x wb HX2.out).mono ?_
  rintro e w5 ⟨rfl, rfl⟩
  go_wp2_with (fail)
  go_ret2
  exact ⟨rfl, ⟨HBwb.out, HX2.out, own_only HSE.out.row HO2.out (fun g hg e => (HSE.out.ng g hg).1 e), HSE.out.ne, HSE.out.ng, HSE.out.lo⟩, HO2.out.mono fun i _ e => .inl e⟩
set_option maxRecDepth 100000 in
set_option maxHeartbeats 4000000 in
theorem ask_no (h : IsSe B w p s) (tok : Int) (h0 : 0 ≤ tok) (h1 : tok ≤ 255) (hs : s.state = 1) (hl : 0 < s.l.length) (E : Nat → Addr) (he : w.cell? ⟨1, 0, none⟩ = some (errP (E 110))) :
    Calls Tryd.prog 12 #[.pointer (some ⟨p.g, 0, none⟩), .int .i64 tok] w fun e w' => e = .returned (.tuple #[.int .i64 0, errP (E 110)]) ∧ ∃ n, w' = w.drewN n := by
  generalize E 110 = er at *
  obtain ⟨A, cp, hv, -⟩ := owns_form h.row.1
  obtain ⟨-, -, -, c3, -, -, c6, -⟩ := h.cells
  rw [hv] at c6
  rw [hs] at c3
  generalize s.l.length = n at *
  have t1 : ¬ tok < 0 := by omega
  have t2 : ¬ (255 : Int) < tok := by omega
  have t3 : (0 : Int) < (n : Int) := by omega
  clear h hv hs
  go_enter Tryd.func12, Tryd.ntmps12
  go_wp2_with (fail)
  go_quiet (fail)
  go_wp2_with (fail)
  go_ret2
  exact ⟨rfl, _, rfl⟩

/-! ### Answer -/
set_option maxRecDepth 100000 in
set_option maxHeartbeats 4000000 in
theorem answer_no (h : IsSe B w p s) (tok st sz : Int) (hs : s.state ≠ 2 ∨ tok ≠ s.token) (E : Nat → Addr) (he : w.cell? ⟨1, 0, none⟩ = some (errP (E 110))) :
    Calls Tryd.prog 13 #[.pointer (some ⟨p.g, 0, none⟩), .int .i64 tok, .int .i64 st, .int .i64 sz] w fun e w' => e = .returned (errP (E 110)) ∧ w = w' := by
  generalize E 110 = er at *
  obtain ⟨-, -, -, c3, c4, -⟩ := h.cells
  clear h
  generalize s.state = a at *
  generalize s.token = b at *
  by_cases h2 : a = 2
  · subst h2
    have h3 : (tok != b) = true := by simp; omega
    clear hs
    go_enter Tryd.func13, Tryd.ntmps13
    go_wp2_with (fail)
    go_ret
    exact ⟨rfl, rfl⟩
  · have h3 : (((a : Nat) : Int) != 2) = true := by simp; omega
    clear hs
    go_enter Tryd.func13, Tryd.ntmps13
    go_wp2_with (fail)
    go_ret
    exact ⟨rfl, rfl⟩
set_option maxRecDepth 100000 in
set_option maxHeartbeats 4000000 in
theorem answer_off (h : IsSe B w p s) (st sz : Int) (hs : s.state = 2) (h1 : st ≠ 0) :
    Calls Tryd.prog 13 #[.pointer (some ⟨p.g, 0, none⟩), .int .i64 s.token, .int .i64 st, .int .i64 sz] w fun e w' => e = .returned .nilIface ∧ IsSe B w' p { s with state := 1 } ∧ Only (FootS p) w w' := by
  obtain ⟨-, -, -, c3, c4, -⟩ := h.cells
  rw [hs] at c3
  have HSE := Shut.mk h
  have HBw := Shut.mk (show w.heap[p.g]? = some (.cells #[.int .i64 ((s.size : Nat) : Int), .int .i64 ((s.retry : Nat) : Int), .int .i64 s.life, .int .i64 ((s.state : Nat) : Int), .int .i64 s.token, .pointer (some ⟨p.gw, 0, none⟩), p.v, .bool s.ask, .int .i64 ((s.fr : Nat) : Int), .int .i64 ((s.vain : Nat) : Int)] 80 (0, 0)) from h.blk)
  have h3 : (st != 0) = true := by simp; omega
  have h4 : (s.token != s.token) = false := by simp
  clear h hs h1
  have HBwa := Shut.mk (setRow_heap w p.g _ #[.int .i64 ((s.size : Nat) : Int), .int .i64 ((s.retry : Nat) : Int), .int .i64 s.life, .int .i64 1, .int .i64 s.token, .pointer (some ⟨p.gw, 0, none⟩), p.v, .bool s.ask, .int .i64 ((s.fr : Nat) : Int), .int .i64 ((s.vain : Nat) : Int)] _ (0, 0) HBw.out)
  have HOwa := Shut.mk (only_setRow w p.g #[.int .i64 ((s.size : Nat) : Int), .int .i64 ((s.retry : Nat) : Int), .int .i64 s.life, .int .i64 1, .int .i64 s.token, .pointer (some ⟨p.gw, 0, none⟩), p.v, .bool s.ask, .int .i64 ((s.fr : Nat) : Int), .int .i64 ((s.vain : Nat) : Int)])
  obtain ⟨wa, hwa⟩ : ∃ wa, wa = w.setRow p.g #[.int .i64 ((s.size : Nat) : Int), .int .i64 ((s.retry : Nat) : Int), .int .i64 s.life, .int .i64 1, .int .i64 s.token, .pointer (some ⟨p.gw, 0, none⟩), p.v, .bool s.ask, .int .i64 ((s.fr : Nat) : Int), .int .i64 ((s.vain : Nat) : Int)] := ⟨_, rfl⟩
  rw [← hwa] at HBwa HOwa
  have HWwa := Shut.mk hwa.symm
  clear hwa
  go_enter Tryd.func13, Tryd.ntmps13
  go_wp2_with (first
    | (refine wpList_store_into rfl 3 (.tmp 27) (.const (.int .i64 1)) rfl p.g 3 (.int .i64 1) rfl rfl rfl 80 _ #[.int .i64 ((s.size : Nat) : Int), .int .i64 ((s.retry : Nat) : Int), .int .i64 s.life, .int .i64 1, .int .i64 s.token, .pointer (some ⟨p.gw, 0, none⟩), p.v, .bool s.ask, .int .i64 ((s.fr : Nat) : Int), .int .i64 ((s.vain : Nat) : Int)] HBw.out size1i (by show 3 < 10; omega) rfl ?_; rw [HWwa.out]))
  go_ret
  exact ⟨rfl, ⟨HBwa.out, HSE.out.win.only HOwa.out (fun e => HSE.out.ne e.symm), own_only HSE.out.row HOwa.out (fun g hg e => (HSE.out.ng g hg).1 e), HSE.out.ne, HSE.out.ng, HSE.out.lo⟩, HOwa.out.mono fun i _ e => .inl e⟩
def sizeA (s : Sb) (sz : Nat) : Nat := if sz = 0 then s.size else min sz s.size
set_option maxRecDepth 100000 in
set_option maxHeartbeats 4000000 in
theorem answer_on (h : IsSe B w p s) (hi : InvB s) (sz : Nat) (hs : s.state = 2) (hl : s.l = []) (h1 : sz ≤ 1023) :
    Calls Tryd.prog 13 #[.pointer (some ⟨p.g, 0, none⟩), .int .i64 s.token, .int .i64 0, .int .i64 ((sz : Nat) : Int)] w fun e w' => e = .returned .nilIface ∧ IsSe B w' p { s with state := 3, x := newW s.x.st (sizeA s sz) } ∧ Only (FootS p) w w' := by
  obtain ⟨c0, -, -, c3, c4, -⟩ := h.cells
  rw [hs] at c3
  have HSE := Shut.mk h
  have HI := Shut.mk hi
  have HBw := Shut.mk (show w.heap[p.g]? = some (.cells #[.int .i64 ((s.size : Nat) : Int), .int .i64 ((s.retry : Nat) : Int), .int .i64 s.life, .int .i64 ((s.state : Nat) : Int), .int .i64 s.token, .pointer (some ⟨p.gw, 0, none⟩), p.v, .bool s.ask, .int .i64 ((s.fr : Nat) : Int), .int .i64 ((s.vain : Nat) : Int)] 80 (0, 0)) from h.blk)
  have h4 : (s.token != s.token) = false := by simp
  have t1 : ¬ (sz : Int) < 0 := by omega
  have t2 : ¬ (1023 : Int) < (sz : Int) := by omega
  have HXE := Shut.mk (show s.x = newW s.x.st s.x.sz by
    have h5 := hi.inv
    rw [hl] at h5
    have h6 := h5.start_nil
    cases hx : s.x with
    | mk a b c d => rw [hx] at h6; dsimp only at h6; rw [h6.1, h6.2]; rfl)
  have HBwa := Shut.mk (setRow_heap w p.g _ #[.int .i64 ((s.size : Nat) : Int), .int .i64 ((s.retry : Nat) : Int), .int .i64 s.life, .int .i64 3, .int .i64 s.token, .pointer (some ⟨p.gw, 0, none⟩), p.v, .bool s.ask, .int .i64 ((s.fr : Nat) : Int), .int .i64 ((s.vain : Nat) : Int)] _ (0, 0) HBw.out)
  have HOwa := Shut.mk (only_setRow w p.g #[.int .i64 ((s.size : Nat) : Int), .int .i64 ((s.retry : Nat) : Int), .int .i64 s.life, .int .i64 3, .int .i64 s.token, .pointer (some ⟨p.gw, 0, none⟩), p.v, .bool s.ask, .int .i64 ((s.fr : Nat) : Int), .int .i64 ((s.vain : Nat) : Int)])
  obtain ⟨wa, hwa⟩ : ∃ wa, wa = w.setRow p.g #[.int .i64 ((s.size : Nat) : Int), .int .i64 ((s.retry : Nat) : Int), .int .i64 s.life, .int .i64 3, .int .i64 s.token, .pointer (some ⟨p.gw, 0, none⟩), p.v, .bool s.ask, .int .i64 ((s.fr : Nat) : Int), .int .i64 ((s.vain : Nat) : Int)] := ⟨_, rfl⟩
  rw [← hwa] at HBwa HOwa
  have HWwa := Shut.mk hwa.symm
  clear hwa
  have HXA := Shut.mk (HSE.out.win.only HOwa.out (fun e => HSE.out.ne e.symm))
  obtain ⟨n, hn⟩ : ∃ n, n = sizeA s sz := ⟨_, rfl⟩
  have HFB := Shut.mk (show fitB ((n : Nat) : Int) = true by
    have h6 := hi.size
    rw [hn]
    unfold fitB sizeA
    split <;> simp <;> omega)
  have HDS := Shut.mk (show s.x.ds = [] by have h5 := hi.inv; rw [hl] at h5; exact h5.start_nil.2)
  have HNN := Shut.mk hn
  have hsz := hi.size
  clear h hs hl hi hn
  by_cases hz : sz = 0
  · subst hz
    have HN2 := Shut.mk (show n = s.size by rw [HNN.out]; rfl)
    have HMI := Shut.mk (show min ((s.size : Nat) : Int) ((s.size : Nat) : Int) = ((n : Nat) : Int) by rw [HN2.out]; omega)
    have d0 : wa.cell? ⟨p.g, 0, none⟩ = some (.int .i64 ((s.size : Nat) : Int)) := by have h9 := block_range HBwa.out 0 _ rfl; rw [Nat.zero_add] at h9; exact h9
    have d5 : wa.cell? ⟨p.g, 5, none⟩ = some (.pointer (some ⟨p.gw, 0, none⟩)) := by have h9 := block_range HBwa.out 5 _ rfl; rw [Nat.zero_add] at h9; exact h9
    go_enter Tryd.func13, Tryd.ntmps13
    go_wp2_with (first
      | (refine wpList_store_into rfl 3 (.tmp 37) (.const (.int .i64 3)) rfl p.g 3 (.int .i64 3) rfl rfl rfl 80 _ #[.int .i64 ((s.size : Nat) : Int), .int .i64 ((s.retry : Nat) : Int), .int .i64 s.life, .int .i64 3, .int .i64 s.token, .pointer (some ⟨p.gw, 0, none⟩), p.v, .bool s.ask, .int .i64 ((s.fr : Nat) : Int), .int .i64 ((s.vain : Nat) : Int)] HBw.out size1i (by show 3 < 10; omega) rfl ?_; rw [HWwa.out]))
    go_still_tail 10, (by kernel_rfl)
    change wpList _ _ _ _ _ (World.drewN wa 1)
    generalize hq : World.drewN wa 1 = wb
    have HOb := Shut.mk (show Below wa.heap.size wa wb by rw [← hq]; exact below_drewN (Below.refl _ _) _)
    have HRb := Shut.mk (resize_ok p.gw s.x n wb (HXA.out.below HOb.out) HFB.out HDS.out)
    clear hq d0 d5
    go_wp2_with (fail)
    first
      | rw [HMI.out]
      | rw [← HN2.out]
    refine HRb.out.mono ?_
    rintro e wc ⟨rfl, hxc, hoc⟩
    have HXC := Shut.mk hxc
    have HOC := Shut.mk hoc
    clear hxc hoc
    go_wp2_with (fail)
    go_ret
    have q1 := HOwa.out.then_quiet HOb.out
    have q2 : Only (fun j => j = p.g ∨ j = p.gw) w wc := (q1.mono (T := fun j => j = p.g ∨ j = p.gw) fun i _ e => .inl e).trans HOC.out fun i _ e => .inr e
    refine ⟨rfl, ⟨?_, ?_, own_only HSE.out.row q2 (fun g hg e => by rcases e with e | e; exact (HSE.out.ng g hg).1 e; exact (HSE.out.ng g hg).2 e), HSE.out.ne, HSE.out.ng, HSE.out.lo⟩, q2.mono fun i _ e => by rcases e with e | e; exact .inl e; exact .inr (.inl e)⟩
    · have h9 := HOC.out.at_ ((HOb.out.block _ (lt_blk HBwa.out)).trans HBwa.out) HSE.out.ne
      exact h9
    · have h9 := HXC.out
      rw [HXE.out] at h9
      rw [← HNN.out]
      exact h9
  · have hzb : (((sz : Nat) : Int) == 0) = false := by simp; omega
    have HN2 := Shut.mk (show n = min sz s.size by rw [HNN.out]; unfold sizeA; rw [if_neg hz])
    have d0 : wa.cell? ⟨p.g, 0, none⟩ = some (.int .i64 ((s.size : Nat) : Int)) := by have h9 := block_range HBwa.out 0 _ rfl; rw [Nat.zero_add] at h9; exact h9
    have d5 : wa.cell? ⟨p.g, 5, none⟩ = some (.pointer (some ⟨p.gw, 0, none⟩)) := by have h9 := block_range HBwa.out 5 _ rfl; rw [Nat.zero_add] at h9; exact h9
    by_cases hle : sz ≤ s.size
    · have hle2 : ((sz : Nat) : Int) ≤ ((s.size : Nat) : Int) := by omega
      have HN3 := Shut.mk (show n = sz by rw [HN2.out]; omega)
      clear hle
      go_enter Tryd.func13, Tryd.ntmps13
      go_wp2_with (first
        | (refine wpList_store_into rfl 3 (.tmp 37) (.const (.int .i64 3)) rfl p.g 3 (.int .i64 3) rfl rfl rfl 80 _ #[.int .i64 ((s.size : Nat) : Int), .int .i64 ((s.retry : Nat) : Int), .int .i64 s.life, .int .i64 3, .int .i64 s.token, .pointer (some ⟨p.gw, 0, none⟩), p.v, .bool s.ask, .int .i64 ((s.fr : Nat) : Int), .int .i64 ((s.vain : Nat) : Int)] HBw.out size1i (by show 3 < 10; omega) rfl ?_; rw [HWwa.out]))
      go_still_tail 10, (by kernel_rfl)
      change wpList _ _ _ _ _ (World.drewN wa 1)
      generalize hq : World.drewN wa 1 = wb
      have HOb := Shut.mk (show Below wa.heap.size wa wb by rw [← hq]; exact below_drewN (Below.refl _ _) _)
      have HRb := Shut.mk (resize_ok p.gw s.x n wb (HXA.out.below HOb.out) HFB.out HDS.out)
      clear hq d0 d5
      go_wp2_with (fail)
      rw [show ((sz : Nat) : Int) = ((n : Nat) : Int) by rw [HN3.out]]
      refine HRb.out.mono ?_
      rintro e wc ⟨rfl, hxc, hoc⟩
      have HXC := Shut.mk hxc
      have HOC := Shut.mk hoc
      clear hxc hoc
      go_wp2_with (fail)
      go_ret
      have q1 := HOwa.out.then_quiet HOb.out
      have q2 : Only (fun j => j = p.g ∨ j = p.gw) w wc := (q1.mono (T := fun j => j = p.g ∨ j = p.gw) fun i _ e => .inl e).trans HOC.out fun i _ e => .inr e
      refine ⟨rfl, ⟨?_, ?_, own_only HSE.out.row q2 (fun g hg e => by rcases e with e | e; exact (HSE.out.ng g hg).1 e; exact (HSE.out.ng g hg).2 e), HSE.out.ne, HSE.out.ng, HSE.out.lo⟩, q2.mono fun i _ e => by rcases e with e | e; exact .inl e; exact .inr (.inl e)⟩
      · have h9 := HOC.out.at_ ((HOb.out.block _ (lt_blk HBwa.out)).trans HBwa.out) HSE.out.ne
        exact h9
      · have h9 := HXC.out
        rw [HXE.out] at h9
        rw [← HNN.out]
        exact h9
    · have hle2 : ¬ ((sz : Nat) : Int) ≤ ((s.size : Nat) : Int) := by omega
      have hle3 : ((s.size : Nat) : Int) < ((sz : Nat) : Int) := by omega
      have HN3 := Shut.mk (show n = s.size by rw [HN2.out]; omega)
      clear hle
      go_enter Tryd.func13, Tryd.ntmps13
      go_wp2_with (first
        | (refine wpList_store_into rfl 3 (.tmp 37) (.const (.int .i64 3)) rfl p.g 3 (.int .i64 3) rfl rfl rfl 80 _ #[.int .i64 ((s.size : Nat) : Int), .int .i64 ((s.retry : Nat) : Int), .int .i64 s.life, .int .i64 3, .int .i64 s.token, .pointer (some ⟨p.gw, 0, none⟩), p.v, .bool s.ask, .int .i64 ((s.fr : Nat) : Int), .int .i64 ((s.vain : Nat) : Int)] HBw.out size1i (by show 3 < 10; omega) rfl ?_; rw [HWwa.out]))
      go_still_tail 10, (by kernel_rfl)
      change wpList _ _ _ _ _ (World.drewN wa 1)
      generalize hq : World.drewN wa 1 = wb
      have HOb := Shut.mk (show Below wa.heap.size wa wb by rw [← hq]; exact below_drewN (Below.refl _ _) _)
      have HRb := Shut.mk (resize_ok p.gw s.x n wb (HXA.out.below HOb.out) HFB.out HDS.out)
      clear hq d0 d5
      go_wp2_with (fail)
      rw [show ((s.size : Nat) : Int) = ((n : Nat) : Int) by rw [HN3.out]]
      refine HRb.out.mono ?_
      rintro e wc ⟨rfl, hxc, hoc⟩
      have HXC := Shut.mk hxc
      have HOC := Shut.mk hoc
      clear hxc hoc
      go_wp2_with (fail)
      go_ret
      have q1 := HOwa.out.then_quiet HOb.out
      have q2 : Only (fun j => j = p.g ∨ j = p.gw) w wc := (q1.mono (T := fun j => j = p.g ∨ j = p.gw) fun i _ e => .inl e).trans HOC.out fun i _ e => .inr e
      refine ⟨rfl, ⟨?_, ?_, own_only HSE.out.row q2 (fun g hg e => by rcases e with e | e; exact (HSE.out.ng g hg).1 e; exact (HSE.out.ng g hg).2 e), HSE.out.ne, HSE.out.ng, HSE.out.lo⟩, q2.mono fun i _ e => by rcases e with e | e; exact .inl e; exact .inr (.inl e)⟩
      · have h9 := HOC.out.at_ ((HOb.out.block _ (lt_blk HBwa.out)).trans HBwa.out) HSE.out.ne
        exact h9
      · have h9 := HXC.out
        rw [HXE.out] at h9
        rw [← HNN.out]
        exact h9

/-! ### End -/
set_option maxRecDepth 100000 in
set_option maxHeartbeats 4000000 in
theorem end_no (h : IsSe B w p s) (hs : s.state = 1) (E : Nat → Addr) (he : w.cell? ⟨1, 0, none⟩ = some (errP (E 110))) :
    Calls Tryd.prog 30 #[.pointer (some ⟨p.g, 0, none⟩)] w fun e w' => e = .returned (errP (E 110)) ∧ w = w' := by
  generalize E 110 = er at *
  obtain ⟨-, -, -, c3, -⟩ := h.cells
  rw [hs] at c3
  clear h hs
  go_enter Tryd.func30, Tryd.ntmps30
  go_wp2_with (fail)
  go_ret
  exact ⟨rfl, rfl⟩
end
end Go.Proofs.YtlbfioknkagboaaDoor
