/-
  VALUES of a state and of a pull's object; CONTRACTS of codel.less, codel.cut, (*walk).reach, Codel.stop.
-/
import Derived.Test.YtndkmgcmegcieaaGreatDoorMgB
import Derived.Test.YtndkmgcmegcieaaGreatDoorMgA
import Derived.StillTailTactics
import Derived.Deep.QuietTactic
import Derived.BigQuiet
import Derived.Deep.RegionHeld3
import Derived.Deep.MidRow
namespace Go.Proofs.YtndkmgcmegcieaaGreatDoor
open Go.ChangeShapes Go.WideShapes Go.ChangeAt Go.RowKit Go.Deep
set_option linter.unusedVariables false
set_option linter.unusedSimpArgs false
def itC (x : It) : List Value := [.int .i64 x.at_, .int .i64 x.len]
def it00 : It := ⟨0, 0⟩
set_option maxRecDepth 100000 in
theorem less_any (a b : Int) (w : World) (ha : 0 ≤ a ∧ a ≤ 4503599627370496) (hb : -4503599627370496 ≤ b ∧ b ≤ 4503599627370496) :
 Calls Tryz.prog 102 #[.int .i64 a, .int .i64 b] w fun e w' => e = .returned (.int .i64 (a - b)) ∧ w = w' := by
 obtain ⟨d, hd⟩ : ∃ d, a - b = d := ⟨_, rfl⟩
 have hw : IntKind.i64.wrap d = d := IntWalk.i64_in _ ⟨by omega, by omega⟩
 rcases Int.lt_trichotomy b 0 with h | h | h
 ·have t1 : ¬ d < a := by omega
  have t2 : ¬ 0 < b := by omega
  rw [hd]
  go_enter Tryz.func102, Tryz.ntmps102
  go_wp2
  go_ret
  exact ⟨rfl, rfl⟩
 ·have t1 : ¬ b < 0 := by omega
  have t2 : ¬ 0 < b := by omega
  rw [hd]
  go_enter Tryz.func102, Tryz.ntmps102
  go_wp2
  go_ret
  exact ⟨ret_int (by omega), rfl⟩
 ·have t1 : ¬ b < 0 := by omega
  have t2 : ¬ a < d := by omega
  rw [hd]
  go_enter Tryz.func102, Tryz.ntmps102
  go_wp2
  go_ret
  exact ⟨rfl, rfl⟩
set_option maxRecDepth 100000 in
theorem cut_any (n : Int) (w : World) :
 Calls Tryz.prog 94 #[.int .i64 n] w fun e w' => e = .returned (.int .i64 (clampR n 0 1073741824)) ∧ w = w' := by
 rcases Int.lt_or_le n 0 with h | h
 ·have HE := Lib.hid (show clampR n 0 1073741824 = 0 by unfold clampR; omega)
  go_enter Tryz.func94, Tryz.ntmps94
  go_wp2
  go_ret
  exact ⟨ret_int HE.out.symm, rfl⟩
 ·rcases Int.lt_or_le 1073741824 n with h2 | h2
  ·have HE := Lib.hid (show clampR n 0 1073741824 = 1073741824 by unfold clampR; omega)
   go_enter Tryz.func94, Tryz.ntmps94
   go_wp2
   go_ret
   exact ⟨ret_int HE.out.symm, rfl⟩
  ·have HE := Lib.hid (show clampR n 0 1073741824 = n by unfold clampR; omega)
   go_enter Tryz.func94, Tryz.ntmps94
   go_wp2
   go_ret
   exact ⟨ret_int HE.out.symm, rfl⟩
theorem quiet_same {P : Program} {f : FuncId} {args : Array Value} {w : World} {n : Nat} {v : Value}
 (h : Calls P f args (w.drewN n) fun e w' => e = .returned v ∧ w.drewN n = w') : Calls P f args (w.drewN n) fun e w'' => e = .returned v ∧ ∃ m, w'' = w.drewN m := h.mono fun _ _ ⟨he, hw⟩ => ⟨he, n, hw.symm⟩
def reachB (q : Pl) (b : Int) : List It → Bool
 | [] => false
 | x :: _ => !soonB q b x
theorem size1 : (Tryz.prog.info? 92).map (·.size) = some 5 := by kernel_rfl
theorem sizeItem : (Tryz.prog.info? 103).map (·.size) = some 2 := by kernel_rfl
set_option maxRecDepth 100000 in
set_option maxHeartbeats 8000000 in
theorem reach_any (t g i b : Int) (A : Option Addr) (len cap k h : Nat) (l : List It) (w0 : World) (hg : w0.heap[h]? = some (Obj.cells #[Value.int IntKind.i64 t, Value.int IntKind.i64 g, Value.int IntKind.i64 i, Value.int IntKind.i64 (max b 0), Value.slice A len cap, Value.int IntKind.i64 ((k : Nat) : Int)] 151 (0, 0))) (hl : RowS itC 2 it00 w0 A len l) (hA : ∀ p, A = some p → 0 < len → p.block ≠ h) (hk : k ≤ len)
 (ht : 0 ≤ t ∧ t ≤ 4503599627370496) (hb : -1099511627776 ≤ b ∧ b ≤ 1099511627776) (hx : ∀ x ∈ l, 0 ≤ x.at_ ∧ x.at_ ≤ 4503599627370496 ∧ x.len ≤ 1048576) :
 Calls Tryz.prog 101 #[.pointer (some ⟨h, 0, none⟩)] w0 fun e w' => e = .returned (.bool (reachB ⟨t, g, i⟩ b (l.drop k))) ∧
  w'.heap[h]? = some (Obj.cells #[Value.int IntKind.i64 t, Value.int IntKind.i64 g, Value.int IntKind.i64 i, Value.int IntKind.i64 (max (lookB b (l.drop k)) 0), Value.slice A len cap, Value.int IntKind.i64 ((k : Nat) : Int)] 151 (0, 0)) ∧ Only (· = h) w0 w' := by
 have g0 : w0.cell? ⟨h, 0, none⟩ = some (.int .i64 t) := (block_range hg) 0 _ rfl
 have g1 : w0.cell? ⟨h, 1, none⟩ = some (.int .i64 g) := by simpa using (block_range hg) 1 _ rfl
 have g3 : w0.cell? ⟨h, 3, none⟩ = some (.int .i64 (max b 0)) := by simpa using (block_range hg) 3 _ rfl
 have g4 : w0.cell? ⟨h, 4, none⟩ = some (.slice A len cap) := by simpa using (block_range hg) 4 _ rfl
 have g5 : w0.cell? ⟨h, 5, none⟩ = some (.int .i64 (k : Nat)) := by simpa using (block_range hg) 5 _ rfl
 have HG := Lib.hid hg
 have HL := Lib.hid hl
 have HX := Lib.hid hx
 have HA := Lib.hid hA
 have hm := hl.le
 have hmi : (len : Int) ≤ maxLen := by exact_mod_cast hm
 clear hg hl hx hA
 rcases Nat.lt_or_eq_of_le hk with h1 | h1
 ·have hd : l.drop k = l.getD k it00 :: l.drop (k + 1) := by
   have hkl : k < l.length := by rw [HL.out.len]; exact h1
   rw [List.drop_eq_getElem_cons hkl, List.getD_eq_getElem?_getD, List.getElem?_eq_getElem hkl]; rfl
  rw [hd]
  obtain ⟨b0, off, rfl, hr⟩ := HL.out.el k h1
  have hX := HX.out (l.getD k it00) (by
   have hkl : k < l.length := by rw [HL.out.len]; exact h1
   rw [List.getD_eq_getElem?_getD, List.getElem?_eq_getElem hkl]; exact List.getElem_mem hkl)
  have hkI : ((k : Nat) : Int) < (len : Int) := by exact_mod_cast h1
  have hkq : ((k : Int) == (len : Int)) = false := by simpa using (by omega : ¬ ((k : Nat) : Int) = (len : Int))
  generalize l.getD k it00 = x at *
  obtain ⟨xa, xl⟩ := x
  dsimp only at hX
  obtain ⟨x0, x1, x2⟩ := hX
  have HR := Lib.hid hr
  have c0 : w0.cell? ⟨b0, off + k * 2, none⟩ = some (.int .i64 xa) := by simpa using hr 0 _ rfl
  have c1 : w0.cell? ⟨b0, off + k * 2 + 1, none⟩ = some (.int .i64 xl) := by simpa using hr 1 _ rfl
  clear hr
  go_enter Tryz.func101, Tryz.ntmps101
  go_wp2
  go_quiet (fail)
  generalize hq : World.drewN w0 _ = w1
  have HG1 : Shut (w1.heap[h]? = some (Obj.cells #[Value.int IntKind.i64 t, Value.int IntKind.i64 g, Value.int IntKind.i64 i, Value.int IntKind.i64 (max b 0), Value.slice (some ⟨b0, off, none⟩) len cap, Value.int IntKind.i64 ((k : Nat) : Int)] 151 (0, 0))) := by rw [← hq]; exact ⟨HG.out⟩
  have HB1 : Shut (Below w0.heap.size w0 w1) := by rw [← hq]; exact ⟨below_drewN (Below.refl _ _) _⟩
  replace g0 := below_at HB1.out g0
  replace g1 := below_at HB1.out g1
  replace g3 := below_at HB1.out g3
  replace g4 := below_at HB1.out g4
  replace g5 := below_at HB1.out g5
  replace c0 := below_at HB1.out c0
  replace c1 := below_at HB1.out c1
  replace HR : Shut _ := ⟨range_below (B := 0) HR.out HB1.out⟩
  clear hq
  go_wp2
  refine wp_region_held_drew (S := fun w' => Below w1.heap.size w1 w') (by kernel_rfl) (Below.refl _ _).drew (fun hHeld => ?_)
  refine hP 0 ?_
  refine hP 1 ?_
  refine hP 2 ?_
  refine wpAnyH_take (i := 3) (v := ?_) rfl (by kernel_rfl) (by kernel_rfl) (by kernel_rfl) (fun _ _ _ h => h) (Or.inl ⟨by rfl, ?_⟩) (by assumption) ?_
  rotate_left
  ·intro w hSw
   have q := below_at hSw g4
   clear hSw
   go_simp
   try with_reducible rfl
  try simp only [Act.put, sG1, sG2, sG3, sG4, sG5, sG6]
  refine hP 4 ?_
  refine hP 5 ?_
  refine hP 6 ?_
  refine wpAnyH_take (i := 7) (v := ?_) rfl (by kernel_rfl) (by kernel_rfl) (by kernel_rfl) (fun _ _ _ h => h) (Or.inl ⟨by rfl, ?_⟩) (by assumption) ?_
  rotate_left
  ·intro w hSw
   have q := below_at hSw g5
   clear hSw
   go_simp
   try with_reducible rfl
  try simp only [Act.put, sG1, sG2, sG3, sG4, sG5, sG6]
  refine hP 8 ?_
  refine wpAnyH_take (i := 9) (v := .agg #[Value.int IntKind.i64 xa, Value.int IntKind.i64 xl]) rfl (by kernel_rfl) (by kernel_rfl) (by kernel_rfl) (fun _ _ _ h => h) (yieldsIf_load_mid (by rfl) 103 (.tmp 22) rfl b0 (off + k * 2) rfl (#[Value.int IntKind.i64 xa, Value.int IntKind.i64 xl]).toList _ (fun w' hw' => range_below (B := 0) HR.out hw') Tryz.underlying103 rfl sizeItem) (by assumption) ?_
  try simp only [Act.put, sG1, sG2, sG3, sG4, sG5, sG6]
  have HG2 := Lib.hid (show w1.drew.heap[h]? = _ from HG1.out)
  have HB2 := Lib.hid hHeld
  generalize World.drew w1 = w2 at *
  refine wpAnyH_ready (rs := [10]) (by kernel_rfl) (by simp) ?_
  refine AllReadyH.cons rfl (fun K hK => ?_) AllReadyH.nil
  have HB3 := Lib.hid (HB2.out.alloc HB2.out.size (.cells #[Value.int IntKind.i64 0, Value.int IntKind.i64 0] 103))
  clear hHeld
  go_simp
  refine hK.out _ _ HB3.out (fun hHeld => ?_)
  clear hK K
  try simp only [Act.put, sG1, sG2, sG3, sG4, sG5, sG6]
  refine wpAnyH_ready (rs := [11]) (by kernel_rfl) (by simp) ?_
  refine AllReadyH.cons rfl (fun K hK => ?_) AllReadyH.nil
  go_simp
  have HB4 := Lib.hid (HB2.out.alloc HB2.out.size (.cells #[Value.int IntKind.i64 xa, Value.int IntKind.i64 xl] 103))
  clear hHeld
  refine hK.out _ _ HB4.out (fun hHeld => ?_)
  clear hK K
  try simp only [Act.put, sG1, sG2, sG3, sG4, sG5, sG6]
  refine wpAnyH_done (by kernel_rfl) ?_ _
  try simp only [Act.put, sG1, sG2, sG3, sG4, sG5, sG6]
  have HG3 : Shut ((w2.alloc (.cells #[Value.int IntKind.i64 xa, Value.int IntKind.i64 xl] 103)).heap[h]? = some (Obj.cells #[Value.int IntKind.i64 t, Value.int IntKind.i64 g, Value.int IntKind.i64 i, Value.int IntKind.i64 (max b 0), Value.slice (some ⟨b0, off, none⟩) len cap, Value.int IntKind.i64 ((k : Nat) : Int)] 151 (0, 0))) := ⟨(HB4.out.block h (lt_blk HG1.out)).trans HG1.out⟩
  have HI : Shut ((w2.alloc (.cells #[Value.int IntKind.i64 xa, Value.int IntKind.i64 xl] 103)).heap[w2.heap.size]? = some (.cells #[Value.int IntKind.i64 xa, Value.int IntKind.i64 xl] 103 (0, 0))) := ⟨heap_alloc_last _ _⟩
  have HO3 : Shut (Only (· = h) w0 (w2.alloc (.cells #[Value.int IntKind.i64 xa, Value.int IntKind.i64 xl] 103))) := ⟨Only.of_quiet (HB1.out.trans (HB4.out.mono HB1.out.size))⟩
  have hsh : h < w2.heap.size := Nat.lt_of_lt_of_le (lt_blk HG1.out) HB2.out.size
  have HBB := Lib.hid HB4.out
  clear HB3 HB4 HB2 hHeld g0 g1 g3 g4 g5 c0 c1 HR HG2
  generalize w2.alloc _ = w3 at *
  generalize w2.heap.size = s at *
  have g0 : w3.cell? ⟨h, 0, none⟩ = some (.int .i64 t) := (block_range HG3.out) 0 _ rfl
  have g1 : w3.cell? ⟨h, 1, none⟩ = some (.int .i64 g) := by simpa using (block_range HG3.out) 1 _ rfl
  have g3 : w3.cell? ⟨h, 3, none⟩ = some (.int .i64 (max b 0)) := by simpa using (block_range HG3.out) 3 _ rfl
  have i0 : w3.cell? ⟨s, 0, none⟩ = some (.int .i64 xa) := (block_range HI.out) 0 _ rfl
  have i1 : w3.cell? ⟨s, 1, none⟩ = some (.int .i64 xl) := by simpa using (block_range HI.out) 1 _ rfl
  generalize hbb : max b 0 = bb at *
  obtain ⟨m, hmx⟩ : ∃ m : Int, (if xl < 0 then 0 else xl) = m := ⟨_, rfl⟩
  have HM : Shut (m = max xl 0) := ⟨by rw [← hmx]; split <;> omega⟩
  have hmr : 0 ≤ m ∧ m ≤ 1048576 := by have := HM.out; omega
  have y1 : IntKind.i64.wrap (bb - m) = bb - m := IntWalk.i64_in _ ⟨by omega, by omega⟩
  obtain ⟨b2, hb2⟩ : ∃ b2 : Int, (if bb - m < 0 then 0 else bb - m) = b2 := ⟨_, rfl⟩
  have HB2' : Shut (b2 = max (b - max xl 0) 0) := ⟨by rw [← hb2, ← HM.out]; split <;> omega⟩
  go_wp2
  go_still_tail 12, (by kernel_rfl)
  change wpList _ _ _ _ _ w3.drew
  have HG4 : Shut (w3.drew.heap[h]? = some (Obj.cells #[Value.int IntKind.i64 t, Value.int IntKind.i64 g, Value.int IntKind.i64 i, Value.int IntKind.i64 bb, Value.slice (some ⟨b0, off, none⟩) len cap, Value.int IntKind.i64 ((k : Nat) : Int)] 151 (0, 0))) := ⟨HG3.out⟩
  have HI4 : Shut (w3.drew.heap[s]? = some (.cells #[Value.int IntKind.i64 xa, Value.int IntKind.i64 xl] 103 (0, 0))) := ⟨HI.out⟩
  have HO4 : Shut (Only (· = h) w0 w3.drew) := ⟨HO3.out.drew 1⟩
  clear HG3 HI HO3 g0 g1 g3 i0 i1
  generalize w3.drew = w4 at *
  have HG5 := Shut.mk (setRow_heap w4 h _ #[Value.int IntKind.i64 t, Value.int IntKind.i64 g, Value.int IntKind.i64 i, Value.int IntKind.i64 b2, Value.slice (some ⟨b0, off, none⟩) len cap, Value.int IntKind.i64 (k : Nat)] _ (0, 0) HG4.out)
  have HI5 := Shut.mk ((setRow_other w4 h s #[Value.int IntKind.i64 t, Value.int IntKind.i64 g, Value.int IntKind.i64 i, Value.int IntKind.i64 b2, Value.slice (some ⟨b0, off, none⟩) len cap, Value.int IntKind.i64 (k : Nat)] (by omega)).trans HI4.out)
  have HO5 := Shut.mk (HO4.out.setRow (g := h) (fun _ => rfl) #[Value.int IntKind.i64 t, Value.int IntKind.i64 g, Value.int IntKind.i64 i, Value.int IntKind.i64 b2, Value.slice (some ⟨b0, off, none⟩) len cap, Value.int IntKind.i64 (k : Nat)])
  refine wpList_store_into rfl 3 (.tmp 35) (.tmp 33) rfl h 3 (.int .i64 b2) rfl rfl rfl 151 _ #[Value.int IntKind.i64 t, Value.int IntKind.i64 g, Value.int IntKind.i64 i, Value.int IntKind.i64 b2, Value.slice (some ⟨b0, off, none⟩) len cap, Value.int IntKind.i64 (k : Nat)] HG4.out sizeI64 (show 3 < 6 by decide) rfl ?_
  generalize World.setRow w4 h _ = w5 at *
  have g0 : w5.cell? ⟨h, 0, none⟩ = some (.int .i64 t) := (block_range HG5.out) 0 _ rfl
  have g1 : w5.cell? ⟨h, 1, none⟩ = some (.int .i64 g) := by simpa using (block_range HG5.out) 1 _ rfl
  have g3 : w5.cell? ⟨h, 3, none⟩ = some (.int .i64 b2) := by simpa using (block_range HG5.out) 3 _ rfl
  have i0 : w5.cell? ⟨s, 0, none⟩ = some (.int .i64 xa) := (block_range HI5.out) 0 _ rfl
  have HRB : Shut (reachB ⟨t, g, i⟩ b (⟨xa, xl⟩ :: l.drop (k + 1)) = (decide (g ≤ t - xa) && decide (1514 < b2))) := ⟨by
   show (!soonB ⟨t, g, i⟩ b ⟨xa, xl⟩) = _
   unfold soonB
   dsimp only
   rw [Bool.not_or, ← decide_not, ← decide_not, HB2'.out]
   congr 1 <;> exact decide_eq_decide.2 (by omega)⟩
  have HLB : Shut (max (lookB b (⟨xa, xl⟩ :: l.drop (k + 1))) 0 = b2) := ⟨HB2'.out.symm⟩
  clear hb2 HB2' y1 hmx HM HG4 HI4 HO4
  clear hbb
  obtain ⟨dd, hdd⟩ : ∃ dd : Int, t - xa = dd := ⟨_, rfl⟩
  rcases Int.lt_or_le dd g with h2 | h2
  ·have e1 : decide (g ≤ dd) = false := by simpa using h2
   have HZ : Shut (reachB ⟨t, g, i⟩ b (⟨xa, xl⟩ :: l.drop (k + 1)) = false) := ⟨by rw [HRB.out, hdd, e1]; rfl⟩
   go_wp2
   go_quiet ((go_at_call 102; exact quiet_same (less_any t xa _ ht ⟨by omega, by omega⟩)))
   go_wp2
   go_ret
   exact ⟨ret_b HZ.out, by rw [HLB.out]; exact HG5.out, HO5.out.drew _⟩
  ·have e1 : decide (g ≤ dd) = true := by simpa using h2
   rcases Int.lt_or_le 1514 b2 with h3 | h3
   ·have e2 : decide (1514 < b2) = true := by simpa using h3
    have HZ : Shut (reachB ⟨t, g, i⟩ b (⟨xa, xl⟩ :: l.drop (k + 1)) = true) := ⟨by rw [HRB.out, hdd, e1, e2]; rfl⟩
    go_wp2
    go_quiet ((go_at_call 102; exact quiet_same (less_any t xa _ ht ⟨by omega, by omega⟩)))
    go_wp2
    go_ret
    exact ⟨ret_b HZ.out, by rw [HLB.out]; exact HG5.out, HO5.out.drew _⟩
   ·have e2 : decide (1514 < b2) = false := by simpa using h3
    have HZ : Shut (reachB ⟨t, g, i⟩ b (⟨xa, xl⟩ :: l.drop (k + 1)) = false) := ⟨by rw [HRB.out, hdd, e1, e2]; rfl⟩
    go_wp2
    go_quiet ((go_at_call 102; exact quiet_same (less_any t xa _ ht ⟨by omega, by omega⟩)))
    go_wp2
    go_ret
    exact ⟨ret_b HZ.out, by rw [HLB.out]; exact HG5.out, HO5.out.drew _⟩
 ·subst h1
  have hd : l.drop k = [] := by rw [← HL.out.len]; exact List.drop_length
  rw [hd]
  go_enter Tryz.func101, Tryz.ntmps101
  go_wp2
  go_quiet (fail)
  go_wp2
  go_ret
  exact ⟨rfl, HG.out, (Only.refl _ _).drew _⟩
theorem two_alloc (w : World) (a b : Obj) : Below w.heap.size w ((w.alloc a).alloc b) ∧ ((w.alloc a).alloc b).heap[w.heap.size]? = some a ∧ ((w.alloc a).alloc b).heap[w.heap.size + 1]? = some b ∧ ((w.alloc a).alloc b).heap.size = w.heap.size + 2 := by
 have hs : (w.alloc a).heap.size = w.heap.size + 1 := by simp
 refine ⟨((Below.refl _ w).alloc (Nat.le_refl _) a).alloc (by rw [hs]; omega) b, ?_, by rw [← hs]; exact heap_alloc_last _ _, by simp⟩
 exact (((Below.refl _ (w.alloc a)).alloc (Nat.le_refl _) b).block w.heap.size (by rw [hs]; omega)).trans (heap_alloc_last w a)
theorem results_c1 {P : Program} {fn : Func} {p q : Tmp} {ty : TypeId} (h : fn.results = #[.cell p ty, .tmp q]) (tmps : Array Value) (w : World) (g : Nat) (t : TypeId) (cs : Array Value) (fr : Nat × Nat) (d : TypeDesc) (v : Value)
 (hp : tmps.getD p undef = .pointer (some ⟨g, 0, none⟩)) (hq : tmps.getD q undef = v) (hg : w.heap[g]? = some (.cells cs t fr))
 (hu : P.underlying ty = some d) (hd : (match d with | .struct _ | .array _ _ => true | _ => false) = true) (hi : (P.info? ty).map (·.size) = some cs.size) :
 (results fn tmps).run P w = .ok (.tuple #[.agg cs, v]) w := by
 have hp' : tmps[p]?.getD undef = .pointer (some ⟨g, 0, none⟩) := by simpa using hp
 have hq' : tmps[q]?.getD undef = v := by simpa using hq
 simp [results, h, hp', hq', asAddr, run_loadVar_row w g t ty cs fr d hg hu hd hi]
theorem results_c2 {P : Program} {fn : Func} {p q r : Tmp} {ty : TypeId} (h : fn.results = #[.cell p ty, .tmp q, .tmp r]) (tmps : Array Value) (w : World) (g : Nat) (t : TypeId) (cs : Array Value) (fr : Nat × Nat) (d : TypeDesc) (v u : Value)
 (hp : tmps.getD p undef = .pointer (some ⟨g, 0, none⟩)) (hq : tmps.getD q undef = v) (hr : tmps.getD r undef = u) (hg : w.heap[g]? = some (.cells cs t fr))
 (hu : P.underlying ty = some d) (hd : (match d with | .struct _ | .array _ _ => true | _ => false) = true) (hi : (P.info? ty).map (·.size) = some cs.size) :
 (results fn tmps).run P w = .ok (.tuple #[.agg cs, v, u]) w := by
 have hp' : tmps[p]?.getD undef = .pointer (some ⟨g, 0, none⟩) := by simpa using hp
 have hq' : tmps[q]?.getD undef = v := by simpa using hq
 have hr' : tmps[r]?.getD undef = u := by simpa using hr
 simp [results, h, hp', hq', hr', asAddr, run_loadVar_row w g t ty cs fr d hg hu hd hi]
set_option maxRecDepth 100000 in
theorem stop_any (f d : Int) (n l : Nat) (o : Bool) (p : Value) (w : World) :
 Calls Tryz.prog 96 #[(Value.agg #[Value.int IntKind.i64 f, Value.int IntKind.i64 d, Value.int IntKind.u32 ((n : Nat) : Int), Value.int IntKind.u32 ((l : Nat) : Int), Value.bool o]), p] w fun e w' => e = .returned (Value.agg #[Value.int IntKind.i64 f, Value.int IntKind.i64 d, Value.int IntKind.u32 ((n : Nat) : Int), Value.int IntKind.u32 ((l : Nat) : Int), Value.bool false]) ∧ Below w.heap.size w w' := by
 have HA := Shut.mk (two_alloc w (Obj.cells #[Value.int IntKind.i64 f, Value.int IntKind.i64 d, Value.int IntKind.u32 (n : Nat), Value.int IntKind.u32 (l : Nat), Value.bool false] 92 (0, 0)) (Obj.cells #[Value.int IntKind.i64 f, Value.int IntKind.i64 d, Value.int IntKind.u32 (n : Nat), Value.int IntKind.u32 (l : Nat), Value.bool false] 92 (0, 0)))
 go_enter Tryz.func96, Tryz.ntmps96
 go_wp2
 exact bodyPost_ret (v := (Value.agg #[Value.int IntKind.i64 f, Value.int IntKind.i64 d, Value.int IntKind.u32 ((n : Nat) : Int), Value.int IntKind.u32 ((l : Nat) : Int), Value.bool false])) (results_cell1 (p := 4) Tryz.results96 _ _ (w.heap.size + 1) _ _ _ _ rfl HA.out.2.2.1 Tryz.underlying92 rfl size1) rfl ⟨rfl, HA.out.1⟩
theorem look_no {q : Pl} {f b : Int} {l : List It} (h : reachB q b l = false) : lookF q f b l = 0 ∧ lookL q f b l = false := by
 cases l with
 | nil => exact ⟨rfl, rfl⟩
 | cons x r =>
  have h1 : soonB q b x = true := by simpa [reachB] using h
  exact ⟨by rw [lookF_cons, if_pos h1], by rw [lookL_cons, h1]; rfl⟩
theorem look_new {q : Pl} {f b : Int} {l : List It} (h : reachB q b l = true) (hf : f = 0) : lookF q f b l = q.now + q.interval ∧ lookL q f b l = false := by
 cases l with
 | nil => cases h
 | cons x r =>
  have h1 : soonB q b x = false := by simpa [reachB] using h
  exact ⟨by rw [lookF_cons, if_neg (by rw [h1]; decide), if_pos hf], by rw [lookL_cons, h1, hf]; rfl⟩
theorem look_old {q : Pl} {f b : Int} {l : List It} (h : reachB q b l = true) (hf : f ≠ 0) : lookF q f b l = f ∧ lookL q f b l = decide (f ≤ q.now) := by
 cases l with
 | nil => cases h
 | cons x r =>
  have h1 : soonB q b x = false := by simpa [reachB] using h
  exact ⟨by rw [lookF_cons, if_neg (by rw [h1]; decide), if_neg hf], by rw [lookL_cons, h1]; simp [hf]⟩
end Go.Proofs.YtndkmgcmegcieaaGreatDoor
