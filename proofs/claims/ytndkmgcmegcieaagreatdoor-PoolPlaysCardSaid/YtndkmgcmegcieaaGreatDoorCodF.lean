/-
  CONTRACT of the reference's look.
-/
import Derived.Test.YtndkmgcmegcieaaGreatDoorCodC
import Derived.Deep.Cut
namespace Go.Proofs.YtndkmgcmegcieaaGreatDoor
open Go.ChangeShapes Go.WideShapes Go.ChangeAt Go.RowKit Go.Deep
set_option linter.unusedVariables false
set_option linter.unusedSimpArgs false
set_option maxRecDepth 100000 in
set_option maxHeartbeats 8000000 in
theorem reflook_any (t g i b f d : Int) (n la : Nat) (o : Bool) (A : Option Addr) (len cap k h : Nat) (l : List It) (w0 : World) (hg : w0.heap[h]? = some (Obj.cells #[Value.int IntKind.i64 f, Value.int IntKind.i64 d, Value.int IntKind.u32 ((n : Nat) : Int), Value.int IntKind.u32 ((la : Nat) : Int), Value.bool o, Value.int IntKind.i64 t, Value.int IntKind.i64 g, Value.int IntKind.i64 i, Value.int IntKind.i64 b, (Value.slice A len cap), Value.int IntKind.i64 ((k : Nat) : Int)] 139 (0, 0))) (hl : RowS itC 2 it00 w0 A len l) (hA : ∀ p, A = some p → 0 < len → p.block ≠ h) (hk : k ≤ len)
 (ht : 0 ≤ t ∧ t ≤ 4503599627370496) (hi : 0 ≤ i ∧ i ≤ 1073741824) (hb : -1099511627776 ≤ b ∧ b ≤ 1099511627776) (hx : ∀ x ∈ l, 0 ≤ x.at_ ∧ x.at_ ≤ 4503599627370496 ∧ x.len ≤ 1048576) :
 Calls Tryz.prog 88 #[.pointer (some ⟨h, 0, none⟩)] w0 fun e w' => e = .returned (.tuple #[.bool (decide (k < len)), .bool (lookL ⟨t, g, i⟩ f b (l.drop k))]) ∧
  w'.heap[h]? = some (Obj.cells #[Value.int IntKind.i64 (lookF ⟨t, g, i⟩ f b (l.drop k)), Value.int IntKind.i64 d, Value.int IntKind.u32 ((n : Nat) : Int), Value.int IntKind.u32 ((la : Nat) : Int), Value.bool o, Value.int IntKind.i64 t, Value.int IntKind.i64 g, Value.int IntKind.i64 i, Value.int IntKind.i64 (lookB b (l.drop k)), (Value.slice A len cap), Value.int IntKind.i64 ((k : Nat) : Int)] 139 (0, 0)) ∧ Only (· = h) w0 w' := by
 have g9 : w0.cell? ⟨h, 9, none⟩ = some (.slice A len cap) := by simpa using (block_range hg) 9 _ rfl
 have g10 : w0.cell? ⟨h, 10, none⟩ = some (.int .i64 (k : Nat)) := by simpa using (block_range hg) 10 _ rfl
 have HG := Shut.mk hg
 have HL := Shut.mk hl
 have HX := Shut.mk hx
 have HA := Shut.mk hA
 have HT := Shut.mk ht
 have HI := Shut.mk hi
 have HB := Shut.mk hb
 have hm := hl.le
 have hmi : (len : Int) ≤ maxLen := by exact_mod_cast hm
 clear hg hl hx hA hi hb
 have HO : Shut (Only (· = h) w0 w0) := ⟨Only.refl _ _⟩
 rcases Nat.lt_or_eq_of_le hk with h1 | h1
 ·have hd : l.drop k = l.getD k it00 :: l.drop (k + 1) := by
   have hkl : k < l.length := by rw [HL.out.len]; exact h1
   rw [List.drop_eq_getElem_cons hkl, List.getD_eq_getElem?_getD, List.getElem?_eq_getElem hkl]; rfl
  rw [hd]
  have HQ : Shut (decide (k < len) = true) := ⟨by simpa using h1⟩
  rw [HQ.out]
  obtain ⟨b0, off, rfl, hr⟩ := HL.out.el k h1
  have hX := HX.out (l.getD k it00) (by
   have hkl : k < l.length := by rw [HL.out.len]; exact h1
   rw [List.getD_eq_getElem?_getD, List.getElem?_eq_getElem hkl]; exact List.getElem_mem hkl)
  have hne : b0 ≠ h := HA.out _ rfl (by omega)
  have hkI : ((k : Nat) : Int) < (len : Int) := by exact_mod_cast h1
  have hkq : decide ((len : Int) ≤ (k : Int)) = false := by simp only [decide_eq_false_iff_not]; omega
  generalize l.getD k it00 = x at *
  obtain ⟨xa, xl⟩ := x
  dsimp only at hX
  obtain ⟨x0, x1, x2⟩ := hX
  have HR := Shut.mk hr
  clear hr hd
  generalize l.drop (k + 1) = rest at *
  go_enter Tryz.func88, Tryz.ntmps88
  go_wp2
  go_quiet (fail)
  generalize hq : World.drewN w0 _ = w1
  replace HR := Shut.mk (show w1.rangeAt b0 (off + k * 2) _ by rw [← hq]; exact HR.out)
  replace HG := Shut.mk (block_of hq HG.out)
  replace HO := Shut.mk (only_of hq HO.out)
  clear hq
  clear g9 g10
  have g8 : w1.cell? ⟨h, 8, none⟩ = some (.int .i64 b) := by simpa using (block_range HG.out) 8 _ rfl
  have g9 : w1.cell? ⟨h, 9, none⟩ = some (.slice (some ⟨b0, off, none⟩) len cap) := by simpa using (block_range HG.out) 9 _ rfl
  have g10 : w1.cell? ⟨h, 10, none⟩ = some (.int .i64 (k : Nat)) := by simpa using (block_range HG.out) 10 _ rfl
  have c1 : w1.cell? ⟨b0, off + k * 2 + 1, none⟩ = some (.int .i64 xl) := by simpa using HR.out 1 _ rfl
  obtain ⟨m, hmx⟩ : ∃ m : Int, (if xl < 0 then 0 else xl) = m := ⟨_, rfl⟩
  have HM : Shut (m = max xl 0) := ⟨by rw [← hmx]; split <;> omega⟩
  have hmr : 0 ≤ m ∧ m ≤ 1048576 := by have := HM.out; omega
  obtain ⟨b2, hb2⟩ : ∃ b2 : Int, b - m = b2 := ⟨_, rfl⟩
  have y1 : IntKind.i64.wrap (b - m) = b2 := by have := HB.out; rw [hb2]; exact IntWalk.i64_in _ ⟨by omega, by omega⟩
  have HB2 : Shut (b - max xl 0 = b2) := ⟨by rw [← HM.out]; exact hb2⟩
  clear hb2
  go_wp2
  go_still_tail 20, (by kernel_rfl)
  clear g8 g9 g10 c1 hmx y1 hmr
  change wpList _ _ _ _ _ (World.drewN w1 1)
  generalize hq : World.drewN w1 1 = w2
  replace HR := Shut.mk (show w2.rangeAt b0 (off + k * 2) _ by rw [← hq]; exact HR.out)
  replace HG := Shut.mk (block_of hq HG.out)
  replace HO := Shut.mk (only_of hq HO.out)
  clear hq
  have HGz := Shut.mk (setRow_heap w2 h _ #[Value.int IntKind.i64 f, Value.int IntKind.i64 d, Value.int IntKind.u32 (n : Nat), Value.int IntKind.u32 (la : Nat), Value.bool o, Value.int IntKind.i64 t, Value.int IntKind.i64 g, Value.int IntKind.i64 i, Value.int IntKind.i64 b2, (Value.slice (some ⟨b0, off, none⟩) len cap), Value.int IntKind.i64 (k : Nat)] _ (0, 0) HG.out)
  have HOz := Shut.mk (HO.out.setRow (g := h) (fun _ => rfl) #[Value.int IntKind.i64 f, Value.int IntKind.i64 d, Value.int IntKind.u32 (n : Nat), Value.int IntKind.u32 (la : Nat), Value.bool o, Value.int IntKind.i64 t, Value.int IntKind.i64 g, Value.int IntKind.i64 i, Value.int IntKind.i64 b2, (Value.slice (some ⟨b0, off, none⟩) len cap), Value.int IntKind.i64 (k : Nat)])
  have HRz : Shut ((w2.setRow h #[Value.int IntKind.i64 f, Value.int IntKind.i64 d, Value.int IntKind.u32 (n : Nat), Value.int IntKind.u32 (la : Nat), Value.bool o, Value.int IntKind.i64 t, Value.int IntKind.i64 g, Value.int IntKind.i64 i, Value.int IntKind.i64 b2, (Value.slice (some ⟨b0, off, none⟩) len cap), Value.int IntKind.i64 (k : Nat)]).rangeAt b0 (off + k * 2) (itC ⟨xa, xl⟩)) := ⟨((Only.refl (· = h) w2).setRow (g := h) (fun _ => rfl) _).range HR.out hne⟩
  refine wpList_store_into rfl 3 (.tmp 37) (.tmp 35) rfl h 8 (.int .i64 b2) rfl rfl rfl 139 _ #[Value.int IntKind.i64 f, Value.int IntKind.i64 d, Value.int IntKind.u32 (n : Nat), Value.int IntKind.u32 (la : Nat), Value.bool o, Value.int IntKind.i64 t, Value.int IntKind.i64 g, Value.int IntKind.i64 i, Value.int IntKind.i64 b2, (Value.slice (some ⟨b0, off, none⟩) len cap), Value.int IntKind.i64 (k : Nat)] HG.out sizeI64 (show 8 < 11 by decide) rfl ?_
  generalize hz : w2.setRow h _ = w3 at *
  clear hz HG HO HR
  have HG := HGz
  have HO := HOz
  have HR := HRz
  clear HGz HOz HRz
  have g1 : w3.cell? ⟨h, 5, none⟩ = some (.int .i64 t) := by simpa using (block_range HG.out) 5 _ rfl
  have g2 : w3.cell? ⟨h, 6, none⟩ = some (.int .i64 g) := by simpa using (block_range HG.out) 6 _ rfl
  have g8 : w3.cell? ⟨h, 8, none⟩ = some (.int .i64 b2) := by simpa using (block_range HG.out) 8 _ rfl
  have g9 : w3.cell? ⟨h, 9, none⟩ = some (.slice (some ⟨b0, off, none⟩) len cap) := by simpa using (block_range HG.out) 9 _ rfl
  have g10 : w3.cell? ⟨h, 10, none⟩ = some (.int .i64 (k : Nat)) := by simpa using (block_range HG.out) 10 _ rfl
  have c0 : w3.cell? ⟨b0, off + k * 2, none⟩ = some (.int .i64 xa) := by simpa using HR.out 0 _ rfl
  obtain ⟨dd, hdd⟩ : ∃ dd : Int, t - xa = dd := ⟨_, rfl⟩
  have y2 : IntKind.i64.wrap (t - xa) = dd := by rw [hdd]; exact IntWalk.i64_in _ ⟨by omega, by omega⟩
  have HRB : Shut (reachB ⟨t, g, i⟩ b (⟨xa, xl⟩ :: rest) = (decide (g ≤ dd) && decide (1514 < b2))) := ⟨by
   show (!soonB ⟨t, g, i⟩ b ⟨xa, xl⟩) = _
   unfold soonB
   dsimp only
   rw [Bool.not_or, ← decide_not, ← decide_not, HB2.out, hdd]
   congr 1 <;> exact decide_eq_decide.2 (by omega)⟩
  have HLB : Shut (lookB b (⟨xa, xl⟩ :: rest) = b2) := ⟨HB2.out⟩
  clear HB2 hdd HM
  rcases Int.lt_or_le dd g with h2 | h2
  ·have e1 : dd < g := h2
   have HZ : Shut (reachB ⟨t, g, i⟩ b (⟨xa, xl⟩ :: rest) = false) := ⟨by rw [HRB.out, show decide (g ≤ dd) = false by simpa using h2]; rfl⟩
   clear h2
   have HN := Shut.mk (look_no (f := f) HZ.out)
   go_wp2
   go_quiet (fail)
   generalize hq : World.drewN w3 _ = w4
   replace HG := Shut.mk (block_of hq HG.out)
   replace HO := Shut.mk (only_of hq HO.out)
   clear hq
   clear g1 g2 g8 g9 g10 c0 y2
   have HGz := Shut.mk (setRow_heap w4 h _ #[Value.int IntKind.i64 0, Value.int IntKind.i64 d, Value.int IntKind.u32 (n : Nat), Value.int IntKind.u32 (la : Nat), Value.bool o, Value.int IntKind.i64 t, Value.int IntKind.i64 g, Value.int IntKind.i64 i, Value.int IntKind.i64 b2, (Value.slice (some ⟨b0, off, none⟩) len cap), Value.int IntKind.i64 (k : Nat)] _ (0, 0) HG.out)
   have HOz := Shut.mk (HO.out.setRow (g := h) (fun _ => rfl) #[Value.int IntKind.i64 0, Value.int IntKind.i64 d, Value.int IntKind.u32 (n : Nat), Value.int IntKind.u32 (la : Nat), Value.bool o, Value.int IntKind.i64 t, Value.int IntKind.i64 g, Value.int IntKind.i64 i, Value.int IntKind.i64 b2, (Value.slice (some ⟨b0, off, none⟩) len cap), Value.int IntKind.i64 (k : Nat)])
   go_wp2_with (first
    | (refine wpList_store_into rfl 2 (.tmp 69) (.const (.int .i64 0)) rfl h 0 (.int .i64 0) rfl rfl rfl 139 _ #[Value.int IntKind.i64 0, Value.int IntKind.i64 d, Value.int IntKind.u32 (n : Nat), Value.int IntKind.u32 (la : Nat), Value.bool o, Value.int IntKind.i64 t, Value.int IntKind.i64 g, Value.int IntKind.i64 i, Value.int IntKind.i64 b2, (Value.slice (some ⟨b0, off, none⟩) len cap), Value.int IntKind.i64 (k : Nat)] HG.out size64 (show 0 < 11 by decide) rfl ?_))
   go_ret2
   exact ⟨by rw [HN.out.2]; rfl, by rw [HN.out.1, HLB.out]; exact HGz.out, HOz.out⟩
  ·rcases Int.lt_or_le 1514 b2 with h3 | h3
   ·have e1 : decide (dd < g) = false := by simpa using h2
    have e2 : decide (b2 ≤ 1514) = false := by simpa using h3
    have HZ : Shut (reachB ⟨t, g, i⟩ b (⟨xa, xl⟩ :: rest) = true) := ⟨by rw [HRB.out, show decide (g ≤ dd) = true by simpa using h2, show decide (1514 < b2) = true by simpa using h3]; rfl⟩
    clear h2 h3
    go_wp2
    go_quiet (fail)
    generalize hq : World.drewN w3 _ = w4
    replace HG := Shut.mk (block_of hq HG.out)
    replace HO := Shut.mk (only_of hq HO.out)
    clear hq
    clear g1 g2 g8 g9 g10 c0 y2
    have g0 : w4.cell? ⟨h, 0, none⟩ = some (.int .i64 f) := (block_range HG.out) 0 _ rfl
    have g1 : w4.cell? ⟨h, 5, none⟩ = some (.int .i64 t) := by simpa using (block_range HG.out) 5 _ rfl
    rcases Decidable.em (f = 0) with hf | hf
    ·have HN := Shut.mk (look_new HZ.out hf)
     have g3 : w4.cell? ⟨h, 7, none⟩ = some (.int .i64 i) := by simpa using (block_range HG.out) 7 _ rfl
     obtain ⟨u, hu⟩ : ∃ u : Int, t + i = u := ⟨_, rfl⟩
     have y3 : IntKind.i64.wrap (t + i) = u := by have := HI.out; rw [hu]; exact IntWalk.i64_in _ ⟨by omega, by omega⟩
     have HN1 : Shut (lookF ⟨t, g, i⟩ f b (⟨xa, xl⟩ :: rest) = u) := ⟨by rw [HN.out.1]; exact hu⟩
     have hq : (f == 0) = true := by simpa using hf
     clear hu hf
     go_wp2
     go_still_tail 13, (by kernel_rfl)
     clear g0 g1 g3 y3 hq
     change wpList _ _ _ _ _ (World.drewN w4 1)
     generalize hq : World.drewN w4 1 = w5
     replace HG := Shut.mk (block_of hq HG.out)
     replace HO := Shut.mk (only_of hq HO.out)
     clear hq
     have HGz := Shut.mk (setRow_heap w5 h _ #[Value.int IntKind.i64 u, Value.int IntKind.i64 d, Value.int IntKind.u32 (n : Nat), Value.int IntKind.u32 (la : Nat), Value.bool o, Value.int IntKind.i64 t, Value.int IntKind.i64 g, Value.int IntKind.i64 i, Value.int IntKind.i64 b2, (Value.slice (some ⟨b0, off, none⟩) len cap), Value.int IntKind.i64 (k : Nat)] _ (0, 0) HG.out)
     have HOz := Shut.mk (HO.out.setRow (g := h) (fun _ => rfl) #[Value.int IntKind.i64 u, Value.int IntKind.i64 d, Value.int IntKind.u32 (n : Nat), Value.int IntKind.u32 (la : Nat), Value.bool o, Value.int IntKind.i64 t, Value.int IntKind.i64 g, Value.int IntKind.i64 i, Value.int IntKind.i64 b2, (Value.slice (some ⟨b0, off, none⟩) len cap), Value.int IntKind.i64 (k : Nat)])
     go_wp2_with (first
      | (refine wpList_store_into rfl 2 (.tmp 88) (.tmp 85) rfl h 0 (.int .i64 u) rfl rfl rfl 139 _ #[Value.int IntKind.i64 u, Value.int IntKind.i64 d, Value.int IntKind.u32 (n : Nat), Value.int IntKind.u32 (la : Nat), Value.bool o, Value.int IntKind.i64 t, Value.int IntKind.i64 g, Value.int IntKind.i64 i, Value.int IntKind.i64 b2, (Value.slice (some ⟨b0, off, none⟩) len cap), Value.int IntKind.i64 (k : Nat)] HG.out size64 (show 0 < 11 by decide) rfl ?_))
     go_ret2
     exact ⟨by rw [HN.out.2]; rfl, by rw [HN1.out, HLB.out]; exact HGz.out, HOz.out⟩
    ·have HN := Shut.mk (look_old HZ.out hf)
     have hq : (f == 0) = false := by simpa using hf
     clear hf
     go_wp2
     go_quiet (fail)
     go_wp2
     go_ret2
     exact ⟨by rw [HN.out.2]; rfl, by rw [HN.out.1, HLB.out]; exact HG.out, HO.out.drew _⟩
   ·have e1 : decide (dd < g) = false := by simpa using h2
    have e2 : b2 ≤ 1514 := h3
    have HZ : Shut (reachB ⟨t, g, i⟩ b (⟨xa, xl⟩ :: rest) = false) := ⟨by rw [HRB.out, show decide (1514 < b2) = false by simpa using h3, Bool.and_false]⟩
    clear h2 h3
    have HN := Shut.mk (look_no (f := f) HZ.out)
    go_wp2
    go_quiet (fail)
    generalize hq : World.drewN w3 _ = w4
    replace HG := Shut.mk (block_of hq HG.out)
    replace HO := Shut.mk (only_of hq HO.out)
    clear hq
    clear g1 g2 g8 g9 g10 c0 y2
    have HGz := Shut.mk (setRow_heap w4 h _ #[Value.int IntKind.i64 0, Value.int IntKind.i64 d, Value.int IntKind.u32 (n : Nat), Value.int IntKind.u32 (la : Nat), Value.bool o, Value.int IntKind.i64 t, Value.int IntKind.i64 g, Value.int IntKind.i64 i, Value.int IntKind.i64 b2, (Value.slice (some ⟨b0, off, none⟩) len cap), Value.int IntKind.i64 (k : Nat)] _ (0, 0) HG.out)
    have HOz := Shut.mk (HO.out.setRow (g := h) (fun _ => rfl) #[Value.int IntKind.i64 0, Value.int IntKind.i64 d, Value.int IntKind.u32 (n : Nat), Value.int IntKind.u32 (la : Nat), Value.bool o, Value.int IntKind.i64 t, Value.int IntKind.i64 g, Value.int IntKind.i64 i, Value.int IntKind.i64 b2, (Value.slice (some ⟨b0, off, none⟩) len cap), Value.int IntKind.i64 (k : Nat)])
    go_wp2_with (first
     | (refine wpList_store_into rfl 2 (.tmp 69) (.const (.int .i64 0)) rfl h 0 (.int .i64 0) rfl rfl rfl 139 _ #[Value.int IntKind.i64 0, Value.int IntKind.i64 d, Value.int IntKind.u32 (n : Nat), Value.int IntKind.u32 (la : Nat), Value.bool o, Value.int IntKind.i64 t, Value.int IntKind.i64 g, Value.int IntKind.i64 i, Value.int IntKind.i64 b2, (Value.slice (some ⟨b0, off, none⟩) len cap), Value.int IntKind.i64 (k : Nat)] HG.out size64 (show 0 < 11 by decide) rfl ?_))
    go_ret2
    exact ⟨by rw [HN.out.2]; rfl, by rw [HN.out.1, HLB.out]; exact HGz.out, HOz.out⟩
 ·obtain rfl : k = len := h1
  have hd : l.drop k = [] := by rw [← HL.out.len]; exact List.drop_length
  rw [hd]
  have HQ : Shut (decide (k < k) = false) := ⟨by simp⟩
  rw [HQ.out]
  go_enter Tryz.func88, Tryz.ntmps88
  go_wp2
  go_quiet (fail)
  generalize hq : World.drewN w0 _ = w1
  replace HG := Shut.mk (block_of hq HG.out)
  replace HO := Shut.mk (only_of hq HO.out)
  clear hq
  have HGz := Shut.mk (setRow_heap w1 h _ #[Value.int IntKind.i64 0, Value.int IntKind.i64 d, Value.int IntKind.u32 (n : Nat), Value.int IntKind.u32 (la : Nat), Value.bool o, Value.int IntKind.i64 t, Value.int IntKind.i64 g, Value.int IntKind.i64 i, Value.int IntKind.i64 b, (Value.slice A k cap), Value.int IntKind.i64 (k : Nat)] _ (0, 0) HG.out)
  have HOz := Shut.mk (HO.out.setRow (g := h) (fun _ => rfl) #[Value.int IntKind.i64 0, Value.int IntKind.i64 d, Value.int IntKind.u32 (n : Nat), Value.int IntKind.u32 (la : Nat), Value.bool o, Value.int IntKind.i64 t, Value.int IntKind.i64 g, Value.int IntKind.i64 i, Value.int IntKind.i64 b, (Value.slice A k cap), Value.int IntKind.i64 (k : Nat)])
  go_wp2_with (first
   | (refine wpList_store_into rfl 2 (.tmp 17) (.const (.int .i64 0)) rfl h 0 (.int .i64 0) rfl rfl rfl 139 _ #[Value.int IntKind.i64 0, Value.int IntKind.i64 d, Value.int IntKind.u32 (n : Nat), Value.int IntKind.u32 (la : Nat), Value.bool o, Value.int IntKind.i64 t, Value.int IntKind.i64 g, Value.int IntKind.i64 i, Value.int IntKind.i64 b, (Value.slice A k cap), Value.int IntKind.i64 (k : Nat)] HG.out size64 (show 0 < 11 by decide) rfl ?_))
  go_ret2
  exact ⟨rfl, HGz.out, HOz.out⟩
end Go.Proofs.YtndkmgcmegcieaaGreatDoor
