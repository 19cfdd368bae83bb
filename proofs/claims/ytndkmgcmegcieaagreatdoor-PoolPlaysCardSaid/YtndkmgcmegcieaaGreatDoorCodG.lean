/-
  CONTRACT of the reference's Pull.
-/
import Derived.Test.YtndkmgcmegcieaaGreatDoorCodE
import Derived.Test.YtndkmgcmegcieaaGreatDoorCodF
namespace Go.Proofs.YtndkmgcmegcieaaGreatDoor
open Go.ChangeShapes Go.WideShapes Go.ChangeAt Go.RowKit Go.Deep
set_option linter.unusedVariables false
set_option linter.unusedSimpArgs false
theorem sizeRc : (Tryz.prog.info? 84).map (·.size) = some 5 := by kernel_rfl
theorem mid5 {w : World} {h : Nat} {t g i b f d : Int} {n la : Nat} {o : Bool} {s k : Value} {T : TypeId} {fr : Nat × Nat} (hg : w.heap[h]? = some (.cells #[.int .i64 f, .int .i64 d, .int .u32 (n : Nat), .int .u32 (la : Nat), .bool o, .int .i64 t, .int .i64 g, .int .i64 i, .int .i64 b, s, k] T fr)) :
 w.rangeAt h 0 [.int .i64 f, .int .i64 d, .int .u32 (n : Nat), .int .u32 (la : Nat), .bool o] := fun j v hv => block_range hg j v (by
 match j with
 | 0 | 1 | 2 | 3 | 4 => exact hv
 | j + 5 => simp at hv)
theorem drop_is {α : Type} {l : List α} {k len : Nat} (hl : l.length = len) : (!(l.drop k).isEmpty) = decide (k < len) := by
 subst hl
 rcases Nat.lt_or_ge k l.length with h | h
 ·rw [List.drop_eq_getElem_cons h, decide_eq_true h]; rfl
 ·rw [List.drop_eq_nil_of_le h, decide_eq_false (by omega)]; rfl
def measR (h len : Nat) (w : World) : Nat := match w.heap[h]? with
 | some (.cells cs _ _) => (match cs.getD 4 undef with
  | .bool true => len - (intOf (cs.getD 10 undef)).toNat + 1
  | _ => 0)
 | _ => 0
theorem measR_on {t g i b f d : Int} {n la : Nat} {s : Value} {k h len : Nat} {w : World} (hg : w.heap[h]? = some (Obj.cells #[Value.int IntKind.i64 f, Value.int IntKind.i64 d, Value.int IntKind.u32 ((n : Nat) : Int), Value.int IntKind.u32 ((la : Nat) : Int), Value.bool true, Value.int IntKind.i64 t, Value.int IntKind.i64 g, Value.int IntKind.i64 i, Value.int IntKind.i64 b, s, Value.int IntKind.i64 ((k : Nat) : Int)] 139 (0, 0))) : measR h len w = len - k + 1 := by
 unfold measR
 rw [hg]
 simp [intOf]
theorem measR_off {t g i b f d : Int} {n la : Nat} {s : Value} {k h len : Nat} {w : World} (hg : w.heap[h]? = some (Obj.cells #[Value.int IntKind.i64 f, Value.int IntKind.i64 d, Value.int IntKind.u32 ((n : Nat) : Int), Value.int IntKind.u32 ((la : Nat) : Int), Value.bool false, Value.int IntKind.i64 t, Value.int IntKind.i64 g, Value.int IntKind.i64 i, Value.int IntKind.i64 b, s, Value.int IntKind.i64 ((k : Nat) : Int)] 139 (0, 0))) : measR h len w = 0 := by
 unfold measR
 rw [hg]
 simp
set_option maxRecDepth 100000 in
set_option maxHeartbeats 8000000 in
theorem refpull_any (t tg iv b f d : Int) (n la : Nat) (o : Bool) (A : Option Addr) (len cap : Nat) (l : List It) (w0 : World) (hl : RowS itC 2 it00 w0 A len l) (hlen : len ≤ 1000)
 (ht : 0 ≤ t ∧ t ≤ 4503599627370496) (hb : 0 ≤ b ∧ b ≤ 1099510579200) (hx : ∀ x ∈ l, 0 ≤ x.at_ ∧ x.at_ ≤ 4503599627370496 ∧ x.len ≤ 1048576) (hn : n < 4294967296) (hla : la < 4294967296) (hd : 0 ≤ d ∧ d ≤ 4503599627370496)
 (R : Cd × Nat × Bool) (hR : pullR ⟨t, clampR tg 0 1073741824, clampR iv 0 1073741824⟩ ⟨f, d, n, la, o⟩ b l = R) :
 Calls Tryz.prog 71 #[(Value.agg #[Value.int IntKind.i64 f, Value.int IntKind.i64 d, Value.int IntKind.u32 ((n : Nat) : Int), Value.int IntKind.u32 ((la : Nat) : Int), Value.bool o]), .int .i64 t, .int .i64 tg, .int .i64 iv, .int .i64 b, .slice A len cap] w0 fun e w' =>
  e = .returned (.tuple #[(Value.agg #[Value.int IntKind.i64 R.1.first, Value.int IntKind.i64 R.1.drop, Value.int IntKind.u32 ((R.1.count : Nat) : Int), Value.int IntKind.u32 ((R.1.last : Nat) : Int), Value.bool R.1.on]), .int .i64 (R.2.1 : Nat), .bool R.2.2]) ∧ Below w0.heap.size w0 w' := by
 obtain ⟨g, hg⟩ : ∃ g, clampR tg 0 1073741824 = g := ⟨_, rfl⟩
 obtain ⟨i, hi⟩ : ∃ i, clampR iv 0 1073741824 = i := ⟨_, rfl⟩
 rw [hg, hi] at hR
 have HI : Shut (0 ≤ i ∧ i ≤ 1073741824) := ⟨by rw [← hi]; exact clamp_in (by decide)⟩
 have HP := Shut.mk hR
 have H0 := Shut.mk (two_alloc w0 (Obj.cells #[Value.int IntKind.i64 f, Value.int IntKind.i64 d, Value.int IntKind.u32 (n : Nat), Value.int IntKind.u32 (la : Nat), Value.bool o] 84 (0, 0)) (Obj.cells #[Value.int IntKind.i64 0, Value.int IntKind.i64 0, Value.int IntKind.u32 0, Value.int IntKind.u32 0, Value.bool false] 84 (0, 0)))
 have HX := Shut.mk hx
 have HT := Shut.mk ht
 have HB := Shut.mk hb
 have HM := Shut.mk hlen
 have HN := Shut.mk hn
 have HLA := Shut.mk hla
 have HD := Shut.mk hd
 have HGC := Shut.mk hg
 have HIC := Shut.mk hi
 have HLL := Shut.mk hl.len
 have HL0 := Shut.mk hl
 have HA : Shut (∀ p, A = some p → 0 < len → p.block ≠ w0.heap.size + 2) := ⟨fun p e h0 => by
  obtain ⟨b0, off, e2, hr⟩ := hl.el 0 h0
  rw [e] at e2
  cases e2
  have := cell_lt' (hr 0 _ rfl)
  show b0 ≠ _
  dsimp only at this
  omega⟩
 clear hx ht hb hlen hn hla hd hg hi hl hR
 go_enter Tryz.func71, Tryz.ntmps71
 go_wp2
 generalize hw1 : (w0.alloc _).alloc _ = w1 at *
 clear hw1
 generalize hs0 : w0.heap.size = s at *
 have s0 : w1.cell? ⟨s, 0, none⟩ = some (.int .i64 f) := (block_range H0.out.2.1) 0 _ rfl
 have s1 : w1.cell? ⟨s, 1, none⟩ = some (.int .i64 d) := by simpa using (block_range H0.out.2.1) 1 _ rfl
 have s2 : w1.cell? ⟨s, 2, none⟩ = some (.int .u32 (n : Nat)) := by simpa using (block_range H0.out.2.1) 2 _ rfl
 have s3 : w1.cell? ⟨s, 3, none⟩ = some (.int .u32 (la : Nat)) := by simpa using (block_range H0.out.2.1) 3 _ rfl
 have s4 : w1.cell? ⟨s, 4, none⟩ = some (.bool o) := by simpa using (block_range H0.out.2.1) 4 _ rfl
 go_still_tail 9, (by kernel_rfl)
 still_call (still_same (clamp_any tg 0 1073741824 _))
 rw [HGC.out]
 repeat still_step
 still_call (still_same (clamp_any iv 0 1073741824 _))
 rw [HIC.out]
 repeat still_step
 refine wpStill_nil ?_
 clear s0 s1 s2 s3 s4
 change wpList _ _ _ _ _ (World.drewN w1 1)
 have HB1 : Shut (Below s w0 (World.drewN w1 1)) := ⟨below_drewN H0.out.1 1⟩
 have HR1 : Shut ((World.drewN w1 1).heap[s + 1]? = some (Obj.cells #[Value.int IntKind.i64 0, Value.int IntKind.i64 0, Value.int IntKind.u32 0, Value.int IntKind.u32 0, Value.bool false] 84 (0, 0))) := ⟨H0.out.2.2.1⟩
 have hh : (World.drewN w1 1).heap.size = s + 2 := H0.out.2.2.2
 clear H0
 generalize World.drewN w1 1 = w2 at *
 have HGn := Shut.mk (heap_alloc_last w2 (.cells #[Value.int IntKind.i64 f, Value.int IntKind.i64 d, Value.int IntKind.u32 (n : Nat), Value.int IntKind.u32 (la : Nat), Value.bool o, Value.int IntKind.i64 t, Value.int IntKind.i64 g, Value.int IntKind.i64 i, Value.int IntKind.i64 b, Value.slice A len cap, Value.int IntKind.i64 ((0 : Nat) : Int)] 139))
 rw [hh] at HGn
 have HB2 := Shut.mk (HB1.out.alloc (by omega) (.cells #[Value.int IntKind.i64 f, Value.int IntKind.i64 d, Value.int IntKind.u32 (n : Nat), Value.int IntKind.u32 (la : Nat), Value.bool o, Value.int IntKind.i64 t, Value.int IntKind.i64 g, Value.int IntKind.i64 i, Value.int IntKind.i64 b, Value.slice A len cap, Value.int IntKind.i64 ((0 : Nat) : Int)] 139))
 have HR2 := Shut.mk ((((Below.refl _ w2).alloc (Nat.le_refl _) (.cells #[Value.int IntKind.i64 f, Value.int IntKind.i64 d, Value.int IntKind.u32 (n : Nat), Value.int IntKind.u32 (la : Nat), Value.bool o, Value.int IntKind.i64 t, Value.int IntKind.i64 g, Value.int IntKind.i64 i, Value.int IntKind.i64 b, Value.slice A len cap, Value.int IntKind.i64 ((0 : Nat) : Int)] 139)).block (s + 1) (by omega)).trans HR1.out)
 have HS2 : Shut (s + 3 ≤ (w2.alloc (.cells #[Value.int IntKind.i64 f, Value.int IntKind.i64 d, Value.int IntKind.u32 (n : Nat), Value.int IntKind.u32 (la : Nat), Value.bool o, Value.int IntKind.i64 t, Value.int IntKind.i64 g, Value.int IntKind.i64 i, Value.int IntKind.i64 b, Value.slice A len cap, Value.int IntKind.i64 ((0 : Nat) : Int)] 139)).heap.size) := ⟨by simp [hh]⟩
 go_wp2_with (fail)
 generalize hw3 : w2.alloc _ = w3 at *
 clear hw3
 have HL1 : Shut (RowS itC 2 it00 w3 A len l) := ⟨HL0.out.below (by rw [hs0]; exact HB2.out)⟩
 have HO : Shut (Only (· = s + 2) w0 w3) := ⟨Only.of_below HB2.out (fun i hi he => by omega)⟩
 have HG := HGn
 have HR := HR2
 have HS := HS2
 clear HGn HR2 HS2 HB1 HR1 HB2 hh
 refine (reflook_any t g i b f d n la o A len cap 0 (s + 2) l w3 HG.out HL1.out HA.out (Nat.zero_le _) HT.out HI.out (by have := HB.out; omega) HX.out).mono ?_
 rintro e w4 ⟨rfl, hG, hO⟩
 rw [List.drop_zero] at hG ⊢
 obtain ⟨f1, hf1⟩ : ∃ f1, lookF ⟨t, g, i⟩ f b l = f1 := ⟨_, rfl⟩
 rw [hf1] at hG
 obtain ⟨b1, hb1⟩ : ∃ b1, lookB b l = b1 := ⟨_, rfl⟩
 rw [hb1] at hG
 replace HG := Shut.mk hG
 replace HR := Shut.mk (hO.at_ HR.out (by show ¬ s + 1 = s + 2; omega))
 replace HO := Shut.mk (HO.out.trans hO fun _ _ e => e)
 replace HS := Shut.mk (Nat.le_trans HS.out hO.size)
 clear hG hO
 clear HL1
 have HBB : Shut (-1048576 ≤ b1 ∧ b1 ≤ 1099510579200) := ⟨by
  have e := lookB_in (b := b) (k := 0) HX.out
  rw [List.drop_zero, hb1] at e
  have := HB.out
  omega⟩
 obtain ⟨r, hr⟩ : ∃ r, lookL ⟨t, g, i⟩ f b l = r := ⟨_, rfl⟩
 rw [hr]
 rcases Nat.eq_zero_or_pos len with h0 | h0
 ·have hnil : l = [] := List.eq_nil_of_length_eq_zero (by rw [HLL.out]; exact h0)
  have HR1 := Shut.mk (HP.out.symm.trans (pull_no (c := ⟨f, d, n, la, o⟩) (by rw [hnil]; rfl)))
  dsimp only at HR1
  rw [hf1] at HR1
  have hq : decide (0 < len) = false := by rw [h0]; rfl
  have hql : decide (0 < l.length) = false := by rw [hnil]; rfl
  rw [hql] at HR1
  rw [hq]
  clear hr hf1 HP hnil hq hql h0
  have HGz := Shut.mk (setRow_heap w4 (s + 2) _ #[Value.int IntKind.i64 f1, Value.int IntKind.i64 d, Value.int IntKind.u32 (n : Nat), Value.int IntKind.u32 (la : Nat), Value.bool false, Value.int IntKind.i64 t, Value.int IntKind.i64 g, Value.int IntKind.i64 i, Value.int IntKind.i64 b1, (Value.slice A len cap), Value.int IntKind.i64 ((0 : Nat) : Int)] _ (0, 0) HG.out)
  have HRz := Shut.mk ((setRow_other w4 (s + 2) (s + 1) #[Value.int IntKind.i64 f1, Value.int IntKind.i64 d, Value.int IntKind.u32 (n : Nat), Value.int IntKind.u32 (la : Nat), Value.bool false, Value.int IntKind.i64 t, Value.int IntKind.i64 g, Value.int IntKind.i64 i, Value.int IntKind.i64 b1, (Value.slice A len cap), Value.int IntKind.i64 ((0 : Nat) : Int)] (by omega)).trans HR.out)
  have HOz := Shut.mk (HO.out.setRow (g := (s + 2)) (fun e => by first | rfl | omega) #[Value.int IntKind.i64 f1, Value.int IntKind.i64 d, Value.int IntKind.u32 (n : Nat), Value.int IntKind.u32 (la : Nat), Value.bool false, Value.int IntKind.i64 t, Value.int IntKind.i64 g, Value.int IntKind.i64 i, Value.int IntKind.i64 b1, (Value.slice A len cap), Value.int IntKind.i64 ((0 : Nat) : Int)])
  have HSz : Shut (s + 3 ≤ (w4.setRow (s + 2) #[Value.int IntKind.i64 f1, Value.int IntKind.i64 d, Value.int IntKind.u32 (n : Nat), Value.int IntKind.u32 (la : Nat), Value.bool false, Value.int IntKind.i64 t, Value.int IntKind.i64 g, Value.int IntKind.i64 i, Value.int IntKind.i64 b1, (Value.slice A len cap), Value.int IntKind.i64 ((0 : Nat) : Int)]).heap.size) := ⟨Nat.le_trans HS.out (by simp [World.setRow])⟩
  have HGy := Shut.mk ((setRow_other (w4.setRow (s + 2) #[Value.int IntKind.i64 f1, Value.int IntKind.i64 d, Value.int IntKind.u32 (n : Nat), Value.int IntKind.u32 (la : Nat), Value.bool false, Value.int IntKind.i64 t, Value.int IntKind.i64 g, Value.int IntKind.i64 i, Value.int IntKind.i64 b1, (Value.slice A len cap), Value.int IntKind.i64 ((0 : Nat) : Int)]) (s + 1) (s + 2) #[Value.int IntKind.i64 f1, Value.int IntKind.i64 d, Value.int IntKind.u32 (n : Nat), Value.int IntKind.u32 (la : Nat), Value.bool false] (by omega)).trans HGz.out)
  have HRy := Shut.mk (setRow_heap (w4.setRow (s + 2) #[Value.int IntKind.i64 f1, Value.int IntKind.i64 d, Value.int IntKind.u32 (n : Nat), Value.int IntKind.u32 (la : Nat), Value.bool false, Value.int IntKind.i64 t, Value.int IntKind.i64 g, Value.int IntKind.i64 i, Value.int IntKind.i64 b1, (Value.slice A len cap), Value.int IntKind.i64 ((0 : Nat) : Int)]) (s + 1) _ #[Value.int IntKind.i64 f1, Value.int IntKind.i64 d, Value.int IntKind.u32 (n : Nat), Value.int IntKind.u32 (la : Nat), Value.bool false] _ (0, 0) HRz.out)
  have HOy := Shut.mk (HOz.out.setRow (g := (s + 1)) (fun e => by first | rfl | omega) #[Value.int IntKind.i64 f1, Value.int IntKind.i64 d, Value.int IntKind.u32 (n : Nat), Value.int IntKind.u32 (la : Nat), Value.bool false])
  have HSy : Shut (s + 3 ≤ ((w4.setRow (s + 2) #[Value.int IntKind.i64 f1, Value.int IntKind.i64 d, Value.int IntKind.u32 (n : Nat), Value.int IntKind.u32 (la : Nat), Value.bool false, Value.int IntKind.i64 t, Value.int IntKind.i64 g, Value.int IntKind.i64 i, Value.int IntKind.i64 b1, (Value.slice A len cap), Value.int IntKind.i64 ((0 : Nat) : Int)]).setRow (s + 1) #[Value.int IntKind.i64 f1, Value.int IntKind.i64 d, Value.int IntKind.u32 (n : Nat), Value.int IntKind.u32 (la : Nat), Value.bool false]).heap.size) := ⟨Nat.le_trans HSz.out (by simp [World.setRow])⟩
  go_wp2_with (first
   | (refine wpList_store_into rfl 4 (.tmp 39) (.const (.bool false)) rfl (s + 2) 4 (.bool false) rfl rfl rfl 139 _ #[Value.int IntKind.i64 f1, Value.int IntKind.i64 d, Value.int IntKind.u32 (n : Nat), Value.int IntKind.u32 (la : Nat), Value.bool false, Value.int IntKind.i64 t, Value.int IntKind.i64 g, Value.int IntKind.i64 i, Value.int IntKind.i64 b1, (Value.slice A len cap), Value.int IntKind.i64 ((0 : Nat) : Int)] HG.out sizeB (show 4 < 11 by decide) rfl ?_)
   | (refine wpList_load_mid rfl 84 (.tmp 42) rfl (s + 2) 0 rfl [.int .i64 f1, .int .i64 d, .int .u32 (n : Nat), .int .u32 (la : Nat), .bool false] _ (mid5 HGz.out) Tryz.underlying84 rfl sizeRc ?_)
   | (refine wpList_store_row rfl 84 (.tmp 12) (.tmp 43) rfl (s + 1) #[Value.int IntKind.i64 f1, Value.int IntKind.i64 d, Value.int IntKind.u32 (n : Nat), Value.int IntKind.u32 (la : Nat), Value.bool false] rfl rfl 84 _ HRz.out sizeRc rfl (cd_one _ _ _ _ _) ?_))
  exact bodyPost_ret (v := .tuple #[.agg #[Value.int IntKind.i64 f1, Value.int IntKind.i64 d, Value.int IntKind.u32 (n : Nat), Value.int IntKind.u32 (la : Nat), Value.bool false], .int .i64 0, .bool false]) (results_c2 (p := 12) (q := 13) (r := 14) Tryz.results71 _ _ (s + 1) _ _ _ _ _ _ rfl rfl rfl HRy.out Tryz.underlying84 rfl sizeRc) rfl ⟨by rw [HR1.out]; rfl, HOy.out.below (fun i hi => by show ¬ i = s + 2; omega) (Nat.le_refl _)⟩
 ·have hql : decide (0 < l.length) = true := by rw [HLL.out]; simpa using h0
  have hq : decide (0 < len) = true := by simpa using h0
  rw [hq]
  clear hq
  have HP0 := Shut.mk h0
  clear h0
  have g4 : w4.cell? ⟨s + 2, 4, none⟩ = some (.bool o) := by simpa using (block_range HG.out) 4 _ rfl
  cases o
  ·cases r
   ·have HQ := Shut.mk (HP.out.symm.trans (pull_no (c := ⟨f, d, n, la, false⟩) hr))
    dsimp only at HQ
    rw [hf1, hql] at HQ
    clear hr hf1 hb1 HP hql
    go_wp2
    clear g4
    have g10 : w4.cell? ⟨s + 2, 10, none⟩ = some (.int .i64 (0 : Nat)) := by simpa using (block_range HG.out) 10 _ rfl
    go_wp2
    refine wp_region_held_drew (S := fun w' => Only (· = s + 1) w4 w') (by kernel_rfl) ((Only.refl _ _).drew 1) (fun hHeld => ?_)
    refine hP 0 ?_
    refine hP 1 ?_
    refine hP 2 ?_
    refine wpAnyH_take (i := 3) (v := .agg #[Value.int IntKind.i64 f1, Value.int IntKind.i64 d, Value.int IntKind.u32 (n : Nat), Value.int IntKind.u32 (la : Nat), Value.bool false]) rfl (by kernel_rfl) (by kernel_rfl) (by kernel_rfl) (fun _ _ _ h => h) (yieldsIf_load_mid (by rfl) 84 (.tmp 213) rfl (s + 2) (0) rfl (#[Value.int IntKind.i64 f1, Value.int IntKind.i64 d, Value.int IntKind.u32 (n : Nat), Value.int IntKind.u32 (la : Nat), Value.bool false]).toList _ (fun w' hw' => hw'.range (mid5 HG.out) (by show ¬ s + 2 = s + 1; omega)) Tryz.underlying84 rfl sizeRc) (by assumption) ?_
    try simp only [Act.put, sG1, sG2, sG3, sG4, sG5, sG6]
    refine hP 4 ?_
    refine hP 5 ?_
    refine hP 6 ?_
    refine wpAnyH_take (i := 7) (v := ?_) rfl (by kernel_rfl) (by kernel_rfl) (by kernel_rfl) (fun _ _ _ h => h) (Or.inl ⟨by rfl, ?_⟩) (by assumption) ?_
    rotate_left
    ·intro w hSw
     have q := hSw.cell g10 (by show ¬ s + 2 = s + 1; omega)
     clear hSw
     go_simp
     try with_reducible rfl
    try simp only [Act.put, sG1, sG2, sG3, sG4, sG5, sG6]
    refine hP 8 ?_
    clear hHeld g10
    replace HG := Shut.mk (block_of (w := w4) (n := 1) rfl HG.out)
    replace HR := Shut.mk (block_of (w := w4) (n := 1) rfl HR.out)
    replace HO := Shut.mk (only_of (w := w4) (n := 1) rfl HO.out)
    replace HS := Shut.mk (size_of (w := w4) (n := 1) rfl HS.out)
    have HQ3 : Shut (Only (· = s + 1) w4 (World.drewN w4 1)) := ⟨(Only.refl _ _).drew 1⟩
    change wpAnyH _ _ _ _ _ _ _ _ (World.drewN w4 1)
    generalize World.drewN w4 1 = wt at *
    have HGz := Shut.mk ((setRow_other wt (s + 1) (s + 2) #[Value.int IntKind.i64 f1, Value.int IntKind.i64 d, Value.int IntKind.u32 (n : Nat), Value.int IntKind.u32 (la : Nat), Value.bool false] (by omega)).trans HG.out)
    have HRz := Shut.mk (setRow_heap wt (s + 1) _ #[Value.int IntKind.i64 f1, Value.int IntKind.i64 d, Value.int IntKind.u32 (n : Nat), Value.int IntKind.u32 (la : Nat), Value.bool false] _ (0, 0) HR.out)
    have HOz := Shut.mk (HO.out.setRow (g := (s + 1)) (fun e => by first | rfl | omega) #[Value.int IntKind.i64 f1, Value.int IntKind.i64 d, Value.int IntKind.u32 (n : Nat), Value.int IntKind.u32 (la : Nat), Value.bool false])
    have HSz : Shut (s + 3 ≤ (wt.setRow (s + 1) #[Value.int IntKind.i64 f1, Value.int IntKind.i64 d, Value.int IntKind.u32 (n : Nat), Value.int IntKind.u32 (la : Nat), Value.bool false]).heap.size) := ⟨Nat.le_trans HS.out (by simp [World.setRow])⟩
    refine wpAnyH_ready (rs := [9]) (by kernel_rfl) (by simp) ?_
    refine AllReadyH.cons rfl (fun K hK => ?_) AllReadyH.nil
    rw [if_pos (by rfl)]
    refine wp_store_row 84 (.tmp 12) (.tmp 214) rfl (s + 1) #[Value.int IntKind.i64 f1, Value.int IntKind.i64 d, Value.int IntKind.u32 (n : Nat), Value.int IntKind.u32 (la : Nat), Value.bool false] rfl rfl 84 _ HR.out sizeRc rfl (cd_one _ _ _ _ _) ?_
    refine hK.out _ _ (HQ3.out.setRow (g := s + 1) (fun _ => rfl) #[Value.int IntKind.i64 f1, Value.int IntKind.i64 d, Value.int IntKind.u32 (n : Nat), Value.int IntKind.u32 (la : Nat), Value.bool false]) (fun hHeld => ?_)
    clear hK K
    try simp only [Act.put, sG1, sG2, sG3, sG4, sG5, sG6]
    refine hP 10 ?_
    refine hP 11 ?_
    refine wpAnyH_done (by kernel_rfl) ?_ _
    try simp only [Act.put, sG1, sG2, sG3, sG4, sG5, sG6]
    go_wp2
    exact bodyPost_ret (v := .tuple #[.agg #[Value.int IntKind.i64 f1, Value.int IntKind.i64 d, Value.int IntKind.u32 (n : Nat), Value.int IntKind.u32 (la : Nat), Value.bool false], .int .i64 (0 : Nat), .bool true]) (results_c2 (p := 12) (q := 13) (r := 14) Tryz.results71 _ _ (s + 1) _ _ _ _ _ _ rfl rfl rfl HRz.out Tryz.underlying84 rfl sizeRc) rfl ⟨by rw [HQ.out], HOz.out.below (fun i hi => by show ¬ i = s + 2; omega) (Nat.le_refl _)⟩
   ·have HR1 := Shut.mk (HP.out.symm.trans (pull_begins (c := ⟨f, d, n, la, false⟩) hr rfl))
    dsimp only at HR1
    rw [hf1, hb1] at HR1
    have HLT := Shut.mk (look_late hr).1
    clear hr hf1 hb1 HP hql
    obtain ⟨m, hm⟩ : ∃ m, begins ⟨t, g, i⟩ ⟨f, d, n, la, false⟩ = m := ⟨_, rfl⟩
    have HBG := Shut.mk hm
    have HML : Shut (m < 4294967296) := ⟨by rw [← hm]; exact begins_lt _ _⟩
    rw [hm] at HR1
    clear hm
    have HGz := Shut.mk (setRow_heap w4 (s + 2) _ #[Value.int IntKind.i64 f1, Value.int IntKind.i64 d, Value.int IntKind.u32 (n : Nat), Value.int IntKind.u32 (la : Nat), Value.bool false, Value.int IntKind.i64 t, Value.int IntKind.i64 g, Value.int IntKind.i64 i, Value.int IntKind.i64 b1, (Value.slice A len cap), Value.int IntKind.i64 ((1 : Nat) : Int)] _ (0, 0) HG.out)
    have HRz := Shut.mk ((setRow_other w4 (s + 2) (s + 1) #[Value.int IntKind.i64 f1, Value.int IntKind.i64 d, Value.int IntKind.u32 (n : Nat), Value.int IntKind.u32 (la : Nat), Value.bool false, Value.int IntKind.i64 t, Value.int IntKind.i64 g, Value.int IntKind.i64 i, Value.int IntKind.i64 b1, (Value.slice A len cap), Value.int IntKind.i64 ((1 : Nat) : Int)] (by omega)).trans HR.out)
    have HOz := Shut.mk (HO.out.setRow (g := (s + 2)) (fun e => by first | rfl | omega) #[Value.int IntKind.i64 f1, Value.int IntKind.i64 d, Value.int IntKind.u32 (n : Nat), Value.int IntKind.u32 (la : Nat), Value.bool false, Value.int IntKind.i64 t, Value.int IntKind.i64 g, Value.int IntKind.i64 i, Value.int IntKind.i64 b1, (Value.slice A len cap), Value.int IntKind.i64 ((1 : Nat) : Int)])
    have HSz : Shut (s + 3 ≤ (w4.setRow (s + 2) #[Value.int IntKind.i64 f1, Value.int IntKind.i64 d, Value.int IntKind.u32 (n : Nat), Value.int IntKind.u32 (la : Nat), Value.bool false, Value.int IntKind.i64 t, Value.int IntKind.i64 g, Value.int IntKind.i64 i, Value.int IntKind.i64 b1, (Value.slice A len cap), Value.int IntKind.i64 ((1 : Nat) : Int)]).heap.size) := ⟨Nat.le_trans HS.out (by simp [World.setRow])⟩
    go_wp2_with (first
     | (refine wpList_store_into rfl 3 (.tmp 146) (.const (.int .i64 1)) rfl (s + 2) 10 (.int .i64 ((1 : Nat) : Int)) rfl rfl rfl 139 _ #[Value.int IntKind.i64 f1, Value.int IntKind.i64 d, Value.int IntKind.u32 (n : Nat), Value.int IntKind.u32 (la : Nat), Value.bool false, Value.int IntKind.i64 t, Value.int IntKind.i64 g, Value.int IntKind.i64 i, Value.int IntKind.i64 b1, (Value.slice A len cap), Value.int IntKind.i64 ((1 : Nat) : Int)] HG.out sizeI64 (show 10 < 11 by decide) rfl ?_))
    clear g4
    generalize hz : w4.setRow (s + 2) _ = w5 at *
    clear hz HG HR HO HS
    have HG := HGz
    have HR := HRz
    have HO := HOz
    have HS := HSz
    clear HGz HRz HOz HSz
    have hb2 : -1099511627776 ≤ b1 ∧ b1 ≤ 1099511627776 := by have := HBB.out; omega
    refine (reflook_any t g i b1 f1 d n la false A len cap 1 (s + 2) l w5 HG.out (HL0.out.only HO.out (fun p hp => HA.out p hp HP0.out)) HA.out (by have := HP0.out; omega) HT.out HI.out hb2 HX.out).mono ?_
    rintro e w6 ⟨rfl, hG, hO⟩
    clear hb2
    replace HG := Shut.mk hG
    replace HR := Shut.mk (hO.at_ HR.out (by show ¬ s + 1 = s + 2; omega))
    replace HO := Shut.mk (HO.out.trans hO fun _ _ e => e)
    replace HS := Shut.mk (Nat.le_trans HS.out hO.size)
    clear hG hO
    obtain ⟨f2, hf2⟩ : ∃ f2, lookF ⟨t, g, i⟩ f1 b1 (l.drop 1) = f2 := ⟨_, rfl⟩
    rw [hf2] at HG HR1
    generalize lookB b1 (l.drop 1) = b2 at *
    generalize lookL ⟨t, g, i⟩ f1 b1 (l.drop 1) = r2 at *
    obtain ⟨iw, hiw⟩ : ∃ iw, decide (1 < len) = iw := ⟨_, rfl⟩
    have hiw2 : decide (1 < l.length) = iw := by rw [HLL.out]; exact hiw
    rw [hiw]
    rw [hiw2] at HR1
    clear hf2 hiw hiw2
    obtain ⟨sn, hsn⟩ : ∃ sn, (n + 4294967296 - la) % 4294967296 = sn := ⟨_, rfl⟩
    have HSN := Shut.mk hsn
    have y1 : IntKind.u32.wrap ((n : Int) - (la : Int)) = ((sn : Nat) : Int) := by rw [← hsn]; exact since_u32 HN.out HLA.out
    clear hsn
    have HGz := Shut.mk (setRow_heap w6 (s + 2) _ #[Value.int IntKind.i64 f2, Value.int IntKind.i64 d, Value.int IntKind.u32 (n : Nat), Value.int IntKind.u32 (la : Nat), Value.bool true, Value.int IntKind.i64 t, Value.int IntKind.i64 g, Value.int IntKind.i64 i, Value.int IntKind.i64 b2, (Value.slice A len cap), Value.int IntKind.i64 ((1 : Nat) : Int)] _ (0, 0) HG.out)
    have HRz := Shut.mk ((setRow_other w6 (s + 2) (s + 1) #[Value.int IntKind.i64 f2, Value.int IntKind.i64 d, Value.int IntKind.u32 (n : Nat), Value.int IntKind.u32 (la : Nat), Value.bool true, Value.int IntKind.i64 t, Value.int IntKind.i64 g, Value.int IntKind.i64 i, Value.int IntKind.i64 b2, (Value.slice A len cap), Value.int IntKind.i64 ((1 : Nat) : Int)] (by omega)).trans HR.out)
    have HOz := Shut.mk (HO.out.setRow (g := (s + 2)) (fun e => by first | rfl | omega) #[Value.int IntKind.i64 f2, Value.int IntKind.i64 d, Value.int IntKind.u32 (n : Nat), Value.int IntKind.u32 (la : Nat), Value.bool true, Value.int IntKind.i64 t, Value.int IntKind.i64 g, Value.int IntKind.i64 i, Value.int IntKind.i64 b2, (Value.slice A len cap), Value.int IntKind.i64 ((1 : Nat) : Int)])
    have HSz : Shut (s + 3 ≤ (w6.setRow (s + 2) #[Value.int IntKind.i64 f2, Value.int IntKind.i64 d, Value.int IntKind.u32 (n : Nat), Value.int IntKind.u32 (la : Nat), Value.bool true, Value.int IntKind.i64 t, Value.int IntKind.i64 g, Value.int IntKind.i64 i, Value.int IntKind.i64 b2, (Value.slice A len cap), Value.int IntKind.i64 ((1 : Nat) : Int)]).heap.size) := ⟨Nat.le_trans HS.out (by simp [World.setRow])⟩
    have g2 : (w6.setRow (s + 2) #[Value.int IntKind.i64 f2, Value.int IntKind.i64 d, Value.int IntKind.u32 (n : Nat), Value.int IntKind.u32 (la : Nat), Value.bool true, Value.int IntKind.i64 t, Value.int IntKind.i64 g, Value.int IntKind.i64 i, Value.int IntKind.i64 b2, (Value.slice A len cap), Value.int IntKind.i64 ((1 : Nat) : Int)]).cell? ⟨s + 2, 2, none⟩ = some (.int .u32 (n : Nat)) := by simpa using (block_range HGz.out) 2 _ rfl
    have g3 : (w6.setRow (s + 2) #[Value.int IntKind.i64 f2, Value.int IntKind.i64 d, Value.int IntKind.u32 (n : Nat), Value.int IntKind.u32 (la : Nat), Value.bool true, Value.int IntKind.i64 t, Value.int IntKind.i64 g, Value.int IntKind.i64 i, Value.int IntKind.i64 b2, (Value.slice A len cap), Value.int IntKind.i64 ((1 : Nat) : Int)]).cell? ⟨s + 2, 3, none⟩ = some (.int .u32 (la : Nat)) := by simpa using (block_range HGz.out) 3 _ rfl
    go_upto_region 23 with (first
     | (refine wpList_store_into rfl 4 (.tmp 155) (.const (.bool true)) rfl (s + 2) 4 (.bool true) rfl rfl rfl 139 _ #[Value.int IntKind.i64 f2, Value.int IntKind.i64 d, Value.int IntKind.u32 (n : Nat), Value.int IntKind.u32 (la : Nat), Value.bool true, Value.int IntKind.i64 t, Value.int IntKind.i64 g, Value.int IntKind.i64 i, Value.int IntKind.i64 b2, (Value.slice A len cap), Value.int IntKind.i64 ((1 : Nat) : Int)] HG.out sizeB (show 4 < 11 by decide) rfl ?_))
    generalize hz : w6.setRow (s + 2) _ = w7 at *
    clear hz HG HR HO HS
    have HG := HGz
    have HR := HRz
    have HO := HOz
    have HS := HSz
    clear HGz HRz HOz HSz
    go_wp2
    go_quiet (fail)
    generalize hq : World.drewN w7 _ = w8
    replace HG := Shut.mk (block_of hq HG.out)
    replace HR := Shut.mk (block_of hq HR.out)
    replace HO := Shut.mk (only_of hq HO.out)
    replace HS := Shut.mk (size_of hq HS.out)
    clear hq
    clear g2 g3 y1
    rcases Nat.lt_or_ge 1 sn with hA1 | hA1
    ·rcases Int.lt_or_le (t - d) (16 * i) with hB1 | hB1
     ·have hm1 : m = sn := by rw [← HBG.out, ← HSN.out]; exact begins_more (by show ¬ (n + 4294967296 - la) % 4294967296 ≤ 1; rw [HSN.out]; omega) (by show ¬ 16 * i ≤ t - d; omega)
      subst hm1
      have g1 : w8.cell? ⟨s + 2, 1, none⟩ = some (.int .i64 d) := by simpa using (block_range HG.out) 1 _ rfl
      have g5 : w8.cell? ⟨s + 2, 5, none⟩ = some (.int .i64 t) := by simpa using (block_range HG.out) 5 _ rfl
      have g7 : w8.cell? ⟨s + 2, 7, none⟩ = some (.int .i64 i) := by simpa using (block_range HG.out) 7 _ rfl
      obtain ⟨dd, hdd⟩ : ∃ dd : Int, t - d = dd := ⟨_, rfl⟩
      have y2 : IntKind.i64.wrap (t - d) = dd := by have := HT.out; have := HD.out; rw [hdd]; exact IntWalk.i64_in _ ⟨by omega, by omega⟩
      have y1 : IntKind.i64.wrap (16 * i) = 16 * i := by have := HI.out; exact IntWalk.i64_in _ ⟨by omega, by omega⟩
      obtain ⟨ii, hii⟩ : ∃ ii : Int, 16 * i = ii := ⟨_, rfl⟩
      rw [hdd, hii] at hB1
      rw [hii] at y1
      have y3 : IntKind.i64.wrap (16 * i) = ii := by rw [hii]; exact y1
      clear hdd hii y1
      have q1 : decide ((m : Int) ≤ 1) = false := by simp only [decide_eq_false_iff_not]; omega
      have q2 : decide (ii ≤ dd) = false := by simp only [decide_eq_false_iff_not]; omega
      clear hB1 hA1
      go_wp2
      go_quiet (fail)
      generalize hq : World.drewN w8 _ = w9
      replace HG := Shut.mk (block_of hq HG.out)
      replace HR := Shut.mk (block_of hq HR.out)
      replace HO := Shut.mk (only_of hq HO.out)
      replace HS := Shut.mk (size_of hq HS.out)
      clear hq
      clear q1 q2 y2 y3 g1 g5 g7
      have HGz := Shut.mk (setRow_heap w9 (s + 2) _ #[Value.int IntKind.i64 f2, Value.int IntKind.i64 d, Value.int IntKind.u32 (m : Nat), Value.int IntKind.u32 (la : Nat), Value.bool true, Value.int IntKind.i64 t, Value.int IntKind.i64 g, Value.int IntKind.i64 i, Value.int IntKind.i64 b2, (Value.slice A len cap), Value.int IntKind.i64 ((1 : Nat) : Int)] _ (0, 0) HG.out)
      have HRz := Shut.mk ((setRow_other w9 (s + 2) (s + 1) #[Value.int IntKind.i64 f2, Value.int IntKind.i64 d, Value.int IntKind.u32 (m : Nat), Value.int IntKind.u32 (la : Nat), Value.bool true, Value.int IntKind.i64 t, Value.int IntKind.i64 g, Value.int IntKind.i64 i, Value.int IntKind.i64 b2, (Value.slice A len cap), Value.int IntKind.i64 ((1 : Nat) : Int)] (by omega)).trans HR.out)
      have HOz := Shut.mk (HO.out.setRow (g := (s + 2)) (fun e => by first | rfl | omega) #[Value.int IntKind.i64 f2, Value.int IntKind.i64 d, Value.int IntKind.u32 (m : Nat), Value.int IntKind.u32 (la : Nat), Value.bool true, Value.int IntKind.i64 t, Value.int IntKind.i64 g, Value.int IntKind.i64 i, Value.int IntKind.i64 b2, (Value.slice A len cap), Value.int IntKind.i64 ((1 : Nat) : Int)])
      have HSz : Shut (s + 3 ≤ (w9.setRow (s + 2) #[Value.int IntKind.i64 f2, Value.int IntKind.i64 d, Value.int IntKind.u32 (m : Nat), Value.int IntKind.u32 (la : Nat), Value.bool true, Value.int IntKind.i64 t, Value.int IntKind.i64 g, Value.int IntKind.i64 i, Value.int IntKind.i64 b2, (Value.slice A len cap), Value.int IntKind.i64 ((1 : Nat) : Int)]).heap.size) := ⟨Nat.le_trans HS.out (by simp [World.setRow])⟩
      have HGy := Shut.mk (setRow_heap (w9.setRow (s + 2) #[Value.int IntKind.i64 f2, Value.int IntKind.i64 d, Value.int IntKind.u32 (m : Nat), Value.int IntKind.u32 (la : Nat), Value.bool true, Value.int IntKind.i64 t, Value.int IntKind.i64 g, Value.int IntKind.i64 i, Value.int IntKind.i64 b2, (Value.slice A len cap), Value.int IntKind.i64 ((1 : Nat) : Int)]) (s + 2) _ #[Value.int IntKind.i64 f2, Value.int IntKind.i64 d, Value.int IntKind.u32 (m : Nat), Value.int IntKind.u32 (m : Nat), Value.bool true, Value.int IntKind.i64 t, Value.int IntKind.i64 g, Value.int IntKind.i64 i, Value.int IntKind.i64 b2, (Value.slice A len cap), Value.int IntKind.i64 ((1 : Nat) : Int)] _ (0, 0) HGz.out)
      have HRy := Shut.mk ((setRow_other (w9.setRow (s + 2) #[Value.int IntKind.i64 f2, Value.int IntKind.i64 d, Value.int IntKind.u32 (m : Nat), Value.int IntKind.u32 (la : Nat), Value.bool true, Value.int IntKind.i64 t, Value.int IntKind.i64 g, Value.int IntKind.i64 i, Value.int IntKind.i64 b2, (Value.slice A len cap), Value.int IntKind.i64 ((1 : Nat) : Int)]) (s + 2) (s + 1) #[Value.int IntKind.i64 f2, Value.int IntKind.i64 d, Value.int IntKind.u32 (m : Nat), Value.int IntKind.u32 (m : Nat), Value.bool true, Value.int IntKind.i64 t, Value.int IntKind.i64 g, Value.int IntKind.i64 i, Value.int IntKind.i64 b2, (Value.slice A len cap), Value.int IntKind.i64 ((1 : Nat) : Int)] (by omega)).trans HRz.out)
      have HOy := Shut.mk (HOz.out.setRow (g := (s + 2)) (fun e => by first | rfl | omega) #[Value.int IntKind.i64 f2, Value.int IntKind.i64 d, Value.int IntKind.u32 (m : Nat), Value.int IntKind.u32 (m : Nat), Value.bool true, Value.int IntKind.i64 t, Value.int IntKind.i64 g, Value.int IntKind.i64 i, Value.int IntKind.i64 b2, (Value.slice A len cap), Value.int IntKind.i64 ((1 : Nat) : Int)])
      have HSy : Shut (s + 3 ≤ ((w9.setRow (s + 2) #[Value.int IntKind.i64 f2, Value.int IntKind.i64 d, Value.int IntKind.u32 (m : Nat), Value.int IntKind.u32 (la : Nat), Value.bool true, Value.int IntKind.i64 t, Value.int IntKind.i64 g, Value.int IntKind.i64 i, Value.int IntKind.i64 b2, (Value.slice A len cap), Value.int IntKind.i64 ((1 : Nat) : Int)]).setRow (s + 2) #[Value.int IntKind.i64 f2, Value.int IntKind.i64 d, Value.int IntKind.u32 (m : Nat), Value.int IntKind.u32 (m : Nat), Value.bool true, Value.int IntKind.i64 t, Value.int IntKind.i64 g, Value.int IntKind.i64 i, Value.int IntKind.i64 b2, (Value.slice A len cap), Value.int IntKind.i64 ((1 : Nat) : Int)]).heap.size) := ⟨Nat.le_trans HSz.out (by simp [World.setRow])⟩
      go_upto_region 28 with (first
       | (refine wpList_store_into rfl 22 (.tmp 191) (.tmp 188) rfl (s + 2) 2 (.int .u32 ((m : Nat) : Int)) rfl rfl rfl 139 _ #[Value.int IntKind.i64 f2, Value.int IntKind.i64 d, Value.int IntKind.u32 (m : Nat), Value.int IntKind.u32 (la : Nat), Value.bool true, Value.int IntKind.i64 t, Value.int IntKind.i64 g, Value.int IntKind.i64 i, Value.int IntKind.i64 b2, (Value.slice A len cap), Value.int IntKind.i64 ((1 : Nat) : Int)] HG.out size32 (show 2 < 11 by decide) rfl ?_)
       | (refine wpList_store_into rfl 22 (.tmp 196) (.tmp 193) rfl (s + 2) 3 (.int .u32 ((m : Nat) : Int)) rfl rfl rfl 139 _ #[Value.int IntKind.i64 f2, Value.int IntKind.i64 d, Value.int IntKind.u32 (m : Nat), Value.int IntKind.u32 (m : Nat), Value.bool true, Value.int IntKind.i64 t, Value.int IntKind.i64 g, Value.int IntKind.i64 i, Value.int IntKind.i64 b2, (Value.slice A len cap), Value.int IntKind.i64 ((1 : Nat) : Int)] HGz.out size32 (show 3 < 11 by decide) rfl ?_))
      generalize hz : (w9.setRow (s + 2) _).setRow (s + 2) _ = w10 at *
      clear hz HG HR HO HS HGz HRz HOz HSz
      have HG := HGy
      have HR := HRy
      have HO := HOy
      have HS := HSy
      clear HGy HRy HOy HSy
      have g5 : w10.cell? ⟨s + 2, 5, none⟩ = some (.int .i64 t) := by simpa using (block_range HG.out) 5 _ rfl
      have g7 : w10.cell? ⟨s + 2, 7, none⟩ = some (.int .i64 i) := by simpa using (block_range HG.out) 7 _ rfl
      obtain ⟨dn, hdn⟩ : ∃ dn, nextN t i m = dn := ⟨_, rfl⟩
      have HDN := Shut.mk hdn
      clear hdn
      go_wp2
      go_still_tail 14, (by kernel_rfl)
      still_call (still_same (refnext_any t i m _ HML.out))
      rw [HDN.out]
      repeat still_step
      refine wpStill_nil ?_
      clear g5 g7
      change wpList _ _ _ _ _ (World.drewN w10 1)
      generalize hq : World.drewN w10 1 = w11
      replace HG := Shut.mk (block_of hq HG.out)
      replace HR := Shut.mk (block_of hq HR.out)
      replace HO := Shut.mk (only_of hq HO.out)
      replace HS := Shut.mk (size_of hq HS.out)
      clear hq
      have HGz := Shut.mk (setRow_heap w11 (s + 2) _ #[Value.int IntKind.i64 f2, Value.int IntKind.i64 dn, Value.int IntKind.u32 (m : Nat), Value.int IntKind.u32 (m : Nat), Value.bool true, Value.int IntKind.i64 t, Value.int IntKind.i64 g, Value.int IntKind.i64 i, Value.int IntKind.i64 b2, (Value.slice A len cap), Value.int IntKind.i64 ((1 : Nat) : Int)] _ (0, 0) HG.out)
      have HRz := Shut.mk ((setRow_other w11 (s + 2) (s + 1) #[Value.int IntKind.i64 f2, Value.int IntKind.i64 dn, Value.int IntKind.u32 (m : Nat), Value.int IntKind.u32 (m : Nat), Value.bool true, Value.int IntKind.i64 t, Value.int IntKind.i64 g, Value.int IntKind.i64 i, Value.int IntKind.i64 b2, (Value.slice A len cap), Value.int IntKind.i64 ((1 : Nat) : Int)] (by omega)).trans HR.out)
      have HOz := Shut.mk (HO.out.setRow (g := (s + 2)) (fun e => by first | rfl | omega) #[Value.int IntKind.i64 f2, Value.int IntKind.i64 dn, Value.int IntKind.u32 (m : Nat), Value.int IntKind.u32 (m : Nat), Value.bool true, Value.int IntKind.i64 t, Value.int IntKind.i64 g, Value.int IntKind.i64 i, Value.int IntKind.i64 b2, (Value.slice A len cap), Value.int IntKind.i64 ((1 : Nat) : Int)])
      have HSz : Shut (s + 3 ≤ (w11.setRow (s + 2) #[Value.int IntKind.i64 f2, Value.int IntKind.i64 dn, Value.int IntKind.u32 (m : Nat), Value.int IntKind.u32 (m : Nat), Value.bool true, Value.int IntKind.i64 t, Value.int IntKind.i64 g, Value.int IntKind.i64 i, Value.int IntKind.i64 b2, (Value.slice A len cap), Value.int IntKind.i64 ((1 : Nat) : Int)]).heap.size) := ⟨Nat.le_trans HS.out (by simp [World.setRow])⟩
      go_upto_region 29 with (first
       | (refine wpList_store_into rfl 2 (.tmp 210) (.tmp 207) rfl (s + 2) 1 (.int .i64 dn) rfl rfl rfl 139 _ #[Value.int IntKind.i64 f2, Value.int IntKind.i64 dn, Value.int IntKind.u32 (m : Nat), Value.int IntKind.u32 (m : Nat), Value.bool true, Value.int IntKind.i64 t, Value.int IntKind.i64 g, Value.int IntKind.i64 i, Value.int IntKind.i64 b2, (Value.slice A len cap), Value.int IntKind.i64 ((1 : Nat) : Int)] HG.out size64 (show 1 < 11 by decide) rfl ?_))
      generalize hz : w11.setRow (s + 2) _ = w12 at *
      clear hz HG HR HO HS
      have HG := HGz
      have HR := HRz
      have HO := HOz
      have HS := HSz
      clear HGz HRz HOz HSz
      rw [HDN.out] at HR1
      have HQ := HR1
      have g10 : w12.cell? ⟨s + 2, 10, none⟩ = some (.int .i64 (1 : Nat)) := by simpa using (block_range HG.out) 10 _ rfl
      go_wp2
      refine wp_region_held_drew (S := fun w' => Only (· = s + 1) w12 w') (by kernel_rfl) ((Only.refl _ _).drew 1) (fun hHeld => ?_)
      refine hP 0 ?_
      refine hP 1 ?_
      refine hP 2 ?_
      refine wpAnyH_take (i := 3) (v := .agg #[Value.int IntKind.i64 f2, Value.int IntKind.i64 dn, Value.int IntKind.u32 (m : Nat), Value.int IntKind.u32 (m : Nat), Value.bool true]) rfl (by kernel_rfl) (by kernel_rfl) (by kernel_rfl) (fun _ _ _ h => h) (yieldsIf_load_mid (by rfl) 84 (.tmp 213) rfl (s + 2) (0) rfl (#[Value.int IntKind.i64 f2, Value.int IntKind.i64 dn, Value.int IntKind.u32 (m : Nat), Value.int IntKind.u32 (m : Nat), Value.bool true]).toList _ (fun w' hw' => hw'.range (mid5 HG.out) (by show ¬ s + 2 = s + 1; omega)) Tryz.underlying84 rfl sizeRc) (by assumption) ?_
      try simp only [Act.put, sG1, sG2, sG3, sG4, sG5, sG6]
      refine hP 4 ?_
      refine hP 5 ?_
      refine hP 6 ?_
      refine wpAnyH_take (i := 7) (v := ?_) rfl (by kernel_rfl) (by kernel_rfl) (by kernel_rfl) (fun _ _ _ h => h) (Or.inl ⟨by rfl, ?_⟩) (by assumption) ?_
      rotate_left
      ·intro w hSw
       have q := hSw.cell g10 (by show ¬ s + 2 = s + 1; omega)
       clear hSw
       go_simp
       try with_reducible rfl
      try simp only [Act.put, sG1, sG2, sG3, sG4, sG5, sG6]
      refine hP 8 ?_
      clear hHeld g10
      replace HG := Shut.mk (block_of (w := w12) (n := 1) rfl HG.out)
      replace HR := Shut.mk (block_of (w := w12) (n := 1) rfl HR.out)
      replace HO := Shut.mk (only_of (w := w12) (n := 1) rfl HO.out)
      replace HS := Shut.mk (size_of (w := w12) (n := 1) rfl HS.out)
      have HQ3 : Shut (Only (· = s + 1) w12 (World.drewN w12 1)) := ⟨(Only.refl _ _).drew 1⟩
      change wpAnyH _ _ _ _ _ _ _ _ (World.drewN w12 1)
      generalize World.drewN w12 1 = wt at *
      have HGz := Shut.mk ((setRow_other wt (s + 1) (s + 2) #[Value.int IntKind.i64 f2, Value.int IntKind.i64 dn, Value.int IntKind.u32 (m : Nat), Value.int IntKind.u32 (m : Nat), Value.bool true] (by omega)).trans HG.out)
      have HRz := Shut.mk (setRow_heap wt (s + 1) _ #[Value.int IntKind.i64 f2, Value.int IntKind.i64 dn, Value.int IntKind.u32 (m : Nat), Value.int IntKind.u32 (m : Nat), Value.bool true] _ (0, 0) HR.out)
      have HOz := Shut.mk (HO.out.setRow (g := (s + 1)) (fun e => by first | rfl | omega) #[Value.int IntKind.i64 f2, Value.int IntKind.i64 dn, Value.int IntKind.u32 (m : Nat), Value.int IntKind.u32 (m : Nat), Value.bool true])
      have HSz : Shut (s + 3 ≤ (wt.setRow (s + 1) #[Value.int IntKind.i64 f2, Value.int IntKind.i64 dn, Value.int IntKind.u32 (m : Nat), Value.int IntKind.u32 (m : Nat), Value.bool true]).heap.size) := ⟨Nat.le_trans HS.out (by simp [World.setRow])⟩
      refine wpAnyH_ready (rs := [9]) (by kernel_rfl) (by simp) ?_
      refine AllReadyH.cons rfl (fun K hK => ?_) AllReadyH.nil
      rw [if_pos (by rfl)]
      refine wp_store_row 84 (.tmp 12) (.tmp 214) rfl (s + 1) #[Value.int IntKind.i64 f2, Value.int IntKind.i64 dn, Value.int IntKind.u32 (m : Nat), Value.int IntKind.u32 (m : Nat), Value.bool true] rfl rfl 84 _ HR.out sizeRc rfl (cd_one _ _ _ _ _) ?_
      refine hK.out _ _ (HQ3.out.setRow (g := s + 1) (fun _ => rfl) #[Value.int IntKind.i64 f2, Value.int IntKind.i64 dn, Value.int IntKind.u32 (m : Nat), Value.int IntKind.u32 (m : Nat), Value.bool true]) (fun hHeld => ?_)
      clear hK K
      try simp only [Act.put, sG1, sG2, sG3, sG4, sG5, sG6]
      refine hP 10 ?_
      refine hP 11 ?_
      refine wpAnyH_done (by kernel_rfl) ?_ _
      try simp only [Act.put, sG1, sG2, sG3, sG4, sG5, sG6]
      go_wp2
      exact bodyPost_ret (v := .tuple #[.agg #[Value.int IntKind.i64 f2, Value.int IntKind.i64 dn, Value.int IntKind.u32 (m : Nat), Value.int IntKind.u32 (m : Nat), Value.bool true], .int .i64 (1 : Nat), .bool iw]) (results_c2 (p := 12) (q := 13) (r := 14) Tryz.results71 _ _ (s + 1) _ _ _ _ _ _ rfl rfl rfl HRz.out Tryz.underlying84 rfl sizeRc) rfl ⟨by rw [HQ.out], HOz.out.below (fun i hi => by show ¬ i = s + 2; omega) (Nat.le_refl _)⟩
     ·have hm1 : m = 1 := by rw [← HBG.out]; exact begins_old (by show 16 * i ≤ t - d; exact hB1)
      have g1 : w8.cell? ⟨s + 2, 1, none⟩ = some (.int .i64 d) := by simpa using (block_range HG.out) 1 _ rfl
      have g5 : w8.cell? ⟨s + 2, 5, none⟩ = some (.int .i64 t) := by simpa using (block_range HG.out) 5 _ rfl
      have g7 : w8.cell? ⟨s + 2, 7, none⟩ = some (.int .i64 i) := by simpa using (block_range HG.out) 7 _ rfl
      obtain ⟨dd, hdd⟩ : ∃ dd : Int, t - d = dd := ⟨_, rfl⟩
      have y2 : IntKind.i64.wrap (t - d) = dd := by have := HT.out; have := HD.out; rw [hdd]; exact IntWalk.i64_in _ ⟨by omega, by omega⟩
      have y1 : IntKind.i64.wrap (16 * i) = 16 * i := by have := HI.out; exact IntWalk.i64_in _ ⟨by omega, by omega⟩
      obtain ⟨ii, hii⟩ : ∃ ii : Int, 16 * i = ii := ⟨_, rfl⟩
      rw [hdd, hii] at hB1
      rw [hii] at y1
      have y3 : IntKind.i64.wrap (16 * i) = ii := by rw [hii]; exact y1
      clear hdd hii y1
      have q1 : decide ((sn : Int) ≤ 1) = false := by simp only [decide_eq_false_iff_not]; omega
      have q2 : ii ≤ dd := hB1
      clear hB1 hA1
      go_wp2
      go_quiet (fail)
      generalize hq : World.drewN w8 _ = w9
      replace HG := Shut.mk (block_of hq HG.out)
      replace HR := Shut.mk (block_of hq HR.out)
      replace HO := Shut.mk (only_of hq HO.out)
      replace HS := Shut.mk (size_of hq HS.out)
      clear hq
      go_upto_region 26 with fail
      rw [show Value.int IntKind.u32 1 = Value.int IntKind.u32 ((m : Nat) : Int) by rw [hm1]; rfl]
      clear hm1
      clear q1 q2 y2 y3 g1 g5 g7
      have HGz := Shut.mk (setRow_heap w9 (s + 2) _ #[Value.int IntKind.i64 f2, Value.int IntKind.i64 d, Value.int IntKind.u32 (m : Nat), Value.int IntKind.u32 (la : Nat), Value.bool true, Value.int IntKind.i64 t, Value.int IntKind.i64 g, Value.int IntKind.i64 i, Value.int IntKind.i64 b2, (Value.slice A len cap), Value.int IntKind.i64 ((1 : Nat) : Int)] _ (0, 0) HG.out)
      have HRz := Shut.mk ((setRow_other w9 (s + 2) (s + 1) #[Value.int IntKind.i64 f2, Value.int IntKind.i64 d, Value.int IntKind.u32 (m : Nat), Value.int IntKind.u32 (la : Nat), Value.bool true, Value.int IntKind.i64 t, Value.int IntKind.i64 g, Value.int IntKind.i64 i, Value.int IntKind.i64 b2, (Value.slice A len cap), Value.int IntKind.i64 ((1 : Nat) : Int)] (by omega)).trans HR.out)
      have HOz := Shut.mk (HO.out.setRow (g := (s + 2)) (fun e => by first | rfl | omega) #[Value.int IntKind.i64 f2, Value.int IntKind.i64 d, Value.int IntKind.u32 (m : Nat), Value.int IntKind.u32 (la : Nat), Value.bool true, Value.int IntKind.i64 t, Value.int IntKind.i64 g, Value.int IntKind.i64 i, Value.int IntKind.i64 b2, (Value.slice A len cap), Value.int IntKind.i64 ((1 : Nat) : Int)])
      have HSz : Shut (s + 3 ≤ (w9.setRow (s + 2) #[Value.int IntKind.i64 f2, Value.int IntKind.i64 d, Value.int IntKind.u32 (m : Nat), Value.int IntKind.u32 (la : Nat), Value.bool true, Value.int IntKind.i64 t, Value.int IntKind.i64 g, Value.int IntKind.i64 i, Value.int IntKind.i64 b2, (Value.slice A len cap), Value.int IntKind.i64 ((1 : Nat) : Int)]).heap.size) := ⟨Nat.le_trans HS.out (by simp [World.setRow])⟩
      have HGy := Shut.mk (setRow_heap (w9.setRow (s + 2) #[Value.int IntKind.i64 f2, Value.int IntKind.i64 d, Value.int IntKind.u32 (m : Nat), Value.int IntKind.u32 (la : Nat), Value.bool true, Value.int IntKind.i64 t, Value.int IntKind.i64 g, Value.int IntKind.i64 i, Value.int IntKind.i64 b2, (Value.slice A len cap), Value.int IntKind.i64 ((1 : Nat) : Int)]) (s + 2) _ #[Value.int IntKind.i64 f2, Value.int IntKind.i64 d, Value.int IntKind.u32 (m : Nat), Value.int IntKind.u32 (m : Nat), Value.bool true, Value.int IntKind.i64 t, Value.int IntKind.i64 g, Value.int IntKind.i64 i, Value.int IntKind.i64 b2, (Value.slice A len cap), Value.int IntKind.i64 ((1 : Nat) : Int)] _ (0, 0) HGz.out)
      have HRy := Shut.mk ((setRow_other (w9.setRow (s + 2) #[Value.int IntKind.i64 f2, Value.int IntKind.i64 d, Value.int IntKind.u32 (m : Nat), Value.int IntKind.u32 (la : Nat), Value.bool true, Value.int IntKind.i64 t, Value.int IntKind.i64 g, Value.int IntKind.i64 i, Value.int IntKind.i64 b2, (Value.slice A len cap), Value.int IntKind.i64 ((1 : Nat) : Int)]) (s + 2) (s + 1) #[Value.int IntKind.i64 f2, Value.int IntKind.i64 d, Value.int IntKind.u32 (m : Nat), Value.int IntKind.u32 (m : Nat), Value.bool true, Value.int IntKind.i64 t, Value.int IntKind.i64 g, Value.int IntKind.i64 i, Value.int IntKind.i64 b2, (Value.slice A len cap), Value.int IntKind.i64 ((1 : Nat) : Int)] (by omega)).trans HRz.out)
      have HOy := Shut.mk (HOz.out.setRow (g := (s + 2)) (fun e => by first | rfl | omega) #[Value.int IntKind.i64 f2, Value.int IntKind.i64 d, Value.int IntKind.u32 (m : Nat), Value.int IntKind.u32 (m : Nat), Value.bool true, Value.int IntKind.i64 t, Value.int IntKind.i64 g, Value.int IntKind.i64 i, Value.int IntKind.i64 b2, (Value.slice A len cap), Value.int IntKind.i64 ((1 : Nat) : Int)])
      have HSy : Shut (s + 3 ≤ ((w9.setRow (s + 2) #[Value.int IntKind.i64 f2, Value.int IntKind.i64 d, Value.int IntKind.u32 (m : Nat), Value.int IntKind.u32 (la : Nat), Value.bool true, Value.int IntKind.i64 t, Value.int IntKind.i64 g, Value.int IntKind.i64 i, Value.int IntKind.i64 b2, (Value.slice A len cap), Value.int IntKind.i64 ((1 : Nat) : Int)]).setRow (s + 2) #[Value.int IntKind.i64 f2, Value.int IntKind.i64 d, Value.int IntKind.u32 (m : Nat), Value.int IntKind.u32 (m : Nat), Value.bool true, Value.int IntKind.i64 t, Value.int IntKind.i64 g, Value.int IntKind.i64 i, Value.int IntKind.i64 b2, (Value.slice A len cap), Value.int IntKind.i64 ((1 : Nat) : Int)]).heap.size) := ⟨Nat.le_trans HSz.out (by simp [World.setRow])⟩
      go_upto_region 28 with (first
       | (refine wpList_store_into rfl 22 (.tmp 191) (.tmp 188) rfl (s + 2) 2 (.int .u32 ((m : Nat) : Int)) rfl rfl rfl 139 _ #[Value.int IntKind.i64 f2, Value.int IntKind.i64 d, Value.int IntKind.u32 (m : Nat), Value.int IntKind.u32 (la : Nat), Value.bool true, Value.int IntKind.i64 t, Value.int IntKind.i64 g, Value.int IntKind.i64 i, Value.int IntKind.i64 b2, (Value.slice A len cap), Value.int IntKind.i64 ((1 : Nat) : Int)] HG.out size32 (show 2 < 11 by decide) rfl ?_)
       | (refine wpList_store_into rfl 22 (.tmp 196) (.tmp 193) rfl (s + 2) 3 (.int .u32 ((m : Nat) : Int)) rfl rfl rfl 139 _ #[Value.int IntKind.i64 f2, Value.int IntKind.i64 d, Value.int IntKind.u32 (m : Nat), Value.int IntKind.u32 (m : Nat), Value.bool true, Value.int IntKind.i64 t, Value.int IntKind.i64 g, Value.int IntKind.i64 i, Value.int IntKind.i64 b2, (Value.slice A len cap), Value.int IntKind.i64 ((1 : Nat) : Int)] HGz.out size32 (show 3 < 11 by decide) rfl ?_))
      generalize hz : (w9.setRow (s + 2) _).setRow (s + 2) _ = w10 at *
      clear hz HG HR HO HS HGz HRz HOz HSz
      have HG := HGy
      have HR := HRy
      have HO := HOy
      have HS := HSy
      clear HGy HRy HOy HSy
      have g5 : w10.cell? ⟨s + 2, 5, none⟩ = some (.int .i64 t) := by simpa using (block_range HG.out) 5 _ rfl
      have g7 : w10.cell? ⟨s + 2, 7, none⟩ = some (.int .i64 i) := by simpa using (block_range HG.out) 7 _ rfl
      obtain ⟨dn, hdn⟩ : ∃ dn, nextN t i m = dn := ⟨_, rfl⟩
      have HDN := Shut.mk hdn
      clear hdn
      go_wp2
      go_still_tail 14, (by kernel_rfl)
      still_call (still_same (refnext_any t i m _ HML.out))
      rw [HDN.out]
      repeat still_step
      refine wpStill_nil ?_
      clear g5 g7
      change wpList _ _ _ _ _ (World.drewN w10 1)
      generalize hq : World.drewN w10 1 = w11
      replace HG := Shut.mk (block_of hq HG.out)
      replace HR := Shut.mk (block_of hq HR.out)
      replace HO := Shut.mk (only_of hq HO.out)
      replace HS := Shut.mk (size_of hq HS.out)
      clear hq
      have HGz := Shut.mk (setRow_heap w11 (s + 2) _ #[Value.int IntKind.i64 f2, Value.int IntKind.i64 dn, Value.int IntKind.u32 (m : Nat), Value.int IntKind.u32 (m : Nat), Value.bool true, Value.int IntKind.i64 t, Value.int IntKind.i64 g, Value.int IntKind.i64 i, Value.int IntKind.i64 b2, (Value.slice A len cap), Value.int IntKind.i64 ((1 : Nat) : Int)] _ (0, 0) HG.out)
      have HRz := Shut.mk ((setRow_other w11 (s + 2) (s + 1) #[Value.int IntKind.i64 f2, Value.int IntKind.i64 dn, Value.int IntKind.u32 (m : Nat), Value.int IntKind.u32 (m : Nat), Value.bool true, Value.int IntKind.i64 t, Value.int IntKind.i64 g, Value.int IntKind.i64 i, Value.int IntKind.i64 b2, (Value.slice A len cap), Value.int IntKind.i64 ((1 : Nat) : Int)] (by omega)).trans HR.out)
      have HOz := Shut.mk (HO.out.setRow (g := (s + 2)) (fun e => by first | rfl | omega) #[Value.int IntKind.i64 f2, Value.int IntKind.i64 dn, Value.int IntKind.u32 (m : Nat), Value.int IntKind.u32 (m : Nat), Value.bool true, Value.int IntKind.i64 t, Value.int IntKind.i64 g, Value.int IntKind.i64 i, Value.int IntKind.i64 b2, (Value.slice A len cap), Value.int IntKind.i64 ((1 : Nat) : Int)])
      have HSz : Shut (s + 3 ≤ (w11.setRow (s + 2) #[Value.int IntKind.i64 f2, Value.int IntKind.i64 dn, Value.int IntKind.u32 (m : Nat), Value.int IntKind.u32 (m : Nat), Value.bool true, Value.int IntKind.i64 t, Value.int IntKind.i64 g, Value.int IntKind.i64 i, Value.int IntKind.i64 b2, (Value.slice A len cap), Value.int IntKind.i64 ((1 : Nat) : Int)]).heap.size) := ⟨Nat.le_trans HS.out (by simp [World.setRow])⟩
      go_upto_region 29 with (first
       | (refine wpList_store_into rfl 2 (.tmp 210) (.tmp 207) rfl (s + 2) 1 (.int .i64 dn) rfl rfl rfl 139 _ #[Value.int IntKind.i64 f2, Value.int IntKind.i64 dn, Value.int IntKind.u32 (m : Nat), Value.int IntKind.u32 (m : Nat), Value.bool true, Value.int IntKind.i64 t, Value.int IntKind.i64 g, Value.int IntKind.i64 i, Value.int IntKind.i64 b2, (Value.slice A len cap), Value.int IntKind.i64 ((1 : Nat) : Int)] HG.out size64 (show 1 < 11 by decide) rfl ?_))
      generalize hz : w11.setRow (s + 2) _ = w12 at *
      clear hz HG HR HO HS
      have HG := HGz
      have HR := HRz
      have HO := HOz
      have HS := HSz
      clear HGz HRz HOz HSz
      rw [HDN.out] at HR1
      have HQ := HR1
      have g10 : w12.cell? ⟨s + 2, 10, none⟩ = some (.int .i64 (1 : Nat)) := by simpa using (block_range HG.out) 10 _ rfl
      go_wp2
      refine wp_region_held_drew (S := fun w' => Only (· = s + 1) w12 w') (by kernel_rfl) ((Only.refl _ _).drew 1) (fun hHeld => ?_)
      refine hP 0 ?_
      refine hP 1 ?_
      refine hP 2 ?_
      refine wpAnyH_take (i := 3) (v := .agg #[Value.int IntKind.i64 f2, Value.int IntKind.i64 dn, Value.int IntKind.u32 (m : Nat), Value.int IntKind.u32 (m : Nat), Value.bool true]) rfl (by kernel_rfl) (by kernel_rfl) (by kernel_rfl) (fun _ _ _ h => h) (yieldsIf_load_mid (by rfl) 84 (.tmp 213) rfl (s + 2) (0) rfl (#[Value.int IntKind.i64 f2, Value.int IntKind.i64 dn, Value.int IntKind.u32 (m : Nat), Value.int IntKind.u32 (m : Nat), Value.bool true]).toList _ (fun w' hw' => hw'.range (mid5 HG.out) (by show ¬ s + 2 = s + 1; omega)) Tryz.underlying84 rfl sizeRc) (by assumption) ?_
      try simp only [Act.put, sG1, sG2, sG3, sG4, sG5, sG6]
      refine hP 4 ?_
      refine hP 5 ?_
      refine hP 6 ?_
      refine wpAnyH_take (i := 7) (v := ?_) rfl (by kernel_rfl) (by kernel_rfl) (by kernel_rfl) (fun _ _ _ h => h) (Or.inl ⟨by rfl, ?_⟩) (by assumption) ?_
      rotate_left
      ·intro w hSw
       have q := hSw.cell g10 (by show ¬ s + 2 = s + 1; omega)
       clear hSw
       go_simp
       try with_reducible rfl
      try simp only [Act.put, sG1, sG2, sG3, sG4, sG5, sG6]
      refine hP 8 ?_
      clear hHeld g10
      replace HG := Shut.mk (block_of (w := w12) (n := 1) rfl HG.out)
      replace HR := Shut.mk (block_of (w := w12) (n := 1) rfl HR.out)
      replace HO := Shut.mk (only_of (w := w12) (n := 1) rfl HO.out)
      replace HS := Shut.mk (size_of (w := w12) (n := 1) rfl HS.out)
      have HQ3 : Shut (Only (· = s + 1) w12 (World.drewN w12 1)) := ⟨(Only.refl _ _).drew 1⟩
      change wpAnyH _ _ _ _ _ _ _ _ (World.drewN w12 1)
      generalize World.drewN w12 1 = wt at *
      have HGz := Shut.mk ((setRow_other wt (s + 1) (s + 2) #[Value.int IntKind.i64 f2, Value.int IntKind.i64 dn, Value.int IntKind.u32 (m : Nat), Value.int IntKind.u32 (m : Nat), Value.bool true] (by omega)).trans HG.out)
      have HRz := Shut.mk (setRow_heap wt (s + 1) _ #[Value.int IntKind.i64 f2, Value.int IntKind.i64 dn, Value.int IntKind.u32 (m : Nat), Value.int IntKind.u32 (m : Nat), Value.bool true] _ (0, 0) HR.out)
      have HOz := Shut.mk (HO.out.setRow (g := (s + 1)) (fun e => by first | rfl | omega) #[Value.int IntKind.i64 f2, Value.int IntKind.i64 dn, Value.int IntKind.u32 (m : Nat), Value.int IntKind.u32 (m : Nat), Value.bool true])
      have HSz : Shut (s + 3 ≤ (wt.setRow (s + 1) #[Value.int IntKind.i64 f2, Value.int IntKind.i64 dn, Value.int IntKind.u32 (m : Nat), Value.int IntKind.u32 (m : Nat), Value.bool true]).heap.size) := ⟨Nat.le_trans HS.out (by simp [World.setRow])⟩
      refine wpAnyH_ready (rs := [9]) (by kernel_rfl) (by simp) ?_
      refine AllReadyH.cons rfl (fun K hK => ?_) AllReadyH.nil
      rw [if_pos (by rfl)]
      refine wp_store_row 84 (.tmp 12) (.tmp 214) rfl (s + 1) #[Value.int IntKind.i64 f2, Value.int IntKind.i64 dn, Value.int IntKind.u32 (m : Nat), Value.int IntKind.u32 (m : Nat), Value.bool true] rfl rfl 84 _ HR.out sizeRc rfl (cd_one _ _ _ _ _) ?_
      refine hK.out _ _ (HQ3.out.setRow (g := s + 1) (fun _ => rfl) #[Value.int IntKind.i64 f2, Value.int IntKind.i64 dn, Value.int IntKind.u32 (m : Nat), Value.int IntKind.u32 (m : Nat), Value.bool true]) (fun hHeld => ?_)
      clear hK K
      try simp only [Act.put, sG1, sG2, sG3, sG4, sG5, sG6]
      refine hP 10 ?_
      refine hP 11 ?_
      refine wpAnyH_done (by kernel_rfl) ?_ _
      try simp only [Act.put, sG1, sG2, sG3, sG4, sG5, sG6]
      go_wp2
      exact bodyPost_ret (v := .tuple #[.agg #[Value.int IntKind.i64 f2, Value.int IntKind.i64 dn, Value.int IntKind.u32 (m : Nat), Value.int IntKind.u32 (m : Nat), Value.bool true], .int .i64 (1 : Nat), .bool iw]) (results_c2 (p := 12) (q := 13) (r := 14) Tryz.results71 _ _ (s + 1) _ _ _ _ _ _ rfl rfl rfl HRz.out Tryz.underlying84 rfl sizeRc) rfl ⟨by rw [HQ.out], HOz.out.below (fun i hi => by show ¬ i = s + 2; omega) (Nat.le_refl _)⟩
    ·have hm1 : m = 1 := by rw [← HBG.out]; exact begins_few (by show (n + 4294967296 - la) % 4294967296 ≤ 1; rw [HSN.out]; exact hA1)
     have q1 : (sn : Int) ≤ 1 := by omega
     clear hA1
     go_wp2
     refine wp_region_held_drew (S := fun w' => Below w8.heap.size w8 w') (by kernel_rfl) (Below.refl _ _).drew (fun hHeld => ?_)
     clear hHeld
     have HG6 : Shut (w8.drew.heap[s + 2]? = _) := ⟨HG.out⟩
     have HR6 : Shut (w8.drew.heap[s + 1]? = _) := ⟨HR.out⟩
     have HO6 : Shut (Only (· = s + 2) w0 w8.drew) := ⟨HO.out.drew 1⟩
     have HS6 : Shut (s + 3 ≤ w8.drew.heap.size) := ⟨HS.out⟩
     have HB6 : Shut (Below w8.heap.size w8 w8.drew) := ⟨(Below.refl _ _).drew⟩
     have hb6 := HB6.out
     clear HG HR HO HS
     generalize w8.drew = w9 at *
     have HG := HG6
     have HR := HR6
     have HO := HO6
     have HS := HS6
     clear HG6 HR6 HO6 HS6 HB6
     refine hP 0 ?_
     refine hP 1 ?_
     refine hP 2 ?_
     refine wpAnyH_take (i := 3) (v := undef) rfl (by kernel_rfl) (by kernel_rfl) (by kernel_rfl) (fun _ _ _ h => h) (Or.inr ⟨by rfl, rfl⟩) (by assumption) ?_
     try simp only [Act.put, sG1, sG2, sG3, sG4, sG5, sG6]
     refine wpAnyH_take (i := 4) (v := undef) rfl (by kernel_rfl) (by kernel_rfl) (by kernel_rfl) (fun _ _ _ h => h) (Or.inr ⟨by rfl, rfl⟩) (by assumption) ?_
     try simp only [Act.put, sG1, sG2, sG3, sG4, sG5, sG6]
     refine wpAnyH_take (i := 5) (v := undef) rfl (by kernel_rfl) (by kernel_rfl) (by kernel_rfl) (fun _ _ _ h => h) (Or.inr ⟨by rfl, rfl⟩) (by assumption) ?_
     try simp only [Act.put, sG1, sG2, sG3, sG4, sG5, sG6]
     refine wpAnyH_take (i := 6) (v := undef) rfl (by kernel_rfl) (by kernel_rfl) (by kernel_rfl) (fun _ _ _ h => h) (Or.inr ⟨by rfl, rfl⟩) (by assumption) ?_
     try simp only [Act.put, sG1, sG2, sG3, sG4, sG5, sG6]
     refine wpAnyH_take (i := 7) (v := undef) rfl (by kernel_rfl) (by kernel_rfl) (by kernel_rfl) (fun _ _ _ h => h) (Or.inr ⟨by rfl, rfl⟩) (by assumption) ?_
     try simp only [Act.put, sG1, sG2, sG3, sG4, sG5, sG6]
     refine wpAnyH_take (i := 8) (v := undef) rfl (by kernel_rfl) (by kernel_rfl) (by kernel_rfl) (fun _ _ _ h => h) (Or.inr ⟨by rfl, rfl⟩) (by assumption) ?_
     try simp only [Act.put, sG1, sG2, sG3, sG4, sG5, sG6]
     refine wpAnyH_take (i := 9) (v := undef) rfl (by kernel_rfl) (by kernel_rfl) (by kernel_rfl) (fun _ _ _ h => h) (Or.inr ⟨by rfl, rfl⟩) (by assumption) ?_
     try simp only [Act.put, sG1, sG2, sG3, sG4, sG5, sG6]
     refine wpAnyH_take (i := 10) (v := undef) rfl (by kernel_rfl) (by kernel_rfl) (by kernel_rfl) (fun _ _ _ h => h) (Or.inr ⟨by rfl, rfl⟩) (by assumption) ?_
     try simp only [Act.put, sG1, sG2, sG3, sG4, sG5, sG6]
     refine wpAnyH_take (i := 11) (v := undef) rfl (by kernel_rfl) (by kernel_rfl) (by kernel_rfl) (fun _ _ _ h => h) (Or.inr ⟨by rfl, rfl⟩) (by assumption) ?_
     try simp only [Act.put, sG1, sG2, sG3, sG4, sG5, sG6]
     refine wpAnyH_take (i := 12) (v := undef) rfl (by kernel_rfl) (by kernel_rfl) (by kernel_rfl) (fun _ _ _ h => h) (Or.inr ⟨by rfl, rfl⟩) (by assumption) ?_
     try simp only [Act.put, sG1, sG2, sG3, sG4, sG5, sG6]
     refine wpAnyH_take (i := 13) (v := undef) rfl (by kernel_rfl) (by kernel_rfl) (by kernel_rfl) (fun _ _ _ h => h) (Or.inr ⟨by rfl, rfl⟩) (by assumption) ?_
     try simp only [Act.put, sG1, sG2, sG3, sG4, sG5, sG6]
     refine wpAnyH_take (i := 14) (v := undef) rfl (by kernel_rfl) (by kernel_rfl) (by kernel_rfl) (fun _ _ _ h => h) (Or.inr ⟨by rfl, rfl⟩) (by assumption) ?_
     try simp only [Act.put, sG1, sG2, sG3, sG4, sG5, sG6]
     refine wpAnyH_take (i := 15) (v := undef) rfl (by kernel_rfl) (by kernel_rfl) (by kernel_rfl) (fun _ _ _ h => h) (Or.inr ⟨by rfl, rfl⟩) (by assumption) ?_
     try simp only [Act.put, sG1, sG2, sG3, sG4, sG5, sG6]
     refine wpAnyH_take (i := 16) (v := undef) rfl (by kernel_rfl) (by kernel_rfl) (by kernel_rfl) (fun _ _ _ h => h) (Or.inr ⟨by rfl, rfl⟩) (by assumption) ?_
     try simp only [Act.put, sG1, sG2, sG3, sG4, sG5, sG6]
     refine wpAnyH_take (i := 17) (v := undef) rfl (by kernel_rfl) (by kernel_rfl) (by kernel_rfl) (fun _ _ _ h => h) (Or.inr ⟨by rfl, rfl⟩) (by assumption) ?_
     try simp only [Act.put, sG1, sG2, sG3, sG4, sG5, sG6]
     refine wpAnyH_take (i := 18) (v := undef) rfl (by kernel_rfl) (by kernel_rfl) (by kernel_rfl) (fun _ _ _ h => h) (Or.inr ⟨by rfl, rfl⟩) (by assumption) ?_
     try simp only [Act.put, sG1, sG2, sG3, sG4, sG5, sG6]
     refine hP 19 ?_
     refine wpAnyH_done (by kernel_rfl) ?_ _
     try simp only [Act.put, sG1, sG2, sG3, sG4, sG5, sG6]
     clear hb6
     go_upto_region 26 with fail
     rw [show Value.int IntKind.u32 1 = Value.int IntKind.u32 ((m : Nat) : Int) by rw [hm1]; rfl]
     clear hm1
     clear q1
     have HGz := Shut.mk (setRow_heap w9 (s + 2) _ #[Value.int IntKind.i64 f2, Value.int IntKind.i64 d, Value.int IntKind.u32 (m : Nat), Value.int IntKind.u32 (la : Nat), Value.bool true, Value.int IntKind.i64 t, Value.int IntKind.i64 g, Value.int IntKind.i64 i, Value.int IntKind.i64 b2, (Value.slice A len cap), Value.int IntKind.i64 ((1 : Nat) : Int)] _ (0, 0) HG.out)
     have HRz := Shut.mk ((setRow_other w9 (s + 2) (s + 1) #[Value.int IntKind.i64 f2, Value.int IntKind.i64 d, Value.int IntKind.u32 (m : Nat), Value.int IntKind.u32 (la : Nat), Value.bool true, Value.int IntKind.i64 t, Value.int IntKind.i64 g, Value.int IntKind.i64 i, Value.int IntKind.i64 b2, (Value.slice A len cap), Value.int IntKind.i64 ((1 : Nat) : Int)] (by omega)).trans HR.out)
     have HOz := Shut.mk (HO.out.setRow (g := (s + 2)) (fun e => by first | rfl | omega) #[Value.int IntKind.i64 f2, Value.int IntKind.i64 d, Value.int IntKind.u32 (m : Nat), Value.int IntKind.u32 (la : Nat), Value.bool true, Value.int IntKind.i64 t, Value.int IntKind.i64 g, Value.int IntKind.i64 i, Value.int IntKind.i64 b2, (Value.slice A len cap), Value.int IntKind.i64 ((1 : Nat) : Int)])
     have HSz : Shut (s + 3 ≤ (w9.setRow (s + 2) #[Value.int IntKind.i64 f2, Value.int IntKind.i64 d, Value.int IntKind.u32 (m : Nat), Value.int IntKind.u32 (la : Nat), Value.bool true, Value.int IntKind.i64 t, Value.int IntKind.i64 g, Value.int IntKind.i64 i, Value.int IntKind.i64 b2, (Value.slice A len cap), Value.int IntKind.i64 ((1 : Nat) : Int)]).heap.size) := ⟨Nat.le_trans HS.out (by simp [World.setRow])⟩
     have HGy := Shut.mk (setRow_heap (w9.setRow (s + 2) #[Value.int IntKind.i64 f2, Value.int IntKind.i64 d, Value.int IntKind.u32 (m : Nat), Value.int IntKind.u32 (la : Nat), Value.bool true, Value.int IntKind.i64 t, Value.int IntKind.i64 g, Value.int IntKind.i64 i, Value.int IntKind.i64 b2, (Value.slice A len cap), Value.int IntKind.i64 ((1 : Nat) : Int)]) (s + 2) _ #[Value.int IntKind.i64 f2, Value.int IntKind.i64 d, Value.int IntKind.u32 (m : Nat), Value.int IntKind.u32 (m : Nat), Value.bool true, Value.int IntKind.i64 t, Value.int IntKind.i64 g, Value.int IntKind.i64 i, Value.int IntKind.i64 b2, (Value.slice A len cap), Value.int IntKind.i64 ((1 : Nat) : Int)] _ (0, 0) HGz.out)
     have HRy := Shut.mk ((setRow_other (w9.setRow (s + 2) #[Value.int IntKind.i64 f2, Value.int IntKind.i64 d, Value.int IntKind.u32 (m : Nat), Value.int IntKind.u32 (la : Nat), Value.bool true, Value.int IntKind.i64 t, Value.int IntKind.i64 g, Value.int IntKind.i64 i, Value.int IntKind.i64 b2, (Value.slice A len cap), Value.int IntKind.i64 ((1 : Nat) : Int)]) (s + 2) (s + 1) #[Value.int IntKind.i64 f2, Value.int IntKind.i64 d, Value.int IntKind.u32 (m : Nat), Value.int IntKind.u32 (m : Nat), Value.bool true, Value.int IntKind.i64 t, Value.int IntKind.i64 g, Value.int IntKind.i64 i, Value.int IntKind.i64 b2, (Value.slice A len cap), Value.int IntKind.i64 ((1 : Nat) : Int)] (by omega)).trans HRz.out)
     have HOy := Shut.mk (HOz.out.setRow (g := (s + 2)) (fun e => by first | rfl | omega) #[Value.int IntKind.i64 f2, Value.int IntKind.i64 d, Value.int IntKind.u32 (m : Nat), Value.int IntKind.u32 (m : Nat), Value.bool true, Value.int IntKind.i64 t, Value.int IntKind.i64 g, Value.int IntKind.i64 i, Value.int IntKind.i64 b2, (Value.slice A len cap), Value.int IntKind.i64 ((1 : Nat) : Int)])
     have HSy : Shut (s + 3 ≤ ((w9.setRow (s + 2) #[Value.int IntKind.i64 f2, Value.int IntKind.i64 d, Value.int IntKind.u32 (m : Nat), Value.int IntKind.u32 (la : Nat), Value.bool true, Value.int IntKind.i64 t, Value.int IntKind.i64 g, Value.int IntKind.i64 i, Value.int IntKind.i64 b2, (Value.slice A len cap), Value.int IntKind.i64 ((1 : Nat) : Int)]).setRow (s + 2) #[Value.int IntKind.i64 f2, Value.int IntKind.i64 d, Value.int IntKind.u32 (m : Nat), Value.int IntKind.u32 (m : Nat), Value.bool true, Value.int IntKind.i64 t, Value.int IntKind.i64 g, Value.int IntKind.i64 i, Value.int IntKind.i64 b2, (Value.slice A len cap), Value.int IntKind.i64 ((1 : Nat) : Int)]).heap.size) := ⟨Nat.le_trans HSz.out (by simp [World.setRow])⟩
     go_upto_region 28 with (first
      | (refine wpList_store_into rfl 22 (.tmp 191) (.tmp 188) rfl (s + 2) 2 (.int .u32 ((m : Nat) : Int)) rfl rfl rfl 139 _ #[Value.int IntKind.i64 f2, Value.int IntKind.i64 d, Value.int IntKind.u32 (m : Nat), Value.int IntKind.u32 (la : Nat), Value.bool true, Value.int IntKind.i64 t, Value.int IntKind.i64 g, Value.int IntKind.i64 i, Value.int IntKind.i64 b2, (Value.slice A len cap), Value.int IntKind.i64 ((1 : Nat) : Int)] HG.out size32 (show 2 < 11 by decide) rfl ?_)
      | (refine wpList_store_into rfl 22 (.tmp 196) (.tmp 193) rfl (s + 2) 3 (.int .u32 ((m : Nat) : Int)) rfl rfl rfl 139 _ #[Value.int IntKind.i64 f2, Value.int IntKind.i64 d, Value.int IntKind.u32 (m : Nat), Value.int IntKind.u32 (m : Nat), Value.bool true, Value.int IntKind.i64 t, Value.int IntKind.i64 g, Value.int IntKind.i64 i, Value.int IntKind.i64 b2, (Value.slice A len cap), Value.int IntKind.i64 ((1 : Nat) : Int)] HGz.out size32 (show 3 < 11 by decide) rfl ?_))
     generalize hz : (w9.setRow (s + 2) _).setRow (s + 2) _ = w10 at *
     clear hz HG HR HO HS HGz HRz HOz HSz
     have HG := HGy
     have HR := HRy
     have HO := HOy
     have HS := HSy
     clear HGy HRy HOy HSy
     have g5 : w10.cell? ⟨s + 2, 5, none⟩ = some (.int .i64 t) := by simpa using (block_range HG.out) 5 _ rfl
     have g7 : w10.cell? ⟨s + 2, 7, none⟩ = some (.int .i64 i) := by simpa using (block_range HG.out) 7 _ rfl
     obtain ⟨dn, hdn⟩ : ∃ dn, nextN t i m = dn := ⟨_, rfl⟩
     have HDN := Shut.mk hdn
     clear hdn
     go_wp2
     go_still_tail 14, (by kernel_rfl)
     still_call (still_same (refnext_any t i m _ HML.out))
     rw [HDN.out]
     repeat still_step
     refine wpStill_nil ?_
     clear g5 g7
     change wpList _ _ _ _ _ (World.drewN w10 1)
     generalize hq : World.drewN w10 1 = w11
     replace HG := Shut.mk (block_of hq HG.out)
     replace HR := Shut.mk (block_of hq HR.out)
     replace HO := Shut.mk (only_of hq HO.out)
     replace HS := Shut.mk (size_of hq HS.out)
     clear hq
     have HGz := Shut.mk (setRow_heap w11 (s + 2) _ #[Value.int IntKind.i64 f2, Value.int IntKind.i64 dn, Value.int IntKind.u32 (m : Nat), Value.int IntKind.u32 (m : Nat), Value.bool true, Value.int IntKind.i64 t, Value.int IntKind.i64 g, Value.int IntKind.i64 i, Value.int IntKind.i64 b2, (Value.slice A len cap), Value.int IntKind.i64 ((1 : Nat) : Int)] _ (0, 0) HG.out)
     have HRz := Shut.mk ((setRow_other w11 (s + 2) (s + 1) #[Value.int IntKind.i64 f2, Value.int IntKind.i64 dn, Value.int IntKind.u32 (m : Nat), Value.int IntKind.u32 (m : Nat), Value.bool true, Value.int IntKind.i64 t, Value.int IntKind.i64 g, Value.int IntKind.i64 i, Value.int IntKind.i64 b2, (Value.slice A len cap), Value.int IntKind.i64 ((1 : Nat) : Int)] (by omega)).trans HR.out)
     have HOz := Shut.mk (HO.out.setRow (g := (s + 2)) (fun e => by first | rfl | omega) #[Value.int IntKind.i64 f2, Value.int IntKind.i64 dn, Value.int IntKind.u32 (m : Nat), Value.int IntKind.u32 (m : Nat), Value.bool true, Value.int IntKind.i64 t, Value.int IntKind.i64 g, Value.int IntKind.i64 i, Value.int IntKind.i64 b2, (Value.slice A len cap), Value.int IntKind.i64 ((1 : Nat) : Int)])
     have HSz : Shut (s + 3 ≤ (w11.setRow (s + 2) #[Value.int IntKind.i64 f2, Value.int IntKind.i64 dn, Value.int IntKind.u32 (m : Nat), Value.int IntKind.u32 (m : Nat), Value.bool true, Value.int IntKind.i64 t, Value.int IntKind.i64 g, Value.int IntKind.i64 i, Value.int IntKind.i64 b2, (Value.slice A len cap), Value.int IntKind.i64 ((1 : Nat) : Int)]).heap.size) := ⟨Nat.le_trans HS.out (by simp [World.setRow])⟩
     go_upto_region 29 with (first
      | (refine wpList_store_into rfl 2 (.tmp 210) (.tmp 207) rfl (s + 2) 1 (.int .i64 dn) rfl rfl rfl 139 _ #[Value.int IntKind.i64 f2, Value.int IntKind.i64 dn, Value.int IntKind.u32 (m : Nat), Value.int IntKind.u32 (m : Nat), Value.bool true, Value.int IntKind.i64 t, Value.int IntKind.i64 g, Value.int IntKind.i64 i, Value.int IntKind.i64 b2, (Value.slice A len cap), Value.int IntKind.i64 ((1 : Nat) : Int)] HG.out size64 (show 1 < 11 by decide) rfl ?_))
     generalize hz : w11.setRow (s + 2) _ = w12 at *
     clear hz HG HR HO HS
     have HG := HGz
     have HR := HRz
     have HO := HOz
     have HS := HSz
     clear HGz HRz HOz HSz
     rw [HDN.out] at HR1
     have HQ := HR1
     have g10 : w12.cell? ⟨s + 2, 10, none⟩ = some (.int .i64 (1 : Nat)) := by simpa using (block_range HG.out) 10 _ rfl
     go_wp2
     refine wp_region_held_drew (S := fun w' => Only (· = s + 1) w12 w') (by kernel_rfl) ((Only.refl _ _).drew 1) (fun hHeld => ?_)
     refine hP 0 ?_
     refine hP 1 ?_
     refine hP 2 ?_
     refine wpAnyH_take (i := 3) (v := .agg #[Value.int IntKind.i64 f2, Value.int IntKind.i64 dn, Value.int IntKind.u32 (m : Nat), Value.int IntKind.u32 (m : Nat), Value.bool true]) rfl (by kernel_rfl) (by kernel_rfl) (by kernel_rfl) (fun _ _ _ h => h) (yieldsIf_load_mid (by rfl) 84 (.tmp 213) rfl (s + 2) (0) rfl (#[Value.int IntKind.i64 f2, Value.int IntKind.i64 dn, Value.int IntKind.u32 (m : Nat), Value.int IntKind.u32 (m : Nat), Value.bool true]).toList _ (fun w' hw' => hw'.range (mid5 HG.out) (by show ¬ s + 2 = s + 1; omega)) Tryz.underlying84 rfl sizeRc) (by assumption) ?_
     try simp only [Act.put, sG1, sG2, sG3, sG4, sG5, sG6]
     refine hP 4 ?_
     refine hP 5 ?_
     refine hP 6 ?_
     refine wpAnyH_take (i := 7) (v := ?_) rfl (by kernel_rfl) (by kernel_rfl) (by kernel_rfl) (fun _ _ _ h => h) (Or.inl ⟨by rfl, ?_⟩) (by assumption) ?_
     rotate_left
     ·intro w hSw
      have q := hSw.cell g10 (by show ¬ s + 2 = s + 1; omega)
      clear hSw
      go_simp
      try with_reducible rfl
     try simp only [Act.put, sG1, sG2, sG3, sG4, sG5, sG6]
     refine hP 8 ?_
     clear hHeld g10
     replace HG := Shut.mk (block_of (w := w12) (n := 1) rfl HG.out)
     replace HR := Shut.mk (block_of (w := w12) (n := 1) rfl HR.out)
     replace HO := Shut.mk (only_of (w := w12) (n := 1) rfl HO.out)
     replace HS := Shut.mk (size_of (w := w12) (n := 1) rfl HS.out)
     have HQ3 : Shut (Only (· = s + 1) w12 (World.drewN w12 1)) := ⟨(Only.refl _ _).drew 1⟩
     change wpAnyH _ _ _ _ _ _ _ _ (World.drewN w12 1)
     generalize World.drewN w12 1 = wt at *
     have HGz := Shut.mk ((setRow_other wt (s + 1) (s + 2) #[Value.int IntKind.i64 f2, Value.int IntKind.i64 dn, Value.int IntKind.u32 (m : Nat), Value.int IntKind.u32 (m : Nat), Value.bool true] (by omega)).trans HG.out)
     have HRz := Shut.mk (setRow_heap wt (s + 1) _ #[Value.int IntKind.i64 f2, Value.int IntKind.i64 dn, Value.int IntKind.u32 (m : Nat), Value.int IntKind.u32 (m : Nat), Value.bool true] _ (0, 0) HR.out)
     have HOz := Shut.mk (HO.out.setRow (g := (s + 1)) (fun e => by first | rfl | omega) #[Value.int IntKind.i64 f2, Value.int IntKind.i64 dn, Value.int IntKind.u32 (m : Nat), Value.int IntKind.u32 (m : Nat), Value.bool true])
     have HSz : Shut (s + 3 ≤ (wt.setRow (s + 1) #[Value.int IntKind.i64 f2, Value.int IntKind.i64 dn, Value.int IntKind.u32 (m : Nat), Value.int IntKind.u32 (m : Nat), Value.bool true]).heap.size) := ⟨Nat.le_trans HS.out (by simp [World.setRow])⟩
     refine wpAnyH_ready (rs := [9]) (by kernel_rfl) (by simp) ?_
     refine AllReadyH.cons rfl (fun K hK => ?_) AllReadyH.nil
     rw [if_pos (by rfl)]
     refine wp_store_row 84 (.tmp 12) (.tmp 214) rfl (s + 1) #[Value.int IntKind.i64 f2, Value.int IntKind.i64 dn, Value.int IntKind.u32 (m : Nat), Value.int IntKind.u32 (m : Nat), Value.bool true] rfl rfl 84 _ HR.out sizeRc rfl (cd_one _ _ _ _ _) ?_
     refine hK.out _ _ (HQ3.out.setRow (g := s + 1) (fun _ => rfl) #[Value.int IntKind.i64 f2, Value.int IntKind.i64 dn, Value.int IntKind.u32 (m : Nat), Value.int IntKind.u32 (m : Nat), Value.bool true]) (fun hHeld => ?_)
     clear hK K
     try simp only [Act.put, sG1, sG2, sG3, sG4, sG5, sG6]
     refine hP 10 ?_
     refine hP 11 ?_
     refine wpAnyH_done (by kernel_rfl) ?_ _
     try simp only [Act.put, sG1, sG2, sG3, sG4, sG5, sG6]
     go_wp2
     exact bodyPost_ret (v := .tuple #[.agg #[Value.int IntKind.i64 f2, Value.int IntKind.i64 dn, Value.int IntKind.u32 (m : Nat), Value.int IntKind.u32 (m : Nat), Value.bool true], .int .i64 (1 : Nat), .bool iw]) (results_c2 (p := 12) (q := 13) (r := 14) Tryz.results71 _ _ (s + 1) _ _ _ _ _ _ rfl rfl rfl HRz.out Tryz.underlying84 rfl sizeRc) rfl ⟨by rw [HQ.out], HOz.out.below (fun i hi => by show ¬ i = s + 2; omega) (Nat.le_refl _)⟩
  ·cases r
   ·have HQ := Shut.mk (HP.out.symm.trans (pull_no (c := ⟨f, d, n, la, true⟩) hr))
    dsimp only at HQ
    rw [hf1, hql] at HQ
    clear hr hf1 hb1 HP hql
    have HGz := Shut.mk (setRow_heap w4 (s + 2) _ #[Value.int IntKind.i64 f1, Value.int IntKind.i64 d, Value.int IntKind.u32 (n : Nat), Value.int IntKind.u32 (la : Nat), Value.bool false, Value.int IntKind.i64 t, Value.int IntKind.i64 g, Value.int IntKind.i64 i, Value.int IntKind.i64 b1, (Value.slice A len cap), Value.int IntKind.i64 ((0 : Nat) : Int)] _ (0, 0) HG.out)
    have HRz := Shut.mk ((setRow_other w4 (s + 2) (s + 1) #[Value.int IntKind.i64 f1, Value.int IntKind.i64 d, Value.int IntKind.u32 (n : Nat), Value.int IntKind.u32 (la : Nat), Value.bool false, Value.int IntKind.i64 t, Value.int IntKind.i64 g, Value.int IntKind.i64 i, Value.int IntKind.i64 b1, (Value.slice A len cap), Value.int IntKind.i64 ((0 : Nat) : Int)] (by omega)).trans HR.out)
    have HOz := Shut.mk (HO.out.setRow (g := (s + 2)) (fun e => by first | rfl | omega) #[Value.int IntKind.i64 f1, Value.int IntKind.i64 d, Value.int IntKind.u32 (n : Nat), Value.int IntKind.u32 (la : Nat), Value.bool false, Value.int IntKind.i64 t, Value.int IntKind.i64 g, Value.int IntKind.i64 i, Value.int IntKind.i64 b1, (Value.slice A len cap), Value.int IntKind.i64 ((0 : Nat) : Int)])
    have HSz : Shut (s + 3 ≤ (w4.setRow (s + 2) #[Value.int IntKind.i64 f1, Value.int IntKind.i64 d, Value.int IntKind.u32 (n : Nat), Value.int IntKind.u32 (la : Nat), Value.bool false, Value.int IntKind.i64 t, Value.int IntKind.i64 g, Value.int IntKind.i64 i, Value.int IntKind.i64 b1, (Value.slice A len cap), Value.int IntKind.i64 ((0 : Nat) : Int)]).heap.size) := ⟨Nat.le_trans HS.out (by simp [World.setRow])⟩
    have HGy := Shut.mk ((setRow_other (w4.setRow (s + 2) #[Value.int IntKind.i64 f1, Value.int IntKind.i64 d, Value.int IntKind.u32 (n : Nat), Value.int IntKind.u32 (la : Nat), Value.bool false, Value.int IntKind.i64 t, Value.int IntKind.i64 g, Value.int IntKind.i64 i, Value.int IntKind.i64 b1, (Value.slice A len cap), Value.int IntKind.i64 ((0 : Nat) : Int)]) (s + 1) (s + 2) #[Value.int IntKind.i64 f1, Value.int IntKind.i64 d, Value.int IntKind.u32 (n : Nat), Value.int IntKind.u32 (la : Nat), Value.bool false] (by omega)).trans HGz.out)
    have HRy := Shut.mk (setRow_heap (w4.setRow (s + 2) #[Value.int IntKind.i64 f1, Value.int IntKind.i64 d, Value.int IntKind.u32 (n : Nat), Value.int IntKind.u32 (la : Nat), Value.bool false, Value.int IntKind.i64 t, Value.int IntKind.i64 g, Value.int IntKind.i64 i, Value.int IntKind.i64 b1, (Value.slice A len cap), Value.int IntKind.i64 ((0 : Nat) : Int)]) (s + 1) _ #[Value.int IntKind.i64 f1, Value.int IntKind.i64 d, Value.int IntKind.u32 (n : Nat), Value.int IntKind.u32 (la : Nat), Value.bool false] _ (0, 0) HRz.out)
    have HOy := Shut.mk (HOz.out.setRow (g := (s + 1)) (fun e => by first | rfl | omega) #[Value.int IntKind.i64 f1, Value.int IntKind.i64 d, Value.int IntKind.u32 (n : Nat), Value.int IntKind.u32 (la : Nat), Value.bool false])
    have HSy : Shut (s + 3 ≤ ((w4.setRow (s + 2) #[Value.int IntKind.i64 f1, Value.int IntKind.i64 d, Value.int IntKind.u32 (n : Nat), Value.int IntKind.u32 (la : Nat), Value.bool false, Value.int IntKind.i64 t, Value.int IntKind.i64 g, Value.int IntKind.i64 i, Value.int IntKind.i64 b1, (Value.slice A len cap), Value.int IntKind.i64 ((0 : Nat) : Int)]).setRow (s + 1) #[Value.int IntKind.i64 f1, Value.int IntKind.i64 d, Value.int IntKind.u32 (n : Nat), Value.int IntKind.u32 (la : Nat), Value.bool false]).heap.size) := ⟨Nat.le_trans HSz.out (by simp [World.setRow])⟩
    go_wp2_with (first
     | (refine wpList_store_into rfl 4 (.tmp 54) (.const (.bool false)) rfl (s + 2) 4 (.bool false) rfl rfl rfl 139 _ #[Value.int IntKind.i64 f1, Value.int IntKind.i64 d, Value.int IntKind.u32 (n : Nat), Value.int IntKind.u32 (la : Nat), Value.bool false, Value.int IntKind.i64 t, Value.int IntKind.i64 g, Value.int IntKind.i64 i, Value.int IntKind.i64 b1, (Value.slice A len cap), Value.int IntKind.i64 ((0 : Nat) : Int)] HG.out sizeB (show 4 < 11 by decide) rfl ?_)
     | (refine wpList_load_mid rfl 84 (.tmp 57) rfl (s + 2) 0 rfl [.int .i64 f1, .int .i64 d, .int .u32 (n : Nat), .int .u32 (la : Nat), .bool false] _ (mid5 HGz.out) Tryz.underlying84 rfl sizeRc ?_)
     | (refine wpList_store_row rfl 84 (.tmp 12) (.tmp 58) rfl (s + 1) #[Value.int IntKind.i64 f1, Value.int IntKind.i64 d, Value.int IntKind.u32 (n : Nat), Value.int IntKind.u32 (la : Nat), Value.bool false] rfl rfl 84 _ HRz.out sizeRc rfl (cd_one _ _ _ _ _) ?_))
    exact bodyPost_ret (v := .tuple #[.agg #[Value.int IntKind.i64 f1, Value.int IntKind.i64 d, Value.int IntKind.u32 (n : Nat), Value.int IntKind.u32 (la : Nat), Value.bool false], .int .i64 0, .bool true]) (results_c2 (p := 12) (q := 13) (r := 14) Tryz.results71 _ _ (s + 1) _ _ _ _ _ _ rfl rfl rfl HRy.out Tryz.underlying84 rfl sizeRc) rfl ⟨by rw [HQ.out]; rfl, HOy.out.below (fun i hi => by show ¬ i = s + 2; omega) (Nat.le_refl _)⟩
   ·have START := Shut.mk (HP.out ▸ (pull_on (c := ⟨f, d, n, la, true⟩) hr rfl).symm)
    dsimp only at START
    rw [hf1, hb1] at START
    clear hr hf1 hb1 HP hql
    go_wp2_with (fail)
    clear g4
    go_loopw [16] (fun is wr => ∃ (k n : Nat) (f d b : Int) (o iv : Bool), is = .bool iv ∧ wr.heap[s + 2]? = some (Obj.cells #[Value.int IntKind.i64 f, Value.int IntKind.i64 d, Value.int IntKind.u32 ((n : Nat) : Int), Value.int IntKind.u32 ((la : Nat) : Int), Value.bool o, Value.int IntKind.i64 t, Value.int IntKind.i64 g, Value.int IntKind.i64 i, Value.int IntKind.i64 b, (Value.slice A len cap), Value.int IntKind.i64 ((k : Nat) : Int)] 139 (0, 0)) ∧ wr.heap[s + 1]? = some (.cells #[Value.int IntKind.i64 0, Value.int IntKind.i64 0, Value.int IntKind.u32 0, Value.int IntKind.u32 0, Value.bool false] 84 (0, 0)) ∧ Only (· = s + 2) w0 wr ∧ s + 3 ≤ wr.heap.size ∧ n < 4294967296 ∧
     (-1048576 * (k + 1 : Int) ≤ b ∧ b ≤ 1099511627776) ∧ (o = true → iv = true ∧ k < len ∧ dropsR ⟨t, g, i⟩ k ⟨f, d, n, la, true⟩ b (l.drop k) = R) ∧ (o = false → R = (⟨f, d, n, la, false⟩, k, iv))) (fun _ wr => measR (s + 2) len wr)
    case atStart => exact ⟨0, n, f1, d, b1, true, true, rfl, HG.out, HR.out, HO.out, HS.out, HN.out, by have := HBB.out; omega, fun _ => ⟨rfl, HP0.out, by rw [List.drop_zero]; exact START.out⟩, fun e => by cases e⟩
    case round =>
     clear START HG HR HO HS HBB HP0
     obtain ⟨kk, nn, ff, dd, bb, oo, iv, rfl, hG, hR, hO, hS, hn, hb, h1, h2⟩ := hrel
     have HG := Shut.mk hG
     have HR := Shut.mk hR
     have HO := Shut.mk hO
     have HS := Shut.mk hS
     have HBB := Shut.mk hb
     have HN := Shut.mk hn
     have g4 : wr.cell? ⟨s + 2, 4, none⟩ = some (.bool oo) := by simpa using (block_range hG) 4 _ rfl
     clear hG hR hO hS hb hn
     cases oo
     ·have HQ := Shut.mk (h2 rfl)
      clear h1 h2
      go_wp2
      refine wp_region_held_drew (S := fun w' => Below wr.heap.size wr w') (by kernel_rfl) (Below.refl _ _).drew (fun hHeld => ?_)
      clear hHeld
      have HG6 : Shut (wr.drew.heap[s + 2]? = _) := ⟨HG.out⟩
      have HR6 : Shut (wr.drew.heap[s + 1]? = _) := ⟨HR.out⟩
      have HO6 : Shut (Only (· = s + 2) w0 wr.drew) := ⟨HO.out.drew 1⟩
      have HS6 : Shut (s + 3 ≤ wr.drew.heap.size) := ⟨HS.out⟩
      have HB6 : Shut (Below wr.heap.size wr wr.drew) := ⟨(Below.refl _ _).drew⟩
      have hb6 := HB6.out
      clear HG HR HO HS
      generalize wr.drew = wq at *
      have HG := HG6
      have HR := HR6
      have HO := HO6
      have HS := HS6
      clear HG6 HR6 HO6 HS6 HB6
      refine hP 0 ?_
      refine hP 1 ?_
      refine hP 2 ?_
      refine hP 3 ?_
      refine wpAnyH_take (i := 4) (v := ?_) rfl (by kernel_rfl) (by kernel_rfl) (by kernel_rfl) (fun _ _ _ h => h) (Or.inl ⟨by rfl, ?_⟩) (by assumption) ?_
      rotate_left
      ·intro w hSw
       have q := below_at hSw g4
       clear hSw
       go_simp
       try with_reducible rfl
      try simp only [Act.put, sG1, sG2, sG3, sG4, sG5, sG6]
      refine hP 5 ?_
      refine wpAnyH_take (i := 6) (v := undef) rfl (by kernel_rfl) (by kernel_rfl) (by kernel_rfl) (fun _ _ _ h => h) (Or.inr ⟨by rfl, rfl⟩) (by assumption) ?_
      try simp only [Act.put, sG1, sG2, sG3, sG4, sG5, sG6]
      refine wpAnyH_take (i := 7) (v := undef) rfl (by kernel_rfl) (by kernel_rfl) (by kernel_rfl) (fun _ _ _ h => h) (Or.inr ⟨by rfl, rfl⟩) (by assumption) ?_
      try simp only [Act.put, sG1, sG2, sG3, sG4, sG5, sG6]
      refine wpAnyH_take (i := 8) (v := undef) rfl (by kernel_rfl) (by kernel_rfl) (by kernel_rfl) (fun _ _ _ h => h) (Or.inr ⟨by rfl, rfl⟩) (by assumption) ?_
      try simp only [Act.put, sG1, sG2, sG3, sG4, sG5, sG6]
      refine wpAnyH_take (i := 9) (v := undef) rfl (by kernel_rfl) (by kernel_rfl) (by kernel_rfl) (fun _ _ _ h => h) (Or.inr ⟨by rfl, rfl⟩) (by assumption) ?_
      try simp only [Act.put, sG1, sG2, sG3, sG4, sG5, sG6]
      refine wpAnyH_take (i := 10) (v := undef) rfl (by kernel_rfl) (by kernel_rfl) (by kernel_rfl) (fun _ _ _ h => h) (Or.inr ⟨by rfl, rfl⟩) (by assumption) ?_
      try simp only [Act.put, sG1, sG2, sG3, sG4, sG5, sG6]
      refine wpAnyH_take (i := 11) (v := undef) rfl (by kernel_rfl) (by kernel_rfl) (by kernel_rfl) (fun _ _ _ h => h) (Or.inr ⟨by rfl, rfl⟩) (by assumption) ?_
      try simp only [Act.put, sG1, sG2, sG3, sG4, sG5, sG6]
      refine wpAnyH_take (i := 12) (v := undef) rfl (by kernel_rfl) (by kernel_rfl) (by kernel_rfl) (fun _ _ _ h => h) (Or.inr ⟨by rfl, rfl⟩) (by assumption) ?_
      try simp only [Act.put, sG1, sG2, sG3, sG4, sG5, sG6]
      refine wpAnyH_take (i := 13) (v := undef) rfl (by kernel_rfl) (by kernel_rfl) (by kernel_rfl) (fun _ _ _ h => h) (Or.inr ⟨by rfl, rfl⟩) (by assumption) ?_
      try simp only [Act.put, sG1, sG2, sG3, sG4, sG5, sG6]
      refine wpAnyH_take (i := 14) (v := undef) rfl (by kernel_rfl) (by kernel_rfl) (by kernel_rfl) (fun _ _ _ h => h) (Or.inr ⟨by rfl, rfl⟩) (by assumption) ?_
      try simp only [Act.put, sG1, sG2, sG3, sG4, sG5, sG6]
      refine wpAnyH_take (i := 15) (v := undef) rfl (by kernel_rfl) (by kernel_rfl) (by kernel_rfl) (fun _ _ _ h => h) (Or.inr ⟨by rfl, rfl⟩) (by assumption) ?_
      try simp only [Act.put, sG1, sG2, sG3, sG4, sG5, sG6]
      refine hP 16 ?_
      refine wpAnyH_done (by kernel_rfl) ?_ _
      try simp only [Act.put, sG1, sG2, sG3, sG4, sG5, sG6]
      clear hb6
      clear g4
      have g10 : wq.cell? ⟨s + 2, 10, none⟩ = some (.int .i64 (kk : Nat)) := by simpa using (block_range HG.out) 10 _ rfl
      go_wp2
      refine wp_region_held_drew (S := fun w' => Only (· = s + 1) wq w') (by kernel_rfl) ((Only.refl _ _).drew 1) (fun hHeld => ?_)
      refine hP 0 ?_
      refine hP 1 ?_
      refine hP 2 ?_
      refine wpAnyH_take (i := 3) (v := .agg #[Value.int IntKind.i64 ff, Value.int IntKind.i64 dd, Value.int IntKind.u32 (nn : Nat), Value.int IntKind.u32 (la : Nat), Value.bool false]) rfl (by kernel_rfl) (by kernel_rfl) (by kernel_rfl) (fun _ _ _ h => h) (yieldsIf_load_mid (by rfl) 84 (.tmp 136) rfl (s + 2) (0) rfl (#[Value.int IntKind.i64 ff, Value.int IntKind.i64 dd, Value.int IntKind.u32 (nn : Nat), Value.int IntKind.u32 (la : Nat), Value.bool false]).toList _ (fun w' hw' => hw'.range (mid5 HG.out) (by show ¬ s + 2 = s + 1; omega)) Tryz.underlying84 rfl sizeRc) (by assumption) ?_
      try simp only [Act.put, sG1, sG2, sG3, sG4, sG5, sG6]
      refine hP 4 ?_
      refine hP 5 ?_
      refine hP 6 ?_
      refine wpAnyH_take (i := 7) (v := ?_) rfl (by kernel_rfl) (by kernel_rfl) (by kernel_rfl) (fun _ _ _ h => h) (Or.inl ⟨by rfl, ?_⟩) (by assumption) ?_
      rotate_left
      ·intro w hSw
       have q := hSw.cell g10 (by show ¬ s + 2 = s + 1; omega)
       clear hSw
       go_simp
       try with_reducible rfl
      try simp only [Act.put, sG1, sG2, sG3, sG4, sG5, sG6]
      refine hP 8 ?_
      clear hHeld g10
      replace HG := Shut.mk (block_of (w := wq) (n := 1) rfl HG.out)
      replace HR := Shut.mk (block_of (w := wq) (n := 1) rfl HR.out)
      replace HO := Shut.mk (only_of (w := wq) (n := 1) rfl HO.out)
      replace HS := Shut.mk (size_of (w := wq) (n := 1) rfl HS.out)
      have HQ3 : Shut (Only (· = s + 1) wq (World.drewN wq 1)) := ⟨(Only.refl _ _).drew 1⟩
      change wpAnyH _ _ _ _ _ _ _ _ (World.drewN wq 1)
      generalize World.drewN wq 1 = wt at *
      have HGz := Shut.mk ((setRow_other wt (s + 1) (s + 2) #[Value.int IntKind.i64 ff, Value.int IntKind.i64 dd, Value.int IntKind.u32 (nn : Nat), Value.int IntKind.u32 (la : Nat), Value.bool false] (by omega)).trans HG.out)
      have HRz := Shut.mk (setRow_heap wt (s + 1) _ #[Value.int IntKind.i64 ff, Value.int IntKind.i64 dd, Value.int IntKind.u32 (nn : Nat), Value.int IntKind.u32 (la : Nat), Value.bool false] _ (0, 0) HR.out)
      have HOz := Shut.mk (HO.out.setRow (g := (s + 1)) (fun e => by first | rfl | omega) #[Value.int IntKind.i64 ff, Value.int IntKind.i64 dd, Value.int IntKind.u32 (nn : Nat), Value.int IntKind.u32 (la : Nat), Value.bool false])
      have HSz : Shut (s + 3 ≤ (wt.setRow (s + 1) #[Value.int IntKind.i64 ff, Value.int IntKind.i64 dd, Value.int IntKind.u32 (nn : Nat), Value.int IntKind.u32 (la : Nat), Value.bool false]).heap.size) := ⟨Nat.le_trans HS.out (by simp [World.setRow])⟩
      refine wpAnyH_ready (rs := [9]) (by kernel_rfl) (by simp) ?_
      refine AllReadyH.cons rfl (fun K hK => ?_) AllReadyH.nil
      rw [if_pos (by rfl)]
      refine wp_store_row 84 (.tmp 12) (.tmp 137) rfl (s + 1) #[Value.int IntKind.i64 ff, Value.int IntKind.i64 dd, Value.int IntKind.u32 (nn : Nat), Value.int IntKind.u32 (la : Nat), Value.bool false] rfl rfl 84 _ HR.out sizeRc rfl (cd_one _ _ _ _ _) ?_
      refine hK.out _ _ (HQ3.out.setRow (g := s + 1) (fun _ => rfl) #[Value.int IntKind.i64 ff, Value.int IntKind.i64 dd, Value.int IntKind.u32 (nn : Nat), Value.int IntKind.u32 (la : Nat), Value.bool false]) (fun hHeld => ?_)
      clear hK K
      try simp only [Act.put, sG1, sG2, sG3, sG4, sG5, sG6]
      refine hP 10 ?_
      refine hP 11 ?_
      refine wpAnyH_done (by kernel_rfl) ?_ _
      try simp only [Act.put, sG1, sG2, sG3, sG4, sG5, sG6]
      go_wp2
      exact bodyPost_ret (v := .tuple #[.agg #[Value.int IntKind.i64 ff, Value.int IntKind.i64 dd, Value.int IntKind.u32 (nn : Nat), Value.int IntKind.u32 (la : Nat), Value.bool false], .int .i64 (kk : Nat), .bool iv]) (results_c2 (p := 12) (q := 13) (r := 14) Tryz.results71 _ _ (s + 1) _ _ _ _ _ _ rfl rfl rfl HRz.out Tryz.underlying84 rfl sizeRc) rfl ⟨by rw [HQ.out], HOz.out.below (fun i hi => by show ¬ i = s + 2; omega) (Nat.le_refl _)⟩
     ·obtain ⟨rfl, hk, hE⟩ := h1 rfl
      have HE := Shut.mk hE
      have HK := Shut.mk hk
      have HKl : Shut (kk < l.length) := ⟨by rw [HLL.out]; exact hk⟩
      have g1 : wr.cell? ⟨s + 2, 1, none⟩ = some (.int .i64 dd) := by simpa using (block_range HG.out) 1 _ rfl
      have g5 : wr.cell? ⟨s + 2, 5, none⟩ = some (.int .i64 t) := by simpa using (block_range HG.out) 5 _ rfl
      clear h1 h2 hk hE
      rcases Int.lt_or_le t dd with h1 | h1
      ·have HQ := Shut.mk (HE.out.symm.trans (drops_end HKl.out (by show ¬ dd ≤ t; omega)))
       go_wp2
       go_quiet (fail)
       generalize hq : World.drewN wr _ = wq
       replace HG := Shut.mk (block_of hq HG.out)
       replace HR := Shut.mk (block_of hq HR.out)
       replace HO := Shut.mk (only_of hq HO.out)
       replace HS := Shut.mk (size_of hq HS.out)
       clear hq
       clear g4 g1 g5
       have g10 : wq.cell? ⟨s + 2, 10, none⟩ = some (.int .i64 (kk : Nat)) := by simpa using (block_range HG.out) 10 _ rfl
       go_wp2
       refine wp_region_held_drew (S := fun w' => Only (· = s + 1) wq w') (by kernel_rfl) ((Only.refl _ _).drew 1) (fun hHeld => ?_)
       refine hP 0 ?_
       refine hP 1 ?_
       refine hP 2 ?_
       refine wpAnyH_take (i := 3) (v := .agg #[Value.int IntKind.i64 ff, Value.int IntKind.i64 dd, Value.int IntKind.u32 (nn : Nat), Value.int IntKind.u32 (la : Nat), Value.bool true]) rfl (by kernel_rfl) (by kernel_rfl) (by kernel_rfl) (fun _ _ _ h => h) (yieldsIf_load_mid (by rfl) 84 (.tmp 136) rfl (s + 2) (0) rfl (#[Value.int IntKind.i64 ff, Value.int IntKind.i64 dd, Value.int IntKind.u32 (nn : Nat), Value.int IntKind.u32 (la : Nat), Value.bool true]).toList _ (fun w' hw' => hw'.range (mid5 HG.out) (by show ¬ s + 2 = s + 1; omega)) Tryz.underlying84 rfl sizeRc) (by assumption) ?_
       try simp only [Act.put, sG1, sG2, sG3, sG4, sG5, sG6]
       refine hP 4 ?_
       refine hP 5 ?_
       refine hP 6 ?_
       refine wpAnyH_take (i := 7) (v := ?_) rfl (by kernel_rfl) (by kernel_rfl) (by kernel_rfl) (fun _ _ _ h => h) (Or.inl ⟨by rfl, ?_⟩) (by assumption) ?_
       rotate_left
       ·intro w hSw
        have q := hSw.cell g10 (by show ¬ s + 2 = s + 1; omega)
        clear hSw
        go_simp
        try with_reducible rfl
       try simp only [Act.put, sG1, sG2, sG3, sG4, sG5, sG6]
       refine hP 8 ?_
       clear hHeld g10
       replace HG := Shut.mk (block_of (w := wq) (n := 1) rfl HG.out)
       replace HR := Shut.mk (block_of (w := wq) (n := 1) rfl HR.out)
       replace HO := Shut.mk (only_of (w := wq) (n := 1) rfl HO.out)
       replace HS := Shut.mk (size_of (w := wq) (n := 1) rfl HS.out)
       have HQ3 : Shut (Only (· = s + 1) wq (World.drewN wq 1)) := ⟨(Only.refl _ _).drew 1⟩
       change wpAnyH _ _ _ _ _ _ _ _ (World.drewN wq 1)
       generalize World.drewN wq 1 = wt at *
       have HGz := Shut.mk ((setRow_other wt (s + 1) (s + 2) #[Value.int IntKind.i64 ff, Value.int IntKind.i64 dd, Value.int IntKind.u32 (nn : Nat), Value.int IntKind.u32 (la : Nat), Value.bool true] (by omega)).trans HG.out)
       have HRz := Shut.mk (setRow_heap wt (s + 1) _ #[Value.int IntKind.i64 ff, Value.int IntKind.i64 dd, Value.int IntKind.u32 (nn : Nat), Value.int IntKind.u32 (la : Nat), Value.bool true] _ (0, 0) HR.out)
       have HOz := Shut.mk (HO.out.setRow (g := (s + 1)) (fun e => by first | rfl | omega) #[Value.int IntKind.i64 ff, Value.int IntKind.i64 dd, Value.int IntKind.u32 (nn : Nat), Value.int IntKind.u32 (la : Nat), Value.bool true])
       have HSz : Shut (s + 3 ≤ (wt.setRow (s + 1) #[Value.int IntKind.i64 ff, Value.int IntKind.i64 dd, Value.int IntKind.u32 (nn : Nat), Value.int IntKind.u32 (la : Nat), Value.bool true]).heap.size) := ⟨Nat.le_trans HS.out (by simp [World.setRow])⟩
       refine wpAnyH_ready (rs := [9]) (by kernel_rfl) (by simp) ?_
       refine AllReadyH.cons rfl (fun K hK => ?_) AllReadyH.nil
       rw [if_pos (by rfl)]
       refine wp_store_row 84 (.tmp 12) (.tmp 137) rfl (s + 1) #[Value.int IntKind.i64 ff, Value.int IntKind.i64 dd, Value.int IntKind.u32 (nn : Nat), Value.int IntKind.u32 (la : Nat), Value.bool true] rfl rfl 84 _ HR.out sizeRc rfl (cd_one _ _ _ _ _) ?_
       refine hK.out _ _ (HQ3.out.setRow (g := s + 1) (fun _ => rfl) #[Value.int IntKind.i64 ff, Value.int IntKind.i64 dd, Value.int IntKind.u32 (nn : Nat), Value.int IntKind.u32 (la : Nat), Value.bool true]) (fun hHeld => ?_)
       clear hK K
       try simp only [Act.put, sG1, sG2, sG3, sG4, sG5, sG6]
       refine hP 10 ?_
       refine hP 11 ?_
       refine wpAnyH_done (by kernel_rfl) ?_ _
       try simp only [Act.put, sG1, sG2, sG3, sG4, sG5, sG6]
       go_wp2
       exact bodyPost_ret (v := .tuple #[.agg #[Value.int IntKind.i64 ff, Value.int IntKind.i64 dd, Value.int IntKind.u32 (nn : Nat), Value.int IntKind.u32 (la : Nat), Value.bool true], .int .i64 (kk : Nat), .bool true]) (results_c2 (p := 12) (q := 13) (r := 14) Tryz.results71 _ _ (s + 1) _ _ _ _ _ _ rfl rfl rfl HRz.out Tryz.underlying84 rfl sizeRc) rfl ⟨by rw [HQ.out], HOz.out.below (fun i hi => by show ¬ i = s + 2; omega) (Nat.le_refl _)⟩
      ·have HGW := HG
       obtain ⟨k1, hk1⟩ : ∃ k1, kk + 1 = k1 := ⟨_, rfl⟩
       have HK1 := Shut.mk hk1
       clear hk1
       obtain ⟨n1, hn1⟩ : ∃ n1, more nn = n1 := ⟨_, rfl⟩
       have HM1 := Shut.mk hn1
       have HN1 : Shut (n1 < 4294967296) := ⟨by rw [← hn1]; exact more_lt HN.out⟩
       clear hn1
       have hnn := HN.out
       rcases Decidable.em (nn < 4294967295) with h2 | h2
       ·go_wp2
        go_quiet (fail)
        generalize hq : World.drewN wr _ = wq
        replace HG := Shut.mk (block_of hq HG.out)
        replace HR := Shut.mk (block_of hq HR.out)
        replace HO := Shut.mk (only_of hq HO.out)
        replace HS := Shut.mk (size_of hq HS.out)
        clear hq
        clear g4 g1 g5
        have g10 : wq.cell? ⟨s + 2, 10, none⟩ = some (.int .i64 (kk : Nat)) := by simpa using (block_range HG.out) 10 _ rfl
        have y5 : IntKind.i64.wrap ((kk : Int) + 1) = ((k1 : Nat) : Int) := by rw [IntWalk.i64_in _ ⟨by omega, by have := HK.out; have := HM.out; omega⟩]; have := HK1.out; omega
        have HGz := Shut.mk (setRow_heap wq (s + 2) _ #[Value.int IntKind.i64 ff, Value.int IntKind.i64 dd, Value.int IntKind.u32 (nn : Nat), Value.int IntKind.u32 (la : Nat), Value.bool true, Value.int IntKind.i64 t, Value.int IntKind.i64 g, Value.int IntKind.i64 i, Value.int IntKind.i64 bb, (Value.slice A len cap), Value.int IntKind.i64 (k1 : Nat)] _ (0, 0) HG.out)
        have HRz := Shut.mk ((setRow_other wq (s + 2) (s + 1) #[Value.int IntKind.i64 ff, Value.int IntKind.i64 dd, Value.int IntKind.u32 (nn : Nat), Value.int IntKind.u32 (la : Nat), Value.bool true, Value.int IntKind.i64 t, Value.int IntKind.i64 g, Value.int IntKind.i64 i, Value.int IntKind.i64 bb, (Value.slice A len cap), Value.int IntKind.i64 (k1 : Nat)] (by omega)).trans HR.out)
        have HOz := Shut.mk (HO.out.setRow (g := (s + 2)) (fun e => by first | rfl | omega) #[Value.int IntKind.i64 ff, Value.int IntKind.i64 dd, Value.int IntKind.u32 (nn : Nat), Value.int IntKind.u32 (la : Nat), Value.bool true, Value.int IntKind.i64 t, Value.int IntKind.i64 g, Value.int IntKind.i64 i, Value.int IntKind.i64 bb, (Value.slice A len cap), Value.int IntKind.i64 (k1 : Nat)])
        have HSz : Shut (s + 3 ≤ (wq.setRow (s + 2) #[Value.int IntKind.i64 ff, Value.int IntKind.i64 dd, Value.int IntKind.u32 (nn : Nat), Value.int IntKind.u32 (la : Nat), Value.bool true, Value.int IntKind.i64 t, Value.int IntKind.i64 g, Value.int IntKind.i64 i, Value.int IntKind.i64 bb, (Value.slice A len cap), Value.int IntKind.i64 (k1 : Nat)]).heap.size) := ⟨Nat.le_trans HS.out (by simp [World.setRow])⟩
        have g2 : (wq.setRow (s + 2) #[Value.int IntKind.i64 ff, Value.int IntKind.i64 dd, Value.int IntKind.u32 (nn : Nat), Value.int IntKind.u32 (la : Nat), Value.bool true, Value.int IntKind.i64 t, Value.int IntKind.i64 g, Value.int IntKind.i64 i, Value.int IntKind.i64 bb, (Value.slice A len cap), Value.int IntKind.i64 (k1 : Nat)]).cell? ⟨s + 2, 2, none⟩ = some (.int .u32 (nn : Nat)) := by simpa using (block_range HGz.out) 2 _ rfl
        have q2 : (nn : Int) < 4294967295 := by omega
        have y2 : IntKind.u32.wrap ((nn : Int) + 1) = ((n1 : Nat) : Int) := by rw [IntWalk.u32_in _ ⟨by omega, by omega⟩]; have := HM1.out; unfold more at this; rw [if_pos h2] at this; omega
        clear h2 hnn
        have HGy := Shut.mk (setRow_heap (wq.setRow (s + 2) #[Value.int IntKind.i64 ff, Value.int IntKind.i64 dd, Value.int IntKind.u32 (nn : Nat), Value.int IntKind.u32 (la : Nat), Value.bool true, Value.int IntKind.i64 t, Value.int IntKind.i64 g, Value.int IntKind.i64 i, Value.int IntKind.i64 bb, (Value.slice A len cap), Value.int IntKind.i64 (k1 : Nat)]) (s + 2) _ #[Value.int IntKind.i64 ff, Value.int IntKind.i64 dd, Value.int IntKind.u32 (n1 : Nat), Value.int IntKind.u32 (la : Nat), Value.bool true, Value.int IntKind.i64 t, Value.int IntKind.i64 g, Value.int IntKind.i64 i, Value.int IntKind.i64 bb, (Value.slice A len cap), Value.int IntKind.i64 (k1 : Nat)] _ (0, 0) HGz.out)
        have HRy := Shut.mk ((setRow_other (wq.setRow (s + 2) #[Value.int IntKind.i64 ff, Value.int IntKind.i64 dd, Value.int IntKind.u32 (nn : Nat), Value.int IntKind.u32 (la : Nat), Value.bool true, Value.int IntKind.i64 t, Value.int IntKind.i64 g, Value.int IntKind.i64 i, Value.int IntKind.i64 bb, (Value.slice A len cap), Value.int IntKind.i64 (k1 : Nat)]) (s + 2) (s + 1) #[Value.int IntKind.i64 ff, Value.int IntKind.i64 dd, Value.int IntKind.u32 (n1 : Nat), Value.int IntKind.u32 (la : Nat), Value.bool true, Value.int IntKind.i64 t, Value.int IntKind.i64 g, Value.int IntKind.i64 i, Value.int IntKind.i64 bb, (Value.slice A len cap), Value.int IntKind.i64 (k1 : Nat)] (by omega)).trans HRz.out)
        have HOy := Shut.mk (HOz.out.setRow (g := (s + 2)) (fun e => by first | rfl | omega) #[Value.int IntKind.i64 ff, Value.int IntKind.i64 dd, Value.int IntKind.u32 (n1 : Nat), Value.int IntKind.u32 (la : Nat), Value.bool true, Value.int IntKind.i64 t, Value.int IntKind.i64 g, Value.int IntKind.i64 i, Value.int IntKind.i64 bb, (Value.slice A len cap), Value.int IntKind.i64 (k1 : Nat)])
        have HSy : Shut (s + 3 ≤ ((wq.setRow (s + 2) #[Value.int IntKind.i64 ff, Value.int IntKind.i64 dd, Value.int IntKind.u32 (nn : Nat), Value.int IntKind.u32 (la : Nat), Value.bool true, Value.int IntKind.i64 t, Value.int IntKind.i64 g, Value.int IntKind.i64 i, Value.int IntKind.i64 bb, (Value.slice A len cap), Value.int IntKind.i64 (k1 : Nat)]).setRow (s + 2) #[Value.int IntKind.i64 ff, Value.int IntKind.i64 dd, Value.int IntKind.u32 (n1 : Nat), Value.int IntKind.u32 (la : Nat), Value.bool true, Value.int IntKind.i64 t, Value.int IntKind.i64 g, Value.int IntKind.i64 i, Value.int IntKind.i64 bb, (Value.slice A len cap), Value.int IntKind.i64 (k1 : Nat)]).heap.size) := ⟨Nat.le_trans HSz.out (by simp [World.setRow])⟩
        go_wp2_with (first
         | (refine wpList_store_into rfl 3 (.tmp 83) (.tmp 81) rfl (s + 2) 10 (.int .i64 ((k1 : Nat) : Int)) rfl rfl rfl 139 _ #[Value.int IntKind.i64 ff, Value.int IntKind.i64 dd, Value.int IntKind.u32 (nn : Nat), Value.int IntKind.u32 (la : Nat), Value.bool true, Value.int IntKind.i64 t, Value.int IntKind.i64 g, Value.int IntKind.i64 i, Value.int IntKind.i64 bb, (Value.slice A len cap), Value.int IntKind.i64 (k1 : Nat)] HG.out sizeI64 (show 10 < 11 by decide) rfl ?_)
         | (refine wpList_store_into rfl 22 (.tmp 99) (.tmp 96) rfl (s + 2) 2 (.int .u32 ((n1 : Nat) : Int)) rfl rfl rfl 139 _ #[Value.int IntKind.i64 ff, Value.int IntKind.i64 dd, Value.int IntKind.u32 (n1 : Nat), Value.int IntKind.u32 (la : Nat), Value.bool true, Value.int IntKind.i64 t, Value.int IntKind.i64 g, Value.int IntKind.i64 i, Value.int IntKind.i64 bb, (Value.slice A len cap), Value.int IntKind.i64 (k1 : Nat)] HGz.out size32 (show 2 < 11 by decide) rfl ?_))
        clear g10 y5 g2 q2 y2
        generalize hz : (wq.setRow (s + 2) _).setRow (s + 2) _ = w5 at *
        clear hz HG HR HO HS HGz HRz HOz HSz
        have HG := HGy
        have HR := HRy
        have HO := HOy
        have HS := HSy
        clear HGy HRy HOy HSy
        have hb1 : -1099511627776 ≤ bb ∧ bb ≤ 1099511627776 := by have := HBB.out; have := HK.out; have := HM.out; omega
        refine (reflook_any t g i bb ff dd n1 la true A len cap k1 (s + 2) l w5 HG.out (HL0.out.only HO.out (fun p hp => HA.out p hp (by have := HK.out; omega))) HA.out (by have := HK.out; have := HK1.out; omega) HT.out HI.out hb1 HX.out).mono ?_
        rintro e w6 ⟨rfl, hG, hO⟩
        clear hb1
        replace HG := Shut.mk hG
        replace HR := Shut.mk (hO.at_ HR.out (by show ¬ s + 1 = s + 2; omega))
        replace HO := Shut.mk (HO.out.trans hO fun _ _ e => e)
        replace HS := Shut.mk (Nat.le_trans HS.out hO.size)
        clear hG hO
        obtain ⟨f1, hf1⟩ : ∃ f1, lookF ⟨t, g, i⟩ ff bb (l.drop k1) = f1 := ⟨_, rfl⟩
        rw [hf1] at HG
        have hbb := lookB_in (b := bb) (k := k1) HX.out
        obtain ⟨b1, hb1⟩ : ∃ b1, lookB bb (l.drop k1) = b1 := ⟨_, rfl⟩
        rw [hb1] at HG hbb
        have HBN : Shut (-1048576 * (k1 + 1 : Int) ≤ b1 ∧ b1 ≤ 1099511627776) := ⟨by have := HBB.out; have := HK1.out; omega⟩
        clear hbb
        obtain ⟨r, hr⟩ : ∃ r, lookL ⟨t, g, i⟩ ff bb (l.drop k1) = r := ⟨_, rfl⟩
        rw [hr]
        cases r
        ·have e := HE.out
         rw [drops_out HK1.out HKl.out (by show dd ≤ t; omega) hr] at e
         dsimp only at e
         rw [hf1, HM1.out, drop_is HLL.out] at e
         have HE' := Shut.mk e
         clear hr hf1 e
         obtain ⟨iw, hiw⟩ : ∃ iw, decide (k1 < len) = iw := ⟨_, rfl⟩
         rw [hiw] at HE' ⊢
         clear hiw
         have HGz := Shut.mk (setRow_heap w6 (s + 2) _ #[Value.int IntKind.i64 f1, Value.int IntKind.i64 dd, Value.int IntKind.u32 (n1 : Nat), Value.int IntKind.u32 (la : Nat), Value.bool false, Value.int IntKind.i64 t, Value.int IntKind.i64 g, Value.int IntKind.i64 i, Value.int IntKind.i64 b1, (Value.slice A len cap), Value.int IntKind.i64 (k1 : Nat)] _ (0, 0) HG.out)
         have HRz := Shut.mk ((setRow_other w6 (s + 2) (s + 1) #[Value.int IntKind.i64 f1, Value.int IntKind.i64 dd, Value.int IntKind.u32 (n1 : Nat), Value.int IntKind.u32 (la : Nat), Value.bool false, Value.int IntKind.i64 t, Value.int IntKind.i64 g, Value.int IntKind.i64 i, Value.int IntKind.i64 b1, (Value.slice A len cap), Value.int IntKind.i64 (k1 : Nat)] (by omega)).trans HR.out)
         have HOz := Shut.mk (HO.out.setRow (g := (s + 2)) (fun e => by first | rfl | omega) #[Value.int IntKind.i64 f1, Value.int IntKind.i64 dd, Value.int IntKind.u32 (n1 : Nat), Value.int IntKind.u32 (la : Nat), Value.bool false, Value.int IntKind.i64 t, Value.int IntKind.i64 g, Value.int IntKind.i64 i, Value.int IntKind.i64 b1, (Value.slice A len cap), Value.int IntKind.i64 (k1 : Nat)])
         have HSz : Shut (s + 3 ≤ (w6.setRow (s + 2) #[Value.int IntKind.i64 f1, Value.int IntKind.i64 dd, Value.int IntKind.u32 (n1 : Nat), Value.int IntKind.u32 (la : Nat), Value.bool false, Value.int IntKind.i64 t, Value.int IntKind.i64 g, Value.int IntKind.i64 i, Value.int IntKind.i64 b1, (Value.slice A len cap), Value.int IntKind.i64 (k1 : Nat)]).heap.size) := ⟨Nat.le_trans HS.out (by simp [World.setRow])⟩
         cases iw
         ·go_wp2_with (first
           | (refine wpList_store_into rfl 4 (.tmp 114) (.const (.bool false)) rfl (s + 2) 4 (.bool false) rfl rfl rfl 139 _ #[Value.int IntKind.i64 f1, Value.int IntKind.i64 dd, Value.int IntKind.u32 (n1 : Nat), Value.int IntKind.u32 (la : Nat), Value.bool false, Value.int IntKind.i64 t, Value.int IntKind.i64 g, Value.int IntKind.i64 i, Value.int IntKind.i64 b1, (Value.slice A len cap), Value.int IntKind.i64 (k1 : Nat)] HG.out sizeB (show 4 < 11 by decide) rfl ?_))
          generalize hz : w6.setRow (s + 2) _ = w7 at *
          clear hz HG HR HO HS
          have HG := HGz
          have HR := HRz
          have HO := HOz
          have HS := HSz
          clear HGz HRz HOz HSz
          go_roundw
          case rel =>
           (repeat apply Exists.intro)
           refine ⟨?_, rfl⟩
           exact ⟨k1, n1, f1, dd, b1, false, false, rfl, HG.out, HR.out, HO.out, HS.out, HN1.out, HBN.out, (fun e => by cases e), (fun _ => HE'.out.symm)⟩
          case measure => rw [measR_off HG.out, measR_on HGW.out]; omega
         ·go_wp2_with (first
           | (refine wpList_store_into rfl 4 (.tmp 114) (.const (.bool false)) rfl (s + 2) 4 (.bool false) rfl rfl rfl 139 _ #[Value.int IntKind.i64 f1, Value.int IntKind.i64 dd, Value.int IntKind.u32 (n1 : Nat), Value.int IntKind.u32 (la : Nat), Value.bool false, Value.int IntKind.i64 t, Value.int IntKind.i64 g, Value.int IntKind.i64 i, Value.int IntKind.i64 b1, (Value.slice A len cap), Value.int IntKind.i64 (k1 : Nat)] HG.out sizeB (show 4 < 11 by decide) rfl ?_))
          generalize hz : w6.setRow (s + 2) _ = w7 at *
          clear hz HG HR HO HS
          have HG := HGz
          have HR := HRz
          have HO := HOz
          have HS := HSz
          clear HGz HRz HOz HSz
          go_roundw
          case rel =>
           (repeat apply Exists.intro)
           refine ⟨?_, rfl⟩
           exact ⟨k1, n1, f1, dd, b1, false, true, rfl, HG.out, HR.out, HO.out, HS.out, HN1.out, HBN.out, (fun e => by cases e), (fun _ => HE'.out.symm)⟩
          case measure => rw [measR_off HG.out, measR_on HGW.out]; omega
        ·have e := HE.out
         rw [drops_on HK1.out HKl.out (by show dd ≤ t; omega) hr] at e
         dsimp only at e
         rw [hf1, HM1.out, hb1] at e
         have HE' := Shut.mk e
         have HKl' := Shut.mk (late_there hr)
         have hq : decide (k1 < len) = true := by have := HKl'.out; rw [HLL.out] at this; simpa using this
         rw [hq]
         clear hr hf1 e hb1 hq
         have g1 : w6.cell? ⟨s + 2, 1, none⟩ = some (.int .i64 dd) := by simpa using (block_range HG.out) 1 _ rfl
         have g2 : w6.cell? ⟨s + 2, 2, none⟩ = some (.int .u32 (n1 : Nat)) := by simpa using (block_range HG.out) 2 _ rfl
         have g7 : w6.cell? ⟨s + 2, 7, none⟩ = some (.int .i64 i) := by simpa using (block_range HG.out) 7 _ rfl
         obtain ⟨dn, hdn⟩ : ∃ dn, nextN dd i n1 = dn := ⟨_, rfl⟩
         have HDN := Shut.mk hdn
         clear hdn
         go_wp2
         go_still_tail 19, (by kernel_rfl)
         still_call (still_same (refnext_any dd i n1 _ HN1.out))
         rw [HDN.out]
         repeat still_step
         refine wpStill_nil ?_
         clear g1 g2 g7
         change wpList _ _ _ _ _ (World.drewN w6 1)
         generalize hq : World.drewN w6 1 = w7
         replace HG := Shut.mk (block_of hq HG.out)
         replace HR := Shut.mk (block_of hq HR.out)
         replace HO := Shut.mk (only_of hq HO.out)
         replace HS := Shut.mk (size_of hq HS.out)
         clear hq
         have HGz := Shut.mk (setRow_heap w7 (s + 2) _ #[Value.int IntKind.i64 f1, Value.int IntKind.i64 dn, Value.int IntKind.u32 (n1 : Nat), Value.int IntKind.u32 (la : Nat), Value.bool true, Value.int IntKind.i64 t, Value.int IntKind.i64 g, Value.int IntKind.i64 i, Value.int IntKind.i64 b1, (Value.slice A len cap), Value.int IntKind.i64 (k1 : Nat)] _ (0, 0) HG.out)
         have HRz := Shut.mk ((setRow_other w7 (s + 2) (s + 1) #[Value.int IntKind.i64 f1, Value.int IntKind.i64 dn, Value.int IntKind.u32 (n1 : Nat), Value.int IntKind.u32 (la : Nat), Value.bool true, Value.int IntKind.i64 t, Value.int IntKind.i64 g, Value.int IntKind.i64 i, Value.int IntKind.i64 b1, (Value.slice A len cap), Value.int IntKind.i64 (k1 : Nat)] (by omega)).trans HR.out)
         have HOz := Shut.mk (HO.out.setRow (g := (s + 2)) (fun e => by first | rfl | omega) #[Value.int IntKind.i64 f1, Value.int IntKind.i64 dn, Value.int IntKind.u32 (n1 : Nat), Value.int IntKind.u32 (la : Nat), Value.bool true, Value.int IntKind.i64 t, Value.int IntKind.i64 g, Value.int IntKind.i64 i, Value.int IntKind.i64 b1, (Value.slice A len cap), Value.int IntKind.i64 (k1 : Nat)])
         have HSz : Shut (s + 3 ≤ (w7.setRow (s + 2) #[Value.int IntKind.i64 f1, Value.int IntKind.i64 dn, Value.int IntKind.u32 (n1 : Nat), Value.int IntKind.u32 (la : Nat), Value.bool true, Value.int IntKind.i64 t, Value.int IntKind.i64 g, Value.int IntKind.i64 i, Value.int IntKind.i64 b1, (Value.slice A len cap), Value.int IntKind.i64 (k1 : Nat)]).heap.size) := ⟨Nat.le_trans HS.out (by simp [World.setRow])⟩
         go_wp2_with (first
          | (refine wpList_store_into rfl 2 (.tmp 133) (.tmp 130) rfl (s + 2) 1 (.int .i64 dn) rfl rfl rfl 139 _ #[Value.int IntKind.i64 f1, Value.int IntKind.i64 dn, Value.int IntKind.u32 (n1 : Nat), Value.int IntKind.u32 (la : Nat), Value.bool true, Value.int IntKind.i64 t, Value.int IntKind.i64 g, Value.int IntKind.i64 i, Value.int IntKind.i64 b1, (Value.slice A len cap), Value.int IntKind.i64 (k1 : Nat)] HG.out size64 (show 1 < 11 by decide) rfl ?_))
         generalize hz : w7.setRow (s + 2) _ = w8 at *
         clear hz HG HR HO HS
         have HG := HGz
         have HR := HRz
         have HO := HOz
         have HS := HSz
         clear HGz HRz HOz HSz
         rw [HDN.out] at HE'
         go_roundw
         case rel =>
          (repeat apply Exists.intro)
          refine ⟨?_, rfl⟩
          exact ⟨k1, n1, f1, dn, b1, true, true, rfl, HG.out, HR.out, HO.out, HS.out, HN1.out, HBN.out, fun _ => ⟨rfl, by rw [← HLL.out]; exact HKl'.out, HE'.out⟩, (fun e => by cases e)⟩
         case measure => rw [measR_on HG.out, measR_on HGW.out]; have := HK.out; have := HK1.out; omega
       ·go_wp2
        go_quiet (fail)
        generalize hq : World.drewN wr _ = wq
        replace HG := Shut.mk (block_of hq HG.out)
        replace HR := Shut.mk (block_of hq HR.out)
        replace HO := Shut.mk (only_of hq HO.out)
        replace HS := Shut.mk (size_of hq HS.out)
        clear hq
        clear g4 g1 g5
        have g10 : wq.cell? ⟨s + 2, 10, none⟩ = some (.int .i64 (kk : Nat)) := by simpa using (block_range HG.out) 10 _ rfl
        have y5 : IntKind.i64.wrap ((kk : Int) + 1) = ((k1 : Nat) : Int) := by rw [IntWalk.i64_in _ ⟨by omega, by have := HK.out; have := HM.out; omega⟩]; have := HK1.out; omega
        have HGz := Shut.mk (setRow_heap wq (s + 2) _ #[Value.int IntKind.i64 ff, Value.int IntKind.i64 dd, Value.int IntKind.u32 (nn : Nat), Value.int IntKind.u32 (la : Nat), Value.bool true, Value.int IntKind.i64 t, Value.int IntKind.i64 g, Value.int IntKind.i64 i, Value.int IntKind.i64 bb, (Value.slice A len cap), Value.int IntKind.i64 (k1 : Nat)] _ (0, 0) HG.out)
        have HRz := Shut.mk ((setRow_other wq (s + 2) (s + 1) #[Value.int IntKind.i64 ff, Value.int IntKind.i64 dd, Value.int IntKind.u32 (nn : Nat), Value.int IntKind.u32 (la : Nat), Value.bool true, Value.int IntKind.i64 t, Value.int IntKind.i64 g, Value.int IntKind.i64 i, Value.int IntKind.i64 bb, (Value.slice A len cap), Value.int IntKind.i64 (k1 : Nat)] (by omega)).trans HR.out)
        have HOz := Shut.mk (HO.out.setRow (g := (s + 2)) (fun e => by first | rfl | omega) #[Value.int IntKind.i64 ff, Value.int IntKind.i64 dd, Value.int IntKind.u32 (nn : Nat), Value.int IntKind.u32 (la : Nat), Value.bool true, Value.int IntKind.i64 t, Value.int IntKind.i64 g, Value.int IntKind.i64 i, Value.int IntKind.i64 bb, (Value.slice A len cap), Value.int IntKind.i64 (k1 : Nat)])
        have HSz : Shut (s + 3 ≤ (wq.setRow (s + 2) #[Value.int IntKind.i64 ff, Value.int IntKind.i64 dd, Value.int IntKind.u32 (nn : Nat), Value.int IntKind.u32 (la : Nat), Value.bool true, Value.int IntKind.i64 t, Value.int IntKind.i64 g, Value.int IntKind.i64 i, Value.int IntKind.i64 bb, (Value.slice A len cap), Value.int IntKind.i64 (k1 : Nat)]).heap.size) := ⟨Nat.le_trans HS.out (by simp [World.setRow])⟩
        have g2 : (wq.setRow (s + 2) #[Value.int IntKind.i64 ff, Value.int IntKind.i64 dd, Value.int IntKind.u32 (nn : Nat), Value.int IntKind.u32 (la : Nat), Value.bool true, Value.int IntKind.i64 t, Value.int IntKind.i64 g, Value.int IntKind.i64 i, Value.int IntKind.i64 bb, (Value.slice A len cap), Value.int IntKind.i64 (k1 : Nat)]).cell? ⟨s + 2, 2, none⟩ = some (.int .u32 (nn : Nat)) := by simpa using (block_range HGz.out) 2 _ rfl
        have q2 : ¬ (nn : Int) < 4294967295 := by omega
        have HNE : Shut (n1 = nn) := ⟨by have := HM1.out; unfold more at this; rw [if_neg h2] at this; exact this.symm⟩
        clear h2 hnn
        go_wp2_with (first
         | (refine wpList_store_into rfl 3 (.tmp 83) (.tmp 81) rfl (s + 2) 10 (.int .i64 ((k1 : Nat) : Int)) rfl rfl rfl 139 _ #[Value.int IntKind.i64 ff, Value.int IntKind.i64 dd, Value.int IntKind.u32 (nn : Nat), Value.int IntKind.u32 (la : Nat), Value.bool true, Value.int IntKind.i64 t, Value.int IntKind.i64 g, Value.int IntKind.i64 i, Value.int IntKind.i64 bb, (Value.slice A len cap), Value.int IntKind.i64 (k1 : Nat)] HG.out sizeI64 (show 10 < 11 by decide) rfl ?_))
        clear g10 y5 g2 q2
        generalize hz : wq.setRow (s + 2) _ = w5 at *
        clear hz HG HR HO HS
        have HG := HGz
        have HR := HRz
        have HO := HOz
        have HS := HSz
        clear HGz HRz HOz HSz
        obtain rfl : n1 = nn := HNE.out
        clear HNE
        have hb1 : -1099511627776 ≤ bb ∧ bb ≤ 1099511627776 := by have := HBB.out; have := HK.out; have := HM.out; omega
        refine (reflook_any t g i bb ff dd n1 la true A len cap k1 (s + 2) l w5 HG.out (HL0.out.only HO.out (fun p hp => HA.out p hp (by have := HK.out; omega))) HA.out (by have := HK.out; have := HK1.out; omega) HT.out HI.out hb1 HX.out).mono ?_
        rintro e w6 ⟨rfl, hG, hO⟩
        clear hb1
        replace HG := Shut.mk hG
        replace HR := Shut.mk (hO.at_ HR.out (by show ¬ s + 1 = s + 2; omega))
        replace HO := Shut.mk (HO.out.trans hO fun _ _ e => e)
        replace HS := Shut.mk (Nat.le_trans HS.out hO.size)
        clear hG hO
        obtain ⟨f1, hf1⟩ : ∃ f1, lookF ⟨t, g, i⟩ ff bb (l.drop k1) = f1 := ⟨_, rfl⟩
        rw [hf1] at HG
        have hbb := lookB_in (b := bb) (k := k1) HX.out
        obtain ⟨b1, hb1⟩ : ∃ b1, lookB bb (l.drop k1) = b1 := ⟨_, rfl⟩
        rw [hb1] at HG hbb
        have HBN : Shut (-1048576 * (k1 + 1 : Int) ≤ b1 ∧ b1 ≤ 1099511627776) := ⟨by have := HBB.out; have := HK1.out; omega⟩
        clear hbb
        obtain ⟨r, hr⟩ : ∃ r, lookL ⟨t, g, i⟩ ff bb (l.drop k1) = r := ⟨_, rfl⟩
        rw [hr]
        cases r
        ·have e := HE.out
         rw [drops_out HK1.out HKl.out (by show dd ≤ t; omega) hr] at e
         dsimp only at e
         rw [hf1, HM1.out, drop_is HLL.out] at e
         have HE' := Shut.mk e
         clear hr hf1 e
         obtain ⟨iw, hiw⟩ : ∃ iw, decide (k1 < len) = iw := ⟨_, rfl⟩
         rw [hiw] at HE' ⊢
         clear hiw
         have HGz := Shut.mk (setRow_heap w6 (s + 2) _ #[Value.int IntKind.i64 f1, Value.int IntKind.i64 dd, Value.int IntKind.u32 (n1 : Nat), Value.int IntKind.u32 (la : Nat), Value.bool false, Value.int IntKind.i64 t, Value.int IntKind.i64 g, Value.int IntKind.i64 i, Value.int IntKind.i64 b1, (Value.slice A len cap), Value.int IntKind.i64 (k1 : Nat)] _ (0, 0) HG.out)
         have HRz := Shut.mk ((setRow_other w6 (s + 2) (s + 1) #[Value.int IntKind.i64 f1, Value.int IntKind.i64 dd, Value.int IntKind.u32 (n1 : Nat), Value.int IntKind.u32 (la : Nat), Value.bool false, Value.int IntKind.i64 t, Value.int IntKind.i64 g, Value.int IntKind.i64 i, Value.int IntKind.i64 b1, (Value.slice A len cap), Value.int IntKind.i64 (k1 : Nat)] (by omega)).trans HR.out)
         have HOz := Shut.mk (HO.out.setRow (g := (s + 2)) (fun e => by first | rfl | omega) #[Value.int IntKind.i64 f1, Value.int IntKind.i64 dd, Value.int IntKind.u32 (n1 : Nat), Value.int IntKind.u32 (la : Nat), Value.bool false, Value.int IntKind.i64 t, Value.int IntKind.i64 g, Value.int IntKind.i64 i, Value.int IntKind.i64 b1, (Value.slice A len cap), Value.int IntKind.i64 (k1 : Nat)])
         have HSz : Shut (s + 3 ≤ (w6.setRow (s + 2) #[Value.int IntKind.i64 f1, Value.int IntKind.i64 dd, Value.int IntKind.u32 (n1 : Nat), Value.int IntKind.u32 (la : Nat), Value.bool false, Value.int IntKind.i64 t, Value.int IntKind.i64 g, Value.int IntKind.i64 i, Value.int IntKind.i64 b1, (Value.slice A len cap), Value.int IntKind.i64 (k1 : Nat)]).heap.size) := ⟨Nat.le_trans HS.out (by simp [World.setRow])⟩
         cases iw
         ·go_wp2_with (first
           | (refine wpList_store_into rfl 4 (.tmp 114) (.const (.bool false)) rfl (s + 2) 4 (.bool false) rfl rfl rfl 139 _ #[Value.int IntKind.i64 f1, Value.int IntKind.i64 dd, Value.int IntKind.u32 (n1 : Nat), Value.int IntKind.u32 (la : Nat), Value.bool false, Value.int IntKind.i64 t, Value.int IntKind.i64 g, Value.int IntKind.i64 i, Value.int IntKind.i64 b1, (Value.slice A len cap), Value.int IntKind.i64 (k1 : Nat)] HG.out sizeB (show 4 < 11 by decide) rfl ?_))
          generalize hz : w6.setRow (s + 2) _ = w7 at *
          clear hz HG HR HO HS
          have HG := HGz
          have HR := HRz
          have HO := HOz
          have HS := HSz
          clear HGz HRz HOz HSz
          go_roundw
          case rel =>
           (repeat apply Exists.intro)
           refine ⟨?_, rfl⟩
           exact ⟨k1, n1, f1, dd, b1, false, false, rfl, HG.out, HR.out, HO.out, HS.out, HN1.out, HBN.out, (fun e => by cases e), (fun _ => HE'.out.symm)⟩
          case measure => rw [measR_off HG.out, measR_on HGW.out]; omega
         ·go_wp2_with (first
           | (refine wpList_store_into rfl 4 (.tmp 114) (.const (.bool false)) rfl (s + 2) 4 (.bool false) rfl rfl rfl 139 _ #[Value.int IntKind.i64 f1, Value.int IntKind.i64 dd, Value.int IntKind.u32 (n1 : Nat), Value.int IntKind.u32 (la : Nat), Value.bool false, Value.int IntKind.i64 t, Value.int IntKind.i64 g, Value.int IntKind.i64 i, Value.int IntKind.i64 b1, (Value.slice A len cap), Value.int IntKind.i64 (k1 : Nat)] HG.out sizeB (show 4 < 11 by decide) rfl ?_))
          generalize hz : w6.setRow (s + 2) _ = w7 at *
          clear hz HG HR HO HS
          have HG := HGz
          have HR := HRz
          have HO := HOz
          have HS := HSz
          clear HGz HRz HOz HSz
          go_roundw
          case rel =>
           (repeat apply Exists.intro)
           refine ⟨?_, rfl⟩
           exact ⟨k1, n1, f1, dd, b1, false, true, rfl, HG.out, HR.out, HO.out, HS.out, HN1.out, HBN.out, (fun e => by cases e), (fun _ => HE'.out.symm)⟩
          case measure => rw [measR_off HG.out, measR_on HGW.out]; omega
        ·have e := HE.out
         rw [drops_on HK1.out HKl.out (by show dd ≤ t; omega) hr] at e
         dsimp only at e
         rw [hf1, HM1.out, hb1] at e
         have HE' := Shut.mk e
         have HKl' := Shut.mk (late_there hr)
         have hq : decide (k1 < len) = true := by have := HKl'.out; rw [HLL.out] at this; simpa using this
         rw [hq]
         clear hr hf1 e hb1 hq
         have g1 : w6.cell? ⟨s + 2, 1, none⟩ = some (.int .i64 dd) := by simpa using (block_range HG.out) 1 _ rfl
         have g2 : w6.cell? ⟨s + 2, 2, none⟩ = some (.int .u32 (n1 : Nat)) := by simpa using (block_range HG.out) 2 _ rfl
         have g7 : w6.cell? ⟨s + 2, 7, none⟩ = some (.int .i64 i) := by simpa using (block_range HG.out) 7 _ rfl
         obtain ⟨dn, hdn⟩ : ∃ dn, nextN dd i n1 = dn := ⟨_, rfl⟩
         have HDN := Shut.mk hdn
         clear hdn
         go_wp2
         go_still_tail 19, (by kernel_rfl)
         still_call (still_same (refnext_any dd i n1 _ HN1.out))
         rw [HDN.out]
         repeat still_step
         refine wpStill_nil ?_
         clear g1 g2 g7
         change wpList _ _ _ _ _ (World.drewN w6 1)
         generalize hq : World.drewN w6 1 = w7
         replace HG := Shut.mk (block_of hq HG.out)
         replace HR := Shut.mk (block_of hq HR.out)
         replace HO := Shut.mk (only_of hq HO.out)
         replace HS := Shut.mk (size_of hq HS.out)
         clear hq
         have HGz := Shut.mk (setRow_heap w7 (s + 2) _ #[Value.int IntKind.i64 f1, Value.int IntKind.i64 dn, Value.int IntKind.u32 (n1 : Nat), Value.int IntKind.u32 (la : Nat), Value.bool true, Value.int IntKind.i64 t, Value.int IntKind.i64 g, Value.int IntKind.i64 i, Value.int IntKind.i64 b1, (Value.slice A len cap), Value.int IntKind.i64 (k1 : Nat)] _ (0, 0) HG.out)
         have HRz := Shut.mk ((setRow_other w7 (s + 2) (s + 1) #[Value.int IntKind.i64 f1, Value.int IntKind.i64 dn, Value.int IntKind.u32 (n1 : Nat), Value.int IntKind.u32 (la : Nat), Value.bool true, Value.int IntKind.i64 t, Value.int IntKind.i64 g, Value.int IntKind.i64 i, Value.int IntKind.i64 b1, (Value.slice A len cap), Value.int IntKind.i64 (k1 : Nat)] (by omega)).trans HR.out)
         have HOz := Shut.mk (HO.out.setRow (g := (s + 2)) (fun e => by first | rfl | omega) #[Value.int IntKind.i64 f1, Value.int IntKind.i64 dn, Value.int IntKind.u32 (n1 : Nat), Value.int IntKind.u32 (la : Nat), Value.bool true, Value.int IntKind.i64 t, Value.int IntKind.i64 g, Value.int IntKind.i64 i, Value.int IntKind.i64 b1, (Value.slice A len cap), Value.int IntKind.i64 (k1 : Nat)])
         have HSz : Shut (s + 3 ≤ (w7.setRow (s + 2) #[Value.int IntKind.i64 f1, Value.int IntKind.i64 dn, Value.int IntKind.u32 (n1 : Nat), Value.int IntKind.u32 (la : Nat), Value.bool true, Value.int IntKind.i64 t, Value.int IntKind.i64 g, Value.int IntKind.i64 i, Value.int IntKind.i64 b1, (Value.slice A len cap), Value.int IntKind.i64 (k1 : Nat)]).heap.size) := ⟨Nat.le_trans HS.out (by simp [World.setRow])⟩
         go_wp2_with (first
          | (refine wpList_store_into rfl 2 (.tmp 133) (.tmp 130) rfl (s + 2) 1 (.int .i64 dn) rfl rfl rfl 139 _ #[Value.int IntKind.i64 f1, Value.int IntKind.i64 dn, Value.int IntKind.u32 (n1 : Nat), Value.int IntKind.u32 (la : Nat), Value.bool true, Value.int IntKind.i64 t, Value.int IntKind.i64 g, Value.int IntKind.i64 i, Value.int IntKind.i64 b1, (Value.slice A len cap), Value.int IntKind.i64 (k1 : Nat)] HG.out size64 (show 1 < 11 by decide) rfl ?_))
         generalize hz : w7.setRow (s + 2) _ = w8 at *
         clear hz HG HR HO HS
         have HG := HGz
         have HR := HRz
         have HO := HOz
         have HS := HSz
         clear HGz HRz HOz HSz
         rw [HDN.out] at HE'
         go_roundw
         case rel =>
          (repeat apply Exists.intro)
          refine ⟨?_, rfl⟩
          exact ⟨k1, n1, f1, dn, b1, true, true, rfl, HG.out, HR.out, HO.out, HS.out, HN1.out, HBN.out, fun _ => ⟨rfl, by rw [← HLL.out]; exact HKl'.out, HE'.out⟩, (fun e => by cases e)⟩
         case measure => rw [measR_on HG.out, measR_on HGW.out]; have := HK.out; have := HK1.out; omega
end Go.Proofs.YtndkmgcmegcieaaGreatDoor
