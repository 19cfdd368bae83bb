/-
  CONTRACT of Codel.look.
-/
import Derived.Test.YtndkmgcmegcieaaGreatDoorCodA
namespace Go.Proofs.YtndkmgcmegcieaaGreatDoor
open Go.ChangeShapes Go.WideShapes Go.ChangeAt Go.RowKit Go.Deep
set_option linter.unusedVariables false
set_option linter.unusedSimpArgs false
theorem size64 : (Tryz.prog.info? 2).map (·.size) = some 1 := by kernel_rfl
theorem size32 : (Tryz.prog.info? 22).map (·.size) = some 1 := by kernel_rfl
theorem sizeB : (Tryz.prog.info? 4).map (·.size) = some 1 := by kernel_rfl
theorem cd_one (f d : Int) (n l : Nat) (o : Bool) : (#[Value.int IntKind.i64 f, Value.int IntKind.i64 d, Value.int IntKind.u32 (n : Nat), Value.int IntKind.u32 (l : Nat), Value.bool o]).all (·.oneCell') = true := by simp [Value.oneCell']
theorem still_same {P : Program} {f : FuncId} {args : Array Value} {w : World} {v : Value} (h : Calls P f args w fun e w' => e = .returned v ∧ w = w') : Calls P f args w fun e w'' => e = .returned v ∧ w'' = w := h.mono fun _ _ ⟨he, hw⟩ => ⟨he, hw.symm⟩
set_option maxRecDepth 100000 in
set_option maxHeartbeats 8000000 in
theorem look_any (t g i b f d : Int) (n la : Nat) (o : Bool) (A : Option Addr) (len cap k h : Nat) (l : List It) (w0 : World) (hg : w0.heap[h]? = some (Obj.cells #[Value.int IntKind.i64 t, Value.int IntKind.i64 g, Value.int IntKind.i64 i, Value.int IntKind.i64 (max b 0), Value.slice A len cap, Value.int IntKind.i64 ((k : Nat) : Int)] 151 (0, 0))) (hl : RowS itC 2 it00 w0 A len l) (hA : ∀ p, A = some p → 0 < len → p.block ≠ h) (hk : k ≤ len)
 (ht : 0 ≤ t ∧ t ≤ 4503599627370496) (hi : 0 ≤ i ∧ i ≤ 1073741824) (hb : -1099511627776 ≤ b ∧ b ≤ 1099511627776) (hx : ∀ x ∈ l, 0 ≤ x.at_ ∧ x.at_ ≤ 4503599627370496 ∧ x.len ≤ 1048576) :
 Calls Tryz.prog 95 #[(Value.agg #[Value.int IntKind.i64 f, Value.int IntKind.i64 d, Value.int IntKind.u32 ((n : Nat) : Int), Value.int IntKind.u32 ((la : Nat) : Int), Value.bool o]), .pointer (some ⟨h, 0, none⟩)] w0 fun e w' => e = .returned (.tuple #[(Value.agg #[Value.int IntKind.i64 (lookF ⟨t, g, i⟩ f b (l.drop k)), Value.int IntKind.i64 d, Value.int IntKind.u32 ((n : Nat) : Int), Value.int IntKind.u32 ((la : Nat) : Int), Value.bool o]), .bool (lookL ⟨t, g, i⟩ f b (l.drop k))]) ∧
  w'.heap[h]? = some (Obj.cells #[Value.int IntKind.i64 t, Value.int IntKind.i64 g, Value.int IntKind.i64 i, Value.int IntKind.i64 (max (lookB b (l.drop k)) 0), Value.slice A len cap, Value.int IntKind.i64 ((k : Nat) : Int)] 151 (0, 0)) ∧ Only (· = h) w0 w' := by
 have H0 := Shut.mk (two_alloc w0 (Obj.cells #[Value.int IntKind.i64 f, Value.int IntKind.i64 d, Value.int IntKind.u32 (n : Nat), Value.int IntKind.u32 (la : Nat), Value.bool o] 92 (0, 0)) (Obj.cells #[Value.int IntKind.i64 0, Value.int IntKind.i64 0, Value.int IntKind.u32 0, Value.int IntKind.u32 0, Value.bool false] 92 (0, 0)))
 have hh : h < w0.heap.size := lt_blk hg
 have HX := Shut.mk hx
 have HA := Shut.mk hA
 have HT := Shut.mk ht
 have HB := Shut.mk hb
 have HK := Shut.mk hk
 have HG1 := Shut.mk ((H0.out.1.block h hh).trans hg)
 have HL1 := Shut.mk (hl.below H0.out.1)
 clear hx hA ht hb hk hg hl
 go_enter Tryz.func95, Tryz.ntmps95
 go_wp2_with (fail)
 generalize (w0.alloc _).alloc _ = w1 at *
 refine (reach_any t g i b A len cap k h l w1 HG1.out HL1.out HA.out HK.out HT.out HB.out HX.out).mono ?_
 rintro e w2 ⟨rfl, hG, hO⟩
 have HG2 := Shut.mk hG
 have HO2 := Shut.mk ((Only.of_quiet (S := (· = h)) H0.out.1).trans hO fun _ _ e => e)
 have HT2 := Shut.mk (hO.at_ H0.out.2.1 (by show ¬ _ = _; omega))
 have HR2 := Shut.mk (hO.at_ H0.out.2.2.1 (by show ¬ _ = _; omega))
 have hs : w1.heap.size = w0.heap.size + 2 := H0.out.2.2.2
 have hs2 : w0.heap.size + 2 ≤ w2.heap.size := by rw [← hs]; exact hO.size
 clear hG hO H0 HG1 HL1 hs
 generalize hs0 : w0.heap.size = s at *
 obtain ⟨r, hr⟩ : ∃ r, reachB ⟨t, g, i⟩ b (l.drop k) = r := ⟨_, rfl⟩
 rw [hr]
 cases r
 ·have HN := Shut.mk (look_no (f := f) hr)
  clear hr
  have HT3 := Shut.mk (setRow_heap w2 s _ #[Value.int IntKind.i64 0, Value.int IntKind.i64 d, Value.int IntKind.u32 (n : Nat), Value.int IntKind.u32 (la : Nat), Value.bool o] _ (0, 0) HT2.out)
  have HR3 := Shut.mk ((setRow_other w2 s (s + 1) #[Value.int IntKind.i64 0, Value.int IntKind.i64 d, Value.int IntKind.u32 (n : Nat), Value.int IntKind.u32 (la : Nat), Value.bool o] (by omega)).trans HR2.out)
  have HG3 := Shut.mk ((setRow_other w2 s h #[Value.int IntKind.i64 0, Value.int IntKind.i64 d, Value.int IntKind.u32 (n : Nat), Value.int IntKind.u32 (la : Nat), Value.bool o] (by omega)).trans HG2.out)
  have HO3 := Shut.mk (HO2.out.setRow (g := s) (fun e => by omega) #[Value.int IntKind.i64 0, Value.int IntKind.i64 d, Value.int IntKind.u32 (n : Nat), Value.int IntKind.u32 (la : Nat), Value.bool o])
  go_wp2_with (first
   | (refine wpList_store_into rfl 2 (.tmp 18) (.const (.int .i64 0)) rfl s 0 (.int .i64 0) rfl rfl rfl 92 _ #[Value.int IntKind.i64 0, Value.int IntKind.i64 d, Value.int IntKind.u32 (n : Nat), Value.int IntKind.u32 (la : Nat), Value.bool o] HT2.out size64 (show 0 < 5 by decide) rfl ?_)
   | (refine wpList_load_row rfl 92 (.tmp 2) rfl s rfl 92 #[Value.int IntKind.i64 0, Value.int IntKind.i64 d, Value.int IntKind.u32 (n : Nat), Value.int IntKind.u32 (la : Nat), Value.bool o] (0, 0) _ HT3.out Tryz.underlying92 rfl size1 ?_)
   | (refine wpList_store_row rfl 92 (.tmp 4) (.tmp 34) rfl (s + 1) #[Value.int IntKind.i64 0, Value.int IntKind.i64 d, Value.int IntKind.u32 (n : Nat), Value.int IntKind.u32 (la : Nat), Value.bool o] rfl rfl 92 _ HR3.out size1 rfl (cd_one _ _ _ _ _) ?_))
  generalize w2.setRow s _ = w3 at *
  have HR4 := Shut.mk (setRow_heap w3 (s + 1) _ #[Value.int IntKind.i64 0, Value.int IntKind.i64 d, Value.int IntKind.u32 (n : Nat), Value.int IntKind.u32 (la : Nat), Value.bool o] _ (0, 0) HR3.out)
  have HG4 := Shut.mk ((setRow_other w3 (s + 1) h #[Value.int IntKind.i64 0, Value.int IntKind.i64 d, Value.int IntKind.u32 (n : Nat), Value.int IntKind.u32 (la : Nat), Value.bool o] (by omega)).trans HG3.out)
  have HO4 := Shut.mk (HO3.out.setRow (g := s + 1) (fun e => by omega) #[Value.int IntKind.i64 0, Value.int IntKind.i64 d, Value.int IntKind.u32 (n : Nat), Value.int IntKind.u32 (la : Nat), Value.bool o])
  rw [HN.out.1, HN.out.2]
  exact bodyPost_ret (v := .tuple #[(Value.agg #[Value.int IntKind.i64 0, Value.int IntKind.i64 d, Value.int IntKind.u32 ((n : Nat) : Int), Value.int IntKind.u32 ((la : Nat) : Int), Value.bool o]), .bool false]) (results_c1 (p := 4) (q := 5) Tryz.results95 _ _ (s + 1) _ _ _ _ _ rfl rfl HR4.out Tryz.underlying92 rfl size1) rfl ⟨rfl, HG4.out, HO4.out⟩
 ·rcases Decidable.em (f = 0) with hf | hf
  ·obtain ⟨u, hu⟩ : ∃ u : Int, t - -i = u := ⟨_, rfl⟩
   have HN : Shut (lookF ⟨t, g, i⟩ f b (l.drop k) = u ∧ lookL ⟨t, g, i⟩ f b (l.drop k) = false) := ⟨by
    have e := look_new hr hf
    refine ⟨e.1.trans ?_, e.2⟩
    show t + i = u
    omega⟩
   clear hr
   have g0 : w2.cell? ⟨h, 0, none⟩ = some (.int .i64 t) := (block_range HG2.out) 0 _ rfl
   have g2 : w2.cell? ⟨h, 2, none⟩ = some (.int .i64 i) := by simpa using (block_range HG2.out) 2 _ rfl
   have s0 : w2.cell? ⟨s, 0, none⟩ = some (.int .i64 f) := by simpa using (block_range HT2.out) 0 _ rfl
   have hq : (f == 0) = true := by simpa using hf
   have y1 : IntKind.i64.wrap (-i) = -i := IntWalk.i64_in _ ⟨by omega, by omega⟩
   go_wp2
   go_still_tail 11, (by kernel_rfl)
   still_call (still_same (less_any t (-i) _ HT.out ⟨by omega, by omega⟩))
   rw [hu]
   repeat still_step
   refine wpStill_nil ?_
   clear s0 g0 g2 hq hf y1 hu
   change wpList _ _ _ _ _ w2.drew
   replace HG2 : Shut (w2.drew.heap[h]? = _) := ⟨HG2.out⟩
   replace HT2 : Shut (w2.drew.heap[s]? = _) := ⟨HT2.out⟩
   replace HR2 : Shut (w2.drew.heap[s + 1]? = _) := ⟨HR2.out⟩
   replace HO2 := Shut.mk (HO2.out.drew 1)
   change Shut (Only _ _ w2.drew) at HO2
   generalize w2.drew = wd at *
   have HT3 := Shut.mk (setRow_heap wd s _ #[Value.int IntKind.i64 u, Value.int IntKind.i64 d, Value.int IntKind.u32 (n : Nat), Value.int IntKind.u32 (la : Nat), Value.bool o] _ (0, 0) HT2.out)
   have HR3 := Shut.mk ((setRow_other wd s (s + 1) #[Value.int IntKind.i64 u, Value.int IntKind.i64 d, Value.int IntKind.u32 (n : Nat), Value.int IntKind.u32 (la : Nat), Value.bool o] (by omega)).trans HR2.out)
   have HG3 := Shut.mk ((setRow_other wd s h #[Value.int IntKind.i64 u, Value.int IntKind.i64 d, Value.int IntKind.u32 (n : Nat), Value.int IntKind.u32 (la : Nat), Value.bool o] (by omega)).trans HG2.out)
   have HO3 := Shut.mk (HO2.out.setRow (g := s) (fun e => by omega) #[Value.int IntKind.i64 u, Value.int IntKind.i64 d, Value.int IntKind.u32 (n : Nat), Value.int IntKind.u32 (la : Nat), Value.bool o])
   go_wp2_with (first
    | (refine wpList_store_into rfl 2 (.tmp 33) (.tmp 32) rfl s 0 (.int .i64 u) rfl rfl rfl 92 _ #[Value.int IntKind.i64 u, Value.int IntKind.i64 d, Value.int IntKind.u32 (n : Nat), Value.int IntKind.u32 (la : Nat), Value.bool o] HT2.out size64 (show 0 < 5 by decide) rfl ?_)
    | (refine wpList_load_row rfl 92 (.tmp 2) rfl s rfl 92 #[Value.int IntKind.i64 u, Value.int IntKind.i64 d, Value.int IntKind.u32 (n : Nat), Value.int IntKind.u32 (la : Nat), Value.bool o] (0, 0) _ HT3.out Tryz.underlying92 rfl size1 ?_)
    | (refine wpList_store_row rfl 92 (.tmp 4) (.tmp 34) rfl (s + 1) #[Value.int IntKind.i64 u, Value.int IntKind.i64 d, Value.int IntKind.u32 (n : Nat), Value.int IntKind.u32 (la : Nat), Value.bool o] rfl rfl 92 _ HR3.out size1 rfl (cd_one _ _ _ _ _) ?_))
   generalize wd.setRow s _ = w3 at *
   have HR4 := Shut.mk (setRow_heap w3 (s + 1) _ #[Value.int IntKind.i64 u, Value.int IntKind.i64 d, Value.int IntKind.u32 (n : Nat), Value.int IntKind.u32 (la : Nat), Value.bool o] _ (0, 0) HR3.out)
   have HG4 := Shut.mk ((setRow_other w3 (s + 1) h #[Value.int IntKind.i64 u, Value.int IntKind.i64 d, Value.int IntKind.u32 (n : Nat), Value.int IntKind.u32 (la : Nat), Value.bool o] (by omega)).trans HG3.out)
   have HO4 := Shut.mk (HO3.out.setRow (g := s + 1) (fun e => by omega) #[Value.int IntKind.i64 u, Value.int IntKind.i64 d, Value.int IntKind.u32 (n : Nat), Value.int IntKind.u32 (la : Nat), Value.bool o])
   rw [HN.out.1, HN.out.2]
   exact bodyPost_ret (v := .tuple #[(Value.agg #[Value.int IntKind.i64 u, Value.int IntKind.i64 d, Value.int IntKind.u32 ((n : Nat) : Int), Value.int IntKind.u32 ((la : Nat) : Int), Value.bool o]), .bool false]) (results_c1 (p := 4) (q := 5) Tryz.results95 _ _ (s + 1) _ _ _ _ _ rfl rfl HR4.out Tryz.underlying92 rfl size1) rfl ⟨rfl, HG4.out, HO4.out⟩
  ·have HN := Shut.mk (look_old hr hf)
   clear hr
   have g0 : w2.cell? ⟨h, 0, none⟩ = some (.int .i64 t) := (block_range HG2.out) 0 _ rfl
   have g2 : w2.cell? ⟨h, 2, none⟩ = some (.int .i64 i) := by simpa using (block_range HG2.out) 2 _ rfl
   have s0 : w2.cell? ⟨s, 0, none⟩ = some (.int .i64 f) := by simpa using (block_range HT2.out) 0 _ rfl
   have hq : (f == 0) = false := by simpa using hf
   go_wp2
   refine wp_region_held_drew (S := fun w' => Only (· = s + 1) w2 w') (by kernel_rfl) ((Only.refl _ _).drew 1) (fun hHeld => ?_)
   refine wpAnyH_take (i := 0) (v := .agg #[Value.int IntKind.i64 f, Value.int IntKind.i64 d, Value.int IntKind.u32 (n : Nat), Value.int IntKind.u32 (la : Nat), Value.bool o]) rfl (by kernel_rfl) (by kernel_rfl) (by kernel_rfl) (fun _ _ _ h => h) (yieldsIf_load_mid (by rfl) 92 (.tmp 2) rfl s (0) rfl (#[Value.int IntKind.i64 f, Value.int IntKind.i64 d, Value.int IntKind.u32 (n : Nat), Value.int IntKind.u32 (la : Nat), Value.bool o]).toList _ (fun w' hw' => hw'.range (block_range HT2.out) (by show ¬ _ = _; omega)) Tryz.underlying92 rfl size1) (by assumption) ?_
   try simp only [Act.put, sG1, sG2, sG3, sG4, sG5, sG6]
   refine hP 1 ?_
   refine hP 2 ?_
   refine hP 3 ?_
   refine wpAnyH_take (i := 4) (v := ?_) rfl (by kernel_rfl) (by kernel_rfl) (by kernel_rfl) (fun _ _ _ h => h) (Or.inl ⟨by rfl, ?_⟩) (by assumption) ?_
   rotate_left
   ·intro w hSw
    have q := hSw.cell g0 (by show ¬ h = s + 1; omega)
    clear hSw
    go_simp
    try with_reducible rfl
   try simp only [Act.put, sG1, sG2, sG3, sG4, sG5, sG6]
   refine hP 5 ?_
   refine wpAnyH_take (i := 6) (v := ?_) rfl (by kernel_rfl) (by kernel_rfl) (by kernel_rfl) (fun _ _ _ h => h) (Or.inl ⟨by rfl, ?_⟩) (by assumption) ?_
   rotate_left
   ·intro w hSw
    have q := hSw.cell s0 (by show ¬ s = s + 1; omega)
    clear hSw
    go_simp
    try with_reducible rfl
   try simp only [Act.put, sG1, sG2, sG3, sG4, sG5, sG6]
   refine hP 7 ?_
   clear hHeld s0 g0 g2 hq hf
   replace HG2 : Shut (w2.drew.heap[h]? = _) := ⟨HG2.out⟩
   replace HT2 : Shut (w2.drew.heap[s]? = _) := ⟨HT2.out⟩
   replace HR3 : Shut (w2.drew.heap[s + 1]? = _) := ⟨HR2.out⟩
   have HG3 := HG2
   have HO3 : Shut (Only (· = h) w0 w2.drew) := ⟨HO2.out.drew 1⟩
   have HQ3 : Shut (Only (· = s + 1) w2 w2.drew) := ⟨(Only.refl _ _).drew 1⟩
   generalize hwd : w2.drew = wd at *
   refine wpAnyH_ready (rs := [8]) (by kernel_rfl) (by simp) ?_
   refine AllReadyH.cons rfl (fun K hK => ?_) AllReadyH.nil
   rw [if_pos (by rfl)]
   refine wp_store_row 92 (.tmp 4) (.tmp 6) rfl (s + 1) #[Value.int IntKind.i64 f, Value.int IntKind.i64 d, Value.int IntKind.u32 (n : Nat), Value.int IntKind.u32 (la : Nat), Value.bool o] rfl rfl 92 _ HR3.out size1 rfl (cd_one _ _ _ _ _) ?_
   refine hK.out _ _ (HQ3.out.setRow (g := s + 1) (fun _ => rfl) #[Value.int IntKind.i64 f, Value.int IntKind.i64 d, Value.int IntKind.u32 (n : Nat), Value.int IntKind.u32 (la : Nat), Value.bool o]) (fun hHeld => ?_)
   clear hK K
   try simp only [Act.put, sG1, sG2, sG3, sG4, sG5, sG6]
   refine hP 9 ?_
   refine wpAnyH_done (by kernel_rfl) ?_ _
   try simp only [Act.put, sG1, sG2, sG3, sG4, sG5, sG6]
   go_wp2
   have HR4 := Shut.mk (setRow_heap wd (s + 1) _ #[Value.int IntKind.i64 f, Value.int IntKind.i64 d, Value.int IntKind.u32 (n : Nat), Value.int IntKind.u32 (la : Nat), Value.bool o] _ (0, 0) HR3.out)
   have HG4 := Shut.mk ((setRow_other wd (s + 1) h #[Value.int IntKind.i64 f, Value.int IntKind.i64 d, Value.int IntKind.u32 (n : Nat), Value.int IntKind.u32 (la : Nat), Value.bool o] (by omega)).trans HG3.out)
   have HO4 := Shut.mk (HO3.out.setRow (g := s + 1) (fun e => by omega) #[Value.int IntKind.i64 f, Value.int IntKind.i64 d, Value.int IntKind.u32 (n : Nat), Value.int IntKind.u32 (la : Nat), Value.bool o])
   rw [HN.out.1, HN.out.2]
   exact bodyPost_ret (v := .tuple #[(Value.agg #[Value.int IntKind.i64 f, Value.int IntKind.i64 d, Value.int IntKind.u32 ((n : Nat) : Int), Value.int IntKind.u32 ((la : Nat) : Int), Value.bool o]), .bool (decide (f ≤ t))]) (results_c1 (p := 4) (q := 5) Tryz.results95 _ _ (s + 1) _ _ _ _ _ rfl rfl HR4.out Tryz.underlying92 rfl size1) rfl ⟨rfl, HG4.out, HO4.out⟩
end Go.Proofs.YtndkmgcmegcieaaGreatDoor
