/-
  CONTRACT of Codel.Pull.
-/
import Derived.Test.YtndkmgcmegcieaaGreatDoorCodD
namespace Go.Proofs.YtndkmgcmegcieaaGreatDoor
open Go.ChangeShapes Go.WideShapes Go.ChangeAt Go.RowKit Go.Deep
set_option linter.unusedVariables false
set_option linter.unusedSimpArgs false
theorem three_alloc (w : World) (a b c : Obj) : Below w.heap.size w (((w.alloc a).alloc b).alloc c) ∧ (((w.alloc a).alloc b).alloc c).heap[w.heap.size]? = some a ∧ (((w.alloc a).alloc b).alloc c).heap[w.heap.size + 1]? = some b ∧
 (((w.alloc a).alloc b).alloc c).heap[w.heap.size + 2]? = some c ∧ (((w.alloc a).alloc b).alloc c).heap.size = w.heap.size + 3 := by
 obtain ⟨h0, h1, h2, h3⟩ := two_alloc w a b
 generalize (w.alloc a).alloc b = w2 at *
 have hb := (Below.refl _ w2).alloc (Nat.le_refl _) c
 refine ⟨h0.alloc (by omega) c, (hb.block _ (by omega)).trans h1, (hb.block _ (by omega)).trans h2, by rw [← h3]; exact heap_alloc_last _ _, by simp [h3]⟩
theorem pull_no {q : Pl} {c : Cd} {b : Int} {l : List It} (h : lookL q c.first b l = false) : pullR q c b l = (⟨lookF q c.first b l, c.drop, c.count, c.last, false⟩, 0, decide (0 < l.length)) := by
 cases l with
 | nil => rfl
 | cons x r =>
  unfold pullR
  rw [if_neg (by simp)]
  have h' : ¬ lookL q c.first b (x :: r) = true := by rw [h]; decide
  split
  ·simp
  ·simp
theorem pull_on {q : Pl} {c : Cd} {b : Int} {l : List It} (h : lookL q c.first b l = true) (hc : c.on = true) : pullR q c b l = dropsR q 0 ⟨lookF q c.first b l, c.drop, c.count, c.last, true⟩ (lookB b l) l := by
 have hl : l ≠ [] := (look_late h).1
 unfold pullR
 rw [if_neg (by simpa using hl), if_pos hc, if_pos h]
theorem pull_begins {q : Pl} {c : Cd} {b : Int} {l : List It} (h : lookL q c.first b l = true) (hc : c.on = false) :
 pullR q c b l = (⟨lookF q (lookF q c.first b l) (lookB b l) (l.drop 1), nextN q.now q.interval (begins q c), begins q c, begins q c, true⟩, 1, decide (1 < l.length)) := by
 have hl : l ≠ [] := (look_late h).1
 unfold pullR
 rw [if_neg (by simpa using hl), if_neg (by rw [hc]; decide), if_pos h]
 cases l with
 | nil => exact absurd rfl hl
 | cons x r => cases r <;> simp
theorem drops_is {q : Pl} {c : Cd} {b : Int} {l : List It} (hl : l ≠ []) : (dropsR q 0 c b l).2.2 = decide ((dropsR q 0 c b l).2.1 < l.length) := by
 obtain ⟨-, -, h3, h4⟩ := drops_bound q l 0 c b hl
 cases h : (dropsR q 0 c b l).2.2
 ·have := (h4 h).1
  simp; omega
 ·have := h3 h
  simp; omega
set_option maxRecDepth 100000 in
set_option maxHeartbeats 8000000 in
theorem pull_any (t tg iv b f d : Int) (n la : Nat) (o : Bool) (A : Option Addr) (len cap : Nat) (l : List It) (w0 : World) (hl : RowS itC 2 it00 w0 A len l) (hlen : len ≤ 1000)
 (ht : 0 ≤ t ∧ t ≤ 4503599627370496) (hb : 0 ≤ b ∧ b ≤ 1099511627776) (hx : ∀ x ∈ l, 0 ≤ x.at_ ∧ x.at_ ≤ 4503599627370496 ∧ x.len ≤ 1048576) (hn : n < 4294967296) (hla : la < 4294967296) (hd : 0 ≤ d ∧ d ≤ 4503599627370496)
 (R : Cd × Nat × Bool) (hR : pullR ⟨t, clampR tg 0 1073741824, clampR iv 0 1073741824⟩ ⟨f, d, n, la, o⟩ b l = R) :
 Calls Tryz.prog 86 #[(Value.agg #[Value.int IntKind.i64 f, Value.int IntKind.i64 d, Value.int IntKind.u32 ((n : Nat) : Int), Value.int IntKind.u32 ((la : Nat) : Int), Value.bool o]), .int .i64 t, .int .i64 tg, .int .i64 iv, .int .i64 b, .slice A len cap] w0 fun e w' =>
  e = .returned (.tuple #[(Value.agg #[Value.int IntKind.i64 R.1.first, Value.int IntKind.i64 R.1.drop, Value.int IntKind.u32 ((R.1.count : Nat) : Int), Value.int IntKind.u32 ((R.1.last : Nat) : Int), Value.bool R.1.on]), .int .i64 (R.2.1 : Nat), .bool R.2.2]) ∧ Below w0.heap.size w0 w' := by
 obtain ⟨g, hg⟩ : ∃ g, clampR tg 0 1073741824 = g := ⟨_, rfl⟩
 obtain ⟨i, hi⟩ : ∃ i, clampR iv 0 1073741824 = i := ⟨_, rfl⟩
 rw [hg, hi] at hR
 have HI : Shut (0 ≤ i ∧ i ≤ 1073741824) := ⟨by rw [← hi]; exact clamp_in (by decide)⟩
 have HP := Shut.mk hR
 have hbm : max b 0 = b := by omega
 have hbi : (if b < 0 then 0 else b) = b := by rw [if_neg]; omega
 have H0 := Shut.mk (three_alloc w0 (Obj.cells #[Value.int IntKind.i64 f, Value.int IntKind.i64 d, Value.int IntKind.u32 (n : Nat), Value.int IntKind.u32 (la : Nat), Value.bool o] 92 (0, 0)) (Obj.cells #[Value.int IntKind.i64 0, Value.int IntKind.i64 0, Value.int IntKind.u32 0, Value.int IntKind.u32 0, Value.bool false] 92 (0, 0)) (Obj.cells #[Value.int IntKind.i64 t, Value.int IntKind.i64 g, Value.int IntKind.i64 i, Value.int IntKind.i64 b, Value.slice A len cap, Value.int IntKind.i64 0] 151 (0, 0)))
 have HX := Shut.mk hx
 have HT := Shut.mk ht
 have HB := Shut.mk hb
 have HM := Shut.mk hlen
 have HN := Shut.mk hn
 have HLA := Shut.mk hla
 have HD := Shut.mk hd
 have HGC := Shut.mk hg
 have HIC := Shut.mk hi
 have HLL := Shut.mk hl.len
 have HL0 := Shut.mk hl
 have HA : Shut (∀ p, A = some p → 0 < len → p.block ≠ w0.heap.size + 2) := ⟨fun p e h0 => by
  obtain ⟨b0, off, e2, hr⟩ := hl.el 0 h0
  rw [e] at e2
  cases e2
  have := cell_lt' (hr 0 _ rfl)
  show b0 ≠ _
  dsimp only at this
  omega⟩
 clear hx ht hb hlen hn hla hd hg hi hl hR
 go_enter Tryz.func86, Tryz.ntmps86
 go_wp2_with (fail)
 refine (cut_any tg _).mono ?_
 rintro e w1 ⟨rfl, rfl⟩
 rw [HGC.out]
 go_wp2_with (fail)
 refine (cut_any iv _).mono ?_
 rintro e w1 ⟨rfl, rfl⟩
 rw [HIC.out]
 go_wp2_with (fail)
 rw [show w0.heap.size + 1 + 1 = w0.heap.size + 2 from rfl]
 have HG := Shut.mk H0.out.2.2.2.1
 have HTT := Shut.mk H0.out.2.1
 have HR := Shut.mk H0.out.2.2.1
 have HO := Shut.mk (Only.of_quiet (S := (· = w0.heap.size + 2)) H0.out.1)
 have HS := Shut.mk (Nat.le_of_eq H0.out.2.2.2.2.symm)
 have HL1 := Shut.mk (HL0.out.below H0.out.1)
 clear H0 hbi
 generalize hw : ((w0.alloc _).alloc _).alloc _ = w1 at *
 clear hw
 generalize hs0 : w0.heap.size = s at *
 refine (look_any t g i b f d n la o A len cap 0 (s + 2) l w1 (by rw [hbm]; exact HG.out) HL1.out HA.out (Nat.zero_le _) HT.out HI.out (by have := HB.out; omega) HX.out).mono ?_
 rintro e w2 ⟨rfl, hG, hO⟩
 rw [List.drop_zero] at hG ⊢
 obtain ⟨f1, hf1⟩ : ∃ f1, lookF ⟨t, g, i⟩ f b l = f1 := ⟨_, rfl⟩
 rw [hf1]
 obtain ⟨b1, hb1⟩ : ∃ b1, lookB b l = b1 := ⟨_, rfl⟩
 rw [hb1] at hG
 replace HG := Shut.mk hG
 replace HTT := Shut.mk (hO.at_ HTT.out (by show ¬ s = s + 2; omega))
 replace HR := Shut.mk (hO.at_ HR.out (by show ¬ s + 1 = s + 2; omega))
 replace HO := Shut.mk (HO.out.trans hO fun _ _ e => e)
 replace HS := Shut.mk (Nat.le_trans HS.out hO.size)
 clear hG hO HL1 hbm
 have HBB : Shut (-1048576 ≤ b1 ∧ b1 ≤ 1099511627776) := ⟨by
  have e := lookB_in (b := b) (k := 0) HX.out
  rw [List.drop_zero, hb1] at e
  have := HB.out
  omega⟩
 obtain ⟨r, hr⟩ : ∃ r, lookL ⟨t, g, i⟩ f b l = r := ⟨_, rfl⟩
 rw [hr]
 cases r
 ·have HR1 := Shut.mk (HP.out.symm.trans (pull_no (c := ⟨f, d, n, la, o⟩) hr))
  dsimp only at HR1
  rw [hf1] at HR1
  clear hr hf1 HP
  have HGz := Shut.mk ((setRow_other w2 s (s + 2) #[Value.int IntKind.i64 f1, Value.int IntKind.i64 d, Value.int IntKind.u32 (n : Nat), Value.int IntKind.u32 (la : Nat), Value.bool o] (by omega)).trans HG.out)
  have HTTz := Shut.mk (setRow_heap w2 s _ #[Value.int IntKind.i64 f1, Value.int IntKind.i64 d, Value.int IntKind.u32 (n : Nat), Value.int IntKind.u32 (la : Nat), Value.bool o] _ (0, 0) HTT.out)
  have HRz := Shut.mk ((setRow_other w2 s (s + 1) #[Value.int IntKind.i64 f1, Value.int IntKind.i64 d, Value.int IntKind.u32 (n : Nat), Value.int IntKind.u32 (la : Nat), Value.bool o] (by omega)).trans HR.out)
  have HOz := Shut.mk (HO.out.setRow (g := s) (fun e => by first | rfl | omega) #[Value.int IntKind.i64 f1, Value.int IntKind.i64 d, Value.int IntKind.u32 (n : Nat), Value.int IntKind.u32 (la : Nat), Value.bool o])
  have HSz : Shut (s + 3 ≤ (w2.setRow s #[Value.int IntKind.i64 f1, Value.int IntKind.i64 d, Value.int IntKind.u32 (n : Nat), Value.int IntKind.u32 (la : Nat), Value.bool o]).heap.size) := ⟨Nat.le_trans HS.out (by simp [World.setRow])⟩
  go_wp2_with (first
   | (refine wpList_store_row rfl 92 (.tmp 6) (.tmp 32) rfl s #[Value.int IntKind.i64 f1, Value.int IntKind.i64 d, Value.int IntKind.u32 (n : Nat), Value.int IntKind.u32 (la : Nat), Value.bool o] rfl rfl 92 _ HTT.out size1 rfl (cd_one _ _ _ _ _) ?_)
   | (refine wpList_load_row rfl 92 (.tmp 6) rfl s rfl 92 #[Value.int IntKind.i64 f1, Value.int IntKind.i64 d, Value.int IntKind.u32 (n : Nat), Value.int IntKind.u32 (la : Nat), Value.bool o] (0, 0) _ HTTz.out Tryz.underlying92 rfl size1 ?_))
  generalize hz : w2.setRow s _ = w3 at *
  clear hz HG HTT HR HO HS
  have HG := HGz
  have HTT := HTTz
  have HR := HRz
  have HO := HOz
  have HS := HSz
  clear HGz HTTz HRz HOz HSz
  refine (stop_any f1 d n la o _ w3).mono ?_
  rintro e w4 ⟨rfl, hB⟩
  replace HG := Shut.mk ((hB.block (s + 2) (by have := HS.out; omega)).trans HG.out)
  replace HTT := Shut.mk ((hB.block s (by have := HS.out; omega)).trans HTT.out)
  replace HR := Shut.mk ((hB.block (s + 1) (by have := HS.out; omega)).trans HR.out)
  replace HO := Shut.mk (HO.out.then_quiet hB)
  replace HS := Shut.mk (Nat.le_trans HS.out hB.size)
  clear hB
  have HGz := Shut.mk ((setRow_other w4 s (s + 2) #[Value.int IntKind.i64 f1, Value.int IntKind.i64 d, Value.int IntKind.u32 (n : Nat), Value.int IntKind.u32 (la : Nat), Value.bool false] (by omega)).trans HG.out)
  have HTTz := Shut.mk (setRow_heap w4 s _ #[Value.int IntKind.i64 f1, Value.int IntKind.i64 d, Value.int IntKind.u32 (n : Nat), Value.int IntKind.u32 (la : Nat), Value.bool false] _ (0, 0) HTT.out)
  have HRz := Shut.mk ((setRow_other w4 s (s + 1) #[Value.int IntKind.i64 f1, Value.int IntKind.i64 d, Value.int IntKind.u32 (n : Nat), Value.int IntKind.u32 (la : Nat), Value.bool false] (by omega)).trans HR.out)
  have HOz := Shut.mk (HO.out.setRow (g := s) (fun e => by first | rfl | omega) #[Value.int IntKind.i64 f1, Value.int IntKind.i64 d, Value.int IntKind.u32 (n : Nat), Value.int IntKind.u32 (la : Nat), Value.bool false])
  have HSz : Shut (s + 3 ≤ (w4.setRow s #[Value.int IntKind.i64 f1, Value.int IntKind.i64 d, Value.int IntKind.u32 (n : Nat), Value.int IntKind.u32 (la : Nat), Value.bool false]).heap.size) := ⟨Nat.le_trans HS.out (by simp [World.setRow])⟩
  go_upto_region 9 with (first
   | (refine wpList_store_row rfl 92 (.tmp 6) (.tmp 45) rfl s #[Value.int IntKind.i64 f1, Value.int IntKind.i64 d, Value.int IntKind.u32 (n : Nat), Value.int IntKind.u32 (la : Nat), Value.bool false] rfl rfl 92 _ HTT.out size1 rfl (cd_one _ _ _ _ _) ?_))
  generalize hz : w4.setRow s _ = w5 at *
  clear hz HG HTT HR HO HS
  have HG := HGz
  have HTT := HTTz
  have HR := HRz
  have HO := HOz
  have HS := HSz
  clear HGz HTTz HRz HOz HSz
  have g5 : w5.cell? ⟨s + 2, 5, none⟩ = some (.int .i64 (0 : Nat)) := by simpa using (block_range HG.out) 5 _ rfl
  have g4 : w5.cell? ⟨s + 2, 4, none⟩ = some (.slice A len cap) := by simpa using (block_range HG.out) 4 _ rfl
  go_wp2
  refine wp_region_held_drew (S := fun w' => Only (· = s + 1) w5 w') (by kernel_rfl) ((Only.refl _ _).drew 1) (fun hHeld => ?_)
  refine wpAnyH_take (i := 0) (v := .agg #[Value.int IntKind.i64 f1, Value.int IntKind.i64 d, Value.int IntKind.u32 (n : Nat), Value.int IntKind.u32 (la : Nat), Value.bool false]) rfl (by kernel_rfl) (by kernel_rfl) (by kernel_rfl) (fun _ _ _ h => h) (yieldsIf_load_mid (by rfl) 92 (.tmp 6) rfl s (0) rfl (#[Value.int IntKind.i64 f1, Value.int IntKind.i64 d, Value.int IntKind.u32 (n : Nat), Value.int IntKind.u32 (la : Nat), Value.bool false]).toList _ (fun w' hw' => hw'.range (block_range HTT.out) (by show ¬ s = s + 1; omega)) Tryz.underlying92 rfl size1) (by assumption) ?_
  try simp only [Act.put, sG1, sG2, sG3, sG4, sG5, sG6]
  refine hP 1 ?_
  refine hP 2 ?_
  refine hP 3 ?_
  refine wpAnyH_take (i := 4) (v := ?_) rfl (by kernel_rfl) (by kernel_rfl) (by kernel_rfl) (fun _ _ _ h => h) (Or.inl ⟨by rfl, ?_⟩) (by assumption) ?_
  rotate_left
  ·intro w hSw
   have q := hSw.cell g5 (by show ¬ s + 2 = s + 1; omega)
   clear hSw
   go_simp
   try with_reducible rfl
  try simp only [Act.put, sG1, sG2, sG3, sG4, sG5, sG6]
  refine hP 5 ?_
  refine hP 6 ?_
  refine hP 7 ?_
  refine wpAnyH_take (i := 8) (v := ?_) rfl (by kernel_rfl) (by kernel_rfl) (by kernel_rfl) (fun _ _ _ h => h) (Or.inl ⟨by rfl, ?_⟩) (by assumption) ?_
  rotate_left
  ·intro w hSw
   have q := hSw.cell g5 (by show ¬ s + 2 = s + 1; omega)
   clear hSw
   go_simp
   try with_reducible rfl
  try simp only [Act.put, sG1, sG2, sG3, sG4, sG5, sG6]
  refine hP 9 ?_
  refine hP 10 ?_
  refine hP 11 ?_
  refine wpAnyH_take (i := 12) (v := ?_) rfl (by kernel_rfl) (by kernel_rfl) (by kernel_rfl) (fun _ _ _ h => h) (Or.inl ⟨by rfl, ?_⟩) (by assumption) ?_
  rotate_left
  ·intro w hSw
   have q := hSw.cell g4 (by show ¬ s + 2 = s + 1; omega)
   clear hSw
   go_simp
   try with_reducible rfl
  try simp only [Act.put, sG1, sG2, sG3, sG4, sG5, sG6]
  refine hP 13 ?_
  refine hP 14 ?_
  clear hHeld g5 g4
  replace HG := Shut.mk (block_of (w := w5) (n := 1) rfl HG.out)
  replace HTT := Shut.mk (block_of (w := w5) (n := 1) rfl HTT.out)
  replace HR := Shut.mk (block_of (w := w5) (n := 1) rfl HR.out)
  replace HO := Shut.mk (only_of (w := w5) (n := 1) rfl HO.out)
  replace HS := Shut.mk (size_of (w := w5) (n := 1) rfl HS.out)
  have HQ3 : Shut (Only (· = s + 1) w5 (World.drewN w5 1)) := ⟨(Only.refl _ _).drew 1⟩
  change wpAnyH _ _ _ _ _ _ _ _ (World.drewN w5 1)
  generalize World.drewN w5 1 = w6 at *
  have HGz := Shut.mk ((setRow_other w6 (s + 1) (s + 2) #[Value.int IntKind.i64 f1, Value.int IntKind.i64 d, Value.int IntKind.u32 (n : Nat), Value.int IntKind.u32 (la : Nat), Value.bool false] (by omega)).trans HG.out)
  have HTTz := Shut.mk ((setRow_other w6 (s + 1) s #[Value.int IntKind.i64 f1, Value.int IntKind.i64 d, Value.int IntKind.u32 (n : Nat), Value.int IntKind.u32 (la : Nat), Value.bool false] (by omega)).trans HTT.out)
  have HRz := Shut.mk (setRow_heap w6 (s + 1) _ #[Value.int IntKind.i64 f1, Value.int IntKind.i64 d, Value.int IntKind.u32 (n : Nat), Value.int IntKind.u32 (la : Nat), Value.bool false] _ (0, 0) HR.out)
  have HOz := Shut.mk (HO.out.setRow (g := (s + 1)) (fun e => by first | rfl | omega) #[Value.int IntKind.i64 f1, Value.int IntKind.i64 d, Value.int IntKind.u32 (n : Nat), Value.int IntKind.u32 (la : Nat), Value.bool false])
  have HSz : Shut (s + 3 ≤ (w6.setRow (s + 1) #[Value.int IntKind.i64 f1, Value.int IntKind.i64 d, Value.int IntKind.u32 (n : Nat), Value.int IntKind.u32 (la : Nat), Value.bool false]).heap.size) := ⟨Nat.le_trans HS.out (by simp [World.setRow])⟩
  refine wpAnyH_ready (rs := [15]) (by kernel_rfl) (by simp) ?_
  refine AllReadyH.cons rfl (fun K hK => ?_) AllReadyH.nil
  rw [if_pos (by rfl)]
  refine wp_store_row 92 (.tmp 12) (.tmp 46) rfl (s + 1) #[Value.int IntKind.i64 f1, Value.int IntKind.i64 d, Value.int IntKind.u32 (n : Nat), Value.int IntKind.u32 (la : Nat), Value.bool false] rfl rfl 92 _ HR.out size1 rfl (cd_one _ _ _ _ _) ?_
  refine hK.out _ _ (HQ3.out.setRow (g := s + 1) (fun _ => rfl) #[Value.int IntKind.i64 f1, Value.int IntKind.i64 d, Value.int IntKind.u32 (n : Nat), Value.int IntKind.u32 (la : Nat), Value.bool false]) (fun hHeld => ?_)
  clear hK K
  try simp only [Act.put, sG1, sG2, sG3, sG4, sG5, sG6]
  refine hP 16 ?_
  refine hP 17 ?_
  refine wpAnyH_done (by kernel_rfl) ?_ _
  try simp only [Act.put, sG1, sG2, sG3, sG4, sG5, sG6]
  go_wp2
  exact bodyPost_ret (v := .tuple #[.agg #[Value.int IntKind.i64 f1, Value.int IntKind.i64 d, Value.int IntKind.u32 (n : Nat), Value.int IntKind.u32 (la : Nat), Value.bool false], .int .i64 (0 : Nat), .bool (decide (0 < l.length))]) (results_c2 (p := 12) (q := 13) (r := 14) Tryz.results86 _ _ (s + 1) _ _ _ _ _ _ rfl rfl (by show Value.bool _ = Value.bool _; congr 1; have := HLL.out; exact decide_eq_decide.2 (by omega)) HRz.out Tryz.underlying92 rfl size1) rfl ⟨by rw [HR1.out], HOz.out.below (fun i hi => by show ¬ i = s + 2; omega) (Nat.le_refl _)⟩
 ·cases o
  ·have hp : 0 < len := by rw [← HLL.out]; exact Nat.pos_of_ne_zero (fun e => (look_late hr).1 (List.eq_nil_of_length_eq_zero e))
   have HP0 := Shut.mk hp
   clear hp
   have HR1 := Shut.mk (HP.out.symm.trans (pull_begins (c := ⟨f, d, n, la, false⟩) hr rfl))
   dsimp only at HR1
   rw [hf1, hb1] at HR1
   clear hr hf1 hb1 HP
   have HGz := Shut.mk ((setRow_other w2 s (s + 2) #[Value.int IntKind.i64 f1, Value.int IntKind.i64 d, Value.int IntKind.u32 (n : Nat), Value.int IntKind.u32 (la : Nat), Value.bool false] (by omega)).trans HG.out)
   have HTTz := Shut.mk (setRow_heap w2 s _ #[Value.int IntKind.i64 f1, Value.int IntKind.i64 d, Value.int IntKind.u32 (n : Nat), Value.int IntKind.u32 (la : Nat), Value.bool false] _ (0, 0) HTT.out)
   have HRz := Shut.mk ((setRow_other w2 s (s + 1) #[Value.int IntKind.i64 f1, Value.int IntKind.i64 d, Value.int IntKind.u32 (n : Nat), Value.int IntKind.u32 (la : Nat), Value.bool false] (by omega)).trans HR.out)
   have HOz := Shut.mk (HO.out.setRow (g := s) (fun e => by first | rfl | omega) #[Value.int IntKind.i64 f1, Value.int IntKind.i64 d, Value.int IntKind.u32 (n : Nat), Value.int IntKind.u32 (la : Nat), Value.bool false])
   have HSz : Shut (s + 3 ≤ (w2.setRow s #[Value.int IntKind.i64 f1, Value.int IntKind.i64 d, Value.int IntKind.u32 (n : Nat), Value.int IntKind.u32 (la : Nat), Value.bool false]).heap.size) := ⟨Nat.le_trans HS.out (by simp [World.setRow])⟩
   have s4 : (w2.setRow s #[Value.int IntKind.i64 f1, Value.int IntKind.i64 d, Value.int IntKind.u32 (n : Nat), Value.int IntKind.u32 (la : Nat), Value.bool false]).cell? ⟨s, 4, none⟩ = some (.bool false) := by simpa using (block_range HTTz.out) 4 _ rfl
   go_wp2_with (first
    | (refine wpList_store_row rfl 92 (.tmp 6) (.tmp 32) rfl s #[Value.int IntKind.i64 f1, Value.int IntKind.i64 d, Value.int IntKind.u32 (n : Nat), Value.int IntKind.u32 (la : Nat), Value.bool false] rfl rfl 92 _ HTT.out size1 rfl (cd_one _ _ _ _ _) ?_)
    | (refine wpList_load_row rfl 92 (.tmp 6) rfl s rfl 92 #[Value.int IntKind.i64 f1, Value.int IntKind.i64 d, Value.int IntKind.u32 (n : Nat), Value.int IntKind.u32 (la : Nat), Value.bool false] (0, 0) _ HTTz.out Tryz.underlying92 rfl size1 ?_))
   clear s4
   generalize hz : w2.setRow s _ = w3 at *
   clear hz HG HTT HR HO HS
   have HG := HGz
   have HTT := HTTz
   have HR := HRz
   have HO := HOz
   have HS := HSz
   clear HGz HTTz HRz HOz HSz
   obtain ⟨m, hm⟩ : ∃ m, begins ⟨t, g, i⟩ ⟨f, d, n, la, false⟩ = m := ⟨_, rfl⟩
   rw [hm] at HR1
   refine (begin_any t g i b1 f1 d n la false A len cap 0 (s + 2) l w3 HG.out (HL0.out.only HO.out (fun p hp => HA.out p hp HP0.out)) HA.out HP0.out HT.out HI.out (by have := HBB.out; omega) HX.out HM.out HN.out HLA.out HD.out m hm).mono ?_
   rintro e w4 ⟨rfl, ⟨B, hG⟩, hO⟩
   replace HG := Shut.mk hG
   clear hG hm
   rw [Nat.zero_add] at HG ⊢
   obtain ⟨f2, hf2⟩ : ∃ f2, lookF ⟨t, g, i⟩ f1 b1 (l.drop 1) = f2 := ⟨_, rfl⟩
   obtain ⟨dn, hdn⟩ : ∃ dn, nextN t i m = dn := ⟨_, rfl⟩
   rw [hf2, hdn] at HR1 ⊢
   clear hf2 hdn
   replace HTT := Shut.mk (hO.at_ HTT.out (by show ¬ s = s + 2; omega))
   replace HR := Shut.mk (hO.at_ HR.out (by show ¬ s + 1 = s + 2; omega))
   replace HO := Shut.mk (HO.out.trans hO fun _ _ e => e)
   replace HS := Shut.mk (Nat.le_trans HS.out hO.size)
   clear hO
   have HGz := Shut.mk ((setRow_other w4 s (s + 2) #[Value.int IntKind.i64 f2, Value.int IntKind.i64 dn, Value.int IntKind.u32 (m : Nat), Value.int IntKind.u32 (m : Nat), Value.bool true] (by omega)).trans HG.out)
   have HTTz := Shut.mk (setRow_heap w4 s _ #[Value.int IntKind.i64 f2, Value.int IntKind.i64 dn, Value.int IntKind.u32 (m : Nat), Value.int IntKind.u32 (m : Nat), Value.bool true] _ (0, 0) HTT.out)
   have HRz := Shut.mk ((setRow_other w4 s (s + 1) #[Value.int IntKind.i64 f2, Value.int IntKind.i64 dn, Value.int IntKind.u32 (m : Nat), Value.int IntKind.u32 (m : Nat), Value.bool true] (by omega)).trans HR.out)
   have HOz := Shut.mk (HO.out.setRow (g := s) (fun e => by first | rfl | omega) #[Value.int IntKind.i64 f2, Value.int IntKind.i64 dn, Value.int IntKind.u32 (m : Nat), Value.int IntKind.u32 (m : Nat), Value.bool true])
   have HSz : Shut (s + 3 ≤ (w4.setRow s #[Value.int IntKind.i64 f2, Value.int IntKind.i64 dn, Value.int IntKind.u32 (m : Nat), Value.int IntKind.u32 (m : Nat), Value.bool true]).heap.size) := ⟨Nat.le_trans HS.out (by simp [World.setRow])⟩
   go_upto_region 9 with (first
    | (refine wpList_store_row rfl 92 (.tmp 6) (.tmp 45) rfl s #[Value.int IntKind.i64 f2, Value.int IntKind.i64 dn, Value.int IntKind.u32 (m : Nat), Value.int IntKind.u32 (m : Nat), Value.bool true] rfl rfl 92 _ HTT.out size1 rfl (cd_one _ _ _ _ _) ?_))
   generalize hz : w4.setRow s _ = w5 at *
   clear hz HG HTT HR HO HS
   have HG := HGz
   have HTT := HTTz
   have HR := HRz
   have HO := HOz
   have HS := HSz
   clear HGz HTTz HRz HOz HSz
   have g5 : w5.cell? ⟨s + 2, 5, none⟩ = some (.int .i64 (1 : Nat)) := by simpa using (block_range HG.out) 5 _ rfl
   have g4 : w5.cell? ⟨s + 2, 4, none⟩ = some (.slice A len cap) := by simpa using (block_range HG.out) 4 _ rfl
   go_wp2
   refine wp_region_held_drew (S := fun w' => Only (· = s + 1) w5 w') (by kernel_rfl) ((Only.refl _ _).drew 1) (fun hHeld => ?_)
   refine wpAnyH_take (i := 0) (v := .agg #[Value.int IntKind.i64 f2, Value.int IntKind.i64 dn, Value.int IntKind.u32 (m : Nat), Value.int IntKind.u32 (m : Nat), Value.bool true]) rfl (by kernel_rfl) (by kernel_rfl) (by kernel_rfl) (fun _ _ _ h => h) (yieldsIf_load_mid (by rfl) 92 (.tmp 6) rfl s (0) rfl (#[Value.int IntKind.i64 f2, Value.int IntKind.i64 dn, Value.int IntKind.u32 (m : Nat), Value.int IntKind.u32 (m : Nat), Value.bool true]).toList _ (fun w' hw' => hw'.range (block_range HTT.out) (by show ¬ s = s + 1; omega)) Tryz.underlying92 rfl size1) (by assumption) ?_
   try simp only [Act.put, sG1, sG2, sG3, sG4, sG5, sG6]
   refine hP 1 ?_
   refine hP 2 ?_
   refine hP 3 ?_
   refine wpAnyH_take (i := 4) (v := ?_) rfl (by kernel_rfl) (by kernel_rfl) (by kernel_rfl) (fun _ _ _ h => h) (Or.inl ⟨by rfl, ?_⟩) (by assumption) ?_
   rotate_left
   ·intro w hSw
    have q := hSw.cell g5 (by show ¬ s + 2 = s + 1; omega)
    clear hSw
    go_simp
    try with_reducible rfl
   try simp only [Act.put, sG1, sG2, sG3, sG4, sG5, sG6]
   refine hP 5 ?_
   refine hP 6 ?_
   refine hP 7 ?_
   refine wpAnyH_take (i := 8) (v := ?_) rfl (by kernel_rfl) (by kernel_rfl) (by kernel_rfl) (fun _ _ _ h => h) (Or.inl ⟨by rfl, ?_⟩) (by assumption) ?_
   rotate_left
   ·intro w hSw
    have q := hSw.cell g5 (by show ¬ s + 2 = s + 1; omega)
    clear hSw
    go_simp
    try with_reducible rfl
   try simp only [Act.put, sG1, sG2, sG3, sG4, sG5, sG6]
   refine hP 9 ?_
   refine hP 10 ?_
   refine hP 11 ?_
   refine wpAnyH_take (i := 12) (v := ?_) rfl (by kernel_rfl) (by kernel_rfl) (by kernel_rfl) (fun _ _ _ h => h) (Or.inl ⟨by rfl, ?_⟩) (by assumption) ?_
   rotate_left
   ·intro w hSw
    have q := hSw.cell g4 (by show ¬ s + 2 = s + 1; omega)
    clear hSw
    go_simp
    try with_reducible rfl
   try simp only [Act.put, sG1, sG2, sG3, sG4, sG5, sG6]
   refine hP 13 ?_
   refine hP 14 ?_
   clear hHeld g5 g4
   replace HG := Shut.mk (block_of (w := w5) (n := 1) rfl HG.out)
   replace HTT := Shut.mk (block_of (w := w5) (n := 1) rfl HTT.out)
   replace HR := Shut.mk (block_of (w := w5) (n := 1) rfl HR.out)
   replace HO := Shut.mk (only_of (w := w5) (n := 1) rfl HO.out)
   replace HS := Shut.mk (size_of (w := w5) (n := 1) rfl HS.out)
   have HQ3 : Shut (Only (· = s + 1) w5 (World.drewN w5 1)) := ⟨(Only.refl _ _).drew 1⟩
   change wpAnyH _ _ _ _ _ _ _ _ (World.drewN w5 1)
   generalize World.drewN w5 1 = w6 at *
   have HGz := Shut.mk ((setRow_other w6 (s + 1) (s + 2) #[Value.int IntKind.i64 f2, Value.int IntKind.i64 dn, Value.int IntKind.u32 (m : Nat), Value.int IntKind.u32 (m : Nat), Value.bool true] (by omega)).trans HG.out)
   have HTTz := Shut.mk ((setRow_other w6 (s + 1) s #[Value.int IntKind.i64 f2, Value.int IntKind.i64 dn, Value.int IntKind.u32 (m : Nat), Value.int IntKind.u32 (m : Nat), Value.bool true] (by omega)).trans HTT.out)
   have HRz := Shut.mk (setRow_heap w6 (s + 1) _ #[Value.int IntKind.i64 f2, Value.int IntKind.i64 dn, Value.int IntKind.u32 (m : Nat), Value.int IntKind.u32 (m : Nat), Value.bool true] _ (0, 0) HR.out)
   have HOz := Shut.mk (HO.out.setRow (g := (s + 1)) (fun e => by first | rfl | omega) #[Value.int IntKind.i64 f2, Value.int IntKind.i64 dn, Value.int IntKind.u32 (m : Nat), Value.int IntKind.u32 (m : Nat), Value.bool true])
   have HSz : Shut (s + 3 ≤ (w6.setRow (s + 1) #[Value.int IntKind.i64 f2, Value.int IntKind.i64 dn, Value.int IntKind.u32 (m : Nat), Value.int IntKind.u32 (m : Nat), Value.bool true]).heap.size) := ⟨Nat.le_trans HS.out (by simp [World.setRow])⟩
   refine wpAnyH_ready (rs := [15]) (by kernel_rfl) (by simp) ?_
   refine AllReadyH.cons rfl (fun K hK => ?_) AllReadyH.nil
   rw [if_pos (by rfl)]
   refine wp_store_row 92 (.tmp 12) (.tmp 46) rfl (s + 1) #[Value.int IntKind.i64 f2, Value.int IntKind.i64 dn, Value.int IntKind.u32 (m : Nat), Value.int IntKind.u32 (m : Nat), Value.bool true] rfl rfl 92 _ HR.out size1 rfl (cd_one _ _ _ _ _) ?_
   refine hK.out _ _ (HQ3.out.setRow (g := s + 1) (fun _ => rfl) #[Value.int IntKind.i64 f2, Value.int IntKind.i64 dn, Value.int IntKind.u32 (m : Nat), Value.int IntKind.u32 (m : Nat), Value.bool true]) (fun hHeld => ?_)
   clear hK K
   try simp only [Act.put, sG1, sG2, sG3, sG4, sG5, sG6]
   refine hP 16 ?_
   refine hP 17 ?_
   refine wpAnyH_done (by kernel_rfl) ?_ _
   try simp only [Act.put, sG1, sG2, sG3, sG4, sG5, sG6]
   go_wp2
   exact bodyPost_ret (v := .tuple #[.agg #[Value.int IntKind.i64 f2, Value.int IntKind.i64 dn, Value.int IntKind.u32 (m : Nat), Value.int IntKind.u32 (m : Nat), Value.bool true], .int .i64 (1 : Nat), .bool (decide (1 < l.length))]) (results_c2 (p := 12) (q := 13) (r := 14) Tryz.results86 _ _ (s + 1) _ _ _ _ _ _ rfl rfl (by show Value.bool _ = Value.bool _; congr 1; have := HLL.out; exact decide_eq_decide.2 (by omega)) HRz.out Tryz.underlying92 rfl size1) rfl ⟨by rw [HR1.out], HOz.out.below (fun i hi => by show ¬ i = s + 2; omega) (Nat.le_refl _)⟩
  ·have hp : 0 < len := by rw [← HLL.out]; exact Nat.pos_of_ne_zero (fun e => (look_late hr).1 (List.eq_nil_of_length_eq_zero e))
   have HP0 := Shut.mk hp
   clear hp
   have HR1 := Shut.mk (HP.out.symm.trans (pull_on (c := ⟨f, d, n, la, true⟩) hr rfl))
   dsimp only at HR1
   rw [hf1, hb1] at HR1
   have HNL := Shut.mk (look_late hr).1
   clear hr hf1 hb1 HP
   have HGz := Shut.mk ((setRow_other w2 s (s + 2) #[Value.int IntKind.i64 f1, Value.int IntKind.i64 d, Value.int IntKind.u32 (n : Nat), Value.int IntKind.u32 (la : Nat), Value.bool true] (by omega)).trans HG.out)
   have HTTz := Shut.mk (setRow_heap w2 s _ #[Value.int IntKind.i64 f1, Value.int IntKind.i64 d, Value.int IntKind.u32 (n : Nat), Value.int IntKind.u32 (la : Nat), Value.bool true] _ (0, 0) HTT.out)
   have HRz := Shut.mk ((setRow_other w2 s (s + 1) #[Value.int IntKind.i64 f1, Value.int IntKind.i64 d, Value.int IntKind.u32 (n : Nat), Value.int IntKind.u32 (la : Nat), Value.bool true] (by omega)).trans HR.out)
   have HOz := Shut.mk (HO.out.setRow (g := s) (fun e => by first | rfl | omega) #[Value.int IntKind.i64 f1, Value.int IntKind.i64 d, Value.int IntKind.u32 (n : Nat), Value.int IntKind.u32 (la : Nat), Value.bool true])
   have HSz : Shut (s + 3 ≤ (w2.setRow s #[Value.int IntKind.i64 f1, Value.int IntKind.i64 d, Value.int IntKind.u32 (n : Nat), Value.int IntKind.u32 (la : Nat), Value.bool true]).heap.size) := ⟨Nat.le_trans HS.out (by simp [World.setRow])⟩
   have s4 : (w2.setRow s #[Value.int IntKind.i64 f1, Value.int IntKind.i64 d, Value.int IntKind.u32 (n : Nat), Value.int IntKind.u32 (la : Nat), Value.bool true]).cell? ⟨s, 4, none⟩ = some (.bool true) := by simpa using (block_range HTTz.out) 4 _ rfl
   go_wp2_with (first
    | (refine wpList_store_row rfl 92 (.tmp 6) (.tmp 32) rfl s #[Value.int IntKind.i64 f1, Value.int IntKind.i64 d, Value.int IntKind.u32 (n : Nat), Value.int IntKind.u32 (la : Nat), Value.bool true] rfl rfl 92 _ HTT.out size1 rfl (cd_one _ _ _ _ _) ?_)
    | (refine wpList_load_row rfl 92 (.tmp 6) rfl s rfl 92 #[Value.int IntKind.i64 f1, Value.int IntKind.i64 d, Value.int IntKind.u32 (n : Nat), Value.int IntKind.u32 (la : Nat), Value.bool true] (0, 0) _ HTTz.out Tryz.underlying92 rfl size1 ?_))
   clear s4
   generalize hz : w2.setRow s _ = w3 at *
   clear hz HG HTT HR HO HS
   have HG := HGz
   have HTT := HTTz
   have HR := HRz
   have HO := HOz
   have HS := HSz
   clear HGz HTTz HRz HOz HSz
   obtain ⟨D, hD⟩ : ∃ D, dropsR ⟨t, g, i⟩ 0 ⟨f1, d, n, la, true⟩ b1 l = D := ⟨_, rfl⟩
   have HIS : Shut (D.2.2 = decide (D.2.1 < l.length)) := ⟨by rw [← hD]; exact drops_is HNL.out⟩
   rw [hD] at HR1
   refine (goOn_any t g i b1 f1 d n la A len cap 0 (s + 2) l w3 HG.out (HL0.out.only HO.out (fun p hp => HA.out p hp HP0.out)) HA.out HP0.out HT.out HI.out (by have := HBB.out; omega) HX.out HM.out HN.out D (by rw [List.drop_zero]; exact hD)).mono ?_
   rintro e w4 ⟨rfl, ⟨B, hG⟩, hO⟩
   replace HG := Shut.mk hG
   clear hG hD
   replace HTT := Shut.mk (hO.at_ HTT.out (by show ¬ s = s + 2; omega))
   replace HR := Shut.mk (hO.at_ HR.out (by show ¬ s + 1 = s + 2; omega))
   replace HO := Shut.mk (HO.out.trans hO fun _ _ e => e)
   replace HS := Shut.mk (Nat.le_trans HS.out hO.size)
   clear hO
   have HR2 := Shut.mk HR1.out
   clear HR1
   obtain ⟨⟨xf, xd, xn, xl, xo⟩, xk, xi⟩ := D
   dsimp only at HG HIS ⊢
   have HGz := Shut.mk ((setRow_other w4 s (s + 2) #[Value.int IntKind.i64 xf, Value.int IntKind.i64 xd, Value.int IntKind.u32 (xn : Nat), Value.int IntKind.u32 (xl : Nat), Value.bool xo] (by omega)).trans HG.out)
   have HTTz := Shut.mk (setRow_heap w4 s _ #[Value.int IntKind.i64 xf, Value.int IntKind.i64 xd, Value.int IntKind.u32 (xn : Nat), Value.int IntKind.u32 (xl : Nat), Value.bool xo] _ (0, 0) HTT.out)
   have HRz := Shut.mk ((setRow_other w4 s (s + 1) #[Value.int IntKind.i64 xf, Value.int IntKind.i64 xd, Value.int IntKind.u32 (xn : Nat), Value.int IntKind.u32 (xl : Nat), Value.bool xo] (by omega)).trans HR.out)
   have HOz := Shut.mk (HO.out.setRow (g := s) (fun e => by first | rfl | omega) #[Value.int IntKind.i64 xf, Value.int IntKind.i64 xd, Value.int IntKind.u32 (xn : Nat), Value.int IntKind.u32 (xl : Nat), Value.bool xo])
   have HSz : Shut (s + 3 ≤ (w4.setRow s #[Value.int IntKind.i64 xf, Value.int IntKind.i64 xd, Value.int IntKind.u32 (xn : Nat), Value.int IntKind.u32 (xl : Nat), Value.bool xo]).heap.size) := ⟨Nat.le_trans HS.out (by simp [World.setRow])⟩
   go_upto_region 9 with (first
    | (refine wpList_store_row rfl 92 (.tmp 6) (.tmp 45) rfl s #[Value.int IntKind.i64 xf, Value.int IntKind.i64 xd, Value.int IntKind.u32 (xn : Nat), Value.int IntKind.u32 (xl : Nat), Value.bool xo] rfl rfl 92 _ HTT.out size1 rfl (cd_one _ _ _ _ _) ?_))
   generalize hz : w4.setRow s _ = w5 at *
   clear hz HG HTT HR HO HS
   have HG := HGz
   have HTT := HTTz
   have HR := HRz
   have HO := HOz
   have HS := HSz
   clear HGz HTTz HRz HOz HSz
   have g5 : w5.cell? ⟨s + 2, 5, none⟩ = some (.int .i64 (xk : Nat)) := by simpa using (block_range HG.out) 5 _ rfl
   have g4 : w5.cell? ⟨s + 2, 4, none⟩ = some (.slice A len cap) := by simpa using (block_range HG.out) 4 _ rfl
   go_wp2
   refine wp_region_held_drew (S := fun w' => Only (· = s + 1) w5 w') (by kernel_rfl) ((Only.refl _ _).drew 1) (fun hHeld => ?_)
   refine wpAnyH_take (i := 0) (v := .agg #[Value.int IntKind.i64 xf, Value.int IntKind.i64 xd, Value.int IntKind.u32 (xn : Nat), Value.int IntKind.u32 (xl : Nat), Value.bool xo]) rfl (by kernel_rfl) (by kernel_rfl) (by kernel_rfl) (fun _ _ _ h => h) (yieldsIf_load_mid (by rfl) 92 (.tmp 6) rfl s (0) rfl (#[Value.int IntKind.i64 xf, Value.int IntKind.i64 xd, Value.int IntKind.u32 (xn : Nat), Value.int IntKind.u32 (xl : Nat), Value.bool xo]).toList _ (fun w' hw' => hw'.range (block_range HTT.out) (by show ¬ s = s + 1; omega)) Tryz.underlying92 rfl size1) (by assumption) ?_
   try simp only [Act.put, sG1, sG2, sG3, sG4, sG5, sG6]
   refine hP 1 ?_
   refine hP 2 ?_
   refine hP 3 ?_
   refine wpAnyH_take (i := 4) (v := ?_) rfl (by kernel_rfl) (by kernel_rfl) (by kernel_rfl) (fun _ _ _ h => h) (Or.inl ⟨by rfl, ?_⟩) (by assumption) ?_
   rotate_left
   ·intro w hSw
    have q := hSw.cell g5 (by show ¬ s + 2 = s + 1; omega)
    clear hSw
    go_simp
    try with_reducible rfl
   try simp only [Act.put, sG1, sG2, sG3, sG4, sG5, sG6]
   refine hP 5 ?_
   refine hP 6 ?_
   refine hP 7 ?_
   refine wpAnyH_take (i := 8) (v := ?_) rfl (by kernel_rfl) (by kernel_rfl) (by kernel_rfl) (fun _ _ _ h => h) (Or.inl ⟨by rfl, ?_⟩) (by assumption) ?_
   rotate_left
   ·intro w hSw
    have q := hSw.cell g5 (by show ¬ s + 2 = s + 1; omega)
    clear hSw
    go_simp
    try with_reducible rfl
   try simp only [Act.put, sG1, sG2, sG3, sG4, sG5, sG6]
   refine hP 9 ?_
   refine hP 10 ?_
   refine hP 11 ?_
   refine wpAnyH_take (i := 12) (v := ?_) rfl (by kernel_rfl) (by kernel_rfl) (by kernel_rfl) (fun _ _ _ h => h) (Or.inl ⟨by rfl, ?_⟩) (by assumption) ?_
   rotate_left
   ·intro w hSw
    have q := hSw.cell g4 (by show ¬ s + 2 = s + 1; omega)
    clear hSw
    go_simp
    try with_reducible rfl
   try simp only [Act.put, sG1, sG2, sG3, sG4, sG5, sG6]
   refine hP 13 ?_
   refine hP 14 ?_
   clear hHeld g5 g4
   replace HG := Shut.mk (block_of (w := w5) (n := 1) rfl HG.out)
   replace HTT := Shut.mk (block_of (w := w5) (n := 1) rfl HTT.out)
   replace HR := Shut.mk (block_of (w := w5) (n := 1) rfl HR.out)
   replace HO := Shut.mk (only_of (w := w5) (n := 1) rfl HO.out)
   replace HS := Shut.mk (size_of (w := w5) (n := 1) rfl HS.out)
   have HQ3 : Shut (Only (· = s + 1) w5 (World.drewN w5 1)) := ⟨(Only.refl _ _).drew 1⟩
   change wpAnyH _ _ _ _ _ _ _ _ (World.drewN w5 1)
   generalize World.drewN w5 1 = w6 at *
   have HGz := Shut.mk ((setRow_other w6 (s + 1) (s + 2) #[Value.int IntKind.i64 xf, Value.int IntKind.i64 xd, Value.int IntKind.u32 (xn : Nat), Value.int IntKind.u32 (xl : Nat), Value.bool xo] (by omega)).trans HG.out)
   have HTTz := Shut.mk ((setRow_other w6 (s + 1) s #[Value.int IntKind.i64 xf, Value.int IntKind.i64 xd, Value.int IntKind.u32 (xn : Nat), Value.int IntKind.u32 (xl : Nat), Value.bool xo] (by omega)).trans HTT.out)
   have HRz := Shut.mk (setRow_heap w6 (s + 1) _ #[Value.int IntKind.i64 xf, Value.int IntKind.i64 xd, Value.int IntKind.u32 (xn : Nat), Value.int IntKind.u32 (xl : Nat), Value.bool xo] _ (0, 0) HR.out)
   have HOz := Shut.mk (HO.out.setRow (g := (s + 1)) (fun e => by first | rfl | omega) #[Value.int IntKind.i64 xf, Value.int IntKind.i64 xd, Value.int IntKind.u32 (xn : Nat), Value.int IntKind.u32 (xl : Nat), Value.bool xo])
   have HSz : Shut (s + 3 ≤ (w6.setRow (s + 1) #[Value.int IntKind.i64 xf, Value.int IntKind.i64 xd, Value.int IntKind.u32 (xn : Nat), Value.int IntKind.u32 (xl : Nat), Value.bool xo]).heap.size) := ⟨Nat.le_trans HS.out (by simp [World.setRow])⟩
   refine wpAnyH_ready (rs := [15]) (by kernel_rfl) (by simp) ?_
   refine AllReadyH.cons rfl (fun K hK => ?_) AllReadyH.nil
   rw [if_pos (by rfl)]
   refine wp_store_row 92 (.tmp 12) (.tmp 46) rfl (s + 1) #[Value.int IntKind.i64 xf, Value.int IntKind.i64 xd, Value.int IntKind.u32 (xn : Nat), Value.int IntKind.u32 (xl : Nat), Value.bool xo] rfl rfl 92 _ HR.out size1 rfl (cd_one _ _ _ _ _) ?_
   refine hK.out _ _ (HQ3.out.setRow (g := s + 1) (fun _ => rfl) #[Value.int IntKind.i64 xf, Value.int IntKind.i64 xd, Value.int IntKind.u32 (xn : Nat), Value.int IntKind.u32 (xl : Nat), Value.bool xo]) (fun hHeld => ?_)
   clear hK K
   try simp only [Act.put, sG1, sG2, sG3, sG4, sG5, sG6]
   refine hP 16 ?_
   refine hP 17 ?_
   refine wpAnyH_done (by kernel_rfl) ?_ _
   try simp only [Act.put, sG1, sG2, sG3, sG4, sG5, sG6]
   go_wp2
   exact bodyPost_ret (v := .tuple #[.agg #[Value.int IntKind.i64 xf, Value.int IntKind.i64 xd, Value.int IntKind.u32 (xn : Nat), Value.int IntKind.u32 (xl : Nat), Value.bool xo], .int .i64 (xk : Nat), .bool (decide (xk < l.length))]) (results_c2 (p := 12) (q := 13) (r := 14) Tryz.results86 _ _ (s + 1) _ _ _ _ _ _ rfl rfl (by show Value.bool _ = Value.bool _; congr 1; have := HLL.out; exact decide_eq_decide.2 (by omega)) HRz.out Tryz.underlying92 rfl size1) rfl ⟨by rw [HR2.out, ← HIS.out], HOz.out.below (fun i hi => by show ¬ i = s + 2; omega) (Nat.le_refl _)⟩
end Go.Proofs.YtndkmgcmegcieaaGreatDoor
