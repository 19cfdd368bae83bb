/-
  CONTRACT of Codel.begin.
-/
import Derived.Test.YtndkmgcmegcieaaGreatDoorCodC
import Derived.Deep.Cut
namespace Go.Proofs.YtndkmgcmegcieaaGreatDoor
open Go.ChangeShapes Go.WideShapes Go.ChangeAt Go.RowKit Go.Deep
set_option linter.unusedVariables false
set_option linter.unusedSimpArgs false
theorem since_lt (n la : Nat) : (n + 4294967296 - la) % 4294967296 < 4294967296 := Nat.mod_lt _ (by decide)
theorem since_u32 {n la : Nat} (hn : n < 4294967296) (hla : la < 4294967296) : IntKind.u32.wrap ((n : Int) - (la : Int)) = (((n + 4294967296 - la) % 4294967296 : Nat) : Int) := by rw [IntKind.wrap_u32]; omega
theorem begins_few {q : Pl} {c : Cd} (h : (c.count + 4294967296 - c.last) % 4294967296 ≤ 1) : begins q c = 1 := by unfold begins; rw [if_pos (.inl h)]
theorem begins_old {q : Pl} {c : Cd} (h : 16 * q.interval ≤ q.now - c.drop) : begins q c = 1 := by unfold begins; rw [if_pos (.inr h)]
theorem begins_more {q : Pl} {c : Cd} (h : ¬ (c.count + 4294967296 - c.last) % 4294967296 ≤ 1) (h2 : ¬ 16 * q.interval ≤ q.now - c.drop) : begins q c = (c.count + 4294967296 - c.last) % 4294967296 := by
 unfold begins; rw [if_neg (fun e => e.elim h h2)]
theorem begins_lt (q : Pl) (c : Cd) : begins q c < 4294967296 := by
 unfold begins
 split
 ·decide
 ·exact since_lt _ _
set_option maxRecDepth 100000 in
set_option maxHeartbeats 8000000 in
theorem begin_any (t g i b f d : Int) (n la : Nat) (o : Bool) (A : Option Addr) (len cap k h : Nat) (l : List It) (w0 : World) (hg : w0.heap[h]? = some (Obj.cells #[Value.int IntKind.i64 t, Value.int IntKind.i64 g, Value.int IntKind.i64 i, Value.int IntKind.i64 (max b 0), Value.slice A len cap, Value.int IntKind.i64 ((k : Nat) : Int)] 151 (0, 0))) (hl : RowS itC 2 it00 w0 A len l) (hA : ∀ p, A = some p → 0 < len → p.block ≠ h) (hk : k < len)
 (ht : 0 ≤ t ∧ t ≤ 4503599627370496) (hi : 0 ≤ i ∧ i ≤ 1073741824) (hb : -1048576 * (k + 1 : Int) ≤ b ∧ b ≤ 1099511627776) (hx : ∀ x ∈ l, 0 ≤ x.at_ ∧ x.at_ ≤ 4503599627370496 ∧ x.len ≤ 1048576) (hlen : len ≤ 1000) (hn : n < 4294967296) (hla : la < 4294967296) (hd : 0 ≤ d ∧ d ≤ 4503599627370496) (m : Nat) (hm : begins ⟨t, g, i⟩ ⟨f, d, n, la, o⟩ = m) :
 Calls Tryz.prog 98 #[(Value.agg #[Value.int IntKind.i64 f, Value.int IntKind.i64 d, Value.int IntKind.u32 ((n : Nat) : Int), Value.int IntKind.u32 ((la : Nat) : Int), Value.bool o]), .pointer (some ⟨h, 0, none⟩)] w0 fun e w' => e = .returned (Value.agg #[Value.int IntKind.i64 (lookF ⟨t, g, i⟩ f b (l.drop (k + 1))), Value.int IntKind.i64 (nextN t i m), Value.int IntKind.u32 ((m : Nat) : Int), Value.int IntKind.u32 ((m : Nat) : Int), Value.bool true]) ∧
  (∃ B : Int, w'.heap[h]? = some (Obj.cells #[Value.int IntKind.i64 t, Value.int IntKind.i64 g, Value.int IntKind.i64 i, Value.int IntKind.i64 B, Value.slice A len cap, Value.int IntKind.i64 (((k + 1) : Nat) : Int)] 151 (0, 0))) ∧ Only (· = h) w0 w' := by
 have H0 := Shut.mk (two_alloc w0 (Obj.cells #[Value.int IntKind.i64 f, Value.int IntKind.i64 d, Value.int IntKind.u32 (n : Nat), Value.int IntKind.u32 (la : Nat), Value.bool o] 92 (0, 0)) (Obj.cells #[Value.int IntKind.i64 0, Value.int IntKind.i64 0, Value.int IntKind.u32 0, Value.int IntKind.u32 0, Value.bool false] 92 (0, 0)))
 have HH : Shut (h < w0.heap.size) := ⟨lt_blk hg⟩
 have HX := Shut.mk hx
 have HA := Shut.mk hA
 have HT := Shut.mk ht
 have HI := Shut.mk hi
 have HB := Shut.mk hb
 have HK := Shut.mk hk
 have HL0 := Shut.mk hl
 have HG := Shut.mk ((H0.out.1.block h HH.out).trans hg)
 have HO := Shut.mk (Only.of_quiet (S := (· = h)) H0.out.1)
 have HTT := Shut.mk H0.out.2.1
 have HR := Shut.mk H0.out.2.2.1
 have HS := Shut.mk (Nat.le_of_eq H0.out.2.2.2.symm)
 have HM := Shut.mk hlen
 have HN := Shut.mk hn
 have HLA := Shut.mk hla
 have HD := Shut.mk hd
 have HBG := Shut.mk hm
 have HML : Shut (m < 4294967296) := ⟨by rw [← hm]; exact begins_lt _ _⟩
 clear hx hA ht hi hb hk hg hl hlen hn hla hd hm H0
 go_enter Tryz.func98, Tryz.ntmps98
 obtain ⟨k1, hk1⟩ : ∃ k1, k + 1 = k1 := ⟨_, rfl⟩
 rw [hk1]
 have HK1 := Shut.mk hk1
 clear hk1
 go_upto_region 1 with fail
 generalize (w0.alloc _).alloc _ = w1 at *
 generalize hs0 : w0.heap.size = s at *
 have g5 : w1.cell? ⟨h, 5, none⟩ = some (.int .i64 (k : Nat)) := by simpa using (block_range HG.out) 5 _ rfl
 have y5 : IntKind.i64.wrap ((k : Int) + 1) = ((k1 : Nat) : Int) := by rw [IntWalk.i64_in _ ⟨by omega, by have := HK.out; have := HM.out; omega⟩]; have := HK1.out; omega
 have HGz := Shut.mk (setRow_heap w1 h _ #[Value.int IntKind.i64 t, Value.int IntKind.i64 g, Value.int IntKind.i64 i, Value.int IntKind.i64 (max b 0), Value.slice A len cap, Value.int IntKind.i64 (k1 : Nat)] _ (0, 0) HG.out)
 have HTTz := Shut.mk ((setRow_other w1 h s #[Value.int IntKind.i64 t, Value.int IntKind.i64 g, Value.int IntKind.i64 i, Value.int IntKind.i64 (max b 0), Value.slice A len cap, Value.int IntKind.i64 (k1 : Nat)] (by have := HH.out; omega)).trans HTT.out)
 have HRz := Shut.mk ((setRow_other w1 h (s + 1) #[Value.int IntKind.i64 t, Value.int IntKind.i64 g, Value.int IntKind.i64 i, Value.int IntKind.i64 (max b 0), Value.slice A len cap, Value.int IntKind.i64 (k1 : Nat)] (by have := HH.out; omega)).trans HR.out)
 have HOz := Shut.mk (HO.out.setRow (g := h) (fun e => by have := HH.out; first | rfl | omega) #[Value.int IntKind.i64 t, Value.int IntKind.i64 g, Value.int IntKind.i64 i, Value.int IntKind.i64 (max b 0), Value.slice A len cap, Value.int IntKind.i64 (k1 : Nat)])
 have HSz : Shut (s + 2 ≤ (w1.setRow h #[Value.int IntKind.i64 t, Value.int IntKind.i64 g, Value.int IntKind.i64 i, Value.int IntKind.i64 (max b 0), Value.slice A len cap, Value.int IntKind.i64 (k1 : Nat)]).heap.size) := ⟨Nat.le_trans HS.out (by simp [World.setRow])⟩
 go_wp2_with (first
  | (refine wpList_store_into rfl 3 (.tmp 12) (.tmp 10) rfl h 5 (.int .i64 ((k1 : Nat) : Int)) rfl rfl rfl 151 _ #[Value.int IntKind.i64 t, Value.int IntKind.i64 g, Value.int IntKind.i64 i, Value.int IntKind.i64 (max b 0), Value.slice A len cap, Value.int IntKind.i64 (k1 : Nat)] HG.out sizeI64 (show 5 < 6 by decide) rfl ?_)
  | (refine wpList_load_row rfl 92 (.tmp 2) rfl s rfl 92 #[Value.int IntKind.i64 f, Value.int IntKind.i64 d, Value.int IntKind.u32 (n : Nat), Value.int IntKind.u32 (la : Nat), Value.bool o] (0, 0) _ HTTz.out Tryz.underlying92 rfl size1 ?_))
 clear g5 y5
 generalize hz : w1.setRow h _ = w3 at *
 clear hz HG HTT HR HO HS
 have HG := HGz
 have HTT := HTTz
 have HR := HRz
 have HO := HOz
 have HS := HSz
 clear HGz HTTz HRz HOz HSz
 have hb1 : -1099511627776 ≤ b ∧ b ≤ 1099511627776 := by have := HB.out; have := HK.out; have := HM.out; omega
 refine (look_any t g i b f d n la o A len cap k1 h l w3 HG.out (HL0.out.only HO.out (fun p hp => HA.out p hp (by have := HK.out; omega))) HA.out (by have := HK.out; have := HK1.out; omega) HT.out HI.out hb1 HX.out).mono ?_
 rintro e w4 ⟨rfl, hG, hO⟩
 clear hb1
 replace HG := Shut.mk hG
 replace HTT := Shut.mk (hO.at_ HTT.out (by show ¬ s = h; have := HH.out; omega))
 replace HR := Shut.mk (hO.at_ HR.out (by show ¬ s + 1 = h; have := HH.out; omega))
 replace HO := Shut.mk (HO.out.trans hO fun _ _ e => e)
 replace HS := Shut.mk (Nat.le_trans HS.out hO.size)
 clear hG hO
 obtain ⟨f1, hf1⟩ : ∃ f1, lookF ⟨t, g, i⟩ f b (l.drop k1) = f1 := ⟨_, rfl⟩
 have HF := Shut.mk hf1
 rw [hf1]
 clear hf1
 generalize lookL ⟨t, g, i⟩ f b (l.drop k1) = r at *
 generalize lookB b (l.drop k1) = bb at *
 obtain ⟨sn, hsn⟩ : ∃ sn, (n + 4294967296 - la) % 4294967296 = sn := ⟨_, rfl⟩
 have HSN := Shut.mk hsn
 have y1 : IntKind.u32.wrap ((n : Int) - (la : Int)) = ((sn : Nat) : Int) := by rw [← hsn]; exact since_u32 HN.out HLA.out
 clear hsn
 have HGz := Shut.mk ((setRow_other w4 s h #[Value.int IntKind.i64 f1, Value.int IntKind.i64 d, Value.int IntKind.u32 (n : Nat), Value.int IntKind.u32 (la : Nat), Value.bool o] (by have := HH.out; omega)).trans HG.out)
 have HTTz := Shut.mk (setRow_heap w4 s _ #[Value.int IntKind.i64 f1, Value.int IntKind.i64 d, Value.int IntKind.u32 (n : Nat), Value.int IntKind.u32 (la : Nat), Value.bool o] _ (0, 0) HTT.out)
 have HRz := Shut.mk ((setRow_other w4 s (s + 1) #[Value.int IntKind.i64 f1, Value.int IntKind.i64 d, Value.int IntKind.u32 (n : Nat), Value.int IntKind.u32 (la : Nat), Value.bool o] (by have := HH.out; omega)).trans HR.out)
 have HOz := Shut.mk (HO.out.setRow (g := s) (fun e => by have := HH.out; first | rfl | omega) #[Value.int IntKind.i64 f1, Value.int IntKind.i64 d, Value.int IntKind.u32 (n : Nat), Value.int IntKind.u32 (la : Nat), Value.bool o])
 have HSz : Shut (s + 2 ≤ (w4.setRow s #[Value.int IntKind.i64 f1, Value.int IntKind.i64 d, Value.int IntKind.u32 (n : Nat), Value.int IntKind.u32 (la : Nat), Value.bool o]).heap.size) := ⟨Nat.le_trans HS.out (by simp [World.setRow])⟩
 have HGy := Shut.mk ((setRow_other (w4.setRow s #[Value.int IntKind.i64 f1, Value.int IntKind.i64 d, Value.int IntKind.u32 (n : Nat), Value.int IntKind.u32 (la : Nat), Value.bool o]) s h #[Value.int IntKind.i64 f1, Value.int IntKind.i64 d, Value.int IntKind.u32 (n : Nat), Value.int IntKind.u32 (la : Nat), Value.bool true] (by have := HH.out; omega)).trans HGz.out)
 have HTTy := Shut.mk (setRow_heap (w4.setRow s #[Value.int IntKind.i64 f1, Value.int IntKind.i64 d, Value.int IntKind.u32 (n : Nat), Value.int IntKind.u32 (la : Nat), Value.bool o]) s _ #[Value.int IntKind.i64 f1, Value.int IntKind.i64 d, Value.int IntKind.u32 (n : Nat), Value.int IntKind.u32 (la : Nat), Value.bool true] _ (0, 0) HTTz.out)
 have HRy := Shut.mk ((setRow_other (w4.setRow s #[Value.int IntKind.i64 f1, Value.int IntKind.i64 d, Value.int IntKind.u32 (n : Nat), Value.int IntKind.u32 (la : Nat), Value.bool o]) s (s + 1) #[Value.int IntKind.i64 f1, Value.int IntKind.i64 d, Value.int IntKind.u32 (n : Nat), Value.int IntKind.u32 (la : Nat), Value.bool true] (by have := HH.out; omega)).trans HRz.out)
 have HOy := Shut.mk (HOz.out.setRow (g := s) (fun e => by have := HH.out; first | rfl | omega) #[Value.int IntKind.i64 f1, Value.int IntKind.i64 d, Value.int IntKind.u32 (n : Nat), Value.int IntKind.u32 (la : Nat), Value.bool true])
 have HSy : Shut (s + 2 ≤ ((w4.setRow s #[Value.int IntKind.i64 f1, Value.int IntKind.i64 d, Value.int IntKind.u32 (n : Nat), Value.int IntKind.u32 (la : Nat), Value.bool o]).setRow s #[Value.int IntKind.i64 f1, Value.int IntKind.i64 d, Value.int IntKind.u32 (n : Nat), Value.int IntKind.u32 (la : Nat), Value.bool true]).heap.size) := ⟨Nat.le_trans HSz.out (by simp [World.setRow])⟩
 have HGx := Shut.mk ((setRow_other ((w4.setRow s #[Value.int IntKind.i64 f1, Value.int IntKind.i64 d, Value.int IntKind.u32 (n : Nat), Value.int IntKind.u32 (la : Nat), Value.bool o]).setRow s #[Value.int IntKind.i64 f1, Value.int IntKind.i64 d, Value.int IntKind.u32 (n : Nat), Value.int IntKind.u32 (la : Nat), Value.bool true]) s h #[Value.int IntKind.i64 f1, Value.int IntKind.i64 d, Value.int IntKind.u32 ((1 : Nat) : Int), Value.int IntKind.u32 (la : Nat), Value.bool true] (by have := HH.out; omega)).trans HGy.out)
 have HTTx := Shut.mk (setRow_heap ((w4.setRow s #[Value.int IntKind.i64 f1, Value.int IntKind.i64 d, Value.int IntKind.u32 (n : Nat), Value.int IntKind.u32 (la : Nat), Value.bool o]).setRow s #[Value.int IntKind.i64 f1, Value.int IntKind.i64 d, Value.int IntKind.u32 (n : Nat), Value.int IntKind.u32 (la : Nat), Value.bool true]) s _ #[Value.int IntKind.i64 f1, Value.int IntKind.i64 d, Value.int IntKind.u32 ((1 : Nat) : Int), Value.int IntKind.u32 (la : Nat), Value.bool true] _ (0, 0) HTTy.out)
 have HRx := Shut.mk ((setRow_other ((w4.setRow s #[Value.int IntKind.i64 f1, Value.int IntKind.i64 d, Value.int IntKind.u32 (n : Nat), Value.int IntKind.u32 (la : Nat), Value.bool o]).setRow s #[Value.int IntKind.i64 f1, Value.int IntKind.i64 d, Value.int IntKind.u32 (n : Nat), Value.int IntKind.u32 (la : Nat), Value.bool true]) s (s + 1) #[Value.int IntKind.i64 f1, Value.int IntKind.i64 d, Value.int IntKind.u32 ((1 : Nat) : Int), Value.int IntKind.u32 (la : Nat), Value.bool true] (by have := HH.out; omega)).trans HRy.out)
 have HOx := Shut.mk (HOy.out.setRow (g := s) (fun e => by have := HH.out; first | rfl | omega) #[Value.int IntKind.i64 f1, Value.int IntKind.i64 d, Value.int IntKind.u32 ((1 : Nat) : Int), Value.int IntKind.u32 (la : Nat), Value.bool true])
 have HSx : Shut (s + 2 ≤ (((w4.setRow s #[Value.int IntKind.i64 f1, Value.int IntKind.i64 d, Value.int IntKind.u32 (n : Nat), Value.int IntKind.u32 (la : Nat), Value.bool o]).setRow s #[Value.int IntKind.i64 f1, Value.int IntKind.i64 d, Value.int IntKind.u32 (n : Nat), Value.int IntKind.u32 (la : Nat), Value.bool true]).setRow s #[Value.int IntKind.i64 f1, Value.int IntKind.i64 d, Value.int IntKind.u32 ((1 : Nat) : Int), Value.int IntKind.u32 (la : Nat), Value.bool true]).heap.size) := ⟨Nat.le_trans HSy.out (by simp [World.setRow])⟩
 have s2 : ((w4.setRow s #[Value.int IntKind.i64 f1, Value.int IntKind.i64 d, Value.int IntKind.u32 (n : Nat), Value.int IntKind.u32 (la : Nat), Value.bool o]).setRow s #[Value.int IntKind.i64 f1, Value.int IntKind.i64 d, Value.int IntKind.u32 (n : Nat), Value.int IntKind.u32 (la : Nat), Value.bool true]).cell? ⟨s, 2, none⟩ = some (.int .u32 (n : Nat)) := by simpa using (block_range HTTy.out) 2 _ rfl
 have s3 : ((w4.setRow s #[Value.int IntKind.i64 f1, Value.int IntKind.i64 d, Value.int IntKind.u32 (n : Nat), Value.int IntKind.u32 (la : Nat), Value.bool o]).setRow s #[Value.int IntKind.i64 f1, Value.int IntKind.i64 d, Value.int IntKind.u32 (n : Nat), Value.int IntKind.u32 (la : Nat), Value.bool true]).cell? ⟨s, 3, none⟩ = some (.int .u32 (la : Nat)) := by simpa using (block_range HTTy.out) 3 _ rfl
 go_upto_region 6 with (first
  | (refine wpList_store_row rfl 92 (.tmp 2) (.tmp 17) rfl s #[Value.int IntKind.i64 f1, Value.int IntKind.i64 d, Value.int IntKind.u32 (n : Nat), Value.int IntKind.u32 (la : Nat), Value.bool o] rfl rfl 92 _ HTT.out size1 rfl (cd_one _ _ _ _ _) ?_)
  | (refine wpList_store_into rfl 4 (.tmp 19) (.const (.bool true)) rfl s 4 (.bool true) rfl rfl rfl 92 _ #[Value.int IntKind.i64 f1, Value.int IntKind.i64 d, Value.int IntKind.u32 (n : Nat), Value.int IntKind.u32 (la : Nat), Value.bool true] HTTz.out sizeB (show 4 < 5 by decide) rfl ?_)
  | (refine wpList_store_into rfl 22 (.tmp 25) (.const (.int .u32 1)) rfl s 2 (.int .u32 ((1 : Nat) : Int)) rfl rfl rfl 92 _ #[Value.int IntKind.i64 f1, Value.int IntKind.i64 d, Value.int IntKind.u32 ((1 : Nat) : Int), Value.int IntKind.u32 (la : Nat), Value.bool true] HTTy.out size32 (show 2 < 5 by decide) rfl ?_))
 clear s2 s3 y1
 generalize hz : ((w4.setRow s _).setRow s _).setRow s _ = w5 at *
 clear hz HG HTT HR HO HS HGz HTTz HRz HOz HSz HGy HTTy HRy HOy HSy
 have HG := HGx
 have HTT := HTTx
 have HR := HRx
 have HO := HOx
 have HS := HSx
 clear HGx HTTx HRx HOx HSx
 rcases Nat.lt_or_ge 1 sn with hA1 | hA1
 ·rcases Int.lt_or_le (t - d) (16 * i) with hB1 | hB1
  ·have hm1 : m = sn := by rw [← HBG.out, ← HSN.out]; exact begins_more (by show ¬ (n + 4294967296 - la) % 4294967296 ≤ 1; rw [HSN.out]; omega) (by show ¬ 16 * i ≤ t - d; omega)
   subst hm1
   have g0 : w5.cell? ⟨h, 0, none⟩ = some (.int .i64 t) := (block_range HG.out) 0 _ rfl
   have g2 : w5.cell? ⟨h, 2, none⟩ = some (.int .i64 i) := by simpa using (block_range HG.out) 2 _ rfl
   have s1 : w5.cell? ⟨s, 1, none⟩ = some (.int .i64 d) := by simpa using (block_range HTT.out) 1 _ rfl
   have q1 : (1 : Int) < (m : Int) := by omega
   obtain ⟨dd, hdd⟩ : ∃ dd : Int, t - d = dd := ⟨_, rfl⟩
   rw [hdd] at hB1
   have y1 : IntKind.i64.wrap (16 * i) = 16 * i := by have := HI.out; exact IntWalk.i64_in _ ⟨by omega, by omega⟩
   obtain ⟨ii, hii⟩ : ∃ ii : Int, 16 * i = ii := ⟨_, rfl⟩
   rw [hii] at hB1 y1
   have less : ∀ k, Calls Tryz.prog 102 #[.int .i64 t, .int .i64 d] (w5.drewN k) fun e w' => e = .returned (.int .i64 dd) ∧ ∃ m, w' = w5.drewN m := fun k => by rw [← hdd]; exact quiet_same (less_any t d _ HT.out (by have := HD.out; omega))
   have q2 : dd < ii := hB1
   clear hB1 hA1
   go_wp2
   go_quiet ((go_at_call 102; exact less _))
   generalize hq : World.drewN w5 _ = w6
   replace HG := Shut.mk (block_of hq HG.out)
   replace HTT := Shut.mk (block_of hq HTT.out)
   replace HR := Shut.mk (block_of hq HR.out)
   replace HO := Shut.mk (only_of hq HO.out)
   replace HS := Shut.mk (size_of hq HS.out)
   clear hq
   clear q1 q2 y1 less g0 g2 s1 hdd hii
   have HGa := Shut.mk ((setRow_other w6 s h #[Value.int IntKind.i64 f1, Value.int IntKind.i64 d, Value.int IntKind.u32 (m : Nat), Value.int IntKind.u32 (la : Nat), Value.bool true] (by have := HH.out; omega)).trans HG.out)
   have HTTa := Shut.mk (setRow_heap w6 s _ #[Value.int IntKind.i64 f1, Value.int IntKind.i64 d, Value.int IntKind.u32 (m : Nat), Value.int IntKind.u32 (la : Nat), Value.bool true] _ (0, 0) HTT.out)
   have HRa := Shut.mk ((setRow_other w6 s (s + 1) #[Value.int IntKind.i64 f1, Value.int IntKind.i64 d, Value.int IntKind.u32 (m : Nat), Value.int IntKind.u32 (la : Nat), Value.bool true] (by have := HH.out; omega)).trans HR.out)
   have HOa := Shut.mk (HO.out.setRow (g := s) (fun e => by have := HH.out; first | rfl | omega) #[Value.int IntKind.i64 f1, Value.int IntKind.i64 d, Value.int IntKind.u32 (m : Nat), Value.int IntKind.u32 (la : Nat), Value.bool true])
   have HSa : Shut (s + 2 ≤ (w6.setRow s #[Value.int IntKind.i64 f1, Value.int IntKind.i64 d, Value.int IntKind.u32 (m : Nat), Value.int IntKind.u32 (la : Nat), Value.bool true]).heap.size) := ⟨Nat.le_trans HS.out (by simp [World.setRow])⟩
   have s2 : (w6.setRow s #[Value.int IntKind.i64 f1, Value.int IntKind.i64 d, Value.int IntKind.u32 (m : Nat), Value.int IntKind.u32 (la : Nat), Value.bool true]).cell? ⟨s, 2, none⟩ = some (.int .u32 (m : Nat)) := by simpa using (block_range HTTa.out) 2 _ rfl
   have HGz := Shut.mk ((setRow_other (w6.setRow s #[Value.int IntKind.i64 f1, Value.int IntKind.i64 d, Value.int IntKind.u32 (m : Nat), Value.int IntKind.u32 (la : Nat), Value.bool true]) s h #[Value.int IntKind.i64 f1, Value.int IntKind.i64 d, Value.int IntKind.u32 (m : Nat), Value.int IntKind.u32 (m : Nat), Value.bool true] (by have := HH.out; omega)).trans HGa.out)
   have HTTz := Shut.mk (setRow_heap (w6.setRow s #[Value.int IntKind.i64 f1, Value.int IntKind.i64 d, Value.int IntKind.u32 (m : Nat), Value.int IntKind.u32 (la : Nat), Value.bool true]) s _ #[Value.int IntKind.i64 f1, Value.int IntKind.i64 d, Value.int IntKind.u32 (m : Nat), Value.int IntKind.u32 (m : Nat), Value.bool true] _ (0, 0) HTTa.out)
   have HRz := Shut.mk ((setRow_other (w6.setRow s #[Value.int IntKind.i64 f1, Value.int IntKind.i64 d, Value.int IntKind.u32 (m : Nat), Value.int IntKind.u32 (la : Nat), Value.bool true]) s (s + 1) #[Value.int IntKind.i64 f1, Value.int IntKind.i64 d, Value.int IntKind.u32 (m : Nat), Value.int IntKind.u32 (m : Nat), Value.bool true] (by have := HH.out; omega)).trans HRa.out)
   have HOz := Shut.mk (HOa.out.setRow (g := s) (fun e => by have := HH.out; first | rfl | omega) #[Value.int IntKind.i64 f1, Value.int IntKind.i64 d, Value.int IntKind.u32 (m : Nat), Value.int IntKind.u32 (m : Nat), Value.bool true])
   have HSz : Shut (s + 2 ≤ ((w6.setRow s #[Value.int IntKind.i64 f1, Value.int IntKind.i64 d, Value.int IntKind.u32 (m : Nat), Value.int IntKind.u32 (la : Nat), Value.bool true]).setRow s #[Value.int IntKind.i64 f1, Value.int IntKind.i64 d, Value.int IntKind.u32 (m : Nat), Value.int IntKind.u32 (m : Nat), Value.bool true]).heap.size) := ⟨Nat.le_trans HSa.out (by simp [World.setRow])⟩
   go_upto_region 9 with (first
    | (refine wpList_store_into rfl 22 (.tmp 44) (.tmp 43) rfl s 2 (.int .u32 ((m : Nat) : Int)) rfl rfl rfl 92 _ #[Value.int IntKind.i64 f1, Value.int IntKind.i64 d, Value.int IntKind.u32 (m : Nat), Value.int IntKind.u32 (la : Nat), Value.bool true] HTT.out size32 (show 2 < 5 by decide) rfl ?_)
    | (refine wpList_store_into rfl 22 (.tmp 47) (.tmp 46) rfl s 3 (.int .u32 ((m : Nat) : Int)) rfl rfl rfl 92 _ #[Value.int IntKind.i64 f1, Value.int IntKind.i64 d, Value.int IntKind.u32 (m : Nat), Value.int IntKind.u32 (m : Nat), Value.bool true] HTTa.out size32 (show 3 < 5 by decide) rfl ?_))
   clear s2
   generalize hz : (w6.setRow s _).setRow s _ = w7 at *
   clear hz HG HTT HR HO HS HGa HTTa HRa HOa HSa
   have HG := HGz
   have HTT := HTTz
   have HR := HRz
   have HO := HOz
   have HS := HSz
   clear HGz HTTz HRz HOz HSz
   have g0 : w7.cell? ⟨h, 0, none⟩ = some (.int .i64 t) := (block_range HG.out) 0 _ rfl
   have g2 : w7.cell? ⟨h, 2, none⟩ = some (.int .i64 i) := by simpa using (block_range HG.out) 2 _ rfl
   have s2 : w7.cell? ⟨s, 2, none⟩ = some (.int .u32 (m : Nat)) := by simpa using (block_range HTT.out) 2 _ rfl
   obtain ⟨dn, hdn⟩ : ∃ dn, nextN t i m = dn := ⟨_, rfl⟩
   have HDN := Shut.mk hdn
   clear hdn
   go_wp2
   go_still_tail 12, (by kernel_rfl)
   still_call (still_same (next_any t i m _ HML.out))
   rw [HDN.out]
   repeat still_step
   refine wpStill_nil ?_
   clear s2 g0 g2
   change wpList _ _ _ _ _ (World.drewN w7 1)
   generalize hq : World.drewN w7 1 = w8
   replace HG := Shut.mk (block_of hq HG.out)
   replace HTT := Shut.mk (block_of hq HTT.out)
   replace HR := Shut.mk (block_of hq HR.out)
   replace HO := Shut.mk (only_of hq HO.out)
   replace HS := Shut.mk (size_of hq HS.out)
   clear hq
   have HGz := Shut.mk ((setRow_other w8 s h #[Value.int IntKind.i64 f1, Value.int IntKind.i64 dn, Value.int IntKind.u32 (m : Nat), Value.int IntKind.u32 (m : Nat), Value.bool true] (by have := HH.out; omega)).trans HG.out)
   have HTTz := Shut.mk (setRow_heap w8 s _ #[Value.int IntKind.i64 f1, Value.int IntKind.i64 dn, Value.int IntKind.u32 (m : Nat), Value.int IntKind.u32 (m : Nat), Value.bool true] _ (0, 0) HTT.out)
   have HRz := Shut.mk ((setRow_other w8 s (s + 1) #[Value.int IntKind.i64 f1, Value.int IntKind.i64 dn, Value.int IntKind.u32 (m : Nat), Value.int IntKind.u32 (m : Nat), Value.bool true] (by have := HH.out; omega)).trans HR.out)
   have HOz := Shut.mk (HO.out.setRow (g := s) (fun e => by have := HH.out; first | rfl | omega) #[Value.int IntKind.i64 f1, Value.int IntKind.i64 dn, Value.int IntKind.u32 (m : Nat), Value.int IntKind.u32 (m : Nat), Value.bool true])
   have HSz : Shut (s + 2 ≤ (w8.setRow s #[Value.int IntKind.i64 f1, Value.int IntKind.i64 dn, Value.int IntKind.u32 (m : Nat), Value.int IntKind.u32 (m : Nat), Value.bool true]).heap.size) := ⟨Nat.le_trans HS.out (by simp [World.setRow])⟩
   have HGy := Shut.mk ((setRow_other (w8.setRow s #[Value.int IntKind.i64 f1, Value.int IntKind.i64 dn, Value.int IntKind.u32 (m : Nat), Value.int IntKind.u32 (m : Nat), Value.bool true]) (s + 1) h #[Value.int IntKind.i64 f1, Value.int IntKind.i64 dn, Value.int IntKind.u32 (m : Nat), Value.int IntKind.u32 (m : Nat), Value.bool true] (by have := HH.out; omega)).trans HGz.out)
   have HTTy := Shut.mk ((setRow_other (w8.setRow s #[Value.int IntKind.i64 f1, Value.int IntKind.i64 dn, Value.int IntKind.u32 (m : Nat), Value.int IntKind.u32 (m : Nat), Value.bool true]) (s + 1) s #[Value.int IntKind.i64 f1, Value.int IntKind.i64 dn, Value.int IntKind.u32 (m : Nat), Value.int IntKind.u32 (m : Nat), Value.bool true] (by have := HH.out; omega)).trans HTTz.out)
   have HRy := Shut.mk (setRow_heap (w8.setRow s #[Value.int IntKind.i64 f1, Value.int IntKind.i64 dn, Value.int IntKind.u32 (m : Nat), Value.int IntKind.u32 (m : Nat), Value.bool true]) (s + 1) _ #[Value.int IntKind.i64 f1, Value.int IntKind.i64 dn, Value.int IntKind.u32 (m : Nat), Value.int IntKind.u32 (m : Nat), Value.bool true] _ (0, 0) HRz.out)
   have HOy := Shut.mk (HOz.out.setRow (g := (s + 1)) (fun e => by have := HH.out; first | rfl | omega) #[Value.int IntKind.i64 f1, Value.int IntKind.i64 dn, Value.int IntKind.u32 (m : Nat), Value.int IntKind.u32 (m : Nat), Value.bool true])
   have HSy : Shut (s + 2 ≤ ((w8.setRow s #[Value.int IntKind.i64 f1, Value.int IntKind.i64 dn, Value.int IntKind.u32 (m : Nat), Value.int IntKind.u32 (m : Nat), Value.bool true]).setRow (s + 1) #[Value.int IntKind.i64 f1, Value.int IntKind.i64 dn, Value.int IntKind.u32 (m : Nat), Value.int IntKind.u32 (m : Nat), Value.bool true]).heap.size) := ⟨Nat.le_trans HSz.out (by simp [World.setRow])⟩
   go_wp2_with (first
    | (refine wpList_store_into rfl 2 (.tmp 59) (.tmp 58) rfl s 1 (.int .i64 dn) rfl rfl rfl 92 _ #[Value.int IntKind.i64 f1, Value.int IntKind.i64 dn, Value.int IntKind.u32 (m : Nat), Value.int IntKind.u32 (m : Nat), Value.bool true] HTT.out size64 (show 1 < 5 by decide) rfl ?_)
    | (refine wpList_load_row rfl 92 (.tmp 2) rfl s rfl 92 #[Value.int IntKind.i64 f1, Value.int IntKind.i64 dn, Value.int IntKind.u32 (m : Nat), Value.int IntKind.u32 (m : Nat), Value.bool true] (0, 0) _ HTTz.out Tryz.underlying92 rfl size1 ?_)
    | (refine wpList_store_row rfl 92 (.tmp 4) (.tmp 60) rfl (s + 1) #[Value.int IntKind.i64 f1, Value.int IntKind.i64 dn, Value.int IntKind.u32 (m : Nat), Value.int IntKind.u32 (m : Nat), Value.bool true] rfl rfl 92 _ HRz.out size1 rfl (cd_one _ _ _ _ _) ?_))
   exact bodyPost_ret (v := .agg #[Value.int IntKind.i64 f1, Value.int IntKind.i64 dn, Value.int IntKind.u32 (m : Nat), Value.int IntKind.u32 (m : Nat), Value.bool true]) (results_cell1 (p := 4) Tryz.results98 _ _ (s + 1) _ _ _ _ rfl HRy.out Tryz.underlying92 rfl size1) rfl ⟨by rw [HF.out, HDN.out], ⟨_, HGy.out⟩, HOy.out⟩
  ·have hm1 : m = 1 := by rw [← HBG.out]; exact begins_old (by show 16 * i ≤ t - d; exact hB1)
   replace HTT : Shut (w5.heap[s]? = some (.cells #[Value.int IntKind.i64 f1, Value.int IntKind.i64 d, Value.int IntKind.u32 (m : Nat), Value.int IntKind.u32 (la : Nat), Value.bool true] 92 (0, 0))) := ⟨by rw [hm1]; exact HTT.out⟩
   clear hm1
   have g0 : w5.cell? ⟨h, 0, none⟩ = some (.int .i64 t) := (block_range HG.out) 0 _ rfl
   have g2 : w5.cell? ⟨h, 2, none⟩ = some (.int .i64 i) := by simpa using (block_range HG.out) 2 _ rfl
   have s1 : w5.cell? ⟨s, 1, none⟩ = some (.int .i64 d) := by simpa using (block_range HTT.out) 1 _ rfl
   have q1 : (1 : Int) < (sn : Int) := by omega
   obtain ⟨dd, hdd⟩ : ∃ dd : Int, t - d = dd := ⟨_, rfl⟩
   rw [hdd] at hB1
   have y1 : IntKind.i64.wrap (16 * i) = 16 * i := by have := HI.out; exact IntWalk.i64_in _ ⟨by omega, by omega⟩
   obtain ⟨ii, hii⟩ : ∃ ii : Int, 16 * i = ii := ⟨_, rfl⟩
   rw [hii] at hB1 y1
   have less : ∀ k, Calls Tryz.prog 102 #[.int .i64 t, .int .i64 d] (w5.drewN k) fun e w' => e = .returned (.int .i64 dd) ∧ ∃ m, w' = w5.drewN m := fun k => by rw [← hdd]; exact quiet_same (less_any t d _ HT.out (by have := HD.out; omega))
   have q2 : decide (dd < ii) = false := by simp only [decide_eq_false_iff_not]; omega
   clear hB1
   go_wp2
   go_quiet ((go_at_call 102; exact less _))
   generalize hq : World.drewN w5 _ = w6
   replace HG := Shut.mk (block_of hq HG.out)
   replace HTT := Shut.mk (block_of hq HTT.out)
   replace HR := Shut.mk (block_of hq HR.out)
   replace HO := Shut.mk (only_of hq HO.out)
   replace HS := Shut.mk (size_of hq HS.out)
   clear hq
   clear q1 q2 y1 less g0 g2 s1 hdd hii
   have s2 : w6.cell? ⟨s, 2, none⟩ = some (.int .u32 (m : Nat)) := by simpa using (block_range HTT.out) 2 _ rfl
   have HGz := Shut.mk ((setRow_other w6 s h #[Value.int IntKind.i64 f1, Value.int IntKind.i64 d, Value.int IntKind.u32 (m : Nat), Value.int IntKind.u32 (m : Nat), Value.bool true] (by have := HH.out; omega)).trans HG.out)
   have HTTz := Shut.mk (setRow_heap w6 s _ #[Value.int IntKind.i64 f1, Value.int IntKind.i64 d, Value.int IntKind.u32 (m : Nat), Value.int IntKind.u32 (m : Nat), Value.bool true] _ (0, 0) HTT.out)
   have HRz := Shut.mk ((setRow_other w6 s (s + 1) #[Value.int IntKind.i64 f1, Value.int IntKind.i64 d, Value.int IntKind.u32 (m : Nat), Value.int IntKind.u32 (m : Nat), Value.bool true] (by have := HH.out; omega)).trans HR.out)
   have HOz := Shut.mk (HO.out.setRow (g := s) (fun e => by have := HH.out; first | rfl | omega) #[Value.int IntKind.i64 f1, Value.int IntKind.i64 d, Value.int IntKind.u32 (m : Nat), Value.int IntKind.u32 (m : Nat), Value.bool true])
   have HSz : Shut (s + 2 ≤ (w6.setRow s #[Value.int IntKind.i64 f1, Value.int IntKind.i64 d, Value.int IntKind.u32 (m : Nat), Value.int IntKind.u32 (m : Nat), Value.bool true]).heap.size) := ⟨Nat.le_trans HS.out (by simp [World.setRow])⟩
   go_upto_region 9 with (first
    | (refine wpList_store_into rfl 22 (.tmp 47) (.tmp 46) rfl s 3 (.int .u32 ((m : Nat) : Int)) rfl rfl rfl 92 _ #[Value.int IntKind.i64 f1, Value.int IntKind.i64 d, Value.int IntKind.u32 (m : Nat), Value.int IntKind.u32 (m : Nat), Value.bool true] HTT.out size32 (show 3 < 5 by decide) rfl ?_))
   clear s2
   generalize hz : w6.setRow s _ = w7 at *
   clear hz HG HTT HR HO HS
   have HG := HGz
   have HTT := HTTz
   have HR := HRz
   have HO := HOz
   have HS := HSz
   clear HGz HTTz HRz HOz HSz
   have g0 : w7.cell? ⟨h, 0, none⟩ = some (.int .i64 t) := (block_range HG.out) 0 _ rfl
   have g2 : w7.cell? ⟨h, 2, none⟩ = some (.int .i64 i) := by simpa using (block_range HG.out) 2 _ rfl
   have s2 : w7.cell? ⟨s, 2, none⟩ = some (.int .u32 (m : Nat)) := by simpa using (block_range HTT.out) 2 _ rfl
   obtain ⟨dn, hdn⟩ : ∃ dn, nextN t i m = dn := ⟨_, rfl⟩
   have HDN := Shut.mk hdn
   clear hdn
   go_wp2
   go_still_tail 12, (by kernel_rfl)
   still_call (still_same (next_any t i m _ HML.out))
   rw [HDN.out]
   repeat still_step
   refine wpStill_nil ?_
   clear s2 g0 g2
   change wpList _ _ _ _ _ (World.drewN w7 1)
   generalize hq : World.drewN w7 1 = w8
   replace HG := Shut.mk (block_of hq HG.out)
   replace HTT := Shut.mk (block_of hq HTT.out)
   replace HR := Shut.mk (block_of hq HR.out)
   replace HO := Shut.mk (only_of hq HO.out)
   replace HS := Shut.mk (size_of hq HS.out)
   clear hq
   have HGz := Shut.mk ((setRow_other w8 s h #[Value.int IntKind.i64 f1, Value.int IntKind.i64 dn, Value.int IntKind.u32 (m : Nat), Value.int IntKind.u32 (m : Nat), Value.bool true] (by have := HH.out; omega)).trans HG.out)
   have HTTz := Shut.mk (setRow_heap w8 s _ #[Value.int IntKind.i64 f1, Value.int IntKind.i64 dn, Value.int IntKind.u32 (m : Nat), Value.int IntKind.u32 (m : Nat), Value.bool true] _ (0, 0) HTT.out)
   have HRz := Shut.mk ((setRow_other w8 s (s + 1) #[Value.int IntKind.i64 f1, Value.int IntKind.i64 dn, Value.int IntKind.u32 (m : Nat), Value.int IntKind.u32 (m : Nat), Value.bool true] (by have := HH.out; omega)).trans HR.out)
   have HOz := Shut.mk (HO.out.setRow (g := s) (fun e => by have := HH.out; first | rfl | omega) #[Value.int IntKind.i64 f1, Value.int IntKind.i64 dn, Value.int IntKind.u32 (m : Nat), Value.int IntKind.u32 (m : Nat), Value.bool true])
   have HSz : Shut (s + 2 ≤ (w8.setRow s #[Value.int IntKind.i64 f1, Value.int IntKind.i64 dn, Value.int IntKind.u32 (m : Nat), Value.int IntKind.u32 (m : Nat), Value.bool true]).heap.size) := ⟨Nat.le_trans HS.out (by simp [World.setRow])⟩
   have HGy := Shut.mk ((setRow_other (w8.setRow s #[Value.int IntKind.i64 f1, Value.int IntKind.i64 dn, Value.int IntKind.u32 (m : Nat), Value.int IntKind.u32 (m : Nat), Value.bool true]) (s + 1) h #[Value.int IntKind.i64 f1, Value.int IntKind.i64 dn, Value.int IntKind.u32 (m : Nat), Value.int IntKind.u32 (m : Nat), Value.bool true] (by have := HH.out; omega)).trans HGz.out)
   have HTTy := Shut.mk ((setRow_other (w8.setRow s #[Value.int IntKind.i64 f1, Value.int IntKind.i64 dn, Value.int IntKind.u32 (m : Nat), Value.int IntKind.u32 (m : Nat), Value.bool true]) (s + 1) s #[Value.int IntKind.i64 f1, Value.int IntKind.i64 dn, Value.int IntKind.u32 (m : Nat), Value.int IntKind.u32 (m : Nat), Value.bool true] (by have := HH.out; omega)).trans HTTz.out)
   have HRy := Shut.mk (setRow_heap (w8.setRow s #[Value.int IntKind.i64 f1, Value.int IntKind.i64 dn, Value.int IntKind.u32 (m : Nat), Value.int IntKind.u32 (m : Nat), Value.bool true]) (s + 1) _ #[Value.int IntKind.i64 f1, Value.int IntKind.i64 dn, Value.int IntKind.u32 (m : Nat), Value.int IntKind.u32 (m : Nat), Value.bool true] _ (0, 0) HRz.out)
   have HOy := Shut.mk (HOz.out.setRow (g := (s + 1)) (fun e => by have := HH.out; first | rfl | omega) #[Value.int IntKind.i64 f1, Value.int IntKind.i64 dn, Value.int IntKind.u32 (m : Nat), Value.int IntKind.u32 (m : Nat), Value.bool true])
   have HSy : Shut (s + 2 ≤ ((w8.setRow s #[Value.int IntKind.i64 f1, Value.int IntKind.i64 dn, Value.int IntKind.u32 (m : Nat), Value.int IntKind.u32 (m : Nat), Value.bool true]).setRow (s + 1) #[Value.int IntKind.i64 f1, Value.int IntKind.i64 dn, Value.int IntKind.u32 (m : Nat), Value.int IntKind.u32 (m : Nat), Value.bool true]).heap.size) := ⟨Nat.le_trans HSz.out (by simp [World.setRow])⟩
   go_wp2_with (first
    | (refine wpList_store_into rfl 2 (.tmp 59) (.tmp 58) rfl s 1 (.int .i64 dn) rfl rfl rfl 92 _ #[Value.int IntKind.i64 f1, Value.int IntKind.i64 dn, Value.int IntKind.u32 (m : Nat), Value.int IntKind.u32 (m : Nat), Value.bool true] HTT.out size64 (show 1 < 5 by decide) rfl ?_)
    | (refine wpList_load_row rfl 92 (.tmp 2) rfl s rfl 92 #[Value.int IntKind.i64 f1, Value.int IntKind.i64 dn, Value.int IntKind.u32 (m : Nat), Value.int IntKind.u32 (m : Nat), Value.bool true] (0, 0) _ HTTz.out Tryz.underlying92 rfl size1 ?_)
    | (refine wpList_store_row rfl 92 (.tmp 4) (.tmp 60) rfl (s + 1) #[Value.int IntKind.i64 f1, Value.int IntKind.i64 dn, Value.int IntKind.u32 (m : Nat), Value.int IntKind.u32 (m : Nat), Value.bool true] rfl rfl 92 _ HRz.out size1 rfl (cd_one _ _ _ _ _) ?_))
   exact bodyPost_ret (v := .agg #[Value.int IntKind.i64 f1, Value.int IntKind.i64 dn, Value.int IntKind.u32 (m : Nat), Value.int IntKind.u32 (m : Nat), Value.bool true]) (results_cell1 (p := 4) Tryz.results98 _ _ (s + 1) _ _ _ _ rfl HRy.out Tryz.underlying92 rfl size1) rfl ⟨by rw [HF.out, HDN.out], ⟨_, HGy.out⟩, HOy.out⟩
 ·have hm1 : m = 1 := by rw [← HBG.out]; exact begins_few (by show (n + 4294967296 - la) % 4294967296 ≤ 1; rw [HSN.out]; exact hA1)
  replace HTT : Shut (w5.heap[s]? = some (.cells #[Value.int IntKind.i64 f1, Value.int IntKind.i64 d, Value.int IntKind.u32 (m : Nat), Value.int IntKind.u32 (la : Nat), Value.bool true] 92 (0, 0))) := ⟨by rw [hm1]; exact HTT.out⟩
  clear hm1
  have q1 : decide ((1 : Int) < (sn : Int)) = false := by simp only [decide_eq_false_iff_not]; omega
  clear hA1
  go_wp2
  refine wp_region_held_drew (S := fun w' => Below w5.heap.size w5 w') (by kernel_rfl) (Below.refl _ _).drew (fun hHeld => ?_)
  clear hHeld
  have HG6 : Shut (w5.drew.heap[h]? = _) := ⟨HG.out⟩
  have HT6 : Shut (w5.drew.heap[s]? = _) := ⟨HTT.out⟩
  have HR6 : Shut (w5.drew.heap[s + 1]? = _) := ⟨HR.out⟩
  have HO6 : Shut (Only (· = h) w0 w5.drew) := ⟨HO.out.drew 1⟩
  have HS6 : Shut (s + 2 ≤ w5.drew.heap.size) := ⟨HS.out⟩
  have HB6 : Shut (Below w5.heap.size w5 w5.drew) := ⟨(Below.refl _ _).drew⟩
  clear HG HTT HR HO HS
  generalize w5.drew = w6 at *
  have HG := HG6
  have HTT := HT6
  have HR := HR6
  have HO := HO6
  have HS := HS6
  have hb6 := HB6.out
  clear HG6 HT6 HR6 HO6 HS6 HB6
  refine hP 0 ?_
  refine hP 1 ?_
  refine hP 2 ?_
  refine wpAnyH_take (i := 3) (v := undef) rfl (by kernel_rfl) (by kernel_rfl) (by kernel_rfl) (fun _ _ _ h => h) (Or.inr ⟨by rfl, rfl⟩) (by assumption) ?_
  try simp only [Act.put, sG1, sG2, sG3, sG4, sG5, sG6]
  refine wpAnyH_take (i := 4) (v := undef) rfl (by kernel_rfl) (by kernel_rfl) (by kernel_rfl) (fun _ _ _ h => h) (Or.inr ⟨by rfl, rfl⟩) (by assumption) ?_
  try simp only [Act.put, sG1, sG2, sG3, sG4, sG5, sG6]
  refine wpAnyH_take (i := 5) (v := undef) rfl (by kernel_rfl) (by kernel_rfl) (by kernel_rfl) (fun _ _ _ h => h) (Or.inr ⟨by rfl, rfl⟩) (by assumption) ?_
  try simp only [Act.put, sG1, sG2, sG3, sG4, sG5, sG6]
  refine wpAnyH_take (i := 6) (v := undef) rfl (by kernel_rfl) (by kernel_rfl) (by kernel_rfl) (fun _ _ _ h => h) (Or.inr ⟨by rfl, rfl⟩) (by assumption) ?_
  try simp only [Act.put, sG1, sG2, sG3, sG4, sG5, sG6]
  refine wpAnyH_take (i := 7) (v := undef) rfl (by kernel_rfl) (by kernel_rfl) (by kernel_rfl) (fun _ _ _ h => h) (Or.inr ⟨by rfl, rfl⟩) (by assumption) ?_
  try simp only [Act.put, sG1, sG2, sG3, sG4, sG5, sG6]
  refine wpAnyH_take (i := 8) (v := undef) rfl (by kernel_rfl) (by kernel_rfl) (by kernel_rfl) (fun _ _ _ h => h) (Or.inr ⟨by rfl, rfl⟩) (by assumption) ?_
  try simp only [Act.put, sG1, sG2, sG3, sG4, sG5, sG6]
  refine wpAnyH_take (i := 9) (v := undef) rfl (by kernel_rfl) (by kernel_rfl) (by kernel_rfl) (fun _ _ _ h => h) (Or.inr ⟨by rfl, rfl⟩) (by assumption) ?_
  try simp only [Act.put, sG1, sG2, sG3, sG4, sG5, sG6]
  refine wpAnyH_take (i := 10) (v := undef) rfl (by kernel_rfl) (by kernel_rfl) (by kernel_rfl) (fun _ _ _ h => h) (Or.inr ⟨by rfl, rfl⟩) (by assumption) ?_
  try simp only [Act.put, sG1, sG2, sG3, sG4, sG5, sG6]
  refine wpAnyH_take (i := 11) (v := undef) rfl (by kernel_rfl) (by kernel_rfl) (by kernel_rfl) (fun _ _ _ h => h) (Or.inr ⟨by rfl, rfl⟩) (by assumption) ?_
  try simp only [Act.put, sG1, sG2, sG3, sG4, sG5, sG6]
  refine wpAnyH_take (i := 12) (v := undef) rfl (by kernel_rfl) (by kernel_rfl) (by kernel_rfl) (fun _ _ _ h => h) (Or.inr ⟨by rfl, rfl⟩) (by assumption) ?_
  try simp only [Act.put, sG1, sG2, sG3, sG4, sG5, sG6]
  refine wpAnyH_take (i := 13) (v := undef) rfl (by kernel_rfl) (by kernel_rfl) (by kernel_rfl) (fun _ _ _ h => h) (Or.inr ⟨by rfl, rfl⟩) (by assumption) ?_
  try simp only [Act.put, sG1, sG2, sG3, sG4, sG5, sG6]
  refine wpAnyH_take (i := 14) (v := undef) rfl (by kernel_rfl) (by kernel_rfl) (by kernel_rfl) (fun _ _ _ h => h) (Or.inr ⟨by rfl, rfl⟩) (by assumption) ?_
  try simp only [Act.put, sG1, sG2, sG3, sG4, sG5, sG6]
  refine wpAnyH_take (i := 15) (v := undef) rfl (by kernel_rfl) (by kernel_rfl) (by kernel_rfl) (fun _ _ _ h => h) (Or.inr ⟨by rfl, rfl⟩) (by assumption) ?_
  try simp only [Act.put, sG1, sG2, sG3, sG4, sG5, sG6]
  refine hP 16 ?_
  refine wpAnyH_done (by kernel_rfl) ?_ _
  try simp only [Act.put, sG1, sG2, sG3, sG4, sG5, sG6]
  clear hb6
  clear q1
  have s2 : w6.cell? ⟨s, 2, none⟩ = some (.int .u32 (m : Nat)) := by simpa using (block_range HTT.out) 2 _ rfl
  have HGz := Shut.mk ((setRow_other w6 s h #[Value.int IntKind.i64 f1, Value.int IntKind.i64 d, Value.int IntKind.u32 (m : Nat), Value.int IntKind.u32 (m : Nat), Value.bool true] (by have := HH.out; omega)).trans HG.out)
  have HTTz := Shut.mk (setRow_heap w6 s _ #[Value.int IntKind.i64 f1, Value.int IntKind.i64 d, Value.int IntKind.u32 (m : Nat), Value.int IntKind.u32 (m : Nat), Value.bool true] _ (0, 0) HTT.out)
  have HRz := Shut.mk ((setRow_other w6 s (s + 1) #[Value.int IntKind.i64 f1, Value.int IntKind.i64 d, Value.int IntKind.u32 (m : Nat), Value.int IntKind.u32 (m : Nat), Value.bool true] (by have := HH.out; omega)).trans HR.out)
  have HOz := Shut.mk (HO.out.setRow (g := s) (fun e => by have := HH.out; first | rfl | omega) #[Value.int IntKind.i64 f1, Value.int IntKind.i64 d, Value.int IntKind.u32 (m : Nat), Value.int IntKind.u32 (m : Nat), Value.bool true])
  have HSz : Shut (s + 2 ≤ (w6.setRow s #[Value.int IntKind.i64 f1, Value.int IntKind.i64 d, Value.int IntKind.u32 (m : Nat), Value.int IntKind.u32 (m : Nat), Value.bool true]).heap.size) := ⟨Nat.le_trans HS.out (by simp [World.setRow])⟩
  go_upto_region 9 with (first
   | (refine wpList_store_into rfl 22 (.tmp 47) (.tmp 46) rfl s 3 (.int .u32 ((m : Nat) : Int)) rfl rfl rfl 92 _ #[Value.int IntKind.i64 f1, Value.int IntKind.i64 d, Value.int IntKind.u32 (m : Nat), Value.int IntKind.u32 (m : Nat), Value.bool true] HTT.out size32 (show 3 < 5 by decide) rfl ?_))
  clear s2
  generalize hz : w6.setRow s _ = w7 at *
  clear hz HG HTT HR HO HS
  have HG := HGz
  have HTT := HTTz
  have HR := HRz
  have HO := HOz
  have HS := HSz
  clear HGz HTTz HRz HOz HSz
  have g0 : w7.cell? ⟨h, 0, none⟩ = some (.int .i64 t) := (block_range HG.out) 0 _ rfl
  have g2 : w7.cell? ⟨h, 2, none⟩ = some (.int .i64 i) := by simpa using (block_range HG.out) 2 _ rfl
  have s2 : w7.cell? ⟨s, 2, none⟩ = some (.int .u32 (m : Nat)) := by simpa using (block_range HTT.out) 2 _ rfl
  obtain ⟨dn, hdn⟩ : ∃ dn, nextN t i m = dn := ⟨_, rfl⟩
  have HDN := Shut.mk hdn
  clear hdn
  go_wp2
  go_still_tail 12, (by kernel_rfl)
  still_call (still_same (next_any t i m _ HML.out))
  rw [HDN.out]
  repeat still_step
  refine wpStill_nil ?_
  clear s2 g0 g2
  change wpList _ _ _ _ _ (World.drewN w7 1)
  generalize hq : World.drewN w7 1 = w8
  replace HG := Shut.mk (block_of hq HG.out)
  replace HTT := Shut.mk (block_of hq HTT.out)
  replace HR := Shut.mk (block_of hq HR.out)
  replace HO := Shut.mk (only_of hq HO.out)
  replace HS := Shut.mk (size_of hq HS.out)
  clear hq
  have HGz := Shut.mk ((setRow_other w8 s h #[Value.int IntKind.i64 f1, Value.int IntKind.i64 dn, Value.int IntKind.u32 (m : Nat), Value.int IntKind.u32 (m : Nat), Value.bool true] (by have := HH.out; omega)).trans HG.out)
  have HTTz := Shut.mk (setRow_heap w8 s _ #[Value.int IntKind.i64 f1, Value.int IntKind.i64 dn, Value.int IntKind.u32 (m : Nat), Value.int IntKind.u32 (m : Nat), Value.bool true] _ (0, 0) HTT.out)
  have HRz := Shut.mk ((setRow_other w8 s (s + 1) #[Value.int IntKind.i64 f1, Value.int IntKind.i64 dn, Value.int IntKind.u32 (m : Nat), Value.int IntKind.u32 (m : Nat), Value.bool true] (by have := HH.out; omega)).trans HR.out)
  have HOz := Shut.mk (HO.out.setRow (g := s) (fun e => by have := HH.out; first | rfl | omega) #[Value.int IntKind.i64 f1, Value.int IntKind.i64 dn, Value.int IntKind.u32 (m : Nat), Value.int IntKind.u32 (m : Nat), Value.bool true])
  have HSz : Shut (s + 2 ≤ (w8.setRow s #[Value.int IntKind.i64 f1, Value.int IntKind.i64 dn, Value.int IntKind.u32 (m : Nat), Value.int IntKind.u32 (m : Nat), Value.bool true]).heap.size) := ⟨Nat.le_trans HS.out (by simp [World.setRow])⟩
  have HGy := Shut.mk ((setRow_other (w8.setRow s #[Value.int IntKind.i64 f1, Value.int IntKind.i64 dn, Value.int IntKind.u32 (m : Nat), Value.int IntKind.u32 (m : Nat), Value.bool true]) (s + 1) h #[Value.int IntKind.i64 f1, Value.int IntKind.i64 dn, Value.int IntKind.u32 (m : Nat), Value.int IntKind.u32 (m : Nat), Value.bool true] (by have := HH.out; omega)).trans HGz.out)
  have HTTy := Shut.mk ((setRow_other (w8.setRow s #[Value.int IntKind.i64 f1, Value.int IntKind.i64 dn, Value.int IntKind.u32 (m : Nat), Value.int IntKind.u32 (m : Nat), Value.bool true]) (s + 1) s #[Value.int IntKind.i64 f1, Value.int IntKind.i64 dn, Value.int IntKind.u32 (m : Nat), Value.int IntKind.u32 (m : Nat), Value.bool true] (by have := HH.out; omega)).trans HTTz.out)
  have HRy := Shut.mk (setRow_heap (w8.setRow s #[Value.int IntKind.i64 f1, Value.int IntKind.i64 dn, Value.int IntKind.u32 (m : Nat), Value.int IntKind.u32 (m : Nat), Value.bool true]) (s + 1) _ #[Value.int IntKind.i64 f1, Value.int IntKind.i64 dn, Value.int IntKind.u32 (m : Nat), Value.int IntKind.u32 (m : Nat), Value.bool true] _ (0, 0) HRz.out)
  have HOy := Shut.mk (HOz.out.setRow (g := (s + 1)) (fun e => by have := HH.out; first | rfl | omega) #[Value.int IntKind.i64 f1, Value.int IntKind.i64 dn, Value.int IntKind.u32 (m : Nat), Value.int IntKind.u32 (m : Nat), Value.bool true])
  have HSy : Shut (s + 2 ≤ ((w8.setRow s #[Value.int IntKind.i64 f1, Value.int IntKind.i64 dn, Value.int IntKind.u32 (m : Nat), Value.int IntKind.u32 (m : Nat), Value.bool true]).setRow (s + 1) #[Value.int IntKind.i64 f1, Value.int IntKind.i64 dn, Value.int IntKind.u32 (m : Nat), Value.int IntKind.u32 (m : Nat), Value.bool true]).heap.size) := ⟨Nat.le_trans HSz.out (by simp [World.setRow])⟩
  go_wp2_with (first
   | (refine wpList_store_into rfl 2 (.tmp 59) (.tmp 58) rfl s 1 (.int .i64 dn) rfl rfl rfl 92 _ #[Value.int IntKind.i64 f1, Value.int IntKind.i64 dn, Value.int IntKind.u32 (m : Nat), Value.int IntKind.u32 (m : Nat), Value.bool true] HTT.out size64 (show 1 < 5 by decide) rfl ?_)
   | (refine wpList_load_row rfl 92 (.tmp 2) rfl s rfl 92 #[Value.int IntKind.i64 f1, Value.int IntKind.i64 dn, Value.int IntKind.u32 (m : Nat), Value.int IntKind.u32 (m : Nat), Value.bool true] (0, 0) _ HTTz.out Tryz.underlying92 rfl size1 ?_)
   | (refine wpList_store_row rfl 92 (.tmp 4) (.tmp 60) rfl (s + 1) #[Value.int IntKind.i64 f1, Value.int IntKind.i64 dn, Value.int IntKind.u32 (m : Nat), Value.int IntKind.u32 (m : Nat), Value.bool true] rfl rfl 92 _ HRz.out size1 rfl (cd_one _ _ _ _ _) ?_))
  exact bodyPost_ret (v := .agg #[Value.int IntKind.i64 f1, Value.int IntKind.i64 dn, Value.int IntKind.u32 (m : Nat), Value.int IntKind.u32 (m : Nat), Value.bool true]) (results_cell1 (p := 4) Tryz.results98 _ _ (s + 1) _ _ _ _ rfl HRy.out Tryz.underlying92 rfl size1) rfl ⟨by rw [HF.out, HDN.out], ⟨_, HGy.out⟩, HOy.out⟩
end Go.Proofs.YtndkmgcmegcieaaGreatDoor
