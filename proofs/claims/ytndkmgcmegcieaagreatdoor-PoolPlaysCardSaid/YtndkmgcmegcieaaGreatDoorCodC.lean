/-
  CONTRACT of Codel.goOn.
-/
import Derived.Test.YtndkmgcmegcieaaGreatDoorCodB
import Derived.LoopTactic
namespace Go.Proofs.YtndkmgcmegcieaaGreatDoor
open Go.ChangeShapes Go.WideShapes Go.ChangeAt Go.RowKit Go.Deep
set_option linter.unusedVariables false
set_option linter.unusedSimpArgs false
theorem drop_at {α : Type} {l : List α} {k : Nat} (h : k < l.length) : ∃ x, l.drop k = x :: l.drop (k + 1) := ⟨_, List.drop_eq_getElem_cons h⟩
theorem drops_end {q : Pl} {c : Cd} {b : Int} {l : List It} {k : Nat} (hk : k < l.length) (h : ¬ c.drop ≤ q.now) : dropsR q k c b (l.drop k) = (c, k, true) := by
 obtain ⟨x, hx⟩ := drop_at hk
 rw [hx]
 unfold dropsR
 rw [if_neg h]
theorem drops_out {q : Pl} {c : Cd} {b : Int} {l : List It} {k k1 : Nat} (h1 : k + 1 = k1) (hk : k < l.length) (h : c.drop ≤ q.now) (hl : lookL q c.first b (l.drop k1) = false) :
 dropsR q k c b (l.drop k) = (⟨lookF q c.first b (l.drop k1), c.drop, more c.count, c.last, false⟩, k1, !(l.drop k1).isEmpty) := by
 subst h1
 obtain ⟨x, hx⟩ := drop_at hk
 rw [hx]
 unfold dropsR
 rw [if_pos h, if_neg (by rw [hl]; decide)]
theorem drops_on {q : Pl} {c : Cd} {b : Int} {l : List It} {k k1 : Nat} (h1 : k + 1 = k1) (hk : k < l.length) (h : c.drop ≤ q.now) (hl : lookL q c.first b (l.drop k1) = true) :
 dropsR q k c b (l.drop k) = dropsR q k1 ⟨lookF q c.first b (l.drop k1), nextN c.drop q.interval (more c.count), more c.count, c.last, true⟩ (lookB b (l.drop k1)) (l.drop k1) := by
 subst h1
 obtain ⟨x, hx⟩ := drop_at hk
 rw [hx]
 conv => lhs; unfold dropsR
 rw [if_pos h, if_pos hl]
theorem late_there {q : Pl} {f b : Int} {l : List It} {k : Nat} (h : lookL q f b (l.drop k) = true) : k < l.length := by
 have := (look_late h).1
 rcases Nat.lt_or_ge k l.length with h1 | h1
 ·exact h1
 ·exact absurd (List.drop_eq_nil_of_le h1) this
theorem lookB_in {b : Int} {l : List It} {k : Nat} (hx : ∀ x ∈ l, 0 ≤ x.at_ ∧ x.at_ ≤ 4503599627370496 ∧ x.len ≤ 1048576) : b - 1048576 ≤ lookB b (l.drop k) ∧ lookB b (l.drop k) ≤ b := by
 cases hd : l.drop k with
 | nil => exact ⟨by show b - _ ≤ b; omega, by show b ≤ b; omega⟩
 | cons x r =>
  have := hx x (List.drop_subset k l (by rw [hd]; exact List.mem_cons_self ..))
  exact ⟨by show b - _ ≤ b - max _ _; omega, by show b - max _ _ ≤ b; omega⟩
theorem more_lt {n : Nat} (h : n < 4294967296) : more n < 4294967296 := by unfold more; split <;> omega
theorem block_of {w wq : World} {n g : Nat} {o : Obj} (hq : World.drewN w n = wq) (hg : w.heap[g]? = some o) : wq.heap[g]? = some o := by subst hq; exact hg
theorem only_of {S : Nat → Prop} {a w wq : World} {n : Nat} (hq : World.drewN w n = wq) (h : Only S a w) : Only S a wq := by subst hq; exact h.drew n
theorem size_of {w wq : World} {n m : Nat} (hq : World.drewN w n = wq) (h : m ≤ w.heap.size) : m ≤ wq.heap.size := by subst hq; exact h
def measC (h len : Nat) (w : World) : Nat := match w.heap[h]? with
 | some (.cells cs _ _) => len - (intOf (cs.getD 5 undef)).toNat
 | _ => 0
theorem measC_eq {t g i b : Int} {s : Value} {k h len : Nat} {w : World} (hg : w.heap[h]? = some (Obj.cells #[Value.int IntKind.i64 t, Value.int IntKind.i64 g, Value.int IntKind.i64 i, Value.int IntKind.i64 b, s, Value.int IntKind.i64 ((k : Nat) : Int)] 151 (0, 0))) : measC h len w = len - k := by
 unfold measC
 rw [hg]
 simp [intOf]
set_option maxRecDepth 100000 in
set_option maxHeartbeats 8000000 in
theorem goOn_any (t g i b f d : Int) (n la : Nat) (A : Option Addr) (len cap k h : Nat) (l : List It) (w0 : World) (hg : w0.heap[h]? = some (Obj.cells #[Value.int IntKind.i64 t, Value.int IntKind.i64 g, Value.int IntKind.i64 i, Value.int IntKind.i64 (max b 0), Value.slice A len cap, Value.int IntKind.i64 ((k : Nat) : Int)] 151 (0, 0))) (hl : RowS itC 2 it00 w0 A len l) (hA : ∀ p, A = some p → 0 < len → p.block ≠ h) (hk : k < len)
 (ht : 0 ≤ t ∧ t ≤ 4503599627370496) (hi : 0 ≤ i ∧ i ≤ 1073741824) (hb : -1048576 * (k + 1 : Int) ≤ b ∧ b ≤ 1099511627776) (hx : ∀ x ∈ l, 0 ≤ x.at_ ∧ x.at_ ≤ 4503599627370496 ∧ x.len ≤ 1048576) (hlen : len ≤ 1000) (hn : n < 4294967296) (R : Cd × Nat × Bool) (hR : dropsR ⟨t, g, i⟩ k ⟨f, d, n, la, true⟩ b (l.drop k) = R) :
 Calls Tryz.prog 97 #[(Value.agg #[Value.int IntKind.i64 f, Value.int IntKind.i64 d, Value.int IntKind.u32 ((n : Nat) : Int), Value.int IntKind.u32 ((la : Nat) : Int), Value.bool true]), .pointer (some ⟨h, 0, none⟩)] w0 fun e w' => e = .returned (Value.agg #[Value.int IntKind.i64 R.1.first, Value.int IntKind.i64 R.1.drop, Value.int IntKind.u32 ((R.1.count : Nat) : Int), Value.int IntKind.u32 ((R.1.last : Nat) : Int), Value.bool R.1.on]) ∧
  (∃ B : Int, w'.heap[h]? = some (Obj.cells #[Value.int IntKind.i64 t, Value.int IntKind.i64 g, Value.int IntKind.i64 i, Value.int IntKind.i64 B, Value.slice A len cap, Value.int IntKind.i64 ((R.2.1 : Nat) : Int)] 151 (0, 0))) ∧ Only (· = h) w0 w' := by
 have H0 := Shut.mk (two_alloc w0 (Obj.cells #[Value.int IntKind.i64 f, Value.int IntKind.i64 d, Value.int IntKind.u32 (n : Nat), Value.int IntKind.u32 (la : Nat), Value.bool true] 92 (0, 0)) (Obj.cells #[Value.int IntKind.i64 0, Value.int IntKind.i64 0, Value.int IntKind.u32 0, Value.int IntKind.u32 0, Value.bool false] 92 (0, 0)))
 have hh : h < w0.heap.size := lt_blk hg
 have HX := Shut.mk hx
 have HA := Shut.mk hA
 have HT := Shut.mk ht
 have HI := Shut.mk hi
 have HL0 := Shut.mk hl
 have HLL := Shut.mk hl.len
 have HG1 := Shut.mk ((H0.out.1.block h hh).trans hg)
 have HO1 := Shut.mk (Only.of_quiet (S := (· = h)) H0.out.1)
 have HM := Shut.mk (show len ≤ 1000 from hlen)
 have START := Shut.mk (show k < len ∧ n < 4294967296 ∧ (-1048576 * (k + 1 : Int) ≤ b ∧ b ≤ 1099511627776) ∧ dropsR ⟨t, g, i⟩ k ⟨f, d, n, la, true⟩ b (l.drop k) = R from ⟨hk, hn, hb, hR⟩)
 clear hx hA ht hi hb hk hg hl hlen hn hR
 go_enter Tryz.func97, Tryz.ntmps97
 go_wp2_with (fail)
 generalize (w0.alloc _).alloc _ = w1 at *
 go_loopw [] (fun wr => ∃ (k n : Nat) (f d b : Int), wr.heap[h]? = some (Obj.cells #[Value.int IntKind.i64 t, Value.int IntKind.i64 g, Value.int IntKind.i64 i, Value.int IntKind.i64 (max b 0), Value.slice A len cap, Value.int IntKind.i64 ((k : Nat) : Int)] 151 (0, 0)) ∧ wr.heap[w0.heap.size]? = some (.cells #[Value.int IntKind.i64 f, Value.int IntKind.i64 d, Value.int IntKind.u32 (n : Nat), Value.int IntKind.u32 (la : Nat), Value.bool true] 92 (0, 0)) ∧
  wr.heap[w0.heap.size + 1]? = some (.cells #[Value.int IntKind.i64 0, Value.int IntKind.i64 0, Value.int IntKind.u32 0, Value.int IntKind.u32 0, Value.bool false] 92 (0, 0)) ∧ Only (· = h) w0 wr ∧ w0.heap.size + 2 ≤ wr.heap.size ∧ k < len ∧ n < 4294967296 ∧ (-1048576 * (k + 1 : Int) ≤ b ∧ b ≤ 1099511627776) ∧ dropsR ⟨t, g, i⟩ k ⟨f, d, n, la, true⟩ b (l.drop k) = R) (fun wr => measC h len wr)
 case atStart => exact ⟨k, n, f, d, b, HG1.out, H0.out.2.1, H0.out.2.2.1, HO1.out, Nat.le_of_eq H0.out.2.2.2.symm, START.out⟩
 case round =>
  clear START HG1 HO1 H0 
  obtain ⟨kk, nn, ff, dd, bb, hG, hT, hR, hO, hS, hk, hn, hb, hE⟩ := hrel
  have HH := Shut.mk hh
  have HG := Shut.mk hG
  have HTT := Shut.mk hT
  have HR := Shut.mk hR
  have HO := Shut.mk hO
  have HS := Shut.mk hS
  have HE := Shut.mk hE
  have HK := Shut.mk hk
  have HBB := Shut.mk hb
  have HKl : Shut (kk < l.length) := ⟨by rw [HLL.out]; exact hk⟩
  have g0 : wr.cell? ⟨h, 0, none⟩ = some (.int .i64 t) := (block_range hG) 0 _ rfl
  have s1 : wr.cell? ⟨w0.heap.size, 1, none⟩ = some (.int .i64 dd) := by simpa using (block_range hT) 1 _ rfl
  clear hG hT hR hO hS hE hb hh
  generalize hs0 : w0.heap.size = s at *
  rcases Int.lt_or_le t dd with h1 | h1
  ·have e := HE.out
   rw [drops_end HKl.out (by show ¬ dd ≤ t; omega)] at e
   subst e
   go_wp2
   go_quiet (fail)
   generalize hq : World.drewN wr _ = wq
   replace HG := Shut.mk (block_of hq HG.out)
   replace HTT := Shut.mk (block_of hq HTT.out)
   replace HR := Shut.mk (block_of hq HR.out)
   replace HO := Shut.mk (only_of hq HO.out)
   replace HS := Shut.mk (size_of hq HS.out)
   clear hq
   clear g0 s1
   have HGz := Shut.mk ((setRow_other wq (s + 1) h #[Value.int IntKind.i64 ff, Value.int IntKind.i64 dd, Value.int IntKind.u32 (nn : Nat), Value.int IntKind.u32 (la : Nat), Value.bool true] (by have := HH.out; omega)).trans HG.out)
   have HTTz := Shut.mk ((setRow_other wq (s + 1) s #[Value.int IntKind.i64 ff, Value.int IntKind.i64 dd, Value.int IntKind.u32 (nn : Nat), Value.int IntKind.u32 (la : Nat), Value.bool true] (by have := HH.out; omega)).trans HTT.out)
   have HRz := Shut.mk (setRow_heap wq (s + 1) _ #[Value.int IntKind.i64 ff, Value.int IntKind.i64 dd, Value.int IntKind.u32 (nn : Nat), Value.int IntKind.u32 (la : Nat), Value.bool true] _ (0, 0) HR.out)
   have HOz := Shut.mk (HO.out.setRow (g := (s + 1)) (fun e => by have := HH.out; first | rfl | omega) #[Value.int IntKind.i64 ff, Value.int IntKind.i64 dd, Value.int IntKind.u32 (nn : Nat), Value.int IntKind.u32 (la : Nat), Value.bool true])
   have HSz : Shut (s + 2 ≤ (wq.setRow (s + 1) #[Value.int IntKind.i64 ff, Value.int IntKind.i64 dd, Value.int IntKind.u32 (nn : Nat), Value.int IntKind.u32 (la : Nat), Value.bool true]).heap.size) := ⟨Nat.le_trans HS.out (by simp [World.setRow])⟩
   go_wp2_with (first
    | (refine wpList_load_row rfl 92 (.tmp 2) rfl s rfl 92 #[Value.int IntKind.i64 ff, Value.int IntKind.i64 dd, Value.int IntKind.u32 (nn : Nat), Value.int IntKind.u32 (la : Nat), Value.bool true] (0, 0) _ HTT.out Tryz.underlying92 rfl size1 ?_)
    | (refine wpList_store_row rfl 92 (.tmp 4) (.tmp 48) rfl (s + 1) #[Value.int IntKind.i64 ff, Value.int IntKind.i64 dd, Value.int IntKind.u32 (nn : Nat), Value.int IntKind.u32 (la : Nat), Value.bool true] rfl rfl 92 _ HR.out size1 rfl (cd_one _ _ _ _ _) ?_))
   exact bodyPost_ret (v := .agg #[Value.int IntKind.i64 ff, Value.int IntKind.i64 dd, Value.int IntKind.u32 (nn : Nat), Value.int IntKind.u32 (la : Nat), Value.bool true]) (results_cell1 (p := 4) Tryz.results97 _ _ (s + 1) _ _ _ _ rfl HRz.out Tryz.underlying92 rfl size1) rfl ⟨rfl, ⟨_, HGz.out⟩, HOz.out⟩
  ·have HGW := HG
   obtain ⟨k1, hk1⟩ : ∃ k1, kk + 1 = k1 := ⟨_, rfl⟩
   have HK1 := Shut.mk hk1
   clear hk1
   obtain ⟨n1, hn1⟩ : ∃ n1, more nn = n1 := ⟨_, rfl⟩
   have HM1 := Shut.mk hn1
   have HN1 : Shut (n1 < 4294967296) := ⟨by rw [← hn1]; exact more_lt hn⟩
   clear hn1 hn
   rcases Decidable.em (nn < 4294967295) with h2 | h2
   ·go_wp2
    go_quiet (fail)
    generalize hq : World.drewN wr _ = wq
    replace HG := Shut.mk (block_of hq HG.out)
    replace HTT := Shut.mk (block_of hq HTT.out)
    replace HR := Shut.mk (block_of hq HR.out)
    replace HO := Shut.mk (only_of hq HO.out)
    replace HS := Shut.mk (size_of hq HS.out)
    clear hq
    clear g0 s1
    have g5 : wq.cell? ⟨h, 5, none⟩ = some (.int .i64 (kk : Nat)) := by simpa using (block_range HG.out) 5 _ rfl
    have y5 : IntKind.i64.wrap ((kk : Int) + 1) = ((k1 : Nat) : Int) := by rw [IntWalk.i64_in _ ⟨by omega, by have := HK.out; have := HM.out; omega⟩]; have := HK1.out; omega
    have HGz := Shut.mk (setRow_heap wq h _ #[Value.int IntKind.i64 t, Value.int IntKind.i64 g, Value.int IntKind.i64 i, Value.int IntKind.i64 (max bb 0), Value.slice A len cap, Value.int IntKind.i64 (k1 : Nat)] _ (0, 0) HG.out)
    have HTTz := Shut.mk ((setRow_other wq h s #[Value.int IntKind.i64 t, Value.int IntKind.i64 g, Value.int IntKind.i64 i, Value.int IntKind.i64 (max bb 0), Value.slice A len cap, Value.int IntKind.i64 (k1 : Nat)] (by have := HH.out; omega)).trans HTT.out)
    have HRz := Shut.mk ((setRow_other wq h (s + 1) #[Value.int IntKind.i64 t, Value.int IntKind.i64 g, Value.int IntKind.i64 i, Value.int IntKind.i64 (max bb 0), Value.slice A len cap, Value.int IntKind.i64 (k1 : Nat)] (by have := HH.out; omega)).trans HR.out)
    have HOz := Shut.mk (HO.out.setRow (g := h) (fun e => by have := HH.out; first | rfl | omega) #[Value.int IntKind.i64 t, Value.int IntKind.i64 g, Value.int IntKind.i64 i, Value.int IntKind.i64 (max bb 0), Value.slice A len cap, Value.int IntKind.i64 (k1 : Nat)])
    have HSz : Shut (s + 2 ≤ (wq.setRow h #[Value.int IntKind.i64 t, Value.int IntKind.i64 g, Value.int IntKind.i64 i, Value.int IntKind.i64 (max bb 0), Value.slice A len cap, Value.int IntKind.i64 (k1 : Nat)]).heap.size) := ⟨Nat.le_trans HS.out (by simp [World.setRow])⟩
    have s2 : (wq.setRow h #[Value.int IntKind.i64 t, Value.int IntKind.i64 g, Value.int IntKind.i64 i, Value.int IntKind.i64 (max bb 0), Value.slice A len cap, Value.int IntKind.i64 (k1 : Nat)]).cell? ⟨s, 2, none⟩ = some (.int .u32 (nn : Nat)) := by simpa using (block_range HTTz.out) 2 _ rfl
    have q2 : (nn : Int) < 4294967295 := by omega
    have y2 : IntKind.u32.wrap ((nn : Int) + 1) = ((n1 : Nat) : Int) := by rw [IntWalk.u32_in _ ⟨by omega, by omega⟩]; have := HM1.out; unfold more at this; rw [if_pos h2] at this; omega
    clear h2
    have HGy := Shut.mk ((setRow_other (wq.setRow h #[Value.int IntKind.i64 t, Value.int IntKind.i64 g, Value.int IntKind.i64 i, Value.int IntKind.i64 (max bb 0), Value.slice A len cap, Value.int IntKind.i64 (k1 : Nat)]) s h #[Value.int IntKind.i64 ff, Value.int IntKind.i64 dd, Value.int IntKind.u32 (n1 : Nat), Value.int IntKind.u32 (la : Nat), Value.bool true] (by have := HH.out; omega)).trans HGz.out)
    have HTTy := Shut.mk (setRow_heap (wq.setRow h #[Value.int IntKind.i64 t, Value.int IntKind.i64 g, Value.int IntKind.i64 i, Value.int IntKind.i64 (max bb 0), Value.slice A len cap, Value.int IntKind.i64 (k1 : Nat)]) s _ #[Value.int IntKind.i64 ff, Value.int IntKind.i64 dd, Value.int IntKind.u32 (n1 : Nat), Value.int IntKind.u32 (la : Nat), Value.bool true] _ (0, 0) HTTz.out)
    have HRy := Shut.mk ((setRow_other (wq.setRow h #[Value.int IntKind.i64 t, Value.int IntKind.i64 g, Value.int IntKind.i64 i, Value.int IntKind.i64 (max bb 0), Value.slice A len cap, Value.int IntKind.i64 (k1 : Nat)]) s (s + 1) #[Value.int IntKind.i64 ff, Value.int IntKind.i64 dd, Value.int IntKind.u32 (n1 : Nat), Value.int IntKind.u32 (la : Nat), Value.bool true] (by have := HH.out; omega)).trans HRz.out)
    have HOy := Shut.mk (HOz.out.setRow (g := s) (fun e => by have := HH.out; first | rfl | omega) #[Value.int IntKind.i64 ff, Value.int IntKind.i64 dd, Value.int IntKind.u32 (n1 : Nat), Value.int IntKind.u32 (la : Nat), Value.bool true])
    have HSy : Shut (s + 2 ≤ ((wq.setRow h #[Value.int IntKind.i64 t, Value.int IntKind.i64 g, Value.int IntKind.i64 i, Value.int IntKind.i64 (max bb 0), Value.slice A len cap, Value.int IntKind.i64 (k1 : Nat)]).setRow s #[Value.int IntKind.i64 ff, Value.int IntKind.i64 dd, Value.int IntKind.u32 (n1 : Nat), Value.int IntKind.u32 (la : Nat), Value.bool true]).heap.size) := ⟨Nat.le_trans HSz.out (by simp [World.setRow])⟩
    go_wp2_with (first
     | (refine wpList_store_into rfl 3 (.tmp 19) (.tmp 17) rfl h 5 (.int .i64 ((k1 : Nat) : Int)) rfl rfl rfl 151 _ #[Value.int IntKind.i64 t, Value.int IntKind.i64 g, Value.int IntKind.i64 i, Value.int IntKind.i64 (max bb 0), Value.slice A len cap, Value.int IntKind.i64 (k1 : Nat)] HG.out sizeI64 (show 5 < 6 by decide) rfl ?_)
     | (refine wpList_store_into rfl 22 (.tmp 26) (.tmp 25) rfl s 2 (.int .u32 ((n1 : Nat) : Int)) rfl rfl rfl 92 _ #[Value.int IntKind.i64 ff, Value.int IntKind.i64 dd, Value.int IntKind.u32 (n1 : Nat), Value.int IntKind.u32 (la : Nat), Value.bool true] HTTz.out size32 (show 2 < 5 by decide) rfl ?_)
     | (refine wpList_load_row rfl 92 (.tmp 2) rfl s rfl 92 #[Value.int IntKind.i64 ff, Value.int IntKind.i64 dd, Value.int IntKind.u32 (n1 : Nat), Value.int IntKind.u32 (la : Nat), Value.bool true] (0, 0) _ HTTy.out Tryz.underlying92 rfl size1 ?_))
    clear g5 y5 s2 q2 y2
    generalize hz : (wq.setRow h _).setRow s _ = w3 at *
    clear hz HG HTT HR HO HS HGz HTTz HRz HOz HSz
    have HG := HGy
    have HTT := HTTy
    have HR := HRy
    have HO := HOy
    have HS := HSy
    clear HGy HTTy HRy HOy HSy
    have hb1 : -1099511627776 ≤ bb ∧ bb ≤ 1099511627776 := by have := HBB.out; have := HK.out; have := HM.out; omega
    refine (look_any t g i bb ff dd n1 la true A len cap k1 h l w3 HG.out (HL0.out.only HO.out (fun p hp => HA.out p hp (by have := HK.out; omega))) HA.out (by have := HK.out; have := HK1.out; omega) HT.out HI.out hb1 HX.out).mono ?_
    rintro e w4 ⟨rfl, hG, hO⟩
    clear hb1
    replace HG := Shut.mk hG
    replace HTT := Shut.mk (hO.at_ HTT.out (by show ¬ s = h; have := HH.out; omega))
    replace HR := Shut.mk (hO.at_ HR.out (by show ¬ s + 1 = h; have := HH.out; omega))
    replace HO := Shut.mk (HO.out.trans hO fun _ _ e => e)
    replace HS := Shut.mk (Nat.le_trans HS.out hO.size)
    clear hG hO
    obtain ⟨f1, hf1⟩ : ∃ f1, lookF ⟨t, g, i⟩ ff bb (l.drop k1) = f1 := ⟨_, rfl⟩
    rw [hf1]
    obtain ⟨r, hr⟩ : ∃ r, lookL ⟨t, g, i⟩ ff bb (l.drop k1) = r := ⟨_, rfl⟩
    rw [hr]
    cases r
    ·have e := HE.out
     rw [drops_out HK1.out HKl.out (by show dd ≤ t; omega) hr] at e
     dsimp only at e
     rw [hf1, HM1.out] at e
     subst e
     clear hr hf1
     have HGz := Shut.mk ((setRow_other w4 s h #[Value.int IntKind.i64 f1, Value.int IntKind.i64 dd, Value.int IntKind.u32 (n1 : Nat), Value.int IntKind.u32 (la : Nat), Value.bool true] (by have := HH.out; omega)).trans HG.out)
     have HTTz := Shut.mk (setRow_heap w4 s _ #[Value.int IntKind.i64 f1, Value.int IntKind.i64 dd, Value.int IntKind.u32 (n1 : Nat), Value.int IntKind.u32 (la : Nat), Value.bool true] _ (0, 0) HTT.out)
     have HRz := Shut.mk ((setRow_other w4 s (s + 1) #[Value.int IntKind.i64 f1, Value.int IntKind.i64 dd, Value.int IntKind.u32 (n1 : Nat), Value.int IntKind.u32 (la : Nat), Value.bool true] (by have := HH.out; omega)).trans HR.out)
     have HOz := Shut.mk (HO.out.setRow (g := s) (fun e => by have := HH.out; first | rfl | omega) #[Value.int IntKind.i64 f1, Value.int IntKind.i64 dd, Value.int IntKind.u32 (n1 : Nat), Value.int IntKind.u32 (la : Nat), Value.bool true])
     have HSz : Shut (s + 2 ≤ (w4.setRow s #[Value.int IntKind.i64 f1, Value.int IntKind.i64 dd, Value.int IntKind.u32 (n1 : Nat), Value.int IntKind.u32 (la : Nat), Value.bool true]).heap.size) := ⟨Nat.le_trans HS.out (by simp [World.setRow])⟩
     go_wp2_with (first
      | (refine wpList_store_row rfl 92 (.tmp 2) (.tmp 31) rfl s #[Value.int IntKind.i64 f1, Value.int IntKind.i64 dd, Value.int IntKind.u32 (n1 : Nat), Value.int IntKind.u32 (la : Nat), Value.bool true] rfl rfl 92 _ HTT.out size1 rfl (cd_one _ _ _ _ _) ?_)
      | (refine wpList_load_row rfl 92 (.tmp 2) rfl s rfl 92 #[Value.int IntKind.i64 f1, Value.int IntKind.i64 dd, Value.int IntKind.u32 (n1 : Nat), Value.int IntKind.u32 (la : Nat), Value.bool true] (0, 0) _ HTTz.out Tryz.underlying92 rfl size1 ?_))
     generalize hz : w4.setRow s _ = w5 at *
     clear hz HG HTT HR HO HS
     have HG := HGz
     have HTT := HTTz
     have HR := HRz
     have HO := HOz
     have HS := HSz
     clear HGz HTTz HRz HOz HSz
     refine (stop_any f1 dd n1 la true _ w5).mono ?_
     rintro e w6 ⟨rfl, hB⟩
     replace HG := Shut.mk ((hB.block h (by have := HH.out; have := HS.out; omega)).trans HG.out)
     replace HTT := Shut.mk ((hB.block s (by have := HS.out; omega)).trans HTT.out)
     replace HR := Shut.mk ((hB.block (s + 1) (by have := HS.out; omega)).trans HR.out)
     replace HO := Shut.mk (HO.out.then_quiet hB)
     replace HS := Shut.mk (Nat.le_trans HS.out hB.size)
     clear hB
     have HGz := Shut.mk ((setRow_other w6 (s + 1) h #[Value.int IntKind.i64 f1, Value.int IntKind.i64 dd, Value.int IntKind.u32 (n1 : Nat), Value.int IntKind.u32 (la : Nat), Value.bool false] (by have := HH.out; omega)).trans HG.out)
     have HTTz := Shut.mk ((setRow_other w6 (s + 1) s #[Value.int IntKind.i64 f1, Value.int IntKind.i64 dd, Value.int IntKind.u32 (n1 : Nat), Value.int IntKind.u32 (la : Nat), Value.bool false] (by have := HH.out; omega)).trans HTT.out)
     have HRz := Shut.mk (setRow_heap w6 (s + 1) _ #[Value.int IntKind.i64 f1, Value.int IntKind.i64 dd, Value.int IntKind.u32 (n1 : Nat), Value.int IntKind.u32 (la : Nat), Value.bool false] _ (0, 0) HR.out)
     have HOz := Shut.mk (HO.out.setRow (g := (s + 1)) (fun e => by have := HH.out; first | rfl | omega) #[Value.int IntKind.i64 f1, Value.int IntKind.i64 dd, Value.int IntKind.u32 (n1 : Nat), Value.int IntKind.u32 (la : Nat), Value.bool false])
     have HSz : Shut (s + 2 ≤ (w6.setRow (s + 1) #[Value.int IntKind.i64 f1, Value.int IntKind.i64 dd, Value.int IntKind.u32 (n1 : Nat), Value.int IntKind.u32 (la : Nat), Value.bool false]).heap.size) := ⟨Nat.le_trans HS.out (by simp [World.setRow])⟩
     go_wp2_with (first
      | (refine wpList_store_row rfl 92 (.tmp 4) (.tmp 37) rfl (s + 1) #[Value.int IntKind.i64 f1, Value.int IntKind.i64 dd, Value.int IntKind.u32 (n1 : Nat), Value.int IntKind.u32 (la : Nat), Value.bool false] rfl rfl 92 _ HR.out size1 rfl (cd_one _ _ _ _ _) ?_))
     exact bodyPost_ret (v := .agg #[Value.int IntKind.i64 f1, Value.int IntKind.i64 dd, Value.int IntKind.u32 (n1 : Nat), Value.int IntKind.u32 (la : Nat), Value.bool false]) (results_cell1 (p := 4) Tryz.results97 _ _ (s + 1) _ _ _ _ rfl HRz.out Tryz.underlying92 rfl size1) rfl ⟨rfl, ⟨_, HGz.out⟩, HOz.out⟩
    ·have e := HE.out
     rw [drops_on HK1.out HKl.out (by show dd ≤ t; omega) hr] at e
     dsimp only at e
     rw [hf1, HM1.out] at e
     have HE' := Shut.mk e
     have HKl' := Shut.mk (late_there hr)
     clear hr hf1 e
     have HGz := Shut.mk ((setRow_other w4 s h #[Value.int IntKind.i64 f1, Value.int IntKind.i64 dd, Value.int IntKind.u32 (n1 : Nat), Value.int IntKind.u32 (la : Nat), Value.bool true] (by have := HH.out; omega)).trans HG.out)
     have HTTz := Shut.mk (setRow_heap w4 s _ #[Value.int IntKind.i64 f1, Value.int IntKind.i64 dd, Value.int IntKind.u32 (n1 : Nat), Value.int IntKind.u32 (la : Nat), Value.bool true] _ (0, 0) HTT.out)
     have HRz := Shut.mk ((setRow_other w4 s (s + 1) #[Value.int IntKind.i64 f1, Value.int IntKind.i64 dd, Value.int IntKind.u32 (n1 : Nat), Value.int IntKind.u32 (la : Nat), Value.bool true] (by have := HH.out; omega)).trans HR.out)
     have HOz := Shut.mk (HO.out.setRow (g := s) (fun e => by have := HH.out; first | rfl | omega) #[Value.int IntKind.i64 f1, Value.int IntKind.i64 dd, Value.int IntKind.u32 (n1 : Nat), Value.int IntKind.u32 (la : Nat), Value.bool true])
     have HSz : Shut (s + 2 ≤ (w4.setRow s #[Value.int IntKind.i64 f1, Value.int IntKind.i64 dd, Value.int IntKind.u32 (n1 : Nat), Value.int IntKind.u32 (la : Nat), Value.bool true]).heap.size) := ⟨Nat.le_trans HS.out (by simp [World.setRow])⟩
     have s1 : (w4.setRow s #[Value.int IntKind.i64 f1, Value.int IntKind.i64 dd, Value.int IntKind.u32 (n1 : Nat), Value.int IntKind.u32 (la : Nat), Value.bool true]).cell? ⟨s, 1, none⟩ = some (.int .i64 dd) := by simpa using (block_range HTTz.out) 1 _ rfl
     have s2 : (w4.setRow s #[Value.int IntKind.i64 f1, Value.int IntKind.i64 dd, Value.int IntKind.u32 (n1 : Nat), Value.int IntKind.u32 (la : Nat), Value.bool true]).cell? ⟨s, 2, none⟩ = some (.int .u32 (n1 : Nat)) := by simpa using (block_range HTTz.out) 2 _ rfl
     have g2 : (w4.setRow s #[Value.int IntKind.i64 f1, Value.int IntKind.i64 dd, Value.int IntKind.u32 (n1 : Nat), Value.int IntKind.u32 (la : Nat), Value.bool true]).cell? ⟨h, 2, none⟩ = some (.int .i64 i) := by simpa using (block_range HGz.out) 2 _ rfl
     go_wp2_with (first
      | (refine wpList_store_row rfl 92 (.tmp 2) (.tmp 31) rfl s #[Value.int IntKind.i64 f1, Value.int IntKind.i64 dd, Value.int IntKind.u32 (n1 : Nat), Value.int IntKind.u32 (la : Nat), Value.bool true] rfl rfl 92 _ HTT.out size1 rfl (cd_one _ _ _ _ _) ?_))
     generalize hz : w4.setRow s _ = w5 at *
     clear hz HG HTT HR HO HS
     have HG := HGz
     have HTT := HTTz
     have HR := HRz
     have HO := HOz
     have HS := HSz
     clear HGz HTTz HRz HOz HSz
     obtain ⟨dn, hdn⟩ : ∃ dn, nextN dd i n1 = dn := ⟨_, rfl⟩
     go_still_tail 10, (by kernel_rfl)
     still_call (still_same (next_any dd i n1 _ HN1.out))
     rw [hdn]
     repeat still_step
     refine wpStill_nil ?_
     clear s1 s2 g2
     change wpList _ _ _ _ _ (World.drewN w5 1)
     generalize hq : World.drewN w5 1 = w6
     replace HG := Shut.mk (block_of hq HG.out)
     replace HTT := Shut.mk (block_of hq HTT.out)
     replace HR := Shut.mk (block_of hq HR.out)
     replace HO := Shut.mk (only_of hq HO.out)
     replace HS := Shut.mk (size_of hq HS.out)
     clear hq
     have HGz := Shut.mk ((setRow_other w6 s h #[Value.int IntKind.i64 f1, Value.int IntKind.i64 dn, Value.int IntKind.u32 (n1 : Nat), Value.int IntKind.u32 (la : Nat), Value.bool true] (by have := HH.out; omega)).trans HG.out)
     have HTTz := Shut.mk (setRow_heap w6 s _ #[Value.int IntKind.i64 f1, Value.int IntKind.i64 dn, Value.int IntKind.u32 (n1 : Nat), Value.int IntKind.u32 (la : Nat), Value.bool true] _ (0, 0) HTT.out)
     have HRz := Shut.mk ((setRow_other w6 s (s + 1) #[Value.int IntKind.i64 f1, Value.int IntKind.i64 dn, Value.int IntKind.u32 (n1 : Nat), Value.int IntKind.u32 (la : Nat), Value.bool true] (by have := HH.out; omega)).trans HR.out)
     have HOz := Shut.mk (HO.out.setRow (g := s) (fun e => by have := HH.out; first | rfl | omega) #[Value.int IntKind.i64 f1, Value.int IntKind.i64 dn, Value.int IntKind.u32 (n1 : Nat), Value.int IntKind.u32 (la : Nat), Value.bool true])
     have HSz : Shut (s + 2 ≤ (w6.setRow s #[Value.int IntKind.i64 f1, Value.int IntKind.i64 dn, Value.int IntKind.u32 (n1 : Nat), Value.int IntKind.u32 (la : Nat), Value.bool true]).heap.size) := ⟨Nat.le_trans HS.out (by simp [World.setRow])⟩
     go_wp2_with (first
      | (refine wpList_store_into rfl 2 (.tmp 47) (.tmp 46) rfl s 1 (.int .i64 dn) rfl rfl rfl 92 _ #[Value.int IntKind.i64 f1, Value.int IntKind.i64 dn, Value.int IntKind.u32 (n1 : Nat), Value.int IntKind.u32 (la : Nat), Value.bool true] HTT.out size64 (show 1 < 5 by decide) rfl ?_))
     generalize hz : w6.setRow s _ = w7 at *
     clear hz HG HTT HR HO HS
     have HG := HGz
     have HTT := HTTz
     have HR := HRz
     have HO := HOz
     have HS := HSz
     clear HGz HTTz HRz HOz HSz
     rw [hdn] at HE'
     have hbb := lookB_in (b := bb) (k := k1) HX.out
     go_roundw
     case rel =>
      (repeat apply Exists.intro)
      refine ⟨?_, rfl⟩
      exact ⟨k1, n1, f1, dn, lookB bb (l.drop k1), HG.out, HTT.out, HR.out, HO.out, HS.out, by rw [← HLL.out]; exact HKl'.out, HN1.out, by have := HBB.out; have := HK1.out; omega, HE'.out⟩
     case measure => rw [measC_eq HG.out, measC_eq HGW.out]; have := HK.out; have := HK1.out; omega
   ·go_wp2
    go_quiet (fail)
    generalize hq : World.drewN wr _ = wq
    replace HG := Shut.mk (block_of hq HG.out)
    replace HTT := Shut.mk (block_of hq HTT.out)
    replace HR := Shut.mk (block_of hq HR.out)
    replace HO := Shut.mk (only_of hq HO.out)
    replace HS := Shut.mk (size_of hq HS.out)
    clear hq
    clear g0 s1
    have g5 : wq.cell? ⟨h, 5, none⟩ = some (.int .i64 (kk : Nat)) := by simpa using (block_range HG.out) 5 _ rfl
    have y5 : IntKind.i64.wrap ((kk : Int) + 1) = ((k1 : Nat) : Int) := by rw [IntWalk.i64_in _ ⟨by omega, by have := HK.out; have := HM.out; omega⟩]; have := HK1.out; omega
    have HGz := Shut.mk (setRow_heap wq h _ #[Value.int IntKind.i64 t, Value.int IntKind.i64 g, Value.int IntKind.i64 i, Value.int IntKind.i64 (max bb 0), Value.slice A len cap, Value.int IntKind.i64 (k1 : Nat)] _ (0, 0) HG.out)
    have HTTz := Shut.mk ((setRow_other wq h s #[Value.int IntKind.i64 t, Value.int IntKind.i64 g, Value.int IntKind.i64 i, Value.int IntKind.i64 (max bb 0), Value.slice A len cap, Value.int IntKind.i64 (k1 : Nat)] (by have := HH.out; omega)).trans HTT.out)
    have HRz := Shut.mk ((setRow_other wq h (s + 1) #[Value.int IntKind.i64 t, Value.int IntKind.i64 g, Value.int IntKind.i64 i, Value.int IntKind.i64 (max bb 0), Value.slice A len cap, Value.int IntKind.i64 (k1 : Nat)] (by have := HH.out; omega)).trans HR.out)
    have HOz := Shut.mk (HO.out.setRow (g := h) (fun e => by have := HH.out; first | rfl | omega) #[Value.int IntKind.i64 t, Value.int IntKind.i64 g, Value.int IntKind.i64 i, Value.int IntKind.i64 (max bb 0), Value.slice A len cap, Value.int IntKind.i64 (k1 : Nat)])
    have HSz : Shut (s + 2 ≤ (wq.setRow h #[Value.int IntKind.i64 t, Value.int IntKind.i64 g, Value.int IntKind.i64 i, Value.int IntKind.i64 (max bb 0), Value.slice A len cap, Value.int IntKind.i64 (k1 : Nat)]).heap.size) := ⟨Nat.le_trans HS.out (by simp [World.setRow])⟩
    have s2 : (wq.setRow h #[Value.int IntKind.i64 t, Value.int IntKind.i64 g, Value.int IntKind.i64 i, Value.int IntKind.i64 (max bb 0), Value.slice A len cap, Value.int IntKind.i64 (k1 : Nat)]).cell? ⟨s, 2, none⟩ = some (.int .u32 (nn : Nat)) := by simpa using (block_range HTTz.out) 2 _ rfl
    have q2 : ¬ (nn : Int) < 4294967295 := by omega
    obtain rfl : n1 = nn := by have := HM1.out; unfold more at this; rw [if_neg h2] at this; exact this.symm
    clear h2
    go_wp2_with (first
     | (refine wpList_store_into rfl 3 (.tmp 19) (.tmp 17) rfl h 5 (.int .i64 ((k1 : Nat) : Int)) rfl rfl rfl 151 _ #[Value.int IntKind.i64 t, Value.int IntKind.i64 g, Value.int IntKind.i64 i, Value.int IntKind.i64 (max bb 0), Value.slice A len cap, Value.int IntKind.i64 (k1 : Nat)] HG.out sizeI64 (show 5 < 6 by decide) rfl ?_)
     | (refine wpList_load_row rfl 92 (.tmp 2) rfl s rfl 92 #[Value.int IntKind.i64 ff, Value.int IntKind.i64 dd, Value.int IntKind.u32 (n1 : Nat), Value.int IntKind.u32 (la : Nat), Value.bool true] (0, 0) _ HTTz.out Tryz.underlying92 rfl size1 ?_))
    clear g5 y5 s2 q2
    generalize hz : wq.setRow h _ = w3 at *
    clear hz HG HTT HR HO HS
    have HG := HGz
    have HTT := HTTz
    have HR := HRz
    have HO := HOz
    have HS := HSz
    clear HGz HTTz HRz HOz HSz
    have hb1 : -1099511627776 ≤ bb ∧ bb ≤ 1099511627776 := by have := HBB.out; have := HK.out; have := HM.out; omega
    refine (look_any t g i bb ff dd n1 la true A len cap k1 h l w3 HG.out (HL0.out.only HO.out (fun p hp => HA.out p hp (by have := HK.out; omega))) HA.out (by have := HK.out; have := HK1.out; omega) HT.out HI.out hb1 HX.out).mono ?_
    rintro e w4 ⟨rfl, hG, hO⟩
    clear hb1
    replace HG := Shut.mk hG
    replace HTT := Shut.mk (hO.at_ HTT.out (by show ¬ s = h; have := HH.out; omega))
    replace HR := Shut.mk (hO.at_ HR.out (by show ¬ s + 1 = h; have := HH.out; omega))
    replace HO := Shut.mk (HO.out.trans hO fun _ _ e => e)
    replace HS := Shut.mk (Nat.le_trans HS.out hO.size)
    clear hG hO
    obtain ⟨f1, hf1⟩ : ∃ f1, lookF ⟨t, g, i⟩ ff bb (l.drop k1) = f1 := ⟨_, rfl⟩
    rw [hf1]
    obtain ⟨r, hr⟩ : ∃ r, lookL ⟨t, g, i⟩ ff bb (l.drop k1) = r := ⟨_, rfl⟩
    rw [hr]
    cases r
    ·have e := HE.out
     rw [drops_out HK1.out HKl.out (by show dd ≤ t; omega) hr] at e
     dsimp only at e
     rw [hf1, HM1.out] at e
     subst e
     clear hr hf1
     have HGz := Shut.mk ((setRow_other w4 s h #[Value.int IntKind.i64 f1, Value.int IntKind.i64 dd, Value.int IntKind.u32 (n1 : Nat), Value.int IntKind.u32 (la : Nat), Value.bool true] (by have := HH.out; omega)).trans HG.out)
     have HTTz := Shut.mk (setRow_heap w4 s _ #[Value.int IntKind.i64 f1, Value.int IntKind.i64 dd, Value.int IntKind.u32 (n1 : Nat), Value.int IntKind.u32 (la : Nat), Value.bool true] _ (0, 0) HTT.out)
     have HRz := Shut.mk ((setRow_other w4 s (s + 1) #[Value.int IntKind.i64 f1, Value.int IntKind.i64 dd, Value.int IntKind.u32 (n1 : Nat), Value.int IntKind.u32 (la : Nat), Value.bool true] (by have := HH.out; omega)).trans HR.out)
     have HOz := Shut.mk (HO.out.setRow (g := s) (fun e => by have := HH.out; first | rfl | omega) #[Value.int IntKind.i64 f1, Value.int IntKind.i64 dd, Value.int IntKind.u32 (n1 : Nat), Value.int IntKind.u32 (la : Nat), Value.bool true])
     have HSz : Shut (s + 2 ≤ (w4.setRow s #[Value.int IntKind.i64 f1, Value.int IntKind.i64 dd, Value.int IntKind.u32 (n1 : Nat), Value.int IntKind.u32 (la : Nat), Value.bool true]).heap.size) := ⟨Nat.le_trans HS.out (by simp [World.setRow])⟩
     go_wp2_with (first
      | (refine wpList_store_row rfl 92 (.tmp 2) (.tmp 31) rfl s #[Value.int IntKind.i64 f1, Value.int IntKind.i64 dd, Value.int IntKind.u32 (n1 : Nat), Value.int IntKind.u32 (la : Nat), Value.bool true] rfl rfl 92 _ HTT.out size1 rfl (cd_one _ _ _ _ _) ?_)
      | (refine wpList_load_row rfl 92 (.tmp 2) rfl s rfl 92 #[Value.int IntKind.i64 f1, Value.int IntKind.i64 dd, Value.int IntKind.u32 (n1 : Nat), Value.int IntKind.u32 (la : Nat), Value.bool true] (0, 0) _ HTTz.out Tryz.underlying92 rfl size1 ?_))
     generalize hz : w4.setRow s _ = w5 at *
     clear hz HG HTT HR HO HS
     have HG := HGz
     have HTT := HTTz
     have HR := HRz
     have HO := HOz
     have HS := HSz
     clear HGz HTTz HRz HOz HSz
     refine (stop_any f1 dd n1 la true _ w5).mono ?_
     rintro e w6 ⟨rfl, hB⟩
     replace HG := Shut.mk ((hB.block h (by have := HH.out; have := HS.out; omega)).trans HG.out)
     replace HTT := Shut.mk ((hB.block s (by have := HS.out; omega)).trans HTT.out)
     replace HR := Shut.mk ((hB.block (s + 1) (by have := HS.out; omega)).trans HR.out)
     replace HO := Shut.mk (HO.out.then_quiet hB)
     replace HS := Shut.mk (Nat.le_trans HS.out hB.size)
     clear hB
     have HGz := Shut.mk ((setRow_other w6 (s + 1) h #[Value.int IntKind.i64 f1, Value.int IntKind.i64 dd, Value.int IntKind.u32 (n1 : Nat), Value.int IntKind.u32 (la : Nat), Value.bool false] (by have := HH.out; omega)).trans HG.out)
     have HTTz := Shut.mk ((setRow_other w6 (s + 1) s #[Value.int IntKind.i64 f1, Value.int IntKind.i64 dd, Value.int IntKind.u32 (n1 : Nat), Value.int IntKind.u32 (la : Nat), Value.bool false] (by have := HH.out; omega)).trans HTT.out)
     have HRz := Shut.mk (setRow_heap w6 (s + 1) _ #[Value.int IntKind.i64 f1, Value.int IntKind.i64 dd, Value.int IntKind.u32 (n1 : Nat), Value.int IntKind.u32 (la : Nat), Value.bool false] _ (0, 0) HR.out)
     have HOz := Shut.mk (HO.out.setRow (g := (s + 1)) (fun e => by have := HH.out; first | rfl | omega) #[Value.int IntKind.i64 f1, Value.int IntKind.i64 dd, Value.int IntKind.u32 (n1 : Nat), Value.int IntKind.u32 (la : Nat), Value.bool false])
     have HSz : Shut (s + 2 ≤ (w6.setRow (s + 1) #[Value.int IntKind.i64 f1, Value.int IntKind.i64 dd, Value.int IntKind.u32 (n1 : Nat), Value.int IntKind.u32 (la : Nat), Value.bool false]).heap.size) := ⟨Nat.le_trans HS.out (by simp [World.setRow])⟩
     go_wp2_with (first
      | (refine wpList_store_row rfl 92 (.tmp 4) (.tmp 37) rfl (s + 1) #[Value.int IntKind.i64 f1, Value.int IntKind.i64 dd, Value.int IntKind.u32 (n1 : Nat), Value.int IntKind.u32 (la : Nat), Value.bool false] rfl rfl 92 _ HR.out size1 rfl (cd_one _ _ _ _ _) ?_))
     exact bodyPost_ret (v := .agg #[Value.int IntKind.i64 f1, Value.int IntKind.i64 dd, Value.int IntKind.u32 (n1 : Nat), Value.int IntKind.u32 (la : Nat), Value.bool false]) (results_cell1 (p := 4) Tryz.results97 _ _ (s + 1) _ _ _ _ rfl HRz.out Tryz.underlying92 rfl size1) rfl ⟨rfl, ⟨_, HGz.out⟩, HOz.out⟩
    ·have e := HE.out
     rw [drops_on HK1.out HKl.out (by show dd ≤ t; omega) hr] at e
     dsimp only at e
     rw [hf1, HM1.out] at e
     have HE' := Shut.mk e
     have HKl' := Shut.mk (late_there hr)
     clear hr hf1 e
     have HGz := Shut.mk ((setRow_other w4 s h #[Value.int IntKind.i64 f1, Value.int IntKind.i64 dd, Value.int IntKind.u32 (n1 : Nat), Value.int IntKind.u32 (la : Nat), Value.bool true] (by have := HH.out; omega)).trans HG.out)
     have HTTz := Shut.mk (setRow_heap w4 s _ #[Value.int IntKind.i64 f1, Value.int IntKind.i64 dd, Value.int IntKind.u32 (n1 : Nat), Value.int IntKind.u32 (la : Nat), Value.bool true] _ (0, 0) HTT.out)
     have HRz := Shut.mk ((setRow_other w4 s (s + 1) #[Value.int IntKind.i64 f1, Value.int IntKind.i64 dd, Value.int IntKind.u32 (n1 : Nat), Value.int IntKind.u32 (la : Nat), Value.bool true] (by have := HH.out; omega)).trans HR.out)
     have HOz := Shut.mk (HO.out.setRow (g := s) (fun e => by have := HH.out; first | rfl | omega) #[Value.int IntKind.i64 f1, Value.int IntKind.i64 dd, Value.int IntKind.u32 (n1 : Nat), Value.int IntKind.u32 (la : Nat), Value.bool true])
     have HSz : Shut (s + 2 ≤ (w4.setRow s #[Value.int IntKind.i64 f1, Value.int IntKind.i64 dd, Value.int IntKind.u32 (n1 : Nat), Value.int IntKind.u32 (la : Nat), Value.bool true]).heap.size) := ⟨Nat.le_trans HS.out (by simp [World.setRow])⟩
     have s1 : (w4.setRow s #[Value.int IntKind.i64 f1, Value.int IntKind.i64 dd, Value.int IntKind.u32 (n1 : Nat), Value.int IntKind.u32 (la : Nat), Value.bool true]).cell? ⟨s, 1, none⟩ = some (.int .i64 dd) := by simpa using (block_range HTTz.out) 1 _ rfl
     have s2 : (w4.setRow s #[Value.int IntKind.i64 f1, Value.int IntKind.i64 dd, Value.int IntKind.u32 (n1 : Nat), Value.int IntKind.u32 (la : Nat), Value.bool true]).cell? ⟨s, 2, none⟩ = some (.int .u32 (n1 : Nat)) := by simpa using (block_range HTTz.out) 2 _ rfl
     have g2 : (w4.setRow s #[Value.int IntKind.i64 f1, Value.int IntKind.i64 dd, Value.int IntKind.u32 (n1 : Nat), Value.int IntKind.u32 (la : Nat), Value.bool true]).cell? ⟨h, 2, none⟩ = some (.int .i64 i) := by simpa using (block_range HGz.out) 2 _ rfl
     go_wp2_with (first
      | (refine wpList_store_row rfl 92 (.tmp 2) (.tmp 31) rfl s #[Value.int IntKind.i64 f1, Value.int IntKind.i64 dd, Value.int IntKind.u32 (n1 : Nat), Value.int IntKind.u32 (la : Nat), Value.bool true] rfl rfl 92 _ HTT.out size1 rfl (cd_one _ _ _ _ _) ?_))
     generalize hz : w4.setRow s _ = w5 at *
     clear hz HG HTT HR HO HS
     have HG := HGz
     have HTT := HTTz
     have HR := HRz
     have HO := HOz
     have HS := HSz
     clear HGz HTTz HRz HOz HSz
     obtain ⟨dn, hdn⟩ : ∃ dn, nextN dd i n1 = dn := ⟨_, rfl⟩
     go_still_tail 10, (by kernel_rfl)
     still_call (still_same (next_any dd i n1 _ HN1.out))
     rw [hdn]
     repeat still_step
     refine wpStill_nil ?_
     clear s1 s2 g2
     change wpList _ _ _ _ _ (World.drewN w5 1)
     generalize hq : World.drewN w5 1 = w6
     replace HG := Shut.mk (block_of hq HG.out)
     replace HTT := Shut.mk (block_of hq HTT.out)
     replace HR := Shut.mk (block_of hq HR.out)
     replace HO := Shut.mk (only_of hq HO.out)
     replace HS := Shut.mk (size_of hq HS.out)
     clear hq
     have HGz := Shut.mk ((setRow_other w6 s h #[Value.int IntKind.i64 f1, Value.int IntKind.i64 dn, Value.int IntKind.u32 (n1 : Nat), Value.int IntKind.u32 (la : Nat), Value.bool true] (by have := HH.out; omega)).trans HG.out)
     have HTTz := Shut.mk (setRow_heap w6 s _ #[Value.int IntKind.i64 f1, Value.int IntKind.i64 dn, Value.int IntKind.u32 (n1 : Nat), Value.int IntKind.u32 (la : Nat), Value.bool true] _ (0, 0) HTT.out)
     have HRz := Shut.mk ((setRow_other w6 s (s + 1) #[Value.int IntKind.i64 f1, Value.int IntKind.i64 dn, Value.int IntKind.u32 (n1 : Nat), Value.int IntKind.u32 (la : Nat), Value.bool true] (by have := HH.out; omega)).trans HR.out)
     have HOz := Shut.mk (HO.out.setRow (g := s) (fun e => by have := HH.out; first | rfl | omega) #[Value.int IntKind.i64 f1, Value.int IntKind.i64 dn, Value.int IntKind.u32 (n1 : Nat), Value.int IntKind.u32 (la : Nat), Value.bool true])
     have HSz : Shut (s + 2 ≤ (w6.setRow s #[Value.int IntKind.i64 f1, Value.int IntKind.i64 dn, Value.int IntKind.u32 (n1 : Nat), Value.int IntKind.u32 (la : Nat), Value.bool true]).heap.size) := ⟨Nat.le_trans HS.out (by simp [World.setRow])⟩
     go_wp2_with (first
      | (refine wpList_store_into rfl 2 (.tmp 47) (.tmp 46) rfl s 1 (.int .i64 dn) rfl rfl rfl 92 _ #[Value.int IntKind.i64 f1, Value.int IntKind.i64 dn, Value.int IntKind.u32 (n1 : Nat), Value.int IntKind.u32 (la : Nat), Value.bool true] HTT.out size64 (show 1 < 5 by decide) rfl ?_))
     generalize hz : w6.setRow s _ = w7 at *
     clear hz HG HTT HR HO HS
     have HG := HGz
     have HTT := HTTz
     have HR := HRz
     have HO := HOz
     have HS := HSz
     clear HGz HTTz HRz HOz HSz
     rw [hdn] at HE'
     have hbb := lookB_in (b := bb) (k := k1) HX.out
     go_roundw
     case rel =>
      (repeat apply Exists.intro)
      refine ⟨?_, rfl⟩
      exact ⟨k1, n1, f1, dn, lookB bb (l.drop k1), HG.out, HTT.out, HR.out, HO.out, HS.out, by rw [← HLL.out]; exact HKl'.out, HN1.out, by have := HBB.out; have := HK1.out; omega, HE'.out⟩
     case measure => rw [measC_eq HG.out, measC_eq HGW.out]; have := HK.out; have := HK1.out; omega
end Go.Proofs.YtndkmgcmegcieaaGreatDoor
