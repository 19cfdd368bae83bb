/-
  THE REFERENCE's QUEUE: DropHead, what it answers apart from the queue.
-/
import Derived.Test.YtndkmgcmegcieaaGreatDoorFqRd
namespace Go.Proofs.YtndkmgcmegcieaaGreatDoor
open Go.ChangeShapes Go.WideShapes Go.ChangeAt Go.RowKit Go.Deep
set_option linter.unusedVariables false
set_option linter.unusedSimpArgs false
def RDropE2 (T : Nat → Prop) (w : World) (x : Rq) (V : Nat → Value) (q : Qu) (b : Int) (e : Ending) (w' : World) : Prop :=
 (pkAt q b = [] ∧ e = .returned (.tuple #[pkV pk00.1 (.slice none 0 0), .bool false]) ∧ Below w.heap.size w w') ∨
 ∃ (n : Nat) (p : Pk) (r : List Pk) (v : Value) (V' : Nat → Value), n < 16 ∧ b = (n : Int) ∧ (q.fl n).pk = p :: r ∧ e = .returned (.tuple #[pkV p v, .bool true]) ∧ OwnV w' w.heap.size v p.body ∧ IsRq T w' x V' (dropQ q n) ∧ RqS T w x V T w' V' ∧ ∀ i, v.ownBlock = some i → ¬ FootR x V' i
set_option maxRecDepth 100000 in
set_option maxHeartbeats 8000000 in
theorem refdrop2_any (T : Nat → Prop) (w : World) (x : Rq) (V : Nat → Value) (q : Qu) (h : IsRq T w x V q) (hn : ∀ b, b < 16 → (q.fl b).pk.length ≤ 10000) (hb : ∀ b, b < 16 → ∀ p ∈ (q.fl b).pk, p.body.length ≤ 1000000) (b : Int) :
 Calls Tryz.prog 40 #[.pointer (some ⟨x.g, 0, none⟩), .int .i64 b] w fun e w' => RDropE2 T w x V q b e w' := by
 have HQ := Shut.mk h
 have HLN := Shut.mk hn
 have HBD := Shut.mk hb
 have HA1 := Shut.mk ((Below.refl w.heap.size w).alloc (Nat.le_refl _) (Obj.cells #[Value.int .i64 0, .int .u32 0, .int .i64 0, .int .i64 0, Value.slice none 0 0] 35 (0, 0)))
 have HX1 := Shut.mk (MapKept.heap_alloc w (Obj.cells #[Value.int .i64 0, .int .u32 0, .int .i64 0, .int .i64 0, Value.slice none 0 0] 35 (0, 0))).1
 clear h hn hb
 go_enter Tryz.func40, Tryz.ntmps40
 go_wp2_with (fail)
 obtain ⟨s4, hs4⟩ : ∃ s, s = w.heap.size := ⟨_, rfl⟩
 have HS4 := Shut.mk hs4
 rw [← hs4] at HX1 ⊢
 clear hs4
 generalize World.alloc w _ = w1 at *
 refine (refhead_any T w1 x V q (HQ.out.below HA1.out) (fun b hb => by have := HLN.out b hb; omega) (fun b hb p hp => by have := HBD.out b hb p hp; omega) b).mono ?_
 rintro e w2 ⟨hE, hB⟩
 have HB2 := Shut.mk (HA1.out.trans (hB.mono HA1.out.size))
 have HX2 := Shut.mk ((hB.block _ (lt_blk HX1.out)).trans HX1.out)
 have HZ12 := Shut.mk hB.size
 have HS1 := Shut.mk (show s4 < w1.heap.size from lt_blk HX1.out)
 clear hB
 rcases hE with ⟨hnil, rfl⟩ | ⟨p, r, gB, cB, hl, rfl, hO⟩
 ·have HNL := Shut.mk hnil
  clear hnil
  unfold pkV
  dsimp only [pk00]
  obtain ⟨s6, hs6⟩ : ∃ s, s = w2.heap.size := ⟨_, rfl⟩
  have HSs6 := Shut.mk hs6
  have HAw3 := Shut.mk ((Below.refl w2.heap.size w2).alloc (Nat.le_refl _) (Obj.cells #[Value.int .i64 0, .int .u32 0, .int .i64 0, .int .i64 0, Value.slice none 0 0] 35 (0, 0)))
  have HXw3 := Shut.mk (show (w2.alloc (Obj.cells #[Value.int .i64 0, .int .u32 0, .int .i64 0, .int .i64 0, Value.slice none 0 0] 35 (0, 0))).heap[s6]? = some (Obj.cells #[Value.int .i64 0, .int .u32 0, .int .i64 0, .int .i64 0, Value.slice none 0 0] 35 (0, 0)) by rw [hs6]; exact (MapKept.heap_alloc w2 (Obj.cells #[Value.int .i64 0, .int .u32 0, .int .i64 0, .int .i64 0, Value.slice none 0 0] 35 (0, 0))).1)
  obtain ⟨w3, hw3⟩ : ∃ w4, w4 = (w2.alloc (Obj.cells #[Value.int .i64 0, .int .u32 0, .int .i64 0, .int .i64 0, Value.slice none 0 0] 35 (0, 0))).setRow s6 #[Value.int .i64 0, .int .u32 0, .int .i64 0, .int .i64 0, Value.slice none 0 0] := ⟨_, rfl⟩
  have HYw3 := Shut.mk (show w3.heap[s6]? = some (Obj.cells #[Value.int .i64 0, .int .u32 0, .int .i64 0, .int .i64 0, Value.slice none 0 0] 35 (0, 0)) by rw [hw3]; exact setRow_heap _ s6 _ #[Value.int .i64 0, .int .u32 0, .int .i64 0, .int .i64 0, Value.slice none 0 0] _ (0, 0) HXw3.out)
  have HBw3 := Shut.mk (show Below w2.heap.size w2 w3 by rw [hw3]; exact below_setRow HAw3.out (by omega) _)
  have HWw3 := Shut.mk hw3
  clear hw3 hs6
  have HZ3 := Shut.mk ((HBw3.out.block _ (lt_blk HX2.out)).trans HX2.out)
  have HS6 := Shut.mk (show s4 ≠ s6 by have h1 := HSs6.out; have h2 := HS1.out; have h3 := HZ12.out; omega)
  have HB3 := Shut.mk (HB2.out.trans (HBw3.out.mono HB2.out.size))
  have HFIN := Shut.mk (setRow_heap w3 s4 _ #[Value.int .i64 0, .int .u32 0, .int .i64 0, .int .i64 0, Value.slice none 0 0] _ (0, 0) HZ3.out)
  have HBF := Shut.mk (below_setRow HB3.out (show w.heap.size ≤ s4 by rw [HS4.out]; exact Nat.le_refl _) #[Value.int .i64 0, .int .u32 0, .int .i64 0, .int .i64 0, Value.slice none 0 0])
  go_wp2_with (first
  | (refine wpList_store_row rfl 35 (.tmp 6) (.tmp 12) rfl s6 #[Value.int .i64 0, .int .u32 0, .int .i64 0, .int .i64 0, Value.slice none 0 0] (by show Value.pointer (some ⟨w2.heap.size, 0, none⟩) = _; rw [HSs6.out]) rfl 35 _ HXw3.out size5 rfl (pkt_one _ _ _ _ _ _ _) ?_; rw [show World.setRow (World.alloc w2 _) s6 _ = w3 from HWw3.out.symm, ← HSs6.out])
  | (refine wpList_load_row rfl 35 (.tmp 6) rfl s6 rfl 35 #[Value.int .i64 0, .int .u32 0, .int .i64 0, .int .i64 0, Value.slice none 0 0] (0, 0) _ HYw3.out Tryz.underlying35 rfl size5 ?_)
  | (refine wpList_store_row rfl 35 (.tmp 4) (.tmp 30) rfl s4 #[Value.int .i64 0, .int .u32 0, .int .i64 0, .int .i64 0, Value.slice none 0 0] (by first | rfl | (show Value.pointer (some ⟨w.heap.size, 0, none⟩) = _; rw [HS4.out])) rfl 35 _ HZ3.out size5 rfl (pkt_one _ _ _ _ _ _ _) ?_))
  exact bodyPost_ret (v := .tuple #[pkV pk00.1 (.slice none 0 0), .bool false]) (results_c1 (p := 4) (q := 5) Tryz.results40 _ _ s4 _ _ _ _ _ (by first | rfl | (show Value.pointer (some ⟨w.heap.size, 0, none⟩) = _; rw [HS4.out])) rfl HFIN.out Tryz.underlying35 rfl size5) rfl (.inl ⟨HNL.out, rfl, HBF.out⟩)
 ·by_cases hr0 : 0 ≤ b ∧ b < 16
  rotate_left
  ·unfold pkAt at hl; rw [if_neg hr0] at hl; cases hl
  obtain ⟨n, rfl⟩ := Int.eq_ofNat_of_zero_le hr0.1
  have hn16 : n < 16 := by omega
  have hpn : (q.fl n).pk = p :: r := by unfold pkAt at hl; rw [if_pos hr0] at hl; exact hl
  have HN16 := Shut.mk hn16
  have HPN := Shut.mk hpn
  have hni : (n : Int) < 16 := by omega
  clear hl hr0
  obtain ⟨pi, pf, pt, pa, pb⟩ := p
  have HOB := Shut.mk (show OwnB w2 w1.heap.size 5 .u8 gB pb.length cB pb from hO)
  clear hO
  unfold pkV
  dsimp only
  obtain ⟨s6, hs6⟩ : ∃ s, s = w2.heap.size := ⟨_, rfl⟩
  have HSs6 := Shut.mk hs6
  have HAw3 := Shut.mk ((Below.refl w2.heap.size w2).alloc (Nat.le_refl _) (Obj.cells #[Value.int .i64 0, .int .u32 0, .int .i64 0, .int .i64 0, Value.slice none 0 0] 35 (0, 0)))
  have HXw3 := Shut.mk (show (w2.alloc (Obj.cells #[Value.int .i64 0, .int .u32 0, .int .i64 0, .int .i64 0, Value.slice none 0 0] 35 (0, 0))).heap[s6]? = some (Obj.cells #[Value.int .i64 0, .int .u32 0, .int .i64 0, .int .i64 0, Value.slice none 0 0] 35 (0, 0)) by rw [hs6]; exact (MapKept.heap_alloc w2 (Obj.cells #[Value.int .i64 0, .int .u32 0, .int .i64 0, .int .i64 0, Value.slice none 0 0] 35 (0, 0))).1)
  obtain ⟨w3, hw3⟩ : ∃ w4, w4 = (w2.alloc (Obj.cells #[Value.int .i64 0, .int .u32 0, .int .i64 0, .int .i64 0, Value.slice none 0 0] 35 (0, 0))).setRow s6 #[Value.int .i64 pi, .int .u32 pf, .int .i64 pt, .int .i64 pa, Value.slice (some ⟨gB, 0, none⟩) pb.length cB] := ⟨_, rfl⟩
  have HYw3 := Shut.mk (show w3.heap[s6]? = some (Obj.cells #[Value.int .i64 pi, .int .u32 pf, .int .i64 pt, .int .i64 pa, Value.slice (some ⟨gB, 0, none⟩) pb.length cB] 35 (0, 0)) by rw [hw3]; exact setRow_heap _ s6 _ #[Value.int .i64 pi, .int .u32 pf, .int .i64 pt, .int .i64 pa, Value.slice (some ⟨gB, 0, none⟩) pb.length cB] _ (0, 0) HXw3.out)
  have HBw3 := Shut.mk (show Below w2.heap.size w2 w3 by rw [hw3]; exact below_setRow HAw3.out (by omega) _)
  have HWw3 := Shut.mk hw3
  clear hw3 hs6
  have HZ3 := Shut.mk ((HBw3.out.block _ (lt_blk HX2.out)).trans HX2.out)
  have HS6 := Shut.mk (show s4 ≠ s6 by have h1 := HSs6.out; have h2 := HS1.out; have h3 := HZ12.out; omega)
  have HB3 := Shut.mk (HB2.out.trans (HBw3.out.mono HB2.out.size))
  go_wp2_with (first
  | (refine wpList_store_row rfl 35 (.tmp 6) (.tmp 12) rfl s6 #[Value.int .i64 pi, .int .u32 pf, .int .i64 pt, .int .i64 pa, Value.slice (some ⟨gB, 0, none⟩) pb.length cB] (by show Value.pointer (some ⟨w2.heap.size, 0, none⟩) = _; rw [HSs6.out]) rfl 35 _ HXw3.out size5 rfl (pkt_one _ _ _ _ _ _ _) ?_; rw [show World.setRow (World.alloc w2 _) s6 _ = w3 from HWw3.out.symm, ← HSs6.out]))
  obtain ⟨w5, hw5⟩ : ∃ wD, wD = World.drew w3 := ⟨_, rfl⟩
  have HW5 := Shut.mk hw5
  have HD5 := Shut.mk (show Below w3.heap.size w3 w5 by rw [hw5]; exact (Below.refl _ _).drew)
  have HB5 := Shut.mk (HB3.out.trans (HD5.out.mono HB3.out.size))
  have HQ5 := Shut.mk (HQ.out.below HB5.out)
  have HZ5 := Shut.mk ((HD5.out.block _ (lt_blk HZ3.out)).trans HZ3.out)
  have HY5 := Shut.mk ((HD5.out.block _ (lt_blk HYw3.out)).trans HYw3.out)
  have HSZ5 := Shut.mk (Nat.le_trans HBw3.out.size HD5.out.size)
  have HOB5 := Shut.mk (show OwnB w5 w1.heap.size 5 .u8 gB pb.length cB pb from owns_only HOB.out (S := fun _ => False) (Only.of_quiet (HBw3.out.trans (HD5.out.mono HBw3.out.size))) (fun _ _ e => e))
  clear hw5
  obtain ⟨A0, c, hv, hrow, hcap, -⟩ := (HQ5.out.pk n hn16).row (by rw [hpn]; have := HLN.out n hn16; rw [hpn] at this; unfold maxLen; omega)
  have hc8 := HQ5.out.fl hn16 (j := 0) _ rfl
  rw [hpn] at hv hrow hcap
  rw [hv] at hc8
  obtain ⟨bb, off, rfl, -⟩ : ∃ bb off, A0 = some ⟨bb, off, none⟩ ∧ True := by
   obtain ⟨bb, off, aa, m, cc, e, -⟩ := RowK.el hrow 0 (by simp)
   exact ⟨bb, off, e, trivial⟩
  have hrr := RowK.rest hrow 1 (by simp)
  simp only [List.length_cons, List.drop_one, List.tail_cons, Nat.add_sub_cancel, Nat.one_mul] at hrr
  have hlr : r.length + 1 ≤ c := by simpa using hcap
  obtain ⟨AP, hAP⟩ : ∃ AP : Addr, (if c = 1 then some (⟨bb, off, none⟩ : Addr) else some ⟨bb, off + 5, none⟩) = some AP := by split <;> exact ⟨_, rfl⟩
  have HRR := Shut.mk (show RowP T w5 (some AP) r by
   by_cases hc1 : c = 1
   ·have hr1 : r = [] := List.eq_nil_of_length_eq_zero (by omega)
    subst hr1
    exact RowK.nil _ _ _
   ·rw [if_neg hc1] at hAP
    rw [← hAP]
    exact hrr)
  have HRL := Shut.mk (show r.length ≤ 100000 by have := HLN.out n hn16; rw [hpn] at this; simp at this; omega)
  have HC8 := Shut.mk (show w5.cell? ⟨x.g, 3 + n * 7, none⟩ = some (.slice (some ⟨bb, off, none⟩) (r.length + 1) c) from hc8)
  have h1r : (1 : Int) ≤ (r.length : Int) + 1 := by omega
  clear hv hrow hcap hc8 hrr hn16 hpn
  refine wp_region_D (fun w' => Below w5.heap.size w5 w') 15 (by kernel_rfl) (show Below w5.heap.size w5 (World.drew w3) by rw [HW5.out]; exact Below.refl _ _) (fun hHeld hC => ?_)
  rw [← HW5.out] at hHeld ⊢
  refine dP 0 hC hHeld ?_; clear hC; intro hC
  refine dP 1 hC hHeld ?_; clear hC; intro hC
  refine dP 2 hC hHeld ?_; clear hC; intro hC
  refine dP 3 hC hHeld ?_; clear hC; intro hC
  refine dP 4 hC hHeld ?_; clear hC; intro hC
  refine dP 5 hC hHeld ?_; clear hC; intro hC
  refine dP 6 hC hHeld ?_; clear hC; intro hC
  refine dP 7 hC hHeld ?_; clear hC; intro hC
  refine dT 8 hC hHeld (fun w hSw => (show w.cell? ⟨x.g, 3 + n * 7, none⟩ = some (.slice (some ⟨bb, off, none⟩) (r.length + 1) c) from below_at hSw HC8.out)) ?_; clear hC; intro hC
  refine dP 9 hC hHeld ?_; clear hC; intro hC
  refine dP 11 hC hHeld ?_; clear hC; intro hC
  refine dP 12 hC hHeld ?_; clear hC; intro hC
  refine wpAnyD_one (i := 10) (by kernel_rfl) rfl hC (fun K hK => ?_)
  clear hC
  go_simp
  refine (packets_any T (some AP) (c - 1) r w5 (HRR.out.below hHeld) HRL.out (fun k hk => Nat.lt_of_lt_of_le (HQ5.out.there k hk) hHeld.size)).mono ?_
  rintro e' w5_1 ⟨u, rfl, hu, hb, hg⟩
  have HU := Shut.mk hu
  have HUB := Shut.mk hb
  have HUG := Shut.mk hg
  have HB56 := Shut.mk (hHeld.trans (hb.mono hHeld.size))
  have HU5 := Shut.mk (show OwnP T w5_1 w5.heap.size u r from OwnP.base hu hHeld.size)
  clear hu hb hg
  have hHeld2 := HB56.out
  clear hHeld
  have hHeld := hHeld2
  clear hHeld2
  refine hK.out _ _ (fun _ => hHeld) (fun hC => ?_)
  clear hK K
  try simp only [Act.put, sG1, sG2, sG3, sG4, sG5, sG6]
  refine dP 13 hC hHeld ?_; clear hC; intro hC
  refine dP 14 hC hHeld ?_; clear hC; intro hC
  refine wpAnyD_one (i := 15) (by kernel_rfl) rfl hC (fun K hK => ?_)
  clear hC
  refine step_store_into rfl 40 (.tmp 29) (.tmp 25) rfl x.g (3 + (n * 7 + 0)) u rfl rfl (ownsP_one HU.out) 90 _ (rqC x (updF V n u) (setF q.fl n ⟨r, (q.fl n).df, (q.fl n).cd⟩)).toArray ((HB56.out.block _ (lt_blk HQ5.out.blk)).trans HQ5.out.blk) sizePs (by rw [rq_size]; have := HN16.out; omega) (rq_set x V q.fl HN16.out (by decide) u u _ rfl) ?_
  obtain ⟨w5_2, hw5_2⟩ : ∃ wq, wq = w5_1.setRow x.g (rqC x (updF V n u) (setF q.fl n ⟨r, (q.fl n).df, (q.fl n).cd⟩)).toArray := ⟨_, rfl⟩
  have HWA := Shut.mk hw5_2
  rw [← hw5_2]
  clear hw5_2
  refine hK.out _ _ (past (by kernel_rfl)) (fun hC => ?_)
  clear hK K
  try simp only [Act.put, sG1, sG2, sG3, sG4, sG5, sG6]
  refine wpAnyD_done (by kernel_rfl) ?_ _
  try simp only [Act.put, sG1, sG2, sG3, sG4, sG5, sG6]
  clear hC hHeld
  have hxg : x.g < w.heap.size := HQ.out.lt
  have hs4 := HS4.out
  have hs6 := HSs6.out
  have hz12 := HZ12.out
  have hs1 := HS1.out
  obtain ⟨hQ6, hS6⟩ := HQ5.out.new_pk (w1 := w5_1) HN16.out HB56.out (u := u) (l := r) (q.fl n).df (q.fl n).cd HU5.out (ownsP_new HU5.out)
  rw [← HWA.out] at hQ6 hS6
  have hsx : s6 ≠ x.g := by omega
  have hsx4 : s4 ≠ x.g := by omega
  have hy := (HB56.out.block _ (lt_blk HY5.out)).trans HY5.out
  have hz := (HB56.out.block _ (lt_blk HZ5.out)).trans HZ5.out
  have HYF := Shut.mk (show w5_2.heap[s6]? = some (Obj.cells #[Value.int .i64 pi, .int .u32 pf, .int .i64 pt, .int .i64 pa, Value.slice (some ⟨gB, 0, none⟩) pb.length cB] 35 (0, 0)) by rw [HWA.out]; exact (setRow_other w5_1 x.g s6 _ hsx).trans hy)
  have HZF := Shut.mk (show w5_2.heap[s4]? = some (Obj.cells #[Value.int .i64 0, .int .u32 0, .int .i64 0, .int .i64 0, Value.slice none 0 0] 35 (0, 0)) by rw [HWA.out]; exact (setRow_other w5_1 x.g s4 _ hsx4).trans hz)
  have hsz5 := HSZ5.out
  have HQF := Shut.mk (hQ6.only (only_setRow w5_2 s4 #[Value.int .i64 pi, .int .u32 pf, .int .i64 pt, .int .i64 pa, Value.slice (some ⟨gB, 0, none⟩) pb.length cB]) (fun k hk e => by
   rcases hS6.fresh k hk with h1 | h1
   ·have h2 := HQ.out.lts h1; omega
   ·have h2 := lt_blk HZ5.out; omega) (fun k hk e => by have h2 := HQ.out.there k hk; omega))
  have HSF := Shut.mk ((RqS.from_ HB5.out hS6).over (only_setRow w5_2 s4 #[Value.int .i64 pi, .int .u32 pf, .int .i64 pt, .int .i64 pa, Value.slice (some ⟨gB, 0, none⟩) pb.length cB]) (fun k e => by omega))
  have hgb := HOB5.out.lt
  have HAPX := Shut.mk (show ∀ i, (Value.slice (some ⟨gB, 0, none⟩) pb.length cB).ownBlock = some i → ¬ FootR x (updF V n u) i from fun i hi e => by
   have h9 : gB = i := by simpa [Value.ownBlock] using hi
   rcases hS6.fresh i e with h1 | h1
   ·have h2 := HQ.out.lts h1; omega
   ·omega)
  have HOF := Shut.mk (show OwnV (w5_2.setRow s4 #[Value.int .i64 pi, .int .u32 pf, .int .i64 pt, .int .i64 pa, Value.slice (some ⟨gB, 0, none⟩) pb.length cB]) w.heap.size (.slice (some ⟨gB, 0, none⟩) pb.length cB) pb by
   have h1 := owns_only (owns_base HOB5.out (show w.heap.size ≤ w1.heap.size by omega)) (S := fun _ => False) (Only.of_quiet HB56.out) (fun _ _ e => e)
   have h2 := owns_only h1 (only_setRow w5_1 x.g (rqC x (updF V n u) (setF q.fl n ⟨r, (q.fl n).df, (q.fl n).cd⟩)).toArray) (fun g hg e => by
    have h9 : gB = g := by simpa [Value.ownBlock] using hg
    omega)
   rw [← HWA.out] at h2
   exact owns_only h2 (only_setRow w5_2 s4 #[Value.int .i64 pi, .int .u32 pf, .int .i64 pt, .int .i64 pa, Value.slice (some ⟨gB, 0, none⟩) pb.length cB]) (fun g hg e => by
    have h9 : gB = g := by simpa [Value.ownBlock] using hg
    omega))
  have HFIN := Shut.mk (setRow_heap w5_2 s4 _ #[Value.int .i64 pi, .int .u32 pf, .int .i64 pt, .int .i64 pa, Value.slice (some ⟨gB, 0, none⟩) pb.length cB] _ (0, 0) HZF.out)
  have HTL := Shut.mk (show (q.fl n).pk.tail = r by rw [HPN.out]; rfl)
  clear hxg hs4 hs6 hz12 hs1 hQ6 hS6 hsx hsx4 hy hz hsz5 hgb hAP h1r hlr
  go_wp2_with (first
  | (refine wpList_load_row rfl 35 (.tmp 6) rfl s6 rfl 35 #[Value.int .i64 pi, .int .u32 pf, .int .i64 pt, .int .i64 pa, Value.slice (some ⟨gB, 0, none⟩) pb.length cB] (0, 0) _ HYF.out Tryz.underlying35 rfl size5 ?_)
  | (refine wpList_store_row rfl 35 (.tmp 4) (.tmp 30) rfl s4 #[Value.int .i64 pi, .int .u32 pf, .int .i64 pt, .int .i64 pa, Value.slice (some ⟨gB, 0, none⟩) pb.length cB] (by first | rfl | (show Value.pointer (some ⟨w.heap.size, 0, none⟩) = _; rw [HS4.out])) rfl 35 _ HZF.out size5 rfl (pkt_one _ _ _ _ _ _ _) ?_))
  exact bodyPost_ret (v := .tuple #[.agg #[Value.int .i64 pi, .int .u32 pf, .int .i64 pt, .int .i64 pa, Value.slice (some ⟨gB, 0, none⟩) pb.length cB], .bool true]) (results_c1 (p := 4) (q := 5) Tryz.results40 _ _ s4 _ _ _ _ _ (by first | rfl | (show Value.pointer (some ⟨w.heap.size, 0, none⟩) = _; rw [HS4.out])) rfl HFIN.out Tryz.underlying35 rfl size5) rfl (.inr ⟨n, ⟨pi, pf, pt, pa, pb⟩, r, .slice (some ⟨gB, 0, none⟩) pb.length cB, updF V n u, HN16.out, rfl, HPN.out, rfl, HOF.out, by unfold dropQ; rw [HTL.out]; exact HQF.out, HSF.out, HAPX.out⟩)
end Go.Proofs.YtndkmgcmegcieaaGreatDoor
