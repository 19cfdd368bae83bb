/-
  THE REFERENCE's POOL: Put.
-/
import Derived.Test.YtndkmgcmegcieaaGreatDoorRpE
import Derived.Test.YtndkmgcmegcieaaGreatDoorRpDr
import Derived.Test.YtndkmgcmegcieaaGreatDoorPoolE
namespace Go.Proofs.YtndkmgcmegcieaaGreatDoor
open Go.ChangeShapes Go.WideShapes Go.ChangeAt Go.RowKit Go.Deep
set_option linter.unusedVariables false
set_option linter.unusedSimpArgs false
def fatR (M : Nat → Qu) (o : Option Nat) : Int := match o with | none => -1 | some J => fatG M J
def fatRa (o : Option Nat) : Nat := match o with | none => 0 | some J => J / 128 + 1
def fatRt (o : Option Nat) : Nat := match o with | none => 0 | some J => J / 16 % 8
def fatRb (o : Option Nat) : Nat := match o with | none => 0 | some J => J % 16
theorem fatR_at (M : Nat → Qu) (k : Nat) {i : Nat} (hi : i < 16) : fatR M (some (16 * k + i)) = fatF (M k) i := (fatG_in M k hi).1
theorem fatRa_at (α τ : Nat) {i : Nat} (ht : τ < 8) (hi : i < 16) : fatRa (some (16 * (8 * α + τ) + i)) = α + 1 ∧ fatRt (some (16 * (8 * α + τ) + i)) = τ ∧ fatRb (some (16 * (8 * α + τ) + i)) = i := by
 refine ⟨?_, ?_, ?_⟩
 ·show (16 * (8 * α + τ) + i) / 128 + 1 = α + 1; omega
 ·show (16 * (8 * α + τ) + i) / 16 % 8 = τ; omega
 ·show (16 * (8 * α + τ) + i) % 16 = i; omega
theorem fatR_more {M : Nat → Qu} {k : Nat} {a : Option Nat} {i : Nat} (ha : Best (fatG M) (okG M) (16 * k) a) (hb : IsFat (M k) (some i)) (h : fatR M a < fatF (M k) i) : Best (fatG M) (okG M) (16 * (k + 1)) (some (16 * k + i)) := by
 have h1 := fat_next ha hb
 have h2 := (fatG_in M k hb.1).1
 cases a with
 | none => exact h1
 | some j =>
  unfold combO at h1
  dsimp only at h1
  rw [h2, if_pos (show fatG M j < fatF (M k) i from h)] at h1
  exact h1
theorem fatR_keep {M : Nat → Qu} {k : Nat} {a : Option Nat} {i : Nat} (ha : Best (fatG M) (okG M) (16 * k) a) (hb : IsFat (M k) (some i)) (h : ¬ fatR M a < fatF (M k) i) : Best (fatG M) (okG M) (16 * (k + 1)) a := by
 have h1 := fat_next ha hb
 have h2 := (fatG_in M k hb.1).1
 cases a with
 | none => exact absurd (show (-1 : Int) < fatF (M k) i by have : 0 ≤ fatF (M k) i := bytesF_nonneg _; omega) h
 | some j =>
  unfold combO at h1
  dsimp only at h1
  rw [h2, if_neg (show ¬ fatG M j < fatF (M k) i from h)] at h1
  exact h1
theorem IsRq.wf {T : Nat → Prop} {w : World} {x : Rq} {V : Nat → Value} {q : Qu} (h : IsRq T w x V q) {b : Nat} (hb : b < 16) {p : Pk} (hp : p ∈ (q.fl b).pk) : ∀ i, i < p.body.length → IntKind.u8.min ≤ p.body.getD i 0 ∧ p.body.getD i 0 ≤ IntKind.u8.max := by
 obtain ⟨l', h1, h2, h3, -⟩ := h.pk b hb
 rw [← h2] at hp
 obtain ⟨y, hy, rfl⟩ := List.mem_map.1 hp
 obtain ⟨a, m, c, -, hr, -⟩ := h3 y hy
 intro i hi
 exact hr.wf i (by rw [← hr.len]; exact hi)
structure RShrL (T : Nat → Prop) (w : World) (g : Nat) (h : Hd) (X : Nat → Option Qs) (n : Nat) (u : Value) (wr : World) (X1 : Nat → Option Qs) (T2 : Nat → Prop) (ds : List Pk) : Prop where
 is : IsRpl T wr g h X1
 st : RlS T w g X T wr X1
 full : FullR X1
 ap : ∀ i, FootL g X1 i → u.ownBlock ≠ some i ∧ ¬ T2 i
 own : OwnP T2 wr w.heap.size u ds
 new : ∀ k, T2 k → w.heap.size ≤ k ∧ k < wr.heap.size
 tot : ds.length + (allP (mR X1) 128).length = (allP (mR X) 128).length
 mul : (allP (mR X1) 128).length < n
 shr : ∀ d2 M', Shr h.mp h.mb (mR X1) d2 M' → Shr h.mp h.mb (mR X) (ds ++ d2) M'
structure RPutE (T : Nat → Prop) (w : World) (g : Nat) (hd : Hd) (X : Nat → Option Qs) (k : Nat) (p : Pk) (e : Ending) (w' : World) : Prop where
 out : ∃ u T' T2 X' ds, e = .returned (.tuple #[u, .int .i64 0]) ∧ IsRpl T' w' g hd X' ∧ RlS T w g X T' w' X' ∧ FullR X' ∧ OwnP T2 w' w.heap.size u ds ∧ (∀ i, T2 i → w.heap.size ≤ i ∧ i < w'.heap.size) ∧ (∀ i, FootL g X' i → u.ownBlock ≠ some i ∧ ¬ T2 i) ∧
  Shr hd.mp hd.mb (updF (mR X) k (putQ (bkQ hd.seed) (mR X k) p)) ds (mR X')
set_option maxRecDepth 100000 in
set_option maxHeartbeats 40000000 in
theorem refput_p_in {T : Nat → Prop} {w : World} {g : Nat} {hd : Hd} {X : Nat → Option Qs} (hp : IsRpl T w g hd X) (hf : FullR X) (hmp : 1 ≤ hd.mp ∧ 1 ≤ hd.mb) (a t : Nat) (ha : a < 16) (ht : t < 8) (aid : Int) (hai : aid = (a : Int) + 1) (pi pf pa : Int) (pb : List Int) (A : Option Addr) (m cp : Nat) (hb : RowB .u8 w A m pb) (hm : m ≤ 1000000)
 (hfl : 0 ≤ pf ∧ pf ≤ 4294967295) (hat : 0 ≤ pa ∧ pa ≤ 4503599627370496) (hl : (allP (mR X) 128).length ≤ 900) :
 Calls Tryz.prog 11 #[.pointer (some ⟨g, 0, none⟩), .int .i64 aid, pkV ⟨pi, pf, (t : Nat), pa, pb⟩ (.slice A m cp)] w fun e w' => RPutE T w g hd X (8 * a + t) ⟨pi, pf, (t : Nat), pa, pb⟩ e w' := by
 have HB1 := Shut.mk ((Below.refl w.heap.size w).alloc (Nat.le_refl _) (Obj.cells #[Value.int .i64 pi, .int .u32 pf, .int .i64 (t : Nat), .int .i64 pa, Value.slice A m cp] 35 (0, 0)))
 have HX1 := Shut.mk (MapKept.heap_alloc w (Obj.cells #[Value.int .i64 pi, .int .u32 pf, .int .i64 (t : Nat), .int .i64 pa, Value.slice A m cp] 35 (0, 0))).1
 have HP1 := Shut.mk (hp.quiet HB1.out)
 have HRB := Shut.mk hb
 have HMP := Shut.mk hmp
 have HM := Shut.mk hm
 have HFL := Shut.mk hfl
 have HAT := Shut.mk hat
 have HTL := Shut.mk hl
 have HK := Shut.mk (show (a + 1) * 8 + t < 136 by omega)
 have HK8 := Shut.mk (show 8 * a + t < 128 by omega)
 have HKT := Shut.mk (fun w => there_any aid (t : Nat) w true ⟨fun _ => (by subst hai; exact ⟨⟨by omega, by omega⟩, by omega, by omega⟩), fun _ => rfl⟩)
 obtain ⟨s, hx⟩ := hf _ HK.out
 have HFU0 := Shut.mk hf
 have HXS0 := Shut.mk hx
 have HMS := Shut.mk (mR_some hx)
 obtain ⟨a1, ha1⟩ : ∃ a1 : Nat, a1 = a + 1 := ⟨_, rfl⟩
 obtain rfl : aid = (a1 : Int) := by omega
 have HCELL0 := Shut.mk (show ∀ w', Below w.heap.size w w' → w'.cell? ⟨g, 5 + a1 * 8 + t, none⟩ = some (.pointer (some ⟨s.x.g, 0, none⟩)) from fun w' hw => by rw [ha1]; exact (hp.quiet hw).at_ (a := a + 1) (by omega) ht hx)
 have HA17 := Shut.mk (show (a1 : Int) < 17 by omega)
 have HT8 := Shut.mk (show (t : Int) < 8 by omega)
 clear hp hmp hb hm hfl hat hl hx hf hai ha1
 unfold pkV
 dsimp only
 obtain ⟨s5, hs5⟩ : ∃ s, s = w.heap.size := ⟨_, rfl⟩
 have HS5 := Shut.mk hs5
 go_enter Tryz.func11, Tryz.ntmps11
 go_wp2_with (fail)
 rw [← hs5]
 rw [← hs5] at HX1
 clear hs5
 generalize World.alloc w _ = w1 at *
 refine (HKT.out w1).mono ?_
 rintro e wn ⟨rfl, rfl⟩
 obtain ⟨w5, hw5⟩ : ∃ wq, wq = World.drew w1 := ⟨_, rfl⟩
 have HWw5 := Shut.mk hw5
 have HDw5 := Shut.mk (show Below w1.heap.size w1 w5 by rw [hw5]; exact (Below.refl _ _).drew)
 clear hw5
 have HB5 := Shut.mk (HB1.out.trans (HDw5.out.mono HB1.out.size))
 have HP5 := Shut.mk (HP1.out.quiet HDw5.out)
 have HX5 := Shut.mk ((HDw5.out.block _ (lt_blk HX1.out)).trans HX1.out)
 have HCELL := Shut.mk (HCELL0.out w5 HB5.out)
 have HQ := Shut.mk (HP5.out.qs _ HK.out s HXS0.out)
 have HLL := Shut.mk (show s.q.fresh.length + s.q.elder.length ≤ 16 by have := lists_len HQ.out.inv; rwa [List.length_append] at this)
 have HPL2 := Shut.mk (show pb.length ≤ 1000000 by have h1 : pb.length = m := HRB.out.len; have h2 := HM.out; omega)
 clear HCELL0
 go_wp2_with (fail)
 refine wp_region_D (fun w' => w5 = w') 10 (by kernel_rfl) HWw5.out (fun hHeld hC => ?_)
 rw [← HWw5.out] at hHeld ⊢
 refine dP 0 hC hHeld ?_; clear hC; intro hC
 refine dP 1 hC hHeld ?_; clear hC; intro hC
 refine dP 2 hC hHeld ?_; clear hC; intro hC
 refine dT 3 hC hHeld (fun w hSw => (show w.cell? ⟨s5, 2, none⟩ = some (.int .i64 (t : Nat)) from by rw [← hSw]; have h9 := block_range HX5.out 2 _ rfl; simpa using h9)) ?_; clear hC; intro hC
 refine dP 4 hC hHeld ?_; clear hC; intro hC
 refine dP 5 hC hHeld ?_; clear hC; intro hC
 refine wpAnyD_pure (i := 6) (v := ?_) rfl hC (by kernel_rfl) (by kernel_rfl) (by kernel_rfl) (by decide) (fun _ _ _ h => h) (Or.inl ⟨by rfl, ?_⟩) (fun _ => hHeld) ?_
 rotate_left
 ·intro w hSw
  have h17 := HA17.out
  clear hSw
  go_simp
  try with_reducible rfl
 try simp only [Act.put, sG1, sG2, sG3, sG4, sG5, sG6]
 clear hC
 intro hC
 refine wpAnyD_pure (i := 7) (v := ?_) rfl hC (by kernel_rfl) (by kernel_rfl) (by kernel_rfl) (by decide) (fun _ _ _ h => h) (Or.inl ⟨by rfl, ?_⟩) (fun _ => hHeld) ?_
 rotate_left
 ·intro w hSw
  have h8 := HT8.out
  clear hSw
  go_simp
  try with_reducible rfl
 try simp only [Act.put, sG1, sG2, sG3, sG4, sG5, sG6]
 clear hC
 intro hC
 refine dT 8 hC hHeld (fun w hSw => (show w.cell? ⟨g, 5 + a1 * 8 + t, none⟩ = some (.pointer (some ⟨s.x.g, 0, none⟩)) from by rw [← hSw]; exact HCELL.out)) ?_; clear hC; intro hC
 refine wpAnyD_take (i := 9) (v := .agg ([Value.int .i64 pi, .int .u32 pf, .int .i64 (t : Nat), .int .i64 pa, Value.slice A m cp]).toArray) 40 rfl (by kernel_rfl) hC (by kernel_rfl) (by kernel_rfl) (by kernel_rfl) (by decide) (fun _ _ _ h => h) (yieldsIf_load_mid (by rfl) 35 (.tmp 5) rfl s5 (0) rfl ([Value.int .i64 pi, .int .u32 pf, .int .i64 (t : Nat), .int .i64 pa, Value.slice A m cp]) _ (fun w' hSw => (by rw [← hSw]; exact block_range HX5.out)) Tryz.underlying35 rfl size5) (fun _ => hHeld) ?_
 try simp only [Act.put, sG1, sG2, sG3, sG4, sG5, sG6]
 clear hC
 intro hC
 refine wpAnyD_one (i := 10) (by kernel_rfl) rfl hC (fun K hK => ?_)
 clear hC
 go_simp
 rw [← hHeld]
 refine (refput_any hd.seed T w5 s.x s.V s.q HQ.out.is HQ.out.sd ⟨pi, pf, (t : Nat), pa, pb⟩ A m cp (HRB.out.below HB5.out) HM.out HFL.out (fun b hb => by have := HQ.out.few.len b hb; omega) (by have := HLL.out; omega) (by have := HLL.out; omega) HQ.out.inv.lt).mono ?_
 rintro e' wx1 ⟨rfl, T', V', hQ9, hC9⟩
 refine hK.out _ _ (past (by kernel_rfl)) (fun hC => ?_)
 clear hK K
 try simp only [Act.put, sG1, sG2, sG3, sG4, sG5, sG6]
 refine wpAnyD_done (by kernel_rfl) ?_ _
 try simp only [Act.put, sG1, sG2, sG3, sG4, sG5, sG6]
 have hcall := HP5.out.call HK.out HXS0.out hQ9 hC9 (inv_put (bkQ_lt hd.seed) HQ.out.inv) (few_put (bkQ_lt hd.seed _) HQ.out.few (by
  have h1 := len_flow (mR X) HK8.out (bkQ_lt hd.seed pf)
  rw [HMS.out] at h1
  have h2 := HTL.out
  exact Nat.lt_of_le_of_lt h1 (by omega)) ⟨HAT.out.1, HAT.out.2, HPL2.out⟩)
 obtain ⟨X9, hX9⟩ : ∃ Y, Y = updF X ((a + 1) * 8 + t) (some ⟨s.x, V', putQ (bkQ hd.seed) s.q ⟨pi, pf, (t : Nat), pa, pb⟩⟩) := ⟨_, rfl⟩
 rw [← hX9] at hcall
 obtain ⟨w9, hw9⟩ : ∃ w9, w9 = wx1 := ⟨_, rfl⟩
 rw [← hw9] at hcall ⊢
 have HP9 := Shut.mk hcall.1
 have HS9 := Shut.mk (RlS.from_ HB5.out hcall.2)
 have HF9 := Shut.mk (show FullR X9 by rw [hX9]; exact full_upd HFU0.out _ _)
 have HM9 := Shut.mk (show mR X9 = updF (mR X) (8 * a + t) (putQ (bkQ hd.seed) (mR X (8 * a + t)) ⟨pi, pf, (t : Nat), pa, pb⟩) by rw [hX9, mR_upd, HMS.out])
 have HT9T := Shut.mk (show ∀ i, T' i → i < w9.heap.size from HP9.out.there)
 have HN9 := Shut.mk (show (allP (mR X9) 128).length ≤ 901 by
  rw [HM9.out]
  have h1 : (allP (updF (mR X) (8 * a + t) (putQ (bkQ hd.seed) (mR X (8 * a + t)) ⟨pi, pf, (t : Nat), pa, pb⟩)) 128).length = (allP (mR X) 128).length + 1 := (allP_put (bkQ_lt hd.seed) (mR X) HK8.out ⟨pi, pf, (t : Nat), pa, pb⟩).length_eq
  have h2 := HTL.out
  omega)
 have HL0 := Shut.mk (show RShrL T' w9 g hd X9 ((allP (mR X9) 128).length + 1) (.slice none 0 0) w9 X9 (fun _ => False) [] from ⟨HP9.out, RlS.refl, HF9.out, fun i hi => ⟨(fun e => by cases e), fun e => e⟩, OwnK.nil _ _ _ _, fun k hk => hk.elim, by simp, by omega, fun d2 M' h => h⟩)
 clear hcall hQ9 hC9 hX9 hw9 hC HQ HLL HP5 HX5 HCELL hHeld HXS0
 go_wp2_with (fail)
 go_loopg [8] ((allP (mR X9) 128).length + 1) (fun k u wr => ∃ (X1 : Nat → Option Qs) (T2 : Nat → Prop) (ds : List Pk), RShrL T' w9 g hd X9 k u wr X1 T2 ds)
 case atStart => exact ⟨X9, fun _ => False, [], HL0.out⟩
 case round =>
  clear HL0
  obtain ⟨X1, T2, ds, hL⟩ := hrel
  obtain ⟨wo, hwo⟩ : ∃ wo, wo = wr := ⟨_, rfl⟩
  subst hwo
  have HL := Shut.mk hL
  clear hL
  obtain ⟨ln, hln⟩ : ∃ n, n = (allP (mR X1) 128).length := ⟨_, rfl⟩
  obtain ⟨by_, hby⟩ : ∃ n, n = bytesF (allP (mR X1) 128) := ⟨_, rfl⟩
  have HLN := Shut.mk hln
  have HBY := Shut.mk hby
  clear hln hby HDw5 HWw5 HB5
  clear w5
  obtain ⟨w5, hw5⟩ : ∃ wq, wq = World.drew wo := ⟨_, rfl⟩
  have HWw5 := Shut.mk hw5
  have HDw5 := Shut.mk (show Below wo.heap.size wo w5 by rw [hw5]; exact (Below.refl _ _).drew)
  clear hw5
  have HP5 := Shut.mk (HL.out.is.quiet HDw5.out)
  go_wp2_with (fail)
  by_cases h1 : hd.mp < (ln : Int)
  ·have HC1 := Shut.mk (show decide (hd.mp < (ln : Int)) = true from decide_eq_true h1)
   have HNZ : Shut (∃ p, p ∈ allP (mR X1) 128) := ⟨by
    have h2 := HLN.out
    have h3 := HMP.out
    cases hc : allP (mR X1) 128 with
    | nil => rw [hc] at h2; simp at h2; omega
    | cons p r => exact ⟨p, List.mem_cons_self⟩⟩
   have HOV1 := Shut.mk (show hd.mp < ((allP (mR X1) 128).length : Int) ∨ hd.mb < bytesF (allP (mR X1) 128) from .inl (by rw [← HLN.out]; exact h1))
   clear h1
   refine wp_region_D (fun w' => Below w5.heap.size w5 w') 15 (by kernel_rfl) (show Below w5.heap.size w5 (World.drew wo) by rw [HWw5.out]; exact Below.refl _ _) (fun hHeld hC => ?_)
   rw [← HWw5.out] at hHeld ⊢
   refine dP 0 hC hHeld ?_; clear hC; intro hC
   refine dP 2 hC hHeld ?_; clear hC; intro hC
   refine dP 3 hC hHeld ?_; clear hC; intro hC
   refine dP 4 hC hHeld ?_; clear hC; intro hC
   refine dT 5 hC hHeld (fun w hSw => (show w.cell? ⟨g, 3, none⟩ = some (.int .i64 hd.mp) from below_at hSw HP5.out.head.2.2.2.1)) ?_; clear hC; intro hC
   refine wpAnyD_one (i := 1) (by kernel_rfl) rfl hC (fun K hK => ?_)
   clear hC
   go_simp
   refine (reflen_p_any (HP5.out.quiet hHeld) HL.out.full).mono ?_
   rintro e' wv1 ⟨rfl, hB⟩
   rw [← HLN.out]
   have hHeld2 := hHeld.trans (hB.mono hHeld.size)
   clear hB
   clear hHeld
   have hHeld := hHeld2
   clear hHeld2
   refine hK.out _ _ (fun _ => hHeld) (fun hC => ?_)
   clear hK K
   try simp only [Act.put, sG1, sG2, sG3, sG4, sG5, sG6]
   refine wpAnyD_pure (i := 6) (v := ?_) rfl hC (by kernel_rfl) (by kernel_rfl) (by kernel_rfl) (by decide) (fun _ _ _ h => h) (Or.inl ⟨by rfl, ?_⟩) (fun _ => hHeld) ?_
   rotate_left
   ·intro w hSw
    have hf1 := HC1.out
    clear hSw
    go_simp
    try with_reducible rfl
   try simp only [Act.put, sG1, sG2, sG3, sG4, sG5, sG6]
   clear hC
   intro hC
   refine dP 7 hC hHeld ?_; clear hC; intro hC
   refine wpAnyD_pure (i := 8) (v := undef) rfl hC (by kernel_rfl) (by kernel_rfl) (by kernel_rfl) (by decide) (fun _ _ _ h => h) (Or.inr ⟨by rfl, rfl⟩) (fun _ => hHeld) ?_
   try simp only [Act.put, sG1, sG2, sG3, sG4, sG5, sG6]
   clear hC
   intro hC
   refine wpAnyD_pure (i := 9) (v := undef) rfl hC (by kernel_rfl) (by kernel_rfl) (by kernel_rfl) (by decide) (fun _ _ _ h => h) (Or.inr ⟨by rfl, rfl⟩) (fun _ => hHeld) ?_
   try simp only [Act.put, sG1, sG2, sG3, sG4, sG5, sG6]
   clear hC
   intro hC
   refine wpAnyD_pure (i := 10) (v := undef) rfl hC (by kernel_rfl) (by kernel_rfl) (by kernel_rfl) (by decide) (fun _ _ _ h => h) (Or.inr ⟨by rfl, rfl⟩) (fun _ => hHeld) ?_
   try simp only [Act.put, sG1, sG2, sG3, sG4, sG5, sG6]
   clear hC
   intro hC
   refine wpAnyD_pure (i := 11) (v := undef) rfl hC (by kernel_rfl) (by kernel_rfl) (by kernel_rfl) (by decide) (fun _ _ _ h => h) (Or.inr ⟨by rfl, rfl⟩) (fun _ => hHeld) ?_
   try simp only [Act.put, sG1, sG2, sG3, sG4, sG5, sG6]
   clear hC
   intro hC
   refine wpAnyD_pure (i := 12) (v := undef) rfl hC (by kernel_rfl) (by kernel_rfl) (by kernel_rfl) (by decide) (fun _ _ _ h => h) (Or.inr ⟨by rfl, rfl⟩) (fun _ => hHeld) ?_
   try simp only [Act.put, sG1, sG2, sG3, sG4, sG5, sG6]
   clear hC
   intro hC
   refine wpAnyD_pure (i := 13) (v := undef) rfl hC (by kernel_rfl) (by kernel_rfl) (by kernel_rfl) (by decide) (fun _ _ _ h => h) (Or.inr ⟨by rfl, rfl⟩) (fun _ => hHeld) ?_
   try simp only [Act.put, sG1, sG2, sG3, sG4, sG5, sG6]
   clear hC
   intro hC
   refine wpAnyD_pure (i := 14) (v := undef) rfl hC (by kernel_rfl) (by kernel_rfl) (by kernel_rfl) (by decide) (fun _ _ _ h => h) (Or.inr ⟨by rfl, rfl⟩) (fun _ => hHeld) ?_
   try simp only [Act.put, sG1, sG2, sG3, sG4, sG5, sG6]
   clear hC
   intro hC
   refine wpAnyD_one (i := 15) (by kernel_rfl) rfl hC (fun K hK => ?_)
   clear hC
   go_simp
   refine hK.out _ _ (past (by kernel_rfl)) (fun hC => ?_)
   clear hK K
   try simp only [Act.put, sG1, sG2, sG3, sG4, sG5, sG6]
   refine wpAnyD_done (by kernel_rfl) ?_ _
   try simp only [Act.put, sG1, sG2, sG3, sG4, sG5, sG6]
   have HBV := Shut.mk (HDw5.out.trans (hHeld.mono HDw5.out.size))
   clear hHeld hC
   obtain ⟨wf, hwf⟩ : ∃ wf, wf = wv1 := ⟨_, rfl⟩
   rw [← hwf] at HBV ⊢
   clear hwf
   have HPF := Shut.mk (HL.out.is.quiet HBV.out)
   have HFU := Shut.mk HL.out.full
   obtain ⟨M, hM⟩ : ∃ M, M = mR X1 := ⟨_, rfl⟩
   have HMM := Shut.mk hM
   clear hM
   go_wp2_with (fail)
   go_loopw [9, 10, 11, 12, 13] (fun fm fa ft fb fi wr => ∃ (α : Nat) (o : Option Nat), α ≤ 16 ∧ fi = .int .i64 (((α + 1 : Nat)) : Int) ∧ Best (fatG M) (okG M) (16 * (8 * α)) o ∧ fm = .int .i64 (fatR M o) ∧ fa = .int .i64 ((fatRa o : Nat) : Int) ∧ ft = .int .i64 ((fatRt o : Nat) : Int) ∧ fb = .int .i64 ((fatRb o : Nat) : Int) ∧ Below wf.heap.size wf wr) (fun _ _ _ _ fi _ => 17 - (intOf fi).toNat)
   case atStart => exact ⟨0, none, by omega, rfl, best_zero _ _, rfl, rfl, rfl, rfl, Below.refl _ _⟩
   case round =>
    obtain ⟨α, o, hα, rfl, hbest, hfm, hfa, hft, hfb, hbw⟩ := hrel
    have HBE := Shut.mk hbest
    have HFM := Shut.mk hfm
    have HFA := Shut.mk hfa
    have HFT := Shut.mk hft
    have HFB := Shut.mk hfb
    have HBW := Shut.mk hbw
    clear hbest hfm hfa hft hfb hbw
    obtain ⟨a2, ha2⟩ : ∃ a2 : Nat, a2 = α + 1 := ⟨_, rfl⟩
    have HA2 := Shut.mk ha2
    rw [← ha2]
    by_cases hlt : α < 16
    ·have hai : (a2 : Int) ≤ 16 := by omega
     have hai7 : (a2 : Int) < 17 := by omega
     clear ha2
     go_wp2_with (fail)
     go_loopw [9, 10, 11, 12, 14] (fun fm fa ft fb fi wr => ∃ (τ : Nat) (o : Option Nat), τ ≤ 8 ∧ fi = .int .i64 (τ : Int) ∧ Best (fatG M) (okG M) (16 * (8 * α + τ)) o ∧ fm = .int .i64 (fatR M o) ∧ fa = .int .i64 ((fatRa o : Nat) : Int) ∧ ft = .int .i64 ((fatRt o : Nat) : Int) ∧ fb = .int .i64 ((fatRb o : Nat) : Int) ∧ Below wf.heap.size wf wr) (fun _ _ _ _ fi _ => 8 - (intOf fi).toNat)
     case atStart => exact ⟨0, o, by omega, rfl, HBE.out, HFM.out, HFA.out, HFT.out, HFB.out, HBW.out⟩
     case round =>
      clear HBE HFM HFA HFT HFB HBW o
      obtain ⟨τ, o, hτ, rfl, hbest, hfm, hfa, hft, hfb, hbw⟩ := hrel
      have HBE := Shut.mk hbest
      have HFM := Shut.mk hfm
      have HFA := Shut.mk hfa
      have HFT := Shut.mk hft
      have HFB := Shut.mk hfb
      have HBW := Shut.mk hbw
      clear hbest hfm hfa hft hfb hbw
      by_cases htl : τ < 8
      ·have hti : (τ : Int) < 8 := by omega
       have HPr := Shut.mk (HPF.out.quiet HBW.out)
       obtain ⟨s, hx⟩ := HFU.out ((α + 1) * 8 + τ) (by omega)
       have hq := HPr.out.qs _ (by omega) s hx
       have HQ := Shut.mk hq
       have hcell := HPr.out.at_ (by omega) htl hx
       rw [← HA2.out] at hcell
       have HSQ := Shut.mk (show M (8 * α + τ) = s.q by rw [HMM.out]; exact mR_some hx)
       have HLC := Shut.mk (reflen_any T' wr s.x s.V s.q hq.is hq.few.len)
       have HLT2 := Shut.mk hq.few.all
       obtain ⟨vm, hvm⟩ : ∃ v, v = fatR M o := ⟨_, rfl⟩
       have HVM := Shut.mk hvm
       have hfm := HFM.out
       rw [← hvm] at hfm
       obtain rfl := hfm
       have HTAU := Shut.mk htl
       clear hq hx hvm htl
       go_wp2_with (fail)
       refine (reffat_any T' wr s.x s.V s.q HQ.out.is HQ.out.few.fewQ).mono ?_
       rintro e wn ⟨⟨b, hb, rfl⟩, rfl⟩
       have HB0 := Shut.mk hb
       clear hb
       cases b with
       | none =>
        rw [show fatAt none = 0 from rfl, show fatV s.q none 0 = 0 from rfl]
        have HL0 := Shut.mk (show (allQ s.q).length = 0 by have h1 := fat_len0 HB0.out; rw [lenTo_all] at h1; exact h1)
        have HNX := Shut.mk (show Best (fatG M) (okG M) (16 * (8 * α + τ + 1)) o from fat_next (b := none) HBE.out (by rw [HSQ.out]; exact HB0.out))
        go_wp2_with (fail)
        refine HLC.out.mono ?_
        rintro e wl ⟨rfl, hbl⟩
        rw [HL0.out]
        have HBL := Shut.mk (show Below wf.heap.size wf wl from HBW.out.trans (hbl.mono HBW.out.size))
        clear hbl
        go_wp2_with (fail)
        go_roundw
        case rel => exact ⟨τ + 1, o, by have := HTAU.out; omega, by go_num, HNX.out, by rw [← HVM.out], HFA.out, HFT.out, HFB.out, HBL.out⟩
        case measure => have := HTAU.out; simp [intOf]; omega
       | some i =>
        obtain ⟨y, hy⟩ : ∃ y, y = fatF s.q i := ⟨_, rfl⟩
        have HY := Shut.mk hy
        rw [show fatAt (some i) = ((i : Nat) : Int) from rfl, show fatV s.q (some i) 0 = y from hy.symm]
        have HIS := Shut.mk (show IsFat (M (8 * α + τ)) (some i) by rw [HSQ.out]; exact HB0.out)
        have HI16 := Shut.mk (show i < 16 from HB0.out.1)
        have HYM := Shut.mk (show y = fatF (M (8 * α + τ)) i by rw [HSQ.out]; exact hy)
        obtain ⟨n, hn⟩ : ∃ n, n = (allQ s.q).length := ⟨_, rfl⟩
        have hnp : 0 < n := by have h1 := fat_len1 HB0.out; rw [lenTo_all] at h1; rw [hn]; exact h1
        have hnpi : (0 : Int) < (n : Int) := by omega
        have hnl : n ≤ 16000 := by rw [hn]; exact HLT2.out
        have HN2 := Shut.mk hn
        clear hy hn
        by_cases hgt : vm < y
        ·have HNX := Shut.mk (fatR_more HBE.out HIS.out (show fatR M o < fatF (M (8 * α + τ)) i by rw [← HVM.out, ← HYM.out]; exact hgt))
         have HRV := Shut.mk (fatR_at M (8 * α + τ) HI16.out)
         have HRA := Shut.mk (fatRa_at α τ HTAU.out HI16.out)
         go_wp2_with (fail)
         refine HLC.out.mono ?_
         rintro e wl ⟨rfl, hbl⟩
         rw [← HN2.out]
         have HBL := Shut.mk (show Below wf.heap.size wf wl from HBW.out.trans (hbl.mono HBW.out.size))
         clear hbl
         go_wp2_with (fail)
         go_roundw
         case rel => exact ⟨τ + 1, some (16 * (8 * α + τ) + i), by have := HTAU.out; omega, by go_num, HNX.out, by rw [HRV.out, ← HYM.out], by rw [HRA.out.1, HA2.out], by rw [HRA.out.2.1], by rw [HRA.out.2.2], HBL.out⟩
         case measure => have := HTAU.out; simp [intOf]; omega
        ·have HNX := Shut.mk (fatR_keep HBE.out HIS.out (show ¬ fatR M o < fatF (M (8 * α + τ)) i by rw [← HVM.out, ← HYM.out]; exact hgt))
         go_wp2_with (fail)
         refine HLC.out.mono ?_
         rintro e wl ⟨rfl, hbl⟩
         rw [← HN2.out]
         have HBL := Shut.mk (show Below wf.heap.size wf wl from HBW.out.trans (hbl.mono HBW.out.size))
         clear hbl
         go_wp2_with (fail)
         go_roundw
         case rel => exact ⟨τ + 1, o, by have := HTAU.out; omega, by go_num, HNX.out, by rw [← HVM.out], HFA.out, HFT.out, HFB.out, HBL.out⟩
         case measure => have := HTAU.out; simp [intOf]; omega
      ·obtain rfl : τ = 8 := by omega
       have HNX := Shut.mk (show Best (fatG M) (okG M) (16 * (8 * (α + 1))) o from HBE.out)
       go_wp2_with (fail)
       go_roundw
       case rel => exact ⟨α + 1, o, by omega, by have := HA2.out; subst this; go_num, HNX.out, HFM.out, HFA.out, HFT.out, HFB.out, HBW.out⟩
       case measure => have := HA2.out; subst this; simp [intOf]; omega
    ·obtain rfl : α = 16 := by omega
     subst ha2
     have ho : IsFatG M o := HBE.out
     cases o with
     | none =>
      exfalso
      obtain ⟨p, hp⟩ := HNZ.out
      rw [HMM.out] at ho
      exact fatG_some hp ho
     | some J =>
      have hJ : J < 2048 := ho.1
      obtain ⟨s, hxs⟩ := HFU.out ((J / 128 + 1) * 8 + J / 16 % 8) (by omega)
      have HJ := Shut.mk hJ
      have hJe : 8 * (J / 128) + J / 16 % 8 = J / 16 := by omega
      have HSQ := Shut.mk (show M (J / 16) = s.q by rw [HMM.out, ← hJe]; exact mR_some hxs)
      have HB6 := Shut.mk (HBV.out.trans (HBW.out.mono HBV.out.size))
      have HP6 := Shut.mk (HL.out.is.quiet HB6.out)
      have HQ6 := Shut.mk (HP6.out.qs _ (by omega) s hxs)
      have HO := Shut.mk ho
      have HXS := Shut.mk hxs
      have hcell := HP6.out.at_ (by omega) (by omega) hxs
      obtain rfl := HFA.out
      obtain rfl := HFT.out
      obtain rfl := HFB.out
      obtain ⟨β, hβ⟩ : ∃ β, β = J / 128 + 1 := ⟨_, rfl⟩
      obtain ⟨κ, hκ⟩ : ∃ κ, κ = J / 16 % 8 := ⟨_, rfl⟩
      obtain ⟨b, hb⟩ : ∃ b, b = J % 16 := ⟨_, rfl⟩
      rw [show fatRa (some J) = β from hβ.symm, show fatRt (some J) = κ from hκ.symm, show fatRb (some J) = b from hb.symm]
      rw [← hβ, ← hκ] at hcell
      have hβi : (β : Int) < 17 := by omega
      have hκi : (κ : Int) < 8 := by omega
      have HBB := Shut.mk hb
      have HBK := Shut.mk (show β = J / 128 + 1 ∧ κ = J / 16 % 8 ∧ 8 * (J / 128) + J / 16 % 8 = J / 16 from ⟨hβ, hκ, hJe⟩)
      clear ho hxs hJ hJe hβ hκ hb HBE HFM HFA HFT HFB
      obtain ⟨w6, hw6⟩ : ∃ w6, w6 = wr := ⟨_, rfl⟩
      rw [← hw6] at HB6 HP6 HQ6 hcell ⊢
      clear hw6 HBW
      go_wp2_with (fail)
      refine (refdrop2_any T' w6 s.x s.V s.q HQ6.out.is (fun b hb => by have := HQ6.out.few.len b hb; omega) (fun b hb p hp => (HQ6.out.few.el b hb p hp).2.2) (b : Int)).mono ?_
      rintro e w7 hE
      rcases hE with ⟨h0, -, -⟩ | ⟨n, p, r, v, V', hn, hbn, hpr, rfl, hov, hQ, hC, hap⟩
      ·exfalso
       have h2 : okG M J = true := HO.out.2.1
       unfold okG at h2
       rw [HSQ.out, ← HBB.out] at h2
       have hb16 : b < 16 := by rw [HBB.out]; omega
       rw [pkAt_in _ hb16] at h0
       unfold okF at h2
       rw [h0] at h2
       cases h2
      ·obtain rfl : n = b := by omega
       have hcall := HP6.out.call (by have := HJ.out; omega) HXS.out hQ hC (inv_drop HQ6.out.inv n) (few_drop HQ6.out.few hn)
       obtain ⟨X2, hX2⟩ : ∃ X2, X2 = updF X1 ((J / 128 + 1) * 8 + J / 16 % 8) (some ⟨s.x, V', dropQ s.q n⟩) := ⟨_, rfl⟩
       rw [← hX2] at hcall
       have HPC := Shut.mk hcall.1
       have HPS := Shut.mk hcall.2
       have HOV := Shut.mk hov
       have HPR := Shut.mk (show ((mR X1 (J / 16)).fl (J % 16)).pk = p :: r by rw [← HMM.out, HSQ.out, ← HBB.out]; exact hpr)
       have HF2 := Shut.mk (show FullR X2 by rw [hX2]; exact full_upd HFU.out _ _)
       have HM2 := Shut.mk (show mR X2 = dropM (mR X1) J by
        rw [hX2, mR_upd, ← HMM.out]
        unfold dropM
        rw [HSQ.out, ← HBB.out, HBK.out.2.2])
       have HAV := Shut.mk (show ∀ i, v.ownBlock = some i → ¬ FootL g X2 i from fun i hi e => by
        have h1 := (World.ownsRow.lt hov i hi).1
        rcases e with e | ⟨j, t, hj, ht, e⟩
        ·have h2 := HP6.out.lt; omega
        ·rw [hX2] at ht
         by_cases e2 : j = (J / 128 + 1) * 8 + J / 16 % 8
         ·subst e2
          rw [updF_same] at ht
          obtain rfl := Option.some.inj ht
          exact hap i hi e
         ·rw [updF_other _ _ e2] at ht
          have h2 := (HP6.out.qs j hj t ht).is.lts e
          omega)
       have HWF := Shut.mk (show ∀ i, i < p.body.length → IntKind.u8.min ≤ p.body.getD i 0 ∧ p.body.getD i 0 ≤ IntKind.u8.max from HQ6.out.is.wf hn (by rw [hpr]; exact List.mem_cons_self))
       have HPB := Shut.mk (show p.body.length ≤ 1000000 from (HQ6.out.few.el n hn p (by rw [hpr]; exact List.mem_cons_self)).2.2)
       clear hcall hov hQ hC hap hpr hbn hX2
       obtain ⟨A0, c0, hv0, -⟩ := owns_form HOV.out
       subst hv0
       obtain ⟨qi, qf, qt, qa, qb⟩ := p
       unfold pkV
       dsimp only at HOV HWF HPB ⊢
       have HB8 := Shut.mk ((Below.refl w7.heap.size w7).alloc (Nat.le_refl _) (Obj.cells #[Value.int .i64 qi, .int .u32 qf, .int .i64 qt, .int .i64 qa, Value.slice A0 qb.length c0] 35 (0, 0)))
       have HX8 := Shut.mk (MapKept.heap_alloc w7 (Obj.cells #[Value.int .i64 qi, .int .u32 qf, .int .i64 qt, .int .i64 qa, Value.slice A0 qb.length c0] 35 (0, 0))).1
       obtain ⟨w8, hw8⟩ : ∃ w8, w8 = w7.alloc (Obj.cells #[Value.int .i64 qi, .int .u32 qf, .int .i64 qt, .int .i64 qa, Value.slice A0 qb.length c0] 35 (0, 0)) := ⟨_, rfl⟩
       rw [← hw8] at HB8 HX8
       have z8 : w8.heap.size = w7.heap.size + 1 := by rw [hw8]; simp
       have HB9 := Shut.mk ((Below.refl w8.heap.size w8).alloc (Nat.le_refl _) (Obj.cells #[Value.int .i64 qi, .int .u32 qf, .int .i64 qt, .int .i64 qa, Value.slice A0 qb.length c0] 35 (0, 0)))
       have hx9 := block_range (MapKept.heap_alloc w8 (Obj.cells #[Value.int .i64 qi, .int .u32 qf, .int .i64 qt, .int .i64 qa, Value.slice A0 qb.length c0] 35 (0, 0))).1
       rw [z8] at hx9
       obtain ⟨wz, hwz⟩ : ∃ w9, w9 = w8.alloc (Obj.cells #[Value.int .i64 qi, .int .u32 qf, .int .i64 qt, .int .i64 qa, Value.slice A0 qb.length c0] 35 (0, 0)) := ⟨_, rfl⟩
       rw [← hwz] at HB9 hx9
       have HX9 := Shut.mk hx9
       have HB79 := Shut.mk (HB8.out.trans (HB9.out.mono HB8.out.size))
       have HW9 := Shut.mk (show (w7.alloc (Obj.cells #[Value.int .i64 qi, .int .u32 qf, .int .i64 qt, .int .i64 qa, Value.slice A0 qb.length c0] 35 (0, 0))).alloc (Obj.cells #[Value.int .i64 qi, .int .u32 qf, .int .i64 qt, .int .i64 qa, Value.slice A0 qb.length c0] 35 (0, 0)) = wz by rw [← hw8, ← hwz])
       clear hx9 z8 hw8 hwz
       have HDL := Shut.mk (show ds.length ≤ 1000000 by have h1 := HL.out.tot; have h2 := HN9.out; omega)
       have HNU := Shut.mk (show ∀ i, u8.ownBlock = some i → w9.heap.size ≤ i ∧ i < wo.heap.size from fun i hi => OwnP.lt HL.out.own i hi)
       have HNV := Shut.mk (show ∀ i, (Value.slice A0 qb.length c0).ownBlock = some i → w6.heap.size ≤ i ∧ i < w7.heap.size from fun i hi => World.ownsRow.lt HOV.out i hi)
       have HWS := Shut.mk (show w9.heap.size ≤ wo.heap.size from HL.out.st.only.size)
       have HO67 := Shut.mk (show Only (FootL g X1) w6 w7 from HPS.out.only)
       have HAPU := Shut.mk (show ∀ i, FootL g X1 i → u8.ownBlock ≠ some i ∧ ¬ T2 i from HL.out.ap)
       have HFX := Shut.mk (show ∀ i, FootL g X2 i → (FootL g X1 i ∧ i < wo.heap.size) ∨ (w6.heap.size ≤ i ∧ i < w7.heap.size) from fun i hi => by
        rcases HPS.out.fresh i hi with h1 | h1
        ·exact .inl ⟨h1, HL.out.is.lts h1⟩
        ·exact .inr ⟨h1, HPC.out.lts hi⟩)
       obtain ⟨T3, hT3⟩ : ∃ T3 : Nat → Prop, T3 = fun k => T2 k ∨ (Value.slice A0 qb.length c0).ownBlock = some k := ⟨_, rfl⟩
       have HO9 := Shut.mk (show OwnP T3 wz w9.heap.size u8 ds by
        rw [hT3]
        have h1 : OwnP T2 w7 w9.heap.size u8 ds := OwnK.only (OwnK.below HL.out.own HB6.out) HO67.out (fun i hi e => (HAPU.out i e).1 hi) (fun i hi e => (HAPU.out i e).2 hi)
        refine OwnP.wide (OwnK.below h1 HB79.out) (fun k hk => .inl hk) fun i hi e => ?_
        rcases e with e | e
        ·obtain ⟨l', -, -, -, h5⟩ := HL.out.own
         exact h5 i hi e
        ·have h2 := (HNV.out i e).1; have h3 := (HNU.out i hi).2; have h4 := HB6.out.size; omega)
       have HE9 := Shut.mk (show ElK T3 wz (.slice A0 qb.length c0) qb by
        rw [hT3]
        exact (OwnV.el HOV.out (by have h1 := HPB.out; unfold maxLen; omega) HWF.out fun i hi => .inr hi).below HB79.out)
       have HT9 := Shut.mk (show ∀ i, T3 i → w9.heap.size ≤ i ∧ i < wz.heap.size by
        rw [hT3]
        intro i hi
        have s1 := HB6.out.size
        have s2 := HO67.out.size
        have s3 := HB79.out.size
        have s4 := HWS.out
        rcases hi with hi | hi
        ·have h1 := HL.out.new i hi; omega
        ·have h1 := HNV.out i hi; omega)
       have HAP3 := Shut.mk (show ∀ i, FootL g X2 i → u8.ownBlock ≠ some i ∧ ¬ T3 i from fun i hi => by
        have h6 := HB6.out.size
        refine ⟨fun e => ?_, fun e => ?_⟩
        ·rcases HFX.out i hi with h1 | h1
         ·exact (HAPU.out i h1.1).1 e
         ·have := (HNU.out i e).2; omega
        ·rw [hT3] at e
         rcases e with e | e
         ·rcases HFX.out i hi with h1 | h1
          ·exact (HAPU.out i h1.1).2 e
          ·have := (HL.out.new i e).2; omega
         ·exact HAV.out i e hi)
       clear hT3
       go_wp2_with (first
        | (refine wpList_load_row rfl 35 (.tmp 17) rfl w7.heap.size rfl 35 #[Value.int .i64 qi, .int .u32 qf, .int .i64 qt, .int .i64 qa, Value.slice A0 qb.length c0] (0, 0) _ (by first | exact HX8.out | (have h9 := HX8.out; exact h9)) Tryz.underlying35 rfl size5 ?_)
        | (rw [HW9.out]
           refine app_p T3 rfl (.tmp 103) (.tmp 105) rfl w9.heap.size u8 ds rfl HO9.out ⟨qi, qf, qt, qa, qb⟩ (.slice A0 qb.length c0) ⟨w7.heap.size + 1, 0, none⟩ 1 rfl (fun j q hq => by rw [Addr.add_mid]; exact HX9.out j q hq) HE9.out (fun j hj => (HT9.out j hj).2) HDL.out (by have s1 := HB6.out.size; have s2 := HO67.out.size; have s3 := HB79.out.size; have s4 := HWS.out; omega) ?_
           intro ua wa HOa HBa HYa HZa))
       have HLD := Shut.mk (show (allP (mR X1) 128).length = (allP (dropM (mR X1) J) 128).length + 1 from by
        have := (allP_drop HJ.out HPR.out).length_eq
        rwa [List.length_cons] at this)
       go_roundg ln
       case measure => rw [HLN.out]; exact HL.out.mul
       case rel =>
        exact ⟨X2, T3, ds ++ [⟨qi, qf, qt, qa, qb⟩],
         {is := (HPC.out.quiet HB79.out).only HYa.out (fun i hi e => (HAP3.out i hi).1 e) (fun i hi e => by have h1 := HT9T.out i hi; have h2 := (HNU.out i e).1; omega)
          st := ((HL.out.st.trans (RlS.from_ HB6.out HPS.out)).quiet HB79.out).over HYa.out fun i e => (HNU.out i e).1
          full := HF2.out
          ap := fun i hi => ⟨fun e => by
           rcases HZa.out i e with h1 | h1
           ·exact (HAP3.out i hi).1 h1
           ·have h2 := HPC.out.lts hi; have h3 := HB79.out.size; omega, (HAP3.out i hi).2⟩
          own := HOa.out
          new := fun i hi => ⟨(HT9.out i hi).1, Nat.lt_of_lt_of_le (HT9.out i hi).2 HYa.out.size⟩
          tot := by have h1 := HL.out.tot; have h2 := HLD.out; rw [HM2.out, List.length_append]; simp only [List.length_cons, List.length_nil]; omega
          mul := by have h2 := HLD.out; rw [HM2.out, HLN.out]; omega
          shr := fun d2 M' hs => by
           rw [HM2.out] at hs
           have := HL.out.shr _ _ (Shr.step HOV1.out (by rw [← HMM.out]; exact HO.out) HPR.out hs)
           rwa [List.append_assoc] }⟩
  ·have HC1 := Shut.mk (show decide (hd.mp < (ln : Int)) = false from decide_eq_false h1)
   by_cases h2 : hd.mb < by_
   ·have HC2 := Shut.mk (show decide (hd.mb < by_) = true from decide_eq_true h2)
    have HNZ : Shut (∃ p, p ∈ allP (mR X1) 128) := ⟨by
     have h2 := HBY.out
     have h3 := HMP.out
     cases hc : allP (mR X1) 128 with
     | nil => rw [hc] at h2; have h4 : by_ = 0 := h2; omega
     | cons p r => exact ⟨p, List.mem_cons_self⟩⟩
    have HOV1 := Shut.mk (show hd.mp < ((allP (mR X1) 128).length : Int) ∨ hd.mb < bytesF (allP (mR X1) 128) from .inr (by rw [← HBY.out]; exact h2))
    clear h1 h2
    refine wp_region_D (fun w' => Below w5.heap.size w5 w') 15 (by kernel_rfl) (show Below w5.heap.size w5 (World.drew wo) by rw [HWw5.out]; exact Below.refl _ _) (fun hHeld hC => ?_)
    rw [← HWw5.out] at hHeld ⊢
    refine dP 0 hC hHeld ?_; clear hC; intro hC
    refine dP 2 hC hHeld ?_; clear hC; intro hC
    refine dP 3 hC hHeld ?_; clear hC; intro hC
    refine dP 4 hC hHeld ?_; clear hC; intro hC
    refine dT 5 hC hHeld (fun w hSw => (show w.cell? ⟨g, 3, none⟩ = some (.int .i64 hd.mp) from below_at hSw HP5.out.head.2.2.2.1)) ?_; clear hC; intro hC
    refine wpAnyD_one (i := 1) (by kernel_rfl) rfl hC (fun K hK => ?_)
    clear hC
    go_simp
    refine (reflen_p_any (HP5.out.quiet hHeld) HL.out.full).mono ?_
    rintro e' wv1 ⟨rfl, hB⟩
    rw [← HLN.out]
    have hHeld2 := hHeld.trans (hB.mono hHeld.size)
    clear hB
    clear hHeld
    have hHeld := hHeld2
    clear hHeld2
    refine hK.out _ _ (fun _ => hHeld) (fun hC => ?_)
    clear hK K
    try simp only [Act.put, sG1, sG2, sG3, sG4, sG5, sG6]
    refine wpAnyD_pure (i := 6) (v := ?_) rfl hC (by kernel_rfl) (by kernel_rfl) (by kernel_rfl) (by decide) (fun _ _ _ h => h) (Or.inl ⟨by rfl, ?_⟩) (fun _ => hHeld) ?_
    rotate_left
    ·intro w hSw
     have hf1 := HC1.out
     clear hSw
     go_simp
     try with_reducible rfl
    try simp only [Act.put, sG1, sG2, sG3, sG4, sG5, sG6]
    clear hC
    intro hC
    refine dP 7 hC hHeld ?_; clear hC; intro hC
    refine dP 8 hC hHeld ?_; clear hC; intro hC
    refine dP 10 hC hHeld ?_; clear hC; intro hC
    refine dP 11 hC hHeld ?_; clear hC; intro hC
    refine dP 12 hC hHeld ?_; clear hC; intro hC
    refine dT 13 hC hHeld (fun w hSw => (show w.cell? ⟨g, 4, none⟩ = some (.int .i64 hd.mb) from below_at hSw HP5.out.head.2.2.2.2)) ?_; clear hC; intro hC
    refine wpAnyD_one (i := 9) (by kernel_rfl) rfl hC (fun K hK => ?_)
    clear hC
    go_simp
    refine (refbyt_p_any (HP5.out.quiet hHeld) HL.out.full).mono ?_
    rintro e' wv2 ⟨rfl, hB⟩
    rw [← HBY.out]
    have hHeld2 := hHeld.trans (hB.mono hHeld.size)
    clear hB
    clear hHeld
    have hHeld := hHeld2
    clear hHeld2
    refine hK.out _ _ (fun _ => hHeld) (fun hC => ?_)
    clear hK K
    try simp only [Act.put, sG1, sG2, sG3, sG4, sG5, sG6]
    refine wpAnyD_pure (i := 14) (v := ?_) rfl hC (by kernel_rfl) (by kernel_rfl) (by kernel_rfl) (by decide) (fun _ _ _ h => h) (Or.inl ⟨by rfl, ?_⟩) (fun _ => hHeld) ?_
    rotate_left
    ·intro w hSw
     have hf2 := HC2.out
     clear hSw
     go_simp
     try with_reducible rfl
    try simp only [Act.put, sG1, sG2, sG3, sG4, sG5, sG6]
    clear hC
    intro hC
    refine wpAnyD_one (i := 15) (by kernel_rfl) rfl hC (fun K hK => ?_)
    clear hC
    go_simp
    refine hK.out _ _ (past (by kernel_rfl)) (fun hC => ?_)
    clear hK K
    try simp only [Act.put, sG1, sG2, sG3, sG4, sG5, sG6]
    refine wpAnyD_done (by kernel_rfl) ?_ _
    try simp only [Act.put, sG1, sG2, sG3, sG4, sG5, sG6]
    have HBV := Shut.mk (HDw5.out.trans (hHeld.mono HDw5.out.size))
    clear hHeld hC
    obtain ⟨wf, hwf⟩ : ∃ wf, wf = wv2 := ⟨_, rfl⟩
    rw [← hwf] at HBV ⊢
    clear hwf
    have HPF := Shut.mk (HL.out.is.quiet HBV.out)
    have HFU := Shut.mk HL.out.full
    obtain ⟨M, hM⟩ : ∃ M, M = mR X1 := ⟨_, rfl⟩
    have HMM := Shut.mk hM
    clear hM
    go_wp2_with (fail)
    go_loopw [9, 10, 11, 12, 13] (fun fm fa ft fb fi wr => ∃ (α : Nat) (o : Option Nat), α ≤ 16 ∧ fi = .int .i64 (((α + 1 : Nat)) : Int) ∧ Best (fatG M) (okG M) (16 * (8 * α)) o ∧ fm = .int .i64 (fatR M o) ∧ fa = .int .i64 ((fatRa o : Nat) : Int) ∧ ft = .int .i64 ((fatRt o : Nat) : Int) ∧ fb = .int .i64 ((fatRb o : Nat) : Int) ∧ Below wf.heap.size wf wr) (fun _ _ _ _ fi _ => 17 - (intOf fi).toNat)
    case atStart => exact ⟨0, none, by omega, rfl, best_zero _ _, rfl, rfl, rfl, rfl, Below.refl _ _⟩
    case round =>
     obtain ⟨α, o, hα, rfl, hbest, hfm, hfa, hft, hfb, hbw⟩ := hrel
     have HBE := Shut.mk hbest
     have HFM := Shut.mk hfm
     have HFA := Shut.mk hfa
     have HFT := Shut.mk hft
     have HFB := Shut.mk hfb
     have HBW := Shut.mk hbw
     clear hbest hfm hfa hft hfb hbw
     obtain ⟨a2, ha2⟩ : ∃ a2 : Nat, a2 = α + 1 := ⟨_, rfl⟩
     have HA2 := Shut.mk ha2
     rw [← ha2]
     by_cases hlt : α < 16
     ·have hai : (a2 : Int) ≤ 16 := by omega
      have hai7 : (a2 : Int) < 17 := by omega
      clear ha2
      go_wp2_with (fail)
      go_loopw [9, 10, 11, 12, 14] (fun fm fa ft fb fi wr => ∃ (τ : Nat) (o : Option Nat), τ ≤ 8 ∧ fi = .int .i64 (τ : Int) ∧ Best (fatG M) (okG M) (16 * (8 * α + τ)) o ∧ fm = .int .i64 (fatR M o) ∧ fa = .int .i64 ((fatRa o : Nat) : Int) ∧ ft = .int .i64 ((fatRt o : Nat) : Int) ∧ fb = .int .i64 ((fatRb o : Nat) : Int) ∧ Below wf.heap.size wf wr) (fun _ _ _ _ fi _ => 8 - (intOf fi).toNat)
      case atStart => exact ⟨0, o, by omega, rfl, HBE.out, HFM.out, HFA.out, HFT.out, HFB.out, HBW.out⟩
      case round =>
       clear HBE HFM HFA HFT HFB HBW o
       obtain ⟨τ, o, hτ, rfl, hbest, hfm, hfa, hft, hfb, hbw⟩ := hrel
       have HBE := Shut.mk hbest
       have HFM := Shut.mk hfm
       have HFA := Shut.mk hfa
       have HFT := Shut.mk hft
       have HFB := Shut.mk hfb
       have HBW := Shut.mk hbw
       clear hbest hfm hfa hft hfb hbw
       by_cases htl : τ < 8
       ·have hti : (τ : Int) < 8 := by omega
        have HPr := Shut.mk (HPF.out.quiet HBW.out)
        obtain ⟨s, hx⟩ := HFU.out ((α + 1) * 8 + τ) (by omega)
        have hq := HPr.out.qs _ (by omega) s hx
        have HQ := Shut.mk hq
        have hcell := HPr.out.at_ (by omega) htl hx
        rw [← HA2.out] at hcell
        have HSQ := Shut.mk (show M (8 * α + τ) = s.q by rw [HMM.out]; exact mR_some hx)
        have HLC := Shut.mk (reflen_any T' wr s.x s.V s.q hq.is hq.few.len)
        have HLT2 := Shut.mk hq.few.all
        obtain ⟨vm, hvm⟩ : ∃ v, v = fatR M o := ⟨_, rfl⟩
        have HVM := Shut.mk hvm
        have hfm := HFM.out
        rw [← hvm] at hfm
        obtain rfl := hfm
        have HTAU := Shut.mk htl
        clear hq hx hvm htl
        go_wp2_with (fail)
        refine (reffat_any T' wr s.x s.V s.q HQ.out.is HQ.out.few.fewQ).mono ?_
        rintro e wn ⟨⟨b, hb, rfl⟩, rfl⟩
        have HB0 := Shut.mk hb
        clear hb
        cases b with
        | none =>
         rw [show fatAt none = 0 from rfl, show fatV s.q none 0 = 0 from rfl]
         have HL0 := Shut.mk (show (allQ s.q).length = 0 by have h1 := fat_len0 HB0.out; rw [lenTo_all] at h1; exact h1)
         have HNX := Shut.mk (show Best (fatG M) (okG M) (16 * (8 * α + τ + 1)) o from fat_next (b := none) HBE.out (by rw [HSQ.out]; exact HB0.out))
         go_wp2_with (fail)
         refine HLC.out.mono ?_
         rintro e wl ⟨rfl, hbl⟩
         rw [HL0.out]
         have HBL := Shut.mk (show Below wf.heap.size wf wl from HBW.out.trans (hbl.mono HBW.out.size))
         clear hbl
         go_wp2_with (fail)
         go_roundw
         case rel => exact ⟨τ + 1, o, by have := HTAU.out; omega, by go_num, HNX.out, by rw [← HVM.out], HFA.out, HFT.out, HFB.out, HBL.out⟩
         case measure => have := HTAU.out; simp [intOf]; omega
        | some i =>
         obtain ⟨y, hy⟩ : ∃ y, y = fatF s.q i := ⟨_, rfl⟩
         have HY := Shut.mk hy
         rw [show fatAt (some i) = ((i : Nat) : Int) from rfl, show fatV s.q (some i) 0 = y from hy.symm]
         have HIS := Shut.mk (show IsFat (M (8 * α + τ)) (some i) by rw [HSQ.out]; exact HB0.out)
         have HI16 := Shut.mk (show i < 16 from HB0.out.1)
         have HYM := Shut.mk (show y = fatF (M (8 * α + τ)) i by rw [HSQ.out]; exact hy)
         obtain ⟨n, hn⟩ : ∃ n, n = (allQ s.q).length := ⟨_, rfl⟩
         have hnp : 0 < n := by have h1 := fat_len1 HB0.out; rw [lenTo_all] at h1; rw [hn]; exact h1
         have hnpi : (0 : Int) < (n : Int) := by omega
         have hnl : n ≤ 16000 := by rw [hn]; exact HLT2.out
         have HN2 := Shut.mk hn
         clear hy hn
         by_cases hgt : vm < y
         ·have HNX := Shut.mk (fatR_more HBE.out HIS.out (show fatR M o < fatF (M (8 * α + τ)) i by rw [← HVM.out, ← HYM.out]; exact hgt))
          have HRV := Shut.mk (fatR_at M (8 * α + τ) HI16.out)
          have HRA := Shut.mk (fatRa_at α τ HTAU.out HI16.out)
          go_wp2_with (fail)
          refine HLC.out.mono ?_
          rintro e wl ⟨rfl, hbl⟩
          rw [← HN2.out]
          have HBL := Shut.mk (show Below wf.heap.size wf wl from HBW.out.trans (hbl.mono HBW.out.size))
          clear hbl
          go_wp2_with (fail)
          go_roundw
          case rel => exact ⟨τ + 1, some (16 * (8 * α + τ) + i), by have := HTAU.out; omega, by go_num, HNX.out, by rw [HRV.out, ← HYM.out], by rw [HRA.out.1, HA2.out], by rw [HRA.out.2.1], by rw [HRA.out.2.2], HBL.out⟩
          case measure => have := HTAU.out; simp [intOf]; omega
         ·have HNX := Shut.mk (fatR_keep HBE.out HIS.out (show ¬ fatR M o < fatF (M (8 * α + τ)) i by rw [← HVM.out, ← HYM.out]; exact hgt))
          go_wp2_with (fail)
          refine HLC.out.mono ?_
          rintro e wl ⟨rfl, hbl⟩
          rw [← HN2.out]
          have HBL := Shut.mk (show Below wf.heap.size wf wl from HBW.out.trans (hbl.mono HBW.out.size))
          clear hbl
          go_wp2_with (fail)
          go_roundw
          case rel => exact ⟨τ + 1, o, by have := HTAU.out; omega, by go_num, HNX.out, by rw [← HVM.out], HFA.out, HFT.out, HFB.out, HBL.out⟩
          case measure => have := HTAU.out; simp [intOf]; omega
       ·obtain rfl : τ = 8 := by omega
        have HNX := Shut.mk (show Best (fatG M) (okG M) (16 * (8 * (α + 1))) o from HBE.out)
        go_wp2_with (fail)
        go_roundw
        case rel => exact ⟨α + 1, o, by omega, by have := HA2.out; subst this; go_num, HNX.out, HFM.out, HFA.out, HFT.out, HFB.out, HBW.out⟩
        case measure => have := HA2.out; subst this; simp [intOf]; omega
     ·obtain rfl : α = 16 := by omega
      subst ha2
      have ho : IsFatG M o := HBE.out
      cases o with
      | none =>
       exfalso
       obtain ⟨p, hp⟩ := HNZ.out
       rw [HMM.out] at ho
       exact fatG_some hp ho
      | some J =>
       have hJ : J < 2048 := ho.1
       obtain ⟨s, hxs⟩ := HFU.out ((J / 128 + 1) * 8 + J / 16 % 8) (by omega)
       have HJ := Shut.mk hJ
       have hJe : 8 * (J / 128) + J / 16 % 8 = J / 16 := by omega
       have HSQ := Shut.mk (show M (J / 16) = s.q by rw [HMM.out, ← hJe]; exact mR_some hxs)
       have HB6 := Shut.mk (HBV.out.trans (HBW.out.mono HBV.out.size))
       have HP6 := Shut.mk (HL.out.is.quiet HB6.out)
       have HQ6 := Shut.mk (HP6.out.qs _ (by omega) s hxs)
       have HO := Shut.mk ho
       have HXS := Shut.mk hxs
       have hcell := HP6.out.at_ (by omega) (by omega) hxs
       obtain rfl := HFA.out
       obtain rfl := HFT.out
       obtain rfl := HFB.out
       obtain ⟨β, hβ⟩ : ∃ β, β = J / 128 + 1 := ⟨_, rfl⟩
       obtain ⟨κ, hκ⟩ : ∃ κ, κ = J / 16 % 8 := ⟨_, rfl⟩
       obtain ⟨b, hb⟩ : ∃ b, b = J % 16 := ⟨_, rfl⟩
       rw [show fatRa (some J) = β from hβ.symm, show fatRt (some J) = κ from hκ.symm, show fatRb (some J) = b from hb.symm]
       rw [← hβ, ← hκ] at hcell
       have hβi : (β : Int) < 17 := by omega
       have hκi : (κ : Int) < 8 := by omega
       have HBB := Shut.mk hb
       have HBK := Shut.mk (show β = J / 128 + 1 ∧ κ = J / 16 % 8 ∧ 8 * (J / 128) + J / 16 % 8 = J / 16 from ⟨hβ, hκ, hJe⟩)
       clear ho hxs hJ hJe hβ hκ hb HBE HFM HFA HFT HFB
       obtain ⟨w6, hw6⟩ : ∃ w6, w6 = wr := ⟨_, rfl⟩
       rw [← hw6] at HB6 HP6 HQ6 hcell ⊢
       clear hw6 HBW
       go_wp2_with (fail)
       refine (refdrop2_any T' w6 s.x s.V s.q HQ6.out.is (fun b hb => by have := HQ6.out.few.len b hb; omega) (fun b hb p hp => (HQ6.out.few.el b hb p hp).2.2) (b : Int)).mono ?_
       rintro e w7 hE
       rcases hE with ⟨h0, -, -⟩ | ⟨n, p, r, v, V', hn, hbn, hpr, rfl, hov, hQ, hC, hap⟩
       ·exfalso
        have h2 : okG M J = true := HO.out.2.1
        unfold okG at h2
        rw [HSQ.out, ← HBB.out] at h2
        have hb16 : b < 16 := by rw [HBB.out]; omega
        rw [pkAt_in _ hb16] at h0
        unfold okF at h2
        rw [h0] at h2
        cases h2
       ·obtain rfl : n = b := by omega
        have hcall := HP6.out.call (by have := HJ.out; omega) HXS.out hQ hC (inv_drop HQ6.out.inv n) (few_drop HQ6.out.few hn)
        obtain ⟨X2, hX2⟩ : ∃ X2, X2 = updF X1 ((J / 128 + 1) * 8 + J / 16 % 8) (some ⟨s.x, V', dropQ s.q n⟩) := ⟨_, rfl⟩
        rw [← hX2] at hcall
        have HPC := Shut.mk hcall.1
        have HPS := Shut.mk hcall.2
        have HOV := Shut.mk hov
        have HPR := Shut.mk (show ((mR X1 (J / 16)).fl (J % 16)).pk = p :: r by rw [← HMM.out, HSQ.out, ← HBB.out]; exact hpr)
        have HF2 := Shut.mk (show FullR X2 by rw [hX2]; exact full_upd HFU.out _ _)
        have HM2 := Shut.mk (show mR X2 = dropM (mR X1) J by
         rw [hX2, mR_upd, ← HMM.out]
         unfold dropM
         rw [HSQ.out, ← HBB.out, HBK.out.2.2])
        have HAV := Shut.mk (show ∀ i, v.ownBlock = some i → ¬ FootL g X2 i from fun i hi e => by
         have h1 := (World.ownsRow.lt hov i hi).1
         rcases e with e | ⟨j, t, hj, ht, e⟩
         ·have h2 := HP6.out.lt; omega
         ·rw [hX2] at ht
          by_cases e2 : j = (J / 128 + 1) * 8 + J / 16 % 8
          ·subst e2
           rw [updF_same] at ht
           obtain rfl := Option.some.inj ht
           exact hap i hi e
          ·rw [updF_other _ _ e2] at ht
           have h2 := (HP6.out.qs j hj t ht).is.lts e
           omega)
        have HWF := Shut.mk (show ∀ i, i < p.body.length → IntKind.u8.min ≤ p.body.getD i 0 ∧ p.body.getD i 0 ≤ IntKind.u8.max from HQ6.out.is.wf hn (by rw [hpr]; exact List.mem_cons_self))
        have HPB := Shut.mk (show p.body.length ≤ 1000000 from (HQ6.out.few.el n hn p (by rw [hpr]; exact List.mem_cons_self)).2.2)
        clear hcall hov hQ hC hap hpr hbn hX2
        obtain ⟨A0, c0, hv0, -⟩ := owns_form HOV.out
        subst hv0
        obtain ⟨qi, qf, qt, qa, qb⟩ := p
        unfold pkV
        dsimp only at HOV HWF HPB ⊢
        have HB8 := Shut.mk ((Below.refl w7.heap.size w7).alloc (Nat.le_refl _) (Obj.cells #[Value.int .i64 qi, .int .u32 qf, .int .i64 qt, .int .i64 qa, Value.slice A0 qb.length c0] 35 (0, 0)))
        have HX8 := Shut.mk (MapKept.heap_alloc w7 (Obj.cells #[Value.int .i64 qi, .int .u32 qf, .int .i64 qt, .int .i64 qa, Value.slice A0 qb.length c0] 35 (0, 0))).1
        obtain ⟨w8, hw8⟩ : ∃ w8, w8 = w7.alloc (Obj.cells #[Value.int .i64 qi, .int .u32 qf, .int .i64 qt, .int .i64 qa, Value.slice A0 qb.length c0] 35 (0, 0)) := ⟨_, rfl⟩
        rw [← hw8] at HB8 HX8
        have z8 : w8.heap.size = w7.heap.size + 1 := by rw [hw8]; simp
        have HB9 := Shut.mk ((Below.refl w8.heap.size w8).alloc (Nat.le_refl _) (Obj.cells #[Value.int .i64 qi, .int .u32 qf, .int .i64 qt, .int .i64 qa, Value.slice A0 qb.length c0] 35 (0, 0)))
        have hx9 := block_range (MapKept.heap_alloc w8 (Obj.cells #[Value.int .i64 qi, .int .u32 qf, .int .i64 qt, .int .i64 qa, Value.slice A0 qb.length c0] 35 (0, 0))).1
        rw [z8] at hx9
        obtain ⟨wz, hwz⟩ : ∃ w9, w9 = w8.alloc (Obj.cells #[Value.int .i64 qi, .int .u32 qf, .int .i64 qt, .int .i64 qa, Value.slice A0 qb.length c0] 35 (0, 0)) := ⟨_, rfl⟩
        rw [← hwz] at HB9 hx9
        have HX9 := Shut.mk hx9
        have HB79 := Shut.mk (HB8.out.trans (HB9.out.mono HB8.out.size))
        have HW9 := Shut.mk (show (w7.alloc (Obj.cells #[Value.int .i64 qi, .int .u32 qf, .int .i64 qt, .int .i64 qa, Value.slice A0 qb.length c0] 35 (0, 0))).alloc (Obj.cells #[Value.int .i64 qi, .int .u32 qf, .int .i64 qt, .int .i64 qa, Value.slice A0 qb.length c0] 35 (0, 0)) = wz by rw [← hw8, ← hwz])
        clear hx9 z8 hw8 hwz
        have HDL := Shut.mk (show ds.length ≤ 1000000 by have h1 := HL.out.tot; have h2 := HN9.out; omega)
        have HNU := Shut.mk (show ∀ i, u8.ownBlock = some i → w9.heap.size ≤ i ∧ i < wo.heap.size from fun i hi => OwnP.lt HL.out.own i hi)
        have HNV := Shut.mk (show ∀ i, (Value.slice A0 qb.length c0).ownBlock = some i → w6.heap.size ≤ i ∧ i < w7.heap.size from fun i hi => World.ownsRow.lt HOV.out i hi)
        have HWS := Shut.mk (show w9.heap.size ≤ wo.heap.size from HL.out.st.only.size)
        have HO67 := Shut.mk (show Only (FootL g X1) w6 w7 from HPS.out.only)
        have HAPU := Shut.mk (show ∀ i, FootL g X1 i → u8.ownBlock ≠ some i ∧ ¬ T2 i from HL.out.ap)
        have HFX := Shut.mk (show ∀ i, FootL g X2 i → (FootL g X1 i ∧ i < wo.heap.size) ∨ (w6.heap.size ≤ i ∧ i < w7.heap.size) from fun i hi => by
         rcases HPS.out.fresh i hi with h1 | h1
         ·exact .inl ⟨h1, HL.out.is.lts h1⟩
         ·exact .inr ⟨h1, HPC.out.lts hi⟩)
        obtain ⟨T3, hT3⟩ : ∃ T3 : Nat → Prop, T3 = fun k => T2 k ∨ (Value.slice A0 qb.length c0).ownBlock = some k := ⟨_, rfl⟩
        have HO9 := Shut.mk (show OwnP T3 wz w9.heap.size u8 ds by
         rw [hT3]
         have h1 : OwnP T2 w7 w9.heap.size u8 ds := OwnK.only (OwnK.below HL.out.own HB6.out) HO67.out (fun i hi e => (HAPU.out i e).1 hi) (fun i hi e => (HAPU.out i e).2 hi)
         refine OwnP.wide (OwnK.below h1 HB79.out) (fun k hk => .inl hk) fun i hi e => ?_
         rcases e with e | e
         ·obtain ⟨l', -, -, -, h5⟩ := HL.out.own
          exact h5 i hi e
         ·have h2 := (HNV.out i e).1; have h3 := (HNU.out i hi).2; have h4 := HB6.out.size; omega)
        have HE9 := Shut.mk (show ElK T3 wz (.slice A0 qb.length c0) qb by
         rw [hT3]
         exact (OwnV.el HOV.out (by have h1 := HPB.out; unfold maxLen; omega) HWF.out fun i hi => .inr hi).below HB79.out)
        have HT9 := Shut.mk (show ∀ i, T3 i → w9.heap.size ≤ i ∧ i < wz.heap.size by
         rw [hT3]
         intro i hi
         have s1 := HB6.out.size
         have s2 := HO67.out.size
         have s3 := HB79.out.size
         have s4 := HWS.out
         rcases hi with hi | hi
         ·have h1 := HL.out.new i hi; omega
         ·have h1 := HNV.out i hi; omega)
        have HAP3 := Shut.mk (show ∀ i, FootL g X2 i → u8.ownBlock ≠ some i ∧ ¬ T3 i from fun i hi => by
         have h6 := HB6.out.size
         refine ⟨fun e => ?_, fun e => ?_⟩
         ·rcases HFX.out i hi with h1 | h1
          ·exact (HAPU.out i h1.1).1 e
          ·have := (HNU.out i e).2; omega
         ·rw [hT3] at e
          rcases e with e | e
          ·rcases HFX.out i hi with h1 | h1
           ·exact (HAPU.out i h1.1).2 e
           ·have := (HL.out.new i e).2; omega
          ·exact HAV.out i e hi)
        clear hT3
        go_wp2_with (first
         | (refine wpList_load_row rfl 35 (.tmp 17) rfl w7.heap.size rfl 35 #[Value.int .i64 qi, .int .u32 qf, .int .i64 qt, .int .i64 qa, Value.slice A0 qb.length c0] (0, 0) _ (by first | exact HX8.out | (have h9 := HX8.out; exact h9)) Tryz.underlying35 rfl size5 ?_)
         | (rw [HW9.out]
            refine app_p T3 rfl (.tmp 103) (.tmp 105) rfl w9.heap.size u8 ds rfl HO9.out ⟨qi, qf, qt, qa, qb⟩ (.slice A0 qb.length c0) ⟨w7.heap.size + 1, 0, none⟩ 1 rfl (fun j q hq => by rw [Addr.add_mid]; exact HX9.out j q hq) HE9.out (fun j hj => (HT9.out j hj).2) HDL.out (by have s1 := HB6.out.size; have s2 := HO67.out.size; have s3 := HB79.out.size; have s4 := HWS.out; omega) ?_
            intro ua wa HOa HBa HYa HZa))
        have HLD := Shut.mk (show (allP (mR X1) 128).length = (allP (dropM (mR X1) J) 128).length + 1 from by
         have := (allP_drop HJ.out HPR.out).length_eq
         rwa [List.length_cons] at this)
        go_roundg ln
        case measure => rw [HLN.out]; exact HL.out.mul
        case rel =>
         exact ⟨X2, T3, ds ++ [⟨qi, qf, qt, qa, qb⟩],
          {is := (HPC.out.quiet HB79.out).only HYa.out (fun i hi e => (HAP3.out i hi).1 e) (fun i hi e => by have h1 := HT9T.out i hi; have h2 := (HNU.out i e).1; omega)
           st := ((HL.out.st.trans (RlS.from_ HB6.out HPS.out)).quiet HB79.out).over HYa.out fun i e => (HNU.out i e).1
           full := HF2.out
           ap := fun i hi => ⟨fun e => by
            rcases HZa.out i e with h1 | h1
            ·exact (HAP3.out i hi).1 h1
            ·have h2 := HPC.out.lts hi; have h3 := HB79.out.size; omega, (HAP3.out i hi).2⟩
           own := HOa.out
           new := fun i hi => ⟨(HT9.out i hi).1, Nat.lt_of_lt_of_le (HT9.out i hi).2 HYa.out.size⟩
           tot := by have h1 := HL.out.tot; have h2 := HLD.out; rw [HM2.out, List.length_append]; simp only [List.length_cons, List.length_nil]; omega
           mul := by have h2 := HLD.out; rw [HM2.out, HLN.out]; omega
           shr := fun d2 M' hs => by
            rw [HM2.out] at hs
            have := HL.out.shr _ _ (Shr.step HOV1.out (by rw [← HMM.out]; exact HO.out) HPR.out hs)
            rwa [List.append_assoc] }⟩
   ·have HC2 := Shut.mk (show decide (hd.mb < by_) = false from decide_eq_false h2)
    have HDN := Shut.mk (show Shr hd.mp hd.mb (mR X9) (ds ++ []) (mR X1) from HL.out.shr _ _ (Shr.done (by rw [← HLN.out]; omega) (by rw [← HBY.out]; omega)))
    clear h1 h2
    refine wp_region_D (fun w' => Below w5.heap.size w5 w') 15 (by kernel_rfl) (show Below w5.heap.size w5 (World.drew wo) by rw [HWw5.out]; exact Below.refl _ _) (fun hHeld hC => ?_)
    rw [← HWw5.out] at hHeld ⊢
    refine dP 0 hC hHeld ?_; clear hC; intro hC
    refine dP 2 hC hHeld ?_; clear hC; intro hC
    refine dP 3 hC hHeld ?_; clear hC; intro hC
    refine dP 4 hC hHeld ?_; clear hC; intro hC
    refine dT 5 hC hHeld (fun w hSw => (show w.cell? ⟨g, 3, none⟩ = some (.int .i64 hd.mp) from below_at hSw HP5.out.head.2.2.2.1)) ?_; clear hC; intro hC
    refine wpAnyD_one (i := 1) (by kernel_rfl) rfl hC (fun K hK => ?_)
    clear hC
    go_simp
    refine (reflen_p_any (HP5.out.quiet hHeld) HL.out.full).mono ?_
    rintro e' wv1 ⟨rfl, hB⟩
    rw [← HLN.out]
    have hHeld2 := hHeld.trans (hB.mono hHeld.size)
    clear hB
    clear hHeld
    have hHeld := hHeld2
    clear hHeld2
    refine hK.out _ _ (fun _ => hHeld) (fun hC => ?_)
    clear hK K
    try simp only [Act.put, sG1, sG2, sG3, sG4, sG5, sG6]
    refine wpAnyD_pure (i := 6) (v := ?_) rfl hC (by kernel_rfl) (by kernel_rfl) (by kernel_rfl) (by decide) (fun _ _ _ h => h) (Or.inl ⟨by rfl, ?_⟩) (fun _ => hHeld) ?_
    rotate_left
    ·intro w hSw
     have hf1 := HC1.out
     clear hSw
     go_simp
     try with_reducible rfl
    try simp only [Act.put, sG1, sG2, sG3, sG4, sG5, sG6]
    clear hC
    intro hC
    refine dP 7 hC hHeld ?_; clear hC; intro hC
    refine dP 8 hC hHeld ?_; clear hC; intro hC
    refine dP 10 hC hHeld ?_; clear hC; intro hC
    refine dP 11 hC hHeld ?_; clear hC; intro hC
    refine dP 12 hC hHeld ?_; clear hC; intro hC
    refine dT 13 hC hHeld (fun w hSw => (show w.cell? ⟨g, 4, none⟩ = some (.int .i64 hd.mb) from below_at hSw HP5.out.head.2.2.2.2)) ?_; clear hC; intro hC
    refine wpAnyD_one (i := 9) (by kernel_rfl) rfl hC (fun K hK => ?_)
    clear hC
    go_simp
    refine (refbyt_p_any (HP5.out.quiet hHeld) HL.out.full).mono ?_
    rintro e' wv2 ⟨rfl, hB⟩
    rw [← HBY.out]
    have hHeld2 := hHeld.trans (hB.mono hHeld.size)
    clear hB
    clear hHeld
    have hHeld := hHeld2
    clear hHeld2
    refine hK.out _ _ (fun _ => hHeld) (fun hC => ?_)
    clear hK K
    try simp only [Act.put, sG1, sG2, sG3, sG4, sG5, sG6]
    refine wpAnyD_pure (i := 14) (v := ?_) rfl hC (by kernel_rfl) (by kernel_rfl) (by kernel_rfl) (by decide) (fun _ _ _ h => h) (Or.inl ⟨by rfl, ?_⟩) (fun _ => hHeld) ?_
    rotate_left
    ·intro w hSw
     have hf2 := HC2.out
     clear hSw
     go_simp
     try with_reducible rfl
    try simp only [Act.put, sG1, sG2, sG3, sG4, sG5, sG6]
    clear hC
    intro hC
    refine wpAnyD_one (i := 15) (by kernel_rfl) rfl hC (fun K hK => ?_)
    clear hC
    go_simp
    refine hK.out _ _ (past (by kernel_rfl)) (fun hC => ?_)
    clear hK K
    try simp only [Act.put, sG1, sG2, sG3, sG4, sG5, sG6]
    refine wpAnyD_done (by kernel_rfl) ?_ _
    try simp only [Act.put, sG1, sG2, sG3, sG4, sG5, sG6]
    have HBV := Shut.mk (HDw5.out.trans (hHeld.mono HDw5.out.size))
    clear hHeld hC
    obtain ⟨wf, hwf⟩ : ∃ wf, wf = wv2 := ⟨_, rfl⟩
    rw [← hwf] at HBV ⊢
    clear hwf
    have HDN2 := HDN.out
    rw [List.append_nil, HM9.out] at HDN2
    have HDN3 := Shut.mk HDN2
    clear HDN2 HDN
    go_wp2_with (fail)
    go_ret2
    exact ⟨⟨_, T', T2, X1, ds, rfl, HL.out.is.quiet HBV.out, (HS9.out.trans HL.out.st).quiet HBV.out, HL.out.full, OwnP.base (OwnK.below HL.out.own HBV.out) HS9.out.only.size, fun k hk => ⟨Nat.le_trans HS9.out.only.size (HL.out.new k hk).1, Nat.lt_of_lt_of_le (HL.out.new k hk).2 HBV.out.size⟩, HL.out.ap, HDN3.out⟩⟩
end Go.Proofs.YtndkmgcmegcieaaGreatDoor
