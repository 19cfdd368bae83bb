/-
  CONTRACTS of pool's Len, Bytes, fattest.
-/
import Derived.Test.YtndkmgcmegcieaaGreatDoorPoolC
import Derived.Test.YtndkmgcmegcieaaGreatDoorPoolM
import Derived.BigQuiet
namespace Go.Proofs.YtndkmgcmegcieaaGreatDoor
open Go.ChangeShapes Go.WideShapes Go.ChangeAt Go.RowKit Go.Deep
set_option linter.unusedVariables false
set_option linter.unusedSimpArgs false
theorem FewC.all {q : Qu} (h : FewC q) : (allQ q).length ≤ 16000 := allTo_len h 16 (Nat.le_refl _)
theorem FewC.byt {q : Qu} (h : FewC q) : 0 ≤ bytesF (allQ q) ∧ bytesF (allQ q) ≤ 16000000000 := by
 have h1 := h.all
 have h2 := bytes_low (allQ q) fun p hp => by
  obtain ⟨i, hi, h3⟩ := allTo_mem 16 hp
  exact (h.el i hi p h3).2.2
 omega
theorem pool_few {T : Nat → Prop} {w : World} {g : Nat} {h : Hd} {X : Nat → Option Qs} (hp : IsPool T w g h X) {k : Nat} (hk : k < 128) : FewC (mOf X k) := by
 cases hx : X k with
 | none => rw [mOf_none hx]; exact few_quZ
 | some s => rw [mOf_some hx]; exact (hp.qs k hk s hx).few
theorem pool_inv {T : Nat → Prop} {w : World} {g : Nat} {h : Hd} {X : Nat → Option Qs} (hp : IsPool T w g h X) {k : Nat} (hk : k < 128) : InvQ (bkQ h.seed) (mOf X k) := by
 cases hx : X k with
 | none => rw [mOf_none hx]; exact inv_Z _
 | some s => rw [mOf_some hx]; exact (hp.qs k hk s hx).inv
theorem pool_len {T : Nat → Prop} {w : World} {g : Nat} {h : Hd} {X : Nat → Option Qs} (hp : IsPool T w g h X) : ∀ n, n ≤ 128 → (allP (mOf X) n).length ≤ 16000 * n ∧ 0 ≤ bytesF (allP (mOf X) n) ∧ bytesF (allP (mOf X) n) ≤ 16000000000 * (n : Int)
 | 0, _ => ⟨Nat.le_refl _, Int.le_refl _, Int.le_refl _⟩
 | n + 1, hn => by
  obtain ⟨h1, h2, h3⟩ := pool_len hp n (by omega)
  have h4 := (pool_few hp (k := n) (by omega)).all
  have h5 := (pool_few hp (k := n) (by omega)).byt
  rw [allP_succ, List.length_append, bytesF_app]
  omega
set_option maxRecDepth 100000 in
set_option maxHeartbeats 8000000 in
theorem len_p_any {T : Nat → Prop} {w : World} {g : Nat} {h : Hd} {X : Nat → Option Qs} (hp : IsPool T w g h X) :
 Calls Tryz.prog 9 #[.pointer (some ⟨g, 0, none⟩)] w fun e w' => e = .returned (.int .i64 (((allP (mOf X) 128).length : Nat))) ∧ Below w.heap.size w w' := by
 have HB := Shut.mk ((Below.refl w.heap.size w).alloc (Nat.le_refl _) (Obj.cells #[Value.int .i64 0] 3 (0, 0)))
 have HX := Shut.mk (MapKept.heap_alloc w (Obj.cells #[Value.int .i64 0] 3 (0, 0))).1
 have HP := Shut.mk (hp.quiet HB.out)
 have HLT := Shut.mk (show ∀ i, FootP g X i ∨ T i → i < w.heap.size from fun i hi => hi.elim hp.lts (hp.there i))
 have HQO := Shut.mk hp.qs
 obtain ⟨c, hc⟩ : ∃ c, c = w.heap.size := ⟨_, rfl⟩
 have HC := Shut.mk hc
 obtain ⟨R, hR⟩ : ∃ R : Nat → World → Prop, R = fun k w1 => k ≤ 128 ∧ IsPool T w1 g h X ∧ w1.heap[c]? = some (.cells #[Value.int .i64 (((allP (mOf X) k).length : Nat))] 3 (0, 0)) ∧ Below w.heap.size w w1 := ⟨_, rfl⟩
 have HRD := Shut.mk hR
 have HPP := Shut.mk (show ∀ k w1, R k w1 → IsPool T w1 g h X by rw [hR]; exact fun k w1 h => h.2.1)
 have HSK := Shut.mk (show ∀ k, k < 128 → X k = none → ∀ w1, R k w1 → R (k + 1) w1 by
  rw [hR]
  rintro k hk hx w1 ⟨h0, h1, h2, h3⟩
  refine ⟨by omega, h1, ?_, h3⟩
  rw [show allP (mOf X) (k + 1) = allP (mOf X) k by rw [allP_succ, mOf_none hx, allQ_Z, List.append_nil]]
  exact h2)
 have HST := Shut.mk (show ∀ k, k < 128 → ∀ s, X k = some s → ∀ w1, R k w1 → Calls Tryz.prog 29 #[.pointer (some ⟨s.x.g, 0, none⟩), .pointer (some ⟨c, 0, none⟩)] w1 fun e w2 => e = .returned (.tuple #[]) ∧ R (k + 1) w2 by
  rw [hR]
  rintro k hk s hx w1 ⟨h0, h1, h2, h3⟩
  have hq := h1.qs k hk s hx
  refine (lenfn_any T w1 s.x s.V s.q hq.is hq.few c _ h2 (by have := (pool_len h1 k (by omega)).1; omega)).mono ?_
  rintro e w2 ⟨rfl, h4, h5⟩
  have hn : ∀ i, FootP g X i ∨ T i → i ≠ c := fun i hi e => by have := HLT.out i hi; have := HC.out; omega
  refine ⟨rfl, by omega, h1.only h5 (fun i hi e => hn i (.inl hi) e) (fun i hi e => hn i (.inr hi) e), ?_, h3.trans (h5.below (fun i hi e => by have := HC.out; omega) h3.size)⟩
  rw [h4]
  have e1 : allP (mOf X) (k + 1) = allP (mOf X) k ++ allQ s.q := by rw [allP_succ, mOf_some hx]
  rw [e1, List.length_append, lenTo_all]
  rfl)
 have H0 := Shut.mk (show R 0 (w.alloc (Obj.cells #[Value.int .i64 0] 3 (0, 0))) by
  rw [hR, hc]
  exact ⟨by omega, HP.out, HX.out, HB.out⟩)
 clear hp hR
 go_enter Tryz.func9, Tryz.ntmps9
 go_wp2_with (fail)
 rw [← hc]
 clear hc
 generalize World.alloc w _ = w1 at *
 refine (eachlen_any c R H0.out HPP HSK HST).mono ?_
 rintro e w2 ⟨rfl, hr⟩
 rw [HRD.out] at hr
 obtain ⟨-, -, h2, h3⟩ := hr
 have hce := block_range h2 0 _ rfl
 rw [Nat.zero_add] at hce
 have hce2 : w2.cell? ⟨c, 0, none⟩ = some (Value.int .i64 (((allP (mOf X) 128).length : Nat))) := hce
 have HB3 := Shut.mk h3
 clear h2 h3 hce H0 HPP HSK HST HRD
 obtain ⟨vv, hvv⟩ : ∃ vv, vv = (((allP (mOf X) 128).length : Nat)) := ⟨_, rfl⟩
 rw [← hvv] at hce2
 have HV := Shut.mk hvv
 clear hvv
 go_wp2_with (fail)
 go_ret
 exact ⟨by rw [← HV.out]; rfl, HB3.out⟩
set_option maxRecDepth 100000 in
set_option maxHeartbeats 8000000 in
theorem byt_p_any {T : Nat → Prop} {w : World} {g : Nat} {h : Hd} {X : Nat → Option Qs} (hp : IsPool T w g h X) :
 Calls Tryz.prog 20 #[.pointer (some ⟨g, 0, none⟩)] w fun e w' => e = .returned (.int .i64 (bytesF (allP (mOf X) 128))) ∧ Below w.heap.size w w' := by
 have HB := Shut.mk ((Below.refl w.heap.size w).alloc (Nat.le_refl _) (Obj.cells #[Value.int .i64 0] 3 (0, 0)))
 have HX := Shut.mk (MapKept.heap_alloc w (Obj.cells #[Value.int .i64 0] 3 (0, 0))).1
 have HP := Shut.mk (hp.quiet HB.out)
 have HLT := Shut.mk (show ∀ i, FootP g X i ∨ T i → i < w.heap.size from fun i hi => hi.elim hp.lts (hp.there i))
 have HQO := Shut.mk hp.qs
 obtain ⟨c, hc⟩ : ∃ c, c = w.heap.size := ⟨_, rfl⟩
 have HC := Shut.mk hc
 obtain ⟨R, hR⟩ : ∃ R : Nat → World → Prop, R = fun k w1 => k ≤ 128 ∧ IsPool T w1 g h X ∧ w1.heap[c]? = some (.cells #[Value.int .i64 (bytesF (allP (mOf X) k))] 3 (0, 0)) ∧ Below w.heap.size w w1 := ⟨_, rfl⟩
 have HRD := Shut.mk hR
 have HPP := Shut.mk (show ∀ k w1, R k w1 → IsPool T w1 g h X by rw [hR]; exact fun k w1 h => h.2.1)
 have HSK := Shut.mk (show ∀ k, k < 128 → X k = none → ∀ w1, R k w1 → R (k + 1) w1 by
  rw [hR]
  rintro k hk hx w1 ⟨h0, h1, h2, h3⟩
  refine ⟨by omega, h1, ?_, h3⟩
  rw [show allP (mOf X) (k + 1) = allP (mOf X) k by rw [allP_succ, mOf_none hx, allQ_Z, List.append_nil]]
  exact h2)
 have HST := Shut.mk (show ∀ k, k < 128 → ∀ s, X k = some s → ∀ w1, R k w1 → Calls Tryz.prog 46 #[.pointer (some ⟨s.x.g, 0, none⟩), .pointer (some ⟨c, 0, none⟩)] w1 fun e w2 => e = .returned (.tuple #[]) ∧ R (k + 1) w2 by
  rw [hR]
  rintro k hk s hx w1 ⟨h0, h1, h2, h3⟩
  have hq := h1.qs k hk s hx
  refine (bytfn_any T w1 s.x s.V s.q hq.is hq.few c _ h2 (by have := (pool_len h1 k (by omega)).2; omega)).mono ?_
  rintro e w2 ⟨rfl, h4, h5⟩
  have hn : ∀ i, FootP g X i ∨ T i → i ≠ c := fun i hi e => by have := HLT.out i hi; have := HC.out; omega
  refine ⟨rfl, by omega, h1.only h5 (fun i hi e => hn i (.inl hi) e) (fun i hi e => hn i (.inr hi) e), ?_, h3.trans (h5.below (fun i hi e => by have := HC.out; omega) h3.size)⟩
  rw [h4]
  have e1 : allP (mOf X) (k + 1) = allP (mOf X) k ++ allQ s.q := by rw [allP_succ, mOf_some hx]
  rw [e1, bytesF_app, bytTo_all]
  rfl)
 have H0 := Shut.mk (show R 0 (w.alloc (Obj.cells #[Value.int .i64 0] 3 (0, 0))) by
  rw [hR, hc]
  exact ⟨by omega, HP.out, HX.out, HB.out⟩)
 clear hp hR
 go_enter Tryz.func20, Tryz.ntmps20
 go_wp2_with (fail)
 rw [← hc]
 clear hc
 generalize World.alloc w _ = w1 at *
 refine (eachbyt_any c R H0.out HPP HSK HST).mono ?_
 rintro e w2 ⟨rfl, hr⟩
 rw [HRD.out] at hr
 obtain ⟨-, -, h2, h3⟩ := hr
 have hce := block_range h2 0 _ rfl
 rw [Nat.zero_add] at hce
 have hce2 : w2.cell? ⟨c, 0, none⟩ = some (Value.int .i64 (bytesF (allP (mOf X) 128))) := hce
 have HB3 := Shut.mk h3
 clear h2 h3 hce H0 HPP HSK HST HRD
 obtain ⟨vv, hvv⟩ : ∃ vv, vv = (bytesF (allP (mOf X) 128)) := ⟨_, rfl⟩
 rw [← hvv] at hce2
 have HV := Shut.mk hvv
 clear hvv
 go_wp2_with (fail)
 go_ret
 exact ⟨by rw [← HV.out]; rfl, HB3.out⟩
def fatP (X : Nat → Option Qs) (o : Option Nat) : Value := match o with | none => .pointer none | some J => ptrQ (X (J / 16))
def fatB (o : Option Nat) : Nat := match o with | none => 0 | some J => J % 16
def fatS (X : Nat → Option Qs) (o : Option Nat) : Int × Value × Int := (match o with | none => -1 | some J => fatG (mOf X) J, fatP X o, (fatB o : Nat))
theorem fatS_step {X : Nat → Option Qs} {k : Nat} {s : Qs} (hx : X k = some s) {a b : Option Nat} (ha : Best (fatG (mOf X)) (okG (mOf X)) (16 * k) a) (hb : IsFat s.q b) :
 fatStep s.q s.x.g b (fatS X a).1 (fatS X a).2.1 (fatS X a).2.2 = fatS X (combO (fatG (mOf X)) (16 * k) a b) := by
 cases b with
 | none => rfl
 | some i =>
  have hi : i < 16 := hb.1
  have e1 : fatG (mOf X) (16 * k + i) = fatF s.q i := by rw [(fatG_in _ k hi).1, mOf_some hx]
  have e2 : fatS X (some (16 * k + i)) = (fatF s.q i, .pointer (some ⟨s.x.g, 0, none⟩), ((i : Nat) : Int)) := by
   unfold fatS fatP fatB
   dsimp only
   rw [e1, show (16 * k + i) / 16 = k by omega, show (16 * k + i) % 16 = i by omega, hx]
   rfl
  have hpos : 0 ≤ fatF s.q i := bytesF_nonneg _
  unfold fatStep combO
  cases a with
  | none =>
   dsimp only
   rw [e2, if_pos (by show (-1 : Int) < fatF s.q i; omega)]
  | some j =>
   dsimp only
   have e3 : (fatS X (some j)).1 = fatG (mOf X) j := rfl
   rw [e1, e3]
   by_cases e : fatG (mOf X) j < fatF s.q i
   ·rw [if_pos e, if_pos e, e2]
   ·rw [if_neg e, if_neg e]; rfl
theorem FatC.only {w w' : World} {S : Nat → Prop} {cm cf cb : Nat} {s : Int × Value × Int} (h : FatC w cm cf cb s) (ho : Only S w w') (hn : ∀ k, k = cm ∨ k = cf ∨ k = cb → ¬ S k) : FatC w' cm cf cb s :=
 ⟨ho.at_ h.m (hn _ (.inl rfl)), ho.at_ h.f (hn _ (.inr (.inl rfl))), ho.at_ h.b (hn _ (.inr (.inr rfl)))⟩
set_option maxRecDepth 100000 in
set_option maxHeartbeats 8000000 in
theorem fattest_p_any {T : Nat → Prop} {w : World} {g : Nat} {h : Hd} {X : Nat → Option Qs} (hp : IsPool T w g h X) :
 Calls Tryz.prog 58 #[.pointer (some ⟨g, 0, none⟩)] w fun e w' => ∃ o, IsFatG (mOf X) o ∧ e = .returned (.tuple #[fatP X o, .int .i64 (fatB o : Nat)]) ∧ Below w.heap.size w w' := by
 have HLT := Shut.mk (show ∀ i, FootP g X i ∨ T i → i < w.heap.size from fun i hi => hi.elim hp.lts (hp.there i))
 obtain ⟨wa, hwa⟩ : ∃ wa, wa = w.alloc (Obj.cells #[Value.pointer none] 53 (0, 0)) := ⟨_, rfl⟩
 obtain ⟨wb, hwb⟩ : ∃ wb, wb = wa.alloc (Obj.cells #[Value.int .i64 0] 3 (0, 0)) := ⟨_, rfl⟩
 obtain ⟨wc, hwc⟩ : ∃ wc, wc = wb.alloc (Obj.cells #[Value.int .i64 (-1)] 3 (0, 0)) := ⟨_, rfl⟩
 obtain ⟨cf, hcf⟩ : ∃ c, c = w.heap.size := ⟨_, rfl⟩
 obtain ⟨cb, hcb⟩ : ∃ c, c = cf + 1 := ⟨_, rfl⟩
 obtain ⟨cm, hcm⟩ : ∃ c, c = cf + 2 := ⟨_, rfl⟩
 have za : wa.heap.size = cf + 1 := by rw [hwa, hcf]; simp
 have zb : wb.heap.size = cf + 2 := by rw [hwb]; simp; omega
 have ba : Below w.heap.size w wa := by rw [hwa]; exact (Below.refl _ _).alloc (Nat.le_refl _) _
 have bb : Below wa.heap.size wa wb := by rw [hwb]; exact (Below.refl _ _).alloc (Nat.le_refl _) _
 have bc : Below wb.heap.size wb wc := by rw [hwc]; exact (Below.refl _ _).alloc (Nat.le_refl _) _
 have xa : wa.heap[cf]? = some (Obj.cells #[Value.pointer none] 53 (0, 0)) := by rw [hwa, hcf]; exact (MapKept.heap_alloc w _).1
 have xb : wb.heap[cb]? = some (Obj.cells #[Value.int .i64 0] 3 (0, 0)) := by rw [hwb, hcb, ← za]; exact (MapKept.heap_alloc wa _).1
 have xc : wc.heap[cm]? = some (Obj.cells #[Value.int .i64 (-1)] 3 (0, 0)) := by rw [hwc, hcm, ← zb]; exact (MapKept.heap_alloc wb _).1
 have HB := Shut.mk ((ba.trans (bb.mono ba.size)).trans (bc.mono (Nat.le_trans ba.size bb.size)))
 have HF0 := Shut.mk (show FatC wc cm cf cb (fatS X none) from ⟨xc, (bc.block _ (lt_blk ((bb.block _ (lt_blk xa)).trans xa))).trans ((bb.block _ (lt_blk xa)).trans xa), (bc.block _ (lt_blk xb)).trans xb⟩)
 have HP := Shut.mk (hp.quiet HB.out)
 have HNE := Shut.mk (show (cm ≠ cf ∧ cm ≠ cb ∧ cf ≠ cb) ∧ w.heap.size ≤ cf ∧ w.heap.size ≤ cb ∧ w.heap.size ≤ cm from ⟨⟨by omega, by omega, by omega⟩, by omega, by omega, by omega⟩)
 obtain ⟨R, hR⟩ : ∃ R : Nat → World → Prop, R = fun k w1 => IsPool T w1 g h X ∧ (∃ o, Best (fatG (mOf X)) (okG (mOf X)) (16 * k) o ∧ FatC w1 cm cf cb (fatS X o)) ∧ Below w.heap.size w w1 := ⟨_, rfl⟩
 have HRD := Shut.mk hR
 have HPP := Shut.mk (show ∀ k w1, R k w1 → IsPool T w1 g h X by rw [hR]; exact fun k w1 h => h.1)
 have HSK := Shut.mk (show ∀ k, k < 128 → X k = none → ∀ w1, R k w1 → R (k + 1) w1 by
  rw [hR]
  rintro k hk hx w1 ⟨h1, ⟨o, h2, h3⟩, h4⟩
  refine ⟨h1, ⟨o, ?_, h3⟩, h4⟩
  have := fat_next (k := k) h2 (b := none) (by rw [mOf_none hx]; exact fat_quZ)
  exact this)
 have HST := Shut.mk (show ∀ k, k < 128 → ∀ s, X k = some s → ∀ w1, R k w1 → Calls Tryz.prog 79 #[.pointer (some ⟨s.x.g, 0, none⟩), .pointer (some ⟨cm, 0, none⟩), .pointer (some ⟨cf, 0, none⟩), .pointer (some ⟨cb, 0, none⟩)] w1 fun e w2 => e = .returned (.tuple #[]) ∧ R (k + 1) w2 by
  rw [hR]
  rintro k hk s hx w1 ⟨h1, ⟨o, h2, h3⟩, h4⟩
  have hq := h1.qs k hk s hx
  refine (fatfn_any T w1 s.x s.V s.q hq.is hq.few cm cf cb _ _ _ h3 HNE.out.1).mono ?_
  rintro e w2 ⟨rfl, ⟨o2, h5, h6⟩, h7⟩
  have hn : ∀ i, FootP g X i ∨ T i → ¬ (i = cm ∨ i = cf ∨ i = cb) := fun i hi e => by
   have h8 := HLT.out i hi
   have h9 := HNE.out.2
   rcases e with e | e | e <;> omega
  refine ⟨rfl, h1.only h7 (fun i hi => hn i (.inl hi)) (fun i hi => hn i (.inr hi)), ⟨_, fat_next (k := k) h2 (by rw [mOf_some hx]; exact h5), by rw [← fatS_step hx h2 h5]; exact h6⟩, h4.trans (h7.below (fun i hi e => by
   have h9 := HNE.out.2
   rcases e with e | e | e <;> omega) h4.size)⟩)
 have H0 := Shut.mk (show R 0 wc by
  rw [hR]
  exact ⟨HP.out, ⟨none, best_zero _ _, HF0.out⟩, HB.out⟩)
 have HWA := Shut.mk hwa
 have HWB := Shut.mk hwb
 have HWC := Shut.mk hwc
 have HZA := Shut.mk za
 have HZB := Shut.mk zb
 have HCF := Shut.mk hcf
 have HCB := Shut.mk hcb
 have HCM := Shut.mk hcm
 clear hp hR hwa hwb hwc za zb ba bb bc xa xb xc hcf hcb hcm HF0
 go_enter Tryz.func58, Tryz.ntmps58
 go_wp2_with (fail)
 rw [← HWA.out, ← HWB.out, ← HWC.out, show w.heap.size + 1 + 1 = cm by have h1 := HCF.out; have h2 := HCM.out; omega, show w.heap.size + 1 = cb by have h1 := HCF.out; have h2 := HCB.out; omega, ← HCF.out]
 refine (eachfat_any cm cf cb R H0.out HPP HSK HST).mono ?_
 rintro e w2 ⟨rfl, hr⟩
 rw [HRD.out] at hr
 obtain ⟨-, ⟨o, ho, hf⟩, h3⟩ := hr
 have hcf := block_range hf.f 0 _ rfl
 have hcb := block_range hf.b 0 _ rfl
 rw [Nat.zero_add] at hcf hcb
 have hcf2 : w2.cell? ⟨cf, 0, none⟩ = some (fatP X o) := hcf
 have hcb2 : w2.cell? ⟨cb, 0, none⟩ = some (.int .i64 (fatB o : Nat)) := hcb
 have HO := Shut.mk ho
 have HB3 := Shut.mk h3
 clear ho hf h3 hcf hcb H0 HPP HSK HST HRD
 obtain ⟨pv, hpv⟩ : ∃ v, v = fatP X o := ⟨_, rfl⟩
 obtain ⟨bv, hbv⟩ : ∃ v, v = ((fatB o : Nat) : Int) := ⟨_, rfl⟩
 rw [← hpv] at hcf2
 rw [← hbv] at hcb2
 have HPV := Shut.mk hpv
 have HBV := Shut.mk hbv
 clear hpv hbv
 go_wp2_with (fail)
 go_quiet (fail)
 go_wp2_with (fail)
 go_ret2
 exact ⟨o, HO.out, by rw [← HPV.out, ← HBV.out]; rfl, below_drewN HB3.out _⟩
end Go.Proofs.YtndkmgcmegcieaaGreatDoor
