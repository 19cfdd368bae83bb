/-
  muezzin/muezzinlaw11.CodelMeans returns true, for all arguments; no condition.
-/
import Derived.Test.YtmajbkhbkepebaaCodH
import Derived.Test.YtmajbkhbkepebaaCodelN
import Derived.Test.YtmajbkhbkepebaaOpenCd
import Derived.WalkKit
import Derived.ProofKit
import Derived.OpenShut
import Derived.ChangeOld
import Derived.Below
namespace Go.Proofs.Ytmajbkhbkepebaa.codelMeans
open Go.Deep Go.ChangeShapes Go.WideShapes Go.ChangeAt Go.RowKit
set_option linter.unusedVariables false
set_option linter.unusedSimpArgs false

theorem own : ownKnob Try.prog.godebug = none := by kernel_rfl
theorem laidOut : laidOutB Try.prog = true := by kernel_rfl

/-! ### THE WALK -/
set_option maxRecDepth 100000 in
set_option maxHeartbeats 8000000 in
theorem walk (n0 : Int) (n1 : Int) (n2 : Int) (w : World) (w0 : (Lit.int .u32 n0).wf = true) (w1 : (Lit.int .i64 n1).wf = true) (w2 : (Lit.int .i64 n2).wf = true) :
    Calls Try.prog 8 #[.int .u32 n0, .int .i64 n1, .int .i64 n2] w fun e w' => e = .returned (.bool true) ∧ Below w.heap.size w w' := by
  obtain ⟨c0, rfl⟩ := Int.eq_ofNat_of_zero_le (wf_u32 w0).1
  have W1 := Shut.mk w1
  have W2 := Shut.mk w2
  clear w0 w1 w2
  obtain ⟨k, hk⟩ : ∃ k : Nat, c0 % 1000 = k := ⟨_, rfl⟩
  have hk1 : k < 1000 := by omega
  have y0 : (c0 : Int) % 1000 = (k : Int) := by omega
  obtain ⟨k2, hk2⟩ : ∃ k2 : Nat, k + 2 = k2 := ⟨_, rfl⟩
  obtain ⟨k4, hk4⟩ : ∃ k4 : Nat, k2 + 2 = k4 := ⟨_, rfl⟩
  obtain ⟨k5, hk5⟩ : ∃ k5 : Nat, k2 + 5 = k5 := ⟨_, rfl⟩
  have y1 : IntKind.u32.wrap (k : Int) = (k : Int) := IntWalk.u32_in _ ⟨by omega, by omega⟩
  have y2 : IntKind.u32.wrap ((k : Int) + 2) = (k2 : Int) := by rw [IntWalk.u32_in _ ⟨by omega, by omega⟩]; omega
  have y3 : IntKind.u32.wrap ((k2 : Int) + 5) = (k5 : Int) := by rw [IntWalk.u32_in _ ⟨by omega, by omega⟩]; omega
  have y4 : IntKind.u32.wrap ((k2 : Int) + 2) = (k4 : Int) := by rw [IntWalk.u32_in _ ⟨by omega, by omega⟩]; omega
  have K := Shut.mk (show k2 + 2 = k4 ∧ k2 + 5 = k5 ∧ 2 ≤ k2 ∧ k2 ≤ 1001 by omega)
  clear hk hk2 hk4 hk5 hk1
  go_enter Try.func8, Try.ntmps8
  go_wp2_with (fail)
  refine (first_any w).mono ?_
  rintro e w1 ⟨rfl, hB⟩
  have HB1 := Shut.mk hB
  clear hB
  go_wp2_with (fail)
  refine (number_any n2 1000 _ W2.out (by decide) (by decide)).mono ?_
  rintro e w2 ⟨rfl, rfl⟩
  have l2 := nmod_lo n2 1000 (by decide)
  have u2 := nmod_hi n2 1000 (by decide)
  generalize nmod n2 1000 = ii at *
  obtain ⟨i, hi⟩ : ∃ i : Int, ii + 1 = i := ⟨_, rfl⟩
  have y6 : IntKind.i64.wrap (ii + 1) = i := by rw [hi]; exact IntWalk.i64_in _ ⟨by omega, by omega⟩
  have hi1 : 1 ≤ i ∧ i ≤ 1000 := by omega
  clear hi
  go_wp2_with (fail)
  refine (number_any n1 32 _ W1.out (by decide) (by decide)).mono ?_
  rintro e w2 ⟨rfl, rfl⟩
  have l1 := nmod_lo n1 32 (by decide)
  have u1 := nmod_hi n1 32 (by decide)
  generalize nmod n1 32 = gp at *
  have hp0 : 0 ≤ gp * i := Int.mul_nonneg l1 (by omega)
  have hp1 : gp * i ≤ 32 * i := Int.mul_le_mul_of_nonneg_right (by omega) (by omega)
  obtain ⟨dn, d1, d2, hp⟩ := means (gap := gp) (i := i) (n := k2) K.out.2.2.1 K.out.2.2.2 l1 u1 hi1.1 hi1.2
  obtain ⟨p, hpe⟩ : ∃ p : Int, gp * i = p := ⟨_, rfl⟩
  rw [hpe] at hp0 hp1
  obtain ⟨q, hq⟩ : ∃ q : Int, 1073741824 - p = q := ⟨_, rfl⟩
  have y7 : IntKind.i64.wrap (gp * i) = p := by rw [hpe]; exact IntWalk.i64_in _ ⟨by omega, by omega⟩
  have y8 : IntKind.i64.wrap (1073741824 - p) = q := by rw [hq]; exact IntWalk.i64_in _ ⟨by omega, by omega⟩
  have hqb : 0 ≤ q ∧ q ≤ 4503599627370496 := by omega
  obtain ⟨z, hz⟩ : ∃ z : Int, 1073741824 + i = z := ⟨_, rfl⟩
  have y9 : IntKind.i64.wrap (1073741824 + i) = z := by rw [hz]; exact IntWalk.i64_in _ ⟨by omega, by omega⟩
  have d3 : dn ≤ z := by omega
  obtain ⟨M, hM⟩ : ∃ M : Nat, (if gp < 16 then k2 + 2 else 1) = M := ⟨_, rfl⟩
  have HP : Shut (pullR ⟨1073741824, clampR 10 0 1073741824, clampR i 0 1073741824⟩ ⟨1073741823, q, k5, 3, false⟩ 1048576 [⟨0, 2000⟩, ⟨0, 2000⟩, ⟨0, 2000⟩] = (⟨1073741823, dn, M, M, true⟩, 1, true)) := ⟨by
    have e : cdM gp i k2 = ⟨1073741823, q, k5, 3, false⟩ := by unfold cdM; rw [hpe, hq, K.out.2.1]
    rw [e, hM] at hp
    rw [clamp_id (show 0 ≤ i by omega) (show i ≤ 1073741824 by omega)]
    exact hp⟩
  have HM : Shut (M = if gp < 16 then k4 else 1) := ⟨by rw [← hM, K.out.1]⟩
  have HK5 : Shut (k5 < 4294967296) := ⟨by have := K.out; omega⟩
  have HQB := Shut.mk hqb
  have H3 := Shut.mk (three_alloc w1 (Obj.cells #[Value.int IntKind.i64 0, Value.int IntKind.i64 2000] 38 (0, 0)) (Obj.cells #[Value.int IntKind.i64 1073741823, Value.int IntKind.i64 q, Value.int IntKind.u32 ((k5 : Nat) : Int), Value.int IntKind.u32 3, Value.bool false] 24 (0, 0)) (Obj.cells #[Value.int IntKind.i64 0, Value.int IntKind.i64 2000, Value.int IntKind.i64 0, Value.int IntKind.i64 2000, Value.int IntKind.i64 0, Value.int IntKind.i64 2000] 38 (0, 0)))
  have HL : Shut (RowS itC 2 it00 (((w1.alloc (Obj.cells #[Value.int IntKind.i64 0, Value.int IntKind.i64 2000] 38 (0, 0))).alloc (Obj.cells #[Value.int IntKind.i64 1073741823, Value.int IntKind.i64 q, Value.int IntKind.u32 ((k5 : Nat) : Int), Value.int IntKind.u32 3, Value.bool false] 24 (0, 0))).alloc (Obj.cells #[Value.int IntKind.i64 0, Value.int IntKind.i64 2000, Value.int IntKind.i64 0, Value.int IntKind.i64 2000, Value.int IntKind.i64 0, Value.int IntKind.i64 2000] 38 (0, 0))) (some ⟨w1.heap.size + 2, 0, none⟩) 3 [⟨0, 2000⟩, ⟨0, 2000⟩, ⟨0, 2000⟩]) := ⟨lit_items [⟨0, 2000⟩, ⟨0, 2000⟩, ⟨0, 2000⟩] H3.out.2.2.2.1 (by simp; unfold maxLen; omega)⟩
  clear hM hp hpe hq hz hp0 hp1 d2 K hqb
  go_wp2_with (fail)
  rw [show w1.heap.size + 1 + 1 = w1.heap.size + 2 from rfl]
  refine (pull_any 1073741824 10 i 1048576 1073741823 q k5 3 false _ 3 3 [⟨0, 2000⟩, ⟨0, 2000⟩, ⟨0, 2000⟩] _ HL.out (by omega) (by omega) (by omega) (fun x hx => by simp at hx; subst hx; simp) HK5.out (by omega) HQB.out _ HP.out).mono ?_
  rintro e w4 ⟨rfl, hB⟩
  dsimp only
  have HB4 := Shut.mk ((HB1.out.trans (H3.out.1.mono HB1.out.size)).trans (hB.mono (Nat.le_trans HB1.out.size H3.out.1.size)))
  have HB5 := Shut.mk (HB4.out.alloc HB4.out.size (Obj.cells #[Value.int IntKind.i64 1073741823, Value.int IntKind.i64 dn, Value.int IntKind.u32 ((M : Nat) : Int), Value.int IntKind.u32 ((M : Nat) : Int), Value.bool true] 24 (0, 0)))
  clear hB H3 HL
  by_cases hg : gp < 16
  · have hM : M = k4 := by rw [HM.out, if_pos hg]
    subst hM
    go_wp2
    go_ret
    exact ⟨rfl, HB5.out⟩
  · have hM : M = 1 := by rw [HM.out, if_neg hg]
    subst hM
    go_wp2
    go_ret
    exact ⟨rfl, HB5.out⟩

/-! ### THE ROW -/
set_option maxRecDepth 100000 in
theorem lifted (os : Os) (started : os.Started) (H : Type) (enc : TypeId × Value → H) :
    ReturnsInHanded {} Try.checked os 8 .any (Rows.codelMeansSpec.pre6 enc Try.prog Try.f8 Rows.codelMeansRow.domain false) (Rows.codelMeansSpec.post enc Try.prog Try.f8 false true false false) := by
  refine returnsInHanded_of_change (C := Try.checked) own started (by kernel_rfl) Try.func8
    (ChangeSpec.witness6 (enc := enc) (C := Try.checked) false ⟨#[], #[.int .u32 0, .int .i64 0, .int .i64 0], []⟩ 8 (by kernel_rfl) (by kernel_rfl) (by kernel_rfl) (by kernel_rfl)) ?_
  intro W base args ds gs before hval0 hW hcnd _
  have hval : ∀ (j : Nat) t v, Try.f8.params[j]? = some t → args[j]? = some v → Value.okWide Try.prog W .any base t v := hval0
  have hW' := hW
  obtain ⟨p, q, hA0, hV, rfl, hfz, hnd⟩ := hW
  have hA : DataW.TrodAll enc Try.prog W 0 (fun _ => true) true Try.f8.params.toList args.toList ds p := hA0
  rw [Try.params8] at hA hval
  obtain ⟨v0, vs0, d0, ds0, p0, q0', hargs, rfl, rfl, h0, r0⟩ := trodAll_cons hA
  obtain ⟨v1, vs1, d1, ds1, p1, q1', rfl, rfl, rfl, h1, r1⟩ := trodAll_cons r0
  obtain ⟨v2, vs2, d2, ds2, p2, q2', rfl, rfl, rfl, h2, r2⟩ := trodAll_cons r1
  obtain ⟨rfl, rfl, rfl⟩ := trodAll_nil r2
  obtain rfl : args = #[v0, v1, v2] := by cases args; simp_all
  obtain ⟨rfl, rfl⟩ := trodVars_none hV
  have k0 := h0
  have lt0 : ∀ x ∈ p0, x.block < W.heap.size := by obtain ⟨m, hm⟩ := k0; exact DataW.trod_lt m _ _ _ hm
  have k1 := h1
  have lt1 : ∀ x ∈ p1, x.block < W.heap.size := by obtain ⟨m, hm⟩ := k1; exact DataW.trod_lt m _ _ _ hm
  have k2 := h2
  have lt2 : ∀ x ∈ p2, x.block < W.heap.size := by obtain ⟨m, hm⟩ := k2; exact DataW.trod_lt m _ _ _ hm
  obtain ⟨n0, rfl, rfl, rfl, w0⟩ := open_int Try.underlying22 (hval 0 22 v0 rfl rfl) h0
  obtain ⟨n1, rfl, rfl, rfl, w1⟩ := open_int Try.underlying3 (hval 1 3 v1 rfl rfl) h1
  obtain ⟨n2, rfl, rfl, rfl, w2⟩ := open_int Try.underlying2 (hval 2 2 v2 rfl rfl) h2
  clear hA0 hval0
  refine (walk n0 n1 n2 W w0 w1 w2).mono fun e W' ⟨he, bel⟩ => ?_
  subst he
  exact ⟨_, rfl, _, _, _, [], _, [], hW', trodAll_mk1 (shut_bool Try.underlying4 _), (trodAll_cons_mk (Below.trod laidOut (by kernel_rfl) (of_decide_eq_true (by kernel_rfl)) k0 bel lt0) (trodAll_cons_mk (Below.trod laidOut (by kernel_rfl) (of_decide_eq_true (by kernel_rfl)) k1 bel lt1) (trodAll_cons_mk (Below.trod laidOut (by kernel_rfl) (of_decide_eq_true (by kernel_rfl)) k2 bel lt2) trodAll_mk0))), rfl, bel.frame _, fun h => by cases h⟩

theorem over : Rows.codelMeansRow.holds Try.pinned (OpenSpec.ofChange Rows.codelMeansSpec) :=
  OpenClaim.holds_of_wide 8 Try.f8 rfl rfl rfl rfl rfl rfl rfl ⟨rfl, rfl, rfl, rfl, rfl⟩ rfl rfl rfl rfl rfl (by kernel_rfl) Try.func8 (by kernel_rfl)
    (of_decide_eq_true (by kernel_rfl)) (by unfold Func.isWrapper; first | (rw [if_pos (by decide +kernel)]; kernel_rfl) | (rw [if_neg (by decide +kernel)]; exact ⟨rfl, rfl⟩))
    (fun os started H enc _ => lifted os started H enc)
theorem proved : Rows.CodelMeansSaid := over
#print axioms proved
end Go.Proofs.Ytmajbkhbkepebaa.codelMeans
