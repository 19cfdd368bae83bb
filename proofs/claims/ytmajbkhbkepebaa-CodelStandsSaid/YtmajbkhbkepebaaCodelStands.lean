/-
  muezzin/muezzinlaw11.CodelStands returns true, for all arguments; no condition.
-/
import Derived.Test.YtmajbkhbkepebaaCodH
import Derived.Test.YtmajbkhbkepebaaCodelN
import Derived.Test.YtmajbkhbkepebaaOpenCd
import Derived.WalkKit
import Derived.ProofKit
import Derived.OpenShut
import Derived.ChangeOld
import Derived.Below
namespace Go.Proofs.Ytmajbkhbkepebaa.codelStands
open Go.Deep Go.ChangeShapes Go.WideShapes Go.ChangeAt Go.RowKit
set_option linter.unusedVariables false
set_option linter.unusedSimpArgs false

theorem own : ownKnob Try.prog.godebug = none := by kernel_rfl
theorem laidOut : laidOutB Try.prog = true := by kernel_rfl

/-! ### THE WALK -/
set_option maxRecDepth 100000 in
set_option maxHeartbeats 8000000 in
theorem walk (n0 : Int) (n1 : Int) (w : World) (w0 : (Lit.int .i64 n0).wf = true) (w1 : (Lit.int .i64 n1).wf = true) :
    Calls Try.prog 6 #[.int .i64 n0, .int .i64 n1] w fun e w' => e = .returned (.bool true) ∧ Below w.heap.size w w' := by
  have W0 := Shut.mk w0
  have W1 := Shut.mk w1
  clear w0 w1
  go_enter Try.func6, Try.ntmps6
  go_wp2_with (fail)
  refine (first_any w).mono ?_
  rintro e w1 ⟨rfl, hB⟩
  have HB := Shut.mk hB
  clear hB
  go_wp2_with (fail)
  refine (number_any n0 1000 _ W0.out (by decide) (by decide)).mono ?_
  rintro e w2 ⟨rfl, rfl⟩
  have l2 := nmod_lo n0 1000 (by decide)
  have u2 := nmod_hi n0 1000 (by decide)
  generalize nmod n0 1000 = ii at *
  obtain ⟨i, hi⟩ : ∃ i : Int, ii + 100 = i := ⟨_, rfl⟩
  have y0 : IntKind.i64.wrap (ii + 100) = i := by rw [hi]; exact IntWalk.i64_in _ ⟨by omega, by omega⟩
  have hi1 : 100 ≤ i ∧ i ≤ 1100 := by omega
  clear hi
  go_wp2_with (fail)
  refine (number_any n1 400 _ W1.out (by decide) (by decide)).mono ?_
  rintro e w2 ⟨rfl, rfl⟩
  have l1 := nmod_lo n1 400 (by decide)
  have u1 := nmod_hi n1 400 (by decide)
  generalize nmod n1 400 = ss at *
  obtain ⟨s, hs⟩ : ∃ s : Int, ss + 1000 = s := ⟨_, rfl⟩
  have y1 : IntKind.i64.wrap (ss + 1000) = s := by rw [hs]; exact IntWalk.i64_in _ ⟨by omega, by omega⟩
  have hs1 : 1000 ≤ s ∧ s ≤ 1400 := by omega
  clear hs
  obtain ⟨bs, hbs⟩ : ∃ bs : Int, 100 * s = bs := ⟨_, rfl⟩
  obtain ⟨a1, h1⟩ : ∃ x : Int, 1000 + i = x := ⟨_, rfl⟩
  obtain ⟨a2, h2⟩ : ∃ x : Int, a1 - 1 = x := ⟨_, rfl⟩
  obtain ⟨j2, hj2⟩ : ∃ x : Int, 2 * i = x := ⟨_, rfl⟩
  obtain ⟨a3, h3⟩ : ∃ x : Int, 1000 + j2 = x := ⟨_, rfl⟩
  obtain ⟨a4, h4⟩ : ∃ x : Int, a3 - 1 = x := ⟨_, rfl⟩
  obtain ⟨j3, hj3⟩ : ∃ x : Int, 3 * i = x := ⟨_, rfl⟩
  obtain ⟨a5, h5⟩ : ∃ x : Int, 1000 + j3 = x := ⟨_, rfl⟩
  have z1 : IntKind.i64.wrap (100 * s) = bs := by rw [hbs]; exact IntWalk.i64_in _ ⟨by omega, by omega⟩
  have z2 : IntKind.i64.wrap (1000 + i) = a1 := by rw [h1]; exact IntWalk.i64_in _ ⟨by omega, by omega⟩
  have z3 : IntKind.i64.wrap (a1 - 1) = a2 := by rw [h2]; exact IntWalk.i64_in _ ⟨by omega, by omega⟩
  have z4 : IntKind.i64.wrap (2 * i) = j2 := by rw [hj2]; exact IntWalk.i64_in _ ⟨by omega, by omega⟩
  have z5 : IntKind.i64.wrap (1000 + j2) = a3 := by rw [h3]; exact IntWalk.i64_in _ ⟨by omega, by omega⟩
  have z6 : IntKind.i64.wrap (a3 - 1) = a4 := by rw [h4]; exact IntWalk.i64_in _ ⟨by omega, by omega⟩
  have z7 : IntKind.i64.wrap (3 * i) = j3 := by rw [hj3]; exact IntWalk.i64_in _ ⟨by omega, by omega⟩
  have z8 : IntKind.i64.wrap (1000 + j3) = a5 := by rw [h5]; exact IntWalk.i64_in _ ⟨by omega, by omega⟩
  obtain ⟨m1, m2⟩ := next_2 (a := 1000 + 2 * i) (i := i) (by omega) (by omega) hi1.1 hi1.2
  have e2 : 1000 + 2 * i = a3 := by omega
  have c1 : clampR 10 0 1073741824 = 10 := rfl
  have c2 : clampR i 0 1073741824 = i := clamp_id (by omega) (by omega)
  have P1 : Shut (pullR ⟨1000, clampR 10 0 1073741824, clampR i 0 1073741824⟩ ⟨0, 0, 0, 0, false⟩ bs [⟨0, s⟩, ⟨0, s⟩, ⟨0, s⟩, ⟨0, s⟩, ⟨0, s⟩, ⟨0, s⟩] = (⟨a1, 0, 0, 0, false⟩, 0, true)) := ⟨by
    have h := stand_a (i := i) (s := s) hs1.1
    rw [hbs, h1] at h; rw [c1, c2]; exact h⟩
  have P2 : Shut (pullR ⟨a2, clampR 10 0 1073741824, clampR i 0 1073741824⟩ ⟨a1, 0, 0, 0, false⟩ bs [⟨0, s⟩, ⟨0, s⟩, ⟨0, s⟩, ⟨0, s⟩, ⟨0, s⟩, ⟨0, s⟩] = (⟨a1, 0, 0, 0, false⟩, 0, true)) := ⟨by
    have h := stand_b (i := i) (s := s) hs1.1 hi1.1
    rw [hbs, h1, h2] at h; rw [c1, c2]; exact h⟩
  have P3 : Shut (pullR ⟨a1, clampR 10 0 1073741824, clampR i 0 1073741824⟩ ⟨a1, 0, 0, 0, false⟩ bs [⟨0, s⟩, ⟨0, s⟩, ⟨0, s⟩, ⟨0, s⟩, ⟨0, s⟩, ⟨0, s⟩] = (⟨a1, a3, 1, 1, true⟩, 1, true)) := ⟨by
    have h := stand_d (i := i) (s := s) hs1.1 hi1.1 hi1.2
    rw [hbs, h1, e2] at h; rw [c1, c2]; exact h⟩
  have P4 : Shut (pullR ⟨a4, clampR 10 0 1073741824, clampR i 0 1073741824⟩ ⟨a1, a3, 1, 1, true⟩ bs [⟨0, s⟩, ⟨0, s⟩, ⟨0, s⟩, ⟨0, s⟩, ⟨0, s⟩, ⟨0, s⟩] = (⟨a1, a3, 1, 1, true⟩, 0, true)) := ⟨by
    have h := stand_e (i := i) (s := s) hs1.1 hi1.1
    rw [hbs, h1, e2, h4] at h; rw [c1, c2]; exact h⟩
  have h6 : pullR ⟨1000 + 2 * i, 10, i⟩ ⟨1000 + i, 1000 + 2 * i, 1, 1, true⟩ (100 * s) (long6 s) = (⟨1000 + i, nextN (1000 + 2 * i) i 2, 2, 1, true⟩, 1, true) := pull_more (c := ⟨1000 + i, 1000 + 2 * i, 1, 1, true⟩) (r := [it0 s, it0 s, it0 s, it0 s]) rfl (stand_soon hs1.1 _ (by omega)) (show 1000 + i ≠ 0 by omega) (show 1000 + i ≤ 1000 + 2 * i by omega) (show 1000 + 2 * i ≤ 1000 + 2 * i by omega) (stand_soon2 hs1.1 _ (by omega)) m1
  rw [e2, hbs, h1] at h6
  rw [e2] at m1 m2
  obtain ⟨dn, hdn⟩ : ∃ x : Int, nextN a3 i 2 = x := ⟨_, rfl⟩
  rw [hdn] at h6 m1 m2
  have P5 : Shut (pullR ⟨a3, clampR 10 0 1073741824, clampR i 0 1073741824⟩ ⟨a1, a3, 1, 1, true⟩ bs [⟨0, s⟩, ⟨0, s⟩, ⟨0, s⟩, ⟨0, s⟩, ⟨0, s⟩, ⟨0, s⟩] = (⟨a1, dn, 2, 1, true⟩, 1, true)) := ⟨by rw [c1, c2]; exact h6⟩
  have P6 : Shut (pullR ⟨a3, clampR 10 0 1073741824, clampR i 0 1073741824⟩ ⟨a1, dn, 2, 1, true⟩ bs [⟨a3, s⟩, ⟨a3, s⟩] = (⟨0, dn, 2, 1, false⟩, 0, true)) := ⟨by
    have h := stand_g (i := i) (s := s) (c := ⟨a1, dn, 2, 1, true⟩) rfl bs [⟨a3, s⟩]
    rw [e2] at h; rw [c1, c2]; exact h⟩
  have q9 : dn < a5 := by omega
  have RG : Shut (0 ≤ bs ∧ bs ≤ 1000000 ∧ 0 ≤ a1 ∧ a1 ≤ 1000000 ∧ 0 ≤ a2 ∧ a2 ≤ 1000000 ∧ 0 ≤ a3 ∧ a3 ≤ 1000000 ∧ 0 ≤ a4 ∧ a4 ≤ 1000000 ∧ 0 ≤ dn ∧ dn ≤ 1000000 ∧ 0 ≤ s ∧ s ≤ 1400) := ⟨by omega⟩
  clear hbs h1 h2 hj2 h3 h4 hj3 h5 m1 m2 e2 c1 c2 h6 hdn l1 u1 l2 u2
  go_upto_region 10 with fail
  have hB0 := Below.refl w1.heap.size w1
  have hz0 : w1.heap.size = w1.heap.size := by simp
  have hB1 := hB0.alloc (by rw [hz0]; omega) (Obj.cells #[Value.int IntKind.i64 0, Value.int IntKind.i64 s] 38 (0, 0))
  have hz1 : (w1.alloc (Obj.cells #[Value.int IntKind.i64 0, Value.int IntKind.i64 s] 38 (0, 0))).heap.size = w1.heap.size + 1 := by simp
  have hB2 := hB1.alloc (by rw [hz1]; omega) (Obj.cells #[Value.int IntKind.i64 0, Value.int IntKind.i64 s, Value.int IntKind.i64 0, Value.int IntKind.i64 s, Value.int IntKind.i64 0, Value.int IntKind.i64 s, Value.int IntKind.i64 0, Value.int IntKind.i64 s, Value.int IntKind.i64 0, Value.int IntKind.i64 s, Value.int IntKind.i64 0, Value.int IntKind.i64 s] 38 (0, 0))
  have hz2 : ((w1.alloc (Obj.cells #[Value.int IntKind.i64 0, Value.int IntKind.i64 s] 38 (0, 0))).alloc (Obj.cells #[Value.int IntKind.i64 0, Value.int IntKind.i64 s, Value.int IntKind.i64 0, Value.int IntKind.i64 s, Value.int IntKind.i64 0, Value.int IntKind.i64 s, Value.int IntKind.i64 0, Value.int IntKind.i64 s, Value.int IntKind.i64 0, Value.int IntKind.i64 s, Value.int IntKind.i64 0, Value.int IntKind.i64 s] 38 (0, 0))).heap.size = w1.heap.size + 1 + 1 := by simp
  have hB3 := hB2.alloc (by rw [hz2]; omega) (Obj.cells #[Value.int IntKind.i64 0, Value.int IntKind.i64 0, Value.int IntKind.u32 0, Value.int IntKind.u32 0, Value.bool false] 24 (0, 0))
  have HBn := Shut.mk (HB.out.trans (hB3.mono HB.out.size))
  have HIn : Shut ((w1.alloc (Obj.cells #[Value.int IntKind.i64 0, Value.int IntKind.i64 s] 38 (0, 0))).heap[w1.heap.size]? = some (Obj.cells #[Value.int IntKind.i64 0, Value.int IntKind.i64 s] 38 (0, 0))) := ⟨by rw [← hz0]; exact heap_alloc_last _ _⟩
  replace HIn := Shut.mk ((((Below.refl _ (w1.alloc (Obj.cells #[Value.int IntKind.i64 0, Value.int IntKind.i64 s] 38 (0, 0)))).alloc (Nat.le_refl _) (Obj.cells #[Value.int IntKind.i64 0, Value.int IntKind.i64 s, Value.int IntKind.i64 0, Value.int IntKind.i64 s, Value.int IntKind.i64 0, Value.int IntKind.i64 s, Value.int IntKind.i64 0, Value.int IntKind.i64 s, Value.int IntKind.i64 0, Value.int IntKind.i64 s, Value.int IntKind.i64 0, Value.int IntKind.i64 s] 38 (0, 0))).block _ (lt_blk HIn.out)).trans HIn.out)
  replace HIn := Shut.mk ((((Below.refl _ ((w1.alloc (Obj.cells #[Value.int IntKind.i64 0, Value.int IntKind.i64 s] 38 (0, 0))).alloc (Obj.cells #[Value.int IntKind.i64 0, Value.int IntKind.i64 s, Value.int IntKind.i64 0, Value.int IntKind.i64 s, Value.int IntKind.i64 0, Value.int IntKind.i64 s, Value.int IntKind.i64 0, Value.int IntKind.i64 s, Value.int IntKind.i64 0, Value.int IntKind.i64 s, Value.int IntKind.i64 0, Value.int IntKind.i64 s] 38 (0, 0)))).alloc (Nat.le_refl _) (Obj.cells #[Value.int IntKind.i64 0, Value.int IntKind.i64 0, Value.int IntKind.u32 0, Value.int IntKind.u32 0, Value.bool false] 24 (0, 0))).block _ (lt_blk HIn.out)).trans HIn.out)
  have HLn : Shut (((w1.alloc (Obj.cells #[Value.int IntKind.i64 0, Value.int IntKind.i64 s] 38 (0, 0))).alloc (Obj.cells #[Value.int IntKind.i64 0, Value.int IntKind.i64 s, Value.int IntKind.i64 0, Value.int IntKind.i64 s, Value.int IntKind.i64 0, Value.int IntKind.i64 s, Value.int IntKind.i64 0, Value.int IntKind.i64 s, Value.int IntKind.i64 0, Value.int IntKind.i64 s, Value.int IntKind.i64 0, Value.int IntKind.i64 s] 38 (0, 0))).heap[w1.heap.size + 1]? = some (Obj.cells #[Value.int IntKind.i64 0, Value.int IntKind.i64 s, Value.int IntKind.i64 0, Value.int IntKind.i64 s, Value.int IntKind.i64 0, Value.int IntKind.i64 s, Value.int IntKind.i64 0, Value.int IntKind.i64 s, Value.int IntKind.i64 0, Value.int IntKind.i64 s, Value.int IntKind.i64 0, Value.int IntKind.i64 s] 38 (0, 0))) := ⟨by rw [← hz1]; exact heap_alloc_last _ _⟩
  replace HLn := Shut.mk ((((Below.refl _ ((w1.alloc (Obj.cells #[Value.int IntKind.i64 0, Value.int IntKind.i64 s] 38 (0, 0))).alloc (Obj.cells #[Value.int IntKind.i64 0, Value.int IntKind.i64 s, Value.int IntKind.i64 0, Value.int IntKind.i64 s, Value.int IntKind.i64 0, Value.int IntKind.i64 s, Value.int IntKind.i64 0, Value.int IntKind.i64 s, Value.int IntKind.i64 0, Value.int IntKind.i64 s, Value.int IntKind.i64 0, Value.int IntKind.i64 s] 38 (0, 0)))).alloc (Nat.le_refl _) (Obj.cells #[Value.int IntKind.i64 0, Value.int IntKind.i64 0, Value.int IntKind.u32 0, Value.int IntKind.u32 0, Value.bool false] 24 (0, 0))).block _ (lt_blk HLn.out)).trans HLn.out)
  have HCn : Shut ((((w1.alloc (Obj.cells #[Value.int IntKind.i64 0, Value.int IntKind.i64 s] 38 (0, 0))).alloc (Obj.cells #[Value.int IntKind.i64 0, Value.int IntKind.i64 s, Value.int IntKind.i64 0, Value.int IntKind.i64 s, Value.int IntKind.i64 0, Value.int IntKind.i64 s, Value.int IntKind.i64 0, Value.int IntKind.i64 s, Value.int IntKind.i64 0, Value.int IntKind.i64 s, Value.int IntKind.i64 0, Value.int IntKind.i64 s] 38 (0, 0))).alloc (Obj.cells #[Value.int IntKind.i64 0, Value.int IntKind.i64 0, Value.int IntKind.u32 0, Value.int IntKind.u32 0, Value.bool false] 24 (0, 0))).heap[w1.heap.size + 1 + 1]? = some (Obj.cells #[Value.int IntKind.i64 0, Value.int IntKind.i64 0, Value.int IntKind.u32 0, Value.int IntKind.u32 0, Value.bool false] 24 (0, 0))) := ⟨by rw [← hz2]; exact heap_alloc_last _ _⟩
  generalize hw : ((w1.alloc _).alloc _).alloc _ = w2 at *
  clear hw hB0 hB1 hz0 hB2 hz1 hB3 hz2
  generalize hg : w1.heap.size + 1 + 1 = g9 at *
  clear hg
  generalize hg : w1.heap.size + 1 = g7 at *
  clear hg
  generalize hg : w1.heap.size = g6 at *
  clear hg
  clear HB 
  have HB := HBn
  have HI := HIn
  have HL := HLn
  have HC := HCn
  clear HBn HIn HLn HCn
  go_wp2_with (first
    | (refine wpList_load_row rfl 24 (.tmp 9) rfl g9 rfl 24 #[Value.int IntKind.i64 0, Value.int IntKind.i64 0, Value.int IntKind.u32 0, Value.int IntKind.u32 0, Value.bool false] (0, 0) _ HC.out Try.underlying24 rfl size1 ?_))
  refine (pull_any 1000 10 i bs 0 0 0 0 false _ 6 6 [⟨0, s⟩, ⟨0, s⟩, ⟨0, s⟩, ⟨0, s⟩, ⟨0, s⟩, ⟨0, s⟩] _ (lit_items [⟨0, s⟩, ⟨0, s⟩, ⟨0, s⟩, ⟨0, s⟩, ⟨0, s⟩, ⟨0, s⟩] HL.out (by simp; unfold maxLen; omega)) (by omega) (by have := RG.out; omega) (by have := RG.out; omega) (fun x hx => by have := RG.out; simp at hx; subst hx; dsimp only; omega) (by omega) (by omega) (by have := RG.out; omega) _ P1.out).mono ?_
  rintro e w3 ⟨rfl, hB⟩
  have HBn := Shut.mk (HB.out.trans (hB.mono HB.out.size))
  have HIn := Shut.mk ((hB.block g6 (lt_blk HI.out)).trans HI.out)
  have HLn := Shut.mk ((hB.block g7 (lt_blk HL.out)).trans HL.out)
  have HCn := Shut.mk ((hB.block g9 (lt_blk HC.out)).trans HC.out)
  clear hB HB HI HL HC
  have HB := HBn
  have HI := HIn
  have HL := HLn
  have HC := HCn
  clear HBn HIn HLn HCn
  dsimp only
  go_upto_region 11 with fail
  have hB0 := Below.refl w3.heap.size w3
  have hz0 : w3.heap.size = w3.heap.size := by simp
  have hB1 := hB0.alloc (by rw [hz0]; omega) (Obj.cells #[Value.int IntKind.i64 a1, Value.int IntKind.i64 0, Value.int IntKind.u32 0, Value.int IntKind.u32 0, Value.bool false] 24 (0, 0))
  have HBn := Shut.mk (HB.out.trans (hB1.mono HB.out.size))
  have HIn := Shut.mk ((hB1.block g6 (lt_blk HI.out)).trans HI.out)
  have HLn := Shut.mk ((hB1.block g7 (lt_blk HL.out)).trans HL.out)
  have HCn := Shut.mk ((hB1.block g9 (lt_blk HC.out)).trans HC.out)
  have HAn : Shut ((w3.alloc (Obj.cells #[Value.int IntKind.i64 a1, Value.int IntKind.i64 0, Value.int IntKind.u32 0, Value.int IntKind.u32 0, Value.bool false] 24 (0, 0))).heap[w3.heap.size]? = some (Obj.cells #[Value.int IntKind.i64 a1, Value.int IntKind.i64 0, Value.int IntKind.u32 0, Value.int IntKind.u32 0, Value.bool false] 24 (0, 0))) := ⟨by rw [← hz0]; exact heap_alloc_last _ _⟩
  generalize hw : w3.alloc _ = w4 at *
  clear hw hB0 hB1 hz0
  generalize hg : w3.heap.size = g10 at *
  clear hg
  clear HB HI HL HC
  have HB := HBn
  have HI := HIn
  have HL := HLn
  have HC := HCn
  have HA := HAn
  clear HBn HIn HLn HCn HAn
  clear HC
  go_wp2_with (first
    | (refine wpList_load_row rfl 24 (.tmp 10) rfl g10 rfl 24 #[Value.int IntKind.i64 a1, Value.int IntKind.i64 0, Value.int IntKind.u32 0, Value.int IntKind.u32 0, Value.bool false] (0, 0) _ HA.out Try.underlying24 rfl size1 ?_))
  refine (pull_any a2 10 i bs a1 0 0 0 false _ 6 6 [⟨0, s⟩, ⟨0, s⟩, ⟨0, s⟩, ⟨0, s⟩, ⟨0, s⟩, ⟨0, s⟩] _ (lit_items [⟨0, s⟩, ⟨0, s⟩, ⟨0, s⟩, ⟨0, s⟩, ⟨0, s⟩, ⟨0, s⟩] HL.out (by simp; unfold maxLen; omega)) (by omega) (by have := RG.out; omega) (by have := RG.out; omega) (fun x hx => by have := RG.out; simp at hx; subst hx; dsimp only; omega) (by omega) (by omega) (by have := RG.out; omega) _ P2.out).mono ?_
  rintro e w5 ⟨rfl, hB⟩
  have HBn := Shut.mk (HB.out.trans (hB.mono HB.out.size))
  have HIn := Shut.mk ((hB.block g6 (lt_blk HI.out)).trans HI.out)
  have HLn := Shut.mk ((hB.block g7 (lt_blk HL.out)).trans HL.out)
  have HAn := Shut.mk ((hB.block g10 (lt_blk HA.out)).trans HA.out)
  clear hB HB HI HL HA
  have HB := HBn
  have HI := HIn
  have HL := HLn
  have HA := HAn
  clear HBn HIn HLn HAn
  dsimp only
  go_upto_region 12 with fail
  have hB0 := Below.refl w5.heap.size w5
  have hz0 : w5.heap.size = w5.heap.size := by simp
  have hB1 := hB0.alloc (by rw [hz0]; omega) (Obj.cells #[Value.int IntKind.i64 a1, Value.int IntKind.i64 0, Value.int IntKind.u32 0, Value.int IntKind.u32 0, Value.bool false] 24 (0, 0))
  have HBn := Shut.mk (HB.out.trans (hB1.mono HB.out.size))
  have HIn := Shut.mk ((hB1.block g6 (lt_blk HI.out)).trans HI.out)
  have HLn := Shut.mk ((hB1.block g7 (lt_blk HL.out)).trans HL.out)
  have HAn := Shut.mk ((hB1.block g10 (lt_blk HA.out)).trans HA.out)
  have HBBn : Shut ((w5.alloc (Obj.cells #[Value.int IntKind.i64 a1, Value.int IntKind.i64 0, Value.int IntKind.u32 0, Value.int IntKind.u32 0, Value.bool false] 24 (0, 0))).heap[w5.heap.size]? = some (Obj.cells #[Value.int IntKind.i64 a1, Value.int IntKind.i64 0, Value.int IntKind.u32 0, Value.int IntKind.u32 0, Value.bool false] 24 (0, 0))) := ⟨by rw [← hz0]; exact heap_alloc_last _ _⟩
  generalize hw : w5.alloc _ = w6 at *
  clear hw hB0 hB1 hz0
  generalize hg : w5.heap.size = g13 at *
  clear hg
  clear HB HI HL HA
  have HB := HBn
  have HI := HIn
  have HL := HLn
  have HA := HAn
  have HBB := HBBn
  clear HBn HIn HLn HAn HBBn
  go_wp2_with (first
    | (refine wpList_load_row rfl 24 (.tmp 13) rfl g13 rfl 24 #[Value.int IntKind.i64 a1, Value.int IntKind.i64 0, Value.int IntKind.u32 0, Value.int IntKind.u32 0, Value.bool false] (0, 0) _ HBB.out Try.underlying24 rfl size1 ?_))
  refine (pull_any a1 10 i bs a1 0 0 0 false _ 6 6 [⟨0, s⟩, ⟨0, s⟩, ⟨0, s⟩, ⟨0, s⟩, ⟨0, s⟩, ⟨0, s⟩] _ (lit_items [⟨0, s⟩, ⟨0, s⟩, ⟨0, s⟩, ⟨0, s⟩, ⟨0, s⟩, ⟨0, s⟩] HL.out (by simp; unfold maxLen; omega)) (by omega) (by have := RG.out; omega) (by have := RG.out; omega) (fun x hx => by have := RG.out; simp at hx; subst hx; dsimp only; omega) (by omega) (by omega) (by have := RG.out; omega) _ P3.out).mono ?_
  rintro e w7 ⟨rfl, hB⟩
  have HBn := Shut.mk (HB.out.trans (hB.mono HB.out.size))
  have HIn := Shut.mk ((hB.block g6 (lt_blk HI.out)).trans HI.out)
  have HLn := Shut.mk ((hB.block g7 (lt_blk HL.out)).trans HL.out)
  have HAn := Shut.mk ((hB.block g10 (lt_blk HA.out)).trans HA.out)
  have HBBn := Shut.mk ((hB.block g13 (lt_blk HBB.out)).trans HBB.out)
  clear hB HB HI HL HA HBB
  have HB := HBn
  have HI := HIn
  have HL := HLn
  have HA := HAn
  have HBB := HBBn
  clear HBn HIn HLn HAn HBBn
  dsimp only
  go_upto_region 13 with fail
  have hB0 := Below.refl w7.heap.size w7
  have hz0 : w7.heap.size = w7.heap.size := by simp
  have hB1 := hB0.alloc (by rw [hz0]; omega) (Obj.cells #[Value.int IntKind.i64 a1, Value.int IntKind.i64 a3, Value.int IntKind.u32 1, Value.int IntKind.u32 1, Value.bool true] 24 (0, 0))
  have HBn := Shut.mk (HB.out.trans (hB1.mono HB.out.size))
  have HIn := Shut.mk ((hB1.block g6 (lt_blk HI.out)).trans HI.out)
  have HLn := Shut.mk ((hB1.block g7 (lt_blk HL.out)).trans HL.out)
  have HAn := Shut.mk ((hB1.block g10 (lt_blk HA.out)).trans HA.out)
  have HBBn := Shut.mk ((hB1.block g13 (lt_blk HBB.out)).trans HBB.out)
  have HDn : Shut ((w7.alloc (Obj.cells #[Value.int IntKind.i64 a1, Value.int IntKind.i64 a3, Value.int IntKind.u32 1, Value.int IntKind.u32 1, Value.bool true] 24 (0, 0))).heap[w7.heap.size]? = some (Obj.cells #[Value.int IntKind.i64 a1, Value.int IntKind.i64 a3, Value.int IntKind.u32 1, Value.int IntKind.u32 1, Value.bool true] 24 (0, 0))) := ⟨by rw [← hz0]; exact heap_alloc_last _ _⟩
  generalize hw : w7.alloc _ = w8 at *
  clear hw hB0 hB1 hz0
  generalize hg : w7.heap.size = g16 at *
  clear hg
  clear HB HI HL HA HBB
  have HB := HBn
  have HI := HIn
  have HL := HLn
  have HA := HAn
  have HBB := HBBn
  have HD := HDn
  clear HBn HIn HLn HAn HBBn HDn
  clear HBB
  go_wp2_with (first
    | (refine wpList_load_row rfl 24 (.tmp 16) rfl g16 rfl 24 #[Value.int IntKind.i64 a1, Value.int IntKind.i64 a3, Value.int IntKind.u32 1, Value.int IntKind.u32 1, Value.bool true] (0, 0) _ HD.out Try.underlying24 rfl size1 ?_))
  refine (pull_any a4 10 i bs a1 a3 1 1 true _ 6 6 [⟨0, s⟩, ⟨0, s⟩, ⟨0, s⟩, ⟨0, s⟩, ⟨0, s⟩, ⟨0, s⟩] _ (lit_items [⟨0, s⟩, ⟨0, s⟩, ⟨0, s⟩, ⟨0, s⟩, ⟨0, s⟩, ⟨0, s⟩] HL.out (by simp; unfold maxLen; omega)) (by omega) (by have := RG.out; omega) (by have := RG.out; omega) (fun x hx => by have := RG.out; simp at hx; subst hx; dsimp only; omega) (by omega) (by omega) (by have := RG.out; omega) _ P4.out).mono ?_
  rintro e w9 ⟨rfl, hB⟩
  have HBn := Shut.mk (HB.out.trans (hB.mono HB.out.size))
  have HIn := Shut.mk ((hB.block g6 (lt_blk HI.out)).trans HI.out)
  have HLn := Shut.mk ((hB.block g7 (lt_blk HL.out)).trans HL.out)
  have HAn := Shut.mk ((hB.block g10 (lt_blk HA.out)).trans HA.out)
  have HDn := Shut.mk ((hB.block g16 (lt_blk HD.out)).trans HD.out)
  clear hB HB HI HL HA HD
  have HB := HBn
  have HI := HIn
  have HL := HLn
  have HA := HAn
  have HD := HDn
  clear HBn HIn HLn HAn HDn
  dsimp only
  go_upto_region 14 with fail
  have hB0 := Below.refl w9.heap.size w9
  have hz0 : w9.heap.size = w9.heap.size := by simp
  have hB1 := hB0.alloc (by rw [hz0]; omega) (Obj.cells #[Value.int IntKind.i64 a1, Value.int IntKind.i64 a3, Value.int IntKind.u32 1, Value.int IntKind.u32 1, Value.bool true] 24 (0, 0))
  have HBn := Shut.mk (HB.out.trans (hB1.mono HB.out.size))
  have HIn := Shut.mk ((hB1.block g6 (lt_blk HI.out)).trans HI.out)
  have HLn := Shut.mk ((hB1.block g7 (lt_blk HL.out)).trans HL.out)
  have HAn := Shut.mk ((hB1.block g10 (lt_blk HA.out)).trans HA.out)
  have HDn := Shut.mk ((hB1.block g16 (lt_blk HD.out)).trans HD.out)
  have HEn : Shut ((w9.alloc (Obj.cells #[Value.int IntKind.i64 a1, Value.int IntKind.i64 a3, Value.int IntKind.u32 1, Value.int IntKind.u32 1, Value.bool true] 24 (0, 0))).heap[w9.heap.size]? = some (Obj.cells #[Value.int IntKind.i64 a1, Value.int IntKind.i64 a3, Value.int IntKind.u32 1, Value.int IntKind.u32 1, Value.bool true] 24 (0, 0))) := ⟨by rw [← hz0]; exact heap_alloc_last _ _⟩
  generalize hw : w9.alloc _ = w10 at *
  clear hw hB0 hB1 hz0
  generalize hg : w9.heap.size = g19 at *
  clear hg
  clear HB HI HL HA HD
  have HB := HBn
  have HI := HIn
  have HL := HLn
  have HA := HAn
  have HD := HDn
  have HE := HEn
  clear HBn HIn HLn HAn HDn HEn
  go_wp2_with (first
    | (refine wpList_load_row rfl 24 (.tmp 19) rfl g19 rfl 24 #[Value.int IntKind.i64 a1, Value.int IntKind.i64 a3, Value.int IntKind.u32 1, Value.int IntKind.u32 1, Value.bool true] (0, 0) _ HE.out Try.underlying24 rfl size1 ?_))
  refine (pull_any a3 10 i bs a1 a3 1 1 true _ 6 6 [⟨0, s⟩, ⟨0, s⟩, ⟨0, s⟩, ⟨0, s⟩, ⟨0, s⟩, ⟨0, s⟩] _ (lit_items [⟨0, s⟩, ⟨0, s⟩, ⟨0, s⟩, ⟨0, s⟩, ⟨0, s⟩, ⟨0, s⟩] HL.out (by simp; unfold maxLen; omega)) (by omega) (by have := RG.out; omega) (by have := RG.out; omega) (fun x hx => by have := RG.out; simp at hx; subst hx; dsimp only; omega) (by omega) (by omega) (by have := RG.out; omega) _ P5.out).mono ?_
  rintro e w11 ⟨rfl, hB⟩
  have HBn := Shut.mk (HB.out.trans (hB.mono HB.out.size))
  have HIn := Shut.mk ((hB.block g6 (lt_blk HI.out)).trans HI.out)
  have HLn := Shut.mk ((hB.block g7 (lt_blk HL.out)).trans HL.out)
  have HAn := Shut.mk ((hB.block g10 (lt_blk HA.out)).trans HA.out)
  have HDn := Shut.mk ((hB.block g16 (lt_blk HD.out)).trans HD.out)
  have HEn := Shut.mk ((hB.block g19 (lt_blk HE.out)).trans HE.out)
  clear hB HB HI HL HA HD HE
  have HB := HBn
  have HI := HIn
  have HL := HLn
  have HA := HAn
  have HD := HDn
  have HE := HEn
  clear HBn HIn HLn HAn HDn HEn
  dsimp only
  go_upto_region 15 with fail
  have hB0 := Below.refl w11.heap.size w11
  have hz0 : w11.heap.size = w11.heap.size := by simp
  have hB1 := hB0.alloc (by rw [hz0]; omega) (Obj.cells #[Value.int IntKind.i64 a1, Value.int IntKind.i64 dn, Value.int IntKind.u32 2, Value.int IntKind.u32 1, Value.bool true] 24 (0, 0))
  have HBn := Shut.mk (HB.out.trans (hB1.mono HB.out.size))
  have HIn := Shut.mk ((hB1.block g6 (lt_blk HI.out)).trans HI.out)
  have HLn := Shut.mk ((hB1.block g7 (lt_blk HL.out)).trans HL.out)
  have HAn := Shut.mk ((hB1.block g10 (lt_blk HA.out)).trans HA.out)
  have HDn := Shut.mk ((hB1.block g16 (lt_blk HD.out)).trans HD.out)
  have HEn := Shut.mk ((hB1.block g19 (lt_blk HE.out)).trans HE.out)
  have HFn : Shut ((w11.alloc (Obj.cells #[Value.int IntKind.i64 a1, Value.int IntKind.i64 dn, Value.int IntKind.u32 2, Value.int IntKind.u32 1, Value.bool true] 24 (0, 0))).heap[w11.heap.size]? = some (Obj.cells #[Value.int IntKind.i64 a1, Value.int IntKind.i64 dn, Value.int IntKind.u32 2, Value.int IntKind.u32 1, Value.bool true] 24 (0, 0))) := ⟨by rw [← hz0]; exact heap_alloc_last _ _⟩
  generalize hw : w11.alloc _ = w12 at *
  clear hw hB0 hB1 hz0
  generalize hg : w11.heap.size = g22 at *
  clear hg
  clear HB HI HL HA HD HE
  have HB := HBn
  have HI := HIn
  have HL := HLn
  have HA := HAn
  have HD := HDn
  have HE := HEn
  have HF := HFn
  clear HBn HIn HLn HAn HDn HEn HFn
  clear HE
  go_upto_region 16 with fail
  have hB0 := Below.refl w12.heap.size w12
  have hz0 : w12.heap.size = w12.heap.size := by simp
  have hB1 := hB0.alloc (by rw [hz0]; omega) (Obj.cells #[Value.int IntKind.i64 a3, Value.int IntKind.i64 s] 38 (0, 0))
  have HBn := Shut.mk (HB.out.trans (hB1.mono HB.out.size))
  have HIn := Shut.mk ((hB1.block g6 (lt_blk HI.out)).trans HI.out)
  have HLn := Shut.mk ((hB1.block g7 (lt_blk HL.out)).trans HL.out)
  have HAn := Shut.mk ((hB1.block g10 (lt_blk HA.out)).trans HA.out)
  have HDn := Shut.mk ((hB1.block g16 (lt_blk HD.out)).trans HD.out)
  have HFn := Shut.mk ((hB1.block g22 (lt_blk HF.out)).trans HF.out)
  have HNn : Shut ((w12.alloc (Obj.cells #[Value.int IntKind.i64 a3, Value.int IntKind.i64 s] 38 (0, 0))).heap[w12.heap.size]? = some (Obj.cells #[Value.int IntKind.i64 a3, Value.int IntKind.i64 s] 38 (0, 0))) := ⟨by rw [← hz0]; exact heap_alloc_last _ _⟩
  generalize hw : w12.alloc _ = w13 at *
  clear hw hB0 hB1 hz0
  generalize hg : w12.heap.size = g25 at *
  clear hg
  clear HB HI HL HA HD HF
  have HB := HBn
  have HI := HIn
  have HL := HLn
  have HA := HAn
  have HD := HDn
  have HF := HFn
  have HN := HNn
  clear HBn HIn HLn HAn HDn HFn HNn
  go_wp2_with (first
    | (refine wpList_load_row rfl 24 (.tmp 22) rfl g22 rfl 24 #[Value.int IntKind.i64 a1, Value.int IntKind.i64 dn, Value.int IntKind.u32 2, Value.int IntKind.u32 1, Value.bool true] (0, 0) _ HF.out Try.underlying24 rfl size1 ?_)
    | (refine wpList_load_row rfl 38 (.tmp 25) rfl g25 rfl 38 #[Value.int IntKind.i64 a3, Value.int IntKind.i64 s] (0, 0) _ HN.out Try.underlying38 rfl sizeItem ?_))
  have hB0 := Below.refl w13.heap.size w13
  have hz0 : w13.heap.size = w13.heap.size := by simp
  have hB1 := hB0.alloc (by rw [hz0]; omega) (Obj.cells #[Value.int IntKind.i64 a3, Value.int IntKind.i64 s, Value.int IntKind.i64 a3, Value.int IntKind.i64 s] 38 (0, 0))
  have HBn := Shut.mk (HB.out.trans (hB1.mono HB.out.size))
  have HIn := Shut.mk ((hB1.block g6 (lt_blk HI.out)).trans HI.out)
  have HLn := Shut.mk ((hB1.block g7 (lt_blk HL.out)).trans HL.out)
  have HAn := Shut.mk ((hB1.block g10 (lt_blk HA.out)).trans HA.out)
  have HDn := Shut.mk ((hB1.block g16 (lt_blk HD.out)).trans HD.out)
  have HFn := Shut.mk ((hB1.block g22 (lt_blk HF.out)).trans HF.out)
  have HNn := Shut.mk ((hB1.block g25 (lt_blk HN.out)).trans HN.out)
  have HSn : Shut ((w13.alloc (Obj.cells #[Value.int IntKind.i64 a3, Value.int IntKind.i64 s, Value.int IntKind.i64 a3, Value.int IntKind.i64 s] 38 (0, 0))).heap[w13.heap.size]? = some (Obj.cells #[Value.int IntKind.i64 a3, Value.int IntKind.i64 s, Value.int IntKind.i64 a3, Value.int IntKind.i64 s] 38 (0, 0))) := ⟨by rw [← hz0]; exact heap_alloc_last _ _⟩
  generalize hw : w13.alloc _ = w14 at *
  clear hw hB0 hB1 hz0
  generalize hg : w13.heap.size = g120 at *
  clear hg
  clear HB HI HL HA HD HF HN
  have HB := HBn
  have HI := HIn
  have HL := HLn
  have HA := HAn
  have HD := HDn
  have HF := HFn
  have HN := HNn
  have HS := HSn
  clear HBn HIn HLn HAn HDn HFn HNn HSn
  refine (pull_any a3 10 i bs a1 dn 2 1 true _ 2 2 [⟨a3, s⟩, ⟨a3, s⟩] _ (lit_items [⟨a3, s⟩, ⟨a3, s⟩] HS.out (by simp; unfold maxLen; omega)) (by omega) (by have := RG.out; omega) (by have := RG.out; omega) (fun x hx => by have := RG.out; simp at hx; subst hx; dsimp only; omega) (by omega) (by omega) (by have := RG.out; omega) _ P6.out).mono ?_
  rintro e w15 ⟨rfl, hB⟩
  have HBn := Shut.mk (HB.out.trans (hB.mono HB.out.size))
  have HIn := Shut.mk ((hB.block g6 (lt_blk HI.out)).trans HI.out)
  have HLn := Shut.mk ((hB.block g7 (lt_blk HL.out)).trans HL.out)
  have HAn := Shut.mk ((hB.block g10 (lt_blk HA.out)).trans HA.out)
  have HDn := Shut.mk ((hB.block g16 (lt_blk HD.out)).trans HD.out)
  have HFn := Shut.mk ((hB.block g22 (lt_blk HF.out)).trans HF.out)
  have HNn := Shut.mk ((hB.block g25 (lt_blk HN.out)).trans HN.out)
  have HSn := Shut.mk ((hB.block g120 (lt_blk HS.out)).trans HS.out)
  clear hB HB HI HL HA HD HF HN HS
  have HB := HBn
  have HI := HIn
  have HL := HLn
  have HA := HAn
  have HD := HDn
  have HF := HFn
  have HN := HNn
  have HS := HSn
  clear HBn HIn HLn HAn HDn HFn HNn HSn
  dsimp only
  go_upto_region 17 with fail
  have hB0 := Below.refl w15.heap.size w15
  have hz0 : w15.heap.size = w15.heap.size := by simp
  have hB1 := hB0.alloc (by rw [hz0]; omega) (Obj.cells #[Value.int IntKind.i64 0, Value.int IntKind.i64 dn, Value.int IntKind.u32 2, Value.int IntKind.u32 1, Value.bool false] 24 (0, 0))
  have HBn := Shut.mk (HB.out.trans (hB1.mono HB.out.size))
  have HIn := Shut.mk ((hB1.block g6 (lt_blk HI.out)).trans HI.out)
  have HLn := Shut.mk ((hB1.block g7 (lt_blk HL.out)).trans HL.out)
  have HAn := Shut.mk ((hB1.block g10 (lt_blk HA.out)).trans HA.out)
  have HDn := Shut.mk ((hB1.block g16 (lt_blk HD.out)).trans HD.out)
  have HFn := Shut.mk ((hB1.block g22 (lt_blk HF.out)).trans HF.out)
  have HNn := Shut.mk ((hB1.block g25 (lt_blk HN.out)).trans HN.out)
  have HSn := Shut.mk ((hB1.block g120 (lt_blk HS.out)).trans HS.out)
  have HGn : Shut ((w15.alloc (Obj.cells #[Value.int IntKind.i64 0, Value.int IntKind.i64 dn, Value.int IntKind.u32 2, Value.int IntKind.u32 1, Value.bool false] 24 (0, 0))).heap[w15.heap.size]? = some (Obj.cells #[Value.int IntKind.i64 0, Value.int IntKind.i64 dn, Value.int IntKind.u32 2, Value.int IntKind.u32 1, Value.bool false] 24 (0, 0))) := ⟨by rw [← hz0]; exact heap_alloc_last _ _⟩
  generalize hw : w15.alloc _ = w16 at *
  clear hw hB0 hB1 hz0
  generalize hg : w15.heap.size = g26 at *
  clear hg
  clear HB HI HL HA HD HF HN HS
  have HB := HBn
  have HI := HIn
  have HL := HLn
  have HA := HAn
  have HD := HDn
  have HF := HFn
  have HN := HNn
  have HS := HSn
  have HG := HGn
  clear HBn HIn HLn HAn HDn HFn HNn HSn HGn
  have ca0 : w16.cell? ⟨g10, 0, none⟩ = some (.int .i64 a1) := by simpa using (block_range HA.out) 0 _ rfl
  have ca1 : w16.cell? ⟨g10, 1, none⟩ = some (.int .i64 0) := by simpa using (block_range HA.out) 1 _ rfl
  have ca2 : w16.cell? ⟨g10, 2, none⟩ = some (.int .u32 0) := by simpa using (block_range HA.out) 2 _ rfl
  have ca3 : w16.cell? ⟨g10, 3, none⟩ = some (.int .u32 0) := by simpa using (block_range HA.out) 3 _ rfl
  have ca4 : w16.cell? ⟨g10, 4, none⟩ = some (.bool false) := by simpa using (block_range HA.out) 4 _ rfl
  have cd0 : w16.cell? ⟨g16, 0, none⟩ = some (.int .i64 a1) := by simpa using (block_range HD.out) 0 _ rfl
  have cd1 : w16.cell? ⟨g16, 1, none⟩ = some (.int .i64 a3) := by simpa using (block_range HD.out) 1 _ rfl
  have cd2 : w16.cell? ⟨g16, 2, none⟩ = some (.int .u32 1) := by simpa using (block_range HD.out) 2 _ rfl
  have cd3 : w16.cell? ⟨g16, 3, none⟩ = some (.int .u32 1) := by simpa using (block_range HD.out) 3 _ rfl
  have cd4 : w16.cell? ⟨g16, 4, none⟩ = some (.bool true) := by simpa using (block_range HD.out) 4 _ rfl
  have cf0 : w16.cell? ⟨g22, 0, none⟩ = some (.int .i64 a1) := by simpa using (block_range HF.out) 0 _ rfl
  have cf1 : w16.cell? ⟨g22, 1, none⟩ = some (.int .i64 dn) := by simpa using (block_range HF.out) 1 _ rfl
  have cf2 : w16.cell? ⟨g22, 2, none⟩ = some (.int .u32 2) := by simpa using (block_range HF.out) 2 _ rfl
  have cf3 : w16.cell? ⟨g22, 3, none⟩ = some (.int .u32 1) := by simpa using (block_range HF.out) 3 _ rfl
  have cf4 : w16.cell? ⟨g22, 4, none⟩ = some (.bool true) := by simpa using (block_range HF.out) 4 _ rfl
  have cg0 : w16.cell? ⟨g26, 0, none⟩ = some (.int .i64 0) := by simpa using (block_range HG.out) 0 _ rfl
  have cg1 : w16.cell? ⟨g26, 1, none⟩ = some (.int .i64 dn) := by simpa using (block_range HG.out) 1 _ rfl
  have cg2 : w16.cell? ⟨g26, 2, none⟩ = some (.int .u32 2) := by simpa using (block_range HG.out) 2 _ rfl
  have cg3 : w16.cell? ⟨g26, 3, none⟩ = some (.int .u32 1) := by simpa using (block_range HG.out) 3 _ rfl
  have cg4 : w16.cell? ⟨g26, 4, none⟩ = some (.bool false) := by simpa using (block_range HG.out) 4 _ rfl
  go_wp2
  go_ret
  exact ⟨rfl, HB.out⟩

/-! ### THE ROW -/
set_option maxRecDepth 100000 in
theorem lifted (os : Os) (started : os.Started) (H : Type) (enc : TypeId × Value → H) :
    ReturnsInHanded {} Try.checked os 6 .any (Rows.codelStandsSpec.pre6 enc Try.prog Try.f6 Rows.codelStandsRow.domain false) (Rows.codelStandsSpec.post enc Try.prog Try.f6 false true false false) := by
  refine returnsInHanded_of_change (C := Try.checked) own started (by kernel_rfl) Try.func6
    (ChangeSpec.witness6 (enc := enc) (C := Try.checked) false ⟨#[], #[.int .i64 0, .int .i64 0], []⟩ 8 (by kernel_rfl) (by kernel_rfl) (by kernel_rfl) (by kernel_rfl)) ?_
  intro W base args ds gs before hval0 hW hcnd _
  have hval : ∀ (j : Nat) t v, Try.f6.params[j]? = some t → args[j]? = some v → Value.okWide Try.prog W .any base t v := hval0
  have hW' := hW
  obtain ⟨p, q, hA0, hV, rfl, hfz, hnd⟩ := hW
  have hA : DataW.TrodAll enc Try.prog W 0 (fun _ => true) true Try.f6.params.toList args.toList ds p := hA0
  rw [Try.params6] at hA hval
  obtain ⟨v0, vs0, d0, ds0, p0, q0', hargs, rfl, rfl, h0, r0⟩ := trodAll_cons hA
  obtain ⟨v1, vs1, d1, ds1, p1, q1', rfl, rfl, rfl, h1, r1⟩ := trodAll_cons r0
  obtain ⟨rfl, rfl, rfl⟩ := trodAll_nil r1
  obtain rfl : args = #[v0, v1] := by cases args; simp_all
  obtain ⟨rfl, rfl⟩ := trodVars_none hV
  have k0 := h0
  have lt0 : ∀ x ∈ p0, x.block < W.heap.size := by obtain ⟨m, hm⟩ := k0; exact DataW.trod_lt m _ _ _ hm
  have k1 := h1
  have lt1 : ∀ x ∈ p1, x.block < W.heap.size := by obtain ⟨m, hm⟩ := k1; exact DataW.trod_lt m _ _ _ hm
  obtain ⟨n0, rfl, rfl, rfl, w0⟩ := open_int Try.underlying2 (hval 0 2 v0 rfl rfl) h0
  obtain ⟨n1, rfl, rfl, rfl, w1⟩ := open_int Try.underlying3 (hval 1 3 v1 rfl rfl) h1
  clear hA0 hval0
  refine (walk n0 n1 W w0 w1).mono fun e W' ⟨he, bel⟩ => ?_
  subst he
  exact ⟨_, rfl, _, _, _, [], _, [], hW', trodAll_mk1 (shut_bool Try.underlying4 _), (trodAll_cons_mk (Below.trod laidOut (by kernel_rfl) (of_decide_eq_true (by kernel_rfl)) k0 bel lt0) (trodAll_cons_mk (Below.trod laidOut (by kernel_rfl) (of_decide_eq_true (by kernel_rfl)) k1 bel lt1) trodAll_mk0)), rfl, bel.frame _, fun h => by cases h⟩

theorem over : Rows.codelStandsRow.holds Try.pinned (OpenSpec.ofChange Rows.codelStandsSpec) :=
  OpenClaim.holds_of_wide 6 Try.f6 rfl rfl rfl rfl rfl rfl rfl ⟨rfl, rfl, rfl, rfl, rfl⟩ rfl rfl rfl rfl rfl (by kernel_rfl) Try.func6 (by kernel_rfl)
    (of_decide_eq_true (by kernel_rfl)) (by unfold Func.isWrapper; first | (rw [if_pos (by decide +kernel)]; kernel_rfl) | (rw [if_neg (by decide +kernel)]; exact ⟨rfl, rfl⟩))
    (fun os started H enc _ => lifted os started H enc)
theorem proved : Rows.CodelStandsSaid := over
#print axioms proved
end Go.Proofs.Ytmajbkhbkepebaa.codelStands
