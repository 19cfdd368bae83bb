/-
  CONTRACTS of hash.Mix, hash.Bucket, of the reference's, and of the chapter's examples.
-/
import Derived.Test.YtaibopaagjodoaaHashM
import Derived.Test.YtaibopaagjodoaaShutA
namespace Go.Proofs.Ytaibopaagjodoaa
open Go.ChangeShapes Go.WideShapes Go.ChangeAt Go.RowKit
set_option linter.unusedVariables false
set_option linter.unusedSimpArgs false


theorem wf_u32h {n : Int} (h : (Lit.int .u32 n).wf = true) : 0 ≤ n ∧ n ≤ 4294967295 := by
  have h' : IntKind.u32.min ≤ n ∧ n ≤ IntKind.u32.max := by simpa [Lit.wf] using h
  have a : IntKind.u32.min = 0 := by decide
  have b : IntKind.u32.max = 4294967295 := by decide
  rw [a, b] at h'
  exact h'
/-- the bucket of a mix. -/
def bkt (a b : BitVec 32) : Nat := (mixB a b).toNat % 16
theorem bkt_lt (a b : BitVec 32) : bkt a b < 16 := Nat.mod_lt _ (by decide)
theorem bkt_uv (a b : BitVec 32) : uv (mixB a b) % 16 = ((bkt a b : Nat) : Int) := by unfold uv bkt; omega
theorem uv_0 : uv 0#32 = 0 := rfl
theorem uv_1 : uv 1#32 = 1 := rfl
theorem uv_eq (a b : BitVec 32) : ((uv a == uv b) : Bool) = decide (a = b) := by
  rcases Decidable.em (a = b) with rfl | h
  · simp
  · have : ¬ uv a = uv b := fun e => h (uv_inj e)
    simp [h, this]

set_option maxRecDepth 100000 in
theorem fold_any (a : BitVec 32) (w : World) :
    Calls Try.prog 66 #[.int .u32 (uv a)] w fun e w' => e = .returned (.int .u32 (uv (fold16 a))) ∧ w = w' := by
  have S1 := shr_uv a
  have X1 := xor_uv a (a >>> 16)
  have B0 := uv_lo a
  have B1 := uv_hi a
  have HE := Shut.mk (show uv (fold16 a) = uv (a ^^^ (a >>> 16)) from rfl)
  generalize uv (fold16 a) = r at *
  generalize uv (a ^^^ a >>> 16) = y at *
  generalize uv (a >>> 16) = z at *
  generalize uv a = x at *
  go_enter Try.func66, Try.ntmps66
  go_wp2
  go_ret
  exact ⟨ret_int HE.out.symm, rfl⟩

set_option maxRecDepth 100000 in
/-- the code. -/
theorem mix_any (a b : BitVec 32) (w : World) :
    Calls Try.prog 58 #[.int .u32 (uv a), .int .u32 (uv b)] w fun e w' => e = .returned (.int .u32 (uv (mixB a b))) ∧ w = w' := by
  have X0 := Shut.mk (xor_uv a b)
  obtain ⟨x1, h1⟩ : ∃ x, a ^^^ b = x := ⟨_, rfl⟩
  obtain ⟨x2, h2⟩ : ∃ x, fold16 x1 = x := ⟨_, rfl⟩
  obtain ⟨x3, h3⟩ : ∃ x, x2 * 73244475#32 = x := ⟨_, rfl⟩
  obtain ⟨x4, h4⟩ : ∃ x, fold16 x3 = x := ⟨_, rfl⟩
  obtain ⟨x5, h5⟩ : ∃ x, x4 * 73244475#32 = x := ⟨_, rfl⟩
  obtain ⟨x6, h6⟩ : ∃ x, fold16 x5 = x := ⟨_, rfl⟩
  have M2 : IntKind.u32.wrap (uv x2 * 73244475) = uv x3 := by rw [mul_uv, h3]
  have M4 : IntKind.u32.wrap (uv x4 * 73244475) = uv x5 := by rw [mul_uv, h5]
  have HE := Shut.mk (show mixB a b = x6 by unfold mixB; rw [h1, h2, h3, h4, h5, h6])
  rw [HE.out]
  rw [h1] at X0
  have Y0 := X0.out
  go_enter Try.func58, Try.ntmps58
  go_wp2_with (fail)
  refine (fold_any x1 _).mono ?_
  rintro e w1 ⟨rfl, rfl⟩
  rw [h2]
  go_wp2_with (fail)
  refine (fold_any x3 _).mono ?_
  rintro e w1 ⟨rfl, rfl⟩
  rw [h4]
  go_wp2_with (fail)
  refine (fold_any x5 _).mono ?_
  rintro e w1 ⟨rfl, rfl⟩
  rw [h6]
  go_wp2
  go_ret
  exact ⟨rfl, rfl⟩

set_option maxRecDepth 100000 in
/-- the reference. -/
theorem refmix_any (a b : BitVec 32) (w : World) :
    Calls Try.prog 57 #[.int .u32 (uv a), .int .u32 (uv b)] w fun e w' => e = .returned (.int .u32 (uv (mixB a b))) ∧ w = w' := by
  have X0 := Shut.mk (xor_uv a b)
  obtain ⟨x1, h1⟩ : ∃ x, a ^^^ b = x := ⟨_, rfl⟩
  obtain ⟨x2, h2⟩ : ∃ x, fold16 x1 = x := ⟨_, rfl⟩
  obtain ⟨x3, h3⟩ : ∃ x, x2 * 73244475#32 = x := ⟨_, rfl⟩
  obtain ⟨x4, h4⟩ : ∃ x, fold16 x3 = x := ⟨_, rfl⟩
  obtain ⟨x5, h5⟩ : ∃ x, x4 * 73244475#32 = x := ⟨_, rfl⟩
  obtain ⟨x6, h6⟩ : ∃ x, fold16 x5 = x := ⟨_, rfl⟩
  have M2 : IntKind.u32.wrap (uv x2 * 73244475) = uv x3 := by rw [mul_uv, h3]
  have M4 : IntKind.u32.wrap (uv x4 * 73244475) = uv x5 := by rw [mul_uv, h5]
  have HE := Shut.mk (show mixB a b = x6 by unfold mixB; rw [h1, h2, h3, h4, h5, h6])
  rw [HE.out]
  rw [h1] at X0
  have Y0 := X0.out
  have F1 : bits .xor .u32 (uv x1) (uv x1 / 65536) = uv x2 := by rw [shr_uv, xor_uv, ← h2]; rfl
  have F3 : bits .xor .u32 (uv x3) (uv x3 / 65536) = uv x4 := by rw [shr_uv, xor_uv, ← h4]; rfl
  have F5 : bits .xor .u32 (uv x5) (uv x5 / 65536) = uv x6 := by rw [shr_uv, xor_uv, ← h6]; rfl
  clear HE h1 h2 h3 h4 h5 h6
  have a0 := uv_lo x1
  have a1 := uv_hi x1
  have a2 := uv_lo x2
  have a3 := uv_hi x2
  have a4 := uv_lo x3
  have a5 := uv_hi x3
  have a6 := uv_lo x4
  have a7 := uv_hi x4
  have a8 := uv_lo x5
  have a9 := uv_hi x5
  go_enter Try.func57, Try.ntmps57
  go_wp2_with (fail)
  go_ret
  exact ⟨ret_int (by simp only [Y0, F1, M2, F3, M4, F5]), rfl⟩

set_option maxRecDepth 100000 in
theorem bucket_any (a b : BitVec 32) (w : World) :
    Calls Try.prog 41 #[.int .u32 (uv a), .int .u32 (uv b)] w fun e w' => e = .returned (.int .i64 (bkt a b : Nat)) ∧ w = w' := by
  have HB := Shut.mk (bkt_uv a b)
  have B0 := uv_lo (mixB a b)
  have B1 := uv_hi (mixB a b)
  go_enter Try.func41, Try.ntmps41
  go_wp2_with (fail)
  refine (mix_any a b _).mono ?_
  rintro e w1 ⟨rfl, rfl⟩
  generalize uv (mixB a b) = x at *
  go_wp2
  go_ret
  exact ⟨ret_int HB.out, rfl⟩

set_option maxRecDepth 100000 in
theorem refbucket_any (a b : BitVec 32) (w : World) :
    Calls Try.prog 33 #[.int .u32 (uv a), .int .u32 (uv b)] w fun e w' => e = .returned (.int .i64 (bkt a b : Nat)) ∧ w = w' := by
  have HB := Shut.mk (bkt_uv a b)
  have B0 := uv_lo (mixB a b)
  have B1 := uv_hi (mixB a b)
  go_enter Try.func33, Try.ntmps33
  go_wp2_with (fail)
  refine (refmix_any a b _).mono ?_
  rintro e w1 ⟨rfl, rfl⟩
  generalize uv (mixB a b) = x at *
  go_wp2
  go_ret
  exact ⟨ret_int HB.out, rfl⟩

end Go.Proofs.Ytaibopaagjodoaa
