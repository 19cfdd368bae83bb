/-
  muezzin/muezzinlaw10.InvRoots returns true, for all arguments; no condition.
-/
import Derived.Test.YtebeclebpabkaaaInvF
import Derived.WalkKit
import Derived.ProofKit
import Derived.OpenShut
import Derived.ShutString
namespace Go.Proofs.Ytebeclebpabkaaa.invRoots
open Go.ChangeShapes Go.WideShapes Go.ChangeAt Go.RowKit
open Go.ChangeMaps (open_string shut_string)
set_option linter.unusedVariables false
set_option linter.unusedSimpArgs false

theorem own : ownKnob Try.prog.godebug = none := by kernel_rfl

/-! ### THE WALK -/
set_option maxRecDepth 100000 in
set_option maxHeartbeats 4000000 in
theorem walk (a0 : Int) (w0 : (Lit.int .u64 a0).wf = true) (w : World) :
    Calls Try.prog 4 #[.int .u64 a0] w fun e w' => e = .returned (.bool true) ∧ Grown w w' := by
  obtain ⟨n, rfl⟩ := Int.eq_ofNat_of_zero_le (wf_u64 w0).1
  have hn : n < 18446744073709551616 := by have := (wf_u64 w0).2; omega
  have HN := Lib.hid hn
  obtain ⟨hr1, hr2⟩ := rootN_is n
  have hr3 := root_hi (rootN_is n) hn
  obtain ⟨r, hr⟩ : ∃ r, rootN n = r := ⟨_, rfl⟩
  rw [hr] at hr1 hr2 hr3
  have HR := Lib.hid hr
  obtain ⟨s, hs⟩ := Int.eq_ofNat_of_zero_le (show 0 ≤ (n : Int) / 4294967296 by omega)
  have hs1 : s ≤ 4294967295 := by omega
  obtain ⟨q, hq⟩ : ∃ q, s * s = q := ⟨_, rfl⟩
  have hq1 : q < 18446744073709551616 := by rw [← hq]; exact Nat.lt_of_le_of_lt (sq_le hs1) (by decide)
  have HQ := Lib.hid hq1
  have HS := Lib.hid (show rootN q = s from rootN_one (by rw [← hq]; exact root_sq s))
  have hss : IntKind.u64.wrap ((s : Int) * (s : Int)) = (q : Int) := by rw [← Int.natCast_mul, hq]; exact u64_in (by omega) (by omega)
  obtain ⟨p, hp⟩ : ∃ p, r * r = p := ⟨_, rfl⟩
  rw [hp] at hr1
  have hrr : IntKind.u64.wrap ((r : Int) * (r : Int)) = (p : Int) := by rw [← Int.natCast_mul, hp]; exact u64_in (by omega) (by omega)
  have hle : (p : Int) ≤ (n : Int) := by omega
  have hrI : (r : Int) ≤ 4294967295 := by omega
  rcases (by omega : r = 4294967295 ∨ r < 4294967295) with h | h
  · have he : ((r : Int) == 4294967295) = true := by rw [h]; rfl
    clear hr hr1 hr2 hr3 hs1 hq hq1 hp hn h w0
    go_enter Try.func4, Try.ntmps4
    go_wp2_with (fail)
    refine (first_any _).mono ?_
    rintro e wn ⟨rfl, rfl⟩
    go_wp2_with (fail)
    refine (root_any n _ HN.out).mono ?_
    rintro e wn ⟨rfl, rfl⟩
    rw [HR.out]
    go_wp2_with (fail)
    refine (root_any q _ HQ.out).mono ?_
    rintro e wn ⟨rfl, rfl⟩
    rw [HS.out]
    go_wp2
    go_ret
    exact ⟨rfl, Grown.refl _⟩
  · have he : ((r : Int) == 4294967295) = false := by simp; omega
    obtain ⟨t, ht⟩ : ∃ t, (r + 1) * (r + 1) = t := ⟨_, rfl⟩
    have ht1 : t < 18446744073709551616 := by rw [← ht]; exact Nat.lt_of_le_of_lt (sq_le (show r + 1 ≤ 4294967295 by omega)) (by decide)
    rw [ht] at hr2
    have h1 : IntKind.u64.wrap ((r : Int) + 1) = (r : Int) + 1 := u64_in (by omega) (by omega)
    have h2 : IntKind.u64.wrap (((r : Int) + 1) * ((r : Int) + 1)) = (t : Int) := by
      rw [show (r : Int) + 1 = ((r + 1 : Nat) : Int) from rfl, ← Int.natCast_mul, ht]; exact u64_in (by omega) (by omega)
    have h3 : (n : Int) < (t : Int) := by omega
    have hrJ : (r : Int) < 4294967295 := by omega
    clear hr hr1 hr2 hr3 hs1 hq hq1 hp hn h w0 ht ht1
    go_enter Try.func4, Try.ntmps4
    go_wp2_with (fail)
    refine (first_any _).mono ?_
    rintro e wn ⟨rfl, rfl⟩
    go_wp2_with (fail)
    refine (root_any n _ HN.out).mono ?_
    rintro e wn ⟨rfl, rfl⟩
    rw [HR.out]
    go_wp2_with (fail)
    refine (root_any q _ HQ.out).mono ?_
    rintro e wn ⟨rfl, rfl⟩
    rw [HS.out]
    go_wp2
    go_ret
    exact ⟨rfl, Grown.refl _⟩

/-! ### THE ROW -/
set_option maxRecDepth 100000 in
theorem lifted (os : Os) (started : os.Started) (H : Type) (enc : TypeId × Value → H) :
    ReturnsInHanded {} Try.checked os 4 .any (Rows.invRootsSpec.pre6 enc Try.prog Try.f4 Rows.invRootsRow.domain false) (Rows.invRootsSpec.post enc Try.prog Try.f4 false true false false) := by
  refine returnsInHanded_of_change (C := Try.checked) own started (by kernel_rfl) Try.func4
    (ChangeSpec.witness6 (enc := enc) (C := Try.checked) false ⟨#[], #[.int .u64 0], []⟩ 8 (by kernel_rfl) (by kernel_rfl) (by kernel_rfl) (by kernel_rfl)) ?_
  intro W base args ds gs before hval0 hW hcnd _
  have hval : ∀ (j : Nat) t v, Try.f4.params[j]? = some t → args[j]? = some v → Value.okWide Try.prog W .any base t v := hval0
  have hW' := hW
  obtain ⟨p, q, hA0, hV, rfl, hfz, hnd⟩ := hW
  have hA : DataW.TrodAll enc Try.prog W 0 (fun _ => true) true Try.f4.params.toList args.toList ds p := hA0
  rw [Try.params4] at hA hval
  obtain ⟨v0, vs0, d0, ds0, p0, q0, hargs, rfl, rfl, h0, r0⟩ := trodAll_cons hA
  obtain ⟨rfl, rfl, rfl⟩ := trodAll_nil r0
  obtain rfl : args = #[v0] := by cases args; simp_all
  obtain ⟨rfl, rfl⟩ := trodVars_none hV
  obtain ⟨a0, rfl, rfl, rfl, w0⟩ := open_int Try.underlying22 (hval 0 22 v0 rfl rfl) h0
  clear hA0 hval0
  simp only [List.append_nil] at hW'
  refine (walk a0 w0 W).mono fun e W' ⟨he, hg⟩ => ?_
  subst he
  exact ⟨_, rfl, post_of_same (pa := []) (pv := []) hW' (fun _ _ _ => (trodAll_cons_mk (shut_bool Try.underlying4 _) trodAll_mk0)) (fun sp _ => (trodAll_cons_mk (shut_int Try.underlying22 w0) trodAll_mk0)) (fun _ _ => rfl) rfl
    (hg.frame _) hg.2.1 (ok_one (by kernel_rfl) rfl (okWide_bool_mk Try.underlying4 _))⟩

theorem over : Rows.invRootsRow.holds Try.pinned (OpenSpec.ofChange Rows.invRootsSpec) :=
  OpenClaim.holds_of_wide 4 Try.f4 rfl rfl rfl rfl rfl rfl rfl ⟨rfl, rfl, rfl, rfl, rfl⟩ rfl rfl rfl rfl rfl (by kernel_rfl) Try.func4 (by kernel_rfl)
    (of_decide_eq_true (by kernel_rfl)) (by unfold Func.isWrapper; first | (rw [if_pos (by decide +kernel)]; kernel_rfl) | (rw [if_neg (by decide +kernel)]; exact ⟨rfl, rfl⟩))
    (fun os started H enc _ => lifted os started H enc)

theorem proved : Rows.InvRootsSaid :=
  over
#print axioms proved
end Go.Proofs.Ytebeclebpabkaaa.invRoots
