/-
  muezzin/muezzinlaw1.SeqChains returns true, for all arguments; no condition.
-/
import Derived.Test.YtnenjemfplljfaaSeqC
import Derived.Test.YtnenjemfplljfaaRow
import Derived.WalkKit
import Derived.ProofKit
import Derived.OpenShut
import Derived.ShutString
import Derived.ChangeOld
import Derived.Below
namespace Go.Proofs.Ytnenjemfplljfaa.seqChains
open Go.ChangeShapes Go.WideShapes Go.ChangeAt Go.RowKit
open Go.ChangeMaps (open_string shut_string)
set_option linter.unusedVariables false

theorem own : ownKnob Try.prog.godebug = none := by kernel_rfl
theorem laidOut : laidOutB Try.prog = true := by kernel_rfl

/-- a number modulo 9000, closed to the walk. -/
def nd (n : Int) : Int := n % 9000
theorem nd_lo (n : Int) : 0 ≤ nd n := by unfold nd; omega
theorem nd_hi (n : Int) : nd n ≤ 8999 := by unfold nd; omega
theorem number9_any (n : Int) (w : World) (hn : (Lit.int .i64 n).wf = true) :
    Calls Try.prog 7 #[.int .i64 n, .int .i64 9000] w fun e w' => e = .returned (.int .i64 (nd n)) ∧ w = w' :=
  number_any n 9000 w hn (by omega) (by omega)

theorem rd_step (a s n : Int) : rd (rd (a + s) + n) = rd (a + (s + n)) := by unfold rd; omega
theorem rd_zero (a : Int) : rd (rd a + 0) = rd a := by unfold rd; omega
theorem rd_back (a s : Int) : rd (rd (rd a + s) + -s) = rd a := by unfold rd; omega
theorem rd_dist (a s : Int) : rd (rd (rd a + s) - rd a) = rd s := by unfold rd; omega

/-- what holds at every round's head: 'at' is where the start and the sum lead. -/
def Rel (a : Int) (len : Nat) (at_ sum i : Value) : Prop :=
  ∃ (k : Nat) (s : Int), k ≤ len ∧ -(4500 * (k : Int)) ≤ s ∧ s ≤ 4500 * (k : Int) ∧ i = .int .i64 k ∧ sum = .int .i64 s ∧ at_ = .int .i64 (rd (rd a + s))

set_option maxHeartbeats 1000000 in
theorem walk (a0 : Int) (a1 : Option Addr) (len1 cap1 : Nat) (z1 : List Int) (w : World) (w0 : (Lit.int .i64 a0).wf = true) (w1 : IsRow .i64 w a1 len1 cap1 z1) :
    Calls Try.prog 5 #[.int .i64 a0, .slice a1 len1 cap1] w fun e w' => e = .returned (.bool true) ∧ Below w.heap.size w w' := by
  have hlen := w1.len_le
  unfold maxLen at hlen
  have Hel := Lib.hid w1
  clear w1
  by_cases h30 : 30 < len1
  · go_enter Try.func5, Try.ntmps5
    go_wp2_with (first | (go_at_call 6; refine (first_any _).mono ?_; rintro e w' ⟨rfl, rfl⟩) | (go_at_call 7; refine (number4_any _ _ (by assumption)).mono ?_; rintro e w' ⟨rfl, rfl⟩) | (go_at_call 8; refine (dist_any _ _ _).mono ?_; rintro e w' ⟨rfl, rfl⟩) | (go_at_call 9; refine (add_any _ _ _).mono ?_; rintro e w' ⟨rfl, rfl⟩))
    go_ret
    exact ⟨rfl, Below.refl _ _⟩
  · have x0 := rd_lo a0
    have x1 := rd_hi a0
    go_enter Try.func5, Try.ntmps5
    go_wp2_with (first | (go_at_call 6; refine (first_any _).mono ?_; rintro e w' ⟨rfl, rfl⟩) | (go_at_call 7; refine (number4_any _ _ (by assumption)).mono ?_; rintro e w' ⟨rfl, rfl⟩) | (go_at_call 8; refine (dist_any _ _ _).mono ?_; rintro e w' ⟨rfl, rfl⟩) | (go_at_call 9; refine (add_any _ _ _).mono ?_; rintro e w' ⟨rfl, rfl⟩))
    go_loop [6, 7, 8] (Rel a0 len1) (fun _ _ i => len1 - (intOf i).toNat)
    case atStart => exact ⟨0, 0, by omega, by omega, by omega, rfl, rfl, ret_val (rd_zero a0)⟩
    case round =>
      obtain ⟨k, s, hk, s0, s1, rfl, rfl, rfl⟩ := hrel
      by_cases hlt : k < len1
      · obtain ⟨b, off, rfl, hc, hv⟩ := Hel.out.el k hlt
        generalize z1.getD k 0 = v at hc hv
        have n0 := nd_lo v
        have n1 := nd_hi v
        clear Hel
        go_wp2_with (first | (go_at_call 7; refine (number9_any _ _ hv).mono ?_; rintro e w' ⟨rfl, rfl⟩) | (go_at_call 9; refine (add_any _ _ _).mono ?_; rintro e w' ⟨rfl, rfl⟩))
        go_round
        case rel => exact ⟨k + 1, s + (nd v - 4500), by omega, by omega, by omega, by go_num, rfl, ret_val (by rw [rd_step])⟩
        case measure => simp [intOf]; omega
      · have hk' : k = len1 := by omega
        have e1 : (rd (rd (rd a0 + s) + -s) == rd a0) = true := by rw [rd_back]; simp
        have e2 : (rd (rd (rd a0 + s) - rd a0) == rd s) = true := by rw [rd_dist]; simp
        clear Hel hk'
        go_wp2_with (first | (go_at_call 8; refine (dist_any _ _ _).mono ?_; rintro e w' ⟨rfl, rfl⟩) | (go_at_call 9; refine (add_any _ _ _).mono ?_; rintro e w' ⟨rfl, rfl⟩))
        go_ret
        exact ⟨rfl, Below.refl _ _⟩

/-! ### THE ROW's STEP: WRITTEN OUT: LEAVE IT -/
set_option maxRecDepth 100000 in
theorem lifted (os : Os) (started : os.Started) (H : Type) (enc : TypeId × Value → H) :
    ReturnsInHanded {} Try.checked os 5 .any (Rows.seqChainsSpec.pre6 enc Try.prog Try.f5 Rows.seqChainsRow.domain false) (Rows.seqChainsSpec.post enc Try.prog Try.f5 false true false false) := by
  refine returnsInHanded_of_change (C := Try.checked) own started (by kernel_rfl) Try.func5
    (ChangeSpec.witness6 (enc := enc) (C := Try.checked) false ⟨#[], #[.int .i64 0, .slice none 0 0], []⟩ 8 (by kernel_rfl) (by kernel_rfl) (by kernel_rfl) (by kernel_rfl)) ?_
  intro W base args ds gs before hval0 hW hcnd _
  have hval : ∀ (j : Nat) t v, Try.f5.params[j]? = some t → args[j]? = some v → Value.okWide Try.prog W .any base t v := hval0
  have hW' := hW
  obtain ⟨p, q, hA0, hV, rfl, hfz, hnd⟩ := hW
  have hA : DataW.TrodAll enc Try.prog W 0 (fun _ => true) true Try.f5.params.toList args.toList ds p := hA0
  rw [Try.params5] at hA hval
  obtain ⟨v0, vs0, d0, ds0, p0, q0, hargs, rfl, rfl, h0, r0⟩ := trodAll_cons hA
  obtain ⟨v1, vs1, d1, ds1, p1, q1, rfl, rfl, rfl, h1, r1⟩ := trodAll_cons r0
  obtain ⟨rfl, rfl, rfl⟩ := trodAll_nil r1
  obtain rfl : args = #[v0, v1] := by cases args; simp_all
  obtain ⟨rfl, rfl⟩ := trodVars_none hV
  obtain ⟨a0, rfl, rfl, rfl, w0⟩ := open_int Try.underlying3 (hval 0 3 v0 rfl rfl) h0
  obtain ⟨a1, len1, cap1, rfl⟩ := okWide_slice Try.underlying26 (hval 1 26 v1 rfl rfl)
  have k1 := h1
  have lt1 : ∀ x ∈ p1, x.block < W.heap.size := by obtain ⟨m, hm⟩ := k1; exact DataW.trod_lt m _ _ _ hm
  obtain ⟨z1, w1⟩ : ∃ zs, IsRow .i64 W a1 len1 cap1 zs := by
    obtain ⟨fuel, hf⟩ := h1
    rcases open_ints Try.underlying26 Try.underlying3 (by kernel_rfl) hf with ⟨hcs, _⟩ | ⟨x, l, c, zs, hcs, _, hl, hm, hz, _, hcell, hwz⟩
    · simp [Value.cells] at hcs
      obtain ⟨rfl, rfl, rfl⟩ := hcs
      exact ⟨[], .inl ⟨rfl, rfl, rfl, rfl⟩⟩
    · simp [Value.cells] at hcs
      obtain ⟨rfl, rfl, rfl⟩ := hcs
      exact ⟨zs, .inr ⟨_, rfl, hl, hm, by simpa using hz, hcell, hwz⟩⟩
  clear hA0 hval0
  refine (walk a0 a1 len1 cap1 z1 W w0 w1).mono fun e W' ⟨he, bel⟩ => ?_
  subst he
  exact ⟨_, rfl, _, _, _, [], _, [], hW', trodAll_mk1 (shut_bool Try.underlying4 _), (trodAll_cons_mk (shut_int Try.underlying3 w0) (trodAll_cons_mk (Below.trod laidOut (by kernel_rfl) (of_decide_eq_true (by kernel_rfl)) k1 bel lt1) trodAll_mk0)), rfl, bel.frame _, fun h => by cases h⟩

theorem over : Rows.seqChainsRow.holds Try.pinned (OpenSpec.ofChange Rows.seqChainsSpec) :=
  OpenClaim.holds_of_wide 5 Try.f5 rfl rfl rfl rfl rfl rfl rfl ⟨rfl, rfl, rfl, rfl, rfl⟩ rfl rfl rfl rfl rfl (by kernel_rfl) Try.func5 (by kernel_rfl)
    (of_decide_eq_true (by kernel_rfl)) (by unfold Func.isWrapper; first | (rw [if_pos (by decide +kernel)]; kernel_rfl) | (rw [if_neg (by decide +kernel)]; exact ⟨rfl, rfl⟩))
    (fun os started H enc _ => lifted os started H enc)

/-- ████ THE STATEMENT ████ -/
theorem proved : Rows.SeqChainsSaid := over
#print axioms proved
end Go.Proofs.Ytnenjemfplljfaa.seqChains
