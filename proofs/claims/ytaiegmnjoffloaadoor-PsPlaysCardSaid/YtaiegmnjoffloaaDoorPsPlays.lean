/-
  muezzin/muezzinlaw21.PsPlays returns true, for all arguments; the listed package-level variables hold what the program's text lays there (tied).
-/
import Derived.Test.YtaiegmnjoffloaaDoorPsPlaysW
import Derived.Test.YtaiegmnjoffloaaDoorCards
import Derived.Test.YtaiegmnjoffloaaDoorTie
import Derived.Test.YtaiegmnjoffloaaDoorLaidP
import Derived.Test.YtaiegmnjoffloaaDoorOpenN
import Derived.SevenTiedAt
import Derived.WalkKit
import Derived.ProofKit
import Derived.OpenShut
import Derived.ChangeOld
import Derived.Below
import Derived.LaidMore
namespace Go.Proofs.YtaiegmnjoffloaaDoor.psPlays
open Go.ChangeShapes Go.WideShapes Go.ChangeAt Go.RowKit Go.Joins
set_option linter.unusedVariables false

theorem own : ownKnob Tryd.prog.godebug = none := by kernel_rfl
theorem laidOut : laidOutB Tryd.prog = true := by kernel_rfl

/-! ### THE ROW, THE CARD -/
def laidL : List (Nat × String × DataW Unit) := [(101, "muezzin/api.ErrEnd", Rows.laid_muezzin_api_ErrEnd), (102, "muezzin/api.ErrShape", Rows.laid_muezzin_api_ErrShape), (103, "muezzin/api.ErrRange", Rows.laid_muezzin_api_ErrRange), (104, "muezzin/api.ErrMany", Rows.laid_muezzin_api_ErrMany), (105, "muezzin/api.ErrKind", Rows.laid_muezzin_api_ErrKind), (106, "muezzin/api.ErrSum", Rows.laid_muezzin_api_ErrSum), (107, "muezzin/api.ErrNone", Rows.laid_muezzin_api_ErrNone), (108, "muezzin/api.ErrTwice", Rows.laid_muezzin_api_ErrTwice), (109, "muezzin/api.ErrFull", Rows.laid_muezzin_api_ErrFull), (110, "muezzin/api.ErrState", Rows.laid_muezzin_api_ErrState), (111, "muezzin/api.ErrSeq", Rows.laid_muezzin_api_ErrSeq), (112, "muezzin/api.ErrLong", Rows.laid_muezzin_api_ErrLong), (113, "muezzin/api.ErrWord", Rows.laid_muezzin_api_ErrWord), (114, "muezzin/api.ErrNumber", Rows.laid_muezzin_api_ErrNumber)]
theorem laidL_ok : ∀ x ∈ laidL, Tryd.prog.globalNamed x.2.1 = some (gOf x.1) ∧ (Tryd.prog.globals[gOf x.1]?).map (·.type) = some 44 ∧ ∃ text, x.2.2 = sentD text := by
  intro x hx
  simp only [laidL, List.mem_cons, List.not_mem_nil, or_false] at hx
  rcases hx with rfl | rfl | rfl | rfl | rfl | rfl | rfl | rfl | rfl | rfl | rfl | rfl | rfl | rfl <;> exact ⟨by kernel_rfl, by kernel_rfl, _, rfl⟩
theorem door_met (os : Os) (args : Array Value) : laidMetH Tryd.prog Rows.psPlaysRow.laid ((World.doorLaid Tryd.prog 400 os).forCall (fun _ _ => 0) ⟨#[], args, []⟩).memory :=
  laidMetH_of_parts3 (fuel := 8) (laidMet_of_run' 8 (by kernel_rfl) (by kernel_rfl)) (by kernel_rfl) (by kernel_rfl)

set_option maxRecDepth 100000 in
theorem lifted (os : Os) (started : os.Started) (H : Type) (enc : TypeId × Value → H) :
    ReturnsInHanded {} Tryd.checked os 3 .any (fun w args => (Rows.psPlaysSpec.pre enc Tryd.prog Tryd.f3 [] false w args ∧ laidMetH Tryd.prog Rows.psPlaysRow.laid w) ∧ sizedMet enc Tryd.prog Tryd.f3 (OpenSpec.ofChange Rows.psPlaysSpec) false w args)
      (Rows.psPlaysSpec.post enc Tryd.prog Tryd.f3 false true false false) := by
  refine returnsInHanded_of_change_and (C := Tryd.checked) (X := fun w _ => laidMetH Tryd.prog Rows.psPlaysRow.laid w) (fun _ _ _ hh h => h.of_heap hh) own started (by kernel_rfl) Tryd.func3
    (ChangeSpec.witness_shaped (enc := enc) (C := Tryd.checked) (os := os) (X := fun w _ => laidMetH Tryd.prog Rows.psPlaysRow.laid w) false (World.doorLaid Tryd.prog 400 os) #[.slice none 0 0] 8 rfl (World.shaped_of_RefB (by kernel_rfl) (by kernel_rfl)) (by kernel_rfl) (by kernel_rfl) (by kernel_rfl) (door_met os _)) ?_
  intro W base args ds gs before hval0 hW _ _ hL _
  have hval : ∀ (j : Nat) t v, Tryd.f3.params[j]? = some t → args[j]? = some v → Value.okWide Tryd.prog W .any base t v := hval0
  have hW' := hW
  obtain ⟨p, q, hA0, hV, rfl, hfz, hnd⟩ := hW
  have hA : DataW.TrodAll enc Tryd.prog W 0 (fun _ => true) true Tryd.f3.params.toList args.toList ds p := hA0
  rw [Tryd.params3] at hA hval
  obtain ⟨v0, vs0, d0, ds0, p0, q0', hargs, rfl, rfl, h0, r0⟩ := trodAll_cons hA
  obtain ⟨rfl, rfl, rfl⟩ := trodAll_nil r0
  obtain rfl : args = #[v0] := by cases args; simp_all
  obtain ⟨rfl, rfl⟩ := trodVars_none hV
  have k0 := h0
  have lt0 : ∀ x ∈ p0, x.block < W.heap.size := by obtain ⟨m, hm⟩ := k0; exact DataW.trod_lt m _ _ _ hm
  obtain ⟨a0, len0, cap0, rfl⟩ := okWide_slice Tryd.underlying22 (hval 0 22 v0 rfl rfl)
  obtain ⟨l0, rfl, w0⟩ : ∃ l : List Don, len0 = l.length ∧ RowS doC 8 do00 W a0 l.length l ∧ l.length ≤ cap0 ∧ ∀ d ∈ l, okDo d := by
    obtain ⟨fuel, hf⟩ := h0
    obtain ⟨A, c, l, e, hr⟩ := open_dos (v := .slice a0 len0 cap0) hf
    cases e
    exact ⟨l, rfl, hr⟩
  rw [MakeChecks.laidMetH_plain _ _ _ (by kernel_rfl)] at hL
  obtain ⟨E, hS⟩ := sent_of_laid laidL laidL_ok (by decide) hL
  clear hA0 hval0 hL
  refine (walk a0 cap0 l0 W E hS w0).mono fun e W' ⟨he, bel⟩ => ?_
  subst he
  exact ⟨_, rfl, _, _, _, [], _, [], hW', trodAll_mk1 (shut_bool Tryd.underlying4 _), (trodAll_cons_mk (Below.trod laidOut (by kernel_rfl) (of_decide_eq_true (by kernel_rfl)) k0 bel lt0) trodAll_mk0), rfl, bel.frame _, fun h => by cases h⟩

theorem over : Rows.PsPlaysSaid :=
  OpenClaim.holds_of_wide 3 Tryd.f3 rfl rfl rfl rfl rfl rfl rfl ⟨rfl, rfl, rfl, rfl, rfl⟩ rfl rfl rfl rfl rfl (by kernel_rfl) Tryd.func3 (by kernel_rfl)
    (of_decide_eq_true (by kernel_rfl)) (by unfold Func.isWrapper; first | (rw [if_pos (by decide +kernel)]; kernel_rfl) | (rw [if_neg (by decide +kernel)]; exact ⟨rfl, rfl⟩))
    (fun os started H enc _ => lifted os started H enc)

/-- ████ THE STATEMENT: the tied card ████ -/
theorem proved : Rows.PsPlaysCardSaid :=
  Claim7.holds_tied_plain_at .later [] [.sentinel, .sentinel, .sentinel, .sentinel, .sentinel, .sentinel, .sentinel, .sentinel, .sentinel, .sentinel, .sentinel, .sentinel, .sentinel, .sentinel] true (true, "ea948d4d8d77272b665460fb066b7ff71324f73a874031d6e5ebcb9fbf963f0f") true
    over (fun _ h => by cases h) (by kernel_rfl) (fun _ h => by cases h) psPlays_row_tie rfl ⟨rfl, rfl⟩ (by kernel_rfl) rfl
    (fun f fn hf hfn => by
      obtain rfl : f = 3 := Option.some.inj ((show Tryd.prog.funcNamed "muezzin/muezzinlaw21.PsPlays" = some 3 by kernel_rfl).symm.trans hf) |>.symm
      obtain rfl : fn = Tryd.f3 := (Option.some.inj (Tryd.func3.symm.trans hfn)).symm
      exact ⟨by kernel_rfl, fun j t ht => by
        rw [Tryd.params3] at ht
        have hm : t ∈ [22] := by simpa using Array.mem_of_getElem? ht
        have hall : ([22].all fun u => !Tryd.prog.wantsStandIn u) = true := by kernel_rfl
        exact (show Tryd.prog.wantsStandIn t = false by simpa using List.all_eq_true.1 hall t hm)⟩)
    (by kernel_rfl)
#print axioms proved
end Go.Proofs.YtaiegmnjoffloaaDoor.psPlays
