/-
  muezzin/muezzinlaw2.CrcSays returns true, for all arguments; no condition.
-/
import Derived.Test.YtbgaidcpljfkjaaCrcE
import Derived.Test.YtbgaidcpljfkjaaRow
import Derived.WalkKit
import Derived.ProofKit
import Derived.OpenShut
import Derived.ShutString
import Derived.ChangeOld
import Derived.Below
namespace Go.Proofs.Ytbgaidcpljfkjaa.crcSays
open Go.ChangeShapes Go.WideShapes Go.ChangeAt Go.RowKit
open Go.ChangeMaps (open_string shut_string)
set_option linter.unusedVariables false

theorem own : ownKnob Try.prog.godebug = none := by kernel_rfl
theorem laidOut : laidOutB Try.prog = true := by kernel_rfl

/-! ### STEP 1: THE WALK: the Go text returns true, AND WRITES NOTHING THAT WAS THERE: 'Below w.heap.size w w'' (Derived/Below.lean: '.refl', '.alloc', '.drew', '.setCell' at a new block, '.trans'). Open each 'IsRow' by 'rcases' AHEAD of 'go_enter'; part every test ahead of the walk. -/
set_option maxRecDepth 100000 in
set_option maxHeartbeats 8000000 in
theorem walk (a0 : Option Addr) (len0 cap0 : Nat) (z0 : List Int) (w : World) (w0 : IsRow .u8 w a0 len0 cap0 z0) :
    Calls Try.prog 3 #[.slice a0 len0 cap0] w fun e w' => e = .returned (.bool true) ∧ Below w.heap.size w w' := by
  have hle := w0.len_le
  have hlc := w0.len_cap.1
  unfold maxLen at hle
  have HR := Lib.hid (RowB.of_row w0)
  clear w0
  generalize z0.take len0 = xs at HR
  by_cases h60 : 60 < len0
  · go_enter Try.func3, Try.ntmps3
    go_wp2_with (go_at_call 7; refine (first_any _).mono ?_; rintro e w1 ⟨rfl, hB⟩)
    go_ret
    exact ⟨rfl, hB⟩
  · have hd60 : decide ((60 : Int) < (len0 : Int)) = false := by simp; omega
    go_enter Try.func3, Try.ntmps3
    go_wp2_with (go_at_call 7; refine (first_any _).mono ?_; rintro e w1 ⟨rfl, hB⟩)
    have HB := Lib.hid hB
    have HR1 := Lib.hid (HR.out.below hB)
    clear hB
    refine (refsum_any _ _ _ _ _ HR1.out).mono ?_
    rintro e w' ⟨rfl, rfl⟩
    go_wp2_with (fail)
    have HL := Lib.hid HR.out.len
    rcases Nat.eq_zero_or_pos len0 with h0 | hp
    case' inl =>
      subst h0
      have hd : decide ((0 : Int) < 0) = false := by decide
      have HE := Lib.hid (show false = fitsB xs by unfold fitsB; rw [HR.out.len]; simp)
      go_quiet (fail)
      rw [HE.out]
    case' inr =>
      have hd : decide ((0 : Int) < (len0 : Int)) = true := by simp; omega
      obtain ⟨b, off, rfl, hc⟩ := HR1.out.el (len0 - 1) (by omega)
      have HE := Lib.hid (show (sum (xs.take (len0 - 1)) == xs.getD (len0 - 1) 0) = fitsB xs by unfold fitsB; rw [HR.out.len]; simp [hp, Bool.beq_comm])
      have HF := Lib.hid (HR1.out.first (len0 - 1) (by omega))
      have HQ := Lib.hid (fun m => quiet_left (refsum_any (some ⟨b, off, none⟩) (len0 - 1) cap0 _ (w1.drewN m) (HF.out.drewN m)))
      have h1 : (0 : Int) ≤ (len0 : Int) - 1 := by omega
      have h2 : (len0 : Int) - 1 < (len0 : Int) := by omega
      have h3 : ((len0 : Int) - 1).toNat = len0 - 1 := by omega
      have h4 : (len0 : Int) - 1 ≤ (cap0 : Int) := by omega
      have h5 : max ((len0 : Int) - 1) 0 = (len0 : Int) - 1 := by omega
      generalize xs.getD (len0 - 1) 0 = v at *
      generalize sum (xs.take (len0 - 1)) = s at *
      go_quiet ((go_at_call 8; exact HQ.out _))
      rw [HE.out]
      clear hc h1 h2 h3 h4 h5 HF HQ
    all_goals
      generalize hq : World.drewN w1 _ = w2
      have HR2 := Lib.hid (show RowB .u8 w2 _ _ xs by rw [← hq]; exact HR1.out.drewN _)
      have HB2 := Lib.hid (show Below w.heap.size w w2 by rw [← hq]; exact below_drewN HB.out _)
      clear hq HB HR1 HE hd
      obtain ⟨i0, hi0, hz0, hz1, hz2⟩ := info_parts byte_info
      have HS := Lib.hid (sum_range xs)
      have HX := Lib.hid (show sameB (xs ++ [sum xs]) (xs ++ [sum xs]) = true by simp [sameB])
      have HW := Lib.hid (seal_wf HR2.out.len HR2.out.wf8)
      go_wp2_with (go_at_call 9; refine (sum_any _ _ _ _ _ HR2.out).mono ?_; rintro e w' ⟨rfl, rfl⟩)
      generalize hsv : sum xs = sv at *
      have HSV := Lib.hid hsv
      clear hsv
      refine (seal_any _ _ _ _ _ HR2.out (by omega)).mono ?_
      rintro e w3 ⟨rfl, hO, hb⟩
      rw [HSV.out] at hO
      have HO3 := Lib.hid hO
      have HC3 := Lib.hid hb
      have HR3 := Lib.hid (HR2.out.below hb)
      clear hO hb
      go_wp2_with (fail)
      refine (bytes_any _ _ _ _ _ HR3.out (by omega)).mono ?_
      rintro e w4 ⟨g, cap, rfl, hO, hb⟩
      have HO4 := Lib.hid hO
      have HP4 := Lib.hid (HO3.out.below hb HO3.out.lt.2)
      have HC4 := Lib.hid (HC3.out.trans (hb.mono HC3.out.size))
      clear hO hb
      go_wp2_with (at_builtin; refine wpList_append_if (by rfl) (.tmp 46) (.tmp 48) 22 rfl w3.heap.size 5 i0 _ 1 1 Try.underlying22 hi0 hz0 hz1 hz2 rfl (by omega) (.slice (some ⟨g, 0, none⟩) _ cap) _ _ rfl (HO4.out.alloc _) ⟨w4.heap.size, 0, none⟩ 1 1 [.int .u8 sv] rfl rfl (cell_one_new _ _ _) (by intro u hu; simp at hu; subst hu; rfl) (by unfold maxLen; omega) (by omega) (by have := HO4.out.lt; simp; omega) ?_; intro v' w5 hown' hgrow' _)
      obtain ⟨g', cap', rfl, hg', _⟩ := World.ownsRow.form hown' (by omega)
      have HB5 := Lib.hid ((Below.refl w3.heap.size w4).alloc (by have := HO4.out.lt; omega) (.cells #[.int .u8 sv] 5) |>.grown hgrow' (by have := HO4.out.lt; simp; omega) (by intro q hq; simp [Value.ownBlock] at hq; subst hq; exact HO4.out.lt.1))
      have HP5 := Lib.hid (HP4.out.below HB5.out HO3.out.lt.2)
      have HO5 := Lib.hid (show OwnB w5 w3.heap.size 5 .u8 g' _ cap' (xs ++ [sv]) by unfold OwnB; rw [List.map_append]; exact hown')
      have HC5 := Lib.hid (HC4.out.trans (HB5.out.mono HC3.out.size))
      have HR5 := Lib.hid (HR2.out.below HC5.out)
      have HB6 := Lib.hid (HB2.out.trans (HC5.out.mono HB2.out.size))
      clear hown' hgrow'
      refine (same_any _ _ _ _ _ _ _ _ _ (HP5.out.row8 HW.out) (HO5.out.row8 HW.out)).mono ?_
      rintro e w6 ⟨rfl, m, rfl⟩
      rw [HX.out]
      have HR7 := Lib.hid (HR5.out.drewN m)
      have HB7 := Lib.hid (below_drewN HB6.out m)
      go_wp2_with (fail)
      refine (fits_any _ _ _ _ _ HR7.out hlc).mono ?_
      rintro e w7 ⟨rfl, m2, rfl⟩
      go_wp2
      go_ret
      exact ⟨ret_bool (by simp), below_drewN HB6.out _⟩

/-! ### THE ROW's STEP: WRITTEN OUT: LEAVE IT -/
set_option maxRecDepth 100000 in
theorem lifted (os : Os) (started : os.Started) (H : Type) (enc : TypeId × Value → H) :
    ReturnsInHanded {} Try.checked os 3 .any (Rows.crcSaysSpec.pre6 enc Try.prog Try.f3 Rows.crcSaysRow.domain false) (Rows.crcSaysSpec.post enc Try.prog Try.f3 false true false false) := by
  refine returnsInHanded_of_change (C := Try.checked) own started (by kernel_rfl) Try.func3
    (ChangeSpec.witness6 (enc := enc) (C := Try.checked) false ⟨#[], #[.slice none 0 0], []⟩ 8 (by kernel_rfl) (by kernel_rfl) (by kernel_rfl) (by kernel_rfl)) ?_
  intro W base args ds gs before hval0 hW hcnd _
  have hval : ∀ (j : Nat) t v, Try.f3.params[j]? = some t → args[j]? = some v → Value.okWide Try.prog W .any base t v := hval0
  have hW' := hW
  obtain ⟨p, q, hA0, hV, rfl, hfz, hnd⟩ := hW
  have hA : DataW.TrodAll enc Try.prog W 0 (fun _ => true) true Try.f3.params.toList args.toList ds p := hA0
  rw [Try.params3] at hA hval
  obtain ⟨v0, vs0, d0, ds0, p0, q0, hargs, rfl, rfl, h0, r0⟩ := trodAll_cons hA
  obtain ⟨rfl, rfl, rfl⟩ := trodAll_nil r0
  obtain rfl : args = #[v0] := by cases args; simp_all
  obtain ⟨rfl, rfl⟩ := trodVars_none hV
  obtain ⟨a0, len0, cap0, rfl⟩ := okWide_slice Try.underlying22 (hval 0 22 v0 rfl rfl)
  have k0 := h0
  have lt0 : ∀ x ∈ p0, x.block < W.heap.size := by obtain ⟨m, hm⟩ := k0; exact DataW.trod_lt m _ _ _ hm
  obtain ⟨z0, w0⟩ : ∃ zs, IsRow .u8 W a0 len0 cap0 zs := by
    obtain ⟨fuel, hf⟩ := h0
    rcases open_ints Try.underlying22 Try.underlying5 (by kernel_rfl) hf with ⟨hcs, _⟩ | ⟨x, l, c, zs, hcs, _, hl, hm, hz, _, hcell, hwz⟩
    · simp [Value.cells] at hcs
      obtain ⟨rfl, rfl, rfl⟩ := hcs
      exact ⟨[], .inl ⟨rfl, rfl, rfl, rfl⟩⟩
    · simp [Value.cells] at hcs
      obtain ⟨rfl, rfl, rfl⟩ := hcs
      exact ⟨zs, .inr ⟨_, rfl, hl, hm, by simpa using hz, hcell, hwz⟩⟩
  clear hA0 hval0
  refine (walk a0 len0 cap0 z0 W w0).mono fun e W' ⟨he, bel⟩ => ?_
  subst he
  exact ⟨_, rfl, _, _, _, [], _, [], hW', trodAll_mk1 (shut_bool Try.underlying4 _), (trodAll_cons_mk (Below.trod laidOut (by kernel_rfl) (of_decide_eq_true (by kernel_rfl)) k0 bel lt0) trodAll_mk0), rfl, bel.frame _, fun h => by cases h⟩

theorem over : Rows.crcSaysRow.holds Try.pinned (OpenSpec.ofChange Rows.crcSaysSpec) :=
  OpenClaim.holds_of_wide 3 Try.f3 rfl rfl rfl rfl rfl rfl rfl ⟨rfl, rfl, rfl, rfl, rfl⟩ rfl rfl rfl rfl rfl (by kernel_rfl) Try.func3 (by kernel_rfl)
    (of_decide_eq_true (by kernel_rfl)) (by unfold Func.isWrapper; first | (rw [if_pos (by decide +kernel)]; kernel_rfl) | (rw [if_neg (by decide +kernel)]; exact ⟨rfl, rfl⟩))
    (fun os started H enc _ => lifted os started H enc)

/-- ████ THE STATEMENT ████ -/
theorem proved : Rows.CrcSaysSaid := over
#print axioms proved
end Go.Proofs.Ytbgaidcpljfkjaa.crcSays
