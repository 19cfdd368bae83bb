/-
  muezzin/muezzinlaw2.CrcOwn returns true, for all arguments; no condition.
-/
import Derived.Test.YtbgaidcpljfkjaaCrcF
import Derived.Test.YtbgaidcpljfkjaaRow
import Derived.WalkKit
import Derived.ProofKit
import Derived.OpenShut
import Derived.ShutString
import Derived.ChangeOld
import Derived.Below
namespace Go.Proofs.Ytbgaidcpljfkjaa.crcOwn
open Go.ChangeShapes Go.WideShapes Go.ChangeAt Go.RowKit
open Go.ChangeMaps (open_string shut_string)
set_option linter.unusedVariables false

theorem own : ownKnob Try.prog.godebug = none := by kernel_rfl
theorem laidOut : laidOutB Try.prog = true := by kernel_rfl

/-! ### STEP 1: THE WALK: the Go text returns true, AND WRITES NOTHING THAT WAS THERE: 'Below w.heap.size w w'' (Derived/Below.lean: '.refl', '.alloc', '.drew', '.setCell' at a new block, '.trans'). Open each 'IsRow' by 'rcases' AHEAD of 'go_enter'; part every test ahead of the walk. -/
set_option maxRecDepth 100000 in
set_option maxHeartbeats 8000000 in
theorem walk (a0 : Option Addr) (len0 cap0 : Nat) (z0 : List Int) (a1 : Int) (a2 : Int) (w : World) (w0 : IsRow .u8 w a0 len0 cap0 z0) (w1 : (Lit.int .i64 a1).wf = true) (w2 : (Lit.int .u8 a2).wf = true) :
    Calls Try.prog 5 #[.slice a0 len0 cap0, .int .i64 a1, .int .u8 a2] w fun e w' => e = .returned (.bool true) ∧ Below w.heap.size w w' := by
  have hle := w0.len_le
  have hlc := w0.len_cap.1
  unfold maxLen at hle
  have HR := Lib.hid (RowB.of_row w0)
  clear w0
  generalize z0.take len0 = xs at HR
  obtain ⟨i0, hi0, hz0, hz1, hz2⟩ := info_parts byte_info
  by_cases h14 : 14 < len0
  · have hd : decide ((14 : Int) < (len0 : Int)) = true := by simp; omega
    have hd0 : ((len0 : Int) == 0) = false := by simp; omega
    go_enter Try.func5, Try.ntmps5
    go_wp2_with (go_at_call 7; refine (first_any _).mono ?_; rintro e w1 ⟨rfl, hB⟩)
    go_ret
    exact ⟨rfl, hB⟩
  · rcases Nat.eq_zero_or_pos len0 with h0 | hp
    · subst h0
      have hd : decide ((14 : Int) < 0) = false := by decide
      have hd0 : ((0 : Int) == 0) = true := by decide
      go_enter Try.func5, Try.ntmps5
      go_wp2_with (go_at_call 7; refine (first_any _).mono ?_; rintro e w1 ⟨rfl, hB⟩)
      go_ret
      exact ⟨rfl, hB⟩
    · have hd : decide ((14 : Int) < (len0 : Int)) = false := by simp; omega
      have hd0 : ((len0 : Int) == 0) = false := by simp; omega
      have n0 := nmod_lo a1 len0 (by omega)
      have n1 := nmod_hi a1 len0 (by omega)
      have HN := Lib.hid (fun w => number_any a1 len0 w w1 (by omega) (by omega))
      obtain ⟨k, hk⟩ := Int.eq_ofNat_of_zero_le n0
      rw [hk] at n0 n1 HN
      have HK := Lib.hid hk
      clear hk
      have hk1 : k < len0 := by omega
      obtain ⟨b, off, rfl, _⟩ := HR.out.cells hp
      have a20 : 0 ≤ a2 ∧ a2 ≤ 255 := by simpa [Lit.wf, IntKind.min, IntKind.max, IntKind.signed, IntKind.bits] using w2
      clear w2
      obtain ⟨a20, a21⟩ := a20
      have HL := Lib.hid HR.out.len
      have hr := HR.out.wf8 k hk1
      have HM := Lib.hid (sum_set xs k (xr (xs.getD k 0) a2) (by rw [HL.out]; exact hk1) hr (xr_range _ _ hr ⟨a20, a21⟩))
      have HM2 := Lib.hid (xr_same (xs.getD k 0) a2 hr.1 a20)
      have hx := xor_u8 (xs.getD k 0) a2 hr ⟨a20, a21⟩
      have HE := Lib.hid (show ((sum xs == sum (xs.set k (xr (xs.getD k 0) a2))) == (a2 == 0)) = true by
        have h1 := HM.out
        have h2 := HM2.out
        rw [beq_iff_eq, Bool.eq_iff_iff, beq_iff_eq, beq_iff_eq, h1, h2])
      have HW := Lib.hid (show ∀ i, i < len0 → 0 ≤ (xs.set k (xr (xs.getD k 0) a2)).getD i 0 ∧ (xs.set k (xr (xs.getD k 0) a2)).getD i 0 ≤ 255 by
        intro i hi
        have hw := HR.out.wf8
        have hl := HL.out
        by_cases h : k = i
        · have e : (xs.set k (xr (xs.getD k 0) a2)).getD i 0 = xr (xs.getD k 0) a2 := by subst h; simp [List.getD, show k < xs.length by omega]
          rw [e]; exact xr_range _ _ hr ⟨a20, a21⟩
        · have e : (xs.set k (xr (xs.getD k 0) a2)).getD i 0 = xs.getD i 0 := by simp [List.getD, h]
          rw [e]; exact hw i hi)
      clear hr HM HM2
      obtain ⟨x, hxe⟩ : ∃ x, x = xs.getD k 0 := ⟨_, rfl⟩
      rw [← hxe] at hx HE HW
      obtain ⟨y, hye⟩ : ∃ y, y = xr x a2 := ⟨_, rfl⟩
      rw [← hye] at hx HE HW
      obtain ⟨ys, hys⟩ : ∃ ys, ys = xs.set k y := ⟨_, rfl⟩
      rw [← hys] at HE HW
      have HXE := Lib.hid hxe
      have HYS := Lib.hid hys
      clear hxe hye hys
      go_enter Try.func5, Try.ntmps5
      go_wp2_with (go_at_call 7; refine (first_any _).mono ?_; rintro e w1 ⟨rfl, hB⟩)
      have HB := Lib.hid hB
      have HR1 := Lib.hid (HR.out.below hB)
      clear hB
      refine (HN.out _).mono ?_
      rintro e w' ⟨rfl, rfl⟩
      have HA := Lib.hid ((Below.refl w1.heap.size w1).alloc (Nat.le_refl _) (.cells #[] 5))
      have HR2 := Lib.hid (HR1.out.below HA.out)
      have HS := Lib.hid (show ∀ j v, (xs.map (Value.int .u8))[j]? = some v → (w1.alloc (.cells #[] 5)).cell? ((⟨b, off, none⟩ : Addr).add j) = some v from by
        obtain ⟨ad, e, h⟩ := HR2.out.src (by rw [List.length_map, HL.out]; exact hp)
        cases e
        exact h)
      go_wp2_with (at_builtin; refine wpList_append_own _ rfl (.tmp 26) (.tmp 27) 22 rfl w1.heap.size 5 i0 _ 1 1 Try.underlying22 hi0 hz0 hz1 hz2 rfl (by omega) (.slice (some ⟨w1.heap.size, 0, none⟩) 0 0) 0 [] rfl (World.ownsRow_made w1 #[] 0 (Nat.le_refl _) (by unfold maxLen; omega) rfl) ⟨b, off, none⟩ len0 cap0 (xs.map (Value.int .u8)) rfl (by rw [List.length_map, HL.out]; omega) HS.out (ints_oneCell _ _) (by unfold maxLen; omega) (by omega) (by simp) ?_; intro v' w2 hown' hgrow' _)
      rw [Nat.zero_add] at hown'
      obtain ⟨g, cap, rfl, hg', _⟩ := World.ownsRow.form hown' (by omega)
      have HO2 := Lib.hid (show OwnB w2 w1.heap.size 5 .u8 g len0 cap xs by simpa [OwnB] using hown')
      have HB2 := Lib.hid (HA.out.grown hgrow' (by simp) (by intro q hq; simp [Value.ownBlock] at hq; omega))
      clear hown' hgrow' hg'
      have hc2 := HO2.out.cell k hk1
      have hf2 := HO2.out.frozen k
      rw [← HXE.out] at hc2
      have HO3 := Lib.hid (HO2.out.set k y)
      rw [← HYS.out] at HO3
      have HB3 := Lib.hid (HB2.out.setCell (p := ⟨g, k, none⟩) HO2.out.lt.1 (.int .u8 y))
      have HR3 := Lib.hid (HR1.out.below HB3.out)
      have HR4 := Lib.hid (HO3.out.row8 HW.out)
      clear hd hd0
      go_simp
      go_wp2_with (fail)
      clear hc2 hf2 hx
      generalize hq : World.setCell w2 _ _ = w3 at *
      have HQ := Lib.hid hq
      clear hq
      refine (sum_any _ _ _ _ _ HR3.out).mono ?_
      rintro e w' ⟨rfl, rfl⟩
      go_wp2_with (fail)
      refine (sum_any _ _ _ _ _ HR4.out).mono ?_
      rintro e w' ⟨rfl, rfl⟩
      go_wp2
      go_ret
      exact ⟨ret_bool HE.out, HB.out.trans (HB3.out.mono HB.out.size)⟩

/-! ### THE ROW's STEP: WRITTEN OUT: LEAVE IT -/
set_option maxRecDepth 100000 in
theorem lifted (os : Os) (started : os.Started) (H : Type) (enc : TypeId × Value → H) :
    ReturnsInHanded {} Try.checked os 5 .any (Rows.crcOwnSpec.pre6 enc Try.prog Try.f5 Rows.crcOwnRow.domain false) (Rows.crcOwnSpec.post enc Try.prog Try.f5 false true false false) := by
  refine returnsInHanded_of_change (C := Try.checked) own started (by kernel_rfl) Try.func5
    (ChangeSpec.witness6 (enc := enc) (C := Try.checked) false ⟨#[], #[.slice none 0 0, .int .i64 0, .int .u8 0], []⟩ 8 (by kernel_rfl) (by kernel_rfl) (by kernel_rfl) (by kernel_rfl)) ?_
  intro W base args ds gs before hval0 hW hcnd _
  have hval : ∀ (j : Nat) t v, Try.f5.params[j]? = some t → args[j]? = some v → Value.okWide Try.prog W .any base t v := hval0
  have hW' := hW
  obtain ⟨p, q, hA0, hV, rfl, hfz, hnd⟩ := hW
  have hA : DataW.TrodAll enc Try.prog W 0 (fun _ => true) true Try.f5.params.toList args.toList ds p := hA0
  rw [Try.params5] at hA hval
  obtain ⟨v0, vs0, d0, ds0, p0, q0, hargs, rfl, rfl, h0, r0⟩ := trodAll_cons hA
  obtain ⟨v1, vs1, d1, ds1, p1, q1, rfl, rfl, rfl, h1, r1⟩ := trodAll_cons r0
  obtain ⟨v2, vs2, d2, ds2, p2, q2, rfl, rfl, rfl, h2, r2⟩ := trodAll_cons r1
  obtain ⟨rfl, rfl, rfl⟩ := trodAll_nil r2
  obtain rfl : args = #[v0, v1, v2] := by cases args; simp_all
  obtain ⟨rfl, rfl⟩ := trodVars_none hV
  obtain ⟨a0, len0, cap0, rfl⟩ := okWide_slice Try.underlying22 (hval 0 22 v0 rfl rfl)
  have k0 := h0
  have lt0 : ∀ x ∈ p0, x.block < W.heap.size := by obtain ⟨m, hm⟩ := k0; exact DataW.trod_lt m _ _ _ hm
  obtain ⟨z0, w0⟩ : ∃ zs, IsRow .u8 W a0 len0 cap0 zs := by
    obtain ⟨fuel, hf⟩ := h0
    rcases open_ints Try.underlying22 Try.underlying5 (by kernel_rfl) hf with ⟨hcs, _⟩ | ⟨x, l, c, zs, hcs, _, hl, hm, hz, _, hcell, hwz⟩
    · simp [Value.cells] at hcs
      obtain ⟨rfl, rfl, rfl⟩ := hcs
      exact ⟨[], .inl ⟨rfl, rfl, rfl, rfl⟩⟩
    · simp [Value.cells] at hcs
      obtain ⟨rfl, rfl, rfl⟩ := hcs
      exact ⟨zs, .inr ⟨_, rfl, hl, hm, by simpa using hz, hcell, hwz⟩⟩
  obtain ⟨a1, rfl, rfl, rfl, w1⟩ := open_int Try.underlying3 (hval 1 3 v1 rfl rfl) h1
  obtain ⟨a2, rfl, rfl, rfl, w2⟩ := open_int Try.underlying5 (hval 2 5 v2 rfl rfl) h2
  clear hA0 hval0
  refine (walk a0 len0 cap0 z0 a1 a2 W w0 w1 w2).mono fun e W' ⟨he, bel⟩ => ?_
  subst he
  exact ⟨_, rfl, _, _, _, [], _, [], hW', trodAll_mk1 (shut_bool Try.underlying4 _), (trodAll_cons_mk (Below.trod laidOut (by kernel_rfl) (of_decide_eq_true (by kernel_rfl)) k0 bel lt0) (trodAll_cons_mk (shut_int Try.underlying3 w1) (trodAll_cons_mk (shut_int Try.underlying5 w2) trodAll_mk0))), rfl, bel.frame _, fun h => by cases h⟩

theorem over : Rows.crcOwnRow.holds Try.pinned (OpenSpec.ofChange Rows.crcOwnSpec) :=
  OpenClaim.holds_of_wide 5 Try.f5 rfl rfl rfl rfl rfl rfl rfl ⟨rfl, rfl, rfl, rfl, rfl⟩ rfl rfl rfl rfl rfl (by kernel_rfl) Try.func5 (by kernel_rfl)
    (of_decide_eq_true (by kernel_rfl)) (by unfold Func.isWrapper; first | (rw [if_pos (by decide +kernel)]; kernel_rfl) | (rw [if_neg (by decide +kernel)]; exact ⟨rfl, rfl⟩))
    (fun os started H enc _ => lifted os started H enc)

/-- ████ THE STATEMENT ████ -/
theorem proved : Rows.CrcOwnSaid := over
#print axioms proved
end Go.Proofs.Ytbgaidcpljfkjaa.crcOwn
