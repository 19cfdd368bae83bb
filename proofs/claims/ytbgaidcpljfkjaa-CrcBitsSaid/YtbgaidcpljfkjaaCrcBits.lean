/-
  muezzin/muezzinlaw2.CrcBits returns true, for all arguments; no condition.
-/
import Derived.Test.YtbgaidcpljfkjaaCrcF
import Derived.Test.YtbgaidcpljfkjaaRow
import Derived.WalkKit
import Derived.ProofKit
import Derived.OpenShut
import Derived.ShutString
import Derived.ChangeOld
import Derived.Below
namespace Go.Proofs.Ytbgaidcpljfkjaa.crcBits
open Go.ChangeShapes Go.WideShapes Go.ChangeAt Go.RowKit
open Go.ChangeMaps (open_string shut_string)
set_option linter.unusedVariables false

theorem own : ownKnob Try.prog.godebug = none := by kernel_rfl
theorem laidOut : laidOutB Try.prog = true := by kernel_rfl

/-! ### STEP 1: THE WALK: the Go text returns true, AND WRITES NOTHING THAT WAS THERE: 'Below w.heap.size w w'' (Derived/Below.lean: '.refl', '.alloc', '.drew', '.setCell' at a new block, '.trans'). Open each 'IsRow' by 'rcases' AHEAD of 'go_enter'; part every test ahead of the walk. -/
set_option maxRecDepth 100000 in
set_option maxHeartbeats 8000000 in
theorem walk (a0 : Option Addr) (len0 cap0 : Nat) (z0 : List Int) (a1 : Int) (a2 : Int) (w : World) (w0 : IsRow .u8 w a0 len0 cap0 z0) (w1 : (Lit.int .i64 a1).wf = true) (w2 : (Lit.int .i64 a2).wf = true) :
    Calls Try.prog 4 #[.slice a0 len0 cap0, .int .i64 a1, .int .i64 a2] w fun e w' => e = .returned (.bool true) ∧ Below w.heap.size w w' := by
  have hle := w0.len_le
  have hlc := w0.len_cap.1
  unfold maxLen at hle
  have HR := Lib.hid (RowB.of_row w0)
  clear w0
  generalize z0.take len0 = xs at HR
  by_cases h14 : 14 < len0
  · have hd : decide ((14 : Int) < (len0 : Int)) = true := by simp; omega
    go_enter Try.func4, Try.ntmps4
    go_wp2_with (go_at_call 7; refine (first_any _).mono ?_; rintro e w1 ⟨rfl, hB⟩)
    go_ret
    exact ⟨rfl, hB⟩
  · have hd : decide ((14 : Int) < (len0 : Int)) = false := by simp; omega
    have HN1 := Lib.hid (fun w => number_any a1 (8 * ((len0 : Int) + 1)) w w1 (by omega) (by omega))
    have HN2 := Lib.hid (fun w => number_any a2 (8 * ((len0 : Int) + 1)) w w2 (by omega) (by omega))
    have n0 := nmod_lo a1 (8 * ((len0 : Int) + 1)) (by omega)
    have n1 := nmod_hi a1 (8 * ((len0 : Int) + 1)) (by omega)
    have m0 := nmod_lo a2 (8 * ((len0 : Int) + 1)) (by omega)
    have m1 := nmod_hi a2 (8 * ((len0 : Int) + 1)) (by omega)
    obtain ⟨i, hi⟩ := Int.eq_ofNat_of_zero_le n0
    obtain ⟨k, hk⟩ := Int.eq_ofNat_of_zero_le m0
    rw [hi] at n0 n1 HN1
    rw [hk] at m0 m1 HN2
    have HI := Lib.hid hi
    have HK := Lib.hid hk
    clear hi hk
    have HL := Lib.hid HR.out.len
    have HW0 := Lib.hid (seal_wf HL.out HR.out.wf8)
    have HLS := Lib.hid (show (xs ++ [sum xs]).length = len0 + 1 by simp [HL.out])
    have HF0 := Lib.hid (fitsB_seal xs)
    obtain ⟨S, hS⟩ : ∃ S, S = xs ++ [sum xs] := ⟨_, rfl⟩
    rw [← hS] at HW0 HLS HF0
    have HS := Lib.hid hS
    clear hS
    have HF1 := Lib.hid (fitsB_one S len0 i HLS.out (by omega) HW0.out HF0.out (by omega))
    have HF2 := Lib.hid (fitsB_two S len0 i k HLS.out (by omega) HW0.out HF0.out (by omega) (by omega))
    have HW1 := Lib.hid (flip_range S i (len0 + 1) HLS.out (by omega) HW0.out)
    have HW2 := Lib.hid (flip_range (flip S i) k (len0 + 1) (by rw [flip_length]; exact HLS.out) (by omega) HW1.out)
    go_enter Try.func4, Try.ntmps4
    go_wp2_with (go_at_call 7; refine (first_any _).mono ?_; rintro e w1 ⟨rfl, hB⟩)
    have HB := Lib.hid hB
    have HR1 := Lib.hid (HR.out.below hB)
    clear hB
    refine (seal_any _ _ _ _ _ HR1.out (by omega)).mono ?_
    rintro e w2 ⟨rfl, hO, hb⟩
    rw [← HS.out] at hO
    have HO2 := Lib.hid hO
    have HB2 := Lib.hid (HB.out.trans (hb.mono HB.out.size))
    have HR2 := Lib.hid (hO.row8 HW0.out)
    clear hO hb
    go_wp2_with (fail)
    refine (HN1.out _).mono ?_
    rintro e w' ⟨rfl, rfl⟩
    go_wp2_with (fail)
    refine (HN2.out _).mono ?_
    rintro e w' ⟨rfl, rfl⟩
    go_wp2_with (fail)
    refine (bytes_any _ _ _ _ _ HR2.out (by omega)).mono ?_
    rintro e w3 ⟨g, cap, rfl, hO, hb⟩
    have HO3 := Lib.hid hO
    have HB3 := Lib.hid (HB2.out.trans (hb.mono HB2.out.size))
    have HP3 := Lib.hid (HO2.out.below hb HO2.out.lt.2)
    clear hO hb
    have hc := HO3.out.cell (i / 8) (by omega)
    have hf := HO3.out.frozen (i / 8)
    have hr := HW0.out (i / 8) (by omega)
    have hx := turn_byte (S.getD (i / 8) 0) (i % 8) hr (by omega)
    have HS4 := Lib.hid (HO3.out.set (i / 8) (xr (S.getD (i / 8) 0) (2 ^ (i % 8))))
    rw [show S.set (i / 8) (xr (S.getD (i / 8) 0) (2 ^ (i % 8))) = flip S i from rfl] at HS4
    obtain ⟨q, hq⟩ : ∃ q, q = i / 8 := ⟨_, rfl⟩
    obtain ⟨m, hm⟩ : ∃ m, m = i % 8 := ⟨_, rfl⟩
    have hq1 : (q : Int) < (len0 : Int) + 1 := by omega
    have hm1 : m < 8 := by omega
    have hiq : (i : Int) / 8 = (q : Int) := by omega
    have him : (i : Int) % 8 = (m : Int) := by omega
    rw [← hq, ← hm] at hx HS4
    rw [← hq] at hc hf hr
    clear hq hm
    generalize hxe : S.getD q 0 = x at *
    have HXE := Lib.hid hxe
    clear hxe
    obtain ⟨hr0, hr1⟩ := hr
    go_wp2_with (fail)
    have HB4 := Lib.hid (HB3.out.setCell (p := ⟨g, q, none⟩) (by have := HO3.out.lt; have := HB2.out.size; simp; omega) (.int .u8 (xr x (2 ^ m))))
    have HP4 := Lib.hid (show OwnB (w3.setCell ⟨g, q, none⟩ (.int .u8 (xr x (2 ^ m)))) w1.heap.size 5 .u8 w1.heap.size (len0 + 1) (len0 + 1) S from HP3.out.below ((Below.refl w2.heap.size w3).setCell (p := ⟨g, q, none⟩) HO3.out.lt.1 _) HO2.out.lt.2)
    generalize hq : World.setCell w3 _ _ = w4 at *
    clear hq hc hf hx hiq him hr0 hr1 hq1 hm1
    refine (fits_any _ _ _ _ _ (HS4.out.row8 HW1.out) HS4.out.cap_le).mono ?_
    rintro e w5 ⟨rfl, m1, rfl⟩
    rw [HF1.out]
    have HS5 := Lib.hid (HS4.out.drewN m1)
    have HP5 := Lib.hid (HP4.out.drewN m1)
    have HB5 := Lib.hid (below_drewN HB4.out m1)
    generalize hq : World.drewN w4 _ = w5 at *
    clear hq HS4 HP4 HB4
    have hc := HS5.out.cell (k / 8) (by omega)
    have hf := HS5.out.frozen (k / 8)
    have hr := HW1.out (k / 8) (by omega)
    have hx := turn_byte ((flip S i).getD (k / 8) 0) (k % 8) hr (by omega)
    have HS6 := Lib.hid (HS5.out.set (k / 8) (xr ((flip S i).getD (k / 8) 0) (2 ^ (k % 8))))
    rw [show (flip S i).set (k / 8) (xr ((flip S i).getD (k / 8) 0) (2 ^ (k % 8))) = flip (flip S i) k from rfl] at HS6
    obtain ⟨q2, hq⟩ : ∃ q, q = k / 8 := ⟨_, rfl⟩
    obtain ⟨m2, hm⟩ : ∃ m, m = k % 8 := ⟨_, rfl⟩
    have hq1 : (q2 : Int) < (len0 : Int) + 1 := by omega
    have hm1 : m2 < 8 := by omega
    have hiq : (k : Int) / 8 = (q2 : Int) := by omega
    have him : (k : Int) % 8 = (m2 : Int) := by omega
    rw [← hq, ← hm] at hx HS6
    rw [← hq] at hc hf hr
    clear hq hm
    generalize hxe : (flip S i).getD q2 0 = x2 at *
    have HXE2 := Lib.hid hxe
    clear hxe
    obtain ⟨hr0, hr1⟩ := hr
    go_wp2_with (fail)
    have HB6 := Lib.hid (HB5.out.setCell (p := ⟨g, q2, none⟩) (by have := HO3.out.lt; have := HB2.out.size; simp; omega) (.int .u8 (xr x2 (2 ^ m2))))
    have HP6 := Lib.hid (show OwnB (w5.setCell ⟨g, q2, none⟩ (.int .u8 (xr x2 (2 ^ m2)))) w1.heap.size 5 .u8 w1.heap.size (len0 + 1) (len0 + 1) S from HP5.out.below ((Below.refl w2.heap.size w5).setCell (p := ⟨g, q2, none⟩) HO3.out.lt.1 _) HO2.out.lt.2)
    generalize hq : World.setCell w5 _ _ = w6 at *
    clear hq hc hf hx hiq him hr0 hr1 hq1 hm1
    refine (fits_any _ _ _ _ _ (HS6.out.row8 HW2.out) HS6.out.cap_le).mono ?_
    rintro e w7 ⟨rfl, m3, rfl⟩
    rw [HF2.out]
    have HP7 := Lib.hid (HP6.out.drewN m3)
    have HB7 := Lib.hid (below_drewN HB6.out m3)
    generalize hq : World.drewN w6 _ = w7 at *
    clear hq HS6 HP6 HB6
    go_wp2_with (fail)
    refine (fits_any _ _ _ _ _ (HP7.out.row8 HW0.out) (Nat.le_refl _)).mono ?_
    rintro e w8 ⟨rfl, m4, rfl⟩
    rw [HF0.out]
    have HB8 := Lib.hid (below_drewN HB7.out m4)
    go_wp2
    go_ret
    exact ⟨ret_bool (by
      by_cases h : i = k
      · simp [h]
      · have h2 : ¬ (i : Int) = (k : Int) := by omega
        simp [h, h2]), HB8.out⟩

/-! ### THE ROW's STEP: WRITTEN OUT: LEAVE IT -/
set_option maxRecDepth 100000 in
theorem lifted (os : Os) (started : os.Started) (H : Type) (enc : TypeId × Value → H) :
    ReturnsInHanded {} Try.checked os 4 .any (Rows.crcBitsSpec.pre6 enc Try.prog Try.f4 Rows.crcBitsRow.domain false) (Rows.crcBitsSpec.post enc Try.prog Try.f4 false true false false) := by
  refine returnsInHanded_of_change (C := Try.checked) own started (by kernel_rfl) Try.func4
    (ChangeSpec.witness6 (enc := enc) (C := Try.checked) false ⟨#[], #[.slice none 0 0, .int .i64 0, .int .i64 0], []⟩ 8 (by kernel_rfl) (by kernel_rfl) (by kernel_rfl) (by kernel_rfl)) ?_
  intro W base args ds gs before hval0 hW hcnd _
  have hval : ∀ (j : Nat) t v, Try.f4.params[j]? = some t → args[j]? = some v → Value.okWide Try.prog W .any base t v := hval0
  have hW' := hW
  obtain ⟨p, q, hA0, hV, rfl, hfz, hnd⟩ := hW
  have hA : DataW.TrodAll enc Try.prog W 0 (fun _ => true) true Try.f4.params.toList args.toList ds p := hA0
  rw [Try.params4] at hA hval
  obtain ⟨v0, vs0, d0, ds0, p0, q0, hargs, rfl, rfl, h0, r0⟩ := trodAll_cons hA
  obtain ⟨v1, vs1, d1, ds1, p1, q1, rfl, rfl, rfl, h1, r1⟩ := trodAll_cons r0
  obtain ⟨v2, vs2, d2, ds2, p2, q2, rfl, rfl, rfl, h2, r2⟩ := trodAll_cons r1
  obtain ⟨rfl, rfl, rfl⟩ := trodAll_nil r2
  obtain rfl : args = #[v0, v1, v2] := by cases args; simp_all
  obtain ⟨rfl, rfl⟩ := trodVars_none hV
  obtain ⟨a0, len0, cap0, rfl⟩ := okWide_slice Try.underlying22 (hval 0 22 v0 rfl rfl)
  have k0 := h0
  have lt0 : ∀ x ∈ p0, x.block < W.heap.size := by obtain ⟨m, hm⟩ := k0; exact DataW.trod_lt m _ _ _ hm
  obtain ⟨z0, w0⟩ : ∃ zs, IsRow .u8 W a0 len0 cap0 zs := by
    obtain ⟨fuel, hf⟩ := h0
    rcases open_ints Try.underlying22 Try.underlying5 (by kernel_rfl) hf with ⟨hcs, _⟩ | ⟨x, l, c, zs, hcs, _, hl, hm, hz, _, hcell, hwz⟩
    · simp [Value.cells] at hcs
      obtain ⟨rfl, rfl, rfl⟩ := hcs
      exact ⟨[], .inl ⟨rfl, rfl, rfl, rfl⟩⟩
    · simp [Value.cells] at hcs
      obtain ⟨rfl, rfl, rfl⟩ := hcs
      exact ⟨zs, .inr ⟨_, rfl, hl, hm, by simpa using hz, hcell, hwz⟩⟩
  obtain ⟨a1, rfl, rfl, rfl, w1⟩ := open_int Try.underlying3 (hval 1 3 v1 rfl rfl) h1
  obtain ⟨a2, rfl, rfl, rfl, w2⟩ := open_int Try.underlying3 (hval 2 3 v2 rfl rfl) h2
  clear hA0 hval0
  refine (walk a0 len0 cap0 z0 a1 a2 W w0 w1 w2).mono fun e W' ⟨he, bel⟩ => ?_
  subst he
  exact ⟨_, rfl, _, _, _, [], _, [], hW', trodAll_mk1 (shut_bool Try.underlying4 _), (trodAll_cons_mk (Below.trod laidOut (by kernel_rfl) (of_decide_eq_true (by kernel_rfl)) k0 bel lt0) (trodAll_cons_mk (shut_int Try.underlying3 w1) (trodAll_cons_mk (shut_int Try.underlying3 w2) trodAll_mk0))), rfl, bel.frame _, fun h => by cases h⟩

theorem over : Rows.crcBitsRow.holds Try.pinned (OpenSpec.ofChange Rows.crcBitsSpec) :=
  OpenClaim.holds_of_wide 4 Try.f4 rfl rfl rfl rfl rfl rfl rfl ⟨rfl, rfl, rfl, rfl, rfl⟩ rfl rfl rfl rfl rfl (by kernel_rfl) Try.func4 (by kernel_rfl)
    (of_decide_eq_true (by kernel_rfl)) (by unfold Func.isWrapper; first | (rw [if_pos (by decide +kernel)]; kernel_rfl) | (rw [if_neg (by decide +kernel)]; exact ⟨rfl, rfl⟩))
    (fun os started H enc _ => lifted os started H enc)

/-- ████ THE STATEMENT ████ -/
theorem proved : Rows.CrcBitsSaid := over
#print axioms proved
end Go.Proofs.Ytbgaidcpljfkjaa.crcBits
