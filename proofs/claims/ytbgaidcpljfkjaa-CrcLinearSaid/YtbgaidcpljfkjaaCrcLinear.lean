/-
  muezzin/muezzinlaw2.CrcLinear returns true, for all arguments; no condition.
-/
import Derived.Test.YtbgaidcpljfkjaaCrcF
import Derived.Test.YtbgaidcpljfkjaaRow
import Derived.StillTailTactics
import Derived.Deep.RegionHeld3
import Derived.WalkKit
import Derived.ProofKit
import Derived.OpenShut
import Derived.ShutString
import Derived.ChangeOld
import Derived.Below
namespace Go.Proofs.Ytbgaidcpljfkjaa.crcLinear
open Go.ChangeShapes Go.WideShapes Go.ChangeAt Go.RowKit
open Go.ChangeMaps (open_string shut_string)
set_option linter.unusedVariables false

theorem own : ownKnob Try.prog.godebug = none := by kernel_rfl
theorem laidOut : laidOutB Try.prog = true := by kernel_rfl

/-! ### STEP 1: THE WALK: the Go text returns true, AND WRITES NOTHING THAT WAS THERE: 'Below w.heap.size w w'' (Derived/Below.lean: '.refl', '.alloc', '.drew', '.setCell' at a new block, '.trans'). Open each 'IsRow' by 'rcases' AHEAD of 'go_enter'; part every test ahead of the walk. -/
/-- the lists taken apart, up to k. -/
def ds (a b c : List Int) (k : Nat) : List Int := (List.range k).map fun i => xr (xr (a.getD i 0) (b.getD i 0)) (c.getD i 0)
theorem ds_succ (a b c : List Int) (k : Nat) : ds a b c (k + 1) = ds a b c k ++ [xr (xr (a.getD k 0) (b.getD k 0)) (c.getD k 0)] := by simp [ds, List.range_succ]
theorem ds_len (a b c : List Int) (k : Nat) : (ds a b c k).length = k := by simp [ds]
theorem ds_get (a b c : List Int) (k i : Nat) (h : i < k) : (ds a b c k).getD i 0 = xr (xr (a.getD i 0) (b.getD i 0)) (c.getD i 0) := by simp [ds, List.getD, h]
theorem getD_take {xs : List Int} {n i : Nat} (h : i < n) : (xs.take n).getD i 0 = xs.getD i 0 := by simp [List.getD, h]
theorem owns_row {w : World} {base : Nat} {T : TypeId} {v : Value} {n : Nat} {xs : List Int} (h : w.ownsRow base T 1 v n (xs.map (Value.int .u8))) (hw : ∀ i, i < n → 0 ≤ xs.getD i 0 ∧ xs.getD i 0 ≤ 255) : ∃ A cap, v = .slice A n cap ∧ RowB .u8 w A n xs := by
  have h' := h
  rcases h'.2 with ⟨rfl, rfl⟩ | ⟨g, cap, cur, rfl, _⟩
  · have : xs = [] := by have := h.1; simp at this; exact this
    subst this
    exact ⟨none, 0, rfl, RowB.nil⟩
  · exact ⟨_, cap, rfl, OwnB.row8 (show OwnB w base T .u8 g n cap xs from h) hw⟩

set_option maxRecDepth 100000 in
set_option maxHeartbeats 8000000 in
theorem walk (a0 : Option Addr) (len0 cap0 : Nat) (z0 : List Int) (a1 : Option Addr) (len1 cap1 : Nat) (z1 : List Int) (a2 : Option Addr) (len2 cap2 : Nat) (z2 : List Int) (w : World) (w0 : IsRow .u8 w a0 len0 cap0 z0) (w1 : IsRow .u8 w a1 len1 cap1 z1) (w2 : IsRow .u8 w a2 len2 cap2 z2) :
    Calls Try.prog 6 #[.slice a0 len0 cap0, .slice a1 len1 cap1, .slice a2 len2 cap2] w fun e w' => e = .returned (.bool true) ∧ Below w.heap.size w w' := by
  have hle0 := w0.len_le
  have hlc0 := w0.len_cap.1
  have hle1 := w1.len_le
  have hlc1 := w1.len_cap.1
  have hle2 := w2.len_le
  have hlc2 := w2.len_cap.1
  unfold maxLen at hle0 hle1 hle2
  have HA := Lib.hid (RowB.of_row w0)
  have HB := Lib.hid (RowB.of_row w1)
  have HC := Lib.hid (RowB.of_row w2)
  clear w0 w1 w2
  generalize z0.take len0 = xa at HA
  generalize z1.take len1 = xb at HB
  generalize z2.take len2 = xc at HC
  obtain ⟨i0, hi0, hz0, hz1, hz2⟩ := info_parts byte_info
  rcases (show (len1 ≤ len2 ∧ len0 ≤ len1) ∨ (len1 ≤ len2 ∧ len1 < len0) ∨ (len2 < len1 ∧ len0 ≤ len2) ∨ (len2 < len1 ∧ len2 < len0) by omega) with ⟨h1, h2⟩ | ⟨h1, h2⟩ | ⟨h1, h2⟩ | ⟨h1, h2⟩
  case' inl => obtain ⟨n, hn⟩ : ∃ n, n = len0 := ⟨_, rfl⟩
  case' inr.inl => obtain ⟨n, hn⟩ : ∃ n, n = len1 := ⟨_, rfl⟩
  case' inr.inr.inl => obtain ⟨n, hn⟩ : ∃ n, n = len0 := ⟨_, rfl⟩
  case' inr.inr.inr => obtain ⟨n, hn⟩ : ∃ n, n = len2 := ⟨_, rfl⟩
  all_goals
    subst hn
    by_cases h20 : 20 < n
    · have hd : decide ((20 : Int) < (n : Int)) = true := by simp; omega
      go_enter Try.func6, Try.ntmps6
      go_wp2_with (go_at_call 7; refine (first_any _).mono ?_; rintro e w1 ⟨rfl, hB⟩)
      go_ret
      exact ⟨rfl, hB⟩
    · have hd : decide ((20 : Int) < (n : Int)) = false := by simp; omega
      have HA1 := Lib.hid (HA.out.first n (by omega))
      have HB1 := Lib.hid (HB.out.first n (by omega))
      have HC1 := Lib.hid (HC.out.first n (by omega))
      clear HA HB HC
      generalize xa.take n = ya at HA1
      generalize xb.take n = yb at HB1
      generalize xc.take n = yc at HC1
      go_enter Try.func6, Try.ntmps6
      go_wp2_with (go_at_call 7; refine (first_any _).mono ?_; rintro e w1 ⟨rfl, hB⟩)
      have HBel := Lib.hid hB
      have HA2 := Lib.hid (HA1.out.below hB)
      have HB2 := Lib.hid (HB1.out.below hB)
      have HC2 := Lib.hid (HC1.out.below hB)
      clear hB HA1 HB1 HC1
      go_loopw [9, 10] (fun v i wr => ∃ k : Nat, k ≤ n ∧ i = .int .i64 k ∧ wr.ownsRow w1.heap.size 5 1 v k ((ds ya yb yc k).map (Value.int .u8)) ∧ Below w1.heap.size w1 wr) (fun _ i _ => n - (intOf i).toNat)
      case atStart => exact ⟨0, by omega, rfl, World.ownsRow_nil _ _ _ _, Below.refl _ _⟩
      case round =>
        obtain ⟨k, hk, rfl, hown, hbel⟩ := hrel
        have HO := Lib.hid hown
        have HW := Lib.hid hbel
        clear hown hbel
        by_cases hlt : k < n
        · obtain ⟨ba, oa, ea, ca'⟩ := HA2.out.el k hlt
          obtain ⟨bb, ob, eb, cb'⟩ := HB2.out.el k hlt
          obtain ⟨bc, oc, ec, cc'⟩ := HC2.out.el k hlt
          have HLA := Lib.hid (And.intro (cell_lt' ca') (And.intro (cell_lt' cb') (cell_lt' cc')))
          have ca := (HW.out.cell (cell_lt' ca')).trans ca'
          have cb := (HW.out.cell (cell_lt' cb')).trans cb'
          have cc := (HW.out.cell (cell_lt' cc')).trans cc'
          clear ca' cb' cc'
          subst ea eb ec
          have ra := HA2.out.wf8 k hlt
          have rb := HB2.out.wf8 k hlt
          have rc := HC2.out.wf8 k hlt
          have HS := Lib.hid (ds_succ ya yb yc k)
          have x1 := xor_u8 _ _ ra rb
          have x2 := xor_u8 _ _ (xr_range _ _ ra rb) rc
          have hk0 : 0 ≤ (k : Int) := by omega
          try have hka : (k : Int) < len0 := by omega
          try have hkb : (k : Int) < len1 := by omega
          try have hkc : (k : Int) < len2 := by omega
          have hkn : (k : Int) < n := by omega
          generalize ya.getD k 0 = va at *
          generalize yb.getD k 0 = vb at *
          generalize yc.getD k 0 = vc at *
          clear ra rb rc
          go_wp2_with (fail)
          have lta : ba < wr.heap.size := cell_lt' ca
          have ltb : bb < wr.heap.size := cell_lt' cb
          have ltc : bc < wr.heap.size := cell_lt' cc
          have lba : ba < w1.heap.size := HLA.out.1
          have lbb : bb < w1.heap.size := HLA.out.2.1
          have lbc : bc < w1.heap.size := HLA.out.2.2
          have ak : u9.ownBlock ≠ some ba := fun h => by have := (World.ownsRow.lt HO.out ba h); omega
          have bk : u9.ownBlock ≠ some bb := fun h => by have := (World.ownsRow.lt HO.out bb h); omega
          have ck : u9.ownBlock ≠ some bc := fun h => by have := (World.ownsRow.lt HO.out bc h); omega
          go_region_held3 (fun w' => w'.cell? ⟨ba, oa + k, none⟩ = some (.int .u8 va) ∧ w'.cell? ⟨bb, ob + k, none⟩ = some (.int .u8 vb) ∧ w'.cell? ⟨bc, oc + k, none⟩ = some (.int .u8 vc))
            (first
              | go_keep
              | (go_split_ands
                 refine ⟨?_, ?_, ?_⟩
                 · (rw [hgrow.cell_far _ (by simp; omega) (Ne.symm ak)]; assumption)
                 · (rw [hgrow.cell_far _ (by simp; omega) (Ne.symm bk)]; assumption)
                 · (rw [hgrow.cell_far _ (by simp; omega) (Ne.symm ck)]; assumption)))
            ((refine step_append_lies _ (by rfl) _ _ _ (by rfl) w1.heap.size 5 i0 _ 1 1 Try.underlying22 hi0 hz0 hz1 hz2 rfl (by omega) u9 k _ (by rfl) ((HO.out.alloc _).drew)
                ⟨wr.heap.size, 0, none⟩ 1 1 [.int .u8 (xr (xr va vb) vc)] (by rfl) (by rfl) (World.news_of_block (cs := #[.int .u8 (xr (xr va vb) vc)]) (t := 5) (fr := (0, 0)) (heap_alloc_new wr _)) (by simp [Value.oneCell'])
                (by omega) (by unfold maxLen; omega) (by omega) (by have := HW.out.size; simp; omega) (wr.heap.size + 1) (by simp) ?_; intro gg cap w2 hown1 hgrow hat hlt2))
          have HO2 := Lib.hid (show w2.ownsRow w1.heap.size 5 1 (.slice (some ⟨gg, 0, none⟩) (k + 1) cap) (k + 1) ((ds ya yb yc (k + 1)).map (Value.int .u8)) by rw [HS.out, List.map_append]; exact hown1)
          have HW2 := Lib.hid (show Below w1.heap.size w1 w2 from (HW.out.alloc HW.out.size _).drew.grown hgrow (by have := HW.out.size; simp; omega) (by intro q hq; exact (World.ownsRow.lt HO.out q hq).1))
          clear hown1 hgrow hat hlt2 ca cb cc
          go_wp2
          go_roundw
          case rel => exact ⟨k + 1, by omega, by go_num, HO2.out, HW2.out⟩
          case measure => simp [intOf]; omega
        · have hk' : k = n := by omega
          subst hk'
          have ra := HA2.out.wf8
          have rb := HB2.out.wf8
          have rc := HC2.out.wf8
          obtain ⟨A, cp, rfl, hD⟩ := owns_row HO.out (fun i hi => by rw [ds_get _ _ _ _ _ hi]; exact xr_range _ _ (xr_range _ _ (ra i hi) (rb i hi)) (rc i hi))
          have hA := HA2.out.below HW.out
          have hB := HB2.out.below HW.out
          have hC := HC2.out.below HW.out
          have sa := sum_range ya
          have sb := sum_range yb
          have sc := sum_range yc
          have sd := sum_range (ds ya yb yc k)
          have x1 := xor_u8 _ _ sa sb
          have x2 := xor_u8 _ _ (xr_range _ _ sa sb) sc
          have x3 := xor_u8 _ _ (xr_range _ _ (xr_range _ _ sa sb) sc) sd
          have HZ := Lib.hid (sum_lin ya yb yc (ds ya yb yc k) k HA2.out.len HB2.out.len HC2.out.len (ds_len _ _ _ _) (fun i hi => ds_get _ _ _ _ _ hi))
          have hd2 : ((xr (xr (xr (sum ya) (sum yb)) (sum yc)) (sum (ds ya yb yc k))) == 0) = true := by rw [HZ.out]; rfl
          clear ra rb rc sa sb sc sd
          go_wp2_with (fail)
          go_quiet ((go_at_call 9; exact quiet_left (sum_any _ _ _ _ _ (RowB.drewN (by assumption) _))))
          go_wp2
          go_ret
          exact ⟨rfl, below_drewN (HBel.out.trans (HW.out.mono HBel.out.size)) _⟩

/-! ### THE ROW's STEP: WRITTEN OUT: LEAVE IT -/
set_option maxRecDepth 100000 in
theorem lifted (os : Os) (started : os.Started) (H : Type) (enc : TypeId × Value → H) :
    ReturnsInHanded {} Try.checked os 6 .any (Rows.crcLinearSpec.pre6 enc Try.prog Try.f6 Rows.crcLinearRow.domain false) (Rows.crcLinearSpec.post enc Try.prog Try.f6 false true false false) := by
  refine returnsInHanded_of_change (C := Try.checked) own started (by kernel_rfl) Try.func6
    (ChangeSpec.witness6 (enc := enc) (C := Try.checked) false ⟨#[], #[.slice none 0 0, .slice none 0 0, .slice none 0 0], []⟩ 8 (by kernel_rfl) (by kernel_rfl) (by kernel_rfl) (by kernel_rfl)) ?_
  intro W base args ds gs before hval0 hW hcnd _
  have hval : ∀ (j : Nat) t v, Try.f6.params[j]? = some t → args[j]? = some v → Value.okWide Try.prog W .any base t v := hval0
  have hW' := hW
  obtain ⟨p, q, hA0, hV, rfl, hfz, hnd⟩ := hW
  have hA : DataW.TrodAll enc Try.prog W 0 (fun _ => true) true Try.f6.params.toList args.toList ds p := hA0
  rw [Try.params6] at hA hval
  obtain ⟨v0, vs0, d0, ds0, p0, q0, hargs, rfl, rfl, h0, r0⟩ := trodAll_cons hA
  obtain ⟨v1, vs1, d1, ds1, p1, q1, rfl, rfl, rfl, h1, r1⟩ := trodAll_cons r0
  obtain ⟨v2, vs2, d2, ds2, p2, q2, rfl, rfl, rfl, h2, r2⟩ := trodAll_cons r1
  obtain ⟨rfl, rfl, rfl⟩ := trodAll_nil r2
  obtain rfl : args = #[v0, v1, v2] := by cases args; simp_all
  obtain ⟨rfl, rfl⟩ := trodVars_none hV
  obtain ⟨a0, len0, cap0, rfl⟩ := okWide_slice Try.underlying22 (hval 0 22 v0 rfl rfl)
  have k0 := h0
  have lt0 : ∀ x ∈ p0, x.block < W.heap.size := by obtain ⟨m, hm⟩ := k0; exact DataW.trod_lt m _ _ _ hm
  obtain ⟨z0, w0⟩ : ∃ zs, IsRow .u8 W a0 len0 cap0 zs := by
    obtain ⟨fuel, hf⟩ := h0
    rcases open_ints Try.underlying22 Try.underlying5 (by kernel_rfl) hf with ⟨hcs, _⟩ | ⟨x, l, c, zs, hcs, _, hl, hm, hz, _, hcell, hwz⟩
    · simp [Value.cells] at hcs
      obtain ⟨rfl, rfl, rfl⟩ := hcs
      exact ⟨[], .inl ⟨rfl, rfl, rfl, rfl⟩⟩
    · simp [Value.cells] at hcs
      obtain ⟨rfl, rfl, rfl⟩ := hcs
      exact ⟨zs, .inr ⟨_, rfl, hl, hm, by simpa using hz, hcell, hwz⟩⟩
  obtain ⟨a1, len1, cap1, rfl⟩ := okWide_slice Try.underlying22 (hval 1 22 v1 rfl rfl)
  have k1 := h1
  have lt1 : ∀ x ∈ p1, x.block < W.heap.size := by obtain ⟨m, hm⟩ := k1; exact DataW.trod_lt m _ _ _ hm
  obtain ⟨z1, w1⟩ : ∃ zs, IsRow .u8 W a1 len1 cap1 zs := by
    obtain ⟨fuel, hf⟩ := h1
    rcases open_ints Try.underlying22 Try.underlying5 (by kernel_rfl) hf with ⟨hcs, _⟩ | ⟨x, l, c, zs, hcs, _, hl, hm, hz, _, hcell, hwz⟩
    · simp [Value.cells] at hcs
      obtain ⟨rfl, rfl, rfl⟩ := hcs
      exact ⟨[], .inl ⟨rfl, rfl, rfl, rfl⟩⟩
    · simp [Value.cells] at hcs
      obtain ⟨rfl, rfl, rfl⟩ := hcs
      exact ⟨zs, .inr ⟨_, rfl, hl, hm, by simpa using hz, hcell, hwz⟩⟩
  obtain ⟨a2, len2, cap2, rfl⟩ := okWide_slice Try.underlying22 (hval 2 22 v2 rfl rfl)
  have k2 := h2
  have lt2 : ∀ x ∈ p2, x.block < W.heap.size := by obtain ⟨m, hm⟩ := k2; exact DataW.trod_lt m _ _ _ hm
  obtain ⟨z2, w2⟩ : ∃ zs, IsRow .u8 W a2 len2 cap2 zs := by
    obtain ⟨fuel, hf⟩ := h2
    rcases open_ints Try.underlying22 Try.underlying5 (by kernel_rfl) hf with ⟨hcs, _⟩ | ⟨x, l, c, zs, hcs, _, hl, hm, hz, _, hcell, hwz⟩
    · simp [Value.cells] at hcs
      obtain ⟨rfl, rfl, rfl⟩ := hcs
      exact ⟨[], .inl ⟨rfl, rfl, rfl, rfl⟩⟩
    · simp [Value.cells] at hcs
      obtain ⟨rfl, rfl, rfl⟩ := hcs
      exact ⟨zs, .inr ⟨_, rfl, hl, hm, by simpa using hz, hcell, hwz⟩⟩
  clear hA0 hval0
  refine (walk a0 len0 cap0 z0 a1 len1 cap1 z1 a2 len2 cap2 z2 W w0 w1 w2).mono fun e W' ⟨he, bel⟩ => ?_
  subst he
  exact ⟨_, rfl, _, _, _, [], _, [], hW', trodAll_mk1 (shut_bool Try.underlying4 _), (trodAll_cons_mk (Below.trod laidOut (by kernel_rfl) (of_decide_eq_true (by kernel_rfl)) k0 bel lt0) (trodAll_cons_mk (Below.trod laidOut (by kernel_rfl) (of_decide_eq_true (by kernel_rfl)) k1 bel lt1) (trodAll_cons_mk (Below.trod laidOut (by kernel_rfl) (of_decide_eq_true (by kernel_rfl)) k2 bel lt2) trodAll_mk0))), rfl, bel.frame _, fun h => by cases h⟩

theorem over : Rows.crcLinearRow.holds Try.pinned (OpenSpec.ofChange Rows.crcLinearSpec) :=
  OpenClaim.holds_of_wide 6 Try.f6 rfl rfl rfl rfl rfl rfl rfl ⟨rfl, rfl, rfl, rfl, rfl⟩ rfl rfl rfl rfl rfl (by kernel_rfl) Try.func6 (by kernel_rfl)
    (of_decide_eq_true (by kernel_rfl)) (by unfold Func.isWrapper; first | (rw [if_pos (by decide +kernel)]; kernel_rfl) | (rw [if_neg (by decide +kernel)]; exact ⟨rfl, rfl⟩))
    (fun os started H enc _ => lifted os started H enc)

/-- ████ THE STATEMENT ████ -/
theorem proved : Rows.CrcLinearSaid := over
#print axioms proved
end Go.Proofs.Ytbgaidcpljfkjaa.crcLinear
