/-
  muezzin/muezzinlaw1.SeqSorts returns true, for all arguments; no condition.
-/
import Derived.Test.YtnenjemfplljfaaSeqSort
import Derived.Test.YtnenjemfplljfaaSame
import Derived.WalkKit
import Derived.ProofKit
import Derived.OpenShut
import Derived.ShutString
import Derived.ChangeOld
import Derived.Below
namespace Go.Proofs.Ytnenjemfplljfaa.seqSorts
open Go.ChangeShapes Go.WideShapes Go.ChangeAt Go.RowKit
open Go.ChangeMaps (open_string shut_string)
set_option linter.unusedVariables false

theorem own : ownKnob Try.prog.godebug = none := by kernel_rfl
theorem laidOut : laidOutB Try.prog = true := by kernel_rfl

/-! what the law counts, closed to the walk -/
def Nk (l S : List Int) (v : Int) (k : Nat) : Int := cnt ((l.map rd).take k) v - cnt (S.take k) v
def Sk (l S : List Int) (k : Nat) : Int := rd ((S.take k).sum - ((l.map rd).take k).sum)
theorem Nk_zero (l S : List Int) (v : Int) : Nk l S v 0 = 0 := by simp [Nk, cnt]
theorem Nk_lo (l S : List Int) (v : Int) (k : Nat) (h : k ≤ 40) : -40 ≤ Nk l S v k := by
  unfold Nk
  have h1 := cnt_lo ((l.map rd).take k) v
  have h2 := cnt_hi (S.take k) v
  have : (S.take k).length ≤ k := List.length_take_le _ _
  omega
theorem Nk_hi (l S : List Int) (v : Int) (k : Nat) (h : k ≤ 40) : Nk l S v k ≤ 40 := by
  unfold Nk
  have h1 := cnt_lo (S.take k) v
  have h2 := cnt_hi ((l.map rd).take k) v
  have : ((l.map rd).take k).length ≤ k := List.length_take_le _ _
  omega
theorem Nk_step (l S : List Int) (v : Int) (k : Nat) (hl : k < l.length) (hS : k < S.length) :
    Nk l S v (k + 1) = Nk l S v k + (if rd (l.getD k 0) == v then 1 else 0) - (if S.getD k 0 == v then 1 else 0) := by
  unfold Nk
  rw [cnt_step _ _ _ (by simpa using hl), cnt_step _ _ _ hS, getD_map _ _ _ hl]
  omega
theorem Nk_all (a0 : Int) (l : List Int) (v : Int) (k : Nat) (hk : l.length ≤ k) : Nk l (sortedBy a0 l) v k = 0 := by
  unfold Nk
  rw [List.take_of_length_le (by simpa using hk), List.take_of_length_le (by rw [length_sortedBy]; exact hk), cnt_perm (perm_sortedBy a0 l)]
  omega
theorem Sk_zero (l S : List Int) : Sk l S 0 = 0 := by simp [Sk, rd]
theorem Sk_step (l S : List Int) (k : Nat) (hl : k < l.length) (hS : k < S.length) : rd (Sk l S k + (S.getD k 0 - rd (l.getD k 0))) = Sk l S (k + 1) := by
  unfold Sk
  rw [sum_step _ _ hS, sum_step _ _ (by simpa using hl), getD_map _ _ _ hl]
  generalize (S.take k).sum = p
  generalize ((l.map rd).take k).sum = q
  unfold rd; omega
theorem Sk_all (a0 : Int) (l : List Int) (k : Nat) (hk : l.length ≤ k) : Sk l (sortedBy a0 l) k = 0 := by
  unfold Sk
  rw [List.take_of_length_le (by rw [length_sortedBy]; exact hk), List.take_of_length_le (by simpa using hk), sum_perm (perm_sortedBy a0 l)]
  simp [rd]

theorem quiet_left {P : Program} {f : FuncId} {args : Array Value} {w : World} {n : Nat} {v : Value}
    (h : Calls P f args (w.drewN n) fun e w' => e = .returned v ∧ w.drewN n = w') : Calls P f args (w.drewN n) fun e w'' => e = .returned v ∧ ∃ m, w'' = w.drewN m :=
  h.mono fun _ _ ⟨he, hm⟩ => ⟨he, n, hm.symm⟩

theorem add0_any (a : Int) (w : World) : Calls Try.prog 9 #[.int .i64 a, .int .i64 0] w fun e w' => e = .returned (.int .i64 (rd a)) ∧ w = w' :=
  (add_any a 0 w).mono fun e w' h => by rwa [Int.add_zero] at h

/-- what the law reads in any world behind the first sort. -/
structure Views (w wr : World) (a : Option Addr) (len : Nat) (l S : List Int) : Prop where
  own : Own wr 3 w.heap.size S
  arg : ∀ i, i < len → ∃ b off, a = some ⟨b, off, none⟩ ∧ wr.cell? ⟨b, off + i, none⟩ = some (.int .i64 (l.getD i 0))
  below : Below w.heap.size w wr
theorem Views.drewN {w wr a len l S} (h : Views w wr a len l S) (n : Nat) : Views w (wr.drewN n) a len l S :=
  ⟨h.own, h.arg, ⟨h.below.os, h.below.tape, h.below.output, h.below.size, h.below.block⟩⟩
/-- .. and what it knows of the two lists. -/
structure Good (a0 : Int) (l S : List Int) (n : Nat) : Prop where
  len : l.length = n
  lenS : S.length = n
  range : ∀ i, i < n → 0 ≤ S.getD i 0 ∧ S.getD i 0 ≤ 4095
  rises : ∀ i, i + 1 < n → rd (S.getD i 0 - a0) ≤ rd (S.getD (i + 1) 0 - a0)
  counts : ∀ v k, n ≤ k → Nk l S v k = 0
  sums : ∀ k, n ≤ k → Sk l S k = 0
  again : sortedBy a0 S = S
  wf : ∀ n ∈ S, (Lit.int .i64 n).wf = true
theorem good (a0 : Int) (l : List Int) (n : Nat) (h : l.length = n) : Good a0 l (sortedBy a0 l) n := by
  subst h
  exact ⟨rfl, length_sortedBy a0 l, fun i hi => sortedBy_range a0 l i hi, fun i hi => sortedBy_rises a0 l i hi, fun v k hk => Nk_all a0 l v k hk, fun k hk => Sk_all a0 l k hk, sortedBy_again a0 l, sortedBy_wf a0 l⟩

set_option maxRecDepth 100000 in
set_option maxHeartbeats 8000000 in
theorem walk (a0 : Int) (a1 : Option Addr) (len1 cap1 : Nat) (z1 : List Int) (w : World) (w0 : (Lit.int .i64 a0).wf = true) (w1 : IsRow .i64 w a1 len1 cap1 z1) :
    Calls Try.prog 4 #[.int .i64 a0, .slice a1 len1 cap1] w fun e w' => e = .returned (.bool true) ∧ Below w.heap.size w w' := by
  have hlen := w1.len_le
  unfold maxLen at hlen
  have Hrow := Lib.hid w1
  clear w1
  by_cases h40 : 40 < len1
  · go_enter Try.func4, Try.ntmps4
    go_wp2_with (go_at_call 6; refine (first_any _).mono ?_; rintro e w' ⟨rfl, rfl⟩)
    go_ret
    exact ⟨rfl, Below.refl _ _⟩
  · have hne : ((len1 : Int) != (len1 : Int)) = false := by simp
    have hle : len1 ≤ 1000 := by omega
    go_enter Try.func4, Try.ntmps4
    go_wp2_with (first | (go_at_call 6; refine (first_any _).mono ?_; rintro e w' ⟨rfl, rfl⟩) | (go_at_call 11; refine (sort_any _ _ _ _ _ _ Hrow.out hle).mono ?_; rintro e w1 ⟨rfl, hO, hB⟩))
    have HG := Lib.hid (good a0 (z1.take len1) len1 Hrow.out.take_len)
    have HV := Lib.hid (show Views w w1 a1 len1 (z1.take len1) (sortedBy a0 (z1.take len1)) from ⟨hO, fun i hi => by
      obtain ⟨b, off, e, h⟩ := (Hrow.out.below hB).took (by omega)
      exact ⟨b, off, e, h i hi⟩, hB⟩)
    clear hO hB Hrow
    generalize sortedBy a0 (z1.take len1) = S at *
    generalize z1.take len1 = l at *
    go_loopw [7, 8] (fun sum i wr => ∃ k : Nat, k ≤ len1 ∧ i = .int .i64 k ∧ sum = .int .i64 (Sk l S k) ∧ Views w wr a1 len1 l S) (fun _ i _ => len1 - (intOf i).toNat)
    case atStart => exact ⟨0, by omega, rfl, ret_val (Sk_zero _ _), HV.out⟩
    case round =>
      obtain ⟨k, hk, rfl, rfl, hV⟩ := hrel
      by_cases hlt : k < len1
      · obtain ⟨b, off, rfl, cL⟩ := hV.arg k hlt
        have hi0 : (k : Int) < (len1 : Int) := by omega
        have HV2 := Lib.hid hV
        have cS := hV.own.cell k (by rw [HG.out.lenS]; exact hlt)
        have rg := HG.out.range k hlt
        have Hstep := Lib.hid (Sk_step l S k (by rw [HG.out.len]; exact hlt) (by rw [HG.out.lenS]; exact hlt))
        have k1 : decide (S.getD k 0 < 0) = false := by simpa using rg.1
        have k2 : decide (4095 < S.getD k 0) = false := by simpa using rg.2
        have rg1 := rg.1
        have rg2 := rg.2
        have i1 : 0 ≤ (k : Int) := by omega
        clear rg
        by_cases hk0 : 0 < k
        case' pos =>
          have cJ := hV.own.cell (k - 1) (by rw [HG.out.lenS]; omega)
          have k3 : decide ((0 : Int) < (k : Int)) = true := decide_eq_true (by omega)
          have k3' : decide (0 < k) = true := decide_eq_true (by omega)
          have hi1 : (k : Int) - 1 < (len1 : Int) := by omega
          have hi2 : 0 ≤ (k : Int) - 1 := by omega
          have hi3 : ((k : Int) - 1).toNat = k - 1 := by omega
          have k4 : decide (rd (S.getD k 0 - a0) < rd (S.getD (k - 1) 0 - a0)) = false := by
            have := HG.out.rises (k - 1) (by omega)
            rw [show k - 1 + 1 = k by omega] at this
            simpa using this
          have k5 : IntKind.i64.wrap ((k : Int) - 1) = (k : Int) - 1 := IntWalk.i64_in _ (by omega)
          clear hV HV hk0
          generalize hv : S.getD k 0 = v at *
          have Hv := Lib.hid hv
          clear hv
          generalize S.getD (k - 1) 0 = u at *
          generalize l.getD k 0 = x at *
          go_wp2
          go_quiet ((first | (go_at_call 8; exact quiet_left (dist_any _ _ _)) | (go_at_call 9; exact quiet_left (add_any _ _ _))))
        case' neg =>
          have k3 : decide ((0 : Int) < (k : Int)) = false := decide_eq_false (by omega)
          have k3' : decide (0 < k) = false := decide_eq_false (by omega)
          clear hV HV hk0
          generalize hv : S.getD k 0 = v at *
          have Hv := Lib.hid hv
          clear hv
          generalize l.getD k 0 = x at *
          go_wp2
          go_quiet ((first | (go_at_call 8; exact quiet_left (dist_any _ _ _)) | (go_at_call 9; exact quiet_left (add_any _ _ _))))
        all_goals
          generalize hq : World.drewN wr _ = wq
          have HV3 := Lib.hid (show Views w wq _ len1 l S by rw [← hq]; exact HV2.out.drewN _)
          have cS1 : wq.cell? ⟨w.heap.size, k, none⟩ = some (.int .i64 v) := by rw [← hq]; exact cS
          have cL1 : wq.cell? ⟨b, off + k, none⟩ = some (.int .i64 x) := by rw [← hq]; exact cL
          clear hq HV2 cL cS
          try clear cJ k4 k5 hi1 hi2 hi3
          clear k1 k2 k3 k3'
          have r0 := rd_lo x
          have r1 := rd_hi x
          have k6 : IntKind.i64.wrap (v - rd x) = v - rd x := IntWalk.i64_in _ (by omega)
          go_wp2
          go_quiet ((first | (go_at_call 8; exact quiet_left (dist_any _ _ _)) | (go_at_call 9; exact quiet_left (add_any _ _ _))))
          generalize hq : World.drewN wq _ = wp
          have HV4 := Lib.hid (show Views w wp _ len1 l S by rw [← hq]; exact HV3.out.drewN _)
          clear hq HV3 cS1 cL1 k6 r0 r1
          rw [show x + 0 = x from Int.add_zero x]
          go_wp2
          go_loopw [9, 10] (fun n c wr => ∃ m : Nat, m ≤ len1 ∧ c = .int .i64 m ∧ n = .int .i64 (Nk l S v m) ∧ Views w wr (some ⟨b, off, none⟩) len1 l S) (fun _ c _ => len1 - (intOf c).toNat)
          case atStart => exact ⟨0, by omega, rfl, ret_val (Nk_zero _ _ _), HV4.out⟩
          case round =>
            obtain ⟨m, hm, rfl, rfl, hV⟩ := hrel
            have n0 := Nk_lo l S v m (by omega)
            have n1 := Nk_hi l S v m (by omega)
            by_cases hmt : m < len1
            · obtain ⟨b', off', e, cM⟩ := hV.arg m hmt
              cases e
              have HV5 := Lib.hid hV
              have cP := hV.own.cell m (by rw [HG.out.lenS]; exact hmt)
              have cK := hV.own.cell k (by rw [HG.out.lenS]; exact hlt)
              rw [Hv.out] at cK
              have hs := Nk_step l S v m (by rw [HG.out.len]; exact hmt) (by rw [HG.out.lenS]; exact hmt)
              have im0 : (m : Int) < (len1 : Int) := by omega
              have im1 : 0 ≤ (m : Int) := by omega
              generalize S.getD m 0 = p at *
              generalize l.getD m 0 = y at *
              clear hV HV4
              by_cases e1 : rd y = v
              case' pos => have e1' : (rd y == v) = true := by simpa using e1
              case' neg => have e1' : (rd y == v) = false := by simpa using e1
              all_goals
                rw [e1'] at hs
                clear e1
                by_cases e2 : p = v
                case' pos => have e2' : (p == v) = true := by simpa using e2
                case' neg => have e2' : (p == v) = false := by simpa using e2
                all_goals
                  rw [e2'] at hs
                  have HN := Lib.hid hs
                  clear e2 hs
                  go_wp2
                  go_quiet ((first | (go_at_call 8; exact quiet_left (dist_any _ _ _)) | (go_at_call 9; exact quiet_left (add_any _ _ _))))
                  generalize hq : World.drewN _ _ = wt
                  have HV6 := Lib.hid (show Views w wt _ len1 l S by rw [← hq]; exact HV5.out.drewN _)
                  have cP1 : wt.cell? ⟨w.heap.size, m, none⟩ = some (.int .i64 p) := by rw [← hq]; exact cP
                  have cK1 : wt.cell? ⟨w.heap.size, k, none⟩ = some (.int .i64 v) := by rw [← hq]; exact cK
                  clear hq HV5 cP cK cM
                  go_wp2
                  go_quiet (fail)
                  go_wp2
                  go_roundw
                  case rel => first | exact ⟨m + 1, by omega, by go_num, ret_val (by have := HN.out; simp at this; omega), HV6.out.drewN _⟩ | ((repeat apply Exists.intro); refine ⟨?_, rfl⟩; exact ⟨m + 1, by omega, by go_num, ret_val (by have := HN.out; simp at this; omega), HV6.out.drewN _⟩)
                  case measure => simp [intOf]; omega
            · have hz : Nk l S v m = 0 := HG.out.counts v m (by omega)
              have Hz : (Nk l S v m != 0) = false := by rw [hz]; rfl
              have HV5 := Lib.hid hV
              clear hz hV HV4
              go_wp2
              go_roundw
              case rel => exact ⟨k + 1, by omega, by go_num, ret_val (by rw [← Hstep.out]), HV5.out⟩
              case measure => simp [intOf]; omega
      · have hS : Sk l S k = 0 := HG.out.sums k (by omega)
        have Hs : (Sk l S k == 0) = true := by rw [hS]; rfl
        have HV2 := Lib.hid hV
        clear hS hV HV
        have HR := Lib.hid (show IsRow .i64 wr (some ⟨w.heap.size, 0, none⟩) len1 len1 S by
          have h := HV2.out.own.isRow (by rw [HG.out.lenS]; unfold maxLen; omega) HG.out.wf
          rw [HG.out.lenS] at h
          exact h)
        have HA := Lib.hid (show sortedBy a0 (S.take len1) = S by rw [List.take_of_length_le (by rw [HG.out.lenS]; omega), HG.out.again])
        go_wp2_with (go_at_call 11; refine (sort_any _ _ _ _ _ _ HR.out hle).mono ?_; rintro e w1 ⟨rfl, hO, hB⟩)
        have HO := Lib.hid hO
        have HB := Lib.hid hB
        rw [HA.out] at HO
        have HR1 := Lib.hid (HR.out.below HB.out)
        have HR2 := Lib.hid (show IsRow .i64 w1 (some ⟨wr.heap.size, 0, none⟩) len1 len1 S by
          have h := HO.out.isRow (by rw [HG.out.lenS]; unfold maxLen; omega) HG.out.wf
          rw [HG.out.lenS] at h
          exact h)
        clear hO hB
        refine (same_any _ _ _ _ _ _ _ _ _ HR2.out HR1.out).mono ?_
        rintro e w2 ⟨rfl, n, rfl⟩
        have hsame : sameB (S.take len1) (S.take len1) = true := by simp [sameB]
        rw [hsame]
        clear hsame
        have HE := Lib.hid ((HV2.out.below.trans (HB.out.mono HV2.out.below.size)).trans (⟨rfl, rfl, rfl, Nat.le_refl _, fun _ _ => rfl⟩ : Below w.heap.size w1 (w1.drewN n)))
        go_wp2
        go_ret
        exact ⟨rfl, HE.out⟩

/-! ### THE ROW's STEP: WRITTEN OUT: LEAVE IT -/
set_option maxRecDepth 100000 in
theorem lifted (os : Os) (started : os.Started) (H : Type) (enc : TypeId × Value → H) :
    ReturnsInHanded {} Try.checked os 4 .any (Rows.seqSortsSpec.pre6 enc Try.prog Try.f4 Rows.seqSortsRow.domain false) (Rows.seqSortsSpec.post enc Try.prog Try.f4 false true false false) := by
  refine returnsInHanded_of_change (C := Try.checked) own started (by kernel_rfl) Try.func4
    (ChangeSpec.witness6 (enc := enc) (C := Try.checked) false ⟨#[], #[.int .i64 0, .slice none 0 0], []⟩ 8 (by kernel_rfl) (by kernel_rfl) (by kernel_rfl) (by kernel_rfl)) ?_
  intro W base args ds gs before hval0 hW hcnd _
  have hval : ∀ (j : Nat) t v, Try.f4.params[j]? = some t → args[j]? = some v → Value.okWide Try.prog W .any base t v := hval0
  have hW' := hW
  obtain ⟨p, q, hA0, hV, rfl, hfz, hnd⟩ := hW
  have hA : DataW.TrodAll enc Try.prog W 0 (fun _ => true) true Try.f4.params.toList args.toList ds p := hA0
  rw [Try.params4] at hA hval
  obtain ⟨v0, vs0, d0, ds0, p0, q0, hargs, rfl, rfl, h0, r0⟩ := trodAll_cons hA
  obtain ⟨v1, vs1, d1, ds1, p1, q1, rfl, rfl, rfl, h1, r1⟩ := trodAll_cons r0
  obtain ⟨rfl, rfl, rfl⟩ := trodAll_nil r1
  obtain rfl : args = #[v0, v1] := by cases args; simp_all
  obtain ⟨rfl, rfl⟩ := trodVars_none hV
  obtain ⟨a0, rfl, rfl, rfl, w0⟩ := open_int Try.underlying3 (hval 0 3 v0 rfl rfl) h0
  obtain ⟨a1, len1, cap1, rfl⟩ := okWide_slice Try.underlying26 (hval 1 26 v1 rfl rfl)
  have k1 := h1
  have lt1 : ∀ x ∈ p1, x.block < W.heap.size := by obtain ⟨m, hm⟩ := k1; exact DataW.trod_lt m _ _ _ hm
  obtain ⟨z1, w1⟩ : ∃ zs, IsRow .i64 W a1 len1 cap1 zs := by
    obtain ⟨fuel, hf⟩ := h1
    rcases open_ints Try.underlying26 Try.underlying3 (by kernel_rfl) hf with ⟨hcs, _⟩ | ⟨x, l, c, zs, hcs, _, hl, hm, hz, _, hcell, hwz⟩
    · simp [Value.cells] at hcs
      obtain ⟨rfl, rfl, rfl⟩ := hcs
      exact ⟨[], .inl ⟨rfl, rfl, rfl, rfl⟩⟩
    · simp [Value.cells] at hcs
      obtain ⟨rfl, rfl, rfl⟩ := hcs
      exact ⟨zs, .inr ⟨_, rfl, hl, hm, by simpa using hz, hcell, hwz⟩⟩
  clear hA0 hval0
  refine (walk a0 a1 len1 cap1 z1 W w0 w1).mono fun e W' ⟨he, bel⟩ => ?_
  subst he
  exact ⟨_, rfl, _, _, _, [], _, [], hW', trodAll_mk1 (shut_bool Try.underlying4 _), (trodAll_cons_mk (shut_int Try.underlying3 w0) (trodAll_cons_mk (Below.trod laidOut (by kernel_rfl) (of_decide_eq_true (by kernel_rfl)) k1 bel lt1) trodAll_mk0)), rfl, bel.frame _, fun h => by cases h⟩

theorem over : Rows.seqSortsRow.holds Try.pinned (OpenSpec.ofChange Rows.seqSortsSpec) :=
  OpenClaim.holds_of_wide 4 Try.f4 rfl rfl rfl rfl rfl rfl rfl ⟨rfl, rfl, rfl, rfl, rfl⟩ rfl rfl rfl rfl rfl (by kernel_rfl) Try.func4 (by kernel_rfl)
    (of_decide_eq_true (by kernel_rfl)) (by unfold Func.isWrapper; first | (rw [if_pos (by decide +kernel)]; kernel_rfl) | (rw [if_neg (by decide +kernel)]; exact ⟨rfl, rfl⟩))
    (fun os started H enc _ => lifted os started H enc)

/-- ████ THE STATEMENT ████ -/
theorem proved : Rows.SeqSortsSaid := over
#print axioms proved
end Go.Proofs.Ytnenjemfplljfaa.seqSorts
