/-
  CONTRACT of muezzinref1.ReadQoS.
-/
import Derived.Test.YtogcpommidfmnaaDoorQosN
import Derived.Test.YtogcpommidfmnaaDoorQosF
import Derived.Deep.RegionHeld3
namespace Go.Proofs.YtogcpommidfmnaaDoor
open Go.ChangeShapes Go.WideShapes Go.ChangeAt Go.RowKit
set_option linter.unusedVariables false
set_option linter.unusedSimpArgs false

theorem six_drop (xs : List Int) (o : Nat) : six (xs.drop o) 0 = six xs o := by unfold six; simp [List.getD]

theorem tid15_nat : ∀ n : Nat, n < 256 → 0 ≤ bits .and .u8 (n : Int) 15 ∧ bits .and .u8 (n : Int) 15 ≤ 15 := by decide +kernel
theorem ffr_nat : ∀ n : Nat, n < 256 → (bits .and .u8 (n : Int) 215 != 2) = !ffB (n : Int) := by decide +kernel
theorem lo_nat : ∀ n : Nat, n < 256 → ((n : Int) % 16 != 0) = !((n : Int) % 16 == 0) := by decide +kernel
theorem and15_nat : ∀ n : Nat, n < 256 → bits .and .u8 (n : Int) 15 = (n : Int) % 16 := by decide +kernel
theorem tfr_nat : ∀ n : Nat, n < 256 → (decide (23 < (n : Int)) || decide (7 < (n : Int) % 16)) = !tfB (n : Int) := by decide +kernel
theorem tide_nat : ∀ n : Nat, n < 256 → tfB (n : Int) = true → (n : Int) % 16 = bits .andNot .u8 (n : Int) 16 := by decide +kernel
/-- what ReadQoS answers: the frame, or the error's number. -/
def RefPost (xs : List Int) (n : Nat) (w : World) (e : Ending) (w' : World) : Prop :=
  Below w.heap.size w w' ∧ (rdB xs n ≠ 0 → e = .returned (.tuple #[q0.val, .int .i64 (rdB xs n)])) ∧
  (rdB xs n = 0 → ∃ g cap, e = .returned (.tuple #[(decQ xs (some ⟨g, 0, none⟩) (n - 26) cap).val, .int .i64 0]) ∧ OwnB w' w.heap.size 5 .u8 g (n - 26) cap (xs.drop 26))

set_option maxRecDepth 100000 in
set_option maxHeartbeats 16000000 in
theorem ref_read (A : Option Addr) (n c : Nat) (xs : List Int) (w : World) (h : RowB .u8 w A n xs) (hn : 26 ≤ n) (hn2 : n ≤ 1600) (hnc : n ≤ c) (hk : xs.getD 0 0 = 136) :
    Calls Tryd.prog 15 #[.slice A n c] w (RefPost xs n w) := by
  have hle := h.le
  unfold maxLen at hle
  have hg := heap_alloc_last w (.cells q0.cells 26)
  have HB := Lib.hid ((Below.refl w.heap.size w).alloc (Nat.le_refl _) (.cells q0.cells 26))
  have HR := Lib.hid (h.below ((Below.refl w.heap.size w).alloc (Nat.le_refl _) (.cells q0.cells 26)))
  obtain ⟨b, off, rfl, hc⟩ := HR.out.cells (by omega)
  have c0 := hc 0 (by omega)
  rw [Nat.add_zero] at c0
  have HCs := Lib.hid hc
  have hn' : (26 : Int) ≤ (n : Int) := by omega
  have b0 : (0 : Int) < (n : Int) := by omega
  have b1 : (1 : Int) < (n : Int) := by omega
  have b24 : (24 : Int) < (n : Int) := by omega
  have k4 : (4 : Int) ≤ (n : Int) := by omega
  have k10 : (10 : Int) ≤ (n : Int) := by omega
  have k16 : (16 : Int) ≤ (n : Int) := by omega
  have k22 : (22 : Int) ≤ (n : Int) := by omega
  have d4 : (c = 4) = False := by simp; omega
  have d10 : (c = 10) = False := by simp; omega
  have d16 : (c = 16) = False := by simp; omega
  have d22 : (c = 22) = False := by simp; omega
  have hk' : (xs.getD 0 0 != 136) = false := by simpa using hk
  obtain ⟨l1, u1⟩ := HR.out.wf8 1 (by omega)
  obtain ⟨l22, u22⟩ := HR.out.wf8 22 (by omega)
  obtain ⟨l23, u23⟩ := HR.out.wf8 23 (by omega)
  obtain ⟨l24, u24⟩ := HR.out.wf8 24 (by omega)
  have HRD := Lib.hid (show rdB xs n = if hfB xs = false then 102 else if 1526 < n then 103 else 0 by unfold rdB; rw [if_neg (by omega), if_neg (by rw [hk]; simp)])
  dsimp only [q0, Qf.cells] at c0 hg HB HR HCs
  clear hc h hk
  generalize xs.getD 0 0 = v0 at *
  go_enter Tryd.func15, Tryd.ntmps15
  go_wp2
  generalize World.alloc w _ = w1 at *
  have HG := Lib.hid hg
  have HLT := Lib.hid (show w.heap.size < w1.heap.size from by
    by_cases hp : w.heap.size < w1.heap.size
    · exact hp
    · rw [Array.getElem?_eq_none (Nat.le_of_not_lt hp)] at hg; cases hg)
  clear hg c0 hk'
  have HS4 := Lib.hid (show ∀ w' : World, Below w1.heap.size w1 w' → Calls Tryd.prog 30 #[.slice (some ⟨b, off + 4, none⟩) (n - 4) (c - 4)] w' fun e w'' => e = .returned (six xs 4).val ∧ Below w'.heap.size w' w'' from
    fun w' hb => by have := six_any b (off + 4) (n - 4) (c - 4) (xs.drop 4) w' (drop_row (HR.out.below hb) 4 (by omega)) (by omega); rwa [six_drop] at this)
  have HS10 := Lib.hid (show ∀ w' : World, Below w1.heap.size w1 w' → Calls Tryd.prog 30 #[.slice (some ⟨b, off + 10, none⟩) (n - 10) (c - 10)] w' fun e w'' => e = .returned (six xs 10).val ∧ Below w'.heap.size w' w'' from
    fun w' hb => by have := six_any b (off + 10) (n - 10) (c - 10) (xs.drop 10) w' (drop_row (HR.out.below hb) 10 (by omega)) (by omega); rwa [six_drop] at this)
  have HS16 := Lib.hid (show ∀ w' : World, Below w1.heap.size w1 w' → Calls Tryd.prog 30 #[.slice (some ⟨b, off + 16, none⟩) (n - 16) (c - 16)] w' fun e w'' => e = .returned (six xs 16).val ∧ Below w'.heap.size w' w'' from
    fun w' hb => by have := six_any b (off + 16) (n - 16) (c - 16) (xs.drop 16) w' (drop_row (HR.out.below hb) 16 (by omega)) (by omega); rwa [six_drop] at this)
  have HNM := Lib.hid (show ∀ w' : World, Below w1.heap.size w1 w' → Calls Tryd.prog 31 #[.slice (some ⟨b, off + 22, none⟩) (n - 22) (c - 22)] w' fun e w'' => e = .returned (.int .i64 (xs.getD 22 0 + xs.getD 23 0 * 256)) ∧ Below w'.heap.size w' w'' from
    fun w' hb => (num_any b (off + 22) (n - 22) (c - 22) (xs.drop 22) w' (drop_row (HR.out.below hb) 22 (by omega)) (by omega)).mono (by
      rintro e w'' ⟨rfl, m, rfl⟩
      exact ⟨by simp [List.getD], below_drewN (Below.refl _ _) _⟩))
  have HL := Lib.hid (show ∀ w' : World, Below w1.heap.size w1 w' → w'.cell? ⟨b, off + 1, none⟩ = some (.int .u8 (xs.getD 1 0)) ∧ w'.cell? ⟨b, off + 24, none⟩ = some (.int .u8 (xs.getD 24 0)) from
    fun w' hb => ⟨(hb.cell (cell_lt' (HCs.out 1 (by omega)))).trans (HCs.out 1 (by omega)), (hb.cell (cell_lt' (HCs.out 24 (by omega)))).trans (HCs.out 24 (by omega))⟩)
  generalize hv1 : xs.getD 1 0 = v1 at *
  generalize hv22 : xs.getD 22 0 = v22 at *
  generalize hv23 : xs.getD 23 0 = v23 at *
  generalize hv24 : xs.getD 24 0 = v24 at *
  have HV := Lib.hid (And.intro hv1 (And.intro hv22 (And.intro hv23 hv24)))
  clear hv1 hv22 hv23 hv24
  have HT := Lib.hid (u8all (p := fun v => 0 ≤ bits .and .u8 v 15 ∧ bits .and .u8 v 15 ≤ 15) tid15_nat v24 l24 u24)
  obtain ⟨lt, ut⟩ := HT.out
  have x1 := IntWalk.i64_in (bits .and .u8 v24 15) ⟨by omega, by omega⟩
  have x3 : IntKind.i64.wrap ((v22 + v23 * 256).tdiv 16) = (v22 + v23 * 256) / 16 := by rw [Int.tdiv_eq_ediv_of_nonneg (by omega)]; exact IntWalk.i64_in _ ⟨by omega, by omega⟩
  clear lt ut
  rename_i h9 K9 a9
  have KEY : ∀ (w5 : World) (h4 : Nat), Hid (Below w1.heap.size w1 w5) → Hid (w1.heap.size ≤ h4) → Hid (w5.heap[h4]? = some (.cells (⟨six xs 4, six xs 10, six xs 16, bits .and .u8 v24 15, (v22 + v23 * 256) / 16, bits .and .u8 v1 8 != 0, bits .and .u8 v1 32 != 0, bits .and .u8 v24 16 != 0, none, 0, 0⟩ : Qf).cells 26 (0, 0))) → Exit.then K9 (bodyPost Tryd.prog Tryd.f15 (RefPost xs n w)) .normal { tmps := #[.slice (some ⟨b, off, none⟩) n c, undef, .pointer (some ⟨w.heap.size, 0, none⟩), .int .i64 0, .pointer (some ⟨h4, 0, none⟩), .slice (some ⟨b, off, none⟩) n c, .int .i64 n, .bool (decide ((n : Int) < 26)), undef, .slice (some ⟨b, off, none⟩) n c, .pointer (some ⟨b, off, none⟩), .int .u8 v0, .bool false, undef, .slice (some ⟨b, off, none⟩) n c, .slice (some ⟨b, off + 4, none⟩) (n - 4) (c - 4), .agg (six xs 4).cells, .slice (some ⟨b, off, none⟩) n c, .slice (some ⟨b, off + 10, none⟩) (n - 10) (c - 10), .agg (six xs 10).cells, .slice (some ⟨b, off, none⟩) n c, .slice (some ⟨b, off + 16, none⟩) (n - 16) (c - 16), .agg (six xs 16).cells, .slice (some ⟨b, off, none⟩) n c, .slice (some ⟨b, off + 22, none⟩) (n - 22) (c - 22), .int .i64 (v22 + v23 * 256), .int .i64 ((v22 + v23 * 256) / 16), .slice (some ⟨b, off, none⟩) n c, .pointer (some ⟨b, off + 24, none⟩), .int .u8 v24, .int .u8 (bits .and .u8 v24 15), .int .i64 (bits .and .u8 v24 15), .slice (some ⟨b, off, none⟩) n c, .pointer (some ⟨b, off + 1, none⟩), .int .u8 v1, .int .u8 (bits .and .u8 v1 8), .bool (bits .and .u8 v1 8 != 0), .slice (some ⟨b, off, none⟩) n c, .pointer (some ⟨b, off + 1, none⟩), .int .u8 v1, .int .u8 (bits .and .u8 v1 32), .bool (bits .and .u8 v1 32 != 0), .slice (some ⟨b, off, none⟩) n c, .pointer (some ⟨b, off + 24, none⟩), .int .u8 v24, .int .u8 (bits .and .u8 v24 16), .bool (bits .and .u8 v24 16 != 0), .agg (⟨six xs 4, six xs 10, six xs 16, bits .and .u8 v24 15, (v22 + v23 * 256) / 16, bits .and .u8 v1 8 != 0, bits .and .u8 v1 32 != 0, bits .and .u8 v24 16 != 0, none, 0, 0⟩ : Qf).cells, undef, undef, undef, undef, undef, undef, undef, undef, undef, undef, undef, undef, undef, undef, undef, undef, undef, undef, undef, undef, undef, undef, undef, undef, undef, undef, undef, undef, undef, undef, undef, undef, undef, undef, undef, undef, undef, undef, undef, undef, undef, undef, undef, undef, undef, undef, undef, undef, undef, undef, undef, undef], defers := [] } w5 := by
    intro w5 h4 HB5 HH5 HF5
    have hm15 := u8all (p := fun v => bits .and .u8 v 15 = v % 16) and15_nat v24 l24 u24
    have HF5 := Lib.hid (by have := HF5.out; rw [hm15] at this; exact this)
    clear hm15
    have HG5 := Lib.hid ((HB5.out.block _ HLT.out).trans HG.out)
    have HBA := Lib.hid (HB.out.trans (HB5.out.mono (Nat.le_of_lt HLT.out)))
    have HH4 := Lib.hid (show h4 < w5.heap.size from by
      by_cases hp : h4 < w5.heap.size
      · exact hp
      · have := HF5.out; rw [Array.getElem?_eq_none (Nat.le_of_not_lt hp)] at this; cases this)
    have HHF := Lib.hid (show hfB xs = (ffB v1 && xs.getD 2 0 == 0 && xs.getD 3 0 == 0 && v22 % 16 == 0 && tfB v24 && xs.getD 25 0 == 0) by obtain ⟨e1, e22, e23, e24⟩ := HV.out; rw [← e1, ← e22, ← e24]; rfl)
    have HA1 := Lib.hid (u8all (p := fun v => (bits .and .u8 v 215 != 2) = !ffB v) ffr_nat v1 l1 u1)
    have HA22 := Lib.hid (u8all (p := fun v => (v % 16 != 0) = !(v % 16 == 0)) lo_nat v22 l22 u22)
    have HA24 := Lib.hid (u8all (p := fun v => (decide (23 < v) || decide (7 < v % 16)) = !tfB v) tfr_nat v24 l24 u24)
    have HA25 := Lib.hid (u8all (p := fun v => tfB v = true → v % 16 = bits .andNot .u8 v 16) tide_nat v24 l24 u24)
    have hcell : ∀ i, i < n → w5.cell? ⟨b, off + i, none⟩ = some (.int .u8 (xs.getD i 0)) := fun i hi => (HB5.out.cell (cell_lt' (HCs.out i hi))).trans (HCs.out i hi)
    have c1 := (HL.out w5 HB5.out).1
    have c24 := (HL.out w5 HB5.out).2
    have c2 := hcell 2 (by omega)
    have c3 := hcell 3 (by omega)
    have c22 := hcell 22 (by omega)
    have c25 := hcell 25 (by omega)
    rw [HV.out.2.1] at c22
    have c18 := cell_of_row w5 h4 18 _ _ _ HF5.out
    dsimp only [Qf.cells] at c18
    have b2 : (2 : Int) < (n : Int) := by omega
    have b3 : (3 : Int) < (n : Int) := by omega
    have b22 : (22 : Int) < (n : Int) := by omega
    have b25 : (25 : Int) < (n : Int) := by omega
    clear hcell x1 x3 d4 d10 d16 d22 k4 k10 k16 k22
    generalize xs.getD 2 0 = v2 at *
    generalize xs.getD 3 0 = v3 at *
    generalize xs.getD 25 0 = v25 at *
    cases e1 : (bits .and .u8 v1 215 != 2)
    case true =>
      have hf : hfB xs = false := by rw [HHF.out]; have := HA1.out; rw [e1] at this; simp at this; simp [this]
      have HX := Lib.hid (show rdB xs n = 102 by rw [HRD.out, if_pos hf])
      clear hf
      go_wp2_with (refine wpList_store_row rfl 26 (.tmp 2) (.tmp 89) rfl w.heap.size q0.cells rfl rfl 26 q0.cells HG5.out size26 rfl (Qf.oneCell _) ?_; rw [setRow_same w5 _ _ _ _ HG5.out])
      refine bodyPost_ret (v := .tuple #[q0.val, .int .i64 102]) (results_cell_slot (p := 2) (q := 3) Tryd.results15 _ _ w.heap.size _ q0.cells _ _ rfl HG5.out Tryd.underlying26 rfl size26) rfl ⟨HBA.out, fun _ => ?_, fun hz => ?_⟩
      · rw [(HX.out)]; rfl
      · rw [(HX.out)] at hz; cases hz
    cases e2 : (v2 != 0)
    case true =>
      have hf : hfB xs = false := by rw [HHF.out]; simp at e2; simp [e2]
      have HX := Lib.hid (show rdB xs n = 102 by rw [HRD.out, if_pos hf])
      clear hf
      go_wp2_with (refine wpList_store_row rfl 26 (.tmp 2) (.tmp 89) rfl w.heap.size q0.cells rfl rfl 26 q0.cells HG5.out size26 rfl (Qf.oneCell _) ?_; rw [setRow_same w5 _ _ _ _ HG5.out])
      refine bodyPost_ret (v := .tuple #[q0.val, .int .i64 102]) (results_cell_slot (p := 2) (q := 3) Tryd.results15 _ _ w.heap.size _ q0.cells _ _ rfl HG5.out Tryd.underlying26 rfl size26) rfl ⟨HBA.out, fun _ => ?_, fun hz => ?_⟩
      · rw [(HX.out)]; rfl
      · rw [(HX.out)] at hz; cases hz
    cases e3 : (v3 != 0)
    case true =>
      have hf : hfB xs = false := by rw [HHF.out]; simp at e3; simp [e3]
      have HX := Lib.hid (show rdB xs n = 102 by rw [HRD.out, if_pos hf])
      clear hf
      go_wp2_with (refine wpList_store_row rfl 26 (.tmp 2) (.tmp 89) rfl w.heap.size q0.cells rfl rfl 26 q0.cells HG5.out size26 rfl (Qf.oneCell _) ?_; rw [setRow_same w5 _ _ _ _ HG5.out])
      refine bodyPost_ret (v := .tuple #[q0.val, .int .i64 102]) (results_cell_slot (p := 2) (q := 3) Tryd.results15 _ _ w.heap.size _ q0.cells _ _ rfl HG5.out Tryd.underlying26 rfl size26) rfl ⟨HBA.out, fun _ => ?_, fun hz => ?_⟩
      · rw [(HX.out)]; rfl
      · rw [(HX.out)] at hz; cases hz
    cases e25 : (v25 != 0)
    case true =>
      have hf : hfB xs = false := by rw [HHF.out]; simp at e25; simp [e25]
      have HX := Lib.hid (show rdB xs n = 102 by rw [HRD.out, if_pos hf])
      clear hf
      go_wp2_with (refine wpList_store_row rfl 26 (.tmp 2) (.tmp 89) rfl w.heap.size q0.cells rfl rfl 26 q0.cells HG5.out size26 rfl (Qf.oneCell _) ?_; rw [setRow_same w5 _ _ _ _ HG5.out])
      refine bodyPost_ret (v := .tuple #[q0.val, .int .i64 102]) (results_cell_slot (p := 2) (q := 3) Tryd.results15 _ _ w.heap.size _ q0.cells _ _ rfl HG5.out Tryd.underlying26 rfl size26) rfl ⟨HBA.out, fun _ => ?_, fun hz => ?_⟩
      · rw [(HX.out)]; rfl
      · rw [(HX.out)] at hz; cases hz
    cases e22 : (v22 % 16 != 0)
    case true =>
      have hf : hfB xs = false := by rw [HHF.out]; have := HA22.out; rw [e22] at this; simp at this; simp [this]
      have HX := Lib.hid (show rdB xs n = 102 by rw [HRD.out, if_pos hf])
      clear hf
      go_wp2_with (refine wpList_store_row rfl 26 (.tmp 2) (.tmp 89) rfl w.heap.size q0.cells rfl rfl 26 q0.cells HG5.out size26 rfl (Qf.oneCell _) ?_; rw [setRow_same w5 _ _ _ _ HG5.out])
      refine bodyPost_ret (v := .tuple #[q0.val, .int .i64 102]) (results_cell_slot (p := 2) (q := 3) Tryd.results15 _ _ w.heap.size _ q0.cells _ _ rfl HG5.out Tryd.underlying26 rfl size26) rfl ⟨HBA.out, fun _ => ?_, fun hz => ?_⟩
      · rw [(HX.out)]; rfl
      · rw [(HX.out)] at hz; cases hz
    cases e24 : (decide (23 < v24))
    case true =>
      have hf : hfB xs = false := by rw [HHF.out]; have := HA24.out; rw [e24] at this; simp at this; simp [this]
      have HX := Lib.hid (show rdB xs n = 102 by rw [HRD.out, if_pos hf])
      clear hf
      go_wp2_with (refine wpList_store_row rfl 26 (.tmp 2) (.tmp 89) rfl w.heap.size q0.cells rfl rfl 26 q0.cells HG5.out size26 rfl (Qf.oneCell _) ?_; rw [setRow_same w5 _ _ _ _ HG5.out])
      refine bodyPost_ret (v := .tuple #[q0.val, .int .i64 102]) (results_cell_slot (p := 2) (q := 3) Tryd.results15 _ _ w.heap.size _ q0.cells _ _ rfl HG5.out Tryd.underlying26 rfl size26) rfl ⟨HBA.out, fun _ => ?_, fun hz => ?_⟩
      · rw [(HX.out)]; rfl
      · rw [(HX.out)] at hz; cases hz
    cases et : (decide (7 < v24 % 16))
    case true =>
      have hf : hfB xs = false := by rw [HHF.out]; have := HA24.out; rw [et, Bool.or_true] at this; simp at this; simp [this]
      have HX := Lib.hid (show rdB xs n = 102 by rw [HRD.out, if_pos hf])
      clear hf
      go_wp2_with (refine wpList_store_row rfl 26 (.tmp 2) (.tmp 89) rfl w.heap.size q0.cells rfl rfl 26 q0.cells HG5.out size26 rfl (Qf.oneCell _) ?_; rw [setRow_same w5 _ _ _ _ HG5.out])
      refine bodyPost_ret (v := .tuple #[q0.val, .int .i64 102]) (results_cell_slot (p := 2) (q := 3) Tryd.results15 _ _ w.heap.size _ q0.cells _ _ rfl HG5.out Tryd.underlying26 rfl size26) rfl ⟨HBA.out, fun _ => ?_, fun hz => ?_⟩
      · rw [(HX.out)]; rfl
      · rw [(HX.out)] at hz; cases hz
    have hf : hfB xs = true := by
      have h1 := HA1.out
      have h22 := HA22.out
      have h24 := HA24.out
      rw [e1] at h1
      rw [e22] at h22
      rw [e24, et] at h24
      rw [HHF.out]
      simp at h1 h22 h24 e2 e3 e25
      simp [h1, h22, h24, e2, e3, e25]
    have HTF := Lib.hid (show tfB v24 = true by have h24 := HA24.out; rw [e24, et] at h24; simpa using h24.symm)
    have HFF := Lib.hid hf
    clear hf
    by_cases hr : 1526 < n
    · have HX := Lib.hid (show rdB xs n = 103 by rw [HRD.out, if_neg (by rw [HFF.out]; simp), if_pos hr])
      have hd : decide ((1500 : Int) < (n : Int) - 26) = true := by simp; omega
      have hw : IntKind.i64.wrap ((n : Int) - 26) = (n : Int) - 26 := IntWalk.i64_in _ ⟨by omega, by omega⟩
      go_wp2_with (refine wpList_store_row rfl 26 (.tmp 2) (.tmp 94) rfl w.heap.size q0.cells rfl rfl 26 q0.cells HG5.out size26 rfl (Qf.oneCell _) ?_; rw [setRow_same w5 _ _ _ _ HG5.out])
      refine bodyPost_ret (v := .tuple #[q0.val, .int .i64 103]) (results_cell_slot (p := 2) (q := 3) Tryd.results15 _ _ w.heap.size _ q0.cells _ _ rfl HG5.out Tryd.underlying26 rfl size26) rfl ⟨HBA.out, fun _ => ?_, fun hz => ?_⟩
      · rw [(HX.out)]; rfl
      · rw [(HX.out)] at hz; cases hz
    have HX := Lib.hid (show rdB xs n = 0 by rw [HRD.out, if_neg (by rw [HFF.out]; simp), if_neg hr])
    have hd : decide ((1500 : Int) < (n : Int) - 26) = false := by simp; omega
    have hw : IntKind.i64.wrap ((n : Int) - 26) = (n : Int) - 26 := IntWalk.i64_in _ ⟨by omega, by omega⟩
    by_cases h26 : c = 26
    · have HRW := Lib.hid (show RowB .u8 w5 (some ⟨b, off, none⟩) (n - 26) (xs.drop 26) by
        have hx : xs.drop 26 = [] := List.drop_of_length_le (by have := HR.out.len; omega)
        rw [hx, show n - 26 = 0 by omega]
        exact RowB.nil)
      go_wp2_with (fail)
      refine (bytes_any _ _ _ (xs.drop 26) w5 HRW.out (by omega)).mono ?_
      rintro e w6 ⟨g7, cap7, rfl, hO, hB⟩
      have HO6 := Lib.hid hO
      have HB6 := Lib.hid (HBA.out.trans (hB.mono HBA.out.size))
      have HF6 := Lib.hid ((hB.block _ HH4.out).trans HF5.out)
      have HG6 := Lib.hid ((hB.block _ (Nat.lt_of_lt_of_le HLT.out HB5.out.size)).trans HG5.out)
      clear hO hB c1 c24 c2 c3 c22 c25 c18
      have HN1 := Lib.hid (show h4 ≠ w.heap.size by have := HH5.out; have := HLT.out; omega)
      have HF7 := Lib.hid (setRow_heap w6 h4 _ (⟨six xs 4, six xs 10, six xs 16, v24 % 16, (v22 + v23 * 256) / 16, bits .and .u8 v1 8 != 0, bits .and .u8 v1 32 != 0, bits .and .u8 v24 16 != 0, some ⟨g7, 0, none⟩, n - 26, cap7⟩ : Qf).cells _ _ HF6.out)
      have HG7 := Lib.hid ((setRow_other w6 h4 w.heap.size (⟨six xs 4, six xs 10, six xs 16, v24 % 16, (v22 + v23 * 256) / 16, bits .and .u8 v1 8 != 0, bits .and .u8 v1 32 != 0, bits .and .u8 v24 16 != 0, some ⟨g7, 0, none⟩, n - 26, cap7⟩ : Qf).cells (Ne.symm HN1.out)).trans HG6.out)
      have HY := Lib.hid (setRow_heap (w6.setRow h4 (⟨six xs 4, six xs 10, six xs 16, v24 % 16, (v22 + v23 * 256) / 16, bits .and .u8 v1 8 != 0, bits .and .u8 v1 32 != 0, bits .and .u8 v24 16 != 0, some ⟨g7, 0, none⟩, n - 26, cap7⟩ : Qf).cells) w.heap.size _ (⟨six xs 4, six xs 10, six xs 16, v24 % 16, (v22 + v23 * 256) / 16, bits .and .u8 v1 8 != 0, bits .and .u8 v1 32 != 0, bits .and .u8 v24 16 != 0, some ⟨g7, 0, none⟩, n - 26, cap7⟩ : Qf).cells _ _ HG7.out)
      go_wp2_with (first
        | (refine wpList_store_into (by rfl) 24 (.tmp 98) (.tmp 97) rfl h4 23 (.slice (some ⟨g7, 0, none⟩) (n - 26) cap7) rfl rfl rfl 26 (⟨six xs 4, six xs 10, six xs 16, v24 % 16, (v22 + v23 * 256) / 16, bits .and .u8 v1 8 != 0, bits .and .u8 v1 32 != 0, bits .and .u8 v24 16 != 0, none, 0, 0⟩ : Qf).cells (⟨six xs 4, six xs 10, six xs 16, v24 % 16, (v22 + v23 * 256) / 16, bits .and .u8 v1 8 != 0, bits .and .u8 v1 32 != 0, bits .and .u8 v24 16 != 0, some ⟨g7, 0, none⟩, n - 26, cap7⟩ : Qf).cells HF6.out (by kernel_rfl) (show 23 < 24 by decide) rfl ?_)
        | (refine wpList_load_row rfl 26 (.tmp 4) rfl h4 rfl 26 (⟨six xs 4, six xs 10, six xs 16, v24 % 16, (v22 + v23 * 256) / 16, bits .and .u8 v1 8 != 0, bits .and .u8 v1 32 != 0, bits .and .u8 v24 16 != 0, some ⟨g7, 0, none⟩, n - 26, cap7⟩ : Qf).cells (0, 0) _ HF7.out Tryd.underlying26 rfl size26 ?_)
        | (refine wpList_store_row rfl 26 (.tmp 2) (.tmp 99) rfl w.heap.size (⟨six xs 4, six xs 10, six xs 16, v24 % 16, (v22 + v23 * 256) / 16, bits .and .u8 v1 8 != 0, bits .and .u8 v1 32 != 0, bits .and .u8 v24 16 != 0, some ⟨g7, 0, none⟩, n - 26, cap7⟩ : Qf).cells rfl rfl 26 q0.cells HG7.out size26 rfl (Qf.oneCell _) ?_))
      have HE := Lib.hid (show (⟨six xs 4, six xs 10, six xs 16, v24 % 16, (v22 + v23 * 256) / 16, bits .and .u8 v1 8 != 0, bits .and .u8 v1 32 != 0, bits .and .u8 v24 16 != 0, some ⟨g7, 0, none⟩, n - 26, cap7⟩ : Qf) = decQ xs (some ⟨g7, 0, none⟩) (n - 26) cap7 by
        unfold decQ
        obtain ⟨e1', e22', e23', e24'⟩ := HV.out
        rw [e1', e22', e23', e24', HA25.out HTF.out]
        congr 1
        omega)
      refine bodyPost_ret (v := .tuple #[(⟨six xs 4, six xs 10, six xs 16, v24 % 16, (v22 + v23 * 256) / 16, bits .and .u8 v1 8 != 0, bits .and .u8 v1 32 != 0, bits .and .u8 v24 16 != 0, some ⟨g7, 0, none⟩, n - 26, cap7⟩ : Qf).val, .int .i64 0]) (results_cell_slot (p := 2) (q := 3) Tryd.results15 _ _ w.heap.size _ (⟨six xs 4, six xs 10, six xs 16, v24 % 16, (v22 + v23 * 256) / 16, bits .and .u8 v1 8 != 0, bits .and .u8 v1 32 != 0, bits .and .u8 v24 16 != 0, some ⟨g7, 0, none⟩, n - 26, cap7⟩ : Qf).cells _ _ rfl HY.out Tryd.underlying26 rfl size26) rfl ⟨?_, fun hz => absurd HX.out hz, fun _ => ⟨g7, cap7, by rw [HE.out], ?_⟩⟩
      · exact below_setRow (below_setRow HB6.out (Nat.le_trans (Nat.le_of_lt HLT.out) HH5.out) _) (Nat.le_refl _) _
      · have hg1 : g7 ≠ h4 := by have := HO6.out.lt.1; have := HH4.out; omega
        have hg2 : g7 ≠ w.heap.size := by have := HO6.out.lt.1; have := HBA.out.size; have := HLT.out; have := HB5.out.size; omega
        exact ((HO6.out.of_block (setRow_other w6 h4 g7 _ hg1)).of_block (setRow_other _ w.heap.size g7 _ hg2)).base HBA.out.size
    · have HRW := Lib.hid (show RowB .u8 w5 (some ⟨b, off + 26, none⟩) (n - 26) (xs.drop 26) from drop_row (HR.out.below HB5.out) 26 (by omega))
      go_wp2_with (fail)
      refine (bytes_any _ _ _ (xs.drop 26) w5 HRW.out (by omega)).mono ?_
      rintro e w6 ⟨g7, cap7, rfl, hO, hB⟩
      have HO6 := Lib.hid hO
      have HB6 := Lib.hid (HBA.out.trans (hB.mono HBA.out.size))
      have HF6 := Lib.hid ((hB.block _ HH4.out).trans HF5.out)
      have HG6 := Lib.hid ((hB.block _ (Nat.lt_of_lt_of_le HLT.out HB5.out.size)).trans HG5.out)
      clear hO hB c1 c24 c2 c3 c22 c25 c18
      have HN1 := Lib.hid (show h4 ≠ w.heap.size by have := HH5.out; have := HLT.out; omega)
      have HF7 := Lib.hid (setRow_heap w6 h4 _ (⟨six xs 4, six xs 10, six xs 16, v24 % 16, (v22 + v23 * 256) / 16, bits .and .u8 v1 8 != 0, bits .and .u8 v1 32 != 0, bits .and .u8 v24 16 != 0, some ⟨g7, 0, none⟩, n - 26, cap7⟩ : Qf).cells _ _ HF6.out)
      have HG7 := Lib.hid ((setRow_other w6 h4 w.heap.size (⟨six xs 4, six xs 10, six xs 16, v24 % 16, (v22 + v23 * 256) / 16, bits .and .u8 v1 8 != 0, bits .and .u8 v1 32 != 0, bits .and .u8 v24 16 != 0, some ⟨g7, 0, none⟩, n - 26, cap7⟩ : Qf).cells (Ne.symm HN1.out)).trans HG6.out)
      have HY := Lib.hid (setRow_heap (w6.setRow h4 (⟨six xs 4, six xs 10, six xs 16, v24 % 16, (v22 + v23 * 256) / 16, bits .and .u8 v1 8 != 0, bits .and .u8 v1 32 != 0, bits .and .u8 v24 16 != 0, some ⟨g7, 0, none⟩, n - 26, cap7⟩ : Qf).cells) w.heap.size _ (⟨six xs 4, six xs 10, six xs 16, v24 % 16, (v22 + v23 * 256) / 16, bits .and .u8 v1 8 != 0, bits .and .u8 v1 32 != 0, bits .and .u8 v24 16 != 0, some ⟨g7, 0, none⟩, n - 26, cap7⟩ : Qf).cells _ _ HG7.out)
      go_wp2_with (first
        | (refine wpList_store_into (by rfl) 24 (.tmp 98) (.tmp 97) rfl h4 23 (.slice (some ⟨g7, 0, none⟩) (n - 26) cap7) rfl rfl rfl 26 (⟨six xs 4, six xs 10, six xs 16, v24 % 16, (v22 + v23 * 256) / 16, bits .and .u8 v1 8 != 0, bits .and .u8 v1 32 != 0, bits .and .u8 v24 16 != 0, none, 0, 0⟩ : Qf).cells (⟨six xs 4, six xs 10, six xs 16, v24 % 16, (v22 + v23 * 256) / 16, bits .and .u8 v1 8 != 0, bits .and .u8 v1 32 != 0, bits .and .u8 v24 16 != 0, some ⟨g7, 0, none⟩, n - 26, cap7⟩ : Qf).cells HF6.out (by kernel_rfl) (show 23 < 24 by decide) rfl ?_)
        | (refine wpList_load_row rfl 26 (.tmp 4) rfl h4 rfl 26 (⟨six xs 4, six xs 10, six xs 16, v24 % 16, (v22 + v23 * 256) / 16, bits .and .u8 v1 8 != 0, bits .and .u8 v1 32 != 0, bits .and .u8 v24 16 != 0, some ⟨g7, 0, none⟩, n - 26, cap7⟩ : Qf).cells (0, 0) _ HF7.out Tryd.underlying26 rfl size26 ?_)
        | (refine wpList_store_row rfl 26 (.tmp 2) (.tmp 99) rfl w.heap.size (⟨six xs 4, six xs 10, six xs 16, v24 % 16, (v22 + v23 * 256) / 16, bits .and .u8 v1 8 != 0, bits .and .u8 v1 32 != 0, bits .and .u8 v24 16 != 0, some ⟨g7, 0, none⟩, n - 26, cap7⟩ : Qf).cells rfl rfl 26 q0.cells HG7.out size26 rfl (Qf.oneCell _) ?_))
      have HE := Lib.hid (show (⟨six xs 4, six xs 10, six xs 16, v24 % 16, (v22 + v23 * 256) / 16, bits .and .u8 v1 8 != 0, bits .and .u8 v1 32 != 0, bits .and .u8 v24 16 != 0, some ⟨g7, 0, none⟩, n - 26, cap7⟩ : Qf) = decQ xs (some ⟨g7, 0, none⟩) (n - 26) cap7 by
        unfold decQ
        obtain ⟨e1', e22', e23', e24'⟩ := HV.out
        rw [e1', e22', e23', e24', HA25.out HTF.out]
        congr 1
        omega)
      refine bodyPost_ret (v := .tuple #[(⟨six xs 4, six xs 10, six xs 16, v24 % 16, (v22 + v23 * 256) / 16, bits .and .u8 v1 8 != 0, bits .and .u8 v1 32 != 0, bits .and .u8 v24 16 != 0, some ⟨g7, 0, none⟩, n - 26, cap7⟩ : Qf).val, .int .i64 0]) (results_cell_slot (p := 2) (q := 3) Tryd.results15 _ _ w.heap.size _ (⟨six xs 4, six xs 10, six xs 16, v24 % 16, (v22 + v23 * 256) / 16, bits .and .u8 v1 8 != 0, bits .and .u8 v1 32 != 0, bits .and .u8 v24 16 != 0, some ⟨g7, 0, none⟩, n - 26, cap7⟩ : Qf).cells _ _ rfl HY.out Tryd.underlying26 rfl size26) rfl ⟨?_, fun hz => absurd HX.out hz, fun _ => ⟨g7, cap7, by rw [HE.out], ?_⟩⟩
      · exact below_setRow (below_setRow HB6.out (Nat.le_trans (Nat.le_of_lt HLT.out) HH5.out) _) (Nat.le_refl _) _
      · have hg1 : g7 ≠ h4 := by have := HO6.out.lt.1; have := HH4.out; omega
        have hg2 : g7 ≠ w.heap.size := by have := HO6.out.lt.1; have := HBA.out.size; have := HLT.out; have := HB5.out.size; omega
        exact ((HO6.out.of_block (setRow_other w6 h4 g7 _ hg1)).of_block (setRow_other _ w.heap.size g7 _ hg2)).base HBA.out.size
  refine wp_region_held_drew (S := fun w' => Below w1.heap.size w1 w') (by kernel_rfl) (Below.refl _ _).drew (fun hHeld => ?_)
  clear HB HCs HG HRD
  generalize World.drew w1 = w2 at *
  have HB2 := Lib.hid hHeld
  refine wpAnyH_take (i := 0) (v := ?_) rfl (by kernel_rfl) (by kernel_rfl) (by kernel_rfl) (fun _ _ _ h => h) (Or.inl ⟨by rfl, ?_⟩) (by assumption) ?_
  rotate_left
  · intro w hSw
    obtain ⟨e1, e24⟩ := HL.out w hSw
    clear hSw
    go_simp
    try with_reducible rfl
  try simp only [Act.put, List.getElem_toArray, List.getElem_cons_zero, List.getElem_cons_succ, List.setIfInBounds_toArray, List.set_cons_zero, List.set_cons_succ]
  refine wpAnyH_take (i := 1) (v := ?_) rfl (by kernel_rfl) (by kernel_rfl) (by kernel_rfl) (fun _ _ _ h => h) (Or.inl ⟨by rfl, ?_⟩) (by assumption) ?_
  rotate_left
  · intro w hSw
    obtain ⟨e1, e24⟩ := HL.out w hSw
    clear hSw
    go_simp
    try with_reducible rfl
  try simp only [Act.put, List.getElem_toArray, List.getElem_cons_zero, List.getElem_cons_succ, List.setIfInBounds_toArray, List.set_cons_zero, List.set_cons_succ]
  refine wpAnyH_take (i := 3) (v := ?_) rfl (by kernel_rfl) (by kernel_rfl) (by kernel_rfl) (fun _ _ _ h => h) (Or.inl ⟨by rfl, ?_⟩) (by assumption) ?_
  rotate_left
  · intro w hSw
    obtain ⟨e1, e24⟩ := HL.out w hSw
    clear hSw
    go_simp
    try with_reducible rfl
  try simp only [Act.put, List.getElem_toArray, List.getElem_cons_zero, List.getElem_cons_succ, List.setIfInBounds_toArray, List.set_cons_zero, List.set_cons_succ]
  refine wpAnyH_take (i := 4) (v := ?_) rfl (by kernel_rfl) (by kernel_rfl) (by kernel_rfl) (fun _ _ _ h => h) (Or.inl ⟨by rfl, ?_⟩) (by assumption) ?_
  rotate_left
  · intro w hSw
    obtain ⟨e1, e24⟩ := HL.out w hSw
    clear hSw
    go_simp
    try with_reducible rfl
  try simp only [Act.put, List.getElem_toArray, List.getElem_cons_zero, List.getElem_cons_succ, List.setIfInBounds_toArray, List.set_cons_zero, List.set_cons_succ]
  refine wpAnyH_take (i := 6) (v := ?_) rfl (by kernel_rfl) (by kernel_rfl) (by kernel_rfl) (fun _ _ _ h => h) (Or.inl ⟨by rfl, ?_⟩) (by assumption) ?_
  rotate_left
  · intro w hSw
    obtain ⟨e1, e24⟩ := HL.out w hSw
    clear hSw
    go_simp
    try with_reducible rfl
  try simp only [Act.put, List.getElem_toArray, List.getElem_cons_zero, List.getElem_cons_succ, List.setIfInBounds_toArray, List.set_cons_zero, List.set_cons_succ]
  refine wpAnyH_take (i := 7) (v := ?_) rfl (by kernel_rfl) (by kernel_rfl) (by kernel_rfl) (fun _ _ _ h => h) (Or.inl ⟨by rfl, ?_⟩) (by assumption) ?_
  rotate_left
  · intro w hSw
    obtain ⟨e1, e24⟩ := HL.out w hSw
    clear hSw
    go_simp
    try with_reducible rfl
  try simp only [Act.put, List.getElem_toArray, List.getElem_cons_zero, List.getElem_cons_succ, List.setIfInBounds_toArray, List.set_cons_zero, List.set_cons_succ]
  refine wpAnyH_take (i := 9) (v := ?_) rfl (by kernel_rfl) (by kernel_rfl) (by kernel_rfl) (fun _ _ _ h => h) (Or.inl ⟨by rfl, ?_⟩) (by assumption) ?_
  rotate_left
  · intro w hSw
    obtain ⟨e1, e24⟩ := HL.out w hSw
    clear hSw
    go_simp
    try with_reducible rfl
  try simp only [Act.put, List.getElem_toArray, List.getElem_cons_zero, List.getElem_cons_succ, List.setIfInBounds_toArray, List.set_cons_zero, List.set_cons_succ]
  refine wpAnyH_take (i := 10) (v := ?_) rfl (by kernel_rfl) (by kernel_rfl) (by kernel_rfl) (fun _ _ _ h => h) (Or.inl ⟨by rfl, ?_⟩) (by assumption) ?_
  rotate_left
  · intro w hSw
    obtain ⟨e1, e24⟩ := HL.out w hSw
    clear hSw
    go_simp
    try with_reducible rfl
  try simp only [Act.put, List.getElem_toArray, List.getElem_cons_zero, List.getElem_cons_succ, List.setIfInBounds_toArray, List.set_cons_zero, List.set_cons_succ]
  refine wpAnyH_take (i := 13) (v := ?_) rfl (by kernel_rfl) (by kernel_rfl) (by kernel_rfl) (fun _ _ _ h => h) (Or.inl ⟨by rfl, ?_⟩) (by assumption) ?_
  rotate_left
  · intro w hSw
    obtain ⟨e1, e24⟩ := HL.out w hSw
    clear hSw
    go_simp
    try with_reducible rfl
  try simp only [Act.put, List.getElem_toArray, List.getElem_cons_zero, List.getElem_cons_succ, List.setIfInBounds_toArray, List.set_cons_zero, List.set_cons_succ]
  refine wpAnyH_take (i := 14) (v := ?_) rfl (by kernel_rfl) (by kernel_rfl) (by kernel_rfl) (fun _ _ _ h => h) (Or.inl ⟨by rfl, ?_⟩) (by assumption) ?_
  rotate_left
  · intro w hSw
    obtain ⟨e1, e24⟩ := HL.out w hSw
    clear hSw
    go_simp
    try with_reducible rfl
  try simp only [Act.put, List.getElem_toArray, List.getElem_cons_zero, List.getElem_cons_succ, List.setIfInBounds_toArray, List.set_cons_zero, List.set_cons_succ]
  refine wpAnyH_take (i := 15) (v := ?_) rfl (by kernel_rfl) (by kernel_rfl) (by kernel_rfl) (fun _ _ _ h => h) (Or.inl ⟨by rfl, ?_⟩) (by assumption) ?_
  rotate_left
  · intro w hSw
    obtain ⟨e1, e24⟩ := HL.out w hSw
    clear hSw
    go_simp
    try with_reducible rfl
  try simp only [Act.put, List.getElem_toArray, List.getElem_cons_zero, List.getElem_cons_succ, List.setIfInBounds_toArray, List.set_cons_zero, List.set_cons_succ]
  refine wpAnyH_take (i := 16) (v := ?_) rfl (by kernel_rfl) (by kernel_rfl) (by kernel_rfl) (fun _ _ _ h => h) (Or.inl ⟨by rfl, ?_⟩) (by assumption) ?_
  rotate_left
  · intro w hSw
    obtain ⟨e1, e24⟩ := HL.out w hSw
    clear hSw
    go_simp
    try with_reducible rfl
  try simp only [Act.put, List.getElem_toArray, List.getElem_cons_zero, List.getElem_cons_succ, List.setIfInBounds_toArray, List.set_cons_zero, List.set_cons_succ]
  refine wpAnyH_take (i := 17) (v := ?_) rfl (by kernel_rfl) (by kernel_rfl) (by kernel_rfl) (fun _ _ _ h => h) (Or.inl ⟨by rfl, ?_⟩) (by assumption) ?_
  rotate_left
  · intro w hSw
    obtain ⟨e1, e24⟩ := HL.out w hSw
    clear hSw
    go_simp
    try with_reducible rfl
  try simp only [Act.put, List.getElem_toArray, List.getElem_cons_zero, List.getElem_cons_succ, List.setIfInBounds_toArray, List.set_cons_zero, List.set_cons_succ]
  refine wpAnyH_take (i := 18) (v := ?_) rfl (by kernel_rfl) (by kernel_rfl) (by kernel_rfl) (fun _ _ _ h => h) (Or.inl ⟨by rfl, ?_⟩) (by assumption) ?_
  rotate_left
  · intro w hSw
    obtain ⟨e1, e24⟩ := HL.out w hSw
    clear hSw
    go_simp
    try with_reducible rfl
  try simp only [Act.put, List.getElem_toArray, List.getElem_cons_zero, List.getElem_cons_succ, List.setIfInBounds_toArray, List.set_cons_zero, List.set_cons_succ]
  refine wpAnyH_take (i := 19) (v := ?_) rfl (by kernel_rfl) (by kernel_rfl) (by kernel_rfl) (fun _ _ _ h => h) (Or.inl ⟨by rfl, ?_⟩) (by assumption) ?_
  rotate_left
  · intro w hSw
    obtain ⟨e1, e24⟩ := HL.out w hSw
    clear hSw
    go_simp
    try with_reducible rfl
  try simp only [Act.put, List.getElem_toArray, List.getElem_cons_zero, List.getElem_cons_succ, List.setIfInBounds_toArray, List.set_cons_zero, List.set_cons_succ]
  refine wpAnyH_take (i := 20) (v := ?_) rfl (by kernel_rfl) (by kernel_rfl) (by kernel_rfl) (fun _ _ _ h => h) (Or.inl ⟨by rfl, ?_⟩) (by assumption) ?_
  rotate_left
  · intro w hSw
    obtain ⟨e1, e24⟩ := HL.out w hSw
    clear hSw
    go_simp
    try with_reducible rfl
  try simp only [Act.put, List.getElem_toArray, List.getElem_cons_zero, List.getElem_cons_succ, List.setIfInBounds_toArray, List.set_cons_zero, List.set_cons_succ]
  refine wpAnyH_take (i := 21) (v := ?_) rfl (by kernel_rfl) (by kernel_rfl) (by kernel_rfl) (fun _ _ _ h => h) (Or.inl ⟨by rfl, ?_⟩) (by assumption) ?_
  rotate_left
  · intro w hSw
    obtain ⟨e1, e24⟩ := HL.out w hSw
    clear hSw
    go_simp
    try with_reducible rfl
  try simp only [Act.put, List.getElem_toArray, List.getElem_cons_zero, List.getElem_cons_succ, List.setIfInBounds_toArray, List.set_cons_zero, List.set_cons_succ]
  refine wpAnyH_take (i := 22) (v := ?_) rfl (by kernel_rfl) (by kernel_rfl) (by kernel_rfl) (fun _ _ _ h => h) (Or.inl ⟨by rfl, ?_⟩) (by assumption) ?_
  rotate_left
  · intro w hSw
    obtain ⟨e1, e24⟩ := HL.out w hSw
    clear hSw
    go_simp
    try with_reducible rfl
  try simp only [Act.put, List.getElem_toArray, List.getElem_cons_zero, List.getElem_cons_succ, List.setIfInBounds_toArray, List.set_cons_zero, List.set_cons_succ]
  refine wpAnyH_take (i := 23) (v := ?_) rfl (by kernel_rfl) (by kernel_rfl) (by kernel_rfl) (fun _ _ _ h => h) (Or.inl ⟨by rfl, ?_⟩) (by assumption) ?_
  rotate_left
  · intro w hSw
    obtain ⟨e1, e24⟩ := HL.out w hSw
    clear hSw
    go_simp
    try with_reducible rfl
  try simp only [Act.put, List.getElem_toArray, List.getElem_cons_zero, List.getElem_cons_succ, List.setIfInBounds_toArray, List.set_cons_zero, List.set_cons_succ]
  refine wpAnyH_take (i := 24) (v := ?_) rfl (by kernel_rfl) (by kernel_rfl) (by kernel_rfl) (fun _ _ _ h => h) (Or.inl ⟨by rfl, ?_⟩) (by assumption) ?_
  rotate_left
  · intro w hSw
    obtain ⟨e1, e24⟩ := HL.out w hSw
    clear hSw
    go_simp
    try with_reducible rfl
  try simp only [Act.put, List.getElem_toArray, List.getElem_cons_zero, List.getElem_cons_succ, List.setIfInBounds_toArray, List.set_cons_zero, List.set_cons_succ]
  refine wpAnyH_take (i := 25) (v := ?_) rfl (by kernel_rfl) (by kernel_rfl) (by kernel_rfl) (fun _ _ _ h => h) (Or.inl ⟨by rfl, ?_⟩) (by assumption) ?_
  rotate_left
  · intro w hSw
    obtain ⟨e1, e24⟩ := HL.out w hSw
    clear hSw
    go_simp
    try with_reducible rfl
  try simp only [Act.put, List.getElem_toArray, List.getElem_cons_zero, List.getElem_cons_succ, List.setIfInBounds_toArray, List.set_cons_zero, List.set_cons_succ]
  refine wpAnyH_take (i := 26) (v := ?_) rfl (by kernel_rfl) (by kernel_rfl) (by kernel_rfl) (fun _ _ _ h => h) (Or.inl ⟨by rfl, ?_⟩) (by assumption) ?_
  rotate_left
  · intro w hSw
    obtain ⟨e1, e24⟩ := HL.out w hSw
    clear hSw
    go_simp
    try with_reducible rfl
  try simp only [Act.put, List.getElem_toArray, List.getElem_cons_zero, List.getElem_cons_succ, List.setIfInBounds_toArray, List.set_cons_zero, List.set_cons_succ]
  refine wpAnyH_take (i := 27) (v := ?_) rfl (by kernel_rfl) (by kernel_rfl) (by kernel_rfl) (fun _ _ _ h => h) (Or.inl ⟨by rfl, ?_⟩) (by assumption) ?_
  rotate_left
  · intro w hSw
    obtain ⟨e1, e24⟩ := HL.out w hSw
    clear hSw
    go_simp
    try with_reducible rfl
  try simp only [Act.put, List.getElem_toArray, List.getElem_cons_zero, List.getElem_cons_succ, List.setIfInBounds_toArray, List.set_cons_zero, List.set_cons_succ]
  refine wpAnyH_take (i := 28) (v := ?_) rfl (by kernel_rfl) (by kernel_rfl) (by kernel_rfl) (fun _ _ _ h => h) (Or.inl ⟨by rfl, ?_⟩) (by assumption) ?_
  rotate_left
  · intro w hSw
    obtain ⟨e1, e24⟩ := HL.out w hSw
    clear hSw
    go_simp
    try with_reducible rfl
  try simp only [Act.put, List.getElem_toArray, List.getElem_cons_zero, List.getElem_cons_succ, List.setIfInBounds_toArray, List.set_cons_zero, List.set_cons_succ]
  refine wpAnyH_take (i := 29) (v := ?_) rfl (by kernel_rfl) (by kernel_rfl) (by kernel_rfl) (fun _ _ _ h => h) (Or.inl ⟨by rfl, ?_⟩) (by assumption) ?_
  rotate_left
  · intro w hSw
    obtain ⟨e1, e24⟩ := HL.out w hSw
    clear hSw
    go_simp
    try with_reducible rfl
  try simp only [Act.put, List.getElem_toArray, List.getElem_cons_zero, List.getElem_cons_succ, List.setIfInBounds_toArray, List.set_cons_zero, List.set_cons_succ]
  refine wpAnyH_take (i := 30) (v := ?_) rfl (by kernel_rfl) (by kernel_rfl) (by kernel_rfl) (fun _ _ _ h => h) (Or.inl ⟨by rfl, ?_⟩) (by assumption) ?_
  rotate_left
  · intro w hSw
    obtain ⟨e1, e24⟩ := HL.out w hSw
    clear hSw
    go_simp
    try with_reducible rfl
  try simp only [Act.put, List.getElem_toArray, List.getElem_cons_zero, List.getElem_cons_succ, List.setIfInBounds_toArray, List.set_cons_zero, List.set_cons_succ]
  refine wpAnyH_take (i := 31) (v := ?_) rfl (by kernel_rfl) (by kernel_rfl) (by kernel_rfl) (fun _ _ _ h => h) (Or.inl ⟨by rfl, ?_⟩) (by assumption) ?_
  rotate_left
  · intro w hSw
    obtain ⟨e1, e24⟩ := HL.out w hSw
    clear hSw
    go_simp
    try with_reducible rfl
  try simp only [Act.put, List.getElem_toArray, List.getElem_cons_zero, List.getElem_cons_succ, List.setIfInBounds_toArray, List.set_cons_zero, List.set_cons_succ]
  refine wpAnyH_take (i := 32) (v := ?_) rfl (by kernel_rfl) (by kernel_rfl) (by kernel_rfl) (fun _ _ _ h => h) (Or.inl ⟨by rfl, ?_⟩) (by assumption) ?_
  rotate_left
  · intro w hSw
    obtain ⟨e1, e24⟩ := HL.out w hSw
    clear hSw
    go_simp
    try with_reducible rfl
  try simp only [Act.put, List.getElem_toArray, List.getElem_cons_zero, List.getElem_cons_succ, List.setIfInBounds_toArray, List.set_cons_zero, List.set_cons_succ]
  refine wpAnyH_ready (rs := [2, 34]) (by kernel_rfl) (by simp) ?_
  refine AllReadyH.cons rfl (fun K hK => ?_) (AllReadyH.cons rfl (fun K hK => ?_) AllReadyH.nil)
  · go_simp
    refine (HS4.out _ HB2.out).mono ?_
    rintro e' w13 ⟨rfl, hb⟩
    have HB13 := Lib.hid (HB2.out.trans (hb.mono HB2.out.size))
    clear hb hHeld
    refine hK.out _ _ HB13.out (fun hHeld => ?_)
    clear hK K
    try simp only [Act.put, List.getElem_toArray, List.getElem_cons_zero, List.getElem_cons_succ, List.setIfInBounds_toArray, List.set_cons_zero, List.set_cons_succ]
    refine wpAnyH_ready (rs := [5, 34]) (by kernel_rfl) (by simp) ?_
    refine AllReadyH.cons rfl (fun K hK => ?_) (AllReadyH.cons rfl (fun K hK => ?_) AllReadyH.nil)
    · go_simp
      refine (HS10.out _ HB13.out).mono ?_
      rintro e' w15 ⟨rfl, hb⟩
      have HB15 := Lib.hid (HB13.out.trans (hb.mono HB13.out.size))
      clear hb hHeld
      refine hK.out _ _ HB15.out (fun hHeld => ?_)
      clear hK K
      try simp only [Act.put, List.getElem_toArray, List.getElem_cons_zero, List.getElem_cons_succ, List.setIfInBounds_toArray, List.set_cons_zero, List.set_cons_succ]
      refine wpAnyH_ready (rs := [8, 34]) (by kernel_rfl) (by simp) ?_
      refine AllReadyH.cons rfl (fun K hK => ?_) (AllReadyH.cons rfl (fun K hK => ?_) AllReadyH.nil)
      · go_simp
        refine (HS16.out _ HB15.out).mono ?_
        rintro e' w17 ⟨rfl, hb⟩
        have HB17 := Lib.hid (HB15.out.trans (hb.mono HB15.out.size))
        clear hb hHeld
        refine hK.out _ _ HB17.out (fun hHeld => ?_)
        clear hK K
        try simp only [Act.put, List.getElem_toArray, List.getElem_cons_zero, List.getElem_cons_succ, List.setIfInBounds_toArray, List.set_cons_zero, List.set_cons_succ]
        refine wpAnyH_ready (rs := [11, 34]) (by kernel_rfl) (by simp) ?_
        refine AllReadyH.cons rfl (fun K hK => ?_) (AllReadyH.cons rfl (fun K hK => ?_) AllReadyH.nil)
        · go_simp
          refine (HNM.out _ HB17.out).mono ?_
          rintro e' w19 ⟨rfl, hb⟩
          have HB19 := Lib.hid (HB17.out.trans (hb.mono HB17.out.size))
          clear hb hHeld
          refine hK.out _ _ HB19.out (fun hHeld => ?_)
          clear hK K
          try simp only [Act.put, List.getElem_toArray, List.getElem_cons_zero, List.getElem_cons_succ, List.setIfInBounds_toArray, List.set_cons_zero, List.set_cons_succ]
          refine wpAnyH_take (i := 12) (v := ?_) rfl (by kernel_rfl) (by kernel_rfl) (by kernel_rfl) (fun _ _ _ h => h) (Or.inl ⟨by rfl, ?_⟩) (by assumption) ?_
          rotate_left
          · intro w hSw
            obtain ⟨e1, e24⟩ := HL.out w hSw
            clear hSw
            go_simp
            try with_reducible rfl
          try simp only [Act.put, List.getElem_toArray, List.getElem_cons_zero, List.getElem_cons_succ, List.setIfInBounds_toArray, List.set_cons_zero, List.set_cons_succ]
          refine wpAnyH_take (i := 33) (v := .agg (⟨six xs 4, six xs 10, six xs 16, bits .and .u8 v24 15, (v22 + v23 * 256) / 16, bits .and .u8 v1 8 != 0, bits .and .u8 v1 32 != 0, bits .and .u8 v24 16 != 0, none, 0, 0⟩ : Qf).cells) rfl (by kernel_rfl) (by kernel_rfl) (by kernel_rfl) (fun _ _ _ h => h) (Or.inl ⟨by rfl, ?_⟩) (by assumption) ?_
          · intro w hSw
            clear hSw
            go_simp
          try simp only [Act.put, List.getElem_toArray, List.getElem_cons_zero, List.getElem_cons_succ, List.setIfInBounds_toArray, List.set_cons_zero, List.set_cons_succ]
          refine wpAnyH_ready (rs := [34]) (by kernel_rfl) (by simp) ?_
          refine AllReadyH.cons rfl (fun K hK => ?_) AllReadyH.nil
          have HZ21 := Lib.hid (heap_alloc_last w19 (.cells q0.cells 26))
          have HB21 := Lib.hid (HB19.out.alloc HB19.out.size (.cells q0.cells 26))
          have HE21 := Lib.hid (show w19.heap.size < (w19.alloc (.cells q0.cells 26)).heap.size by simp)
          have HGE := Lib.hid HB19.out.size
          clear hHeld
          go_simp
          refine hK.out _ _ HB21.out (fun hHeld => ?_)
          clear hK K
          dsimp only [q0, Qf.cells] at HZ21 HB21 HE21 hHeld
          generalize World.alloc w19 _ = w21 at *
          generalize w19.heap.size = h4 at *
          try simp only [Act.put, List.getElem_toArray, List.getElem_cons_zero, List.getElem_cons_succ, List.setIfInBounds_toArray, List.set_cons_zero, List.set_cons_succ]
          refine wpAnyH_ready (rs := [35]) (by kernel_rfl) (by simp) ?_
          refine AllReadyH.cons rfl (fun K hK => ?_) AllReadyH.nil
          rw [if_pos (by rfl)]
          refine wp_store_row _ _ _ rfl _ (⟨six xs 4, six xs 10, six xs 16, bits .and .u8 v24 15, (v22 + v23 * 256) / 16, bits .and .u8 v1 8 != 0, bits .and .u8 v1 32 != 0, bits .and .u8 v24 16 != 0, none, 0, 0⟩ : Qf).cells rfl rfl 26 q0.cells HZ21.out size26 rfl (Qf.oneCell _) ?_
          have HBZ := Lib.hid (below_setRow HB21.out HGE.out (⟨six xs 4, six xs 10, six xs 16, bits .and .u8 v24 15, (v22 + v23 * 256) / 16, bits .and .u8 v1 8 != 0, bits .and .u8 v1 32 != 0, bits .and .u8 v24 16 != 0, none, 0, 0⟩ : Qf).cells)
          have HFZ := Lib.hid (setRow_heap _ _ _ (⟨six xs 4, six xs 10, six xs 16, bits .and .u8 v24 15, (v22 + v23 * 256) / 16, bits .and .u8 v1 8 != 0, bits .and .u8 v1 32 != 0, bits .and .u8 v24 16 != 0, none, 0, 0⟩ : Qf).cells _ _ HZ21.out)
          clear hHeld
          refine hK.out _ _ HBZ.out (fun hHeld => ?_)
          clear hK K hHeld
          refine wpAnyH_done (by kernel_rfl) ?_ _
          try simp only [Act.put, List.getElem_toArray, List.getElem_cons_zero, List.getElem_cons_succ, List.setIfInBounds_toArray, List.set_cons_zero, List.set_cons_succ]
          exact KEY _ _ HBZ HGE HFZ
        · have HZ20 := Lib.hid (heap_alloc_last w17 (.cells q0.cells 26))
          have HB20 := Lib.hid (HB17.out.alloc HB17.out.size (.cells q0.cells 26))
          have HE20 := Lib.hid (show w17.heap.size < (w17.alloc (.cells q0.cells 26)).heap.size by simp)
          have HGE := Lib.hid HB17.out.size
          clear hHeld
          go_simp
          refine hK.out _ _ HB20.out (fun hHeld => ?_)
          clear hK K
          dsimp only [q0, Qf.cells] at HZ20 HB20 HE20 hHeld
          generalize World.alloc w17 _ = w20 at *
          generalize w17.heap.size = h4 at *
          try simp only [Act.put, List.getElem_toArray, List.getElem_cons_zero, List.getElem_cons_succ, List.setIfInBounds_toArray, List.set_cons_zero, List.set_cons_succ]
          refine wpAnyH_ready (rs := [11]) (by kernel_rfl) (by simp) ?_
          refine AllReadyH.cons rfl (fun K hK => ?_) AllReadyH.nil
          go_simp
          refine (HNM.out _ HB20.out).mono ?_
          rintro e' w22 ⟨rfl, hb⟩
          have HB22 := Lib.hid (HB20.out.trans (hb.mono HB20.out.size))
          have HZ22 := Lib.hid ((hb.block _ HE20.out).trans HZ20.out)
          have HE22 := Lib.hid (Nat.lt_of_lt_of_le HE20.out hb.size)
          clear hb hHeld
          refine hK.out _ _ HB22.out (fun hHeld => ?_)
          clear hK K
          try simp only [Act.put, List.getElem_toArray, List.getElem_cons_zero, List.getElem_cons_succ, List.setIfInBounds_toArray, List.set_cons_zero, List.set_cons_succ]
          refine wpAnyH_take (i := 12) (v := ?_) rfl (by kernel_rfl) (by kernel_rfl) (by kernel_rfl) (fun _ _ _ h => h) (Or.inl ⟨by rfl, ?_⟩) (by assumption) ?_
          rotate_left
          · intro w hSw
            obtain ⟨e1, e24⟩ := HL.out w hSw
            clear hSw
            go_simp
            try with_reducible rfl
          try simp only [Act.put, List.getElem_toArray, List.getElem_cons_zero, List.getElem_cons_succ, List.setIfInBounds_toArray, List.set_cons_zero, List.set_cons_succ]
          refine wpAnyH_take (i := 33) (v := .agg (⟨six xs 4, six xs 10, six xs 16, bits .and .u8 v24 15, (v22 + v23 * 256) / 16, bits .and .u8 v1 8 != 0, bits .and .u8 v1 32 != 0, bits .and .u8 v24 16 != 0, none, 0, 0⟩ : Qf).cells) rfl (by kernel_rfl) (by kernel_rfl) (by kernel_rfl) (fun _ _ _ h => h) (Or.inl ⟨by rfl, ?_⟩) (by assumption) ?_
          · intro w hSw
            clear hSw
            go_simp
          try simp only [Act.put, List.getElem_toArray, List.getElem_cons_zero, List.getElem_cons_succ, List.setIfInBounds_toArray, List.set_cons_zero, List.set_cons_succ]
          refine wpAnyH_ready (rs := [35]) (by kernel_rfl) (by simp) ?_
          refine AllReadyH.cons rfl (fun K hK => ?_) AllReadyH.nil
          rw [if_pos (by rfl)]
          refine wp_store_row _ _ _ rfl _ (⟨six xs 4, six xs 10, six xs 16, bits .and .u8 v24 15, (v22 + v23 * 256) / 16, bits .and .u8 v1 8 != 0, bits .and .u8 v1 32 != 0, bits .and .u8 v24 16 != 0, none, 0, 0⟩ : Qf).cells rfl rfl 26 q0.cells HZ22.out size26 rfl (Qf.oneCell _) ?_
          have HBZ := Lib.hid (below_setRow HB22.out HGE.out (⟨six xs 4, six xs 10, six xs 16, bits .and .u8 v24 15, (v22 + v23 * 256) / 16, bits .and .u8 v1 8 != 0, bits .and .u8 v1 32 != 0, bits .and .u8 v24 16 != 0, none, 0, 0⟩ : Qf).cells)
          have HFZ := Lib.hid (setRow_heap _ _ _ (⟨six xs 4, six xs 10, six xs 16, bits .and .u8 v24 15, (v22 + v23 * 256) / 16, bits .and .u8 v1 8 != 0, bits .and .u8 v1 32 != 0, bits .and .u8 v24 16 != 0, none, 0, 0⟩ : Qf).cells _ _ HZ22.out)
          clear hHeld
          refine hK.out _ _ HBZ.out (fun hHeld => ?_)
          clear hK K hHeld
          refine wpAnyH_done (by kernel_rfl) ?_ _
          try simp only [Act.put, List.getElem_toArray, List.getElem_cons_zero, List.getElem_cons_succ, List.setIfInBounds_toArray, List.set_cons_zero, List.set_cons_succ]
          exact KEY _ _ HBZ HGE HFZ
      · have HZ18 := Lib.hid (heap_alloc_last w15 (.cells q0.cells 26))
        have HB18 := Lib.hid (HB15.out.alloc HB15.out.size (.cells q0.cells 26))
        have HE18 := Lib.hid (show w15.heap.size < (w15.alloc (.cells q0.cells 26)).heap.size by simp)
        have HGE := Lib.hid HB15.out.size
        clear hHeld
        go_simp
        refine hK.out _ _ HB18.out (fun hHeld => ?_)
        clear hK K
        dsimp only [q0, Qf.cells] at HZ18 HB18 HE18 hHeld
        generalize World.alloc w15 _ = w18 at *
        generalize w15.heap.size = h4 at *
        try simp only [Act.put, List.getElem_toArray, List.getElem_cons_zero, List.getElem_cons_succ, List.setIfInBounds_toArray, List.set_cons_zero, List.set_cons_succ]
        refine wpAnyH_ready (rs := [8]) (by kernel_rfl) (by simp) ?_
        refine AllReadyH.cons rfl (fun K hK => ?_) AllReadyH.nil
        go_simp
        refine (HS16.out _ HB18.out).mono ?_
        rintro e' w23 ⟨rfl, hb⟩
        have HB23 := Lib.hid (HB18.out.trans (hb.mono HB18.out.size))
        have HZ23 := Lib.hid ((hb.block _ HE18.out).trans HZ18.out)
        have HE23 := Lib.hid (Nat.lt_of_lt_of_le HE18.out hb.size)
        clear hb hHeld
        refine hK.out _ _ HB23.out (fun hHeld => ?_)
        clear hK K
        try simp only [Act.put, List.getElem_toArray, List.getElem_cons_zero, List.getElem_cons_succ, List.setIfInBounds_toArray, List.set_cons_zero, List.set_cons_succ]
        refine wpAnyH_ready (rs := [11]) (by kernel_rfl) (by simp) ?_
        refine AllReadyH.cons rfl (fun K hK => ?_) AllReadyH.nil
        go_simp
        refine (HNM.out _ HB23.out).mono ?_
        rintro e' w24 ⟨rfl, hb⟩
        have HB24 := Lib.hid (HB23.out.trans (hb.mono HB23.out.size))
        have HZ24 := Lib.hid ((hb.block _ HE23.out).trans HZ23.out)
        have HE24 := Lib.hid (Nat.lt_of_lt_of_le HE23.out hb.size)
        clear hb hHeld
        refine hK.out _ _ HB24.out (fun hHeld => ?_)
        clear hK K
        try simp only [Act.put, List.getElem_toArray, List.getElem_cons_zero, List.getElem_cons_succ, List.setIfInBounds_toArray, List.set_cons_zero, List.set_cons_succ]
        refine wpAnyH_take (i := 12) (v := ?_) rfl (by kernel_rfl) (by kernel_rfl) (by kernel_rfl) (fun _ _ _ h => h) (Or.inl ⟨by rfl, ?_⟩) (by assumption) ?_
        rotate_left
        · intro w hSw
          obtain ⟨e1, e24⟩ := HL.out w hSw
          clear hSw
          go_simp
          try with_reducible rfl
        try simp only [Act.put, List.getElem_toArray, List.getElem_cons_zero, List.getElem_cons_succ, List.setIfInBounds_toArray, List.set_cons_zero, List.set_cons_succ]
        refine wpAnyH_take (i := 33) (v := .agg (⟨six xs 4, six xs 10, six xs 16, bits .and .u8 v24 15, (v22 + v23 * 256) / 16, bits .and .u8 v1 8 != 0, bits .and .u8 v1 32 != 0, bits .and .u8 v24 16 != 0, none, 0, 0⟩ : Qf).cells) rfl (by kernel_rfl) (by kernel_rfl) (by kernel_rfl) (fun _ _ _ h => h) (Or.inl ⟨by rfl, ?_⟩) (by assumption) ?_
        · intro w hSw
          clear hSw
          go_simp
        try simp only [Act.put, List.getElem_toArray, List.getElem_cons_zero, List.getElem_cons_succ, List.setIfInBounds_toArray, List.set_cons_zero, List.set_cons_succ]
        refine wpAnyH_ready (rs := [35]) (by kernel_rfl) (by simp) ?_
        refine AllReadyH.cons rfl (fun K hK => ?_) AllReadyH.nil
        rw [if_pos (by rfl)]
        refine wp_store_row _ _ _ rfl _ (⟨six xs 4, six xs 10, six xs 16, bits .and .u8 v24 15, (v22 + v23 * 256) / 16, bits .and .u8 v1 8 != 0, bits .and .u8 v1 32 != 0, bits .and .u8 v24 16 != 0, none, 0, 0⟩ : Qf).cells rfl rfl 26 q0.cells HZ24.out size26 rfl (Qf.oneCell _) ?_
        have HBZ := Lib.hid (below_setRow HB24.out HGE.out (⟨six xs 4, six xs 10, six xs 16, bits .and .u8 v24 15, (v22 + v23 * 256) / 16, bits .and .u8 v1 8 != 0, bits .and .u8 v1 32 != 0, bits .and .u8 v24 16 != 0, none, 0, 0⟩ : Qf).cells)
        have HFZ := Lib.hid (setRow_heap _ _ _ (⟨six xs 4, six xs 10, six xs 16, bits .and .u8 v24 15, (v22 + v23 * 256) / 16, bits .and .u8 v1 8 != 0, bits .and .u8 v1 32 != 0, bits .and .u8 v24 16 != 0, none, 0, 0⟩ : Qf).cells _ _ HZ24.out)
        clear hHeld
        refine hK.out _ _ HBZ.out (fun hHeld => ?_)
        clear hK K hHeld
        refine wpAnyH_done (by kernel_rfl) ?_ _
        try simp only [Act.put, List.getElem_toArray, List.getElem_cons_zero, List.getElem_cons_succ, List.setIfInBounds_toArray, List.set_cons_zero, List.set_cons_succ]
        exact KEY _ _ HBZ HGE HFZ
    · have HZ16 := Lib.hid (heap_alloc_last w13 (.cells q0.cells 26))
      have HB16 := Lib.hid (HB13.out.alloc HB13.out.size (.cells q0.cells 26))
      have HE16 := Lib.hid (show w13.heap.size < (w13.alloc (.cells q0.cells 26)).heap.size by simp)
      have HGE := Lib.hid HB13.out.size
      clear hHeld
      go_simp
      refine hK.out _ _ HB16.out (fun hHeld => ?_)
      clear hK K
      dsimp only [q0, Qf.cells] at HZ16 HB16 HE16 hHeld
      generalize World.alloc w13 _ = w16 at *
      generalize w13.heap.size = h4 at *
      try simp only [Act.put, List.getElem_toArray, List.getElem_cons_zero, List.getElem_cons_succ, List.setIfInBounds_toArray, List.set_cons_zero, List.set_cons_succ]
      refine wpAnyH_ready (rs := [5]) (by kernel_rfl) (by simp) ?_
      refine AllReadyH.cons rfl (fun K hK => ?_) AllReadyH.nil
      go_simp
      refine (HS10.out _ HB16.out).mono ?_
      rintro e' w25 ⟨rfl, hb⟩
      have HB25 := Lib.hid (HB16.out.trans (hb.mono HB16.out.size))
      have HZ25 := Lib.hid ((hb.block _ HE16.out).trans HZ16.out)
      have HE25 := Lib.hid (Nat.lt_of_lt_of_le HE16.out hb.size)
      clear hb hHeld
      refine hK.out _ _ HB25.out (fun hHeld => ?_)
      clear hK K
      try simp only [Act.put, List.getElem_toArray, List.getElem_cons_zero, List.getElem_cons_succ, List.setIfInBounds_toArray, List.set_cons_zero, List.set_cons_succ]
      refine wpAnyH_ready (rs := [8]) (by kernel_rfl) (by simp) ?_
      refine AllReadyH.cons rfl (fun K hK => ?_) AllReadyH.nil
      go_simp
      refine (HS16.out _ HB25.out).mono ?_
      rintro e' w26 ⟨rfl, hb⟩
      have HB26 := Lib.hid (HB25.out.trans (hb.mono HB25.out.size))
      have HZ26 := Lib.hid ((hb.block _ HE25.out).trans HZ25.out)
      have HE26 := Lib.hid (Nat.lt_of_lt_of_le HE25.out hb.size)
      clear hb hHeld
      refine hK.out _ _ HB26.out (fun hHeld => ?_)
      clear hK K
      try simp only [Act.put, List.getElem_toArray, List.getElem_cons_zero, List.getElem_cons_succ, List.setIfInBounds_toArray, List.set_cons_zero, List.set_cons_succ]
      refine wpAnyH_ready (rs := [11]) (by kernel_rfl) (by simp) ?_
      refine AllReadyH.cons rfl (fun K hK => ?_) AllReadyH.nil
      go_simp
      refine (HNM.out _ HB26.out).mono ?_
      rintro e' w27 ⟨rfl, hb⟩
      have HB27 := Lib.hid (HB26.out.trans (hb.mono HB26.out.size))
      have HZ27 := Lib.hid ((hb.block _ HE26.out).trans HZ26.out)
      have HE27 := Lib.hid (Nat.lt_of_lt_of_le HE26.out hb.size)
      clear hb hHeld
      refine hK.out _ _ HB27.out (fun hHeld => ?_)
      clear hK K
      try simp only [Act.put, List.getElem_toArray, List.getElem_cons_zero, List.getElem_cons_succ, List.setIfInBounds_toArray, List.set_cons_zero, List.set_cons_succ]
      refine wpAnyH_take (i := 12) (v := ?_) rfl (by kernel_rfl) (by kernel_rfl) (by kernel_rfl) (fun _ _ _ h => h) (Or.inl ⟨by rfl, ?_⟩) (by assumption) ?_
      rotate_left
      · intro w hSw
        obtain ⟨e1, e24⟩ := HL.out w hSw
        clear hSw
        go_simp
        try with_reducible rfl
      try simp only [Act.put, List.getElem_toArray, List.getElem_cons_zero, List.getElem_cons_succ, List.setIfInBounds_toArray, List.set_cons_zero, List.set_cons_succ]
      refine wpAnyH_take (i := 33) (v := .agg (⟨six xs 4, six xs 10, six xs 16, bits .and .u8 v24 15, (v22 + v23 * 256) / 16, bits .and .u8 v1 8 != 0, bits .and .u8 v1 32 != 0, bits .and .u8 v24 16 != 0, none, 0, 0⟩ : Qf).cells) rfl (by kernel_rfl) (by kernel_rfl) (by kernel_rfl) (fun _ _ _ h => h) (Or.inl ⟨by rfl, ?_⟩) (by assumption) ?_
      · intro w hSw
        clear hSw
        go_simp
      try simp only [Act.put, List.getElem_toArray, List.getElem_cons_zero, List.getElem_cons_succ, List.setIfInBounds_toArray, List.set_cons_zero, List.set_cons_succ]
      refine wpAnyH_ready (rs := [35]) (by kernel_rfl) (by simp) ?_
      refine AllReadyH.cons rfl (fun K hK => ?_) AllReadyH.nil
      rw [if_pos (by rfl)]
      refine wp_store_row _ _ _ rfl _ (⟨six xs 4, six xs 10, six xs 16, bits .and .u8 v24 15, (v22 + v23 * 256) / 16, bits .and .u8 v1 8 != 0, bits .and .u8 v1 32 != 0, bits .and .u8 v24 16 != 0, none, 0, 0⟩ : Qf).cells rfl rfl 26 q0.cells HZ27.out size26 rfl (Qf.oneCell _) ?_
      have HBZ := Lib.hid (below_setRow HB27.out HGE.out (⟨six xs 4, six xs 10, six xs 16, bits .and .u8 v24 15, (v22 + v23 * 256) / 16, bits .and .u8 v1 8 != 0, bits .and .u8 v1 32 != 0, bits .and .u8 v24 16 != 0, none, 0, 0⟩ : Qf).cells)
      have HFZ := Lib.hid (setRow_heap _ _ _ (⟨six xs 4, six xs 10, six xs 16, bits .and .u8 v24 15, (v22 + v23 * 256) / 16, bits .and .u8 v1 8 != 0, bits .and .u8 v1 32 != 0, bits .and .u8 v24 16 != 0, none, 0, 0⟩ : Qf).cells _ _ HZ27.out)
      clear hHeld
      refine hK.out _ _ HBZ.out (fun hHeld => ?_)
      clear hK K hHeld
      refine wpAnyH_done (by kernel_rfl) ?_ _
      try simp only [Act.put, List.getElem_toArray, List.getElem_cons_zero, List.getElem_cons_succ, List.setIfInBounds_toArray, List.set_cons_zero, List.set_cons_succ]
      exact KEY _ _ HBZ HGE HFZ
  · have HZ14 := Lib.hid (heap_alloc_last w2 (.cells q0.cells 26))
    have HB14 := Lib.hid (HB2.out.alloc HB2.out.size (.cells q0.cells 26))
    have HE14 := Lib.hid (show w2.heap.size < (w2.alloc (.cells q0.cells 26)).heap.size by simp)
    have HGE := Lib.hid HB2.out.size
    clear hHeld
    go_simp
    refine hK.out _ _ HB14.out (fun hHeld => ?_)
    clear hK K
    dsimp only [q0, Qf.cells] at HZ14 HB14 HE14 hHeld
    generalize World.alloc w2 _ = w14 at *
    generalize w2.heap.size = h4 at *
    try simp only [Act.put, List.getElem_toArray, List.getElem_cons_zero, List.getElem_cons_succ, List.setIfInBounds_toArray, List.set_cons_zero, List.set_cons_succ]
    refine wpAnyH_ready (rs := [2]) (by kernel_rfl) (by simp) ?_
    refine AllReadyH.cons rfl (fun K hK => ?_) AllReadyH.nil
    go_simp
    refine (HS4.out _ HB14.out).mono ?_
    rintro e' w28 ⟨rfl, hb⟩
    have HB28 := Lib.hid (HB14.out.trans (hb.mono HB14.out.size))
    have HZ28 := Lib.hid ((hb.block _ HE14.out).trans HZ14.out)
    have HE28 := Lib.hid (Nat.lt_of_lt_of_le HE14.out hb.size)
    clear hb hHeld
    refine hK.out _ _ HB28.out (fun hHeld => ?_)
    clear hK K
    try simp only [Act.put, List.getElem_toArray, List.getElem_cons_zero, List.getElem_cons_succ, List.setIfInBounds_toArray, List.set_cons_zero, List.set_cons_succ]
    refine wpAnyH_ready (rs := [5]) (by kernel_rfl) (by simp) ?_
    refine AllReadyH.cons rfl (fun K hK => ?_) AllReadyH.nil
    go_simp
    refine (HS10.out _ HB28.out).mono ?_
    rintro e' w29 ⟨rfl, hb⟩
    have HB29 := Lib.hid (HB28.out.trans (hb.mono HB28.out.size))
    have HZ29 := Lib.hid ((hb.block _ HE28.out).trans HZ28.out)
    have HE29 := Lib.hid (Nat.lt_of_lt_of_le HE28.out hb.size)
    clear hb hHeld
    refine hK.out _ _ HB29.out (fun hHeld => ?_)
    clear hK K
    try simp only [Act.put, List.getElem_toArray, List.getElem_cons_zero, List.getElem_cons_succ, List.setIfInBounds_toArray, List.set_cons_zero, List.set_cons_succ]
    refine wpAnyH_ready (rs := [8]) (by kernel_rfl) (by simp) ?_
    refine AllReadyH.cons rfl (fun K hK => ?_) AllReadyH.nil
    go_simp
    refine (HS16.out _ HB29.out).mono ?_
    rintro e' w30 ⟨rfl, hb⟩
    have HB30 := Lib.hid (HB29.out.trans (hb.mono HB29.out.size))
    have HZ30 := Lib.hid ((hb.block _ HE29.out).trans HZ29.out)
    have HE30 := Lib.hid (Nat.lt_of_lt_of_le HE29.out hb.size)
    clear hb hHeld
    refine hK.out _ _ HB30.out (fun hHeld => ?_)
    clear hK K
    try simp only [Act.put, List.getElem_toArray, List.getElem_cons_zero, List.getElem_cons_succ, List.setIfInBounds_toArray, List.set_cons_zero, List.set_cons_succ]
    refine wpAnyH_ready (rs := [11]) (by kernel_rfl) (by simp) ?_
    refine AllReadyH.cons rfl (fun K hK => ?_) AllReadyH.nil
    go_simp
    refine (HNM.out _ HB30.out).mono ?_
    rintro e' w31 ⟨rfl, hb⟩
    have HB31 := Lib.hid (HB30.out.trans (hb.mono HB30.out.size))
    have HZ31 := Lib.hid ((hb.block _ HE30.out).trans HZ30.out)
    have HE31 := Lib.hid (Nat.lt_of_lt_of_le HE30.out hb.size)
    clear hb hHeld
    refine hK.out _ _ HB31.out (fun hHeld => ?_)
    clear hK K
    try simp only [Act.put, List.getElem_toArray, List.getElem_cons_zero, List.getElem_cons_succ, List.setIfInBounds_toArray, List.set_cons_zero, List.set_cons_succ]
    refine wpAnyH_take (i := 12) (v := ?_) rfl (by kernel_rfl) (by kernel_rfl) (by kernel_rfl) (fun _ _ _ h => h) (Or.inl ⟨by rfl, ?_⟩) (by assumption) ?_
    rotate_left
    · intro w hSw
      obtain ⟨e1, e24⟩ := HL.out w hSw
      clear hSw
      go_simp
      try with_reducible rfl
    try simp only [Act.put, List.getElem_toArray, List.getElem_cons_zero, List.getElem_cons_succ, List.setIfInBounds_toArray, List.set_cons_zero, List.set_cons_succ]
    refine wpAnyH_take (i := 33) (v := .agg (⟨six xs 4, six xs 10, six xs 16, bits .and .u8 v24 15, (v22 + v23 * 256) / 16, bits .and .u8 v1 8 != 0, bits .and .u8 v1 32 != 0, bits .and .u8 v24 16 != 0, none, 0, 0⟩ : Qf).cells) rfl (by kernel_rfl) (by kernel_rfl) (by kernel_rfl) (fun _ _ _ h => h) (Or.inl ⟨by rfl, ?_⟩) (by assumption) ?_
    · intro w hSw
      clear hSw
      go_simp
    try simp only [Act.put, List.getElem_toArray, List.getElem_cons_zero, List.getElem_cons_succ, List.setIfInBounds_toArray, List.set_cons_zero, List.set_cons_succ]
    refine wpAnyH_ready (rs := [35]) (by kernel_rfl) (by simp) ?_
    refine AllReadyH.cons rfl (fun K hK => ?_) AllReadyH.nil
    rw [if_pos (by rfl)]
    refine wp_store_row _ _ _ rfl _ (⟨six xs 4, six xs 10, six xs 16, bits .and .u8 v24 15, (v22 + v23 * 256) / 16, bits .and .u8 v1 8 != 0, bits .and .u8 v1 32 != 0, bits .and .u8 v24 16 != 0, none, 0, 0⟩ : Qf).cells rfl rfl 26 q0.cells HZ31.out size26 rfl (Qf.oneCell _) ?_
    have HBZ := Lib.hid (below_setRow HB31.out HGE.out (⟨six xs 4, six xs 10, six xs 16, bits .and .u8 v24 15, (v22 + v23 * 256) / 16, bits .and .u8 v1 8 != 0, bits .and .u8 v1 32 != 0, bits .and .u8 v24 16 != 0, none, 0, 0⟩ : Qf).cells)
    have HFZ := Lib.hid (setRow_heap _ _ _ (⟨six xs 4, six xs 10, six xs 16, bits .and .u8 v24 15, (v22 + v23 * 256) / 16, bits .and .u8 v1 8 != 0, bits .and .u8 v1 32 != 0, bits .and .u8 v24 16 != 0, none, 0, 0⟩ : Qf).cells _ _ HZ31.out)
    clear hHeld
    refine hK.out _ _ HBZ.out (fun hHeld => ?_)
    clear hK K hHeld
    refine wpAnyH_done (by kernel_rfl) ?_ _
    try simp only [Act.put, List.getElem_toArray, List.getElem_cons_zero, List.getElem_cons_succ, List.setIfInBounds_toArray, List.set_cons_zero, List.set_cons_succ]
    exact KEY _ _ HBZ HGE HFZ
end Go.Proofs.YtogcpommidfmnaaDoor
