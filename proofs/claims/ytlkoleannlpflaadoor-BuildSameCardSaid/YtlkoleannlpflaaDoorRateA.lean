/-
  CONTRACTS of package rate: kindOf, within, width, widthPlace, trainings; of the reference's width, in.
-/
import Derived.Test.YtlkoleannlpflaaDoorRowS
import Derived.Test.YtlkoleannlpflaaDoorRateM
import Derived.Test.YtlkoleannlpflaaDoorLaidR
namespace Go.Proofs.YtlkoleannlpflaaDoor
open Go.ChangeShapes Go.WideShapes Go.ChangeAt Go.RowKit
set_option linter.unusedVariables false
set_option linter.unusedSimpArgs false

def kindI (m : Int) : List Int :=
  if m = 1 then [8, 1, 1, 1, 0, 0, 0, 0, 40, 0, 0, 200, 0]
  else if m = 2 then [8, 4, 2, 2, 52, 108, 0, 0, 40, 36, 0, 320, 40]
  else if m = 3 then [10, 8, 4, 2, 52, 108, 234, 468, 40, 36, 0, 360, 40]
  else if m = 4 then [12, 8, 4, 3, 234, 468, 980, 1960, 160, 144, 136, 360, 80]
  else [0, 0, 0, 0, 0, 0, 0, 0, 0, 0, 0, 0, 0]
def kc (l : List Int) : Array Value := (l.map (Value.int .i64)).toArray
def kindC (m : Int) : Array Value := kc (kindI m)
theorem kind_1 : kindI 1 = [8, 1, 1, 1, 0, 0, 0, 0, 40, 0, 0, 200, 0] := rfl
theorem kind_2 : kindI 2 = [8, 4, 2, 2, 52, 108, 0, 0, 40, 36, 0, 320, 40] := rfl
theorem kind_3 : kindI 3 = [10, 8, 4, 2, 52, 108, 234, 468, 40, 36, 0, 360, 40] := rfl
theorem kind_4 : kindI 4 = [12, 8, 4, 3, 234, 468, 980, 1960, 160, 144, 136, 360, 80] := rfl
theorem kind_0 {m : Int} (h1 : m ≠ 1) (h2 : m ≠ 2) (h3 : m ≠ 3) (h4 : m ≠ 4) : kindI m = [0, 0, 0, 0, 0, 0, 0, 0, 0, 0, 0, 0, 0] := by
  unfold kindI; rw [if_neg h1, if_neg h2, if_neg h3, if_neg h4]
theorem sizeKind : (Tryd.prog.info? 54).map (·.size) = some 13 := by kernel_rfl
theorem kindI_len (m : Int) : (kindI m).length = 13 := by
  unfold kindI
  by_cases h1 : m = 1
  · rw [if_pos h1]; rfl
  by_cases h2 : m = 2
  · rw [if_neg h1, if_pos h2]; rfl
  by_cases h3 : m = 3
  · rw [if_neg h1, if_neg h2, if_pos h3]; rfl
  by_cases h4 : m = 4
  · rw [if_neg h1, if_neg h2, if_neg h3, if_pos h4]; rfl
  · rw [if_neg h1, if_neg h2, if_neg h3, if_neg h4]; rfl
theorem kc_size (l : List Int) : (kc l).size = l.length := by simp [kc]
theorem kc_at (l : List Int) (i : Nat) (h : i < l.length) : (kc l)[i]? = some (.int .i64 (l.getD i 0)) := by simp [kc, List.getD, h]
theorem kc_one (l : List Int) : (kc l).all (·.oneCell') = true := by
  rw [Array.all_eq_true_iff_forall_mem]
  intro v hv
  simp [kc] at hv
  obtain ⟨z, -, rfl⟩ := hv
  rfl
def zk : Array Value := kc [0, 0, 0, 0, 0, 0, 0, 0, 0, 0, 0, 0, 0]
set_option maxRecDepth 100000 in
set_option maxHeartbeats 4000000 in
theorem kindOf_any (m : Int) (w : World) :
    Calls Tryd.prog 27 #[.int .i64 m] w fun e w' => e = .returned (.agg (kindC m)) ∧ Below w.heap.size w w' := by
  have hC : (kindC m).size = 13 := by unfold kindC; rw [kc_size, kindI_len]
  have HB := Lib.hid ((Below.refl w.heap.size w).alloc (Nat.le_refl _) (.cells (kindC m) 54))
  have HG := Lib.hid (heap_alloc_last w (.cells (kindC m) 54))
  by_cases h1 : m = 1
  · subst h1
    have HV := Lib.hid (show Value.agg (kc (kindI 1)) = .agg (kindC 1) from rfl)
    rw [kind_1] at HV
    simp only [kc, List.map] at HV
    go_enter Tryd.func27, Tryd.ntmps27
    go_wp2_with (refine wpList_store_row rfl 54 (.tmp 2) (.tmp 7) rfl w.heap.size (kindC 1) rfl HV.out 54 zk (heap_alloc_last _ _) (by rw [hC]; exact sizeKind) (by rw [hC]; rfl) (kc_one _) ?_; rw [World.setRow_alloc_new]; generalize World.alloc w _ = w4 at *)
    refine bodyPost_ret (v := .agg (kindC 1)) (results_cell1 (p := 2) Tryd.results27 _ _ w.heap.size _ (kindC 1) _ _ rfl HG.out Tryd.underlying54 rfl (by rw [hC]; exact sizeKind)) rfl ⟨rfl, HB.out⟩
  by_cases h2 : m = 2
  · subst h2
    have HV := Lib.hid (show Value.agg (kc (kindI 2)) = .agg (kindC 2) from rfl)
    rw [kind_2] at HV
    simp only [kc, List.map] at HV
    go_enter Tryd.func27, Tryd.ntmps27
    go_wp2_with (refine wpList_store_row rfl 54 (.tmp 2) (.tmp 12) rfl w.heap.size (kindC 2) rfl HV.out 54 zk (heap_alloc_last _ _) (by rw [hC]; exact sizeKind) (by rw [hC]; rfl) (kc_one _) ?_; rw [World.setRow_alloc_new]; generalize World.alloc w _ = w4 at *)
    refine bodyPost_ret (v := .agg (kindC 2)) (results_cell1 (p := 2) Tryd.results27 _ _ w.heap.size _ (kindC 2) _ _ rfl HG.out Tryd.underlying54 rfl (by rw [hC]; exact sizeKind)) rfl ⟨rfl, HB.out⟩
  by_cases h3 : m = 3
  · subst h3
    have HV := Lib.hid (show Value.agg (kc (kindI 3)) = .agg (kindC 3) from rfl)
    rw [kind_3] at HV
    simp only [kc, List.map] at HV
    go_enter Tryd.func27, Tryd.ntmps27
    go_wp2_with (refine wpList_store_row rfl 54 (.tmp 2) (.tmp 17) rfl w.heap.size (kindC 3) rfl HV.out 54 zk (heap_alloc_last _ _) (by rw [hC]; exact sizeKind) (by rw [hC]; rfl) (kc_one _) ?_; rw [World.setRow_alloc_new]; generalize World.alloc w _ = w4 at *)
    refine bodyPost_ret (v := .agg (kindC 3)) (results_cell1 (p := 2) Tryd.results27 _ _ w.heap.size _ (kindC 3) _ _ rfl HG.out Tryd.underlying54 rfl (by rw [hC]; exact sizeKind)) rfl ⟨rfl, HB.out⟩
  by_cases h4 : m = 4
  · subst h4
    have HV := Lib.hid (show Value.agg (kc (kindI 4)) = .agg (kindC 4) from rfl)
    rw [kind_4] at HV
    simp only [kc, List.map] at HV
    go_enter Tryd.func27, Tryd.ntmps27
    go_wp2_with (refine wpList_store_row rfl 54 (.tmp 2) (.tmp 22) rfl w.heap.size (kindC 4) rfl HV.out 54 zk (heap_alloc_last _ _) (by rw [hC]; exact sizeKind) (by rw [hC]; rfl) (kc_one _) ?_; rw [World.setRow_alloc_new]; generalize World.alloc w _ = w4 at *)
    refine bodyPost_ret (v := .agg (kindC 4)) (results_cell1 (p := 2) Tryd.results27 _ _ w.heap.size _ (kindC 4) _ _ rfl HG.out Tryd.underlying54 rfl (by rw [hC]; exact sizeKind)) rfl ⟨rfl, HB.out⟩
  have HV := Lib.hid (show Value.agg (kc (kindI m)) = .agg (kindC m) from rfl)
  rw [kind_0 h1 h2 h3 h4] at HV
  simp only [kc, List.map] at HV
  have e1 : (m == 1) = false := by simpa using h1
  have e2 : (m == 2) = false := by simpa using h2
  have e3 : (m == 3) = false := by simpa using h3
  have e4 : (m == 4) = false := by simpa using h4
  clear h1 h2 h3 h4
  go_enter Tryd.func27, Tryd.ntmps27
  go_wp2_with (refine wpList_store_row rfl 54 (.tmp 2) (.tmp 23) rfl w.heap.size (kindC m) rfl HV.out 54 zk (heap_alloc_last _ _) (by rw [hC]; exact sizeKind) (by rw [hC]; rfl) (kc_one _) ?_; rw [World.setRow_alloc_new]; generalize World.alloc w _ = w4 at *)
  refine bodyPost_ret (v := .agg (kindC m)) (results_cell1 (p := 2) Tryd.results27 _ _ w.heap.size _ (kindC m) _ _ rfl HG.out Tryd.underlying54 rfl (by rw [hC]; exact sizeKind)) rfl ⟨rfl, HB.out⟩

/-! ### within, width, widthPlace, trainings; the reference's width, in -/
def withB (n m : Int) : Bool := decide (0 ≤ n) && decide (n < m)
set_option maxRecDepth 100000 in
theorem within_any (n m : Int) (w : World) :
    Calls Tryd.prog 28 #[.int .i64 n, .int .i64 m] w fun e w' => e = .returned (.bool (withB n m)) ∧ w = w' := by
  cases e1 : decide (0 ≤ n)
  · have HE := Lib.hid (show false = withB n m by unfold withB; rw [e1]; rfl)
    go_enter Tryd.func28, Tryd.ntmps28
    go_wp2
    go_ret
    exact ⟨ret_bool HE.out, rfl⟩
  · have HE := Lib.hid (show decide (n < m) = withB n m by unfold withB; rw [e1]; rfl)
    go_enter Tryd.func28, Tryd.ntmps28
    go_wp2
    go_ret
    exact ⟨ret_bool HE.out, rfl⟩
set_option maxRecDepth 100000 in
theorem in_any (n m : Int) (w : World) :
    Calls Tryd.prog 31 #[.int .i64 n, .int .i64 m] w fun e w' => e = .returned (.bool (inB n m)) ∧ w = w' := by
  cases e1 : decide (0 ≤ n)
  · have HE := Lib.hid (show false = inB n m by unfold inB; rw [e1]; rfl)
    go_enter Tryd.func31, Tryd.ntmps31
    go_wp2
    go_ret
    exact ⟨ret_bool HE.out, rfl⟩
  · have HE := Lib.hid (show decide (n ≤ m) = inB n m by unfold inB; rw [e1]; rfl)
    go_enter Tryd.func31, Tryd.ntmps31
    go_wp2
    go_ret
    exact ⟨ret_bool HE.out, rfl⟩
def widthI (k : Int) : Int := if k = 0 then 20 else if k = 1 then 40 else if k = 2 then 80 else 160
set_option maxRecDepth 100000 in
theorem width_any (k : Int) (w : World) (h0 : 0 ≤ k) (h3 : k ≤ 3) :
    Calls Tryd.prog 37 #[.int .i64 k] w fun e w' => e = .returned (.int .i64 (widthI k)) ∧ w = w' := by
  rcases (by omega : k = 0 ∨ k = 1 ∨ k = 2 ∨ k = 3) with rfl | rfl | rfl | rfl
  · go_enter Tryd.func37, Tryd.ntmps37
    go_wp2
    go_ret
    exact ⟨rfl, rfl⟩
  · go_enter Tryd.func37, Tryd.ntmps37
    go_wp2
    go_ret
    exact ⟨rfl, rfl⟩
  · go_enter Tryd.func37, Tryd.ntmps37
    go_wp2
    go_ret
    exact ⟨rfl, rfl⟩
  · go_enter Tryd.func37, Tryd.ntmps37
    go_wp2
    go_ret
    exact ⟨rfl, rfl⟩
theorem wid_20 : wid 20 = 0 := rfl
theorem wid_40 : wid 40 = 1 := rfl
theorem wid_80 : wid 80 = 2 := rfl
theorem wid_160 : wid 160 = 3 := rfl
theorem wid_no {w : Int} (h0 : w ≠ 20) (h1 : w ≠ 40) (h2 : w ≠ 80) (h3 : w ≠ 160) : wid w = -1 := by
  unfold wid; rw [if_neg h0, if_neg h1, if_neg h2, if_neg h3]
set_option maxRecDepth 100000 in
theorem place_any (v : Int) (w : World) :
    Calls Tryd.prog 29 #[.int .i64 v] w fun e w' => e = .returned (.int .i64 (wid v)) ∧ w = w' := by
  have HW := Lib.hid (show ∀ k : Int, 0 ≤ k → k ≤ 3 → v = widthI k → wid v = k from fun k h0 h3 e => by
    rcases (by omega : k = 0 ∨ k = 1 ∨ k = 2 ∨ k = 3) with rfl | rfl | rfl | rfl <;> (subst e; rfl))
  have HN := Lib.hid (show (∀ k : Int, 0 ≤ k → k < 4 → v ≠ widthI k) → wid v = -1 from fun h => wid_no (h 0 (by omega) (by omega)) (h 1 (by omega) (by omega)) (h 2 (by omega) (by omega)) (h 3 (by omega) (by omega)))
  go_enter Tryd.func29, Tryd.ntmps29
  go_wp2
  go_loop [4] (fun i => ∃ k : Nat, k ≤ 4 ∧ i = .int .i64 k ∧ ∀ j : Int, 0 ≤ j → j < k → v ≠ widthI j) (fun i => 4 - (intOf i).toNat)
  case atStart => exact ⟨0, by omega, rfl, fun j h0 h1 => by omega⟩
  case round =>
    obtain ⟨k, hk, rfl, hno⟩ := hrel
    have HO := Lib.hid hno
    clear hno
    by_cases hlt : k < 4
    · by_cases he : v = widthI k
      · have HA := Lib.hid (HW.out k (by omega) (by omega) he)
        have e1 : (v == widthI (k : Int)) = true := by simpa using he
        clear he
        go_wp2_with (go_at_call 37; refine (width_any k _ (by omega) (by omega)).mono ?_; rintro e w' ⟨rfl, rfl⟩)
        go_ret
        exact ⟨ret_int HA.out.symm, rfl⟩
      · have HA := Lib.hid (show ∀ j : Int, 0 ≤ j → j < ((k + 1 : Nat) : Int) → v ≠ widthI j from fun j h0 h1 => by
          by_cases hj : j = k
          · rw [hj]; exact he
          · exact HO.out j h0 (by omega))
        have e1 : (v == widthI (k : Int)) = false := by simpa using he
        clear he
        go_wp2_with (go_at_call 37; refine (width_any k _ (by omega) (by omega)).mono ?_; rintro e w' ⟨rfl, rfl⟩)
        go_round
        case rel => exact ⟨k + 1, by omega, by go_num, HA.out⟩
        case measure => simp [intOf]; omega
    · have hk4 : k = 4 := by omega
      subst hk4
      have HA := Lib.hid (HN.out fun j h0 h1 => HO.out j h0 (by omega))
      go_wp2
      go_ret
      exact ⟨ret_int HA.out.symm, rfl⟩
set_option maxRecDepth 100000 in
theorem refwidth_any (v : Int) (w : World) :
    Calls Tryd.prog 30 #[.int .i64 v] w fun e w' => e = .returned (.int .i64 (wid v)) ∧ w = w' := by
  by_cases h0 : v = 20
  · subst h0
    go_enter Tryd.func30, Tryd.ntmps30
    go_wp2
    go_ret
    exact ⟨rfl, rfl⟩
  by_cases h1 : v = 40
  · subst h1
    go_enter Tryd.func30, Tryd.ntmps30
    go_wp2
    go_ret
    exact ⟨rfl, rfl⟩
  by_cases h2 : v = 80
  · subst h2
    go_enter Tryd.func30, Tryd.ntmps30
    go_wp2
    go_ret
    exact ⟨rfl, rfl⟩
  by_cases h3 : v = 160
  · subst h3
    go_enter Tryd.func30, Tryd.ntmps30
    go_wp2
    go_ret
    exact ⟨rfl, rfl⟩
  have HA := Lib.hid (wid_no h0 h1 h2 h3)
  have e0 : (v == 20) = false := by simpa using h0
  have e1 : (v == 40) = false := by simpa using h1
  have e2 : (v == 80) = false := by simpa using h2
  have e3 : (v == 160) = false := by simpa using h3
  clear h0 h1 h2 h3
  go_enter Tryd.func30, Tryd.ntmps30
  go_wp2
  go_ret
  exact ⟨ret_int HA.out.symm, rfl⟩
def trainI (n : Int) : Int := if n = 1 then 1 else n + n % 2
theorem train_eq {n : Int} (h0 : 1 ≤ n) (h8 : n ≤ 8) : trainI n = trainR n := by
  rcases (by omega : n = 1 ∨ n = 2 ∨ n = 3 ∨ n = 4 ∨ n = 5 ∨ n = 6 ∨ n = 7 ∨ n = 8) with rfl | rfl | rfl | rfl | rfl | rfl | rfl | rfl <;> rfl
set_option maxRecDepth 100000 in
theorem train_any (n : Int) (w : World) (h0 : 1 ≤ n) (h8 : n ≤ 8) :
    Calls Tryd.prog 38 #[.int .i64 n] w fun e w' => e = .returned (.int .i64 (trainR n)) ∧ w = w' := by
  have HT := Lib.hid (train_eq h0 h8)
  rcases (by omega : n = 1 ∨ n = 2 ∨ n = 3 ∨ n = 4 ∨ n = 5 ∨ n = 6 ∨ n = 7 ∨ n = 8) with rfl | rfl | rfl | rfl | rfl | rfl | rfl | rfl
  · go_enter Tryd.func38, Tryd.ntmps38
    go_wp2
    go_ret
    exact ⟨rfl, rfl⟩
  · go_enter Tryd.func38, Tryd.ntmps38
    go_wp2
    go_ret
    exact ⟨rfl, rfl⟩
  · go_enter Tryd.func38, Tryd.ntmps38
    go_wp2
    go_ret
    exact ⟨rfl, rfl⟩
  · go_enter Tryd.func38, Tryd.ntmps38
    go_wp2
    go_ret
    exact ⟨rfl, rfl⟩
  · go_enter Tryd.func38, Tryd.ntmps38
    go_wp2
    go_ret
    exact ⟨rfl, rfl⟩
  · go_enter Tryd.func38, Tryd.ntmps38
    go_wp2
    go_ret
    exact ⟨rfl, rfl⟩
  · go_enter Tryd.func38, Tryd.ntmps38
    go_wp2
    go_ret
    exact ⟨rfl, rfl⟩
  · go_enter Tryd.func38, Tryd.ntmps38
    go_wp2
    go_ret
    exact ⟨rfl, rfl⟩
end Go.Proofs.YtlkoleannlpflaaDoor
