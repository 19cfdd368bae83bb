/-
  CONTRACTS: slices.Index, slices.Contains, act.begins, bytes.Equal, the reference's session.
-/
import Derived.Test.YtjgingfcfmpfaaaDoorActA
import Derived.Laws.BytesArg
namespace Go.Proofs.YtjgingfcfmpfaaaDoor
open Go.ChangeShapes Go.WideShapes Go.ChangeAt Go.RowKit
set_option linter.unusedVariables false
set_option linter.unusedSimpArgs false

theorem notmem_step {xs : List Int} {v : Int} {k : Nat} (h : v ∉ xs.take k) (hk : k < xs.length) (e : xs.getD k 0 ≠ v) : v ∉ xs.take (k + 1) := by
  rw [take_snoc hk]
  simp only [List.mem_append, List.mem_singleton, not_or]
  exact ⟨h, fun hh => e hh.symm⟩
set_option maxRecDepth 100000 in
set_option maxHeartbeats 8000000 in
theorem index_any (A : Option Addr) (n c : Nat) (xs : List Int) (v : Int) (w : World) (h : RowB .u8 w A n xs) :
    Calls Tryd.prog 43 #[.slice A n c, .int .u8 v] w fun e w' => (∃ i : Int, e = .returned (.int .i64 i) ∧ (0 ≤ i ↔ v ∈ xs)) ∧ w = w' := by
  have hl := h.len
  have hle := h.le
  unfold maxLen at hle
  have HC := Lib.hid (fun i hi => h.el i hi)
  have HL := Lib.hid hl
  clear h hl
  go_enter Tryd.func43, Tryd.ntmps43
  go_wp2
  go_loop [8] (fun i => ∃ k : Nat, k ≤ n ∧ i = .int .i64 k ∧ v ∉ xs.take k) (fun i => n - (intOf i).toNat)
  case atStart => exact ⟨0, by omega, rfl, by simp⟩
  case round =>
    obtain ⟨k, hk, rfl, hnot⟩ := hrel
    by_cases hlt : k < n
    · obtain ⟨b, off, rfl, hc⟩ := HC.out k hlt
      have hi : (k : Int) < (n : Int) := by omega
      by_cases he : xs.getD k 0 = v
      · have HS := Lib.hid (show (0 : Int) ≤ (k : Int) ↔ v ∈ xs by
          refine ⟨fun _ => ?_, fun _ => by omega⟩
          rw [← he]; exact mem_getD (by rw [HL.out]; exact hlt))
        rw [he] at hc
        clear he hnot
        go_wp2
        go_ret
        exact ⟨⟨_, rfl, HS.out⟩, rfl⟩
      · have HS := Lib.hid (notmem_step hnot (by rw [HL.out]; exact hlt) he)
        have hb' : (v == xs.getD k 0) = false := by simpa using fun h => he h.symm
        generalize xs.getD k 0 = x at *
        clear he hnot
        go_wp2
        go_round
        case rel => exact ⟨k + 1, by omega, by go_num, HS.out⟩
        case measure => simp [intOf]; omega
    · have HS := Lib.hid (show (0 : Int) ≤ -1 ↔ v ∈ xs by
        rw [List.take_of_length_le (by rw [HL.out]; omega)] at hnot
        exact ⟨fun h => by omega, fun h => absurd h hnot⟩)
      clear hnot
      go_wp2
      go_ret
      exact ⟨⟨_, rfl, HS.out⟩, rfl⟩
set_option maxRecDepth 100000 in
set_option maxHeartbeats 8000000 in
theorem contains_any (A : Option Addr) (n c : Nat) (xs : List Int) (v : Int) (w : World) (h : RowB .u8 w A n xs) :
    Calls Tryd.prog 40 #[.slice A n c, .int .u8 v] w fun e w' => e = .returned (.bool (decide (v ∈ xs))) ∧ w = w' := by
  have HI := Lib.hid (index_any A n c xs v w h)
  clear h
  go_enter Tryd.func40, Tryd.ntmps40
  go_wp2_with (fail)
  refine HI.out.mono ?_
  rintro e w' ⟨⟨i, rfl, hi⟩, rfl⟩
  have HS := Lib.hid (show decide ((0 : Int) ≤ i) = decide (v ∈ xs) by simp only [hi])
  clear hi
  go_wp2
  go_ret
  exact ⟨ret_b HS.out.symm, rfl⟩

/-- what the beginning and the length say; 0: nothing amiss. -/
def begA (xs : List Int) (n : Nat) (size : Int) (ks : List Int) : Nat := if n ≤ 25 then 101 else if xs.getD 0 0 ≠ 208 ∨ xs.getD 24 0 ≠ 3 ∨ xs.getD 25 0 ∉ ks then 105 else if (n : Int) < size then 101 else if size < (n : Int) then 102 else 0
theorem begA_4 (xs : List Int) (n : Nat) (size : Int) (ks : List Int) : begA xs n size ks = 0 ∨ begA xs n size ks ∈ S4 := by
  unfold begA
  repeat' split
  all_goals first | exact .inl rfl | exact .inr (by decide)
theorem begA_fine {xs : List Int} {n : Nat} {size : Int} {ks : List Int} (h : begA xs n size ks = 0) : (n : Int) = size ∧ 25 < n ∧ xs.getD 0 0 = 208 ∧ xs.getD 24 0 = 3 ∧ xs.getD 25 0 ∈ ks := by
  unfold begA at h
  by_cases h1 : n ≤ 25
  · rw [if_pos h1] at h; cases h
  rw [if_neg h1] at h
  by_cases h2 : xs.getD 0 0 ≠ 208 ∨ xs.getD 24 0 ≠ 3 ∨ xs.getD 25 0 ∉ ks
  · rw [if_pos h2] at h; cases h
  rw [if_neg h2] at h
  by_cases h3 : (n : Int) < size
  · rw [if_pos h3] at h; cases h
  rw [if_neg h3] at h
  by_cases h4 : size < (n : Int)
  · rw [if_pos h4] at h; cases h
  simp only [not_or, Decidable.not_not] at h2
  exact ⟨by omega, by omega, h2⟩
theorem begA_is {xs : List Int} {n : Nat} {size : Int} {ks : List Int} (h : (n : Int) = size) (h1 : 25 < n) (h2 : xs.getD 0 0 = 208) (h3 : xs.getD 24 0 = 3) (h4 : xs.getD 25 0 ∈ ks) : begA xs n size ks = 0 := by
  unfold begA
  rw [if_neg (by omega), if_neg (by simp only [not_or, Decidable.not_not]; exact ⟨h2, h3, h4⟩), if_neg (by omega), if_neg (by omega)]

set_option maxRecDepth 100000 in
set_option maxHeartbeats 8000000 in
theorem begins_any (A : Option Addr) (n c : Nat) (xs : List Int) (size : Int) (K : Option Addr) (m d : Nat) (ks : List Int) (E : Nat → Addr) (w : World) (h : RowB .u8 w A n xs) (hk : RowB .u8 w K m ks) (hS : Sent w E S4) :
    Calls Tryd.prog 29 #[.slice A n c, .int .i64 size, .slice K m d] w fun e w' => e = .returned (errV E (begA xs n size ks)) ∧ w = w' := by
  have h101 := hS.at_ 101 (by decide)
  have h102 := hS.at_ 102 (by decide)
  have h105 := hS.at_ 105 (by decide)
  simp only [gOf] at h101 h102 h105
  have hle := h.le
  unfold maxLen at hle
  have HE := Lib.hid (show errV E (begA xs n size ks) = if n ≤ 25 then errP (E 101) else if xs.getD 0 0 ≠ 208 ∨ xs.getD 24 0 ≠ 3 ∨ xs.getD 25 0 ∉ ks then errP (E 105) else if (n : Int) < size then errP (E 101) else if size < (n : Int) then errP (E 102) else .nilIface by
    unfold begA
    repeat' split
    all_goals rfl)
  generalize errV E (begA xs n size ks) = r at *
  generalize E 101 = e1 at *
  generalize E 102 = e2 at *
  generalize E 105 = e5 at *
  clear hS
  by_cases hp : n ≤ 25
  · have hp1 : decide ((n : Int) ≤ 25) = true := by simp; omega
    have hp2 : decide ((n : Int) < 26) = true := by simp; omega
    clear h
    have HV := Lib.hid (show r = errP e1 by rw [HE.out, if_pos hp])
    go_enter Tryd.func29, Tryd.ntmps29
    go_wp2
    go_ret
    exact ⟨ret_vv HV.out, rfl⟩
  have hp1 : decide ((n : Int) ≤ 25) = false := by simp; omega
  have hp2 : decide ((n : Int) < 26) = false := by simp; omega
  obtain ⟨b, off, rfl, hc⟩ := h.cells (by omega)
  have c0 := hc 0 (by omega)
  rw [Nat.add_zero] at c0
  have c24 := hc 24 (by omega)
  have c25 := hc 25 (by omega)
  have b0 : (0 : Int) < (n : Int) := by omega
  have b24 : (24 : Int) < (n : Int) := by omega
  have b25 : (25 : Int) < (n : Int) := by omega
  have HE1 := Lib.hid (show r = if xs.getD 0 0 ≠ 208 ∨ xs.getD 24 0 ≠ 3 ∨ xs.getD 25 0 ∉ ks then errP e5 else if (n : Int) < size then errP e1 else if size < (n : Int) then errP e2 else .nilIface by rw [HE.out, if_neg hp])
  clear HE hc h hp
  generalize xs.getD 0 0 = v0 at *
  generalize xs.getD 24 0 = v24 at *
  generalize xs.getD 25 0 = v25 at *
  cases e0 : (v0 != 208)
  case true =>
    have HV := Lib.hid (show r = errP e5 by rw [HE1.out, if_pos (.inl (by simpa using e0))])
    go_enter Tryd.func29, Tryd.ntmps29
    go_wp2
    go_ret
    exact ⟨ret_vv HV.out, rfl⟩
  cases e24 : (v24 != 3)
  case true =>
    have HV := Lib.hid (show r = errP e5 by rw [HE1.out, if_pos (.inr (.inl (by simpa using e24)))])
    go_enter Tryd.func29, Tryd.ntmps29
    go_wp2
    go_ret
    exact ⟨ret_vv HV.out, rfl⟩
  have f0 : v0 = 208 := by simpa using e0
  have f24 : v24 = 3 := by simpa using e24
  have HK := Lib.hid (contains_any K m d ks v25 w hk)
  clear hk
  cases e25 : decide (v25 ∈ ks)
  case false =>
    rw [e25] at HK
    have HV := Lib.hid (show r = errP e5 by rw [HE1.out, if_pos (.inr (.inr (of_decide_eq_false e25)))])
    go_enter Tryd.func29, Tryd.ntmps29
    go_wp2_with (fail)
    refine HK.out.mono ?_
    rintro e w' ⟨rfl, rfl⟩
    go_wp2
    go_ret
    exact ⟨ret_vv HV.out, rfl⟩
  rw [e25] at HK
  have HE2 := Lib.hid (show r = if (n : Int) < size then errP e1 else if size < (n : Int) then errP e2 else .nilIface by rw [HE1.out, if_neg (by simp only [not_or, Decidable.not_not]; exact ⟨f0, f24, of_decide_eq_true e25⟩)])
  clear HE1 e25 f0 f24
  cases h1 : decide ((n : Int) < size)
  · cases h2 : decide (size < (n : Int))
    · have HV := Lib.hid (show r = .nilIface by rw [HE2.out, if_neg (of_decide_eq_false h1), if_neg (of_decide_eq_false h2)])
      go_enter Tryd.func29, Tryd.ntmps29
      go_wp2_with (fail)
      refine HK.out.mono ?_
      rintro e w' ⟨rfl, rfl⟩
      go_wp2
      go_ret
      exact ⟨ret_vv HV.out, rfl⟩
    · have HV := Lib.hid (show r = errP e2 by rw [HE2.out, if_neg (of_decide_eq_false h1), if_pos (of_decide_eq_true h2)])
      go_enter Tryd.func29, Tryd.ntmps29
      go_wp2_with (fail)
      refine HK.out.mono ?_
      rintro e w' ⟨rfl, rfl⟩
      go_wp2
      go_ret
      exact ⟨ret_vv HV.out, rfl⟩
  · have HV := Lib.hid (show r = errP e1 by rw [HE2.out, if_pos (of_decide_eq_true h1)])
    go_enter Tryd.func29, Tryd.ntmps29
    go_wp2_with (fail)
    refine HK.out.mono ?_
    rintro e w' ⟨rfl, rfl⟩
    go_wp2
    go_ret
    exact ⟨ret_vv HV.out, rfl⟩

/-- the kinds between two, as a list of them. -/
def between (lo hi : Int) (ks : List Int) : Prop := ∀ v, 0 ≤ v → v ≤ 255 → (v ∈ ks ↔ lo ≤ v ∧ v ≤ hi)
theorem between01 : between 0 1 [0, 1] := by intro v h0 h1; simp; omega
theorem between22 : between 2 2 [2] := by intro v h0 h1; simp; omega
set_option maxRecDepth 100000 in
set_option maxHeartbeats 8000000 in
theorem session_any (A : Option Addr) (n c : Nat) (xs : List Int) (lo hi size : Int) (ks : List Int) (w : World) (h : RowB .u8 w A n xs) (hk : between lo hi ks) :
    Calls Tryd.prog 33 #[.slice A n c, .int .u8 lo, .int .u8 hi, .int .i64 size] w fun e w' => e = .returned (.int .i64 (begA xs n size ks)) ∧ w = w' := by
  have hle := h.le
  unfold maxLen at hle
  have HE := Lib.hid (show Value.int .i64 (begA xs n size ks) = if n ≤ 25 then .int .i64 101 else if xs.getD 0 0 ≠ 208 ∨ xs.getD 24 0 ≠ 3 ∨ xs.getD 25 0 ∉ ks then .int .i64 105 else if (n : Int) < size then .int .i64 101 else if size < (n : Int) then .int .i64 102 else .int .i64 0 by
    unfold begA
    repeat' split
    all_goals rfl)
  generalize Value.int .i64 (begA xs n size ks) = r at *
  by_cases hp : n ≤ 25
  · have hp1 : decide ((n : Int) ≤ 25) = true := by simp; omega
    have hp2 : decide ((n : Int) < 26) = true := by simp; omega
    clear h
    have HV := Lib.hid (show r = .int .i64 101 by rw [HE.out, if_pos hp])
    go_enter Tryd.func33, Tryd.ntmps33
    go_wp2
    go_ret
    exact ⟨ret_vv HV.out, rfl⟩
  have hp1 : decide ((n : Int) ≤ 25) = false := by simp; omega
  have hp2 : decide ((n : Int) < 26) = false := by simp; omega
  obtain ⟨b, off, rfl, hc⟩ := h.cells (by omega)
  have c0 := hc 0 (by omega)
  rw [Nat.add_zero] at c0
  have c24 := hc 24 (by omega)
  have c25 := hc 25 (by omega)
  have b0 : (0 : Int) < (n : Int) := by omega
  have b24 : (24 : Int) < (n : Int) := by omega
  have b25 : (25 : Int) < (n : Int) := by omega
  have HE1 := Lib.hid (show r = if xs.getD 0 0 ≠ 208 ∨ xs.getD 24 0 ≠ 3 ∨ xs.getD 25 0 ∉ ks then .int .i64 105 else if (n : Int) < size then .int .i64 101 else if size < (n : Int) then .int .i64 102 else .int .i64 0 by rw [HE.out, if_neg hp])
  have hw := hk (xs.getD 25 0) (h.wf8 25 (by omega)).1 (h.wf8 25 (by omega)).2
  clear hk
  clear HE hc h hp
  generalize xs.getD 0 0 = v0 at *
  generalize xs.getD 24 0 = v24 at *
  generalize xs.getD 25 0 = v25 at *
  cases e0 : (v0 != 208)
  case true =>
    have HV := Lib.hid (show r = .int .i64 105 by rw [HE1.out, if_pos (.inl (by simpa using e0))])
    go_enter Tryd.func33, Tryd.ntmps33
    go_wp2
    go_ret
    exact ⟨ret_vv HV.out, rfl⟩
  cases e24 : (v24 != 3)
  case true =>
    have HV := Lib.hid (show r = .int .i64 105 by rw [HE1.out, if_pos (.inr (.inl (by simpa using e24)))])
    go_enter Tryd.func33, Tryd.ntmps33
    go_wp2
    go_ret
    exact ⟨ret_vv HV.out, rfl⟩
  have f0 : v0 = 208 := by simpa using e0
  have f24 : v24 = 3 := by simpa using e24
  cases e25 : decide (v25 < lo)
  case true =>
    have hn : v25 ∉ ks := fun hh => by have := (hw.1 hh).1; simp at e25; omega
    clear hw
    have HV := Lib.hid (show r = .int .i64 105 by rw [HE1.out, if_pos (.inr (.inr hn))])
    go_enter Tryd.func33, Tryd.ntmps33
    go_wp2
    go_ret
    exact ⟨ret_vv HV.out, rfl⟩
  cases e26 : decide (hi < v25)
  case true =>
    have hn : v25 ∉ ks := fun hh => by have := (hw.1 hh).2; simp at e26; omega
    clear hw
    have HV := Lib.hid (show r = .int .i64 105 by rw [HE1.out, if_pos (.inr (.inr hn))])
    go_enter Tryd.func33, Tryd.ntmps33
    go_wp2
    go_ret
    exact ⟨ret_vv HV.out, rfl⟩
  have hn : v25 ∈ ks := hw.2 (by simp at e25 e26; omega)
  have HE2 := Lib.hid (show r = if (n : Int) < size then .int .i64 101 else if size < (n : Int) then .int .i64 102 else .int .i64 0 by rw [HE1.out, if_neg (by simp only [not_or, Decidable.not_not]; exact ⟨f0, f24, hn⟩)])
  clear HE1 hw hn f0 f24
  cases h1 : decide ((n : Int) < size)
  · cases h2 : decide (size < (n : Int))
    · have HV := Lib.hid (show r = .int .i64 0 by rw [HE2.out, if_neg (of_decide_eq_false h1), if_neg (of_decide_eq_false h2)])
      go_enter Tryd.func33, Tryd.ntmps33
      go_wp2
      go_ret
      exact ⟨ret_vv HV.out, rfl⟩
    · have HV := Lib.hid (show r = .int .i64 102 by rw [HE2.out, if_neg (of_decide_eq_false h1), if_pos (of_decide_eq_true h2)])
      go_enter Tryd.func33, Tryd.ntmps33
      go_wp2
      go_ret
      exact ⟨ret_vv HV.out, rfl⟩
  · have HV := Lib.hid (show r = .int .i64 101 by rw [HE2.out, if_pos (of_decide_eq_true h1)])
    go_enter Tryd.func33, Tryd.ntmps33
    go_wp2
    go_ret
    exact ⟨ret_vv HV.out, rfl⟩

theorem num_inj {a b : Int} (ha : 0 ≤ a ∧ a ≤ 255) (hb : 0 ≤ b ∧ b ≤ 255) (h : UInt8.ofNat a.toNat = UInt8.ofNat b.toNat) : a = b := by
  have := congrArg UInt8.toNat h
  rw [UInt8.toNat_ofNat', UInt8.toNat_ofNat'] at this
  omega
theorem str_eq {xs ys : List Int} (hx : ∀ v ∈ xs, 0 ≤ v ∧ v ≤ 255) (hy : ∀ v ∈ ys, 0 ≤ v ∧ v ≤ 255) : ((strOfNums xs).toList == (strOfNums ys).toList) = sameB xs ys := by
  rw [ByteArray.toList_eq, ByteArray.toList_eq, strOfNums_data, strOfNums_data]
  unfold sameB
  rw [Bool.eq_iff_iff]
  simp only [beq_iff_eq, decide_eq_true_eq]
  refine ⟨fun h2 => ?_, fun h => by rw [h]⟩
  induction xs generalizing ys with
  | nil => cases ys with
    | nil => rfl
    | cons y ys => simp at h2
  | cons x xs ih => cases ys with
    | nil => simp at h2
    | cons y ys =>
      simp only [List.map_cons, List.cons.injEq] at h2
      rw [num_inj (hx x List.mem_cons_self) (hy y List.mem_cons_self) h2.1, ih (fun v hv => hx v (List.mem_cons_of_mem _ hv)) (fun v hv => hy v (List.mem_cons_of_mem _ hv)) h2.2]
theorem RowB.mem8 {w : World} {A : Option Addr} {n : Nat} {xs : List Int} (h : RowB .u8 w A n xs) : ∀ v ∈ xs, 0 ≤ v ∧ v ≤ 255 := by
  intro v hv
  obtain ⟨i, hi, rfl⟩ := List.getElem_of_mem hv
  have := h.wf8 i (by have := h.len; omega)
  simpa [List.getD, hi] using this
set_option maxRecDepth 100000 in
set_option maxHeartbeats 8000000 in
theorem equal_any (a o n c b p m d : Nat) (xs ys : List Int) (w : World) (hx : RowB .u8 w (some ⟨a, o, none⟩) n xs) (hy : RowB .u8 w (some ⟨b, p, none⟩) m ys) (hn : 0 < n) (hm : 0 < m) :
    Calls Tryd.prog 32 #[.slice (some ⟨a, o, none⟩) n c, .slice (some ⟨b, p, none⟩) m d] w fun e w' => e = .returned (.bool (sameB xs ys)) ∧ w = w' := by
  have k1 := run_convert_bytes_arg (P := Tryd.prog) w 28 5 Tryd.underlying28 Tryd.underlying5 a o n c xs hx.len (fun i hi => hx.at_ i hi) 9 Tryd.underlying9
  have k2 := run_convert_bytes_arg (P := Tryd.prog) w 28 5 Tryd.underlying28 Tryd.underlying5 b p m d ys hy.len (fun i hi => hy.at_ i hi) 9 Tryd.underlying9
  have HE := Lib.hid (str_eq hx.mem8 hy.mem8)
  generalize sameB xs ys = r at *
  clear hx hy
  go_enter Tryd.func32, Tryd.ntmps32
  go_wp2
  go_ret
  exact ⟨ret_b HE.out.symm, rfl⟩
end Go.Proofs.YtjgingfcfmpfaaaDoor
