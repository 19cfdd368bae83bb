/-
  CONTRACT of act.ReadDel; what reading answers.
-/
import Derived.Test.YtjgingfcfmpfaaaDoorActE
import Derived.Test.YtjgingfcfmpfaaaDoorPart
namespace Go.Proofs.YtjgingfcfmpfaaaDoor
open Go.ChangeShapes Go.WideShapes Go.ChangeAt Go.RowKit
set_option linter.unusedVariables false
set_option linter.unusedSimpArgs false

/-- the Del, the Add, of zeros; those that bytes say; what reading answers. -/
abbrev d0 : Dlf := ⟨⟨0, 0, 0, 0, 0, 0⟩, ⟨0, 0, 0, 0, 0, 0⟩, ⟨0, 0, 0, 0, 0, 0⟩, false, 0, 0⟩
abbrev a0 : Adf := ⟨⟨0, 0, 0, 0, 0, 0⟩, ⟨0, 0, 0, 0, 0, 0⟩, ⟨0, 0, 0, 0, 0, 0⟩, false, 0, 0, 0, 0, 0, 0⟩
def decDel (xs : List Int) : Dlf := ⟨six xs 4, six xs 10, six xs 16, bits .and .i64 (numAt xs 26) 2048 != 0, numAt xs 26 / 4096, numAt xs 28⟩
def decAdd (xs : List Int) : Adf :=
  if xs.getD 25 0 = 1 then ⟨six xs 4, six xs 10, six xs 16, true, xs.getD 26 0, numAt xs 29 % 64 / 4, numAt xs 29 / 64, numAt xs 31, 0, numAt xs 27⟩
  else ⟨six xs 4, six xs 10, six xs 16, false, xs.getD 26 0, numAt xs 27 % 64 / 4, numAt xs 27 / 64, numAt xs 29, numAt xs 31 / 16, 0⟩
def rdDel (xs : List Int) (n : Nat) : Nat := if begA xs n 30 [2] ≠ 0 then begA xs n 30 [2] else if (okDel (decDel xs) && sameB (encDel (decDel xs)) xs) = true then 0 else 102
def rdAdd (xs : List Int) (n : Nat) : Nat := if begA xs n 33 [0, 1] ≠ 0 then begA xs n 33 [0, 1] else if (okAdd (decAdd xs) && sameB (encAdd (decAdd xs)) xs) = true then 0 else 102
def outDel (xs : List Int) (n : Nat) : Dlf := if rdDel xs n = 0 then decDel xs else d0
def outAdd (xs : List Int) (n : Nat) : Adf := if rdAdd xs n = 0 then decAdd xs else a0
theorem rdDel_4 (xs : List Int) (n : Nat) : rdDel xs n = 0 ∨ rdDel xs n ∈ S4 := by
  unfold rdDel
  repeat' split
  all_goals first | exact begA_4 _ _ _ _ | exact .inl rfl | exact .inr (by decide)
theorem rdAdd_4 (xs : List Int) (n : Nat) : rdAdd xs n = 0 ∨ rdAdd xs n ∈ S4 := by
  unfold rdAdd
  repeat' split
  all_goals first | exact begA_4 _ _ _ _ | exact .inl rfl | exact .inr (by decide)
theorem rdDel_beg {xs : List Int} {n : Nat} (h : begA xs n 30 [2] ≠ 0) : rdDel xs n = begA xs n 30 [2] ∧ outDel xs n = d0 := by
  have e : rdDel xs n = begA xs n 30 [2] := by unfold rdDel; rw [if_pos h]
  exact ⟨e, by unfold outDel; rw [if_neg (by rw [e]; exact h)]⟩
theorem rdDel_bad {xs : List Int} {n : Nat} (h : begA xs n 30 [2] = 0) (h2 : (okDel (decDel xs) && sameB (encDel (decDel xs)) xs) = false) : rdDel xs n = 102 ∧ outDel xs n = d0 := by
  have e : rdDel xs n = 102 := by unfold rdDel; rw [if_neg (by simp [h]), if_neg (by simp [h2])]
  exact ⟨e, by unfold outDel; rw [if_neg (by rw [e]; decide)]⟩
theorem rdDel_good {xs : List Int} {n : Nat} (h : begA xs n 30 [2] = 0) (h2 : (okDel (decDel xs) && sameB (encDel (decDel xs)) xs) = true) : rdDel xs n = 0 ∧ outDel xs n = decDel xs := by
  have e : rdDel xs n = 0 := by unfold rdDel; rw [if_neg (by simp [h]), if_pos h2]
  exact ⟨e, by unfold outDel; rw [if_pos e]⟩
theorem rdAdd_beg {xs : List Int} {n : Nat} (h : begA xs n 33 [0, 1] ≠ 0) : rdAdd xs n = begA xs n 33 [0, 1] ∧ outAdd xs n = a0 := by
  have e : rdAdd xs n = begA xs n 33 [0, 1] := by unfold rdAdd; rw [if_pos h]
  exact ⟨e, by unfold outAdd; rw [if_neg (by rw [e]; exact h)]⟩
theorem rdAdd_bad {xs : List Int} {n : Nat} (h : begA xs n 33 [0, 1] = 0) (h2 : (okAdd (decAdd xs) && sameB (encAdd (decAdd xs)) xs) = false) : rdAdd xs n = 102 ∧ outAdd xs n = a0 := by
  have e : rdAdd xs n = 102 := by unfold rdAdd; rw [if_neg (by simp [h]), if_neg (by simp [h2])]
  exact ⟨e, by unfold outAdd; rw [if_neg (by rw [e]; decide)]⟩
theorem rdAdd_good {xs : List Int} {n : Nat} (h : begA xs n 33 [0, 1] = 0) (h2 : (okAdd (decAdd xs) && sameB (encAdd (decAdd xs)) xs) = true) : rdAdd xs n = 0 ∧ outAdd xs n = decAdd xs := by
  have e : rdAdd xs n = 0 := by unfold rdAdd; rw [if_neg (by simp [h]), if_pos h2]
  exact ⟨e, by unfold outAdd; rw [if_pos e]⟩
theorem mem_bytes {l : List Int} (h : l.all (fun v => decide (0 ≤ v) && decide (v ≤ 255)) = true) : ∀ v ∈ l, 0 ≤ v ∧ v ≤ 255 := by
  intro v hv
  have := List.all_eq_true.1 h v hv
  simpa using this
theorem encH_mem {k : Int} {t f b : A6} (k0 : 0 ≤ k ∧ k ≤ 255) (ht : t.wf) (hf : f.wf) (hb : b.wf) : ∀ v ∈ encH k t f b, 0 ≤ v ∧ v ≤ 255 := by
  intro v hv
  simp only [encH, List.mem_append, List.mem_cons, List.not_mem_nil, or_false] at hv
  rcases hv with (((h | h) | h) | h) | h
  · omega
  · exact ht v h
  · exact hf v h
  · exact hb v h
  · omega
theorem two_mem {n : Int} (h0 : 0 ≤ n) (h1 : n < 65536) : ∀ v ∈ [n % 256, n / 256], 0 ≤ v ∧ v ≤ 255 := by
  intro v hv
  simp only [List.mem_cons, List.not_mem_nil, or_false] at hv
  omega
theorem encDel_mem {q : Dlf} (ht : q.t.wf) (hf : q.f.wf) (hb : q.b.wf) (hok : okDel q = true) : ∀ v ∈ encDel q, 0 ≤ v ∧ v ≤ 255 := by
  obtain ⟨⟨k0, k1⟩, k2, k3⟩ := (okDel_iff q).1 hok
  have hm : 0 ≤ mineV q ∧ mineV q < 65536 := by unfold mineV; split <;> omega
  intro v hv
  simp only [encDel, List.mem_append] at hv
  rcases hv with (h | h) | h
  · exact encH_mem (by omega) ht hf hb v h
  · exact two_mem hm.1 hm.2 v h
  · exact two_mem k2 (by omega) v h
theorem encAdd_mem {q : Adf} (ht : q.t.wf) (hf : q.f.wf) (hb : q.b.wf) (hok : okAdd q = true) : ∀ v ∈ encAdd q, 0 ≤ v ∧ v ≤ 255 := by
  obtain ⟨⟨t0, t1⟩, ⟨i0, i1⟩, ⟨s0, s1⟩, ⟨m0, m1⟩, ⟨a0, a1⟩, ⟨n0, n1⟩, -⟩ := (okAdd_iff q).1 hok
  have hp : 0 ≤ par q ∧ par q < 65536 := by unfold par; omega
  intro v hv
  unfold encAdd at hv
  split at hv
  all_goals
    simp only [List.mem_append] at hv
    rcases hv with (((h | h) | h) | h) | h
    · exact encH_mem (by omega) ht hf hb v h
    · simp only [List.mem_cons, List.not_mem_nil, or_false] at h; omega
    · exact two_mem (by omega) (by omega) v h
    · exact two_mem (by omega) (by omega) v h
    · exact two_mem (by omega) (by omega) v h
theorem encDel_len (q : Dlf) : (encDel q).length = 30 := rfl
theorem encAdd_len (q : Adf) : (encAdd q).length = 33 := by unfold encAdd; split <;> rfl
set_option maxRecDepth 100000 in
set_option maxHeartbeats 8000000 in
theorem readDel_beg (A : Option Addr) (n c : Nat) (xs : List Int) (E : Nat → Addr) (w : World) (h : RowB .u8 w A n xs) (hS : Sent w E S4) (hb : begA xs n 30 [2] ≠ 0) :
    Calls Tryd.prog 13 #[.slice A n c] w fun e w' => e = .returned (.tuple #[.agg d0.cells, errP (E (begA xs n 30 [2]))]) ∧ Below w.heap.size w w' := by
  have HB := Lib.hid (((Below.refl w.heap.size w).alloc (Nat.le_refl _) (.cells d0.cells 27)).alloc (by simp) (.cells #[.int .u8 2] 5))
  have HG := Lib.hid (show ((w.alloc (.cells d0.cells 27)).alloc (.cells #[.int .u8 2] 5)).heap[w.heap.size]? = some (.cells d0.cells 27 (0, 0)) from (((Below.refl (w.heap.size + 1) (w.alloc (.cells d0.cells 27))).alloc (by simp) (.cells #[.int .u8 2] 5)).block w.heap.size (by simp)).trans (heap_alloc_last w (.cells d0.cells 27)))
  have HK := Lib.hid (show RowB .u8 ((w.alloc (.cells d0.cells 27)).alloc (.cells #[.int .u8 2] 5)) (some ⟨w.heap.size + 1, 0, none⟩) 1 [2] from by have := lit_row (w.alloc (.cells d0.cells 27)) [2] 5 (by decide) (by decide); rwa [show (w.alloc (.cells d0.cells 27)).heap.size = w.heap.size + 1 by simp] at this)
  have HSZ := Lib.hid (show w.heap.size < ((w.alloc (.cells d0.cells 27)).alloc (.cells #[.int .u8 2] 5)).heap.size by simp; omega)
  have HC := Lib.hid (begins_any A n c xs 30 (some ⟨w.heap.size + 1, 0, none⟩) 1 1 [2] E ((w.alloc (.cells d0.cells 27)).alloc (.cells #[.int .u8 2] 5)) (h.below HB.out) HK.out (hS.below HB.out))
  rw [errV_pos E hb] at HC
  generalize E (begA xs n 30 [2]) = a at *
  clear h hS hb HK
  go_enter Tryd.func13, Tryd.ntmps13
  go_wp2_with (fail)
  refine HC.out.mono ?_
  rintro e w2 ⟨rfl, rfl⟩
  generalize World.alloc (World.alloc w _) _ = w1 at *
  go_wp2_with (refine wpList_store_row rfl 27 (.tmp 2) (.tmp 14) rfl w.heap.size d0.cells rfl rfl 27 d0.cells HG.out sizeDel rfl d0.oneCell ?_; rw [setRow_same _ _ _ _ _ HG.out])
  refine bodyPost_ret (v := .tuple #[.agg d0.cells, errP a]) (results_cell_slot (p := 2) (q := 3) Tryd.results13 _ _ w.heap.size _ d0.cells _ _ rfl HG.out Tryd.underlying27 rfl sizeDel) rfl ⟨rfl, HB.out⟩
set_option maxRecDepth 100000 in
set_option maxHeartbeats 8000000 in
theorem readDel_fit (A : Option Addr) (n c : Nat) (xs : List Int) (E : Nat → Addr) (w : World) (h : RowB .u8 w A n xs) (hS : Sent w E S4) (hnc : n ≤ c) (hb : begA xs n 30 [2] = 0) :
    Calls Tryd.prog 13 #[.slice A n c] w fun e w' => e = .returned (.tuple #[(outDel xs n).val, errV E (rdDel xs n)]) ∧ Below w.heap.size w w' := by
  have hq := begA_fine hb
  have hn1 : n = 30 := by omega
  subst hn1
  have HB := Lib.hid (((Below.refl w.heap.size w).alloc (Nat.le_refl _) (.cells d0.cells 27)).alloc (by simp) (.cells #[.int .u8 2] 5))
  have HG := Lib.hid (show ((w.alloc (.cells d0.cells 27)).alloc (.cells #[.int .u8 2] 5)).heap[w.heap.size]? = some (.cells d0.cells 27 (0, 0)) from (((Below.refl (w.heap.size + 1) (w.alloc (.cells d0.cells 27))).alloc (by simp) (.cells #[.int .u8 2] 5)).block w.heap.size (by simp)).trans (heap_alloc_last w (.cells d0.cells 27)))
  have HK := Lib.hid (show RowB .u8 ((w.alloc (.cells d0.cells 27)).alloc (.cells #[.int .u8 2] 5)) (some ⟨w.heap.size + 1, 0, none⟩) 1 [2] from by have := lit_row (w.alloc (.cells d0.cells 27)) [2] 5 (by decide) (by decide); rwa [show (w.alloc (.cells d0.cells 27)).heap.size = w.heap.size + 1 by simp] at this)
  have HSZ := Lib.hid (show w.heap.size < ((w.alloc (.cells d0.cells 27)).alloc (.cells #[.int .u8 2] 5)).heap.size by simp; omega)
  have HC := Lib.hid (begins_any A 30 c xs 30 (some ⟨w.heap.size + 1, 0, none⟩) 1 1 [2] E ((w.alloc (.cells d0.cells 27)).alloc (.cells #[.int .u8 2] 5)) (h.below HB.out) HK.out (hS.below HB.out))
  rw [hb, errV_zero] at HC
  clear HK
  have HW := Lib.hid (show ∀ i, i < 30 → 0 ≤ xs.getD i 0 ∧ xs.getD i 0 ≤ 255 from fun i hi => h.wf8 i hi)
  obtain ⟨b, off, rfl, -⟩ := h.cells (by omega)
  have HR := Lib.hid h
  have HNO := Lib.hid (show ∀ (q : Dlf) (w' : World), Below w.heap.size w w' → okDel q = false → _ from fun q w' hB hok => del_no q E w' hok (hS.below hB))
  have he := hS.at_ 102 (by decide)
  simp only [gOf] at he
  generalize hE : E 102 = a at *
  have HEE := Lib.hid hE
  clear hE
  have HE0 := Lib.hid he
  have hnc' : (30 : Int) ≤ (c : Int) := by omega
  have d26 : (c = 26) = False := by simp; omega
  have d28 : (c = 28) = False := by simp; omega
  clear he h hS
  go_enter Tryd.func13, Tryd.ntmps13
  go_wp2_with (fail)
  refine HC.out.mono ?_
  rintro e w2 ⟨rfl, rfl⟩
  generalize World.alloc (World.alloc w _) _ = w1 at *
  clear HC
  go_wp2_with (fail)
  refine (number_off 26 b off 30 c xs w1 (HR.out.below HB.out) (by omega)).mono ?_
  rintro e w' ⟨rfl, m, rfl⟩
  have T0 := Lib.hid (below_drewN HB.out m)
  have T1 := Lib.hid (show (w1.drewN m).heap[w.heap.size]? = some (.cells d0.cells 27 (0, 0)) from HG.out)
  clear HB HG
  have HB := T0
  have HG := T1
  clear T0 T1
  generalize w1.drewN m = w2 at *
  obtain ⟨t0, t1⟩ := numAt_wf HR.out 26 (by omega)
  obtain ⟨r0, r1⟩ := numAt_wf HR.out 28 (by omega)
  have HD := Lib.hid (show decDel xs = ⟨six xs 4, six xs 10, six xs 16, bits .and .i64 (numAt xs 26) 2048 != 0, numAt xs 26 / 4096, numAt xs 28⟩ from rfl)
  have HMEM := Lib.hid (fun hok => encDel_mem (q := ⟨six xs 4, six xs 10, six xs 16, bits .and .i64 (numAt xs 26) 2048 != 0, numAt xs 26 / 4096, numAt xs 28⟩) (six_wf 4 (by omega) HW.out) (six_wf 10 (by omega) HW.out) (six_wf 16 (by omega) HW.out) hok)
  generalize numAt xs 26 = T at *
  have x1 : IntKind.i64.wrap (T.tdiv 4096) = T / 4096 := by rw [Int.tdiv_eq_ediv_of_nonneg (by omega)]; exact IntWalk.i64_in _ ⟨by omega, by omega⟩
  go_wp2_with (fail)
  refine (number_off 28 b off 30 c xs w2 (HR.out.below HB.out) (by omega)).mono ?_
  rintro e w' ⟨rfl, m, rfl⟩
  have T0 := Lib.hid (below_drewN HB.out m)
  have T1 := Lib.hid (show (w2.drewN m).heap[w.heap.size]? = some (.cells d0.cells 27 (0, 0)) from HG.out)
  clear HB HG
  have HB := T0
  have HG := T1
  clear T0 T1
  generalize w2.drewN m = w3 at *
  generalize numAt xs 28 = R at *
  have HL0 := Lib.hid (Nat.lt_of_lt_of_le HSZ.out (Nat.le_refl _))
  have HLw := Lib.hid (show w.heap.size < w3.heap.size by
    by_cases hp : w.heap.size < w3.heap.size
    · exact hp
    · have := HG.out; rw [Array.getElem?_eq_none (Nat.le_of_not_lt hp)] at this; cases this)
  have HA := Lib.hid ((Below.refl w3.heap.size w3).alloc (Nat.le_refl _) (.cells (Dlf.mk ⟨0, 0, 0, 0, 0, 0⟩ ⟨0, 0, 0, 0, 0, 0⟩ ⟨0, 0, 0, 0, 0, 0⟩ (bits .and .i64 T 2048 != 0) (T / 4096) R).cells 27))
  have HB4 := Lib.hid (HB.out.trans (HA.out.mono HB.out.size))
  have HG4 := Lib.hid ((HA.out.block _ HLw.out).trans HG.out)
  have HF := Lib.hid (heap_alloc_last w3 (.cells (Dlf.mk ⟨0, 0, 0, 0, 0, 0⟩ ⟨0, 0, 0, 0, 0, 0⟩ ⟨0, 0, 0, 0, 0, 0⟩ (bits .and .i64 T 2048 != 0) (T / 4096) R).cells 27))
  have HH := Lib.hid (show w3.heap.size < (w3.alloc (.cells (Dlf.mk ⟨0, 0, 0, 0, 0, 0⟩ ⟨0, 0, 0, 0, 0, 0⟩ ⟨0, 0, 0, 0, 0, 0⟩ (bits .and .i64 T 2048 != 0) (T / 4096) R).cells 27)).heap.size by simp)
  have HL := Lib.hid (Nat.lt_trans HLw.out HH.out)
  go_wp2_with (refine wpList_store_row rfl 27 (.tmp 6) (.tmp 27) rfl w3.heap.size (Dlf.mk ⟨0, 0, 0, 0, 0, 0⟩ ⟨0, 0, 0, 0, 0, 0⟩ ⟨0, 0, 0, 0, 0, 0⟩ (bits .and .i64 T 2048 != 0) (T / 4096) R).cells rfl rfl 27 d0.cells (heap_alloc_last _ _) sizeDel rfl (Dlf.oneCell _) ?_; rw [World.setRow_alloc_new]; generalize World.alloc w3 _ = w4 at *; generalize hh : w3.heap.size = bF at *)
  clear HA HB HG HL0 hh
  have HB := HB4
  have HG := HG4
  have HLh := HLw
  clear HB4 HG4 HLw
  refine (readHead_any b off 30 c xs w4 (HR.out.below HB.out) (by omega) hnc).mono ?_
  rintro e w5 ⟨rfl, hB⟩
  have T0 := Lib.hid (HB.out.trans (hB.mono HB.out.size))
  have T1 := Lib.hid ((hB.block _ HL.out).trans HG.out)
  have T2 := Lib.hid ((hB.block _ HH.out).trans HF.out)
  have T3 := Lib.hid (Nat.lt_of_lt_of_le HL.out hB.size)
  have T4 := Lib.hid (Nat.lt_of_lt_of_le HH.out hB.size)
  clear hB
  clear HB HG HF HL HH
  have HB := T0
  have HG := T1
  have HF := T2
  have HL := T3
  have HH := T4
  clear T0 T1 T2 T3 T4
  go_wp2_with (first
    | (refine wpList_store_part rfl 23 (.tmp 34) (.tmp 31) rfl bF 0 (six xs 4).cells rfl rfl 27 (Dlf.mk ⟨0, 0, 0, 0, 0, 0⟩ ⟨0, 0, 0, 0, 0, 0⟩ ⟨0, 0, 0, 0, 0, 0⟩ (bits .and .i64 T 2048 != 0) (T / 4096) R).cells (Dlf.mk (six xs 4) ⟨0, 0, 0, 0, 0, 0⟩ ⟨0, 0, 0, 0, 0, 0⟩ (bits .and .i64 T 2048 != 0) (T / 4096) R).cells HF.out size6 (show 0 + 6 ≤ 21 by decide) (A6.oneCell _) rfl ?_; have T0 := Lib.hid (below_setRow HB.out (Nat.le_of_lt HLh.out) (Dlf.mk (six xs 4) ⟨0, 0, 0, 0, 0, 0⟩ ⟨0, 0, 0, 0, 0, 0⟩ (bits .and .i64 T 2048 != 0) (T / 4096) R).cells); have T1 := Lib.hid ((setRow_other _ bF w.heap.size (Dlf.mk (six xs 4) ⟨0, 0, 0, 0, 0, 0⟩ ⟨0, 0, 0, 0, 0, 0⟩ (bits .and .i64 T 2048 != 0) (T / 4096) R).cells (Nat.ne_of_lt HLh.out)).trans HG.out); have T2 := Lib.hid (setRow_heap _ bF _ (Dlf.mk (six xs 4) ⟨0, 0, 0, 0, 0, 0⟩ ⟨0, 0, 0, 0, 0, 0⟩ (bits .and .i64 T 2048 != 0) (T / 4096) R).cells _ _ HF.out); clear HB HG HF; have HB := T0; have HG := T1; have HF := T2; clear T0 T1 T2; generalize World.setRow _ _ _ = wN at *)
    | (refine wpList_store_part rfl 23 (.tmp 35) (.tmp 32) rfl bF 6 (six xs 10).cells rfl rfl 27 (Dlf.mk (six xs 4) ⟨0, 0, 0, 0, 0, 0⟩ ⟨0, 0, 0, 0, 0, 0⟩ (bits .and .i64 T 2048 != 0) (T / 4096) R).cells (Dlf.mk (six xs 4) (six xs 10) ⟨0, 0, 0, 0, 0, 0⟩ (bits .and .i64 T 2048 != 0) (T / 4096) R).cells HF.out size6 (show 6 + 6 ≤ 21 by decide) (A6.oneCell _) rfl ?_; have T0 := Lib.hid (below_setRow HB.out (Nat.le_of_lt HLh.out) (Dlf.mk (six xs 4) (six xs 10) ⟨0, 0, 0, 0, 0, 0⟩ (bits .and .i64 T 2048 != 0) (T / 4096) R).cells); have T1 := Lib.hid ((setRow_other _ bF w.heap.size (Dlf.mk (six xs 4) (six xs 10) ⟨0, 0, 0, 0, 0, 0⟩ (bits .and .i64 T 2048 != 0) (T / 4096) R).cells (Nat.ne_of_lt HLh.out)).trans HG.out); have T2 := Lib.hid (setRow_heap _ bF _ (Dlf.mk (six xs 4) (six xs 10) ⟨0, 0, 0, 0, 0, 0⟩ (bits .and .i64 T 2048 != 0) (T / 4096) R).cells _ _ HF.out); clear HB HG HF; have HB := T0; have HG := T1; have HF := T2; clear T0 T1 T2; generalize World.setRow _ _ _ = wN at *)
    | (refine wpList_store_part rfl 23 (.tmp 36) (.tmp 33) rfl bF 12 (six xs 16).cells rfl rfl 27 (Dlf.mk (six xs 4) (six xs 10) ⟨0, 0, 0, 0, 0, 0⟩ (bits .and .i64 T 2048 != 0) (T / 4096) R).cells (Dlf.mk (six xs 4) (six xs 10) (six xs 16) (bits .and .i64 T 2048 != 0) (T / 4096) R).cells HF.out size6 (show 12 + 6 ≤ 21 by decide) (A6.oneCell _) rfl ?_; have T0 := Lib.hid (below_setRow HB.out (Nat.le_of_lt HLh.out) (Dlf.mk (six xs 4) (six xs 10) (six xs 16) (bits .and .i64 T 2048 != 0) (T / 4096) R).cells); have T1 := Lib.hid ((setRow_other _ bF w.heap.size (Dlf.mk (six xs 4) (six xs 10) (six xs 16) (bits .and .i64 T 2048 != 0) (T / 4096) R).cells (Nat.ne_of_lt HLh.out)).trans HG.out); have T2 := Lib.hid (setRow_heap _ bF _ (Dlf.mk (six xs 4) (six xs 10) (six xs 16) (bits .and .i64 T 2048 != 0) (T / 4096) R).cells _ _ HF.out); clear HB HG HF; have HB := T0; have HG := T1; have HF := T2; clear T0 T1 T2; generalize World.setRow _ _ _ = wN at *)
    | (refine wpList_load_row rfl 27 (.tmp 6) rfl bF rfl 27 (Dlf.mk (six xs 4) (six xs 10) (six xs 16) (bits .and .i64 T 2048 != 0) (T / 4096) R).cells (0, 0) _ HF.out Tryd.underlying27 rfl sizeDel ?_))

  have T0 := Lib.hid (show w.heap.size < wN.heap.size by
    by_cases hp : w.heap.size < wN.heap.size
    · exact hp
    · have := HG.out; rw [Array.getElem?_eq_none (Nat.le_of_not_lt hp)] at this; cases this)
  have T1 := Lib.hid (show bF < wN.heap.size by
    by_cases hp : bF < wN.heap.size
    · exact hp
    · have := HF.out; rw [Array.getElem?_eq_none (Nat.le_of_not_lt hp)] at this; cases this)
  clear HL HH
  have HL := T0
  have HH := T1
  clear T0 T1
  cases hok : okDel (Dlf.mk (six xs 4) (six xs 10) (six xs 16) (bits .and .i64 T 2048 != 0) (T / 4096) R)
  · refine (HNO.out (Dlf.mk (six xs 4) (six xs 10) (six xs 16) (bits .and .i64 T 2048 != 0) (T / 4096) R) wN HB.out hok).mono ?_
    rintro e w8 ⟨rfl, hB⟩
    have T0 := Lib.hid (HB.out.trans (hB.mono HB.out.size))
    have T1 := Lib.hid ((hB.block _ HL.out).trans HG.out)
    clear hB HF
    clear HB HG
    have HB := T0
    have HG := T1
    clear T0 T1
    have HEQ := Lib.hid (rdDel_bad hb (by rw [HD.out, hok]; simp))
    have he := below_at HB.out HE0.out
    go_wp2
    refine wp_region_held_drew (S := fun w' => w' = w8.drew) (by kernel_rfl) rfl (fun hHeld => ?_)
    refine wpAnyH_take (i := 0) (v := .agg d0.cells) rfl (by kernel_rfl) (by kernel_rfl) (by kernel_rfl) (fun _ _ _ h => h) (Or.inl ⟨by rfl, ?_⟩) (by assumption) ?_
    · intro w hSw
      go_simp
    refine wpAnyH_take (i := 1) (v := errP a) rfl (by kernel_rfl) (by kernel_rfl) (by kernel_rfl) (fun _ _ _ h => h) (Or.inl ⟨by rfl, ?_⟩) (by assumption) ?_
    · rintro w rfl
      go_simp
    refine wpAnyH_ready (rs := [2]) (by kernel_rfl) (by simp) ?_
    refine AllReadyH.cons rfl (fun K hK => ?_) AllReadyH.nil
    rw [if_pos (by rfl)]
    refine wp_store_row _ _ _ rfl w.heap.size d0.cells rfl rfl _ d0.cells HG.out sizeDel rfl d0.oneCell ?_
    rw [setRow_same _ _ _ _ _ (show w8.drew.heap[w.heap.size]? = _ from HG.out)]
    refine hK.out _ _ rfl (fun hHeld => ?_)
    refine wpAnyH_take (i := 3) (v := errP a) rfl (by kernel_rfl) (by kernel_rfl) (by kernel_rfl) (fun _ _ _ h => h) (Or.inl ⟨by rfl, ?_⟩) (by assumption) ?_
    · rintro w rfl
      go_simp
    refine wpAnyH_done (by kernel_rfl) ?_ _
    simp only [Act.put, List.setIfInBounds_toArray, List.set_cons_zero, List.set_cons_succ]
    go_wp2
    refine bodyPost_ret (v := .tuple #[.agg d0.cells, errP a]) (results_cell_slot (p := 2) (q := 3) Tryd.results13 _ _ w.heap.size _ d0.cells _ _ rfl (show w8.drew.heap[w.heap.size]? = _ from HG.out) Tryd.underlying27 rfl sizeDel) rfl ⟨by rw [HEQ.out.1, HEQ.out.2, ← HEE.out]; rfl, HB.out.drew⟩
  · refine (del_yes (Dlf.mk (six xs 4) (six xs 10) (six xs 16) (bits .and .i64 T 2048 != 0) (T / 4096) R) wN hok).mono ?_
    rintro e w8 ⟨g, cap, rfl, hO, hB⟩
    have HY := Lib.hid (hO.row8 (all_wf (encDel_len _) (HMEM.out hok)))
    have T0 := Lib.hid (HB.out.trans (hB.mono HB.out.size))
    have T1 := Lib.hid ((hB.block _ HL.out).trans HG.out)
    have T2 := Lib.hid ((hB.block _ HH.out).trans HF.out)
    clear hB hO
    clear HB HG HF
    have HB := T0
    have HG := T1
    have HF := T2
    clear T0 T1 T2
    go_wp2_with (fail)
    refine (equal_any g 0 30 cap b off 30 c (encDel (Dlf.mk (six xs 4) (six xs 10) (six xs 16) (bits .and .i64 T 2048 != 0) (T / 4096) R)) xs w8 HY.out (HR.out.below HB.out) (by omega) (by omega)).mono ?_
    rintro e w9 ⟨rfl, rfl⟩
    cases hsm : sameB (encDel (Dlf.mk (six xs 4) (six xs 10) (six xs 16) (bits .and .i64 T 2048 != 0) (T / 4096) R)) xs
    · have HEQ := Lib.hid (rdDel_bad hb (by rw [HD.out, hok, hsm]; simp))
      have he := below_at HB.out HE0.out
      go_wp2
      refine wp_region_held_drew (S := fun w' => w' = w8.drew) (by kernel_rfl) rfl (fun hHeld => ?_)
      refine wpAnyH_take (i := 0) (v := .agg d0.cells) rfl (by kernel_rfl) (by kernel_rfl) (by kernel_rfl) (fun _ _ _ h => h) (Or.inl ⟨by rfl, ?_⟩) (by assumption) ?_
      · intro w hSw
        go_simp
      refine wpAnyH_take (i := 1) (v := errP a) rfl (by kernel_rfl) (by kernel_rfl) (by kernel_rfl) (fun _ _ _ h => h) (Or.inl ⟨by rfl, ?_⟩) (by assumption) ?_
      · rintro w rfl
        go_simp
      refine wpAnyH_ready (rs := [2]) (by kernel_rfl) (by simp) ?_
      refine AllReadyH.cons rfl (fun K hK => ?_) AllReadyH.nil
      rw [if_pos (by rfl)]
      refine wp_store_row _ _ _ rfl w.heap.size d0.cells rfl rfl _ d0.cells HG.out sizeDel rfl d0.oneCell ?_
      rw [setRow_same _ _ _ _ _ (show w8.drew.heap[w.heap.size]? = _ from HG.out)]
      refine hK.out _ _ rfl (fun hHeld => ?_)
      refine wpAnyH_take (i := 3) (v := errP a) rfl (by kernel_rfl) (by kernel_rfl) (by kernel_rfl) (fun _ _ _ h => h) (Or.inl ⟨by rfl, ?_⟩) (by assumption) ?_
      · rintro w rfl
        go_simp
      refine wpAnyH_done (by kernel_rfl) ?_ _
      simp only [Act.put, List.setIfInBounds_toArray, List.set_cons_zero, List.set_cons_succ]
      go_wp2
      refine bodyPost_ret (v := .tuple #[.agg d0.cells, errP a]) (results_cell_slot (p := 2) (q := 3) Tryd.results13 _ _ w.heap.size _ d0.cells _ _ rfl (show w8.drew.heap[w.heap.size]? = _ from HG.out) Tryd.underlying27 rfl sizeDel) rfl ⟨by rw [HEQ.out.1, HEQ.out.2, ← HEE.out]; rfl, HB.out.drew⟩
    · have HEQ := Lib.hid (rdDel_good hb (by rw [HD.out, hok, hsm]; simp))
      go_wp2_with (first | (refine wpList_load_row rfl 27 (.tmp 6) rfl bF rfl 27 (Dlf.mk (six xs 4) (six xs 10) (six xs 16) (bits .and .i64 T 2048 != 0) (T / 4096) R).cells (0, 0) _ HF.out Tryd.underlying27 rfl sizeDel ?_) | (refine wpList_store_row rfl 27 (.tmp 2) (.tmp 52) rfl w.heap.size (Dlf.mk (six xs 4) (six xs 10) (six xs 16) (bits .and .i64 T 2048 != 0) (T / 4096) R).cells rfl rfl 27 d0.cells HG.out sizeDel rfl (Dlf.oneCell _) ?_))
      have HGz := Lib.hid (setRow_heap w8 w.heap.size d0.cells (Dlf.mk (six xs 4) (six xs 10) (six xs 16) (bits .and .i64 T 2048 != 0) (T / 4096) R).cells 27 (0, 0) HG.out)
      refine bodyPost_ret (v := .tuple #[.agg (Dlf.mk (six xs 4) (six xs 10) (six xs 16) (bits .and .i64 T 2048 != 0) (T / 4096) R).cells, .nilIface]) (results_cell_slot (p := 2) (q := 3) Tryd.results13 _ _ w.heap.size _ (Dlf.mk (six xs 4) (six xs 10) (six xs 16) (bits .and .i64 T 2048 != 0) (T / 4096) R).cells _ _ rfl HGz.out Tryd.underlying27 rfl sizeDel) rfl ⟨by rw [HEQ.out.1, HEQ.out.2, HD.out]; rfl, below_setRow HB.out (Nat.le_refl _) _⟩
theorem readDel_all (A : Option Addr) (n c : Nat) (xs : List Int) (E : Nat → Addr) (w : World) (h : RowB .u8 w A n xs) (hS : Sent w E S4) (hnc : n ≤ c) :
    Calls Tryd.prog 13 #[.slice A n c] w fun e w' => e = .returned (.tuple #[(outDel xs n).val, errV E (rdDel xs n)]) ∧ Below w.heap.size w w' := by
  by_cases hb : begA xs n 30 [2] = 0
  · exact readDel_fit A n c xs E w h hS hnc hb
  · refine (readDel_beg A n c xs E w h hS hb).mono ?_
    rintro e w' ⟨rfl, hB⟩
    exact ⟨by rw [(rdDel_beg hb).1, (rdDel_beg hb).2, errV_pos E hb], hB⟩
end Go.Proofs.YtjgingfcfmpfaaaDoor
