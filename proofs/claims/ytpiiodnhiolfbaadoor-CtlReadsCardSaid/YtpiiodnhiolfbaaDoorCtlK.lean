/-
  CONTRACTS of the reference's BarBytes, AckBytes, PollBytes.
-/
import Derived.Test.YtpiiodnhiolfbaaDoorCtlD
import Derived.Test.YtpiiodnhiolfbaaDoorCtlE
namespace Go.Proofs.YtpiiodnhiolfbaaDoor
open Go.ChangeShapes Go.WideShapes Go.ChangeAt Go.RowKit
set_option linter.unusedVariables false
set_option linter.unusedSimpArgs false

theorem out_is {x m : Int} {r : Bool} (h : (decide (x < 0) || decide (m < x)) = r) (w : World) :
    Calls Tryd.prog 33 #[.int .i64 x, .int .i64 m] w fun e w' => e = .returned (.bool r) ∧ w = w' := by
  rw [← h]; exact out_any x m w
theorem outs_no {tid seq : Int} (h : okTS tid seq = false) : (decide (tid < 0) || decide (7 < tid)) = true ∨ ((decide (tid < 0) || decide (7 < tid)) = false ∧ (decide (seq < 0) || decide (4095 < seq)) = true) := by
  have hn : ¬(0 ≤ tid ∧ tid < 8 ∧ 0 ≤ seq ∧ seq < 4096) := by rw [← okTS_iff, h]; simp
  by_cases h1 : (decide (tid < 0) || decide (7 < tid)) = true
  · exact .inl h1
  · refine .inr ⟨by simpa using h1, ?_⟩
    simp at h1 ⊢
    omega
set_option maxRecDepth 100000 in
set_option maxHeartbeats 8000000 in
theorem refBar_no (q : Brf) (w : World) (hok : okTS q.tid q.seq = false) :
    Calls Tryd.prog 12 #[q.val] w fun e w' => e = .returned (.tuple #[.slice none 0 0, .int .i64 103]) ∧ Below w.heap.size w w' := by
  have HB := Lib.hid ((Below.refl w.heap.size w).alloc (Nat.le_refl _) (.cells q.cells 25))
  have c12 := cells_new w q.cells 25 12
  have c13 := cells_new w q.cells 25 13
  dsimp only [Brf.cells] at c12 c13
  rcases outs_no hok with h1 | ⟨h1, h2⟩
  · have H1 := Lib.hid (out_is h1)
    clear h1 hok
    go_enter Tryd.func12, Tryd.ntmps12
    go_wp2_with (fail)
    refine (H1.out _).mono ?_
    rintro e w2 ⟨rfl, rfl⟩
    go_wp2
    go_ret2
    exact ⟨rfl, HB.out⟩
  · have H1 := Lib.hid (out_is h1)
    have H2 := Lib.hid (out_is h2)
    clear h1 h2 hok
    go_enter Tryd.func12, Tryd.ntmps12
    go_wp2_with (fail)
    refine (H1.out _).mono ?_
    rintro e w2 ⟨rfl, rfl⟩
    go_wp2_with (fail)
    refine (H2.out _).mono ?_
    rintro e w2 ⟨rfl, rfl⟩
    go_wp2
    go_ret2
    exact ⟨rfl, HB.out⟩
set_option maxRecDepth 100000 in
set_option maxHeartbeats 8000000 in
theorem refAck_no (q : Akf) (w : World) (hok : okTS q.tid q.seq = false) :
    Calls Tryd.prog 13 #[q.val] w fun e w' => e = .returned (.tuple #[.slice none 0 0, .int .i64 103]) ∧ Below w.heap.size w w' := by
  have HB := Lib.hid ((Below.refl w.heap.size w).alloc (Nat.le_refl _) (.cells q.cells 28))
  have c12 := cells_new w q.cells 28 12
  have c13 := cells_new w q.cells 28 13
  dsimp only [Akf.cells] at c12 c13
  rcases outs_no hok with h1 | ⟨h1, h2⟩
  · have H1 := Lib.hid (out_is h1)
    clear h1 hok
    go_enter Tryd.func13, Tryd.ntmps13
    go_wp2_with (fail)
    refine (H1.out _).mono ?_
    rintro e w2 ⟨rfl, rfl⟩
    go_wp2
    go_ret2
    exact ⟨rfl, HB.out⟩
  · have H1 := Lib.hid (out_is h1)
    have H2 := Lib.hid (out_is h2)
    clear h1 h2 hok
    go_enter Tryd.func13, Tryd.ntmps13
    go_wp2_with (fail)
    refine (H1.out _).mono ?_
    rintro e w2 ⟨rfl, rfl⟩
    go_wp2_with (fail)
    refine (H2.out _).mono ?_
    rintro e w2 ⟨rfl, rfl⟩
    go_wp2
    go_ret2
    exact ⟨rfl, HB.out⟩
set_option maxRecDepth 100000 in
set_option maxHeartbeats 8000000 in
theorem refBar_yes (q : Brf) (w : World) (hok : okTS q.tid q.seq = true) :
    Calls Tryd.prog 12 #[q.val] w fun e w' => ∃ g cap, e = .returned (.tuple #[.slice (some ⟨g, 0, none⟩) 20 cap, .int .i64 0]) ∧ OwnB w' w.heap.size 5 .u8 g 20 cap (encW 132 q.t q.f q.tid q.seq) ∧ Below w.heap.size w w' := by
  obtain ⟨k0, k1, k2, k3⟩ := (okTS_iff _ _).1 hok
  have HB := Lib.hid ((Below.refl w.heap.size w).alloc (Nat.le_refl _) (.cells q.cells 25))
  have HZ := Lib.hid (show w.heap.size < (w.alloc (.cells q.cells 25)).heap.size by simp)
  have hC := cells_new w q.cells 25
  have H1 := Lib.hid (out_is (x := q.tid) (m := 7) (r := false) (by simp; omega))
  have H2 := Lib.hid (out_is (x := q.seq) (m := 4095) (r := false) (by simp; omega))
  have c12 := hC 12
  have c13 := hC 13
  have HC := Lib.hid hC
  dsimp only [Brf.cells] at c12 c13
  clear hC hok
  have x1 : IntKind.i64.wrap (q.tid * 4096) = q.tid * 4096 := IntWalk.i64_in _ ⟨by omega, by omega⟩
  have x2 : IntKind.i64.wrap (4 + q.tid * 4096) = 4 + q.tid * 4096 := IntWalk.i64_in _ ⟨by omega, by omega⟩
  have x3 : IntKind.i64.wrap (q.seq * 16) = q.seq * 16 := IntWalk.i64_in _ ⟨by omega, by omega⟩
  go_enter Tryd.func12, Tryd.ntmps12
  go_wp2_with (fail)
  refine (H1.out _).mono ?_
  rintro e' w2 ⟨rfl, rfl⟩
  go_wp2_with (fail)
  refine (H2.out _).mono ?_
  rintro e' w2 ⟨rfl, rfl⟩
  clear c12 c13
  generalize hw1 : w.alloc (.cells q.cells 25) = w1 at *
  clear hw1
  go_wp2
  have HQ := Lib.hid (show ∀ (w' : World) (i : Nat), Below w1.heap.size w1 w' → w'.cell? ⟨w.heap.size, i, none⟩ = q.cells[i]? from
    fun w' i hb => (hb.cell HZ.out).trans (HC.out i))
  have HRG := Lib.hid (show ∀ (w' : World) (o : Nat) (x : A6), Below w1.heap.size w1 w' → (∀ j u, (x.l.map (Value.int .u8))[j]? = some u → q.cells[o + j]? = some u) → w'.rangeAt w.heap.size o x.cells.toList from
    fun w' o x hb hx j v hv => (HQ.out w' (o + j) hb).trans (hx j v (show (x.l.map (Value.int .u8))[j]? = some v from hv)))
  have HBd := Lib.hid ((Below.refl w1.heap.size w1).drew)
  refine wp_region_held_drew (S := fun w' => Below w1.heap.size w1 w') (by kernel_rfl) HBd.out (fun hHeld => ?_)
  refine wpAnyH_take (i := 1) (v := ?_) rfl (by kernel_rfl) (by kernel_rfl) (by kernel_rfl) (fun _ _ _ h => h) (Or.inl ⟨by rfl, ?_⟩) (by assumption) ?_
  rotate_left
  · intro w hSw
    clear hSw
    go_simp
    try with_reducible rfl
  try simp only [Act.put, List.getElem_toArray, List.getElem_cons_zero, List.getElem_cons_succ, List.setIfInBounds_toArray, List.set_cons_zero, List.set_cons_succ]
  refine wpAnyH_take (i := 2) (v := .agg q.t.cells) rfl (by kernel_rfl) (by kernel_rfl) (by kernel_rfl) (fun _ _ _ h => h) (yieldsIf_load_mid (by rfl) 23 (.tmp 13) rfl w.heap.size 0 rfl q.t.cells.toList _ (fun w' hw' => HRG.out w' 0 q.t hw' (src6 (six_in rfl rfl rfl rfl rfl rfl))) Tryd.underlying23 rfl size6) (by assumption) ?_
  try simp only [Act.put, List.getElem_toArray, List.getElem_cons_zero, List.getElem_cons_succ, List.setIfInBounds_toArray, List.set_cons_zero, List.set_cons_succ]
  refine wpAnyH_take (i := 4) (v := ?_) rfl (by kernel_rfl) (by kernel_rfl) (by kernel_rfl) (fun _ _ _ h => h) (Or.inl ⟨by rfl, ?_⟩) (by assumption) ?_
  rotate_left
  · intro w hSw
    clear hSw
    go_simp
    try with_reducible rfl
  try simp only [Act.put, List.getElem_toArray, List.getElem_cons_zero, List.getElem_cons_succ, List.setIfInBounds_toArray, List.set_cons_zero, List.set_cons_succ]
  refine wpAnyH_take (i := 5) (v := .agg q.f.cells) rfl (by kernel_rfl) (by kernel_rfl) (by kernel_rfl) (fun _ _ _ h => h) (yieldsIf_load_mid (by rfl) 23 (.tmp 16) rfl w.heap.size 6 rfl q.f.cells.toList _ (fun w' hw' => HRG.out w' 6 q.f hw' (src6 (six_in rfl rfl rfl rfl rfl rfl))) Tryd.underlying23 rfl size6) (by assumption) ?_
  try simp only [Act.put, List.getElem_toArray, List.getElem_cons_zero, List.getElem_cons_succ, List.setIfInBounds_toArray, List.set_cons_zero, List.set_cons_succ]
  refine wpAnyH_take (i := 7) (v := ?_) rfl (by kernel_rfl) (by kernel_rfl) (by kernel_rfl) (fun _ _ _ h => h) (Or.inl ⟨by rfl, ?_⟩) (by assumption) ?_
  rotate_left
  · intro w hSw
    clear hSw
    go_simp
    try with_reducible rfl
  try simp only [Act.put, List.getElem_toArray, List.getElem_cons_zero, List.getElem_cons_succ, List.setIfInBounds_toArray, List.set_cons_zero, List.set_cons_succ]
  refine wpAnyH_take (i := 8) (v := ?_) rfl (by kernel_rfl) (by kernel_rfl) (by kernel_rfl) (fun _ _ _ h => h) (Or.inl ⟨by rfl, ?_⟩) (by assumption) ?_
  rotate_left
  · intro w hSw
    have c := HQ.out w 12 hSw
    dsimp only [Brf.cells] at c
    clear hSw
    go_simp
    try with_reducible rfl
  try simp only [Act.put, List.getElem_toArray, List.getElem_cons_zero, List.getElem_cons_succ, List.setIfInBounds_toArray, List.set_cons_zero, List.set_cons_succ]
  refine wpAnyH_take (i := 9) (v := ?_) rfl (by kernel_rfl) (by kernel_rfl) (by kernel_rfl) (fun _ _ _ h => h) (Or.inl ⟨by rfl, ?_⟩) (by assumption) ?_
  rotate_left
  · intro w hSw
    clear hSw
    go_simp
    try with_reducible rfl
  try simp only [Act.put, List.getElem_toArray, List.getElem_cons_zero, List.getElem_cons_succ, List.setIfInBounds_toArray, List.set_cons_zero, List.set_cons_succ]
  refine wpAnyH_take (i := 10) (v := ?_) rfl (by kernel_rfl) (by kernel_rfl) (by kernel_rfl) (fun _ _ _ h => h) (Or.inl ⟨by rfl, ?_⟩) (by assumption) ?_
  rotate_left
  · intro w hSw
    clear hSw
    go_simp
    try with_reducible rfl
  try simp only [Act.put, List.getElem_toArray, List.getElem_cons_zero, List.getElem_cons_succ, List.setIfInBounds_toArray, List.set_cons_zero, List.set_cons_succ]
  refine wpAnyH_take (i := 12) (v := ?_) rfl (by kernel_rfl) (by kernel_rfl) (by kernel_rfl) (fun _ _ _ h => h) (Or.inl ⟨by rfl, ?_⟩) (by assumption) ?_
  rotate_left
  · intro w hSw
    clear hSw
    go_simp
    try with_reducible rfl
  try simp only [Act.put, List.getElem_toArray, List.getElem_cons_zero, List.getElem_cons_succ, List.setIfInBounds_toArray, List.set_cons_zero, List.set_cons_succ]
  refine wpAnyH_take (i := 13) (v := ?_) rfl (by kernel_rfl) (by kernel_rfl) (by kernel_rfl) (fun _ _ _ h => h) (Or.inl ⟨by rfl, ?_⟩) (by assumption) ?_
  rotate_left
  · intro w hSw
    have c := HQ.out w 13 hSw
    dsimp only [Brf.cells] at c
    clear hSw
    go_simp
    try with_reducible rfl
  try simp only [Act.put, List.getElem_toArray, List.getElem_cons_zero, List.getElem_cons_succ, List.setIfInBounds_toArray, List.set_cons_zero, List.set_cons_succ]
  refine wpAnyH_take (i := 14) (v := ?_) rfl (by kernel_rfl) (by kernel_rfl) (by kernel_rfl) (fun _ _ _ h => h) (Or.inl ⟨by rfl, ?_⟩) (by assumption) ?_
  rotate_left
  · intro w hSw
    clear hSw
    go_simp
    try with_reducible rfl
  try simp only [Act.put, List.getElem_toArray, List.getElem_cons_zero, List.getElem_cons_succ, List.setIfInBounds_toArray, List.set_cons_zero, List.set_cons_succ]
  have HO3 := Lib.hid (show OwnB ((w1.alloc (.cells #[.int .u8 132, .int .u8 0, .int .u8 0, .int .u8 0] 5)).drew) w1.heap.size 5 .u8 w1.heap.size 4 4 [132, 0, 0, 0] from World.ownsRow.drew (World.ownsRow_lit w1 #[.int .u8 132, .int .u8 0, .int .u8 0, .int .u8 0] 4 (Nat.le_refl _) (by unfold maxLen; omega) rfl))
  have HB3 := Lib.hid (((Below.refl w1.heap.size w1).alloc (Nat.le_refl _) (.cells #[.int .u8 132, .int .u8 0, .int .u8 0, .int .u8 0] 5)).drew)
  refine wpAnyH_ready (rs := [0]) (by kernel_rfl) (by simp) ?_
  refine AllReadyH.cons rfl (fun K hK => ?_) AllReadyH.nil
  go_simp
  clear hHeld
  refine hK.out _ _ HB3.out (fun hHeld => ?_)
  clear hK K
  generalize (World.alloc w1 _).drew = w3 at *
  try simp only [Act.put, List.getElem_toArray, List.getElem_cons_zero, List.getElem_cons_succ, List.setIfInBounds_toArray, List.set_cons_zero, List.set_cons_succ]
  refine wpAnyH_ready (rs := [3]) (by kernel_rfl) (by simp) ?_
  refine AllReadyH.cons rfl (fun K hK => ?_) AllReadyH.nil
  go_simp
  refine (addr_own w1.heap.size w1.heap.size 4 4 _ q.t _ HO3.out HB3.out.size (by omega)).mono ?_
  rintro e' w5 ⟨g5, cap5, rfl, hO, hb⟩
  have HO5 := Lib.hid hO
  have HB5 := Lib.hid (HB3.out.trans hb)
  clear hO hb HO3 HB3 hHeld
  refine hK.out _ _ HB5.out (fun hHeld => ?_)
  clear hK K
  try simp only [Act.put, List.getElem_toArray, List.getElem_cons_zero, List.getElem_cons_succ, List.setIfInBounds_toArray, List.set_cons_zero, List.set_cons_succ]
  refine wpAnyH_ready (rs := [6]) (by kernel_rfl) (by simp) ?_
  refine AllReadyH.cons rfl (fun K hK => ?_) AllReadyH.nil
  go_simp
  refine (addr_own w1.heap.size g5 10 cap5 _ q.f _ HO5.out HB5.out.size (by omega)).mono ?_
  rintro e' w6 ⟨g6, cap6, rfl, hO, hb⟩
  have HO6 := Lib.hid hO
  have HB6 := Lib.hid (HB5.out.trans hb)
  clear hO hb HO5 HB5 hHeld
  refine hK.out _ _ HB6.out (fun hHeld => ?_)
  clear hK K
  try simp only [Act.put, List.getElem_toArray, List.getElem_cons_zero, List.getElem_cons_succ, List.setIfInBounds_toArray, List.set_cons_zero, List.set_cons_succ]
  refine wpAnyH_ready (rs := [11]) (by kernel_rfl) (by simp) ?_
  refine AllReadyH.cons rfl (fun K hK => ?_) AllReadyH.nil
  go_simp
  refine (two_own w1.heap.size g6 16 cap6 _ (4 + q.tid * 4096) _ HO6.out HB6.out.size (by omega) (by omega) (by omega)).mono ?_
  rintro e' w7 ⟨g7, cap7, rfl, hO, hb⟩
  have HO7 := Lib.hid hO
  have HB7 := Lib.hid (HB6.out.trans hb)
  clear hO hb HO6 HB6 hHeld
  refine hK.out _ _ HB7.out (fun hHeld => ?_)
  clear hK K
  try simp only [Act.put, List.getElem_toArray, List.getElem_cons_zero, List.getElem_cons_succ, List.setIfInBounds_toArray, List.set_cons_zero, List.set_cons_succ]
  refine wpAnyH_ready (rs := [15]) (by kernel_rfl) (by simp) ?_
  refine AllReadyH.cons rfl (fun K hK => ?_) AllReadyH.nil
  go_simp
  refine (two_own w1.heap.size g7 18 cap7 _ (q.seq * 16) _ HO7.out HB7.out.size (by omega) (by omega) (by omega)).mono ?_
  rintro e' w8 ⟨g8, cap8, rfl, hO, hb⟩
  have HO8 := Lib.hid hO
  have HB8 := Lib.hid (HB7.out.trans hb)
  clear hO hb HO7 HB7 hHeld
  refine hK.out _ _ HB8.out (fun hHeld => ?_)
  clear hK K
  try simp only [Act.put, List.getElem_toArray, List.getElem_cons_zero, List.getElem_cons_succ, List.setIfInBounds_toArray, List.set_cons_zero, List.set_cons_succ]
  refine wpAnyH_take (i := 16) (v := ?_) rfl (by kernel_rfl) (by kernel_rfl) (by kernel_rfl) (fun _ _ _ h => h) (Or.inl ⟨by rfl, ?_⟩) (by assumption) ?_
  rotate_left
  · intro w hSw
    clear hSw
    go_simp
    try with_reducible rfl
  try simp only [Act.put, List.getElem_toArray, List.getElem_cons_zero, List.getElem_cons_succ, List.setIfInBounds_toArray, List.set_cons_zero, List.set_cons_succ]
  refine wpAnyH_take (i := 17) (v := ?_) rfl (by kernel_rfl) (by kernel_rfl) (by kernel_rfl) (fun _ _ _ h => h) (Or.inl ⟨by rfl, ?_⟩) (by assumption) ?_
  rotate_left
  · intro w hSw
    clear hSw
    go_simp
    try with_reducible rfl
  try simp only [Act.put, List.getElem_toArray, List.getElem_cons_zero, List.getElem_cons_succ, List.setIfInBounds_toArray, List.set_cons_zero, List.set_cons_succ]
  refine wpAnyH_done (by kernel_rfl) ?_ _
  clear hHeld
  go_wp2
  go_ret2
  exact ⟨g8, cap8, rfl, HO8.out.base HB.out.size, HB.out.trans (HB8.out.mono HB.out.size)⟩
set_option maxRecDepth 100000 in
set_option maxHeartbeats 8000000 in
theorem refPoll_no (q : Plf) (w : World) (hok : okAID q.aid = false) :
    Calls Tryd.prog 14 #[q.val] w fun e w' => e = .returned (.tuple #[.slice none 0 0, .int .i64 103]) ∧ Below w.heap.size w w' := by
  have HB := Lib.hid ((Below.refl w.heap.size w).alloc (Nat.le_refl _) (.cells q.cells 30))
  have c0 := cells_new w q.cells 30 0
  dsimp only [Plf.cells] at c0
  have hn : ¬(1 ≤ q.aid ∧ q.aid ≤ 2007) := by rw [← okAID_iff, hok]; simp
  clear hok
  cases h1 : decide (q.aid < 1)
  · have h2 : decide ((2007 : Int) < q.aid) = true := by simp at h1 ⊢; omega
    clear hn
    go_enter Tryd.func14, Tryd.ntmps14
    go_wp2
    go_ret2
    exact ⟨rfl, HB.out⟩
  · clear hn
    go_enter Tryd.func14, Tryd.ntmps14
    go_wp2
    go_ret2
    exact ⟨rfl, HB.out⟩
set_option maxRecDepth 100000 in
set_option maxHeartbeats 8000000 in
theorem refPoll_yes (q : Plf) (w : World) (hok : okAID q.aid = true) :
    Calls Tryd.prog 14 #[q.val] w fun e w' => ∃ g cap, e = .returned (.tuple #[.slice (some ⟨g, 0, none⟩) 16 cap, .int .i64 0]) ∧ OwnB w' w.heap.size 5 .u8 g 16 cap (encP q) ∧ Below w.heap.size w w' := by
  obtain ⟨k0, k1⟩ := (okAID_iff _).1 hok
  have HB := Lib.hid ((Below.refl w.heap.size w).alloc (Nat.le_refl _) (.cells q.cells 30))
  have HZ := Lib.hid (show w.heap.size < (w.alloc (.cells q.cells 30)).heap.size by simp)
  have hC := cells_new w q.cells 30
  have h1 : decide (q.aid < 1) = false := by simp; omega
  have h2 : decide ((2007 : Int) < q.aid) = false := by simp; omega
  have c0 := hC 0
  have HC := Lib.hid hC
  dsimp only [Plf.cells] at c0
  clear hC hok
  have x1 : IntKind.i64.wrap (49152 + q.aid) = 49152 + q.aid := IntWalk.i64_in _ ⟨by omega, by omega⟩
  go_enter Tryd.func14, Tryd.ntmps14
  go_wp2
  clear c0
  generalize hw1 : w.alloc (.cells q.cells 30) = w1 at *
  clear hw1
  have HQ := Lib.hid (show ∀ (w' : World) (i : Nat), Below w1.heap.size w1 w' → w'.cell? ⟨w.heap.size, i, none⟩ = q.cells[i]? from
    fun w' i hb => (hb.cell HZ.out).trans (HC.out i))
  have HRG := Lib.hid (show ∀ (w' : World) (o : Nat) (x : A6), Below w1.heap.size w1 w' → (∀ j u, (x.l.map (Value.int .u8))[j]? = some u → q.cells[o + j]? = some u) → w'.rangeAt w.heap.size o x.cells.toList from
    fun w' o x hb hx j v hv => (HQ.out w' (o + j) hb).trans (hx j v (show (x.l.map (Value.int .u8))[j]? = some v from hv)))
  have HBd := Lib.hid ((Below.refl w1.heap.size w1).drew)
  have HO3 := Lib.hid (show OwnB ((w1.alloc (.cells #[.int .u8 164, .int .u8 0] 5)).drew) w1.heap.size 5 .u8 w1.heap.size 2 2 [164, 0] from World.ownsRow.drew (World.ownsRow_lit w1 #[.int .u8 164, .int .u8 0] 2 (Nat.le_refl _) (by unfold maxLen; omega) rfl))
  have HB3 := Lib.hid (((Below.refl w1.heap.size w1).alloc (Nat.le_refl _) (.cells #[.int .u8 164, .int .u8 0] 5)).drew)
  refine wp_region_held_drew (S := fun w' => Below w1.heap.size w1 w') (by kernel_rfl) HBd.out (fun hHeld => ?_)
  refine wpAnyH_take (i := 1) (v := ?_) rfl (by kernel_rfl) (by kernel_rfl) (by kernel_rfl) (fun _ _ _ h => h) (Or.inl ⟨by rfl, ?_⟩) (by assumption) ?_
  rotate_left
  · intro w hSw
    clear hSw
    go_simp
    try with_reducible rfl
  try simp only [Act.put, List.getElem_toArray, List.getElem_cons_zero, List.getElem_cons_succ, List.setIfInBounds_toArray, List.set_cons_zero, List.set_cons_succ]
  refine wpAnyH_take (i := 2) (v := ?_) rfl (by kernel_rfl) (by kernel_rfl) (by kernel_rfl) (fun _ _ _ h => h) (Or.inl ⟨by rfl, ?_⟩) (by assumption) ?_
  rotate_left
  · intro w hSw
    have c := HQ.out w 0 hSw
    dsimp only [Plf.cells] at c
    clear hSw
    go_simp
    try with_reducible rfl
  try simp only [Act.put, List.getElem_toArray, List.getElem_cons_zero, List.getElem_cons_succ, List.setIfInBounds_toArray, List.set_cons_zero, List.set_cons_succ]
  refine wpAnyH_take (i := 3) (v := ?_) rfl (by kernel_rfl) (by kernel_rfl) (by kernel_rfl) (fun _ _ _ h => h) (Or.inl ⟨by rfl, ?_⟩) (by assumption) ?_
  rotate_left
  · intro w hSw
    clear hSw
    go_simp
    try with_reducible rfl
  try simp only [Act.put, List.getElem_toArray, List.getElem_cons_zero, List.getElem_cons_succ, List.setIfInBounds_toArray, List.set_cons_zero, List.set_cons_succ]
  refine wpAnyH_take (i := 5) (v := ?_) rfl (by kernel_rfl) (by kernel_rfl) (by kernel_rfl) (fun _ _ _ h => h) (Or.inl ⟨by rfl, ?_⟩) (by assumption) ?_
  rotate_left
  · intro w hSw
    clear hSw
    go_simp
    try with_reducible rfl
  try simp only [Act.put, List.getElem_toArray, List.getElem_cons_zero, List.getElem_cons_succ, List.setIfInBounds_toArray, List.set_cons_zero, List.set_cons_succ]
  refine wpAnyH_take (i := 6) (v := .agg q.b.cells) rfl (by kernel_rfl) (by kernel_rfl) (by kernel_rfl) (fun _ _ _ h => h) (yieldsIf_load_mid (by rfl) 23 (.tmp 17) rfl w.heap.size 1 rfl q.b.cells.toList _ (fun w' hw' => HRG.out w' 1 q.b hw' (src6 (six_in rfl rfl rfl rfl rfl rfl))) Tryd.underlying23 rfl size6) (by assumption) ?_
  try simp only [Act.put, List.getElem_toArray, List.getElem_cons_zero, List.getElem_cons_succ, List.setIfInBounds_toArray, List.set_cons_zero, List.set_cons_succ]
  refine wpAnyH_take (i := 8) (v := ?_) rfl (by kernel_rfl) (by kernel_rfl) (by kernel_rfl) (fun _ _ _ h => h) (Or.inl ⟨by rfl, ?_⟩) (by assumption) ?_
  rotate_left
  · intro w hSw
    clear hSw
    go_simp
    try with_reducible rfl
  try simp only [Act.put, List.getElem_toArray, List.getElem_cons_zero, List.getElem_cons_succ, List.setIfInBounds_toArray, List.set_cons_zero, List.set_cons_succ]
  refine wpAnyH_take (i := 9) (v := .agg q.f.cells) rfl (by kernel_rfl) (by kernel_rfl) (by kernel_rfl) (fun _ _ _ h => h) (yieldsIf_load_mid (by rfl) 23 (.tmp 20) rfl w.heap.size 7 rfl q.f.cells.toList _ (fun w' hw' => HRG.out w' 7 q.f hw' (src6 (six_in rfl rfl rfl rfl rfl rfl))) Tryd.underlying23 rfl size6) (by assumption) ?_
  try simp only [Act.put, List.getElem_toArray, List.getElem_cons_zero, List.getElem_cons_succ, List.setIfInBounds_toArray, List.set_cons_zero, List.set_cons_succ]
  refine wpAnyH_ready (rs := [0]) (by kernel_rfl) (by simp) ?_
  refine AllReadyH.cons rfl (fun K hK => ?_) AllReadyH.nil
  go_simp
  clear hHeld
  refine hK.out _ _ HB3.out (fun hHeld => ?_)
  clear hK K
  generalize (World.alloc w1 _).drew = w3 at *
  try simp only [Act.put, List.getElem_toArray, List.getElem_cons_zero, List.getElem_cons_succ, List.setIfInBounds_toArray, List.set_cons_zero, List.set_cons_succ]
  refine wpAnyH_ready (rs := [4]) (by kernel_rfl) (by simp) ?_
  refine AllReadyH.cons rfl (fun K hK => ?_) AllReadyH.nil
  go_simp
  refine (two_own w1.heap.size w1.heap.size 2 2 _ (49152 + q.aid) _ HO3.out HB3.out.size (by omega) (by omega) (by omega)).mono ?_
  rintro e' w5 ⟨g5, cap5, rfl, hO, hb⟩
  have HO5 := Lib.hid hO
  have HB5 := Lib.hid (HB3.out.trans hb)
  clear hO hb HO3 HB3 hHeld
  refine hK.out _ _ HB5.out (fun hHeld => ?_)
  clear hK K
  try simp only [Act.put, List.getElem_toArray, List.getElem_cons_zero, List.getElem_cons_succ, List.setIfInBounds_toArray, List.set_cons_zero, List.set_cons_succ]
  refine wpAnyH_ready (rs := [7]) (by kernel_rfl) (by simp) ?_
  refine AllReadyH.cons rfl (fun K hK => ?_) AllReadyH.nil
  go_simp
  refine (addr_own w1.heap.size g5 4 cap5 _ q.b _ HO5.out HB5.out.size (by omega)).mono ?_
  rintro e' w6 ⟨g6, cap6, rfl, hO, hb⟩
  have HO6 := Lib.hid hO
  have HB6 := Lib.hid (HB5.out.trans hb)
  clear hO hb HO5 HB5 hHeld
  refine hK.out _ _ HB6.out (fun hHeld => ?_)
  clear hK K
  try simp only [Act.put, List.getElem_toArray, List.getElem_cons_zero, List.getElem_cons_succ, List.setIfInBounds_toArray, List.set_cons_zero, List.set_cons_succ]
  refine wpAnyH_ready (rs := [10]) (by kernel_rfl) (by simp) ?_
  refine AllReadyH.cons rfl (fun K hK => ?_) AllReadyH.nil
  go_simp
  refine (addr_own w1.heap.size g6 10 cap6 _ q.f _ HO6.out HB6.out.size (by omega)).mono ?_
  rintro e' w7 ⟨g7, cap7, rfl, hO, hb⟩
  have HO7 := Lib.hid hO
  have HB7 := Lib.hid (HB6.out.trans hb)
  clear hO hb HO6 HB6 hHeld
  refine hK.out _ _ HB7.out (fun hHeld => ?_)
  clear hK K
  try simp only [Act.put, List.getElem_toArray, List.getElem_cons_zero, List.getElem_cons_succ, List.setIfInBounds_toArray, List.set_cons_zero, List.set_cons_succ]
  refine wpAnyH_take (i := 11) (v := ?_) rfl (by kernel_rfl) (by kernel_rfl) (by kernel_rfl) (fun _ _ _ h => h) (Or.inl ⟨by rfl, ?_⟩) (by assumption) ?_
  rotate_left
  · intro w hSw
    clear hSw
    go_simp
    try with_reducible rfl
  try simp only [Act.put, List.getElem_toArray, List.getElem_cons_zero, List.getElem_cons_succ, List.setIfInBounds_toArray, List.set_cons_zero, List.set_cons_succ]
  refine wpAnyH_take (i := 12) (v := ?_) rfl (by kernel_rfl) (by kernel_rfl) (by kernel_rfl) (fun _ _ _ h => h) (Or.inl ⟨by rfl, ?_⟩) (by assumption) ?_
  rotate_left
  · intro w hSw
    clear hSw
    go_simp
    try with_reducible rfl
  try simp only [Act.put, List.getElem_toArray, List.getElem_cons_zero, List.getElem_cons_succ, List.setIfInBounds_toArray, List.set_cons_zero, List.set_cons_succ]
  refine wpAnyH_done (by kernel_rfl) ?_ _
  clear hHeld
  go_wp2
  go_ret2
  exact ⟨g7, cap7, rfl, HO7.out.base HB.out.size, HB.out.trans (HB7.out.mono HB.out.size)⟩
end Go.Proofs.YtpiiodnhiolfbaaDoor
