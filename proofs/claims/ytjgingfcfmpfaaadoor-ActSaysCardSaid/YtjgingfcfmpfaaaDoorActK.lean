/-
  CONTRACTS of the reference's head, flag, DelBytes.
-/
import Derived.Test.YtjgingfcfmpfaaaDoorActC
namespace Go.Proofs.YtjgingfcfmpfaaaDoor
open Go.ChangeShapes Go.WideShapes Go.ChangeAt Go.RowKit
set_option linter.unusedVariables false
set_option linter.unusedSimpArgs false

def encR (t f b : A6) : List Int := [208, 0, 0, 0] ++ t.l ++ f.l ++ b.l ++ [0, 0, 3]
theorem encR_app (t f b : A6) (k v : Int) : encR t f b ++ [k, v] = encH k t f b ++ [v] := by simp [encR, encH]
set_option maxRecDepth 100000 in
set_option maxHeartbeats 8000000 in
theorem refHead_own (t f b : A6) (w : World) :
    Calls Tryd.prog 26 #[t.val, f.val, b.val] w fun e w' => ∃ g cap, e = .returned (.slice (some ⟨g, 0, none⟩) 25 cap) ∧ OwnB w' w.heap.size 5 .u8 g 25 cap (encR t f b) ∧ Below w.heap.size w w' := by
  have HB := Lib.hid ((((Below.refl w.heap.size w).alloc (Nat.le_refl _) (.cells t.cells 23)).alloc (by simp) (.cells f.cells 23)).alloc (by simp; omega) (.cells b.cells 23))
  have HX := Lib.hid (box3 w t f b)
  have HZ := Lib.hid (size3 w t f b)
  go_enter Tryd.func26, Tryd.ntmps26
  go_wp2
  generalize World.alloc (World.alloc (World.alloc w _) _) _ = w1 at *
  have HRt := Lib.hid (show ∀ w' : World, Below w1.heap.size w1 w' → w'.rangeAt (w.heap.size) 0 t.cells.toList from
    fun w' hb j v hv => (hb.cell (p := ⟨w.heap.size, 0 + j, none⟩) (by have := HZ.out; simp only; omega)).trans ((HX.out (0 + j)).1.trans (by rw [Nat.zero_add]; simpa using hv)))
  have HRf := Lib.hid (show ∀ w' : World, Below w1.heap.size w1 w' → w'.rangeAt (w.heap.size + 1) 0 f.cells.toList from
    fun w' hb j v hv => (hb.cell (p := ⟨w.heap.size + 1, 0 + j, none⟩) (by have := HZ.out; simp only; omega)).trans ((HX.out (0 + j)).2.1.trans (by rw [Nat.zero_add]; simpa using hv)))
  have HRb := Lib.hid (show ∀ w' : World, Below w1.heap.size w1 w' → w'.rangeAt (w.heap.size + 2) 0 b.cells.toList from
    fun w' hb j v hv => (hb.cell (p := ⟨w.heap.size + 2, 0 + j, none⟩) (by have := HZ.out; simp only; omega)).trans ((HX.out (0 + j)).2.2.trans (by rw [Nat.zero_add]; simpa using hv)))
  have HBd := Lib.hid ((Below.refl w1.heap.size w1).drew)
  refine wp_region_held_drew (S := fun w' => Below w1.heap.size w1 w') (by kernel_rfl) HBd.out (fun hHeld => ?_)
  refine wpAnyH_take (i := 1) (v := .agg t.cells) rfl (by kernel_rfl) (by kernel_rfl) (by kernel_rfl) (fun _ _ _ h => h) (yieldsIf_load_mid (by rfl) 23 (.tmp 3) rfl (w.heap.size) 0 rfl t.cells.toList _ (fun w' hw' => HRt.out w' hw') Tryd.underlying23 rfl size6) (by assumption) ?_
  try simp only [Act.put, List.getElem_toArray, List.getElem_cons_zero, List.getElem_cons_succ, List.setIfInBounds_toArray, List.set_cons_zero, List.set_cons_succ]
  refine wpAnyH_take (i := 3) (v := .agg f.cells) rfl (by kernel_rfl) (by kernel_rfl) (by kernel_rfl) (fun _ _ _ h => h) (yieldsIf_load_mid (by rfl) 23 (.tmp 4) rfl (w.heap.size + 1) 0 rfl f.cells.toList _ (fun w' hw' => HRf.out w' hw') Tryd.underlying23 rfl size6) (by assumption) ?_
  try simp only [Act.put, List.getElem_toArray, List.getElem_cons_zero, List.getElem_cons_succ, List.setIfInBounds_toArray, List.set_cons_zero, List.set_cons_succ]
  refine wpAnyH_take (i := 5) (v := .agg b.cells) rfl (by kernel_rfl) (by kernel_rfl) (by kernel_rfl) (fun _ _ _ h => h) (yieldsIf_load_mid (by rfl) 23 (.tmp 5) rfl (w.heap.size + 2) 0 rfl b.cells.toList _ (fun w' hw' => HRb.out w' hw') Tryd.underlying23 rfl size6) (by assumption) ?_
  try simp only [Act.put, List.getElem_toArray, List.getElem_cons_zero, List.getElem_cons_succ, List.setIfInBounds_toArray, List.set_cons_zero, List.set_cons_succ]
  have HO3 := Lib.hid (show OwnB ((w1.alloc (.cells #[.int .u8 208, .int .u8 0, .int .u8 0, .int .u8 0] 5)).drew) w1.heap.size 5 .u8 w1.heap.size 4 4 [208, 0, 0, 0] from World.ownsRow.drew (World.ownsRow_lit w1 #[.int .u8 208, .int .u8 0, .int .u8 0, .int .u8 0] 4 (Nat.le_refl _) (by unfold maxLen; omega) rfl))
  have HB3 := Lib.hid (((Below.refl w1.heap.size w1).alloc (Nat.le_refl _) (.cells #[.int .u8 208, .int .u8 0, .int .u8 0, .int .u8 0] 5)).drew)
  refine wpAnyH_ready (rs := [0]) (by kernel_rfl) (by simp) ?_
  refine AllReadyH.cons rfl (fun K hK => ?_) AllReadyH.nil
  go_simp
  clear hHeld
  refine hK.out _ _ HB3.out (fun hHeld => ?_)
  clear hK K
  generalize (World.alloc w1 _).drew = w3 at *
  try simp only [Act.put, List.getElem_toArray, List.getElem_cons_zero, List.getElem_cons_succ, List.setIfInBounds_toArray, List.set_cons_zero, List.set_cons_succ]
  refine wpAnyH_ready (rs := [2]) (by kernel_rfl) (by simp) ?_
  refine AllReadyH.cons rfl (fun K hK => ?_) AllReadyH.nil
  go_simp
  refine (addr_own w1.heap.size w1.heap.size 4 4 _ t _ HO3.out HB3.out.size (by omega)).mono ?_
  rintro e' w4 ⟨g4, cap4, rfl, hO, hb⟩
  have HO4 := Lib.hid hO
  have HB4 := Lib.hid (HB3.out.trans hb)
  clear hO hb 
  clear hHeld
  refine hK.out _ _ HB4.out (fun hHeld => ?_)
  clear hK K
  try simp only [Act.put, List.getElem_toArray, List.getElem_cons_zero, List.getElem_cons_succ, List.setIfInBounds_toArray, List.set_cons_zero, List.set_cons_succ]
  refine wpAnyH_ready (rs := [4]) (by kernel_rfl) (by simp) ?_
  refine AllReadyH.cons rfl (fun K hK => ?_) AllReadyH.nil
  go_simp
  refine (addr_own w1.heap.size g4 10 cap4 _ f _ HO4.out HB4.out.size (by omega)).mono ?_
  rintro e' w5 ⟨g5, cap5, rfl, hO, hb⟩
  have HO5 := Lib.hid hO
  have HB5 := Lib.hid (HB4.out.trans hb)
  clear hO hb 
  clear hHeld
  refine hK.out _ _ HB5.out (fun hHeld => ?_)
  clear hK K
  try simp only [Act.put, List.getElem_toArray, List.getElem_cons_zero, List.getElem_cons_succ, List.setIfInBounds_toArray, List.set_cons_zero, List.set_cons_succ]
  refine wpAnyH_ready (rs := [6]) (by kernel_rfl) (by simp) ?_
  refine AllReadyH.cons rfl (fun K hK => ?_) AllReadyH.nil
  go_simp
  refine (addr_own w1.heap.size g5 16 cap5 _ b _ HO5.out HB5.out.size (by omega)).mono ?_
  rintro e' w6 ⟨g6, cap6, rfl, hO, hb⟩
  have HO6 := Lib.hid hO
  have HB6 := Lib.hid (HB5.out.trans hb)
  clear hO hb 
  clear hHeld
  refine hK.out _ _ HB6.out (fun hHeld => ?_)
  clear hK K
  try simp only [Act.put, List.getElem_toArray, List.getElem_cons_zero, List.getElem_cons_succ, List.setIfInBounds_toArray, List.set_cons_zero, List.set_cons_succ]
  refine wpAnyH_take (i := 7) (v := ?_) rfl (by kernel_rfl) (by kernel_rfl) (by kernel_rfl) (fun _ _ _ h => h) (Or.inl ⟨by rfl, ?_⟩) (by assumption) ?_
  rotate_left
  · intro w hSw
    clear hSw
    go_simp
    try with_reducible rfl
  try simp only [Act.put, List.getElem_toArray, List.getElem_cons_zero, List.getElem_cons_succ, List.setIfInBounds_toArray, List.set_cons_zero, List.set_cons_succ]
  refine wpAnyH_done (by kernel_rfl) ?_ _
  clear hHeld
  go_wp2_with (refine app_own rfl (.tmp 15) (.tmp 16) rfl w1.heap.size g6 22 cap6 _ rfl (World.ownsRow.alloc HO6.out _) ⟨w6.heap.size, 0, none⟩ 3 3 [0, 0, 3] rfl rfl (World.news_of_block (cs := #[.int .u8 0, .int .u8 0, .int .u8 3]) (t := 5) (fr := (0, 0)) (heap_alloc_new w6 _)) (by omega) (by have := HB6.out.size; simp; omega) ?_; intro g7 cap7 w7 hO7 hb7; have HB7 := Lib.hid ((HB6.out.alloc HB6.out.size _).trans hb7.out); clear hb7)
  go_ret
  exact ⟨g7, cap7, rfl, hO7.out.base HB.out.size, HB.out.trans (HB7.out.mono HB.out.size)⟩
set_option maxRecDepth 100000 in
set_option maxHeartbeats 8000000 in
theorem flag_any (on : Bool) (n : Int) (w : World) :
    Calls Tryd.prog 28 #[.bool on, .int .i64 n] w fun e w' => e = .returned (.int .i64 (if on = true then n else 0)) ∧ w = w' := by
  cases on
  · go_enter Tryd.func28, Tryd.ntmps28
    go_wp2
    go_ret
    exact ⟨rfl, rfl⟩
  · go_enter Tryd.func28, Tryd.ntmps28
    go_wp2
    go_ret
    exact ⟨rfl, rfl⟩
set_option maxRecDepth 100000 in
set_option maxHeartbeats 8000000 in
theorem refDel_no (q : Dlf) (w : World) (hok : okDel q = false) :
    Calls Tryd.prog 11 #[q.val] w fun e w' => e = .returned (.tuple #[.slice none 0 0, .int .i64 103]) ∧ Below w.heap.size w w' := by
  have HB := Lib.hid ((Below.refl w.heap.size w).alloc (Nat.le_refl _) (.cells q.cells 27))
  have HZ := Lib.hid (show w.heap.size < (w.alloc (.cells q.cells 27)).heap.size by simp)
  have hC := cells_new w q.cells 27
  have c19 := hC 19
  have c20 := hC 20
  have HC := Lib.hid hC
  dsimp only [Dlf.cells] at c19 c20
  clear hC
  cases h1 : upT 7 q.tid
  · have H1 := Lib.hid (upT_not h1)
    go_enter Tryd.func11, Tryd.ntmps11
    go_wp2_with (fail)
    refine (out_is H1.out _).mono ?_
    rintro e w2 ⟨rfl, rfl⟩
    go_wp2
    go_ret2
    exact ⟨rfl, HB.out⟩
  · have h2 : upT 65535 q.rs = false := by unfold okDel at hok; rw [h1] at hok; simpa using hok
    have H1 := Lib.hid (upT_is h1)
    have H2 := Lib.hid (upT_not h2)
    go_enter Tryd.func11, Tryd.ntmps11
    go_wp2_with (fail)
    refine (out_is H1.out _).mono ?_
    rintro e w2 ⟨rfl, rfl⟩
    go_wp2_with (fail)
    refine (out_is H2.out _).mono ?_
    rintro e w2 ⟨rfl, rfl⟩
    go_wp2
    go_ret2
    exact ⟨rfl, HB.out⟩
set_option maxRecDepth 100000 in
set_option maxHeartbeats 8000000 in
theorem refDel_yes (q : Dlf) (w : World) (hok : okDel q = true) :
    Calls Tryd.prog 11 #[q.val] w fun e w' => ∃ g cap, e = .returned (.tuple #[.slice (some ⟨g, 0, none⟩) 30 cap, .int .i64 0]) ∧ OwnB w' w.heap.size 5 .u8 g 30 cap (encDel q) ∧ Below w.heap.size w w' := by
  have hk := (okDel_iff q).1 hok
  obtain ⟨⟨k0, k1⟩, k2, k3⟩ := hk
  have H1 := Lib.hid (upT_is ((upT_iff 7 q.tid).2 ⟨k0, k1⟩))
  have H2 := Lib.hid (upT_is ((upT_iff 65535 q.rs).2 ⟨k2, k3⟩))
  have HB := Lib.hid ((Below.refl w.heap.size w).alloc (Nat.le_refl _) (.cells q.cells 27))
  have HZ := Lib.hid (show w.heap.size < (w.alloc (.cells q.cells 27)).heap.size by simp)
  have hC := cells_new w q.cells 27
  have c19 := hC 19
  have c20 := hC 20
  have HC := Lib.hid hC
  dsimp only [Dlf.cells] at c19 c20
  clear hC
  have x1 : IntKind.i64.wrap (q.tid * 4096) = q.tid * 4096 := IntWalk.i64_in _ ⟨by omega, by omega⟩
  have HV := Lib.hid (show mineV q = (if q.mine = true then (2048 : Int) else 0) + q.tid * 4096 by unfold mineV; omega)
  have HL := Lib.hid (show encR q.t q.f q.b ++ [2] ++ [mineV q % 256, mineV q / 256] ++ [q.rs % 256, q.rs / 256] = encDel q from rfl)
  rw [HV.out] at HL
  obtain ⟨f0, f1⟩ : 0 ≤ (if q.mine = true then (2048 : Int) else 0) ∧ (if q.mine = true then (2048 : Int) else 0) ≤ 2048 := by split <;> omega
  have HFL := Lib.hid (flag_any q.mine 2048)
  generalize (if q.mine = true then (2048 : Int) else 0) = fv at *
  have x2 : IntKind.i64.wrap (fv + q.tid * 4096) = fv + q.tid * 4096 := IntWalk.i64_in _ ⟨by omega, by omega⟩
  go_enter Tryd.func11, Tryd.ntmps11
  go_wp2_with (fail)
  refine (out_is H1.out _).mono ?_
  rintro e w2 ⟨rfl, rfl⟩
  go_wp2_with (fail)
  refine (out_is H2.out _).mono ?_
  rintro e w2 ⟨rfl, rfl⟩
  clear c19 c20
  generalize hw1 : w.alloc (.cells q.cells 27) = w1 at *
  clear hw1
  go_wp2
  have HQ := Lib.hid (show ∀ (w' : World) (i : Nat), Below w1.heap.size w1 w' → w'.cell? ⟨w.heap.size, i, none⟩ = q.cells[i]? from
    fun w' i hb => (hb.cell HZ.out).trans (HC.out i))
  have HRG := Lib.hid (show ∀ (w' : World) (o : Nat) (x : A6), Below w1.heap.size w1 w' → (∀ j u, (x.l.map (Value.int .u8))[j]? = some u → q.cells[o + j]? = some u) → w'.rangeAt w.heap.size o x.cells.toList from
    fun w' o x hb hx j v hv => (HQ.out w' (o + j) hb).trans (hx j v (show (x.l.map (Value.int .u8))[j]? = some v from hv)))
  have HB3 := Lib.hid ((Below.refl w1.heap.size w1).drew)
  refine wp_region_held_drew (S := fun w' => Below w1.heap.size w1 w') (by kernel_rfl) HB3.out (fun hHeld => ?_)
  generalize World.drew w1 = w3 at *
  refine wpAnyH_take (i := 0) (v := ?_) rfl (by kernel_rfl) (by kernel_rfl) (by kernel_rfl) (fun _ _ _ h => h) (Or.inl ⟨by rfl, ?_⟩) (by assumption) ?_
  rotate_left
  · intro w hSw
    clear hSw
    go_simp
    try with_reducible rfl
  try simp only [Act.put, List.getElem_toArray, List.getElem_cons_zero, List.getElem_cons_succ, List.setIfInBounds_toArray, List.set_cons_zero, List.set_cons_succ]
  refine wpAnyH_take (i := 1) (v := .agg q.t.cells) rfl (by kernel_rfl) (by kernel_rfl) (by kernel_rfl) (fun _ _ _ h => h) (yieldsIf_load_mid (by rfl) 23 (.tmp 12) rfl w.heap.size 0 rfl q.t.cells.toList _ (fun w' hw' => HRG.out w' 0 q.t hw' (src6 (six_in rfl rfl rfl rfl rfl rfl))) Tryd.underlying23 rfl size6) (by assumption) ?_
  try simp only [Act.put, List.getElem_toArray, List.getElem_cons_zero, List.getElem_cons_succ, List.setIfInBounds_toArray, List.set_cons_zero, List.set_cons_succ]
  refine wpAnyH_take (i := 2) (v := ?_) rfl (by kernel_rfl) (by kernel_rfl) (by kernel_rfl) (fun _ _ _ h => h) (Or.inl ⟨by rfl, ?_⟩) (by assumption) ?_
  rotate_left
  · intro w hSw
    clear hSw
    go_simp
    try with_reducible rfl
  try simp only [Act.put, List.getElem_toArray, List.getElem_cons_zero, List.getElem_cons_succ, List.setIfInBounds_toArray, List.set_cons_zero, List.set_cons_succ]
  refine wpAnyH_take (i := 3) (v := .agg q.f.cells) rfl (by kernel_rfl) (by kernel_rfl) (by kernel_rfl) (fun _ _ _ h => h) (yieldsIf_load_mid (by rfl) 23 (.tmp 14) rfl w.heap.size 6 rfl q.f.cells.toList _ (fun w' hw' => HRG.out w' 6 q.f hw' (src6 (six_in rfl rfl rfl rfl rfl rfl))) Tryd.underlying23 rfl size6) (by assumption) ?_
  try simp only [Act.put, List.getElem_toArray, List.getElem_cons_zero, List.getElem_cons_succ, List.setIfInBounds_toArray, List.set_cons_zero, List.set_cons_succ]
  refine wpAnyH_take (i := 4) (v := ?_) rfl (by kernel_rfl) (by kernel_rfl) (by kernel_rfl) (fun _ _ _ h => h) (Or.inl ⟨by rfl, ?_⟩) (by assumption) ?_
  rotate_left
  · intro w hSw
    clear hSw
    go_simp
    try with_reducible rfl
  try simp only [Act.put, List.getElem_toArray, List.getElem_cons_zero, List.getElem_cons_succ, List.setIfInBounds_toArray, List.set_cons_zero, List.set_cons_succ]
  refine wpAnyH_take (i := 5) (v := .agg q.b.cells) rfl (by kernel_rfl) (by kernel_rfl) (by kernel_rfl) (fun _ _ _ h => h) (yieldsIf_load_mid (by rfl) 23 (.tmp 16) rfl w.heap.size 12 rfl q.b.cells.toList _ (fun w' hw' => HRG.out w' 12 q.b hw' (src6 (six_in rfl rfl rfl rfl rfl rfl))) Tryd.underlying23 rfl size6) (by assumption) ?_
  try simp only [Act.put, List.getElem_toArray, List.getElem_cons_zero, List.getElem_cons_succ, List.setIfInBounds_toArray, List.set_cons_zero, List.set_cons_succ]
  refine wpAnyH_take (i := 9) (v := ?_) rfl (by kernel_rfl) (by kernel_rfl) (by kernel_rfl) (fun _ _ _ h => h) (Or.inl ⟨by rfl, ?_⟩) (by assumption) ?_
  rotate_left
  · intro w hSw
    clear hSw
    go_simp
    try with_reducible rfl
  try simp only [Act.put, List.getElem_toArray, List.getElem_cons_zero, List.getElem_cons_succ, List.setIfInBounds_toArray, List.set_cons_zero, List.set_cons_succ]
  refine wpAnyH_take (i := 10) (v := ?_) rfl (by kernel_rfl) (by kernel_rfl) (by kernel_rfl) (fun _ _ _ h => h) (Or.inl ⟨by rfl, ?_⟩) (by assumption) ?_
  rotate_left
  · intro w hSw
    have c := HQ.out w 18 hSw
    dsimp only [Dlf.cells] at c
    clear hSw
    go_simp
    try with_reducible rfl
  try simp only [Act.put, List.getElem_toArray, List.getElem_cons_zero, List.getElem_cons_succ, List.setIfInBounds_toArray, List.set_cons_zero, List.set_cons_succ]
  refine wpAnyH_take (i := 12) (v := ?_) rfl (by kernel_rfl) (by kernel_rfl) (by kernel_rfl) (fun _ _ _ h => h) (Or.inl ⟨by rfl, ?_⟩) (by assumption) ?_
  rotate_left
  · intro w hSw
    clear hSw
    go_simp
    try with_reducible rfl
  try simp only [Act.put, List.getElem_toArray, List.getElem_cons_zero, List.getElem_cons_succ, List.setIfInBounds_toArray, List.set_cons_zero, List.set_cons_succ]
  refine wpAnyH_take (i := 13) (v := ?_) rfl (by kernel_rfl) (by kernel_rfl) (by kernel_rfl) (fun _ _ _ h => h) (Or.inl ⟨by rfl, ?_⟩) (by assumption) ?_
  rotate_left
  · intro w hSw
    have c := HQ.out w 19 hSw
    dsimp only [Dlf.cells] at c
    clear hSw
    go_simp
    try with_reducible rfl
  try simp only [Act.put, List.getElem_toArray, List.getElem_cons_zero, List.getElem_cons_succ, List.setIfInBounds_toArray, List.set_cons_zero, List.set_cons_succ]
  refine wpAnyH_take (i := 14) (v := ?_) rfl (by kernel_rfl) (by kernel_rfl) (by kernel_rfl) (fun _ _ _ h => h) (Or.inl ⟨by rfl, ?_⟩) (by assumption) ?_
  rotate_left
  · intro w hSw
    clear hSw
    go_simp
    try with_reducible rfl
  try simp only [Act.put, List.getElem_toArray, List.getElem_cons_zero, List.getElem_cons_succ, List.setIfInBounds_toArray, List.set_cons_zero, List.set_cons_succ]
  refine wpAnyH_take (i := 17) (v := ?_) rfl (by kernel_rfl) (by kernel_rfl) (by kernel_rfl) (fun _ _ _ h => h) (Or.inl ⟨by rfl, ?_⟩) (by assumption) ?_
  rotate_left
  · intro w hSw
    clear hSw
    go_simp
    try with_reducible rfl
  try simp only [Act.put, List.getElem_toArray, List.getElem_cons_zero, List.getElem_cons_succ, List.setIfInBounds_toArray, List.set_cons_zero, List.set_cons_succ]
  refine wpAnyH_take (i := 18) (v := ?_) rfl (by kernel_rfl) (by kernel_rfl) (by kernel_rfl) (fun _ _ _ h => h) (Or.inl ⟨by rfl, ?_⟩) (by assumption) ?_
  rotate_left
  · intro w hSw
    have c := HQ.out w 20 hSw
    dsimp only [Dlf.cells] at c
    clear hSw
    go_simp
    try with_reducible rfl
  try simp only [Act.put, List.getElem_toArray, List.getElem_cons_zero, List.getElem_cons_succ, List.setIfInBounds_toArray, List.set_cons_zero, List.set_cons_succ]
  refine wpAnyH_ready (rs := [6, 7]) (by kernel_rfl) (by simp) ?_
  refine AllReadyH.cons rfl (fun K hK => ?_) (AllReadyH.cons rfl (fun K hK => ?_) AllReadyH.nil)
  · go_simp
    refine (refHead_own q.t q.f q.b _).mono ?_
    rintro e' w4 ⟨g, cap, rfl, hO, hb⟩
    have HO4 := Lib.hid (hO.base HB3.out.size)
    have HB4 := Lib.hid (HB3.out.trans (hb.mono HB3.out.size))
    clear hO hb
    clear hHeld
    refine hK.out _ _ HB4.out (fun hHeld => ?_)
    clear hK K
    try simp only [Act.put, List.getElem_toArray, List.getElem_cons_zero, List.getElem_cons_succ, List.setIfInBounds_toArray, List.set_cons_zero, List.set_cons_succ]
    refine wpAnyH_ready (rs := [7]) (by kernel_rfl) (by simp) ?_
    refine AllReadyH.cons rfl (fun K hK => ?_) AllReadyH.nil
    have HZ5 := Lib.hid (heap_alloc_last w4 (.cells #[.int .u8 2] 5))
    have HB5 := Lib.hid (HB4.out.alloc HB4.out.size (.cells #[.int .u8 2] 5))
    have HE5 := Lib.hid (show w4.heap.size < (w4.alloc (.cells #[.int .u8 2] 5)).heap.size by simp)
    have HO5 := Lib.hid (World.ownsRow.alloc HO4.out (.cells #[.int .u8 2] 5))
    clear hHeld
    go_simp
    refine hK.out _ _ HB5.out (fun hHeld => ?_)
    clear hK K
    generalize World.alloc w4 _ = w5 at *
    generalize hh5 : w4.heap.size = h5 at *
    clear hh5
    try simp only [Act.put, List.getElem_toArray, List.getElem_cons_zero, List.getElem_cons_succ, List.setIfInBounds_toArray, List.set_cons_zero, List.set_cons_succ]
    refine wpAnyH_ready (rs := [8]) (by kernel_rfl) (by simp) ?_
    refine AllReadyH.cons rfl (fun K hK => ?_) AllReadyH.nil
    refine step_app_own rfl (.tmp 18) (.tmp 19) rfl w1.heap.size g 25 cap _ (by rfl) HO5.out ⟨h5, 0, none⟩ 1 1 [2] (by rfl) rfl (by omega) (World.news_of_block (cs := #[.int .u8 2]) (t := 5) (fr := (0, 0)) HZ5.out) (by omega) HB5.out.size ?_
    intro g7 cap7 w7 hO7 hb7
    have HB7 := Lib.hid (HB5.out.trans hb7.out)
    clear hHeld
    refine hK.out _ _ HB7.out (fun hHeld => ?_)
    clear hK K
    try simp only [Act.put, List.getElem_toArray, List.getElem_cons_zero, List.getElem_cons_succ, List.setIfInBounds_toArray, List.set_cons_zero, List.set_cons_succ]
    refine wpAnyH_ready (rs := [11]) (by kernel_rfl) (by simp) ?_
    refine AllReadyH.cons rfl (fun K hK => ?_) AllReadyH.nil
    go_simp
    refine (HFL.out _).mono ?_
    rintro e' w' ⟨rfl, rfl⟩
    clear hHeld
    refine hK.out _ _ HB7.out (fun hHeld => ?_)
    clear hK K
    try simp only [Act.put, List.getElem_toArray, List.getElem_cons_zero, List.getElem_cons_succ, List.setIfInBounds_toArray, List.set_cons_zero, List.set_cons_succ]
    refine wpAnyH_take (i := 15) (v := ?_) rfl (by kernel_rfl) (by kernel_rfl) (by kernel_rfl) (fun _ _ _ h => h) (Or.inl ⟨by rfl, ?_⟩) (by assumption) ?_
    rotate_left
    · intro w hSw
      clear hSw
      go_simp
      try with_reducible rfl
    try simp only [Act.put, List.getElem_toArray, List.getElem_cons_zero, List.getElem_cons_succ, List.setIfInBounds_toArray, List.set_cons_zero, List.set_cons_succ]
    refine wpAnyH_ready (rs := [16]) (by kernel_rfl) (by simp) ?_
    refine AllReadyH.cons rfl (fun K hK => ?_) AllReadyH.nil
    go_simp
    refine (two_own w1.heap.size g7 26 cap7 _ (fv + q.tid * 4096) _ hO7.out HB7.out.size (by omega) (by omega) (by omega)).mono ?_
    rintro e' w8 ⟨g8, cap8, rfl, hO, hb⟩
    have HO8 := Lib.hid hO
    have HB8 := Lib.hid (HB7.out.trans hb)
    clear hO hb
    clear hHeld
    refine hK.out _ _ HB8.out (fun hHeld => ?_)
    clear hK K
    try simp only [Act.put, List.getElem_toArray, List.getElem_cons_zero, List.getElem_cons_succ, List.setIfInBounds_toArray, List.set_cons_zero, List.set_cons_succ]
    refine wpAnyH_ready (rs := [19]) (by kernel_rfl) (by simp) ?_
    refine AllReadyH.cons rfl (fun K hK => ?_) AllReadyH.nil
    go_simp
    refine (two_own w1.heap.size g8 28 cap8 _ q.rs _ HO8.out HB8.out.size (by omega) (by omega) (by omega)).mono ?_
    rintro e' w9 ⟨g9, cap9, rfl, hO, hb⟩
    have HO9 := Lib.hid hO
    have HB9 := Lib.hid (HB8.out.trans hb)
    clear hO hb 
    clear hHeld
    refine hK.out _ _ HB9.out (fun hHeld => ?_)
    clear hK K
    try simp only [Act.put, List.getElem_toArray, List.getElem_cons_zero, List.getElem_cons_succ, List.setIfInBounds_toArray, List.set_cons_zero, List.set_cons_succ]
    refine wpAnyH_take (i := 20) (v := ?_) rfl (by kernel_rfl) (by kernel_rfl) (by kernel_rfl) (fun _ _ _ h => h) (Or.inl ⟨by rfl, ?_⟩) (by assumption) ?_
    rotate_left
    · intro w hSw
      clear hSw
      go_simp
      try with_reducible rfl
    try simp only [Act.put, List.getElem_toArray, List.getElem_cons_zero, List.getElem_cons_succ, List.setIfInBounds_toArray, List.set_cons_zero, List.set_cons_succ]
    refine wpAnyH_take (i := 21) (v := ?_) rfl (by kernel_rfl) (by kernel_rfl) (by kernel_rfl) (fun _ _ _ h => h) (Or.inl ⟨by rfl, ?_⟩) (by assumption) ?_
    rotate_left
    · intro w hSw
      clear hSw
      go_simp
      try with_reducible rfl
    try simp only [Act.put, List.getElem_toArray, List.getElem_cons_zero, List.getElem_cons_succ, List.setIfInBounds_toArray, List.set_cons_zero, List.set_cons_succ]
    refine wpAnyH_done (by kernel_rfl) ?_ _
    clear hHeld
    go_wp2
    go_ret2
    refine ⟨g9, cap9, rfl, ?_, HB.out.trans (HB9.out.mono HB.out.size)⟩
    have h2 := HO9.out
    rw [HL.out] at h2
    exact h2.base HB.out.size
  · have HZ4 := Lib.hid (heap_alloc_last w3 (.cells #[.int .u8 2] 5))
    have HB4 := Lib.hid (HB3.out.alloc HB3.out.size (.cells #[.int .u8 2] 5))
    have HE4 := Lib.hid (show w3.heap.size < (w3.alloc (.cells #[.int .u8 2] 5)).heap.size by simp)
    clear hHeld
    go_simp
    refine hK.out _ _ HB4.out (fun hHeld => ?_)
    clear hK K
    generalize World.alloc w3 _ = w4 at *
    generalize hh4 : w3.heap.size = h4 at *
    clear hh4
    try simp only [Act.put, List.getElem_toArray, List.getElem_cons_zero, List.getElem_cons_succ, List.setIfInBounds_toArray, List.set_cons_zero, List.set_cons_succ]
    refine wpAnyH_ready (rs := [6]) (by kernel_rfl) (by simp) ?_
    refine AllReadyH.cons rfl (fun K hK => ?_) AllReadyH.nil
    go_simp
    refine (refHead_own q.t q.f q.b _).mono ?_
    rintro e' w5 ⟨g, cap, rfl, hO, hb⟩
    have HO5 := Lib.hid (hO.base HB4.out.size)
    have HB5 := Lib.hid (HB4.out.trans (hb.mono HB4.out.size))
    have HZ5 := Lib.hid ((hb.block _ HE4.out).trans HZ4.out)
    clear hO hb
    clear hHeld
    refine hK.out _ _ HB5.out (fun hHeld => ?_)
    clear hK K
    try simp only [Act.put, List.getElem_toArray, List.getElem_cons_zero, List.getElem_cons_succ, List.setIfInBounds_toArray, List.set_cons_zero, List.set_cons_succ]
    refine wpAnyH_ready (rs := [8]) (by kernel_rfl) (by simp) ?_
    refine AllReadyH.cons rfl (fun K hK => ?_) AllReadyH.nil
    refine step_app_own rfl (.tmp 18) (.tmp 19) rfl w1.heap.size g 25 cap _ (by rfl) HO5.out ⟨h4, 0, none⟩ 1 1 [2] (by rfl) rfl (by omega) (World.news_of_block (cs := #[.int .u8 2]) (t := 5) (fr := (0, 0)) HZ5.out) (by omega) HB5.out.size ?_
    intro g7 cap7 w7 hO7 hb7
    have HB7 := Lib.hid (HB5.out.trans hb7.out)
    clear hHeld
    refine hK.out _ _ HB7.out (fun hHeld => ?_)
    clear hK K
    try simp only [Act.put, List.getElem_toArray, List.getElem_cons_zero, List.getElem_cons_succ, List.setIfInBounds_toArray, List.set_cons_zero, List.set_cons_succ]
    refine wpAnyH_ready (rs := [11]) (by kernel_rfl) (by simp) ?_
    refine AllReadyH.cons rfl (fun K hK => ?_) AllReadyH.nil
    go_simp
    refine (HFL.out _).mono ?_
    rintro e' w' ⟨rfl, rfl⟩
    clear hHeld
    refine hK.out _ _ HB7.out (fun hHeld => ?_)
    clear hK K
    try simp only [Act.put, List.getElem_toArray, List.getElem_cons_zero, List.getElem_cons_succ, List.setIfInBounds_toArray, List.set_cons_zero, List.set_cons_succ]
    refine wpAnyH_take (i := 15) (v := ?_) rfl (by kernel_rfl) (by kernel_rfl) (by kernel_rfl) (fun _ _ _ h => h) (Or.inl ⟨by rfl, ?_⟩) (by assumption) ?_
    rotate_left
    · intro w hSw
      clear hSw
      go_simp
      try with_reducible rfl
    try simp only [Act.put, List.getElem_toArray, List.getElem_cons_zero, List.getElem_cons_succ, List.setIfInBounds_toArray, List.set_cons_zero, List.set_cons_succ]
    refine wpAnyH_ready (rs := [16]) (by kernel_rfl) (by simp) ?_
    refine AllReadyH.cons rfl (fun K hK => ?_) AllReadyH.nil
    go_simp
    refine (two_own w1.heap.size g7 26 cap7 _ (fv + q.tid * 4096) _ hO7.out HB7.out.size (by omega) (by omega) (by omega)).mono ?_
    rintro e' w8 ⟨g8, cap8, rfl, hO, hb⟩
    have HO8 := Lib.hid hO
    have HB8 := Lib.hid (HB7.out.trans hb)
    clear hO hb
    clear hHeld
    refine hK.out _ _ HB8.out (fun hHeld => ?_)
    clear hK K
    try simp only [Act.put, List.getElem_toArray, List.getElem_cons_zero, List.getElem_cons_succ, List.setIfInBounds_toArray, List.set_cons_zero, List.set_cons_succ]
    refine wpAnyH_ready (rs := [19]) (by kernel_rfl) (by simp) ?_
    refine AllReadyH.cons rfl (fun K hK => ?_) AllReadyH.nil
    go_simp
    refine (two_own w1.heap.size g8 28 cap8 _ q.rs _ HO8.out HB8.out.size (by omega) (by omega) (by omega)).mono ?_
    rintro e' w9 ⟨g9, cap9, rfl, hO, hb⟩
    have HO9 := Lib.hid hO
    have HB9 := Lib.hid (HB8.out.trans hb)
    clear hO hb 
    clear hHeld
    refine hK.out _ _ HB9.out (fun hHeld => ?_)
    clear hK K
    try simp only [Act.put, List.getElem_toArray, List.getElem_cons_zero, List.getElem_cons_succ, List.setIfInBounds_toArray, List.set_cons_zero, List.set_cons_succ]
    refine wpAnyH_take (i := 20) (v := ?_) rfl (by kernel_rfl) (by kernel_rfl) (by kernel_rfl) (fun _ _ _ h => h) (Or.inl ⟨by rfl, ?_⟩) (by assumption) ?_
    rotate_left
    · intro w hSw
      clear hSw
      go_simp
      try with_reducible rfl
    try simp only [Act.put, List.getElem_toArray, List.getElem_cons_zero, List.getElem_cons_succ, List.setIfInBounds_toArray, List.set_cons_zero, List.set_cons_succ]
    refine wpAnyH_take (i := 21) (v := ?_) rfl (by kernel_rfl) (by kernel_rfl) (by kernel_rfl) (fun _ _ _ h => h) (Or.inl ⟨by rfl, ?_⟩) (by assumption) ?_
    rotate_left
    · intro w hSw
      clear hSw
      go_simp
      try with_reducible rfl
    try simp only [Act.put, List.getElem_toArray, List.getElem_cons_zero, List.getElem_cons_succ, List.setIfInBounds_toArray, List.set_cons_zero, List.set_cons_succ]
    refine wpAnyH_done (by kernel_rfl) ?_ _
    clear hHeld
    go_wp2
    go_ret2
    refine ⟨g9, cap9, rfl, ?_, HB.out.trans (HB9.out.mono HB.out.size)⟩
    have h2 := HO9.out
    rw [HL.out] at h2
    exact h2.base HB.out.size
end Go.Proofs.YtjgingfcfmpfaaaDoor
