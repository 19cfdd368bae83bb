/-
  CONTRACTS of the reference's AckBytes where it answers bytes.
-/
import Derived.Test.YtpiiodnhiolfbaaDoorCtlK
namespace Go.Proofs.YtpiiodnhiolfbaaDoor
open Go.ChangeShapes Go.WideShapes Go.ChangeAt Go.RowKit
set_option linter.unusedVariables false
set_option linter.unusedSimpArgs false

set_option maxRecDepth 100000 in
set_option maxHeartbeats 8000000 in
theorem refAck_yes (q : Akf) (w : World) (hok : okTS q.tid q.seq = true) :
    Calls Tryd.prog 13 #[q.val] w fun e w' => ∃ g cap, e = .returned (.tuple #[.slice (some ⟨g, 0, none⟩) 28 cap, .int .i64 0]) ∧ OwnB w' w.heap.size 5 .u8 g 28 cap (encA q) ∧ Below w.heap.size w w' := by
  obtain ⟨k0, k1, k2, k3⟩ := (okTS_iff _ _).1 hok
  have HB := Lib.hid ((Below.refl w.heap.size w).alloc (Nat.le_refl _) (.cells q.cells 28))
  have HZ := Lib.hid (show w.heap.size < (w.alloc (.cells q.cells 28)).heap.size by simp)
  have hC := cells_new w q.cells 28
  have H1 := Lib.hid (out_is (x := q.tid) (m := 7) (r := false) (by simp; omega))
  have H2 := Lib.hid (out_is (x := q.seq) (m := 4095) (r := false) (by simp; omega))
  have c12 := hC 12
  have c13 := hC 13
  have HC := Lib.hid hC
  dsimp only [Akf.cells] at c12 c13
  clear hC hok
  have x1 : IntKind.i64.wrap (q.tid * 4096) = q.tid * 4096 := IntWalk.i64_in _ ⟨by omega, by omega⟩
  have x2 : IntKind.i64.wrap (4 + q.tid * 4096) = 4 + q.tid * 4096 := IntWalk.i64_in _ ⟨by omega, by omega⟩
  have x3 : IntKind.i64.wrap (q.seq * 16) = q.seq * 16 := IntWalk.i64_in _ ⟨by omega, by omega⟩
  go_enter Tryd.func13, Tryd.ntmps13
  go_wp2_with (fail)
  refine (H1.out _).mono ?_
  rintro e' w2 ⟨rfl, rfl⟩
  go_wp2_with (fail)
  refine (H2.out _).mono ?_
  rintro e' w2 ⟨rfl, rfl⟩
  clear c12 c13
  generalize hw1 : w.alloc (.cells q.cells 28) = w1 at *
  clear hw1
  go_wp2
  have HQ := Lib.hid (show ∀ (w' : World) (i : Nat), Below w1.heap.size w1 w' → w'.cell? ⟨w.heap.size, i, none⟩ = q.cells[i]? from
    fun w' i hb => (hb.cell HZ.out).trans (HC.out i))
  have HRG := Lib.hid (show ∀ (w' : World) (o : Nat) (x : A6), Below w1.heap.size w1 w' → (∀ j u, (x.l.map (Value.int .u8))[j]? = some u → q.cells[o + j]? = some u) → w'.rangeAt w.heap.size o x.cells.toList from
    fun w' o x hb hx j v hv => (HQ.out w' (o + j) hb).trans (hx j v (show (x.l.map (Value.int .u8))[j]? = some v from hv)))
  have HBd := Lib.hid ((Below.refl w1.heap.size w1).drew)
  refine wp_region_held_drew (S := fun w' => Below w1.heap.size w1 w') (by kernel_rfl) HBd.out (fun hHeld => ?_)
  refine wpAnyH_take (i := 1) (v := ?_) rfl (by kernel_rfl) (by kernel_rfl) (by kernel_rfl) (fun _ _ _ h => h) (Or.inl ⟨by rfl, ?_⟩) (by assumption) ?_
  rotate_left
  · intro w hSw
    clear hSw
    go_simp
    try with_reducible rfl
  try simp only [Act.put, List.getElem_toArray, List.getElem_cons_zero, List.getElem_cons_succ, List.setIfInBounds_toArray, List.set_cons_zero, List.set_cons_succ]
  refine wpAnyH_take (i := 2) (v := .agg q.t.cells) rfl (by kernel_rfl) (by kernel_rfl) (by kernel_rfl) (fun _ _ _ h => h) (yieldsIf_load_mid (by rfl) 23 (.tmp 15) rfl w.heap.size 0 rfl q.t.cells.toList _ (fun w' hw' => HRG.out w' 0 q.t hw' (src6 (six_in rfl rfl rfl rfl rfl rfl))) Tryd.underlying23 rfl size6) (by assumption) ?_
  try simp only [Act.put, List.getElem_toArray, List.getElem_cons_zero, List.getElem_cons_succ, List.setIfInBounds_toArray, List.set_cons_zero, List.set_cons_succ]
  refine wpAnyH_take (i := 4) (v := ?_) rfl (by kernel_rfl) (by kernel_rfl) (by kernel_rfl) (fun _ _ _ h => h) (Or.inl ⟨by rfl, ?_⟩) (by assumption) ?_
  rotate_left
  · intro w hSw
    clear hSw
    go_simp
    try with_reducible rfl
  try simp only [Act.put, List.getElem_toArray, List.getElem_cons_zero, List.getElem_cons_succ, List.setIfInBounds_toArray, List.set_cons_zero, List.set_cons_succ]
  refine wpAnyH_take (i := 5) (v := .agg q.f.cells) rfl (by kernel_rfl) (by kernel_rfl) (by kernel_rfl) (fun _ _ _ h => h) (yieldsIf_load_mid (by rfl) 23 (.tmp 18) rfl w.heap.size 6 rfl q.f.cells.toList _ (fun w' hw' => HRG.out w' 6 q.f hw' (src6 (six_in rfl rfl rfl rfl rfl rfl))) Tryd.underlying23 rfl size6) (by assumption) ?_
  try simp only [Act.put, List.getElem_toArray, List.getElem_cons_zero, List.getElem_cons_succ, List.setIfInBounds_toArray, List.set_cons_zero, List.set_cons_succ]
  refine wpAnyH_take (i := 7) (v := ?_) rfl (by kernel_rfl) (by kernel_rfl) (by kernel_rfl) (fun _ _ _ h => h) (Or.inl ⟨by rfl, ?_⟩) (by assumption) ?_
  rotate_left
  · intro w hSw
    clear hSw
    go_simp
    try with_reducible rfl
  try simp only [Act.put, List.getElem_toArray, List.getElem_cons_zero, List.getElem_cons_succ, List.setIfInBounds_toArray, List.set_cons_zero, List.set_cons_succ]
  refine wpAnyH_take (i := 8) (v := ?_) rfl (by kernel_rfl) (by kernel_rfl) (by kernel_rfl) (fun _ _ _ h => h) (Or.inl ⟨by rfl, ?_⟩) (by assumption) ?_
  rotate_left
  · intro w hSw
    have c := HQ.out w 12 hSw
    dsimp only [Akf.cells] at c
    clear hSw
    go_simp
    try with_reducible rfl
  try simp only [Act.put, List.getElem_toArray, List.getElem_cons_zero, List.getElem_cons_succ, List.setIfInBounds_toArray, List.set_cons_zero, List.set_cons_succ]
  refine wpAnyH_take (i := 9) (v := ?_) rfl (by kernel_rfl) (by kernel_rfl) (by kernel_rfl) (fun _ _ _ h => h) (Or.inl ⟨by rfl, ?_⟩) (by assumption) ?_
  rotate_left
  · intro w hSw
    clear hSw
    go_simp
    try with_reducible rfl
  try simp only [Act.put, List.getElem_toArray, List.getElem_cons_zero, List.getElem_cons_succ, List.setIfInBounds_toArray, List.set_cons_zero, List.set_cons_succ]
  refine wpAnyH_take (i := 10) (v := ?_) rfl (by kernel_rfl) (by kernel_rfl) (by kernel_rfl) (fun _ _ _ h => h) (Or.inl ⟨by rfl, ?_⟩) (by assumption) ?_
  rotate_left
  · intro w hSw
    clear hSw
    go_simp
    try with_reducible rfl
  try simp only [Act.put, List.getElem_toArray, List.getElem_cons_zero, List.getElem_cons_succ, List.setIfInBounds_toArray, List.set_cons_zero, List.set_cons_succ]
  refine wpAnyH_take (i := 12) (v := ?_) rfl (by kernel_rfl) (by kernel_rfl) (by kernel_rfl) (fun _ _ _ h => h) (Or.inl ⟨by rfl, ?_⟩) (by assumption) ?_
  rotate_left
  · intro w hSw
    clear hSw
    go_simp
    try with_reducible rfl
  try simp only [Act.put, List.getElem_toArray, List.getElem_cons_zero, List.getElem_cons_succ, List.setIfInBounds_toArray, List.set_cons_zero, List.set_cons_succ]
  refine wpAnyH_take (i := 13) (v := ?_) rfl (by kernel_rfl) (by kernel_rfl) (by kernel_rfl) (fun _ _ _ h => h) (Or.inl ⟨by rfl, ?_⟩) (by assumption) ?_
  rotate_left
  · intro w hSw
    have c := HQ.out w 13 hSw
    dsimp only [Akf.cells] at c
    clear hSw
    go_simp
    try with_reducible rfl
  try simp only [Act.put, List.getElem_toArray, List.getElem_cons_zero, List.getElem_cons_succ, List.setIfInBounds_toArray, List.set_cons_zero, List.set_cons_succ]
  refine wpAnyH_take (i := 14) (v := ?_) rfl (by kernel_rfl) (by kernel_rfl) (by kernel_rfl) (fun _ _ _ h => h) (Or.inl ⟨by rfl, ?_⟩) (by assumption) ?_
  rotate_left
  · intro w hSw
    clear hSw
    go_simp
    try with_reducible rfl
  try simp only [Act.put, List.getElem_toArray, List.getElem_cons_zero, List.getElem_cons_succ, List.setIfInBounds_toArray, List.set_cons_zero, List.set_cons_succ]
  have HO3 := Lib.hid (show OwnB ((w1.alloc (.cells #[.int .u8 148, .int .u8 0, .int .u8 0, .int .u8 0] 5)).drew) w1.heap.size 5 .u8 w1.heap.size 4 4 [148, 0, 0, 0] from World.ownsRow.drew (World.ownsRow_lit w1 #[.int .u8 148, .int .u8 0, .int .u8 0, .int .u8 0] 4 (Nat.le_refl _) (by unfold maxLen; omega) rfl))
  have HB3 := Lib.hid (((Below.refl w1.heap.size w1).alloc (Nat.le_refl _) (.cells #[.int .u8 148, .int .u8 0, .int .u8 0, .int .u8 0] 5)).drew)
  refine wpAnyH_ready (rs := [0]) (by kernel_rfl) (by simp) ?_
  refine AllReadyH.cons rfl (fun K hK => ?_) AllReadyH.nil
  go_simp
  clear hHeld
  refine hK.out _ _ HB3.out (fun hHeld => ?_)
  clear hK K
  generalize (World.alloc w1 _).drew = w3 at *
  try simp only [Act.put, List.getElem_toArray, List.getElem_cons_zero, List.getElem_cons_succ, List.setIfInBounds_toArray, List.set_cons_zero, List.set_cons_succ]
  refine wpAnyH_ready (rs := [3]) (by kernel_rfl) (by simp) ?_
  refine AllReadyH.cons rfl (fun K hK => ?_) AllReadyH.nil
  go_simp
  refine (addr_own w1.heap.size w1.heap.size 4 4 _ q.t _ HO3.out HB3.out.size (by omega)).mono ?_
  rintro e' w5 ⟨g5, cap5, rfl, hO, hb⟩
  have HO5 := Lib.hid hO
  have HB5 := Lib.hid (HB3.out.trans hb)
  clear hO hb HO3 HB3 hHeld
  refine hK.out _ _ HB5.out (fun hHeld => ?_)
  clear hK K
  try simp only [Act.put, List.getElem_toArray, List.getElem_cons_zero, List.getElem_cons_succ, List.setIfInBounds_toArray, List.set_cons_zero, List.set_cons_succ]
  refine wpAnyH_ready (rs := [6]) (by kernel_rfl) (by simp) ?_
  refine AllReadyH.cons rfl (fun K hK => ?_) AllReadyH.nil
  go_simp
  refine (addr_own w1.heap.size g5 10 cap5 _ q.f _ HO5.out HB5.out.size (by omega)).mono ?_
  rintro e' w6 ⟨g6, cap6, rfl, hO, hb⟩
  have HO6 := Lib.hid hO
  have HB6 := Lib.hid (HB5.out.trans hb)
  clear hO hb HO5 HB5 hHeld
  refine hK.out _ _ HB6.out (fun hHeld => ?_)
  clear hK K
  try simp only [Act.put, List.getElem_toArray, List.getElem_cons_zero, List.getElem_cons_succ, List.setIfInBounds_toArray, List.set_cons_zero, List.set_cons_succ]
  refine wpAnyH_ready (rs := [11]) (by kernel_rfl) (by simp) ?_
  refine AllReadyH.cons rfl (fun K hK => ?_) AllReadyH.nil
  go_simp
  refine (two_own w1.heap.size g6 16 cap6 _ (4 + q.tid * 4096) _ HO6.out HB6.out.size (by omega) (by omega) (by omega)).mono ?_
  rintro e' w7 ⟨g7, cap7, rfl, hO, hb⟩
  have HO7 := Lib.hid hO
  have HB7 := Lib.hid (HB6.out.trans hb)
  clear hO hb HO6 HB6 hHeld
  refine hK.out _ _ HB7.out (fun hHeld => ?_)
  clear hK K
  try simp only [Act.put, List.getElem_toArray, List.getElem_cons_zero, List.getElem_cons_succ, List.setIfInBounds_toArray, List.set_cons_zero, List.set_cons_succ]
  refine wpAnyH_ready (rs := [15]) (by kernel_rfl) (by simp) ?_
  refine AllReadyH.cons rfl (fun K hK => ?_) AllReadyH.nil
  go_simp
  refine (two_own w1.heap.size g7 18 cap7 _ (q.seq * 16) _ HO7.out HB7.out.size (by omega) (by omega) (by omega)).mono ?_
  rintro e' w8 ⟨g8, cap8, rfl, hO, hb⟩
  have HO8 := Lib.hid hO
  have HB8 := Lib.hid (HB7.out.trans hb)
  clear hO hb HO7 HB7 hHeld
  refine hK.out _ _ HB8.out (fun hHeld => ?_)
  clear hK K
  try simp only [Act.put, List.getElem_toArray, List.getElem_cons_zero, List.getElem_cons_succ, List.setIfInBounds_toArray, List.set_cons_zero, List.set_cons_succ]
  refine wpAnyH_take (i := 16) (v := ?_) rfl (by kernel_rfl) (by kernel_rfl) (by kernel_rfl) (fun _ _ _ h => h) (Or.inl ⟨by rfl, ?_⟩) (by assumption) ?_
  rotate_left
  · intro w hSw
    clear hSw
    go_simp
    try with_reducible rfl
  try simp only [Act.put, List.getElem_toArray, List.getElem_cons_zero, List.getElem_cons_succ, List.setIfInBounds_toArray, List.set_cons_zero, List.set_cons_succ]
  refine wpAnyH_done (by kernel_rfl) ?_ _
  clear hHeld
  have HM := Lib.hid (show ∀ w' : World, Below w1.heap.size w1 w' → w'.cell? ⟨w.heap.size, 14, none⟩ = some (.int .u64 q.map) from fun w' hb => HQ.out w' 14 hb)
  have HO1 := Lib.hid (show OwnB w8 w1.heap.size 5 .u8 g8 (20 + 0) cap8 (encW 148 q.t q.f q.tid q.seq ++ (mapB q.map).take 0) by rw [List.take_zero, List.append_nil]; exact HO8.out)
  have HB1 := Lib.hid HB8.out
  have HE := Lib.hid (show encW 148 q.t q.f q.tid q.seq ++ mapB q.map = encA q from rfl)
  have HB0 := Lib.hid HB.out
  clear HO8 HB8 HB HQ HRG HC H1 H2 HBd
  generalize hm : q.map = m at *
  clear hm
  go_wp2
  go_loopw [4, 5] (fun v i wr => ∃ k g cap : Nat, k ≤ 8 ∧ i = .int .i64 k ∧ v = .slice (some ⟨g, 0, none⟩) (20 + k) cap ∧ OwnB wr w1.heap.size 5 .u8 g (20 + k) cap (encW 148 q.t q.f q.tid q.seq ++ (mapB m).take k) ∧ Below w1.heap.size w1 wr) (fun _ i _ => 8 - (intOf i).toNat)
  case atStart => exact ⟨0, g8, cap8, by omega, rfl, rfl, HO1.out, HB1.out⟩
  case round =>
    obtain ⟨k, g, cap, hk, rfl, rfl, hown, hbel⟩ := hrel
    have HO := Lib.hid hown
    have HB := Lib.hid hbel
    have c14 := HM.out wr hbel
    clear hown hbel HO1 HB1
    rcases (by omega : k = 0 ∨ k = 1 ∨ k = 2 ∨ k = 3 ∨ k = 4 ∨ k = 5 ∨ k = 6 ∨ k = 7 ∨ k = 8) with rfl | rfl | rfl | rfl | rfl | rfl | rfl | rfl | rfl
    · have x : IntKind.u8.wrap (m) = m % 256 := by rw [IntKind.wrap_u8]
      go_wp2_with (refine app_own rfl (.tmp 34) (.tmp 42) rfl w1.heap.size g (20 + 0) cap _ rfl (World.ownsRow.alloc HO.out _) ⟨wr.heap.size, 0, none⟩ 1 1 [m % 256] rfl rfl (World.news_of_block (cs := #[.int .u8 (m % 256)]) (t := 5) (fr := (0, 0)) (heap_alloc_new wr _)) (by omega) (by have := HB.out.size; have hz := HZ.out; simp; omega) ?_; intro g2 cap2 w2 hO2 hb2)
      have HO2 := Lib.hid (show OwnB w2 w1.heap.size 5 .u8 g2 (20 + (0 + 1)) cap2 (encW 148 q.t q.f q.tid q.seq ++ (mapB m).take (0 + 1)) from by have := hO2.out; rwa [List.append_assoc] at this)
      have HB2 := Lib.hid ((HB.out.alloc HB.out.size _).trans hb2.out)
      clear hO2 hb2
      go_wp2
      go_roundw
      case rel => ((repeat apply Exists.intro); refine ⟨?_, rfl⟩; exact ⟨0 + 1, g2, cap2, by omega, by go_num, rfl, HO2.out, HB2.out⟩)
      case measure => simp [intOf]
    · have x : IntKind.u8.wrap (m / 256) = m / 256 % 256 := by rw [IntKind.wrap_u8]
      go_wp2_with (refine app_own rfl (.tmp 34) (.tmp 42) rfl w1.heap.size g (20 + 1) cap _ rfl (World.ownsRow.alloc HO.out _) ⟨wr.heap.size, 0, none⟩ 1 1 [m / 256 % 256] rfl rfl (World.news_of_block (cs := #[.int .u8 (m / 256 % 256)]) (t := 5) (fr := (0, 0)) (heap_alloc_new wr _)) (by omega) (by have := HB.out.size; have hz := HZ.out; simp; omega) ?_; intro g2 cap2 w2 hO2 hb2)
      have HO2 := Lib.hid (show OwnB w2 w1.heap.size 5 .u8 g2 (20 + (1 + 1)) cap2 (encW 148 q.t q.f q.tid q.seq ++ (mapB m).take (1 + 1)) from by have := hO2.out; rwa [List.append_assoc] at this)
      have HB2 := Lib.hid ((HB.out.alloc HB.out.size _).trans hb2.out)
      clear hO2 hb2
      go_wp2
      go_roundw
      case rel => ((repeat apply Exists.intro); refine ⟨?_, rfl⟩; exact ⟨1 + 1, g2, cap2, by omega, by go_num, rfl, HO2.out, HB2.out⟩)
      case measure => simp [intOf]
    · have x : IntKind.u8.wrap (m / 65536) = m / 65536 % 256 := by rw [IntKind.wrap_u8]
      go_wp2_with (refine app_own rfl (.tmp 34) (.tmp 42) rfl w1.heap.size g (20 + 2) cap _ rfl (World.ownsRow.alloc HO.out _) ⟨wr.heap.size, 0, none⟩ 1 1 [m / 65536 % 256] rfl rfl (World.news_of_block (cs := #[.int .u8 (m / 65536 % 256)]) (t := 5) (fr := (0, 0)) (heap_alloc_new wr _)) (by omega) (by have := HB.out.size; have hz := HZ.out; simp; omega) ?_; intro g2 cap2 w2 hO2 hb2)
      have HO2 := Lib.hid (show OwnB w2 w1.heap.size 5 .u8 g2 (20 + (2 + 1)) cap2 (encW 148 q.t q.f q.tid q.seq ++ (mapB m).take (2 + 1)) from by have := hO2.out; rwa [List.append_assoc] at this)
      have HB2 := Lib.hid ((HB.out.alloc HB.out.size _).trans hb2.out)
      clear hO2 hb2
      go_wp2
      go_roundw
      case rel => ((repeat apply Exists.intro); refine ⟨?_, rfl⟩; exact ⟨2 + 1, g2, cap2, by omega, by go_num, rfl, HO2.out, HB2.out⟩)
      case measure => simp [intOf]
    · have x : IntKind.u8.wrap (m / 16777216) = m / 16777216 % 256 := by rw [IntKind.wrap_u8]
      go_wp2_with (refine app_own rfl (.tmp 34) (.tmp 42) rfl w1.heap.size g (20 + 3) cap _ rfl (World.ownsRow.alloc HO.out _) ⟨wr.heap.size, 0, none⟩ 1 1 [m / 16777216 % 256] rfl rfl (World.news_of_block (cs := #[.int .u8 (m / 16777216 % 256)]) (t := 5) (fr := (0, 0)) (heap_alloc_new wr _)) (by omega) (by have := HB.out.size; have hz := HZ.out; simp; omega) ?_; intro g2 cap2 w2 hO2 hb2)
      have HO2 := Lib.hid (show OwnB w2 w1.heap.size 5 .u8 g2 (20 + (3 + 1)) cap2 (encW 148 q.t q.f q.tid q.seq ++ (mapB m).take (3 + 1)) from by have := hO2.out; rwa [List.append_assoc] at this)
      have HB2 := Lib.hid ((HB.out.alloc HB.out.size _).trans hb2.out)
      clear hO2 hb2
      go_wp2
      go_roundw
      case rel => ((repeat apply Exists.intro); refine ⟨?_, rfl⟩; exact ⟨3 + 1, g2, cap2, by omega, by go_num, rfl, HO2.out, HB2.out⟩)
      case measure => simp [intOf]
    · have x : IntKind.u8.wrap (m / 4294967296) = m / 4294967296 % 256 := by rw [IntKind.wrap_u8]
      go_wp2_with (refine app_own rfl (.tmp 34) (.tmp 42) rfl w1.heap.size g (20 + 4) cap _ rfl (World.ownsRow.alloc HO.out _) ⟨wr.heap.size, 0, none⟩ 1 1 [m / 4294967296 % 256] rfl rfl (World.news_of_block (cs := #[.int .u8 (m / 4294967296 % 256)]) (t := 5) (fr := (0, 0)) (heap_alloc_new wr _)) (by omega) (by have := HB.out.size; have hz := HZ.out; simp; omega) ?_; intro g2 cap2 w2 hO2 hb2)
      have HO2 := Lib.hid (show OwnB w2 w1.heap.size 5 .u8 g2 (20 + (4 + 1)) cap2 (encW 148 q.t q.f q.tid q.seq ++ (mapB m).take (4 + 1)) from by have := hO2.out; rwa [List.append_assoc] at this)
      have HB2 := Lib.hid ((HB.out.alloc HB.out.size _).trans hb2.out)
      clear hO2 hb2
      go_wp2
      go_roundw
      case rel => ((repeat apply Exists.intro); refine ⟨?_, rfl⟩; exact ⟨4 + 1, g2, cap2, by omega, by go_num, rfl, HO2.out, HB2.out⟩)
      case measure => simp [intOf]
    · have x : IntKind.u8.wrap (m / 1099511627776) = m / 1099511627776 % 256 := by rw [IntKind.wrap_u8]
      go_wp2_with (refine app_own rfl (.tmp 34) (.tmp 42) rfl w1.heap.size g (20 + 5) cap _ rfl (World.ownsRow.alloc HO.out _) ⟨wr.heap.size, 0, none⟩ 1 1 [m / 1099511627776 % 256] rfl rfl (World.news_of_block (cs := #[.int .u8 (m / 1099511627776 % 256)]) (t := 5) (fr := (0, 0)) (heap_alloc_new wr _)) (by omega) (by have := HB.out.size; have hz := HZ.out; simp; omega) ?_; intro g2 cap2 w2 hO2 hb2)
      have HO2 := Lib.hid (show OwnB w2 w1.heap.size 5 .u8 g2 (20 + (5 + 1)) cap2 (encW 148 q.t q.f q.tid q.seq ++ (mapB m).take (5 + 1)) from by have := hO2.out; rwa [List.append_assoc] at this)
      have HB2 := Lib.hid ((HB.out.alloc HB.out.size _).trans hb2.out)
      clear hO2 hb2
      go_wp2
      go_roundw
      case rel => ((repeat apply Exists.intro); refine ⟨?_, rfl⟩; exact ⟨5 + 1, g2, cap2, by omega, by go_num, rfl, HO2.out, HB2.out⟩)
      case measure => simp [intOf]
    · have x : IntKind.u8.wrap (m / 281474976710656) = m / 281474976710656 % 256 := by rw [IntKind.wrap_u8]
      go_wp2_with (refine app_own rfl (.tmp 34) (.tmp 42) rfl w1.heap.size g (20 + 6) cap _ rfl (World.ownsRow.alloc HO.out _) ⟨wr.heap.size, 0, none⟩ 1 1 [m / 281474976710656 % 256] rfl rfl (World.news_of_block (cs := #[.int .u8 (m / 281474976710656 % 256)]) (t := 5) (fr := (0, 0)) (heap_alloc_new wr _)) (by omega) (by have := HB.out.size; have hz := HZ.out; simp; omega) ?_; intro g2 cap2 w2 hO2 hb2)
      have HO2 := Lib.hid (show OwnB w2 w1.heap.size 5 .u8 g2 (20 + (6 + 1)) cap2 (encW 148 q.t q.f q.tid q.seq ++ (mapB m).take (6 + 1)) from by have := hO2.out; rwa [List.append_assoc] at this)
      have HB2 := Lib.hid ((HB.out.alloc HB.out.size _).trans hb2.out)
      clear hO2 hb2
      go_wp2
      go_roundw
      case rel => ((repeat apply Exists.intro); refine ⟨?_, rfl⟩; exact ⟨6 + 1, g2, cap2, by omega, by go_num, rfl, HO2.out, HB2.out⟩)
      case measure => simp [intOf]
    · have x : IntKind.u8.wrap (m / 72057594037927936) = m / 72057594037927936 % 256 := by rw [IntKind.wrap_u8]
      go_wp2_with (refine app_own rfl (.tmp 34) (.tmp 42) rfl w1.heap.size g (20 + 7) cap _ rfl (World.ownsRow.alloc HO.out _) ⟨wr.heap.size, 0, none⟩ 1 1 [m / 72057594037927936 % 256] rfl rfl (World.news_of_block (cs := #[.int .u8 (m / 72057594037927936 % 256)]) (t := 5) (fr := (0, 0)) (heap_alloc_new wr _)) (by omega) (by have := HB.out.size; have hz := HZ.out; simp; omega) ?_; intro g2 cap2 w2 hO2 hb2)
      have HO2 := Lib.hid (show OwnB w2 w1.heap.size 5 .u8 g2 (20 + (7 + 1)) cap2 (encW 148 q.t q.f q.tid q.seq ++ (mapB m).take (7 + 1)) from by have := hO2.out; rwa [List.append_assoc] at this)
      have HB2 := Lib.hid ((HB.out.alloc HB.out.size _).trans hb2.out)
      clear hO2 hb2
      go_wp2
      go_roundw
      case rel => ((repeat apply Exists.intro); refine ⟨?_, rfl⟩; exact ⟨7 + 1, g2, cap2, by omega, by go_num, rfl, HO2.out, HB2.out⟩)
      case measure => simp [intOf]
    · go_wp2
      go_ret2
      refine ⟨g, cap, rfl, ?_, HB0.out.trans (HB.out.mono HB0.out.size)⟩
      have h2 := HO.out
      rw [show (mapB m).take 8 = mapB m from rfl, HE.out] at h2
      exact h2.base HB0.out.size
end Go.Proofs.YtpiiodnhiolfbaaDoor
