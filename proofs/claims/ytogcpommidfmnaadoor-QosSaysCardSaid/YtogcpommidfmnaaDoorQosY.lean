/-
  CONTRACT of muezzinref1.QoSBytes.
-/
import Derived.Test.YtogcpommidfmnaaDoorQosN
import Derived.Test.YtogcpommidfmnaaDoorQosB
import Derived.Test.YtogcpommidfmnaaDoorQosM
import Derived.Deep.RegionHeld3
namespace Go.Proofs.YtogcpommidfmnaaDoor
open Go.ChangeShapes Go.WideShapes Go.ChangeAt Go.RowKit
set_option linter.unusedVariables false
set_option linter.unusedSimpArgs false

theorem flags_sum : ∀ r m : Bool, 2 + fl r 8 + fl m 32 = flagsOf r m := by decide +kernel
theorem traf_sum_nat : ∀ n : Nat, n < 8 → ∀ e : Bool, (n : Int) + fl e 16 = trafOf (n : Int) e := by decide +kernel
theorem traf_sum (tid : Int) (h0 : 0 ≤ tid) (h1 : tid < 8) (e : Bool) : tid + fl e 16 = trafOf tid e := by
  obtain ⟨n, rfl⟩ := Int.eq_ofNat_of_zero_le h0
  exact traf_sum_nat n (by omega) e
theorem out_is {x m : Int} {r : Bool} (h : (decide (x < 0) || decide (m < x)) = r) (w : World) :
    Calls Tryd.prog 26 #[.int .i64 x, .int .i64 m] w fun e w' => e = .returned (.bool r) ∧ w = w' := by
  rw [← h]; exact out_any x m w

set_option maxRecDepth 100000 in
set_option maxHeartbeats 8000000 in
theorem ref_no (q : Qf) (w : World) (hok : q.okB = false) :
    Calls Tryd.prog 14 #[q.val] w fun e w' => e = .returned (.tuple #[.slice none 0 0, .int .i64 103]) ∧ Below w.heap.size w w' := by
  have HB := Lib.hid ((Below.refl w.heap.size w).alloc (Nat.le_refl _) (.cells q.cells 26))
  have hC := cells_new w q.cells 26
  have hnot : ¬(0 ≤ q.tid ∧ q.tid < 8 ∧ 0 ≤ q.seq ∧ q.seq < 4096 ∧ q.n ≤ 1500) := by rw [← q.ok_iff, hok]; simp
  clear hok
  obtain ⟨t, b, f, tid, seq, r, m, e, A, n, c⟩ := q
  have c18 := hC 18
  have c19 := hC 19
  have c23 := hC 23
  dsimp only [Qf.cells] at c18 c19 c23
  simp only at hnot
  clear hC
  cases h1 : (decide (tid < 0) || decide (7 < tid))
  · cases h2 : (decide (seq < 0) || decide (4095 < seq))
    · have H1 := Lib.hid (out_is h1)
      have H2 := Lib.hid (out_is h2)
      have hd : decide ((1500 : Int) < (n : Int)) = true := by simp at h1 h2 ⊢; omega
      clear h1 h2 hnot
      go_enter Tryd.func14, Tryd.ntmps14
      go_wp2_with (fail)
      refine (H1.out _).mono ?_
      rintro e w2 ⟨rfl, rfl⟩
      go_wp2_with (fail)
      refine (H2.out _).mono ?_
      rintro e w2 ⟨rfl, rfl⟩
      go_wp2
      go_ret2
      exact ⟨rfl, HB.out⟩
    · have H1 := Lib.hid (out_is h1)
      have H2 := Lib.hid (out_is h2)
      clear h1 h2 hnot
      go_enter Tryd.func14, Tryd.ntmps14
      go_wp2_with (fail)
      refine (H1.out _).mono ?_
      rintro e w2 ⟨rfl, rfl⟩
      go_wp2_with (fail)
      refine (H2.out _).mono ?_
      rintro e w2 ⟨rfl, rfl⟩
      go_wp2
      go_ret2
      exact ⟨rfl, HB.out⟩
  · have H1 := Lib.hid (out_is h1)
    clear h1 hnot
    go_enter Tryd.func14, Tryd.ntmps14
    go_wp2_with (fail)
    refine (H1.out _).mono ?_
    rintro e w2 ⟨rfl, rfl⟩
    go_wp2
    go_ret2
    exact ⟨rfl, HB.out⟩

set_option maxRecDepth 100000 in
set_option maxHeartbeats 8000000 in
theorem ref_yes (q : Qf) (xs : List Int) (w : World) (hok : q.okB = true) (hx : RowB .u8 w q.A q.n xs) (hnil : q.A = none → q.c = 0) :
    Calls Tryd.prog 14 #[q.val] w fun e w' => ∃ g cap, e = .returned (.tuple #[.slice (some ⟨g, 0, none⟩) (26 + q.n) cap, .int .i64 0]) ∧ OwnB w' w.heap.size 5 .u8 g (26 + q.n) cap (encQ q xs) ∧ Below w.heap.size w w' := by
  obtain ⟨k0, k1, k2, k3, k4⟩ := q.ok_iff.1 hok
  obtain ⟨t, b, f, tid, seq, r, m, e, A, n, c⟩ := q
  simp only at k0 k1 k2 k3 k4 hx hnil
  have HN := Lib.hid hnil
  have HB := Lib.hid ((Below.refl w.heap.size w).alloc (Nat.le_refl _) (.cells (Qf.mk t b f tid seq r m e A n c).cells 26))
  have HX := Lib.hid (hx.below HB.out)
  have hC := cells_new w (Qf.mk t b f tid seq r m e A n c).cells 26
  have HZ := Lib.hid (show w.heap.size < (w.alloc (.cells (Qf.mk t b f tid seq r m e A n c).cells 26)).heap.size by simp)
  have H1 := Lib.hid (out_is (x := tid) (m := 7) (r := false) (by simp; omega))
  have H2 := Lib.hid (out_is (x := seq) (m := 4095) (r := false) (by simp; omega))
  have hd : decide ((1500 : Int) < (n : Int)) = false := by simp; omega
  have c18 := hC 18
  have c19 := hC 19
  have c23 := hC 23
  have HC := Lib.hid hC
  dsimp only [Qf.cells] at c18 c19 c23
  clear hC hok hx hnil
  have HFS := Lib.hid (flags_sum r m)
  have HTS := Lib.hid (traf_sum tid k0 k1 e)
  go_enter Tryd.func14, Tryd.ntmps14
  go_wp2_with (fail)
  refine (H1.out _).mono ?_
  rintro e' w2 ⟨rfl, rfl⟩
  go_wp2_with (fail)
  refine (H2.out _).mono ?_
  rintro e' w2 ⟨rfl, rfl⟩
  go_wp2
  have c20 := HC.out 20
  have c21 := HC.out 21
  dsimp only [Qf.cells] at c20 c21
  have x1 : IntKind.i64.wrap (2 + fl r 8) = 2 + fl r 8 := by cases r <;> rfl
  have x2 : IntKind.i64.wrap (2 + fl r 8 + fl m 32) = 2 + fl r 8 + fl m 32 := by cases r <;> cases m <;> rfl
  have x3 : IntKind.u8.wrap (2 + fl r 8 + fl m 32) = flagsOf r m := by cases r <;> cases m <;> rfl
  clear c18 c19 c23
  generalize hw1 : World.alloc w _ = w1 at *
  clear hw1
  have HO3 := Lib.hid (show OwnB ((w1.alloc (.cells #[.int .u8 136, .int .u8 (flagsOf r m), .int .u8 0, .int .u8 0] 5)).drew) w1.heap.size 5 .u8 w1.heap.size 4 4 [136, flagsOf r m, 0, 0] from World.ownsRow.drew (World.ownsRow_lit w1 #[.int .u8 136, .int .u8 (flagsOf r m), .int .u8 0, .int .u8 0] 4 (Nat.le_refl _) (by unfold maxLen; omega) rfl))
  have HB3 := Lib.hid (((Below.refl w1.heap.size w1).alloc (Nat.le_refl _) (.cells #[.int .u8 136, .int .u8 (flagsOf r m), .int .u8 0, .int .u8 0] 5)).drew)
  have HQ := Lib.hid (show ∀ (w' : World) (i : Nat), Below w1.heap.size w1 w' → w'.cell? ⟨w.heap.size, i, none⟩ = (Qf.mk t b f tid seq r m e A n c).cells[i]? from
    fun w' i hb => (hb.cell HZ.out).trans (HC.out i))
  have HRG := Lib.hid (show ∀ (w' : World) (o : Nat) (x : A6), Below w1.heap.size w1 w' → (∀ j u, (x.l.map (Value.int .u8))[j]? = some u → (Qf.mk t b f tid seq r m e A n c).cells[o + j]? = some u) → w'.rangeAt w.heap.size o x.cells.toList from
    fun w' o x hb hx j v hv => (HQ.out w' (o + j) hb).trans (hx j v (show (x.l.map (Value.int .u8))[j]? = some v from hv)))
  go_region_held3 (fun w' => w'.cell? ⟨w.heap.size, 20, none⟩ = some (.bool r) ∧ w'.cell? ⟨w.heap.size, 21, none⟩ = some (.bool m))
    (go_keep)
    (first | (go_at_call 27; refine (flag_any _ _ _).mono ?_; rintro e' w' ⟨rfl, rfl⟩))
  generalize World.drew _ = w3 at *
  have HO4 := Lib.hid (show OwnB w3.drew w1.heap.size 5 .u8 w1.heap.size 4 4 [136, flagsOf r m, 0, 0] from World.ownsRow.drew HO3.out)
  have HB4 := Lib.hid HB3.out.drew
  clear x1 x2 x3 c20 c21 HO3 HB3
  go_wp2
  refine wp_region_held_drew (S := fun w' => Below w1.heap.size w1 w') (by kernel_rfl) HB4.out (fun hHeld => ?_)
  refine wpAnyH_take (i := 0) (v := ?_) rfl (by kernel_rfl) (by kernel_rfl) (by kernel_rfl) (fun _ _ _ h => h) (Or.inl ⟨by rfl, ?_⟩) (by assumption) ?_
  rotate_left
  · intro w hSw
    clear hSw
    go_simp
    try with_reducible rfl
  try simp only [Act.put, List.getElem_toArray, List.getElem_cons_zero, List.getElem_cons_succ, List.setIfInBounds_toArray, List.set_cons_zero, List.set_cons_succ]
  refine wpAnyH_take (i := 1) (v := ?_) rfl (by kernel_rfl) (by kernel_rfl) (by kernel_rfl) (fun _ _ _ h => h) (Or.inl ⟨by rfl, ?_⟩) (by assumption) ?_
  rotate_left
  · intro w hSw
    clear hSw
    go_simp
    try with_reducible rfl
  try simp only [Act.put, List.getElem_toArray, List.getElem_cons_zero, List.getElem_cons_succ, List.setIfInBounds_toArray, List.set_cons_zero, List.set_cons_succ]
  refine wpAnyH_take (i := 2) (v := .agg t.cells) rfl (by kernel_rfl) (by kernel_rfl) (by kernel_rfl) (fun _ _ _ h => h) (yieldsIf_load_mid (by rfl) 23 (.tmp 30) rfl w.heap.size 0 rfl t.cells.toList _ (fun w' hw' => HRG.out w' 0 t hw' (src6 (six_in rfl rfl rfl rfl rfl rfl))) Tryd.underlying23 rfl size6) (by assumption) ?_
  try simp only [Act.put, List.getElem_toArray, List.getElem_cons_zero, List.getElem_cons_succ, List.setIfInBounds_toArray, List.set_cons_zero, List.set_cons_succ]
  refine wpAnyH_take (i := 4) (v := ?_) rfl (by kernel_rfl) (by kernel_rfl) (by kernel_rfl) (fun _ _ _ h => h) (Or.inl ⟨by rfl, ?_⟩) (by assumption) ?_
  rotate_left
  · intro w hSw
    clear hSw
    go_simp
    try with_reducible rfl
  try simp only [Act.put, List.getElem_toArray, List.getElem_cons_zero, List.getElem_cons_succ, List.setIfInBounds_toArray, List.set_cons_zero, List.set_cons_succ]
  refine wpAnyH_take (i := 5) (v := .agg b.cells) rfl (by kernel_rfl) (by kernel_rfl) (by kernel_rfl) (fun _ _ _ h => h) (yieldsIf_load_mid (by rfl) 23 (.tmp 33) rfl w.heap.size 6 rfl b.cells.toList _ (fun w' hw' => HRG.out w' 6 b hw' (src6 (six_in rfl rfl rfl rfl rfl rfl))) Tryd.underlying23 rfl size6) (by assumption) ?_
  try simp only [Act.put, List.getElem_toArray, List.getElem_cons_zero, List.getElem_cons_succ, List.setIfInBounds_toArray, List.set_cons_zero, List.set_cons_succ]
  refine wpAnyH_take (i := 7) (v := ?_) rfl (by kernel_rfl) (by kernel_rfl) (by kernel_rfl) (fun _ _ _ h => h) (Or.inl ⟨by rfl, ?_⟩) (by assumption) ?_
  rotate_left
  · intro w hSw
    clear hSw
    go_simp
    try with_reducible rfl
  try simp only [Act.put, List.getElem_toArray, List.getElem_cons_zero, List.getElem_cons_succ, List.setIfInBounds_toArray, List.set_cons_zero, List.set_cons_succ]
  refine wpAnyH_take (i := 8) (v := .agg f.cells) rfl (by kernel_rfl) (by kernel_rfl) (by kernel_rfl) (fun _ _ _ h => h) (yieldsIf_load_mid (by rfl) 23 (.tmp 36) rfl w.heap.size 12 rfl f.cells.toList _ (fun w' hw' => HRG.out w' 12 f hw' (src6 (six_in rfl rfl rfl rfl rfl rfl))) Tryd.underlying23 rfl size6) (by assumption) ?_
  try simp only [Act.put, List.getElem_toArray, List.getElem_cons_zero, List.getElem_cons_succ, List.setIfInBounds_toArray, List.set_cons_zero, List.set_cons_succ]
  refine wpAnyH_ready (rs := [3]) (by kernel_rfl) (by simp) ?_
  refine AllReadyH.cons rfl (fun K hK => ?_) AllReadyH.nil
  go_simp
  refine (addr_own w1.heap.size w1.heap.size 4 4 _ t _ HO4.out HB4.out.size (by omega)).mono ?_
  rintro e' w5 ⟨g5, cap5, rfl, hO, hb⟩
  have HOw5 := Lib.hid hO
  have HBw5 := Lib.hid (HB4.out.trans hb)
  clear hO hb HO4 HB4 hHeld
  refine hK.out _ _ HBw5.out (fun hHeld => ?_)
  clear hK K
  try simp only [Act.put, List.getElem_toArray, List.getElem_cons_zero, List.getElem_cons_succ, List.setIfInBounds_toArray, List.set_cons_zero, List.set_cons_succ]
  refine wpAnyH_ready (rs := [6]) (by kernel_rfl) (by simp) ?_
  refine AllReadyH.cons rfl (fun K hK => ?_) AllReadyH.nil
  go_simp
  refine (addr_own w1.heap.size g5 10 cap5 _ b _ HOw5.out HBw5.out.size (by omega)).mono ?_
  rintro e' w6 ⟨g6, cap6, rfl, hO, hb⟩
  have HOw6 := Lib.hid hO
  have HBw6 := Lib.hid (HBw5.out.trans hb)
  clear hO hb HOw5 HBw5 hHeld
  refine hK.out _ _ HBw6.out (fun hHeld => ?_)
  clear hK K
  try simp only [Act.put, List.getElem_toArray, List.getElem_cons_zero, List.getElem_cons_succ, List.setIfInBounds_toArray, List.set_cons_zero, List.set_cons_succ]
  refine wpAnyH_ready (rs := [9]) (by kernel_rfl) (by simp) ?_
  refine AllReadyH.cons rfl (fun K hK => ?_) AllReadyH.nil
  go_simp
  refine (addr_own w1.heap.size g6 16 cap6 _ f _ HOw6.out HBw6.out.size (by omega)).mono ?_
  rintro e' w7 ⟨g7, cap7, rfl, hO, hb⟩
  have HOw7 := Lib.hid hO
  have HBw7 := Lib.hid (HBw6.out.trans hb)
  clear hO hb HOw6 HBw6 hHeld
  refine hK.out _ _ HBw7.out (fun hHeld => ?_)
  clear hK K
  try simp only [Act.put, List.getElem_toArray, List.getElem_cons_zero, List.getElem_cons_succ, List.setIfInBounds_toArray, List.set_cons_zero, List.set_cons_succ]
  refine wpAnyH_take (i := 10) (v := ?_) rfl (by kernel_rfl) (by kernel_rfl) (by kernel_rfl) (fun _ _ _ h => h) (Or.inl ⟨by rfl, ?_⟩) (by assumption) ?_
  rotate_left
  · intro w hSw
    clear hSw
    go_simp
    try with_reducible rfl
  try simp only [Act.put, List.getElem_toArray, List.getElem_cons_zero, List.getElem_cons_succ, List.setIfInBounds_toArray, List.set_cons_zero, List.set_cons_succ]
  refine wpAnyH_done (by kernel_rfl) ?_ _
  clear hHeld
  have HO7 := Lib.hid (show OwnB w7 w1.heap.size 5 .u8 g7 22 cap7 ([136, flagsOf r m, 0, 0] ++ t.l ++ b.l ++ f.l) from HOw7.out)
  have c19 := HQ.out w7 19 HBw7.out
  dsimp only [Qf.cells] at c19
  have y1 : IntKind.i64.wrap (seq * 16) = seq * 16 := IntWalk.i64_in _ ⟨by omega, by omega⟩
  clear HOw7 HRG
  go_wp2_with (fail)
  refine (two_own w1.heap.size g7 22 cap7 _ (seq * 16) w7 HO7.out HBw7.out.size (by omega) (by omega) (by omega)).mono ?_
  rintro e' w8 ⟨g8, cap8, rfl, hO, hb⟩
  have HO8 := Lib.hid hO
  have HB8 := Lib.hid (HBw7.out.trans hb)
  clear hO hb HO7 HBw7 c19 y1
  have q18 := HQ.out w8 18 HB8.out
  have q22 := HQ.out w8 22 HB8.out
  dsimp only [Qf.cells] at q18 q22
  have HK := Lib.hid (show ∀ (o : Obj) (w' : World), Below w1.heap.size (w8.alloc o).drew w' → w'.cell? ⟨w.heap.size, 18, none⟩ = some (.int .i64 tid) ∧ w'.cell? ⟨w.heap.size, 22, none⟩ = some (.bool e) from
    fun o w' hb => ⟨HQ.out w' 18 ((HB8.out.alloc HB8.out.size o).drew.trans hb), HQ.out w' 22 ((HB8.out.alloc HB8.out.size o).drew.trans hb)⟩)
  have HZ8 := Lib.hid HB8.out.size
  obtain ⟨f0, f1⟩ : 0 ≤ fl e 16 ∧ fl e 16 ≤ 16 := by cases e <;> decide
  have x2 : IntKind.i64.wrap (tid + fl e 16) = tid + fl e 16 := IntWalk.i64_in _ ⟨by omega, by omega⟩
  have x3 : IntKind.u8.wrap (tid + fl e 16) = trafOf tid e := by rw [← HTS.out]; exact IntWalk.u8_in _ ⟨by omega, by omega⟩
  clear f0 f1
  go_wp2
  go_region_held3 (fun w' => w'.cell? ⟨w.heap.size, 18, none⟩ = some (.int .i64 tid) ∧ w'.cell? ⟨w.heap.size, 22, none⟩ = some (.bool e))
    (first | go_keep | exact HK.out _ _ hb9.out)
    (first | (go_at_call 27; refine (flag_any _ _ _).mono ?_; rintro e' w' ⟨rfl, rfl⟩) | (refine step_app_own rfl (.tmp 44) (.tmp 52) rfl w1.heap.size g8 24 cap8 _ (by rfl) (World.ownsRow.drew (World.ownsRow.alloc HO8.out _)) ⟨w8.heap.size, 0, none⟩ 2 2 [trafOf tid e, 0] (by rfl) rfl (by omega) (World.news_of_block (cs := #[.int .u8 (trafOf tid e), .int .u8 0]) (t := 5) (fr := (0, 0)) (heap_alloc_new w8 _)) (by omega) (by have := HZ8.out; simp; omega) ?_; intro g9 cap9 w9 hO9 hb9))
  clear x2 x3 q18 q22
  have HB9 := Lib.hid ((HB8.out.alloc HB8.out.size _).drew.trans hb9.out)
  have q23 := HQ.out w9 23 HB9.out
  dsimp only [Qf.cells] at q23
  have HX9 := Lib.hid (HX.out.below HB9.out)
  clear hb9 HB8 HO8 HK HZ8
  have HE := Lib.hid (show ([136, flagsOf r m, 0, 0] ++ t.l ++ b.l ++ f.l ++ [seq * 16 % 256, seq * 16 / 256] ++ [trafOf tid e, 0] ++ xs) = encQ (Qf.mk t b f tid seq r m e A n c) xs by simp [encQ])
  go_wp2_with (refine app_row rfl (.tmp 54) (.tmp 56) rfl w1.heap.size g9 26 cap9 _ rfl hO9.out A n c xs rfl HX9.out HN.out (by omega) HB9.out.size ?_; intro ga capa wa hOa hba)
  go_ret2
  refine ⟨ga, capa, rfl, ?_, HB.out.trans ((HB9.out.trans hba.out).mono HB.out.size)⟩
  rw [← HE.out]
  exact hOa.out.base HB.out.size
end Go.Proofs.YtogcpommidfmnaaDoor
