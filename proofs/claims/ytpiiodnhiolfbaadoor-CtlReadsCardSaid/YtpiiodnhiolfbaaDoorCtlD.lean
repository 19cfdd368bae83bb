/-
  CONTRACTS of package ctl's writing: PollBytes.
-/
import Derived.Test.YtpiiodnhiolfbaaDoorCtlC
namespace Go.Proofs.YtpiiodnhiolfbaaDoor
open Go.ChangeShapes Go.WideShapes Go.ChangeAt Go.RowKit
set_option linter.unusedVariables false
set_option linter.unusedSimpArgs false


set_option maxRecDepth 100000 in
set_option maxHeartbeats 8000000 in
theorem poll_yes (q : Plf) (w : World) (hok : okAID q.aid = true) :
    Calls Tryd.prog 11 #[q.val] w fun e w' => ∃ g cap, e = .returned (.tuple #[.slice (some ⟨g, 0, none⟩) 16 cap, .nilIface]) ∧ OwnB w' w.heap.size 5 .u8 g 16 cap (encP q) ∧ Below w.heap.size w w' := by
  obtain ⟨k0, k1⟩ := (okAID_iff _).1 hok
  obtain ⟨i0, hi0, hz0, hz1, hz2⟩ := info_parts byte_info
  have HB0 := Lib.hid ((Below.refl w.heap.size w).alloc (Nat.le_refl _) (.cells q.cells 30))
  have HI := Lib.hid (mayBeAID_any q.aid (w.alloc (.cells q.cells 30)))
  rw [hok] at HI
  clear hok
  have HQ := Lib.hid (show ∀ w' : World, Below (w.heap.size + 1) (w.alloc (.cells q.cells 30)) w' → ∀ i, w'.cell? ⟨w.heap.size, i, none⟩ = q.cells[i]? from fun w' hb i => b_at hb (Nat.lt_succ_self _) i)
  have HE := Lib.hid (show [] ++ [164, 0] ++ [(49152 + q.aid) % 256, (49152 + q.aid) / 256] ++ q.b.l ++ q.f.l = encP q from rfl)
  have HZ := Lib.hid (show w.heap.size + 1 ≤ (w.alloc (.cells q.cells 30)).heap.size by simp)
  obtain ⟨aid, qb, qf⟩ := q
  simp only at k0 k1
  have k2 : aid ≤ 2007 := k1
  have k3 : 1 ≤ aid := k0
  have x1 : IntKind.i64.wrap (49152 + aid) = 49152 + aid := IntWalk.i64_in _ ⟨by omega, by omega⟩
  go_enter Tryd.func11, Tryd.ntmps11
  go_wp2_with (fail)
  refine HI.out.mono ?_
  rintro e w2 ⟨rfl, rfl⟩
  generalize hw1 : w.alloc _ = w1 at *
  clear hw1
  have c0 := HQ.out w1 (Below.refl _ _) 0
  dsimp only [Plf.cells] at c0
  go_wp2_with (at_make; refine wpList_make_own _ rfl _ _ 32 rfl (w.heap.size + 1) 5 i0 (.int .u8 0) 1 Tryd.underlying32 hi0 hz0 hz1 _ _ _ 16 rfl rfl (by omega) (by rw [hz2]; omega) (by unfold maxLen; omega) HZ.out ?_; intro w3 hown1 hgrow1)
  have HO3 := Lib.hid (show OwnB w3 (w.heap.size + 1) 5 .u8 w1.heap.size 0 16 [] from hown1)
  have HB3 := Lib.hid ((Below.refl (w.heap.size + 1) w1).grown hgrow1 HZ.out (by simp))
  have HZ3 := Lib.hid (Nat.le_trans HZ.out HB3.out.size)
  clear hown1 hgrow1 c0
  have c0 := HQ.out w3 HB3.out 0
  dsimp only [Plf.cells] at c0
  have HK := Lib.hid (show ∀ (o : Obj) (w' : World), Below (w.heap.size + 1) (w3.alloc o).drew w' → w'.cell? ⟨w.heap.size, 0, none⟩ = some (.int .i64 aid) from
    fun o w' hb => HQ.out w' ((HB3.out.alloc HZ3.out o).drew.trans hb) 0)
  go_region_held3 (fun w' => w'.cell? ⟨w.heap.size, 0, none⟩ = some (.int .i64 aid))
    (first | go_keep | exact HK.out _ _ hb4.out | exact HK.out _ _ (hb4.out.trans hb5))
    (first | (go_at_call 32; refine (twoC_own (w.heap.size + 1) g4 2 cap4 _ (49152 + aid) _ hO4.out (Nat.le_trans (Nat.le_trans HZ3.out (by simp)) hb4.out.size) (by omega) (by omega) (by omega)).mono ?_; rintro e' w5 ⟨g5, cap5, rfl, hO5, hb5⟩) | (refine step_app_own rfl (.tmp 11) (.tmp 12) rfl (w.heap.size + 1) w1.heap.size 0 16 [] (by rfl) (World.ownsRow.drew (World.ownsRow.alloc HO3.out _)) ⟨w3.heap.size, 0, none⟩ 2 2 [164, 0] (by rfl) rfl (by omega) (World.news_of_block (cs := #[.int .u8 164, .int .u8 0]) (t := 5) (fr := (0, 0)) (heap_alloc_new w3 _)) (by omega) (by have := HZ3.out; simp; omega) ?_; intro g4 cap4 w4 hO4 hb4))
  have HO5 := Lib.hid hO5
  have HB5 := Lib.hid ((HB3.out.alloc HZ3.out _).drew.trans (hb4.out.trans hb5))
  have HS5 := Lib.hid (HQ.out w5 HB5.out)
  clear hO4 hb4 hO5 hb5 HK HO3 HB3 c0
  go_wp2_with (first
    | (refine app_own rfl (.tmp 18) (.tmp 20) rfl (w.heap.size + 1) g5 4 cap5 _ rfl HO5.out ⟨w.heap.size, 1, none⟩ 6 6 qb.l rfl rfl (a_src 1 qb.l HS5.out (src6 (six_in rfl rfl rfl rfl rfl rfl))) (by omega) (Nat.le_trans HZ.out HB5.out.size) ?_; intro g6 cap6 w6 hO6 hb6; have HB6 := Lib.hid (HB5.out.trans hb6.out); have HS6 := Lib.hid (HQ.out w6 HB6.out); clear hb6)
    | (refine app_own rfl (.tmp 22) (.tmp 24) rfl (w.heap.size + 1) g6 10 cap6 _ rfl hO6.out ⟨w.heap.size, 7, none⟩ 6 6 qf.l rfl rfl (a_src 7 qf.l HS6.out (src6 (six_in rfl rfl rfl rfl rfl rfl))) (by omega) (Nat.le_trans HZ.out HB6.out.size) ?_; intro g7 cap7 w7 hO7 hb7; have HB7 := Lib.hid (HB6.out.trans hb7.out); clear hb7))
  go_ret2
  refine ⟨g7, cap7, rfl, ?_, HB0.out.trans (HB7.out.mono (Nat.le_succ _))⟩
  have h2 := hO7.out
  rw [HE.out] at h2
  exact h2.base (Nat.le_succ _)
end Go.Proofs.YtpiiodnhiolfbaaDoor
