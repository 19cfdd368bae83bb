/-
  CONTRACTS of package ctl's writing: AckBytes, PollBytes.
-/
import Derived.Test.YtpiiodnhiolfbaaDoorCtlB
namespace Go.Proofs.YtpiiodnhiolfbaaDoor
open Go.ChangeShapes Go.WideShapes Go.ChangeAt Go.RowKit
set_option linter.unusedVariables false
set_option linter.unusedSimpArgs false

/-- a map's eight bytes. -/
def mapB (m : Int) : List Int := [m % 256, m / 256 % 256, m / 65536 % 256, m / 16777216 % 256, m / 4294967296 % 256, m / 1099511627776 % 256, m / 281474976710656 % 256, m / 72057594037927936 % 256]
def encA (q : Akf) : List Int := encW 148 q.t q.f q.tid q.seq ++ mapB q.map
def encP (q : Plf) : List Int := [164, 0] ++ [(49152 + q.aid) % 256, (49152 + q.aid) / 256] ++ q.b.l ++ q.f.l

set_option maxRecDepth 100000 in
set_option maxHeartbeats 8000000 in
theorem ack_no (q : Akf) (E : Nat → Addr) (w : World) (hok : okTS q.tid q.seq = false) (hS : Sent w E S4) :
    Calls Tryd.prog 10 #[q.val] w fun e w' => e = .returned (.tuple #[.slice none 0 0, errP (E 103)]) ∧ Below w.heap.size w w' := by
  have he := hS.at_ 103 (by decide)
  simp only [gOf] at he
  generalize E 103 = a at *
  have HB0 := Lib.hid ((Below.refl w.heap.size w).alloc (Nat.le_refl _) (.cells q.cells 28))
  have he2 := cell?_alloc_old (.cells q.cells 28) he
  have HI := Lib.hid (inRange_any q.tid q.seq (w.alloc (.cells q.cells 28)))
  rw [hok] at HI
  clear hok he hS
  go_enter Tryd.func10, Tryd.ntmps10
  go_wp2_with (fail)
  refine HI.out.mono ?_
  rintro e w2 ⟨rfl, rfl⟩
  go_wp2_with (fail)
  go_quiet (fail)
  go_wp2
  go_ret2
  exact ⟨rfl, below_drewN HB0.out _⟩


set_option maxRecDepth 100000 in
set_option maxHeartbeats 8000000 in
theorem ack_yes (q : Akf) (w : World) (hok : okTS q.tid q.seq = true) :
    Calls Tryd.prog 10 #[q.val] w fun e w' => ∃ g cap, e = .returned (.tuple #[.slice (some ⟨g, 0, none⟩) 28 cap, .nilIface]) ∧ OwnB w' w.heap.size 5 .u8 g 28 cap (encA q) ∧ Below w.heap.size w w' := by
  obtain ⟨k0, k1, k2, k3⟩ := (okTS_iff _ _).1 hok
  have HB0 := Lib.hid ((Below.refl w.heap.size w).alloc (Nat.le_refl _) (.cells q.cells 28))
  have HI := Lib.hid (inRange_any q.tid q.seq (w.alloc (.cells q.cells 28)))
  rw [hok] at HI
  clear hok
  have HW := Lib.hid (window_own 148 28 q.t q.f q.tid q.seq (w.alloc (.cells q.cells 28)) (by omega) (by omega) k0 k1 k2 k3)
  have HM := Lib.hid (show ∀ w' : World, Below (w.heap.size + 1) (w.alloc (.cells q.cells 28)) w' → w'.cell? ⟨w.heap.size, 14, none⟩ = some (.int .u64 q.map) from fun w' hb => b_at hb (Nat.lt_succ_self _) 14)
  go_enter Tryd.func10, Tryd.ntmps10
  go_wp2_with (fail)
  refine HI.out.mono ?_
  rintro e w2 ⟨rfl, rfl⟩
  go_wp2_with (fail)
  refine HW.out.mono ?_
  rintro e w3 ⟨g0, cap0, rfl, hO, hB⟩
  rw [show (w.alloc (.cells q.cells 28)).heap.size = w.heap.size + 1 by simp] at hO hB
  have HO1 := Lib.hid (show OwnB w3 (w.heap.size + 1) 5 .u8 g0 (20 + 0) cap0 (encW 148 q.t q.f q.tid q.seq ++ (mapB q.map).take 0) by rw [List.take_zero, List.append_nil]; exact hO)
  have HB1 := Lib.hid hB
  have HE := Lib.hid (show encW 148 q.t q.f q.tid q.seq ++ mapB q.map = encA q from rfl)
  clear hO hB HI HW
  have HZ := Lib.hid (show w.heap.size + 1 ≤ (w.alloc (.cells q.cells 28)).heap.size by simp)
  generalize hw1 : w.alloc (.cells q.cells 28) = w1 at *
  clear hw1
  generalize hm : q.map = m at *
  clear hm
  go_wp2
  go_loopw [4, 22] (fun v i wr => ∃ k g cap : Nat, k ≤ 8 ∧ i = .int .i64 k ∧ v = .slice (some ⟨g, 0, none⟩) (20 + k) cap ∧ OwnB wr (w.heap.size + 1) 5 .u8 g (20 + k) cap (encW 148 q.t q.f q.tid q.seq ++ (mapB m).take k) ∧ Below (w.heap.size + 1) w1 wr) (fun _ i _ => 8 - (intOf i).toNat)
  case atStart => exact ⟨0, g0, cap0, by omega, rfl, rfl, HO1.out, HB1.out⟩
  case round =>
    obtain ⟨k, g, cap, hk, rfl, rfl, hown, hbel⟩ := hrel
    have HO := Lib.hid hown
    have HB := Lib.hid hbel
    have c14 := HM.out wr hbel
    clear hown hbel HO1 HB1
    rcases (by omega : k = 0 ∨ k = 1 ∨ k = 2 ∨ k = 3 ∨ k = 4 ∨ k = 5 ∨ k = 6 ∨ k = 7 ∨ k = 8) with rfl | rfl | rfl | rfl | rfl | rfl | rfl | rfl | rfl
    · have x : IntKind.u8.wrap (m) = m % 256 := by rw [IntKind.wrap_u8]
      go_wp2_with (refine app_own rfl (.tmp 25) (.tmp 32) rfl (w.heap.size + 1) g (20 + 0) cap _ rfl (World.ownsRow.alloc HO.out _) ⟨wr.heap.size, 0, none⟩ 1 1 [m % 256] rfl rfl (World.news_of_block (cs := #[.int .u8 (m % 256)]) (t := 5) (fr := (0, 0)) (heap_alloc_new wr _)) (by omega) (by have := HB.out.size; have hz := HZ.out; simp; omega) ?_; intro g2 cap2 w2 hO2 hb2)
      have HO2 := Lib.hid (show OwnB w2 (w.heap.size + 1) 5 .u8 g2 (20 + (0 + 1)) cap2 (encW 148 q.t q.f q.tid q.seq ++ (mapB m).take (0 + 1)) from by have := hO2.out; rwa [List.append_assoc] at this)
      have HB2 := Lib.hid ((HB.out.alloc (Nat.le_trans HZ.out HB.out.size) _).trans hb2.out)
      clear hO2 hb2
      go_wp2
      go_roundw
      case rel => exact ⟨0 + 1, g2, cap2, by omega, by go_num, rfl, HO2.out, HB2.out⟩
      case measure => simp [intOf]
    · have x : IntKind.u8.wrap (m / 256) = m / 256 % 256 := by rw [IntKind.wrap_u8]
      go_wp2_with (refine app_own rfl (.tmp 25) (.tmp 32) rfl (w.heap.size + 1) g (20 + 1) cap _ rfl (World.ownsRow.alloc HO.out _) ⟨wr.heap.size, 0, none⟩ 1 1 [m / 256 % 256] rfl rfl (World.news_of_block (cs := #[.int .u8 (m / 256 % 256)]) (t := 5) (fr := (0, 0)) (heap_alloc_new wr _)) (by omega) (by have := HB.out.size; have hz := HZ.out; simp; omega) ?_; intro g2 cap2 w2 hO2 hb2)
      have HO2 := Lib.hid (show OwnB w2 (w.heap.size + 1) 5 .u8 g2 (20 + (1 + 1)) cap2 (encW 148 q.t q.f q.tid q.seq ++ (mapB m).take (1 + 1)) from by have := hO2.out; rwa [List.append_assoc] at this)
      have HB2 := Lib.hid ((HB.out.alloc (Nat.le_trans HZ.out HB.out.size) _).trans hb2.out)
      clear hO2 hb2
      go_wp2
      go_roundw
      case rel => exact ⟨1 + 1, g2, cap2, by omega, by go_num, rfl, HO2.out, HB2.out⟩
      case measure => simp [intOf]
    · have x : IntKind.u8.wrap (m / 65536) = m / 65536 % 256 := by rw [IntKind.wrap_u8]
      go_wp2_with (refine app_own rfl (.tmp 25) (.tmp 32) rfl (w.heap.size + 1) g (20 + 2) cap _ rfl (World.ownsRow.alloc HO.out _) ⟨wr.heap.size, 0, none⟩ 1 1 [m / 65536 % 256] rfl rfl (World.news_of_block (cs := #[.int .u8 (m / 65536 % 256)]) (t := 5) (fr := (0, 0)) (heap_alloc_new wr _)) (by omega) (by have := HB.out.size; have hz := HZ.out; simp; omega) ?_; intro g2 cap2 w2 hO2 hb2)
      have HO2 := Lib.hid (show OwnB w2 (w.heap.size + 1) 5 .u8 g2 (20 + (2 + 1)) cap2 (encW 148 q.t q.f q.tid q.seq ++ (mapB m).take (2 + 1)) from by have := hO2.out; rwa [List.append_assoc] at this)
      have HB2 := Lib.hid ((HB.out.alloc (Nat.le_trans HZ.out HB.out.size) _).trans hb2.out)
      clear hO2 hb2
      go_wp2
      go_roundw
      case rel => exact ⟨2 + 1, g2, cap2, by omega, by go_num, rfl, HO2.out, HB2.out⟩
      case measure => simp [intOf]
    · have x : IntKind.u8.wrap (m / 16777216) = m / 16777216 % 256 := by rw [IntKind.wrap_u8]
      go_wp2_with (refine app_own rfl (.tmp 25) (.tmp 32) rfl (w.heap.size + 1) g (20 + 3) cap _ rfl (World.ownsRow.alloc HO.out _) ⟨wr.heap.size, 0, none⟩ 1 1 [m / 16777216 % 256] rfl rfl (World.news_of_block (cs := #[.int .u8 (m / 16777216 % 256)]) (t := 5) (fr := (0, 0)) (heap_alloc_new wr _)) (by omega) (by have := HB.out.size; have hz := HZ.out; simp; omega) ?_; intro g2 cap2 w2 hO2 hb2)
      have HO2 := Lib.hid (show OwnB w2 (w.heap.size + 1) 5 .u8 g2 (20 + (3 + 1)) cap2 (encW 148 q.t q.f q.tid q.seq ++ (mapB m).take (3 + 1)) from by have := hO2.out; rwa [List.append_assoc] at this)
      have HB2 := Lib.hid ((HB.out.alloc (Nat.le_trans HZ.out HB.out.size) _).trans hb2.out)
      clear hO2 hb2
      go_wp2
      go_roundw
      case rel => exact ⟨3 + 1, g2, cap2, by omega, by go_num, rfl, HO2.out, HB2.out⟩
      case measure => simp [intOf]
    · have x : IntKind.u8.wrap (m / 4294967296) = m / 4294967296 % 256 := by rw [IntKind.wrap_u8]
      go_wp2_with (refine app_own rfl (.tmp 25) (.tmp 32) rfl (w.heap.size + 1) g (20 + 4) cap _ rfl (World.ownsRow.alloc HO.out _) ⟨wr.heap.size, 0, none⟩ 1 1 [m / 4294967296 % 256] rfl rfl (World.news_of_block (cs := #[.int .u8 (m / 4294967296 % 256)]) (t := 5) (fr := (0, 0)) (heap_alloc_new wr _)) (by omega) (by have := HB.out.size; have hz := HZ.out; simp; omega) ?_; intro g2 cap2 w2 hO2 hb2)
      have HO2 := Lib.hid (show OwnB w2 (w.heap.size + 1) 5 .u8 g2 (20 + (4 + 1)) cap2 (encW 148 q.t q.f q.tid q.seq ++ (mapB m).take (4 + 1)) from by have := hO2.out; rwa [List.append_assoc] at this)
      have HB2 := Lib.hid ((HB.out.alloc (Nat.le_trans HZ.out HB.out.size) _).trans hb2.out)
      clear hO2 hb2
      go_wp2
      go_roundw
      case rel => exact ⟨4 + 1, g2, cap2, by omega, by go_num, rfl, HO2.out, HB2.out⟩
      case measure => simp [intOf]
    · have x : IntKind.u8.wrap (m / 1099511627776) = m / 1099511627776 % 256 := by rw [IntKind.wrap_u8]
      go_wp2_with (refine app_own rfl (.tmp 25) (.tmp 32) rfl (w.heap.size + 1) g (20 + 5) cap _ rfl (World.ownsRow.alloc HO.out _) ⟨wr.heap.size, 0, none⟩ 1 1 [m / 1099511627776 % 256] rfl rfl (World.news_of_block (cs := #[.int .u8 (m / 1099511627776 % 256)]) (t := 5) (fr := (0, 0)) (heap_alloc_new wr _)) (by omega) (by have := HB.out.size; have hz := HZ.out; simp; omega) ?_; intro g2 cap2 w2 hO2 hb2)
      have HO2 := Lib.hid (show OwnB w2 (w.heap.size + 1) 5 .u8 g2 (20 + (5 + 1)) cap2 (encW 148 q.t q.f q.tid q.seq ++ (mapB m).take (5 + 1)) from by have := hO2.out; rwa [List.append_assoc] at this)
      have HB2 := Lib.hid ((HB.out.alloc (Nat.le_trans HZ.out HB.out.size) _).trans hb2.out)
      clear hO2 hb2
      go_wp2
      go_roundw
      case rel => exact ⟨5 + 1, g2, cap2, by omega, by go_num, rfl, HO2.out, HB2.out⟩
      case measure => simp [intOf]
    · have x : IntKind.u8.wrap (m / 281474976710656) = m / 281474976710656 % 256 := by rw [IntKind.wrap_u8]
      go_wp2_with (refine app_own rfl (.tmp 25) (.tmp 32) rfl (w.heap.size + 1) g (20 + 6) cap _ rfl (World.ownsRow.alloc HO.out _) ⟨wr.heap.size, 0, none⟩ 1 1 [m / 281474976710656 % 256] rfl rfl (World.news_of_block (cs := #[.int .u8 (m / 281474976710656 % 256)]) (t := 5) (fr := (0, 0)) (heap_alloc_new wr _)) (by omega) (by have := HB.out.size; have hz := HZ.out; simp; omega) ?_; intro g2 cap2 w2 hO2 hb2)
      have HO2 := Lib.hid (show OwnB w2 (w.heap.size + 1) 5 .u8 g2 (20 + (6 + 1)) cap2 (encW 148 q.t q.f q.tid q.seq ++ (mapB m).take (6 + 1)) from by have := hO2.out; rwa [List.append_assoc] at this)
      have HB2 := Lib.hid ((HB.out.alloc (Nat.le_trans HZ.out HB.out.size) _).trans hb2.out)
      clear hO2 hb2
      go_wp2
      go_roundw
      case rel => exact ⟨6 + 1, g2, cap2, by omega, by go_num, rfl, HO2.out, HB2.out⟩
      case measure => simp [intOf]
    · have x : IntKind.u8.wrap (m / 72057594037927936) = m / 72057594037927936 % 256 := by rw [IntKind.wrap_u8]
      go_wp2_with (refine app_own rfl (.tmp 25) (.tmp 32) rfl (w.heap.size + 1) g (20 + 7) cap _ rfl (World.ownsRow.alloc HO.out _) ⟨wr.heap.size, 0, none⟩ 1 1 [m / 72057594037927936 % 256] rfl rfl (World.news_of_block (cs := #[.int .u8 (m / 72057594037927936 % 256)]) (t := 5) (fr := (0, 0)) (heap_alloc_new wr _)) (by omega) (by have := HB.out.size; have hz := HZ.out; simp; omega) ?_; intro g2 cap2 w2 hO2 hb2)
      have HO2 := Lib.hid (show OwnB w2 (w.heap.size + 1) 5 .u8 g2 (20 + (7 + 1)) cap2 (encW 148 q.t q.f q.tid q.seq ++ (mapB m).take (7 + 1)) from by have := hO2.out; rwa [List.append_assoc] at this)
      have HB2 := Lib.hid ((HB.out.alloc (Nat.le_trans HZ.out HB.out.size) _).trans hb2.out)
      clear hO2 hb2
      go_wp2
      go_roundw
      case rel => exact ⟨7 + 1, g2, cap2, by omega, by go_num, rfl, HO2.out, HB2.out⟩
      case measure => simp [intOf]
    · go_wp2
      go_ret2
      refine ⟨g, cap, rfl, ?_, HB0.out.trans (HB.out.mono (Nat.le_succ _))⟩
      have h2 := HO.out
      rw [show (mapB m).take 8 = mapB m from rfl, HE.out] at h2
      exact h2.base (Nat.le_succ _)
set_option maxRecDepth 100000 in
set_option maxHeartbeats 8000000 in
theorem poll_no (q : Plf) (E : Nat → Addr) (w : World) (hok : okAID q.aid = false) (hS : Sent w E S4) :
    Calls Tryd.prog 11 #[q.val] w fun e w' => e = .returned (.tuple #[.slice none 0 0, errP (E 103)]) ∧ Below w.heap.size w w' := by
  have he := hS.at_ 103 (by decide)
  simp only [gOf] at he
  generalize E 103 = a at *
  have HB0 := Lib.hid ((Below.refl w.heap.size w).alloc (Nat.le_refl _) (.cells q.cells 30))
  have he2 := cell?_alloc_old (.cells q.cells 30) he
  have HI := Lib.hid (mayBeAID_any q.aid (w.alloc (.cells q.cells 30)))
  rw [hok] at HI
  clear hok he hS
  go_enter Tryd.func11, Tryd.ntmps11
  go_wp2_with (fail)
  refine HI.out.mono ?_
  rintro e w2 ⟨rfl, rfl⟩
  go_wp2_with (fail)
  go_quiet (fail)
  go_wp2
  go_ret2
  exact ⟨rfl, below_drewN HB0.out _⟩

end Go.Proofs.YtpiiodnhiolfbaaDoor
