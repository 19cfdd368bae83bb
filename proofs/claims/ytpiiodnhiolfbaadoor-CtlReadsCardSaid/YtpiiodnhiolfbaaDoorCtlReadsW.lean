/-
  The walk of muezzin/muezzinlaw4.CtlReads: the Go text returns true.
-/
import Derived.Test.YtpiiodnhiolfbaaDoorCtlT
import Derived.Test.YtpiiodnhiolfbaaDoorCtlV
import Derived.Test.YtpiiodnhiolfbaaDoorOpenC
import Derived.Test.YtpiiodnhiolfbaaDoorErr
import Derived.WalkKit
import Derived.ProofKit
import Derived.Below
namespace Go.Proofs.YtpiiodnhiolfbaaDoor.ctlReads
open Go.ChangeShapes Go.WideShapes Go.ChangeAt Go.RowKit Go.Joins
set_option linter.unusedVariables false
set_option linter.unusedSimpArgs false

theorem refReadBar_all (A : Option Addr) (n c : Nat) (xs : List Int) (w : World) (h : RowB .u8 w A n xs) (hnc : n ≤ c) :
    Calls Tryd.prog 20 #[.slice A n c] w fun e w' => e = .returned (.tuple #[(outW xs n 132 20).val, .int .i64 (rdW xs n 132 20 : Nat)]) ∧ Below w.heap.size w w' := by
  by_cases hb : begC xs n 132 20 = 0
  · exact refReadBar_fit A n c xs w h hnc hb
  · refine (refReadBar_beg A n c xs w h hb).mono ?_
    rintro e w' ⟨rfl, hB⟩
    exact ⟨by rw [outW, if_neg (by rw [rdW_beg hb]; exact hb), rdW_beg hb], hB⟩
theorem refReadAck_all (A : Option Addr) (n c : Nat) (xs : List Int) (w : World) (h : RowB .u8 w A n xs) (hnc : n ≤ c) :
    Calls Tryd.prog 21 #[.slice A n c] w fun e w' => e = .returned (.tuple #[(outA xs n).val, .int .i64 (rdW xs n 148 28 : Nat)]) ∧ Below w.heap.size w w' := by
  by_cases hb : begC xs n 148 28 = 0
  · exact refReadAck_fit A n c xs w h hnc hb
  · refine (refReadAck_beg A n c xs w h hb).mono ?_
    rintro e w' ⟨rfl, hB⟩
    exact ⟨by rw [outA, if_neg (by rw [rdW_beg hb]; exact hb), rdW_beg hb], hB⟩
theorem refReadPoll_all (A : Option Addr) (n c : Nat) (xs : List Int) (w : World) (h : RowB .u8 w A n xs) (hnc : n ≤ c) :
    Calls Tryd.prog 22 #[.slice A n c] w fun e w' => e = .returned (.tuple #[(outP xs n).val, .int .i64 (rdP xs n : Nat)]) ∧ Below w.heap.size w w' := by
  by_cases hb : begC xs n 164 16 = 0
  · exact refReadPoll_fit A n c xs w h hnc hb
  · refine (refReadPoll_beg A n c xs w h hb).mono ?_
    rintro e w' ⟨rfl, hB⟩
    exact ⟨by rw [outP, if_neg (by rw [rdP_beg hb]; exact hb), rdP_beg hb], hB⟩

/-! ### THE WALK -/
set_option maxRecDepth 100000 in
set_option maxHeartbeats 8000000 in
theorem walk (a0 : Option Addr) (len0 cap0 : Nat) (z0 : List Int) (w : World) (E : Nat → Addr) (hS : Sent w E [101, 102, 103, 104, 105, 106, 107, 108, 109, 110, 111, 112, 113, 114]) (w0 : IsRow .u8 w a0 len0 cap0 z0) :
    Calls Tryd.prog 4 #[.slice a0 len0 cap0] w fun e w' => e = .returned (.bool true) ∧ Below w.heap.size w w' := by
  have HS := Lib.hid hS
  have HY := Lib.hid (RowB.of_row w0)
  have HLD := Lib.hid w0.len_cap.1
  generalize z0.take len0 = ys at HY
  clear w0 hS
  by_cases h61 : (60 : Int) < (len0 : Int)
  · go_enter Tryd.func4, Tryd.ntmps4
    go_wp2_with (fail)
    refine (first_any _).mono ?_
    rintro e w1 ⟨rfl, hB⟩
    have HB1 := Lib.hid hB
    clear hB
    go_wp2
    go_ret
    exact ⟨rfl, HB1.out⟩
  have hd61 : decide ((60 : Int) < (len0 : Int)) = false := by simpa using h61
  clear h61
  go_enter Tryd.func4, Tryd.ntmps4
  go_wp2_with (fail)
  refine (first_any _).mono ?_
  rintro e w1 ⟨rfl, hB⟩
  have HB1 := Lib.hid hB
  clear hB
  go_wp2_with (fail)
  refine (readBar_all a0 len0 cap0 ys E w1 (HY.out.below HB1.out) (HS.out.below HB1.out).four HLD.out).mono ?_
  rintro e w2 ⟨rfl, hB⟩
  have HB2 := Lib.hid (HB1.out.trans ((hB).mono HB1.out.size))
  clear hB
  generalize hve : errV E (rdW ys len0 132 20) = ve0 at *
  have HVE0 := Lib.hid hve
  clear hve
  have HA := Lib.hid ((Below.refl w2.heap.size w2).alloc (Nat.le_refl _) (.cells (outW ys len0 132 20).cells 25))
  have HB3 := Lib.hid (HB2.out.trans ((HA.out).mono HB2.out.size))
  have HFa := Lib.hid (heap_alloc_last w2 (.cells (outW ys len0 132 20).cells 25))
  have HLa := Lib.hid (show w2.heap.size < (w2.alloc (.cells (outW ys len0 132 20).cells 25)).heap.size by simp)
  clear HA
  go_wp2_with (first
    | (refine wpList_store_row rfl 25 (.tmp 4) (.tmp 26) rfl w2.heap.size (outW ys len0 132 20).cells rfl rfl 25 Go.Proofs.YtpiiodnhiolfbaaDoor.b0.cells (heap_alloc_last _ _) sizeBar rfl (Brf.oneCell _) ?_; rw [World.setRow_alloc_new]; generalize World.alloc w2 _ = w3 at *))
  generalize w2.heap.size = ka at *
  refine (readAck_all a0 len0 cap0 ys E w3 (HY.out.below HB3.out) (HS.out.below HB3.out).four HLD.out).mono ?_
  rintro e w4 ⟨rfl, hB⟩
  have HB4 := Lib.hid (HB3.out.trans ((hB).mono HB3.out.size))
  have HFt := Lib.hid (((hB).block _ HLa.out).trans HFa.out)
  have HLt := Lib.hid (Nat.lt_of_lt_of_le HLa.out (hB).size)
  clear HFa HLa
  have HFa := HFt
  have HLa := HLt
  clear HFt HLt
  clear hB
  generalize hve : errV E (rdW ys len0 148 28) = ve1 at *
  have HVE1 := Lib.hid hve
  clear hve
  have HA := Lib.hid ((Below.refl w4.heap.size w4).alloc (Nat.le_refl _) (.cells (outA ys len0).cells 28))
  have HB5 := Lib.hid (HB4.out.trans ((HA.out).mono HB4.out.size))
  have HFt := Lib.hid (((HA.out).block _ HLa.out).trans HFa.out)
  have HLt := Lib.hid (Nat.lt_of_lt_of_le HLa.out (HA.out).size)
  clear HFa HLa
  have HFa := HFt
  have HLa := HLt
  clear HFt HLt
  have HFb := Lib.hid (heap_alloc_last w4 (.cells (outA ys len0).cells 28))
  have HLb := Lib.hid (show w4.heap.size < (w4.alloc (.cells (outA ys len0).cells 28)).heap.size by simp)
  clear HA
  go_wp2_with (first
    | (refine wpList_store_row rfl 28 (.tmp 6) (.tmp 31) rfl w4.heap.size (outA ys len0).cells rfl rfl 28 Go.Proofs.YtpiiodnhiolfbaaDoor.a0.cells (heap_alloc_last _ _) sizeAck rfl (Akf.oneCell _) ?_; rw [World.setRow_alloc_new]; generalize World.alloc w4 _ = w5 at *))
  generalize w4.heap.size = kb at *
  refine (readPoll_all a0 len0 cap0 ys E w5 (HY.out.below HB5.out) (HS.out.below HB5.out).four HLD.out).mono ?_
  rintro e w6 ⟨rfl, hB⟩
  have HB6 := Lib.hid (HB5.out.trans ((hB).mono HB5.out.size))
  have HFt := Lib.hid (((hB).block _ HLa.out).trans HFa.out)
  have HLt := Lib.hid (Nat.lt_of_lt_of_le HLa.out (hB).size)
  clear HFa HLa
  have HFa := HFt
  have HLa := HLt
  clear HFt HLt
  have HFt := Lib.hid (((hB).block _ HLb.out).trans HFb.out)
  have HLt := Lib.hid (Nat.lt_of_lt_of_le HLb.out (hB).size)
  clear HFb HLb
  have HFb := HFt
  have HLb := HLt
  clear HFt HLt
  clear hB
  generalize hve : errV E (rdP ys len0) = ve2 at *
  have HVE2 := Lib.hid hve
  clear hve
  have HA := Lib.hid ((Below.refl w6.heap.size w6).alloc (Nat.le_refl _) (.cells (outP ys len0).cells 30))
  have HB7 := Lib.hid (HB6.out.trans ((HA.out).mono HB6.out.size))
  have HFt := Lib.hid (((HA.out).block _ HLa.out).trans HFa.out)
  have HLt := Lib.hid (Nat.lt_of_lt_of_le HLa.out (HA.out).size)
  clear HFa HLa
  have HFa := HFt
  have HLa := HLt
  clear HFt HLt
  have HFt := Lib.hid (((HA.out).block _ HLb.out).trans HFb.out)
  have HLt := Lib.hid (Nat.lt_of_lt_of_le HLb.out (HA.out).size)
  clear HFb HLb
  have HFb := HFt
  have HLb := HLt
  clear HFt HLt
  have HFc := Lib.hid (heap_alloc_last w6 (.cells (outP ys len0).cells 30))
  have HLc := Lib.hid (show w6.heap.size < (w6.alloc (.cells (outP ys len0).cells 30)).heap.size by simp)
  clear HA
  go_wp2_with (first
    | (refine wpList_store_row rfl 30 (.tmp 8) (.tmp 36) rfl w6.heap.size (outP ys len0).cells rfl rfl 30 Go.Proofs.YtpiiodnhiolfbaaDoor.p0.cells (heap_alloc_last _ _) sizePoll rfl (Plf.oneCell _) ?_; rw [World.setRow_alloc_new]; generalize World.alloc w6 _ = w7 at *))
  generalize w6.heap.size = kc at *
  refine (refReadBar_all a0 len0 cap0 ys w7 (HY.out.below HB7.out) HLD.out).mono ?_
  rintro e w8 ⟨rfl, hB⟩
  have HB8 := Lib.hid (HB7.out.trans ((hB).mono HB7.out.size))
  have HFt := Lib.hid (((hB).block _ HLa.out).trans HFa.out)
  have HLt := Lib.hid (Nat.lt_of_lt_of_le HLa.out (hB).size)
  clear HFa HLa
  have HFa := HFt
  have HLa := HLt
  clear HFt HLt
  have HFt := Lib.hid (((hB).block _ HLb.out).trans HFb.out)
  have HLt := Lib.hid (Nat.lt_of_lt_of_le HLb.out (hB).size)
  clear HFb HLb
  have HFb := HFt
  have HLb := HLt
  clear HFt HLt
  have HFt := Lib.hid (((hB).block _ HLc.out).trans HFc.out)
  have HLt := Lib.hid (Nat.lt_of_lt_of_le HLc.out (hB).size)
  clear HFc HLc
  have HFc := HFt
  have HLc := HLt
  clear HFt HLt
  clear hB
  have HC0 := Lib.hid (rdW_4 ys len0 132 20)
  generalize rdW ys len0 132 20 = cd0 at *
  have HA := Lib.hid ((Below.refl w8.heap.size w8).alloc (Nat.le_refl _) (.cells (outW ys len0 132 20).cells 25))
  have HB9 := Lib.hid (HB8.out.trans ((HA.out).mono HB8.out.size))
  have HFt := Lib.hid (((HA.out).block _ HLa.out).trans HFa.out)
  have HLt := Lib.hid (Nat.lt_of_lt_of_le HLa.out (HA.out).size)
  clear HFa HLa
  have HFa := HFt
  have HLa := HLt
  clear HFt HLt
  have HFt := Lib.hid (((HA.out).block _ HLb.out).trans HFb.out)
  have HLt := Lib.hid (Nat.lt_of_lt_of_le HLb.out (HA.out).size)
  clear HFb HLb
  have HFb := HFt
  have HLb := HLt
  clear HFt HLt
  have HFt := Lib.hid (((HA.out).block _ HLc.out).trans HFc.out)
  have HLt := Lib.hid (Nat.lt_of_lt_of_le HLc.out (HA.out).size)
  clear HFc HLc
  have HFc := HFt
  have HLc := HLt
  clear HFt HLt
  have HFd := Lib.hid (heap_alloc_last w8 (.cells (outW ys len0 132 20).cells 25))
  have HLd := Lib.hid (show w8.heap.size < (w8.alloc (.cells (outW ys len0 132 20).cells 25)).heap.size by simp)
  clear HA
  go_wp2_with (first
    | (refine wpList_store_row rfl 25 (.tmp 10) (.tmp 41) rfl w8.heap.size (outW ys len0 132 20).cells rfl rfl 25 Go.Proofs.YtpiiodnhiolfbaaDoor.b0.cells (heap_alloc_last _ _) sizeBar rfl (Brf.oneCell _) ?_; rw [World.setRow_alloc_new]; generalize World.alloc w8 _ = w9 at *))
  generalize w8.heap.size = kd at *
  refine (refReadAck_all a0 len0 cap0 ys w9 (HY.out.below HB9.out) HLD.out).mono ?_
  rintro e w10 ⟨rfl, hB⟩
  have HB10 := Lib.hid (HB9.out.trans ((hB).mono HB9.out.size))
  have HFt := Lib.hid (((hB).block _ HLa.out).trans HFa.out)
  have HLt := Lib.hid (Nat.lt_of_lt_of_le HLa.out (hB).size)
  clear HFa HLa
  have HFa := HFt
  have HLa := HLt
  clear HFt HLt
  have HFt := Lib.hid (((hB).block _ HLb.out).trans HFb.out)
  have HLt := Lib.hid (Nat.lt_of_lt_of_le HLb.out (hB).size)
  clear HFb HLb
  have HFb := HFt
  have HLb := HLt
  clear HFt HLt
  have HFt := Lib.hid (((hB).block _ HLc.out).trans HFc.out)
  have HLt := Lib.hid (Nat.lt_of_lt_of_le HLc.out (hB).size)
  clear HFc HLc
  have HFc := HFt
  have HLc := HLt
  clear HFt HLt
  have HFt := Lib.hid (((hB).block _ HLd.out).trans HFd.out)
  have HLt := Lib.hid (Nat.lt_of_lt_of_le HLd.out (hB).size)
  clear HFd HLd
  have HFd := HFt
  have HLd := HLt
  clear HFt HLt
  clear hB
  have HC1 := Lib.hid (rdW_4 ys len0 148 28)
  generalize rdW ys len0 148 28 = cd1 at *
  have HA := Lib.hid ((Below.refl w10.heap.size w10).alloc (Nat.le_refl _) (.cells (outA ys len0).cells 28))
  have HB11 := Lib.hid (HB10.out.trans ((HA.out).mono HB10.out.size))
  have HFt := Lib.hid (((HA.out).block _ HLa.out).trans HFa.out)
  have HLt := Lib.hid (Nat.lt_of_lt_of_le HLa.out (HA.out).size)
  clear HFa HLa
  have HFa := HFt
  have HLa := HLt
  clear HFt HLt
  have HFt := Lib.hid (((HA.out).block _ HLb.out).trans HFb.out)
  have HLt := Lib.hid (Nat.lt_of_lt_of_le HLb.out (HA.out).size)
  clear HFb HLb
  have HFb := HFt
  have HLb := HLt
  clear HFt HLt
  have HFt := Lib.hid (((HA.out).block _ HLc.out).trans HFc.out)
  have HLt := Lib.hid (Nat.lt_of_lt_of_le HLc.out (HA.out).size)
  clear HFc HLc
  have HFc := HFt
  have HLc := HLt
  clear HFt HLt
  have HFt := Lib.hid (((HA.out).block _ HLd.out).trans HFd.out)
  have HLt := Lib.hid (Nat.lt_of_lt_of_le HLd.out (HA.out).size)
  clear HFd HLd
  have HFd := HFt
  have HLd := HLt
  clear HFt HLt
  have HFe := Lib.hid (heap_alloc_last w10 (.cells (outA ys len0).cells 28))
  have HLe := Lib.hid (show w10.heap.size < (w10.alloc (.cells (outA ys len0).cells 28)).heap.size by simp)
  clear HA
  go_wp2_with (first
    | (refine wpList_store_row rfl 28 (.tmp 12) (.tmp 46) rfl w10.heap.size (outA ys len0).cells rfl rfl 28 Go.Proofs.YtpiiodnhiolfbaaDoor.a0.cells (heap_alloc_last _ _) sizeAck rfl (Akf.oneCell _) ?_; rw [World.setRow_alloc_new]; generalize World.alloc w10 _ = w11 at *))
  generalize w10.heap.size = ke at *
  refine (refReadPoll_all a0 len0 cap0 ys w11 (HY.out.below HB11.out) HLD.out).mono ?_
  rintro e w12 ⟨rfl, hB⟩
  have HB12 := Lib.hid (HB11.out.trans ((hB).mono HB11.out.size))
  have HFt := Lib.hid (((hB).block _ HLa.out).trans HFa.out)
  have HLt := Lib.hid (Nat.lt_of_lt_of_le HLa.out (hB).size)
  clear HFa HLa
  have HFa := HFt
  have HLa := HLt
  clear HFt HLt
  have HFt := Lib.hid (((hB).block _ HLb.out).trans HFb.out)
  have HLt := Lib.hid (Nat.lt_of_lt_of_le HLb.out (hB).size)
  clear HFb HLb
  have HFb := HFt
  have HLb := HLt
  clear HFt HLt
  have HFt := Lib.hid (((hB).block _ HLc.out).trans HFc.out)
  have HLt := Lib.hid (Nat.lt_of_lt_of_le HLc.out (hB).size)
  clear HFc HLc
  have HFc := HFt
  have HLc := HLt
  clear HFt HLt
  have HFt := Lib.hid (((hB).block _ HLd.out).trans HFd.out)
  have HLt := Lib.hid (Nat.lt_of_lt_of_le HLd.out (hB).size)
  clear HFd HLd
  have HFd := HFt
  have HLd := HLt
  clear HFt HLt
  have HFt := Lib.hid (((hB).block _ HLe.out).trans HFe.out)
  have HLt := Lib.hid (Nat.lt_of_lt_of_le HLe.out (hB).size)
  clear HFe HLe
  have HFe := HFt
  have HLe := HLt
  clear HFt HLt
  clear hB
  have HC2 := Lib.hid (rdP_4 ys len0)
  generalize rdP ys len0 = cd2 at *
  have HA := Lib.hid ((Below.refl w12.heap.size w12).alloc (Nat.le_refl _) (.cells (outP ys len0).cells 30))
  have HB13 := Lib.hid (HB12.out.trans ((HA.out).mono HB12.out.size))
  have HFt := Lib.hid (((HA.out).block _ HLa.out).trans HFa.out)
  have HLt := Lib.hid (Nat.lt_of_lt_of_le HLa.out (HA.out).size)
  clear HFa HLa
  have HFa := HFt
  have HLa := HLt
  clear HFt HLt
  have HFt := Lib.hid (((HA.out).block _ HLb.out).trans HFb.out)
  have HLt := Lib.hid (Nat.lt_of_lt_of_le HLb.out (HA.out).size)
  clear HFb HLb
  have HFb := HFt
  have HLb := HLt
  clear HFt HLt
  have HFt := Lib.hid (((HA.out).block _ HLc.out).trans HFc.out)
  have HLt := Lib.hid (Nat.lt_of_lt_of_le HLc.out (HA.out).size)
  clear HFc HLc
  have HFc := HFt
  have HLc := HLt
  clear HFt HLt
  have HFt := Lib.hid (((HA.out).block _ HLd.out).trans HFd.out)
  have HLt := Lib.hid (Nat.lt_of_lt_of_le HLd.out (HA.out).size)
  clear HFd HLd
  have HFd := HFt
  have HLd := HLt
  clear HFt HLt
  have HFt := Lib.hid (((HA.out).block _ HLe.out).trans HFe.out)
  have HLt := Lib.hid (Nat.lt_of_lt_of_le HLe.out (HA.out).size)
  clear HFe HLe
  have HFe := HFt
  have HLe := HLt
  clear HFt HLt
  have HFf := Lib.hid (heap_alloc_last w12 (.cells (outP ys len0).cells 30))
  have HLf := Lib.hid (show w12.heap.size < (w12.alloc (.cells (outP ys len0).cells 30)).heap.size by simp)
  clear HA
  go_wp2_with (first
    | (refine wpList_store_row rfl 30 (.tmp 14) (.tmp 51) rfl w12.heap.size (outP ys len0).cells rfl rfl 30 Go.Proofs.YtpiiodnhiolfbaaDoor.p0.cells (heap_alloc_last _ _) sizePoll rfl (Plf.oneCell _) ?_; rw [World.setRow_alloc_new]; generalize World.alloc w12 _ = w13 at *)
    | (refine wpList_load_if (by rfl) 25 (.tmp 4) rfl ka rfl 25 (outW ys len0 132 20).cells (0, 0) _ HFa.out Tryd.underlying25 rfl sizeBar ?_)
    | (refine wpList_load_if (by rfl) 25 (.tmp 10) rfl kd rfl 25 (outW ys len0 132 20).cells (0, 0) _ HFd.out Tryd.underlying25 rfl sizeBar ?_))
  generalize w12.heap.size = kf at *
  refine (sameBar_any (outW ys len0 132 20) (outW ys len0 132 20) w13).mono ?_
  rintro e w14 ⟨rfl, hB⟩
  have HB14 := Lib.hid (HB13.out.trans ((hB).mono HB13.out.size))
  have HFt := Lib.hid (((hB).block _ HLa.out).trans HFa.out)
  have HLt := Lib.hid (Nat.lt_of_lt_of_le HLa.out (hB).size)
  clear HFa HLa
  have HFa := HFt
  have HLa := HLt
  clear HFt HLt
  have HFt := Lib.hid (((hB).block _ HLb.out).trans HFb.out)
  have HLt := Lib.hid (Nat.lt_of_lt_of_le HLb.out (hB).size)
  clear HFb HLb
  have HFb := HFt
  have HLb := HLt
  clear HFt HLt
  have HFt := Lib.hid (((hB).block _ HLc.out).trans HFc.out)
  have HLt := Lib.hid (Nat.lt_of_lt_of_le HLc.out (hB).size)
  clear HFc HLc
  have HFc := HFt
  have HLc := HLt
  clear HFt HLt
  have HFt := Lib.hid (((hB).block _ HLd.out).trans HFd.out)
  have HLt := Lib.hid (Nat.lt_of_lt_of_le HLd.out (hB).size)
  clear HFd HLd
  have HFd := HFt
  have HLd := HLt
  clear HFt HLt
  have HFt := Lib.hid (((hB).block _ HLe.out).trans HFe.out)
  have HLt := Lib.hid (Nat.lt_of_lt_of_le HLe.out (hB).size)
  clear HFe HLe
  have HFe := HFt
  have HLe := HLt
  clear HFt HLt
  have HFt := Lib.hid (((hB).block _ HLf.out).trans HFf.out)
  have HLt := Lib.hid (Nat.lt_of_lt_of_le HLf.out (hB).size)
  clear HFf HLf
  have HFf := HFt
  have HLf := HLt
  clear HFt HLt
  clear hB
  rw [sameW_refl]
  go_wp2_with (fail)
  rw [← HVE0.out]
  refine (is_err E cd0 cd0 w14 (HS.out.below HB14.out) HC0.out).mono ?_
  rintro e w15 ⟨rfl, hB⟩
  have HB15 := Lib.hid (HB14.out.trans ((hB).mono HB14.out.size))
  have HFt := Lib.hid (((hB).block _ HLa.out).trans HFa.out)
  have HLt := Lib.hid (Nat.lt_of_lt_of_le HLa.out (hB).size)
  clear HFa HLa
  have HFa := HFt
  have HLa := HLt
  clear HFt HLt
  have HFt := Lib.hid (((hB).block _ HLb.out).trans HFb.out)
  have HLt := Lib.hid (Nat.lt_of_lt_of_le HLb.out (hB).size)
  clear HFb HLb
  have HFb := HFt
  have HLb := HLt
  clear HFt HLt
  have HFt := Lib.hid (((hB).block _ HLc.out).trans HFc.out)
  have HLt := Lib.hid (Nat.lt_of_lt_of_le HLc.out (hB).size)
  clear HFc HLc
  have HFc := HFt
  have HLc := HLt
  clear HFt HLt
  have HFt := Lib.hid (((hB).block _ HLd.out).trans HFd.out)
  have HLt := Lib.hid (Nat.lt_of_lt_of_le HLd.out (hB).size)
  clear HFd HLd
  have HFd := HFt
  have HLd := HLt
  clear HFt HLt
  have HFt := Lib.hid (((hB).block _ HLe.out).trans HFe.out)
  have HLt := Lib.hid (Nat.lt_of_lt_of_le HLe.out (hB).size)
  clear HFe HLe
  have HFe := HFt
  have HLe := HLt
  clear HFt HLt
  have HFt := Lib.hid (((hB).block _ HLf.out).trans HFf.out)
  have HLt := Lib.hid (Nat.lt_of_lt_of_le HLf.out (hB).size)
  clear HFf HLf
  have HFf := HFt
  have HLf := HLt
  clear HFt HLt
  clear hB
  rw [show ((cd0 : Int) == (cd0 : Int)) = true by simp]
  go_wp2_with (first
    | (refine wpList_load_if (by rfl) 28 (.tmp 6) rfl kb rfl 28 (outA ys len0).cells (0, 0) _ HFb.out Tryd.underlying28 rfl sizeAck ?_)
    | (refine wpList_load_if (by rfl) 28 (.tmp 12) rfl ke rfl 28 (outA ys len0).cells (0, 0) _ HFe.out Tryd.underlying28 rfl sizeAck ?_))
  refine (sameAck_any (outA ys len0) (outA ys len0) w15).mono ?_
  rintro e w16 ⟨rfl, hB⟩
  have HB16 := Lib.hid (HB15.out.trans ((hB).mono HB15.out.size))
  have HFt := Lib.hid (((hB).block _ HLa.out).trans HFa.out)
  have HLt := Lib.hid (Nat.lt_of_lt_of_le HLa.out (hB).size)
  clear HFa HLa
  have HFa := HFt
  have HLa := HLt
  clear HFt HLt
  have HFt := Lib.hid (((hB).block _ HLb.out).trans HFb.out)
  have HLt := Lib.hid (Nat.lt_of_lt_of_le HLb.out (hB).size)
  clear HFb HLb
  have HFb := HFt
  have HLb := HLt
  clear HFt HLt
  have HFt := Lib.hid (((hB).block _ HLc.out).trans HFc.out)
  have HLt := Lib.hid (Nat.lt_of_lt_of_le HLc.out (hB).size)
  clear HFc HLc
  have HFc := HFt
  have HLc := HLt
  clear HFt HLt
  have HFt := Lib.hid (((hB).block _ HLd.out).trans HFd.out)
  have HLt := Lib.hid (Nat.lt_of_lt_of_le HLd.out (hB).size)
  clear HFd HLd
  have HFd := HFt
  have HLd := HLt
  clear HFt HLt
  have HFt := Lib.hid (((hB).block _ HLe.out).trans HFe.out)
  have HLt := Lib.hid (Nat.lt_of_lt_of_le HLe.out (hB).size)
  clear HFe HLe
  have HFe := HFt
  have HLe := HLt
  clear HFt HLt
  have HFt := Lib.hid (((hB).block _ HLf.out).trans HFf.out)
  have HLt := Lib.hid (Nat.lt_of_lt_of_le HLf.out (hB).size)
  clear HFf HLf
  have HFf := HFt
  have HLf := HLt
  clear HFt HLt
  clear hB
  rw [sameA_refl]
  go_wp2_with (fail)
  rw [← HVE1.out]
  refine (is_err E cd1 cd1 w16 (HS.out.below HB16.out) HC1.out).mono ?_
  rintro e w17 ⟨rfl, hB⟩
  have HB17 := Lib.hid (HB16.out.trans ((hB).mono HB16.out.size))
  have HFt := Lib.hid (((hB).block _ HLa.out).trans HFa.out)
  have HLt := Lib.hid (Nat.lt_of_lt_of_le HLa.out (hB).size)
  clear HFa HLa
  have HFa := HFt
  have HLa := HLt
  clear HFt HLt
  have HFt := Lib.hid (((hB).block _ HLb.out).trans HFb.out)
  have HLt := Lib.hid (Nat.lt_of_lt_of_le HLb.out (hB).size)
  clear HFb HLb
  have HFb := HFt
  have HLb := HLt
  clear HFt HLt
  have HFt := Lib.hid (((hB).block _ HLc.out).trans HFc.out)
  have HLt := Lib.hid (Nat.lt_of_lt_of_le HLc.out (hB).size)
  clear HFc HLc
  have HFc := HFt
  have HLc := HLt
  clear HFt HLt
  have HFt := Lib.hid (((hB).block _ HLd.out).trans HFd.out)
  have HLt := Lib.hid (Nat.lt_of_lt_of_le HLd.out (hB).size)
  clear HFd HLd
  have HFd := HFt
  have HLd := HLt
  clear HFt HLt
  have HFt := Lib.hid (((hB).block _ HLe.out).trans HFe.out)
  have HLt := Lib.hid (Nat.lt_of_lt_of_le HLe.out (hB).size)
  clear HFe HLe
  have HFe := HFt
  have HLe := HLt
  clear HFt HLt
  have HFt := Lib.hid (((hB).block _ HLf.out).trans HFf.out)
  have HLt := Lib.hid (Nat.lt_of_lt_of_le HLf.out (hB).size)
  clear HFf HLf
  have HFf := HFt
  have HLf := HLt
  clear HFt HLt
  clear hB
  rw [show ((cd1 : Int) == (cd1 : Int)) = true by simp]
  go_wp2_with (first
    | (refine wpList_load_if (by rfl) 30 (.tmp 8) rfl kc rfl 30 (outP ys len0).cells (0, 0) _ HFc.out Tryd.underlying30 rfl sizePoll ?_)
    | (refine wpList_load_if (by rfl) 30 (.tmp 14) rfl kf rfl 30 (outP ys len0).cells (0, 0) _ HFf.out Tryd.underlying30 rfl sizePoll ?_))
  refine (samePoll_any (outP ys len0) (outP ys len0) w17).mono ?_
  rintro e w18 ⟨rfl, hB⟩
  have HB18 := Lib.hid (HB17.out.trans ((hB).mono HB17.out.size))
  have HFt := Lib.hid (((hB).block _ HLa.out).trans HFa.out)
  have HLt := Lib.hid (Nat.lt_of_lt_of_le HLa.out (hB).size)
  clear HFa HLa
  have HFa := HFt
  have HLa := HLt
  clear HFt HLt
  have HFt := Lib.hid (((hB).block _ HLb.out).trans HFb.out)
  have HLt := Lib.hid (Nat.lt_of_lt_of_le HLb.out (hB).size)
  clear HFb HLb
  have HFb := HFt
  have HLb := HLt
  clear HFt HLt
  have HFt := Lib.hid (((hB).block _ HLc.out).trans HFc.out)
  have HLt := Lib.hid (Nat.lt_of_lt_of_le HLc.out (hB).size)
  clear HFc HLc
  have HFc := HFt
  have HLc := HLt
  clear HFt HLt
  have HFt := Lib.hid (((hB).block _ HLd.out).trans HFd.out)
  have HLt := Lib.hid (Nat.lt_of_lt_of_le HLd.out (hB).size)
  clear HFd HLd
  have HFd := HFt
  have HLd := HLt
  clear HFt HLt
  have HFt := Lib.hid (((hB).block _ HLe.out).trans HFe.out)
  have HLt := Lib.hid (Nat.lt_of_lt_of_le HLe.out (hB).size)
  clear HFe HLe
  have HFe := HFt
  have HLe := HLt
  clear HFt HLt
  have HFt := Lib.hid (((hB).block _ HLf.out).trans HFf.out)
  have HLt := Lib.hid (Nat.lt_of_lt_of_le HLf.out (hB).size)
  clear HFf HLf
  have HFf := HFt
  have HLf := HLt
  clear HFt HLt
  clear hB
  rw [sameP_refl]
  go_wp2_with (fail)
  rw [← HVE2.out]
  refine (is_err E cd2 cd2 w18 (HS.out.below HB18.out) HC2.out).mono ?_
  rintro e w19 ⟨rfl, hB⟩
  have HB19 := Lib.hid (HB18.out.trans ((hB).mono HB18.out.size))
  have HFt := Lib.hid (((hB).block _ HLa.out).trans HFa.out)
  have HLt := Lib.hid (Nat.lt_of_lt_of_le HLa.out (hB).size)
  clear HFa HLa
  have HFa := HFt
  have HLa := HLt
  clear HFt HLt
  have HFt := Lib.hid (((hB).block _ HLb.out).trans HFb.out)
  have HLt := Lib.hid (Nat.lt_of_lt_of_le HLb.out (hB).size)
  clear HFb HLb
  have HFb := HFt
  have HLb := HLt
  clear HFt HLt
  have HFt := Lib.hid (((hB).block _ HLc.out).trans HFc.out)
  have HLt := Lib.hid (Nat.lt_of_lt_of_le HLc.out (hB).size)
  clear HFc HLc
  have HFc := HFt
  have HLc := HLt
  clear HFt HLt
  have HFt := Lib.hid (((hB).block _ HLd.out).trans HFd.out)
  have HLt := Lib.hid (Nat.lt_of_lt_of_le HLd.out (hB).size)
  clear HFd HLd
  have HFd := HFt
  have HLd := HLt
  clear HFt HLt
  have HFt := Lib.hid (((hB).block _ HLe.out).trans HFe.out)
  have HLt := Lib.hid (Nat.lt_of_lt_of_le HLe.out (hB).size)
  clear HFe HLe
  have HFe := HFt
  have HLe := HLt
  clear HFt HLt
  have HFt := Lib.hid (((hB).block _ HLf.out).trans HFf.out)
  have HLt := Lib.hid (Nat.lt_of_lt_of_le HLf.out (hB).size)
  clear HFf HLf
  have HFf := HFt
  have HLf := HLt
  clear HFt HLt
  clear hB
  rw [show ((cd2 : Int) == (cd2 : Int)) = true by simp]
  go_wp2_with (fail)
  refine (kindC_any a0 len0 cap0 ys w19 (HY.out.below HB19.out)).mono ?_
  rintro e w' ⟨rfl, rfl⟩
  go_wp2_with (fail)
  refine (kindR_any a0 len0 cap0 ys w19 (HY.out.below HB19.out)).mono ?_
  rintro e w' ⟨rfl, rfl⟩
  generalize kindC ys len0 = kd at *
  go_wp2
  go_ret
  exact ⟨rfl, HB19.out⟩
end Go.Proofs.YtpiiodnhiolfbaaDoor.ctlReads
