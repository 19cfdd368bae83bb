/-
  CONTRACT of the reference's AddBytes where the frame may not be.
-/
import Derived.Test.YtjgingfcfmpfaaaDoorActK
namespace Go.Proofs.YtjgingfcfmpfaaaDoor
open Go.ChangeShapes Go.WideShapes Go.ChangeAt Go.RowKit
set_option linter.unusedVariables false
set_option linter.unusedSimpArgs false

set_option maxRecDepth 100000 in
set_option maxHeartbeats 8000000 in
theorem refAdd_no (q : Adf) (w : World) (hok : okAdd q = false) :
    Calls Tryd.prog 10 #[q.val] w fun e w' => e = .returned (.tuple #[.slice none 0 0, .int .i64 103]) ∧ Below w.heap.size w w' := by
  have HB := Lib.hid ((Below.refl w.heap.size w).alloc (Nat.le_refl _) (.cells q.cells 25))
  have HZ := Lib.hid (show w.heap.size < (w.alloc (.cells q.cells 25)).heap.size by simp)
  have hC := cells_new w q.cells 25
  have c18 := hC 18
  have c19 := hC 19
  have c20 := hC 20
  have c21 := hC 21
  have c22 := hC 22
  have c23 := hC 23
  have c24 := hC 24
  have HC := Lib.hid hC
  dsimp only [Adf.cells] at c18 c19 c20 c21 c22 c23 c24
  clear hC
  have HOK := Lib.hid hok
  obtain ⟨t, f, b, ans, tok, tid, size, tmo, seq, st⟩ := q
  dsimp only at c18 c19 c20 c21 c22 c23 c24
  unfold okAdd lone at HOK
  dsimp only at HOK
  clear hok HC
  cases h0 : upT 255 tok
  · have H0 := Lib.hid (upT_not h0)
    go_enter Tryd.func10, Tryd.ntmps10
    go_wp2_with (fail)
    refine (out_is H0.out _).mono ?_
    rintro e w2 ⟨rfl, rfl⟩
    go_wp2
    go_ret2
    exact ⟨rfl, HB.out⟩
  have H0 := Lib.hid (upT_is h0)
  cases h1 : upT 7 tid
  · have H1 := Lib.hid (upT_not h1)
    go_enter Tryd.func10, Tryd.ntmps10
    go_wp2_with (fail)
    refine (out_is H0.out _).mono ?_
    rintro e w2 ⟨rfl, rfl⟩
    go_wp2_with (fail)
    refine (out_is H1.out _).mono ?_
    rintro e w2 ⟨rfl, rfl⟩
    go_wp2
    go_ret2
    exact ⟨rfl, HB.out⟩
  have H1 := Lib.hid (upT_is h1)
  cases h2 : upT 1023 size
  · have H2 := Lib.hid (upT_not h2)
    go_enter Tryd.func10, Tryd.ntmps10
    go_wp2_with (fail)
    refine (out_is H0.out _).mono ?_
    rintro e w2 ⟨rfl, rfl⟩
    go_wp2_with (fail)
    refine (out_is H1.out _).mono ?_
    rintro e w2 ⟨rfl, rfl⟩
    go_wp2_with (fail)
    refine (out_is H2.out _).mono ?_
    rintro e w2 ⟨rfl, rfl⟩
    go_wp2
    go_ret2
    exact ⟨rfl, HB.out⟩
  have H2 := Lib.hid (upT_is h2)
  cases h3 : upT 65535 tmo
  · have H3 := Lib.hid (upT_not h3)
    go_enter Tryd.func10, Tryd.ntmps10
    go_wp2_with (fail)
    refine (out_is H0.out _).mono ?_
    rintro e w2 ⟨rfl, rfl⟩
    go_wp2_with (fail)
    refine (out_is H1.out _).mono ?_
    rintro e w2 ⟨rfl, rfl⟩
    go_wp2_with (fail)
    refine (out_is H2.out _).mono ?_
    rintro e w2 ⟨rfl, rfl⟩
    go_wp2_with (fail)
    refine (out_is H3.out _).mono ?_
    rintro e w2 ⟨rfl, rfl⟩
    go_wp2
    go_ret2
    exact ⟨rfl, HB.out⟩
  have H3 := Lib.hid (upT_is h3)
  cases h4 : upT 65535 st
  · have H4 := Lib.hid (upT_not h4)
    go_enter Tryd.func10, Tryd.ntmps10
    go_wp2_with (fail)
    refine (out_is H0.out _).mono ?_
    rintro e w2 ⟨rfl, rfl⟩
    go_wp2_with (fail)
    refine (out_is H1.out _).mono ?_
    rintro e w2 ⟨rfl, rfl⟩
    go_wp2_with (fail)
    refine (out_is H2.out _).mono ?_
    rintro e w2 ⟨rfl, rfl⟩
    go_wp2_with (fail)
    refine (out_is H3.out _).mono ?_
    rintro e w2 ⟨rfl, rfl⟩
    go_wp2_with (fail)
    refine (out_is H4.out _).mono ?_
    rintro e w2 ⟨rfl, rfl⟩
    go_wp2
    go_ret2
    exact ⟨rfl, HB.out⟩
  have H4 := Lib.hid (upT_is h4)
  cases h5 : upT 4095 seq
  · have H5 := Lib.hid (upT_not h5)
    go_enter Tryd.func10, Tryd.ntmps10
    go_wp2_with (fail)
    refine (out_is H0.out _).mono ?_
    rintro e w2 ⟨rfl, rfl⟩
    go_wp2_with (fail)
    refine (out_is H1.out _).mono ?_
    rintro e w2 ⟨rfl, rfl⟩
    go_wp2_with (fail)
    refine (out_is H2.out _).mono ?_
    rintro e w2 ⟨rfl, rfl⟩
    go_wp2_with (fail)
    refine (out_is H3.out _).mono ?_
    rintro e w2 ⟨rfl, rfl⟩
    go_wp2_with (fail)
    refine (out_is H4.out _).mono ?_
    rintro e w2 ⟨rfl, rfl⟩
    go_wp2_with (fail)
    refine (out_is H5.out _).mono ?_
    rintro e w2 ⟨rfl, rfl⟩
    go_wp2
    go_ret2
    exact ⟨rfl, HB.out⟩
  have H5 := Lib.hid (upT_is h5)
  rw [h0, h1, h2, h3, h4, h5] at HOK
  cases ans
  · have g : (st != 0) = true := by have := HOK.out; simpa using this
    go_enter Tryd.func10, Tryd.ntmps10
    go_wp2_with (fail)
    refine (out_is H0.out _).mono ?_
    rintro e w2 ⟨rfl, rfl⟩
    go_wp2_with (fail)
    refine (out_is H1.out _).mono ?_
    rintro e w2 ⟨rfl, rfl⟩
    go_wp2_with (fail)
    refine (out_is H2.out _).mono ?_
    rintro e w2 ⟨rfl, rfl⟩
    go_wp2_with (fail)
    refine (out_is H3.out _).mono ?_
    rintro e w2 ⟨rfl, rfl⟩
    go_wp2_with (fail)
    refine (out_is H4.out _).mono ?_
    rintro e w2 ⟨rfl, rfl⟩
    go_wp2_with (fail)
    refine (out_is H5.out _).mono ?_
    rintro e w2 ⟨rfl, rfl⟩
    go_wp2
    go_ret2
    exact ⟨rfl, HB.out⟩
  · have g : (seq != 0) = true := by have := HOK.out; simpa using this
    go_enter Tryd.func10, Tryd.ntmps10
    go_wp2_with (fail)
    refine (out_is H0.out _).mono ?_
    rintro e w2 ⟨rfl, rfl⟩
    go_wp2_with (fail)
    refine (out_is H1.out _).mono ?_
    rintro e w2 ⟨rfl, rfl⟩
    go_wp2_with (fail)
    refine (out_is H2.out _).mono ?_
    rintro e w2 ⟨rfl, rfl⟩
    go_wp2_with (fail)
    refine (out_is H3.out _).mono ?_
    rintro e w2 ⟨rfl, rfl⟩
    go_wp2_with (fail)
    refine (out_is H4.out _).mono ?_
    rintro e w2 ⟨rfl, rfl⟩
    go_wp2_with (fail)
    refine (out_is H5.out _).mono ?_
    rintro e w2 ⟨rfl, rfl⟩
    go_wp2
    go_ret2
    exact ⟨rfl, HB.out⟩
end Go.Proofs.YtjgingfcfmpfaaaDoor
