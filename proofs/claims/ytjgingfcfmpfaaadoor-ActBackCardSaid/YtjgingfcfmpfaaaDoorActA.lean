/-
  SESSIONS' FRAMES AS VALUES OF THEIR PARTS; contracts of package act's upTo, addMayBe, two, number, head.
-/
import Derived.Test.YtjgingfcfmpfaaaDoorGen
namespace Go.Proofs.YtjgingfcfmpfaaaDoor
open Go.ChangeShapes Go.WideShapes Go.ChangeAt Go.RowKit
set_option linter.unusedVariables false
set_option linter.unusedSimpArgs false

/-- an Add's parts; a Del's. -/
structure Adf where
  (t f b : A6)
  (ans : Bool)
  (tok tid size tmo seq st : Int)
structure Dlf where
  (t f b : A6)
  (mine : Bool)
  (tid rs : Int)
abbrev Adf.cells (q : Adf) : Array Value := #[.int .u8 q.t.x0, .int .u8 q.t.x1, .int .u8 q.t.x2, .int .u8 q.t.x3, .int .u8 q.t.x4, .int .u8 q.t.x5,
  .int .u8 q.f.x0, .int .u8 q.f.x1, .int .u8 q.f.x2, .int .u8 q.f.x3, .int .u8 q.f.x4, .int .u8 q.f.x5,
  .int .u8 q.b.x0, .int .u8 q.b.x1, .int .u8 q.b.x2, .int .u8 q.b.x3, .int .u8 q.b.x4, .int .u8 q.b.x5,
  .bool q.ans, .int .i64 q.tok, .int .i64 q.tid, .int .i64 q.size, .int .i64 q.tmo, .int .i64 q.seq, .int .i64 q.st]
abbrev Adf.val (q : Adf) : Value := .agg q.cells
abbrev Dlf.cells (q : Dlf) : Array Value := #[.int .u8 q.t.x0, .int .u8 q.t.x1, .int .u8 q.t.x2, .int .u8 q.t.x3, .int .u8 q.t.x4, .int .u8 q.t.x5,
  .int .u8 q.f.x0, .int .u8 q.f.x1, .int .u8 q.f.x2, .int .u8 q.f.x3, .int .u8 q.f.x4, .int .u8 q.f.x5,
  .int .u8 q.b.x0, .int .u8 q.b.x1, .int .u8 q.b.x2, .int .u8 q.b.x3, .int .u8 q.b.x4, .int .u8 q.b.x5,
  .bool q.mine, .int .i64 q.tid, .int .i64 q.rs]
abbrev Dlf.val (q : Dlf) : Value := .agg q.cells
theorem Adf.oneCell (q : Adf) : q.cells.all (·.oneCell') = true := by simp [Value.oneCell']
theorem Dlf.oneCell (q : Dlf) : q.cells.all (·.oneCell') = true := by simp [Value.oneCell']
theorem sizeAdd : (Tryd.prog.info? 25).map (·.size) = some 25 := by kernel_rfl
theorem sizeDel : (Tryd.prog.info? 27).map (·.size) = some 21 := by kernel_rfl

/-- a number from 0 to most. -/
def upT (most n : Int) : Bool := decide (0 ≤ n) && decide (n ≤ most)
theorem upT_iff (m n : Int) : upT m n = true ↔ 0 ≤ n ∧ n ≤ m := by simp [upT]
theorem upT_not {m n : Int} (h : upT m n = false) : (decide (n < 0) || decide (m < n)) = true := by
  have hn : ¬(0 ≤ n ∧ n ≤ m) := by rw [← upT_iff, h]; simp
  simp
  omega
theorem upT_is {m n : Int} (h : upT m n = true) : (decide (n < 0) || decide (m < n)) = false := by
  have := (upT_iff m n).1 h
  simp
  omega
/-- what has no place: an answer's number, an asking's status. -/
def lone (q : Adf) : Bool := if q.ans = true then q.seq != 0 else q.st != 0
def okAdd (q : Adf) : Bool := !lone q && upT 255 q.tok && upT 7 q.tid && upT 1023 q.size && upT 65535 q.tmo && upT 65535 q.st && upT 4095 q.seq
def okDel (q : Dlf) : Bool := upT 7 q.tid && upT 65535 q.rs
structure OkAdd (q : Adf) : Prop where
  tok : 0 ≤ q.tok ∧ q.tok ≤ 255
  tid : 0 ≤ q.tid ∧ q.tid ≤ 7
  size : 0 ≤ q.size ∧ q.size ≤ 1023
  tmo : 0 ≤ q.tmo ∧ q.tmo ≤ 65535
  st : 0 ≤ q.st ∧ q.st ≤ 65535
  seq : 0 ≤ q.seq ∧ q.seq ≤ 4095
  lone : if q.ans = true then q.seq = 0 else q.st = 0
theorem okAdd_iff (q : Adf) : okAdd q = true ↔ OkAdd q := by
  unfold okAdd lone
  simp only [Bool.and_eq_true, upT_iff]
  constructor
  · rintro ⟨⟨⟨⟨⟨⟨h0, h1⟩, h2⟩, h3⟩, h4⟩, h5⟩, h6⟩
    refine ⟨h1, h2, h3, h4, h5, h6, ?_⟩
    cases ha : q.ans <;> simp [ha] at h0 ⊢ <;> exact h0
  · rintro ⟨h1, h2, h3, h4, h5, h6, h0⟩
    refine ⟨⟨⟨⟨⟨⟨?_, h1⟩, h2⟩, h3⟩, h4⟩, h5⟩, h6⟩
    cases ha : q.ans <;> simp [ha] at h0 ⊢ <;> exact h0
theorem okDel_iff (q : Dlf) : okDel q = true ↔ (0 ≤ q.tid ∧ q.tid ≤ 7) ∧ (0 ≤ q.rs ∧ q.rs ≤ 65535) := by
  unfold okDel
  simp only [Bool.and_eq_true, upT_iff]

set_option maxRecDepth 100000 in
set_option maxHeartbeats 8000000 in
theorem upTo_any (m n : Int) (w : World) :
    Calls Tryd.prog 24 #[.int .i64 m, .int .i64 n] w fun e w' => e = .returned (.bool (upT m n)) ∧ w = w' := by
  have HU := Lib.hid (show upT m n = (decide (0 ≤ n) && decide (n ≤ m)) from rfl)
  generalize upT m n = r at *
  cases h0 : decide (0 ≤ n)
  · have HV := Lib.hid (show r = false by rw [HU.out, h0]; simp)
    go_enter Tryd.func24, Tryd.ntmps24
    go_wp2
    go_ret
    exact ⟨ret_b HV.out, rfl⟩
  · have HV := Lib.hid (show r = decide (n ≤ m) by rw [HU.out, h0]; simp)
    go_enter Tryd.func24, Tryd.ntmps24
    go_wp2
    go_ret
    exact ⟨ret_b HV.out, rfl⟩
theorem upTo_is {m n : Int} {r : Bool} (h : upT m n = r) (w : World) :
    Calls Tryd.prog 24 #[.int .i64 m, .int .i64 n] w fun e w' => e = .returned (.bool r) ∧ w = w' := by
  rw [← h]; exact upTo_any m n w

set_option maxRecDepth 100000 in
set_option maxHeartbeats 8000000 in
theorem mayBe_any (q : Adf) (w : World) :
    Calls Tryd.prog 21 #[q.val] w fun e w' => e = .returned (.bool (okAdd q)) ∧ Below w.heap.size w w' := by
  have HB := Lib.hid ((Below.refl w.heap.size w).alloc (Nat.le_refl _) (.cells q.cells 25))
  have c18 := cells_new w q.cells 25 18
  have c19 := cells_new w q.cells 25 19
  have c20 := cells_new w q.cells 25 20
  have c21 := cells_new w q.cells 25 21
  have c22 := cells_new w q.cells 25 22
  have c23 := cells_new w q.cells 25 23
  have c24 := cells_new w q.cells 25 24
  dsimp only [Adf.cells] at c18 c19 c20 c21 c22 c23 c24
  have HU := Lib.hid (show okAdd q = (!lone q && upT 255 q.tok && upT 7 q.tid && upT 1023 q.size && upT 65535 q.tmo && upT 65535 q.st && upT 4095 q.seq) from rfl)
  have HL := Lib.hid (show lone q = if q.ans = true then q.seq != 0 else q.st != 0 from rfl)
  generalize okAdd q = r at *
  generalize lone q = l at *
  obtain ⟨t, f, b, ans, tok, tid, size, tmo, seq, st⟩ := q
  dsimp only at c18 c19 c20 c21 c22 c23 c24 HU HL
  cases ans
  · cases hl : (st != 0)
    · have hl2 : l = false := by rw [HL.out]; simpa using hl
      cases H0 : upT (255) tok
      · have HV := Lib.hid (show r = false by rw [HU.out, hl2, H0]; simp)
        go_enter Tryd.func21, Tryd.ntmps21
        go_wp2_with (fail)
        refine (upTo_is H0 _).mono ?_
        rintro e w' ⟨rfl, rfl⟩
        go_wp2
        go_ret
        exact ⟨ret_b HV.out, HB.out⟩
      cases H1 : upT 7 tid
      · have HV := Lib.hid (show r = false by rw [HU.out, hl2, H0, H1]; simp)
        go_enter Tryd.func21, Tryd.ntmps21
        go_wp2_with (fail)
        refine (upTo_is H0 _).mono ?_
        rintro e w' ⟨rfl, rfl⟩
        go_wp2_with (fail)
        refine (upTo_is H1 _).mono ?_
        rintro e w' ⟨rfl, rfl⟩
        go_wp2
        go_ret
        exact ⟨ret_b HV.out, HB.out⟩
      cases H2 : upT 1023 size
      · have HV := Lib.hid (show r = false by rw [HU.out, hl2, H0, H1, H2]; simp)
        go_enter Tryd.func21, Tryd.ntmps21
        go_wp2_with (fail)
        refine (upTo_is H0 _).mono ?_
        rintro e w' ⟨rfl, rfl⟩
        go_wp2_with (fail)
        refine (upTo_is H1 _).mono ?_
        rintro e w' ⟨rfl, rfl⟩
        go_wp2_with (fail)
        refine (upTo_is H2 _).mono ?_
        rintro e w' ⟨rfl, rfl⟩
        go_wp2
        go_ret
        exact ⟨ret_b HV.out, HB.out⟩
      cases H3 : upT 65535 tmo
      · have HV := Lib.hid (show r = false by rw [HU.out, hl2, H0, H1, H2, H3]; simp)
        go_enter Tryd.func21, Tryd.ntmps21
        go_wp2_with (fail)
        refine (upTo_is H0 _).mono ?_
        rintro e w' ⟨rfl, rfl⟩
        go_wp2_with (fail)
        refine (upTo_is H1 _).mono ?_
        rintro e w' ⟨rfl, rfl⟩
        go_wp2_with (fail)
        refine (upTo_is H2 _).mono ?_
        rintro e w' ⟨rfl, rfl⟩
        go_wp2_with (fail)
        refine (upTo_is H3 _).mono ?_
        rintro e w' ⟨rfl, rfl⟩
        go_wp2
        go_ret
        exact ⟨ret_b HV.out, HB.out⟩
      cases H4 : upT 65535 st
      · have HV := Lib.hid (show r = false by rw [HU.out, hl2, H0, H1, H2, H3, H4]; simp)
        go_enter Tryd.func21, Tryd.ntmps21
        go_wp2_with (fail)
        refine (upTo_is H0 _).mono ?_
        rintro e w' ⟨rfl, rfl⟩
        go_wp2_with (fail)
        refine (upTo_is H1 _).mono ?_
        rintro e w' ⟨rfl, rfl⟩
        go_wp2_with (fail)
        refine (upTo_is H2 _).mono ?_
        rintro e w' ⟨rfl, rfl⟩
        go_wp2_with (fail)
        refine (upTo_is H3 _).mono ?_
        rintro e w' ⟨rfl, rfl⟩
        go_wp2_with (fail)
        refine (upTo_is H4 _).mono ?_
        rintro e w' ⟨rfl, rfl⟩
        go_wp2
        go_ret
        exact ⟨ret_b HV.out, HB.out⟩
      cases H5 : upT 4095 seq
      · have HV := Lib.hid (show r = false by rw [HU.out, hl2, H0, H1, H2, H3, H4, H5]; simp)
        go_enter Tryd.func21, Tryd.ntmps21
        go_wp2_with (fail)
        refine (upTo_is H0 _).mono ?_
        rintro e w' ⟨rfl, rfl⟩
        go_wp2_with (fail)
        refine (upTo_is H1 _).mono ?_
        rintro e w' ⟨rfl, rfl⟩
        go_wp2_with (fail)
        refine (upTo_is H2 _).mono ?_
        rintro e w' ⟨rfl, rfl⟩
        go_wp2_with (fail)
        refine (upTo_is H3 _).mono ?_
        rintro e w' ⟨rfl, rfl⟩
        go_wp2_with (fail)
        refine (upTo_is H4 _).mono ?_
        rintro e w' ⟨rfl, rfl⟩
        go_wp2_with (fail)
        refine (upTo_is H5 _).mono ?_
        rintro e w' ⟨rfl, rfl⟩
        go_wp2
        go_ret
        exact ⟨ret_b HV.out, HB.out⟩
      have HV := Lib.hid (show r = true by rw [HU.out, hl2, H0, H1, H2, H3, H4, H5]; simp)
      go_enter Tryd.func21, Tryd.ntmps21
      go_wp2_with (fail)
      refine (upTo_is H0 _).mono ?_
      rintro e w' ⟨rfl, rfl⟩
      go_wp2_with (fail)
      refine (upTo_is H1 _).mono ?_
      rintro e w' ⟨rfl, rfl⟩
      go_wp2_with (fail)
      refine (upTo_is H2 _).mono ?_
      rintro e w' ⟨rfl, rfl⟩
      go_wp2_with (fail)
      refine (upTo_is H3 _).mono ?_
      rintro e w' ⟨rfl, rfl⟩
      go_wp2_with (fail)
      refine (upTo_is H4 _).mono ?_
      rintro e w' ⟨rfl, rfl⟩
      go_wp2_with (fail)
      refine (upTo_is H5 _).mono ?_
      rintro e w' ⟨rfl, rfl⟩
      go_wp2
      go_ret
      exact ⟨ret_b HV.out, HB.out⟩
    · have hl2 : l = true := by rw [HL.out]; simpa using hl
      have HV := Lib.hid (show r = false by rw [HU.out, hl2]; simp)
      go_enter Tryd.func21, Tryd.ntmps21
      go_wp2
      go_ret
      exact ⟨ret_b HV.out, HB.out⟩
  · cases hl : (seq != 0)
    · have hl2 : l = false := by rw [HL.out]; simpa using hl
      cases H0 : upT (255) tok
      · have HV := Lib.hid (show r = false by rw [HU.out, hl2, H0]; simp)
        go_enter Tryd.func21, Tryd.ntmps21
        go_wp2_with (fail)
        refine (upTo_is H0 _).mono ?_
        rintro e w' ⟨rfl, rfl⟩
        go_wp2
        go_ret
        exact ⟨ret_b HV.out, HB.out⟩
      cases H1 : upT 7 tid
      · have HV := Lib.hid (show r = false by rw [HU.out, hl2, H0, H1]; simp)
        go_enter Tryd.func21, Tryd.ntmps21
        go_wp2_with (fail)
        refine (upTo_is H0 _).mono ?_
        rintro e w' ⟨rfl, rfl⟩
        go_wp2_with (fail)
        refine (upTo_is H1 _).mono ?_
        rintro e w' ⟨rfl, rfl⟩
        go_wp2
        go_ret
        exact ⟨ret_b HV.out, HB.out⟩
      cases H2 : upT 1023 size
      · have HV := Lib.hid (show r = false by rw [HU.out, hl2, H0, H1, H2]; simp)
        go_enter Tryd.func21, Tryd.ntmps21
        go_wp2_with (fail)
        refine (upTo_is H0 _).mono ?_
        rintro e w' ⟨rfl, rfl⟩
        go_wp2_with (fail)
        refine (upTo_is H1 _).mono ?_
        rintro e w' ⟨rfl, rfl⟩
        go_wp2_with (fail)
        refine (upTo_is H2 _).mono ?_
        rintro e w' ⟨rfl, rfl⟩
        go_wp2
        go_ret
        exact ⟨ret_b HV.out, HB.out⟩
      cases H3 : upT 65535 tmo
      · have HV := Lib.hid (show r = false by rw [HU.out, hl2, H0, H1, H2, H3]; simp)
        go_enter Tryd.func21, Tryd.ntmps21
        go_wp2_with (fail)
        refine (upTo_is H0 _).mono ?_
        rintro e w' ⟨rfl, rfl⟩
        go_wp2_with (fail)
        refine (upTo_is H1 _).mono ?_
        rintro e w' ⟨rfl, rfl⟩
        go_wp2_with (fail)
        refine (upTo_is H2 _).mono ?_
        rintro e w' ⟨rfl, rfl⟩
        go_wp2_with (fail)
        refine (upTo_is H3 _).mono ?_
        rintro e w' ⟨rfl, rfl⟩
        go_wp2
        go_ret
        exact ⟨ret_b HV.out, HB.out⟩
      cases H4 : upT 65535 st
      · have HV := Lib.hid (show r = false by rw [HU.out, hl2, H0, H1, H2, H3, H4]; simp)
        go_enter Tryd.func21, Tryd.ntmps21
        go_wp2_with (fail)
        refine (upTo_is H0 _).mono ?_
        rintro e w' ⟨rfl, rfl⟩
        go_wp2_with (fail)
        refine (upTo_is H1 _).mono ?_
        rintro e w' ⟨rfl, rfl⟩
        go_wp2_with (fail)
        refine (upTo_is H2 _).mono ?_
        rintro e w' ⟨rfl, rfl⟩
        go_wp2_with (fail)
        refine (upTo_is H3 _).mono ?_
        rintro e w' ⟨rfl, rfl⟩
        go_wp2_with (fail)
        refine (upTo_is H4 _).mono ?_
        rintro e w' ⟨rfl, rfl⟩
        go_wp2
        go_ret
        exact ⟨ret_b HV.out, HB.out⟩
      cases H5 : upT 4095 seq
      · have HV := Lib.hid (show r = false by rw [HU.out, hl2, H0, H1, H2, H3, H4, H5]; simp)
        go_enter Tryd.func21, Tryd.ntmps21
        go_wp2_with (fail)
        refine (upTo_is H0 _).mono ?_
        rintro e w' ⟨rfl, rfl⟩
        go_wp2_with (fail)
        refine (upTo_is H1 _).mono ?_
        rintro e w' ⟨rfl, rfl⟩
        go_wp2_with (fail)
        refine (upTo_is H2 _).mono ?_
        rintro e w' ⟨rfl, rfl⟩
        go_wp2_with (fail)
        refine (upTo_is H3 _).mono ?_
        rintro e w' ⟨rfl, rfl⟩
        go_wp2_with (fail)
        refine (upTo_is H4 _).mono ?_
        rintro e w' ⟨rfl, rfl⟩
        go_wp2_with (fail)
        refine (upTo_is H5 _).mono ?_
        rintro e w' ⟨rfl, rfl⟩
        go_wp2
        go_ret
        exact ⟨ret_b HV.out, HB.out⟩
      have HV := Lib.hid (show r = true by rw [HU.out, hl2, H0, H1, H2, H3, H4, H5]; simp)
      go_enter Tryd.func21, Tryd.ntmps21
      go_wp2_with (fail)
      refine (upTo_is H0 _).mono ?_
      rintro e w' ⟨rfl, rfl⟩
      go_wp2_with (fail)
      refine (upTo_is H1 _).mono ?_
      rintro e w' ⟨rfl, rfl⟩
      go_wp2_with (fail)
      refine (upTo_is H2 _).mono ?_
      rintro e w' ⟨rfl, rfl⟩
      go_wp2_with (fail)
      refine (upTo_is H3 _).mono ?_
      rintro e w' ⟨rfl, rfl⟩
      go_wp2_with (fail)
      refine (upTo_is H4 _).mono ?_
      rintro e w' ⟨rfl, rfl⟩
      go_wp2_with (fail)
      refine (upTo_is H5 _).mono ?_
      rintro e w' ⟨rfl, rfl⟩
      go_wp2
      go_ret
      exact ⟨ret_b HV.out, HB.out⟩
    · have hl2 : l = true := by rw [HL.out]; simpa using hl
      have HV := Lib.hid (show r = false by rw [HU.out, hl2]; simp)
      go_enter Tryd.func21, Tryd.ntmps21
      go_wp2
      go_ret
      exact ⟨ret_b HV.out, HB.out⟩

set_option maxHeartbeats 2000000 in
theorem twoA_own (B g n cap : Nat) (xs : List Int) (v : Int) (w : World) (hO : OwnB w B 5 .u8 g n cap xs) (hB : B ≤ w.heap.size) (h0 : 0 ≤ v) (h1 : v < 65536) (hn : n ≤ 100000) :
    Calls Tryd.prog 23 #[.slice (some ⟨g, 0, none⟩) n cap, .int .i64 v] w fun e w' => ∃ g' cap', e = .returned (.slice (some ⟨g', 0, none⟩) (n + 2) cap') ∧ OwnB w' B 5 .u8 g' (n + 2) cap' (xs ++ [v % 256, v / 256]) ∧ Below B w w' := by
  have x1 : IntKind.u8.wrap v = v % 256 := by rw [IntKind.wrap_u8]
  have x2 : IntKind.u8.wrap (v / 256) = v / 256 := IntWalk.u8_in _ ⟨by omega, by omega⟩
  have HO := Lib.hid hO
  have HZ := Lib.hid hB
  clear hO hB
  go_enter Tryd.func23, Tryd.ntmps23
  go_wp2_with (refine app_own rfl (.tmp 5) (.tmp 11) rfl B g n cap xs rfl (World.ownsRow.alloc HO.out _) ⟨w.heap.size, 0, none⟩ 2 2 [v % 256, v / 256] rfl rfl (World.news_of_block (cs := #[.int .u8 (v % 256), .int .u8 (v / 256)]) (t := 5) (fr := (0, 0)) (heap_alloc_new w _)) (by omega) (by have := HZ.out; simp; omega) ?_; intro g' cap' w' hO' hb')
  go_ret
  exact ⟨g', cap', rfl, hO'.out, ((Below.refl B w).alloc HZ.out _).trans hb'.out⟩

set_option maxRecDepth 100000 in
set_option maxHeartbeats 8000000 in
theorem number_at (b off n c : Nat) (xs : List Int) (w : World) (h : RowB .u8 w (some ⟨b, off, none⟩) n xs) (hn : 2 ≤ n) :
    Calls Tryd.prog 31 #[.slice (some ⟨b, off, none⟩) n c] w fun e w' => e = .returned (.int .i64 (xs.getD 0 0 + xs.getD 1 0 * 256)) ∧ ∃ m, w' = w.drewN m := by
  obtain ⟨b', off', e, hc⟩ := h.cells (by omega)
  cases e
  have c0 := hc 0 (by omega)
  rw [Nat.add_zero] at c0
  have c1 := hc 1 (by omega)
  obtain ⟨l0, u0⟩ := h.wf8 0 (by omega)
  obtain ⟨l1, u1⟩ := h.wf8 1 (by omega)
  clear hc h
  generalize xs.getD 0 0 = v0 at *
  generalize xs.getD 1 0 = v1 at *
  have b0 : (0 : Int) < (n : Int) := by omega
  have b1 : (1 : Int) < (n : Int) := by omega
  have x0 := IntWalk.i64_in v0 ⟨by omega, by omega⟩
  have x1 := IntWalk.i64_in v1 ⟨by omega, by omega⟩
  have x2 := IntWalk.i64_in (v1 * 256) ⟨by omega, by omega⟩
  have x3 := IntWalk.i64_in (v0 + v1 * 256) ⟨by omega, by omega⟩
  go_enter Tryd.func31, Tryd.ntmps31
  go_wp2
  go_quiet (fail)
  go_wp2
  go_ret
  exact ⟨rfl, _, rfl⟩
theorem number_off (o : Nat) (b off n c : Nat) (xs : List Int) (w : World) (h : RowB .u8 w (some ⟨b, off, none⟩) n xs) (ho : o + 2 ≤ n) :
    Calls Tryd.prog 31 #[.slice (some ⟨b, off + o, none⟩) (n - o) (c - o)] w fun e w' => e = .returned (.int .i64 (numAt xs o)) ∧ ∃ m, w' = w.drewN m := by
  have := number_at b (off + o) (n - o) (c - o) (xs.drop o) w (drop_row h o (by omega)) (by omega)
  rw [drop_getD, drop_getD] at this
  exact this

/-- what all of them begin with. -/
def encH (kind : Int) (t f b : A6) : List Int := [208, 0, 0, 0] ++ t.l ++ f.l ++ b.l ++ [0, 0, 3, kind]
theorem size3 (w : World) (t f b : A6) : (((w.alloc (.cells t.cells 23)).alloc (.cells f.cells 23)).alloc (.cells b.cells 23)).heap.size = w.heap.size + 3 := by simp
theorem box3 (w : World) (t f b : A6) (i : Nat) : (((w.alloc (.cells t.cells 23)).alloc (.cells f.cells 23)).alloc (.cells b.cells 23)).cell? ⟨w.heap.size, i, none⟩ = t.cells[i]? ∧ (((w.alloc (.cells t.cells 23)).alloc (.cells f.cells 23)).alloc (.cells b.cells 23)).cell? ⟨w.heap.size + 1, i, none⟩ = f.cells[i]? ∧ (((w.alloc (.cells t.cells 23)).alloc (.cells f.cells 23)).alloc (.cells b.cells 23)).cell? ⟨w.heap.size + 2, i, none⟩ = b.cells[i]? := by
  have s1 : (w.alloc (.cells t.cells 23)).heap.size = w.heap.size + 1 := by simp
  have s2 : ((w.alloc (.cells t.cells 23)).alloc (.cells f.cells 23)).heap.size = w.heap.size + 2 := by simp
  have h0 := cells_new w t.cells 23 i
  have h1 := cells_new (w.alloc (.cells t.cells 23)) f.cells 23 i
  have h2 := cells_new ((w.alloc (.cells t.cells 23)).alloc (.cells f.cells 23)) b.cells 23 i
  rw [s1] at h1
  rw [s2] at h2
  have b1 : Below (w.heap.size + 1) (w.alloc (.cells t.cells 23)) ((w.alloc (.cells t.cells 23)).alloc (.cells f.cells 23)) := (Below.refl _ _).alloc (by simp) _
  have b2 : Below (w.heap.size + 2) ((w.alloc (.cells t.cells 23)).alloc (.cells f.cells 23)) (((w.alloc (.cells t.cells 23)).alloc (.cells f.cells 23)).alloc (.cells b.cells 23)) := (Below.refl _ _).alloc (by simp) _
  exact ⟨(b2.cell (p := ⟨w.heap.size, i, none⟩) (by simp)).trans ((b1.cell (p := ⟨w.heap.size, i, none⟩) (by simp)).trans h0), (b2.cell (p := ⟨w.heap.size + 1, i, none⟩) (by simp)).trans h1, h2⟩

set_option maxRecDepth 100000 in
set_option maxHeartbeats 8000000 in
theorem head_own (k : Int) (size : Nat) (t f b : A6) (w : World) (hs : 28 ≤ size) (hs2 : size ≤ 1000) (k0 : 0 ≤ k) (k1 : k ≤ 255) :
    Calls Tryd.prog 22 #[.int .u8 k, .int .i64 (size : Int), t.val, f.val, b.val] w fun e w' => ∃ g cap, e = .returned (.slice (some ⟨g, 0, none⟩) 26 cap) ∧ OwnB w' w.heap.size 5 .u8 g 26 cap (encH k t f b) ∧ Below w.heap.size w w' := by
  obtain ⟨i0, hi0, hz0, hz1, hz2⟩ := info_parts byte_info
  have HB0 := Lib.hid ((((Below.refl w.heap.size w).alloc (Nat.le_refl _) (.cells t.cells 23)).alloc (by simp) (.cells f.cells 23)).alloc (by simp; omega) (.cells b.cells 23))
  have HX := Lib.hid (box3 w t f b)
  have HZ := Lib.hid (size3 w t f b)
  have b0 : (0 : Int) ≤ (size : Int) := by omega
  go_enter Tryd.func22, Tryd.ntmps22
  go_wp2_with (first
    | (at_make; generalize World.alloc (World.alloc (World.alloc w _) _) _ = w2 at *; refine wpList_make_own _ rfl _ _ 28 rfl w2.heap.size 5 i0 (.int .u8 0) 1 Tryd.underlying28 hi0 hz0 hz1 _ _ _ size rfl rfl (by omega) (by rw [hz2]; omega) (by unfold maxLen; omega) (Nat.le_refl _) ?_; intro w3 hown1 hgrow1; have HO3 := Lib.hid (show OwnB w3 w2.heap.size 5 .u8 w2.heap.size 0 size [] from hown1); have HB3 := Lib.hid ((Below.refl w2.heap.size w2).grown hgrow1 (Nat.le_refl _) (by simp)); clear hown1 hgrow1)
    | (refine app_own rfl (.tmp 14) (.tmp 15) rfl w2.heap.size w2.heap.size 0 size [] rfl (World.ownsRow.alloc HO3.out _) ⟨w3.heap.size, 0, none⟩ 4 4 [208, 0, 0, 0] rfl rfl (World.news_of_block (cs := #[.int .u8 208, .int .u8 0, .int .u8 0, .int .u8 0]) (t := 5) (fr := (0, 0)) (heap_alloc_new w3 _)) (by omega) (by have := HB3.out.size; simp; omega) ?_; intro g4 cap4 w4 hO4 hb4; have HB4 := Lib.hid ((HB3.out.alloc HB3.out.size _).trans hb4.out); clear hb4; rw [Nat.zero_add]; have HC4 := Lib.hid (fun i => (HB4.out.cell (p := ⟨w.heap.size, i, none⟩) (by have := HZ.out; simp only; omega)).trans (HX.out i).1))
    | (refine app_own rfl (.tmp 17) (.tmp 18) rfl w2.heap.size g4 4 cap4 _ rfl hO4.out ⟨w.heap.size, 0, none⟩ 6 6 t.l rfl rfl (a_src 0 t.l HC4.out (src6 (six_in rfl rfl rfl rfl rfl rfl))) (by omega) HB4.out.size ?_; intro g5 cap5 w5 hO5 hb5; have HB5 := Lib.hid (HB4.out.trans hb5.out); clear hb5; have HC5 := Lib.hid (fun i => (HB5.out.cell (p := ⟨w.heap.size + 1, i, none⟩) (by have := HZ.out; simp only; omega)).trans (HX.out i).2.1))
    | (refine app_own rfl (.tmp 20) (.tmp 21) rfl w2.heap.size g5 10 cap5 _ rfl hO5.out ⟨w.heap.size + 1, 0, none⟩ 6 6 f.l rfl rfl (a_src 0 f.l HC5.out (src6 (six_in rfl rfl rfl rfl rfl rfl))) (by omega) HB5.out.size ?_; intro g6 cap6 w6 hO6 hb6; have HB6 := Lib.hid (HB5.out.trans hb6.out); clear hb6; have HC6 := Lib.hid (fun i => (HB6.out.cell (p := ⟨w.heap.size + 2, i, none⟩) (by have := HZ.out; simp only; omega)).trans (HX.out i).2.2))
    | (refine app_own rfl (.tmp 23) (.tmp 24) rfl w2.heap.size g6 16 cap6 _ rfl hO6.out ⟨w.heap.size + 2, 0, none⟩ 6 6 b.l rfl rfl (a_src 0 b.l HC6.out (src6 (six_in rfl rfl rfl rfl rfl rfl))) (by omega) HB6.out.size ?_; intro g7 cap7 w7 hO7 hb7; have HB7 := Lib.hid (HB6.out.trans hb7.out); clear hb7)
    | (refine app_own rfl (.tmp 26) (.tmp 28) rfl w2.heap.size g7 22 cap7 _ rfl (World.ownsRow.alloc hO7.out _) ⟨w7.heap.size, 0, none⟩ 4 4 [0, 0, 3, k] rfl rfl (World.news_of_block (cs := #[.int .u8 0, .int .u8 0, .int .u8 3, .int .u8 k]) (t := 5) (fr := (0, 0)) (heap_alloc_new w7 _)) (by omega) (by have := HB7.out.size; simp; omega) ?_; intro g8 cap8 w8 hO8 hb8; have HB8 := Lib.hid ((HB7.out.alloc HB7.out.size _).trans hb8.out); clear hb8))
  go_ret
  exact ⟨g8, cap8, rfl, hO8.out.base HB0.out.size, HB0.out.trans (HB8.out.mono HB0.out.size)⟩
end Go.Proofs.YtjgingfcfmpfaaaDoor
