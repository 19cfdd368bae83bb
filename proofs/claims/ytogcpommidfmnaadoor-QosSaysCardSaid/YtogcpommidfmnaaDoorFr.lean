/-
  A FRAME OF package api AS A VALUE OF ITS PARTS; contracts of the small functions of package qos.
-/
import Derived.Test.YtogcpommidfmnaaDoorBytes
import Derived.Test.YtogcpommidfmnaaDoorNum
import Derived.Deep.DrawnRows
namespace Go.Proofs.YtogcpommidfmnaaDoor
open Go.ChangeShapes Go.WideShapes Go.ChangeAt Go.RowKit
set_option linter.unusedVariables false

/-- six bytes. -/
structure A6 where
  (x0 x1 x2 x3 x4 x5 : Int)
def A6.l (a : A6) : List Int := [a.x0, a.x1, a.x2, a.x3, a.x4, a.x5]
abbrev A6.cells (a : A6) : Array Value := #[.int .u8 a.x0, .int .u8 a.x1, .int .u8 a.x2, .int .u8 a.x3, .int .u8 a.x4, .int .u8 a.x5]
abbrev A6.val (a : A6) : Value := .agg a.cells
/-- each a byte. -/
def A6.wf (a : A6) : Prop := ∀ x ∈ a.l, 0 ≤ x ∧ x ≤ 255
/-- a frame's parts; where its body lies. -/
structure Qf where
  (t b f : A6)
  (tid seq : Int)
  (r m e : Bool)
  (A : Option Addr)
  (n c : Nat)
/-- a frame, as a value of 24 cells. -/
abbrev Qf.cells (q : Qf) : Array Value := #[.int .u8 q.t.x0, .int .u8 q.t.x1, .int .u8 q.t.x2, .int .u8 q.t.x3, .int .u8 q.t.x4, .int .u8 q.t.x5,
  .int .u8 q.b.x0, .int .u8 q.b.x1, .int .u8 q.b.x2, .int .u8 q.b.x3, .int .u8 q.b.x4, .int .u8 q.b.x5,
  .int .u8 q.f.x0, .int .u8 q.f.x1, .int .u8 q.f.x2, .int .u8 q.f.x3, .int .u8 q.f.x4, .int .u8 q.f.x5,
  .int .i64 q.tid, .int .i64 q.seq, .bool q.r, .bool q.m, .bool q.e, .slice q.A q.n q.c]
abbrev Qf.val (q : Qf) : Value := .agg q.cells

/-- its numbers, and its body's length, may be. -/
def Qf.okB (q : Qf) : Bool := decide (0 ≤ q.tid) && decide (q.tid < 8) && decide (0 ≤ q.seq) && decide (q.seq < 4096) && decide (q.n ≤ 1500)
theorem Qf.ok_iff (q : Qf) : q.okB = true ↔ 0 ≤ q.tid ∧ q.tid < 8 ∧ 0 ≤ q.seq ∧ q.seq < 4096 ∧ q.n ≤ 1500 := by
  simp [Qf.okB, and_assoc]

set_option maxRecDepth 100000 in
set_option maxHeartbeats 8000000 in
theorem inRange_any (q : Qf) (w : World) :
    Calls Tryd.prog 20 #[q.val] w fun e w' => e = .returned (.bool q.okB) ∧ Below w.heap.size w w' := by
  have HI := Lib.hid q.ok_iff
  obtain ⟨t, b, f, tid, seq, r, m, e, A, n, c⟩ := q
  have HB := Lib.hid ((Below.refl w.heap.size w).alloc (Nat.le_refl _) (.cells (Qf.mk t b f tid seq r m e A n c).cells 26))
  generalize hk : (Qf.mk t b f tid seq r m e A n c).okB = k at *
  have HK := Lib.hid hk
  clear hk
  simp only at HI
  by_cases h0 : 0 ≤ tid
  · by_cases h1 : tid < 8
    · by_cases h2 : 0 ≤ seq
      · by_cases h3 : seq < 4096
        · by_cases h4 : (n : Int) ≤ 1500
          · have HE := Lib.hid (show k = true from HI.out.2 ⟨h0, h1, h2, h3, by omega⟩)
            go_enter Tryd.func20, Tryd.ntmps20
            go_wp2
            go_ret
            exact ⟨ret_b HE.out, HB.out⟩
          · have HE := Lib.hid (show k = false from Bool.eq_false_iff.2 fun h => by have := HI.out.1 h; omega)
            have hd : decide ((n : Int) ≤ 1500) = false := by simpa using h4
            go_enter Tryd.func20, Tryd.ntmps20
            go_wp2
            go_ret
            exact ⟨ret_b HE.out, HB.out⟩
        · have HE := Lib.hid (show k = false from Bool.eq_false_iff.2 fun h => by have := HI.out.1 h; omega)
          have hd : decide (seq < 4096) = false := by simpa using h3
          go_enter Tryd.func20, Tryd.ntmps20
          go_wp2
          go_ret
          exact ⟨ret_b HE.out, HB.out⟩
      · have HE := Lib.hid (show k = false from Bool.eq_false_iff.2 fun h => by have := HI.out.1 h; omega)
        have hd : decide (0 ≤ seq) = false := by simpa using h2
        go_enter Tryd.func20, Tryd.ntmps20
        go_wp2
        go_ret
        exact ⟨ret_b HE.out, HB.out⟩
    · have HE := Lib.hid (show k = false from Bool.eq_false_iff.2 fun h => by have := HI.out.1 h; omega)
      have hd : decide (tid < 8) = false := by simpa using h1
      go_enter Tryd.func20, Tryd.ntmps20
      go_wp2
      go_ret
      exact ⟨ret_b HE.out, HB.out⟩
  · have HE := Lib.hid (show k = false from Bool.eq_false_iff.2 fun h => by have := HI.out.1 h; omega)
    have hd : decide (0 ≤ tid) = false := by simpa using h0
    go_enter Tryd.func20, Tryd.ntmps20
    go_wp2
    go_ret
    exact ⟨ret_b HE.out, HB.out⟩

/-- so much of what is so. -/
def fl (on : Bool) (v : Int) : Int := if on then v else 0
theorem bit_any (on : Bool) (v : Int) (w : World) :
    Calls Tryd.prog 21 #[.bool on, .int .u8 v] w fun e w' => e = .returned (.int .u8 (fl on v)) ∧ w = w' := by
  cases on
  all_goals
    go_enter Tryd.func21, Tryd.ntmps21
    go_wp2
    go_ret
    exact ⟨rfl, rfl⟩

theorem len_any (x : Int) (w : World) (h0 : -9223372036854775808 ≤ x) (h1 : x ≤ 1000000000000) :
    Calls Tryd.prog 18 #[.int .i64 x] w fun e w' => e = .returned (.int .i64 (26 + max x 0)) ∧ w = w' := by
  have H0 := Lib.hid h0
  clear h0
  by_cases h : 0 ≤ x
  · rw [show max x 0 = x by omega]
    have hm : max x 0 = x := by omega
    go_enter Tryd.func18, Tryd.ntmps18
    go_wp2
    go_ret
    exact ⟨rfl, rfl⟩
  · rw [show max x 0 = 0 by omega]
    have hm : max x 0 = 0 := by omega
    go_enter Tryd.func18, Tryd.ntmps18
    go_wp2
    go_ret
    exact ⟨rfl, rfl⟩
end Go.Proofs.YtogcpommidfmnaaDoor
