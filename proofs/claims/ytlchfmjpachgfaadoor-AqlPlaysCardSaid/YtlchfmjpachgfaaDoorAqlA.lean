/-
  CONTRACTS of package aql: the object in its block; sums in two words, of which the higher is nought.
-/
import Derived.Test.YtlchfmjpachgfaaDoorAqlM
import Derived.Test.YtlchfmjpachgfaaDoorRowN
import Derived.Test.YtlchfmjpachgfaaDoorShutA
import Derived.Test.YtlchfmjpachgfaaDoorTailR
import Derived.Test.YtlchfmjpachgfaaDoorTkH
import Derived.Test.YtlchfmjpachgfaaDoorTkD
import Derived.StillTailTactics
import Derived.LoopTactic
import Derived.Laws.Externs
import Derived.Shelf.Spec.BitsCarry
namespace Go.Proofs.YtlchfmjpachgfaaDoor
open Go.ChangeShapes Go.WideShapes Go.ChangeAt Go.RowKit Go.Deep
set_option linter.unusedVariables false
set_option linter.unusedSimpArgs false

/-- what is under way of a station, as a function of its number. -/
def vA (q : Aq) (k : Nat) : Int := q.of.getD k 0
def upX (x : Nat → Int) (a : Nat) (v : Int) (k : Nat) : Int := if k = a then v else x k
def c36 (st wh : Int) (x : Nat → Int) : Array Value := #[.int .i64 st, .int .i64 wh, .int .u64 0, .int .u64 (x 0), .int .u64 0, .int .u64 (x 1), .int .u64 0, .int .u64 (x 2), .int .u64 0, .int .u64 (x 3), .int .u64 0, .int .u64 (x 4), .int .u64 0, .int .u64 (x 5), .int .u64 0, .int .u64 (x 6), .int .u64 0, .int .u64 (x 7), .int .u64 0, .int .u64 (x 8), .int .u64 0, .int .u64 (x 9), .int .u64 0, .int .u64 (x 10), .int .u64 0, .int .u64 (x 11), .int .u64 0, .int .u64 (x 12), .int .u64 0, .int .u64 (x 13), .int .u64 0, .int .u64 (x 14), .int .u64 0, .int .u64 (x 15), .int .u64 0, .int .u64 (x 16)]
def c19 (st wh : Int) (x : Nat → Int) : Array Value := #[.int .i64 st, .int .i64 wh, .int .i64 (x 0), .int .i64 (x 1), .int .i64 (x 2), .int .i64 (x 3), .int .i64 (x 4), .int .i64 (x 5), .int .i64 (x 6), .int .i64 (x 7), .int .i64 (x 8), .int .i64 (x 9), .int .i64 (x 10), .int .i64 (x 11), .int .i64 (x 12), .int .i64 (x 13), .int .i64 (x 14), .int .i64 (x 15), .int .i64 (x 16)]
def s2 (v : Int) : List Value := [.int .u64 0, .int .u64 v]
theorem c36_cut (st wh : Int) (x : Nat → Int) {a : Nat} (ha : a < 17) : ∃ pre post : List Value, pre.length = 2 + a * 2 ∧ c36 st wh x = (pre ++ s2 (x a) ++ post).toArray ∧ ∀ v, (pre ++ s2 v ++ post).toArray = c36 st wh (upX x a v) := by
  refine ⟨(c36 st wh x).toList.take (2 + a * 2), (c36 st wh x).toList.drop (4 + a * 2), ?_⟩
  match a, ha with
  | 0, _ | 1, _ | 2, _ | 3, _ | 4, _ | 5, _ | 6, _ | 7, _ | 8, _ | 9, _ | 10, _ | 11, _ | 12, _ | 13, _ | 14, _ | 15, _ | 16, _ => exact ⟨rfl, rfl, fun _ => rfl⟩
  | n + 17, h => exact absurd h (by omega)

theorem c19_at (st wh : Int) (x : Nat → Int) {a : Nat} (ha : a < 17) : (c19 st wh x)[2 + a]? = some (.int .i64 (x a)) := by
  match a, ha with
  | 0, _ | 1, _ | 2, _ | 3, _ | 4, _ | 5, _ | 6, _ | 7, _ | 8, _ | 9, _ | 10, _ | 11, _ | 12, _ | 13, _ | 14, _ | 15, _ | 16, _ => rfl
  | n + 17, h => exact absurd h (by omega)

theorem c19_set (st wh : Int) (x : Nat → Int) {a : Nat} (ha : a < 17) (v : Int) : (c19 st wh x).setIfInBounds (2 + a) (.int .i64 v) = c19 st wh (upX x a v) := by
  match a, ha with
  | 0, _ | 1, _ | 2, _ | 3, _ | 4, _ | 5, _ | 6, _ | 7, _ | 8, _ | 9, _ | 10, _ | 11, _ | 12, _ | 13, _ | 14, _ | 15, _ | 16, _ => rfl
  | n + 17, h => exact absurd h (by omega)

theorem c36_congr {st wh : Int} {x y : Nat → Int} (h : ∀ a, a < 17 → x a = y a) : c36 st wh x = c36 st wh y := by
  unfold c36
  rw [h 0 (by decide), h 1 (by decide), h 2 (by decide), h 3 (by decide), h 4 (by decide), h 5 (by decide), h 6 (by decide), h 7 (by decide), h 8 (by decide), h 9 (by decide), h 10 (by decide), h 11 (by decide), h 12 (by decide), h 13 (by decide), h 14 (by decide), h 15 (by decide), h 16 (by decide)]
theorem c19_congr {st wh : Int} {x y : Nat → Int} (h : ∀ a, a < 17 → x a = y a) : c19 st wh x = c19 st wh y := by
  unfold c19
  rw [h 0 (by decide), h 1 (by decide), h 2 (by decide), h 3 (by decide), h 4 (by decide), h 5 (by decide), h 6 (by decide), h 7 (by decide), h 8 (by decide), h 9 (by decide), h 10 (by decide), h 11 (by decide), h 12 (by decide), h 13 (by decide), h 14 (by decide), h 15 (by decide), h 16 (by decide)]
/-- the object lies at g. -/
def At36 (w : World) (g : Nat) (st wh : Int) (x : Nat → Int) : Prop := w.heap[g]? = some (.cells (c36 st wh x) 54 (0, 0))
def At19 (w : World) (g : Nat) (st wh : Int) (x : Nat → Int) : Prop := w.heap[g]? = some (.cells (c19 st wh x) 33 (0, 0))
def IsAq (w : World) (g : Nat) (q : Aq) : Prop := At36 w g q.st q.wh (vA q)
def IsRa (w : World) (g : Nat) (q : Aq) : Prop := At19 w g q.st q.wh (vA q)
theorem IsAq.below {w w' : World} {g : Nat} {q : Aq} (h : IsAq w g q) (hb : Below w.heap.size w w') : IsAq w' g q := (hb.block g (lt_blk h)).trans h
theorem IsRa.below {w w' : World} {g : Nat} {q : Aq} (h : IsRa w g q) (hb : Below w.heap.size w w') : IsRa w' g q := (hb.block g (lt_blk h)).trans h
theorem IsAq.only {S : Nat → Prop} {w w' : World} {g : Nat} {q : Aq} (h : IsAq w g q) (ho : Only S w w') (hn : ¬ S g) : IsAq w' g q := ho.at_ h hn
theorem IsRa.only {S : Nat → Prop} {w w' : World} {g : Nat} {q : Aq} (h : IsRa w g q) (ho : Only S w w') (hn : ¬ S g) : IsRa w' g q := ho.at_ h hn
theorem vA_put {q : Aq} {a : Nat} (hi : InvA q) (ha : a < 17) (v : Int) (k : Nat) : vA (putA q a v) k = upX (vA q) a v k := by
  unfold vA putA upX
  have := hi.len
  rw [getD_set _ _ _ _ (by omega), Int.toNat_natCast]
theorem IsAq.put {w : World} {g : Nat} {q : Aq} {a : Nat} {v : Int} (h : At36 w g q.st q.wh (upX (vA q) a v)) (hi : InvA q) (ha : a < 17) : IsAq w g (putA q a v) := by
  unfold IsAq At36 at *
  rw [h]
  exact congrArg (fun c => some (Obj.cells c _ _)) (c36_congr fun k _ => (vA_put hi ha v k).symm)
theorem IsRa.put {w : World} {g : Nat} {q : Aq} {a : Nat} {v : Int} (h : At19 w g q.st q.wh (upX (vA q) a v)) (hi : InvA q) (ha : a < 17) : IsRa w g (putA q a v) := by
  unfold IsRa At19 at *
  rw [h]
  exact congrArg (fun c => some (Obj.cells c _ _)) (c19_congr fun k _ => (vA_put hi ha v k).symm)
theorem At36.cell {w : World} {g : Nat} {st wh : Int} {x : Nat → Int} (hg : At36 w g st wh x) (i : Nat) : w.cell? ⟨g, i, none⟩ = (c36 st wh x)[i]? := by
  simp only [World.cell?, show w.heap[g]? = _ from hg]
  rfl
theorem At19.cell {w : World} {g : Nat} {st wh : Int} {x : Nat → Int} (hg : At19 w g st wh x) (i : Nat) : w.cell? ⟨g, i, none⟩ = (c19 st wh x)[i]? := by
  simp only [World.cell?, show w.heap[g]? = _ from hg]
  rfl
theorem At36.st {w : World} {g : Nat} {st wh : Int} {x : Nat → Int} (hg : At36 w g st wh x) : w.cell? ⟨g, 0, none⟩ = some (.int .i64 st) := hg.cell 0
theorem At36.wh {w : World} {g : Nat} {st wh : Int} {x : Nat → Int} (hg : At36 w g st wh x) : w.cell? ⟨g, 1, none⟩ = some (.int .i64 wh) := hg.cell 1
theorem At19.st {w : World} {g : Nat} {st wh : Int} {x : Nat → Int} (hg : At19 w g st wh x) : w.cell? ⟨g, 0, none⟩ = some (.int .i64 st) := hg.cell 0
theorem At19.wh {w : World} {g : Nat} {st wh : Int} {x : Nat → Int} (hg : At19 w g st wh x) : w.cell? ⟨g, 1, none⟩ = some (.int .i64 wh) := hg.cell 1
theorem At19.x {w : World} {g : Nat} {st wh : Int} {x : Nat → Int} (hg : At19 w g st wh x) {a : Nat} (ha : a < 17) : w.cell? ⟨g, 2 + a, none⟩ = some (.int .i64 (x a)) := (hg.cell (2 + a)).trans (c19_at st wh x ha)
theorem At36.range {w : World} {g : Nat} {st wh : Int} {x : Nat → Int} (hg : At36 w g st wh x) {a : Nat} (ha : a < 17) : w.rangeAt g (2 + a * 2) [.int .u64 0, .int .u64 (x a)] := fun j v hv => by
  obtain ⟨pre, post, hp, hc, -⟩ := c36_cut st wh x ha
  rw [hg.cell, hc, ← hp]
  simp only [List.getElem?_toArray]
  rw [List.append_assoc, List.getElem?_append_right (by omega), show pre.length + j - pre.length = j by omega]
  have hj : j < (s2 (x a)).length := (List.getElem?_eq_some_iff.1 hv).1
  rw [List.getElem?_append_left hj]
  exact hv
/-! ### how much of all behind k stations -/
def pA (q : Aq) (k : Nat) : Int := (q.of.take k).sum
theorem pA_0 (q : Aq) : pA q 0 = 0 := rfl
theorem pA_17 {q : Aq} (hi : InvA q) : pA q 17 = allA q := by unfold pA allA; rw [List.take_of_length_le (by rw [hi.len]; exact Nat.le_refl _)]
theorem pA_next {q : Aq} (hi : InvA q) {k : Nat} (hk : k < 17) : pA q (k + 1) = pA q k + vA q k := by
  have hl := hi.len
  unfold pA vA
  rw [List.take_add_one, List.sum_append]
  have : q.of[k]? = some (q.of.getD k 0) := by simp [List.getD, show k < q.of.length by omega]
  rw [this]
  simp
theorem vA_nonneg {q : Aq} (hi : InvA q) (k : Nat) : 0 ≤ vA q k := getD_nonneg hi.pos k
theorem vA_le {q : Aq} (hi : InvA q) (k : Nat) : vA q k ≤ allA q := getD_le_sum _ _ hi.pos
theorem pA_nonneg {q : Aq} (hi : InvA q) (k : Nat) : 0 ≤ pA q k := sum_nonneg _ fun x hx => hi.pos x (List.mem_of_mem_take hx)
theorem pA_le {q : Aq} (hi : InvA q) (k : Nat) : pA q k ≤ allA q := by
  have h := List.take_append_drop k q.of
  have h2 : allA q = pA q k + (q.of.drop k).sum := by unfold allA pA; rw [← List.sum_append, h]
  have := sum_nonneg (q.of.drop k) fun x hx => hi.pos x (List.mem_of_mem_drop hx)
  omega
theorem ofA_v {q : Aq} {a : Nat} (ha : aidB a = true) : ofA q a = vA q a := by unfold ofA vA; rw [if_pos ha, Int.toNat_natCast]

/-! ### is, fits; the reference's aid -/
set_option maxRecDepth 100000 in
set_option maxHeartbeats 8000000 in
theorem is_any_a (n : Int) (w : World) : Calls Tryd.prog 26 #[.int .i64 n] w fun e w' => e = .returned (.bool (aidB n)) ∧ w = w' := by
  by_cases h1 : 1 ≤ n
  · have H := Shut.mk (show aidB n = decide (n ≤ 16) by unfold aidB; simp [h1])
    go_enter Tryd.func26, Tryd.ntmps26
    go_wp2
    go_ret
    exact ⟨ret_b H.out, rfl⟩
  · have H := Shut.mk (show aidB n = false by unfold aidB; simp; omega)
    have h2 : n < 1 := by omega
    go_enter Tryd.func26, Tryd.ntmps26
    go_wp2
    go_ret
    exact ⟨ret_b H.out, rfl⟩
set_option maxRecDepth 100000 in
set_option maxHeartbeats 8000000 in
theorem refaid_any (n : Int) (w : World) : Calls Tryd.prog 27 #[.int .i64 n] w fun e w' => e = .returned (.bool (aidB n)) ∧ w = w' := by
  by_cases h1 : 1 ≤ n
  · have H := Shut.mk (show aidB n = decide (n ≤ 16) by unfold aidB; simp [h1])
    go_enter Tryd.func27, Tryd.ntmps27
    go_wp2
    go_ret
    exact ⟨ret_b H.out, rfl⟩
  · have H := Shut.mk (show aidB n = false by unfold aidB; simp; omega)
    have h2 : n < 1 := by omega
    go_enter Tryd.func27, Tryd.ntmps27
    go_wp2
    go_ret
    exact ⟨ret_b H.out, rfl⟩
set_option maxRecDepth 100000 in
set_option maxHeartbeats 8000000 in
theorem fits_any (n : Int) (w : World) : Calls Tryd.prog 21 #[.int .i64 n] w fun e w' => e = .returned (.bool (airB n)) ∧ w = w' := by
  by_cases h1 : 0 ≤ n
  · have H := Shut.mk (show airB n = decide (n ≤ 1099511627776) by unfold airB; simp [h1])
    go_enter Tryd.func21, Tryd.ntmps21
    go_wp2
    go_ret
    exact ⟨ret_b H.out, rfl⟩
  · have H := Shut.mk (show airB n = false by unfold airB; simp; omega)
    have h2 : n < 0 := by omega
    go_enter Tryd.func21, Tryd.ntmps21
    go_wp2
    go_ret
    exact ⟨ret_b H.out, rfl⟩
/-! ### sums -/
set_option maxRecDepth 100000 in
set_option maxHeartbeats 8000000 in
theorem add64_in (x y : Int) (hx : 0 ≤ x) (hy : 0 ≤ y) (hs : x + y < 18446744073709551616) (w : World) : (callFunc 31 #[.int .u64 x, .int .u64 y, .int .u64 0]).run Tryd.prog w = .ok (.value (.tuple #[.int .u64 (x + y), .int .u64 0])) w := by
  rw [run_callFunc_extern (fn := Tryd.f31) (by kernel_rfl) (by kernel_rfl) (by kernel_rfl) (by kernel_rfl) (e := add64Entry) (by kernel_rfl), run_add64 (P := Tryd.prog) x y 0 hx hy (by omega) (by omega) w]
  simp only [Result.andThen]
  rw [Int.add_zero, show (x + y) % 18446744073709551616 = x + y by omega, show (x + y) / 18446744073709551616 = 0 by omega]
set_option maxRecDepth 100000 in
set_option maxHeartbeats 8000000 in
theorem sub64_in (x y : Int) (hy : 0 ≤ y) (hs : y ≤ x) (hx : x < 18446744073709551616) (w : World) : (callFunc 32 #[.int .u64 x, .int .u64 y, .int .u64 0]).run Tryd.prog w = .ok (.value (.tuple #[.int .u64 (x - y), .int .u64 0])) w := by
  obtain ⟨x, rfl⟩ := Int.eq_ofNat_of_zero_le (Int.le_trans hy hs)
  obtain ⟨y, rfl⟩ := Int.eq_ofNat_of_zero_le hy
  have e := run_sub64 (P := Tryd.prog) x y 0 (by omega) w
  rw [if_neg (by omega)] at e
  rw [run_callFunc_extern (fn := Tryd.f32) (by kernel_rfl) (by kernel_rfl) (by kernel_rfl) (by kernel_rfl) (e := sub64Entry) (by kernel_rfl)]
  refine (congrArg (Result.andThen · _) e).trans ?_
  simp only [Result.andThen]
  rw [show (((x + 18446744073709551616 - y - 0) % 18446744073709551616 : Nat) : Int) = (x : Int) - (y : Int) by omega]
  rfl
theorem two_new {w : World} {B : Nat} (hB : B ≤ w.heap.size) (o1 o2 o3 : Obj) : Below B w (((w.alloc o1).alloc o2).alloc o3) :=
  (((Below.refl B w).alloc hB o1).alloc (by simp; omega) o2).alloc (by simp; omega) o3
set_option maxRecDepth 100000 in
set_option maxHeartbeats 8000000 in
theorem numS_any (v : Int) (w : World) (h0 : 0 ≤ v) (h1 : v ≤ 9223372036854775807) : Calls Tryd.prog 25 #[.agg #[.int .u64 0, .int .u64 v]] w fun e w' => e = .returned (.int .i64 v) ∧ Below w.heap.size w w' := by
  have HB := Shut.mk fun o => (Below.refl w.heap.size w).alloc (Nat.le_refl _) o
  have y1 : IntKind.i64.wrap v = v := IntWalk.i64_in _ ⟨by omega, by omega⟩
  have y2 : ¬ 9223372036854775807 < v := by omega
  clear h0 h1
  go_enter Tryd.func25, Tryd.ntmps25
  go_wp2
  go_ret
  exact ⟨rfl, HB.out _⟩
set_option maxRecDepth 100000 in
set_option maxHeartbeats 8000000 in
theorem plus_any (x y : Int) (w : World) (hx : 0 ≤ x) (hy : 0 ≤ y) (hs : x + y < 18446744073709551616) :
    Calls Tryd.prog 24 #[.agg #[.int .u64 0, .int .u64 x], .agg #[.int .u64 0, .int .u64 y]] w fun e w' => e = .returned (.agg #[.int .u64 0, .int .u64 (x + y)]) ∧ Below w.heap.size w w' := by
  have HB := Shut.mk fun o1 o2 o3 => two_new (w := w) (Nat.le_refl _) o1 o2 o3
  go_enter Tryd.func24, Tryd.ntmps24
  go_wp2_with (simp only [add64_in x y hx hy hs])
  simp [bodyPost, results, go_sem]
  exact HB.out _ _ _
set_option maxRecDepth 100000 in
set_option maxHeartbeats 8000000 in
theorem minus_any (x y : Int) (w : World) (hy : 0 ≤ y) (hs : y ≤ x) (hx : x < 18446744073709551616) :
    Calls Tryd.prog 28 #[.agg #[.int .u64 0, .int .u64 x], .agg #[.int .u64 0, .int .u64 y]] w fun e w' => e = .returned (.agg #[.int .u64 0, .int .u64 (x - y)]) ∧ Below w.heap.size w w' := by
  have HB := Shut.mk fun o1 o2 o3 => two_new (w := w) (Nat.le_refl _) o1 o2 o3
  go_enter Tryd.func28, Tryd.ntmps28
  go_wp2_with (simp only [sub64_in x y hy hs hx])
  simp [bodyPost, results, go_sem]
  exact HB.out _ _ _
end Go.Proofs.YtlchfmjpachgfaaDoor
