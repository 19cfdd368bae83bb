/-
  CONTRACTS of package edca: the object in its block; is, time, Window.
-/
import Derived.Test.YtndkmgcmegcieaaDoorEdcaT
import Derived.Test.YtndkmgcmegcieaaDoorRowN
import Derived.Test.YtndkmgcmegcieaaDoorShutA
import Derived.StillTailTactics
import Derived.LoopTactic
namespace Go.Proofs.YtndkmgcmegcieaaDoor
open Go.ChangeShapes Go.WideShapes Go.ChangeAt Go.RowKit Go.Deep
set_option linter.unusedVariables false
set_option linter.unusedSimpArgs false

/-- what the code keeps of a category. -/
def bE (e : Ec) (a : Nat) : Int := ((winE e a - leastE a : Nat) : Int)
def kE (e : Ec) (a : Nat) : Int := ((e.ct a - 1 : Nat) : Int)
def hE (e : Ec) (a : Nat) : Bool := decide (0 < e.ct a)
def c12 (b k : Nat → Int) (h : Nat → Bool) : Array Value := #[.int .i64 (b 0), .int .i64 (b 1), .int .i64 (b 2), .int .i64 (b 3), .int .i64 (k 0), .int .i64 (k 1), .int .i64 (k 2), .int .i64 (k 3), .bool (h 0), .bool (h 1), .bool (h 2), .bool (h 3)]
def c8 (b k : Nat → Int) : Array Value := #[.int .i64 (b 0), .int .i64 (b 1), .int .i64 (b 2), .int .i64 (b 3), .int .i64 (k 0), .int .i64 (k 1), .int .i64 (k 2), .int .i64 (k 3)]
theorem c12_b (b k : Nat → Int) (h : Nat → Bool) {a : Nat} (ha : a < 4) : (c12 b k h)[a]? = some (.int .i64 (b a)) := by
  match a, ha with
  | 0, _ | 1, _ | 2, _ | 3, _ => rfl
theorem c12_k (b k : Nat → Int) (h : Nat → Bool) {a : Nat} (ha : a < 4) : (c12 b k h)[4 + a]? = some (.int .i64 (k a)) := by
  match a, ha with
  | 0, _ | 1, _ | 2, _ | 3, _ => rfl
theorem c12_h (b k : Nat → Int) (h : Nat → Bool) {a : Nat} (ha : a < 4) : (c12 b k h)[8 + a]? = some (.bool (h a)) := by
  match a, ha with
  | 0, _ | 1, _ | 2, _ | 3, _ => rfl
theorem set_b (b k : Nat → Int) (h : Nat → Bool) {a : Nat} (ha : a < 4) (v : Int) : (c12 b k h).setIfInBounds a (.int .i64 v) = c12 (fun j => if j = a then v else b j) k h := by
  match a, ha with
  | 0, _ | 1, _ | 2, _ | 3, _ => rfl
theorem set_k (b k : Nat → Int) (h : Nat → Bool) {a : Nat} (ha : a < 4) (v : Int) : (c12 b k h).setIfInBounds (4 + a) (.int .i64 v) = c12 b (fun j => if j = a then v else k j) h := by
  match a, ha with
  | 0, _ | 1, _ | 2, _ | 3, _ => rfl
theorem set_h (b k : Nat → Int) (h : Nat → Bool) {a : Nat} (ha : a < 4) (v : Bool) : (c12 b k h).setIfInBounds (8 + a) (.bool v) = c12 b k (fun j => if j = a then v else h j) := by
  match a, ha with
  | 0, _ | 1, _ | 2, _ | 3, _ => rfl
theorem c12_congr {b b' k k' : Nat → Int} {h h' : Nat → Bool} (hb : ∀ a, a < 4 → b a = b' a) (hk : ∀ a, a < 4 → k a = k' a) (hh : ∀ a, a < 4 → h a = h' a) : c12 b k h = c12 b' k' h' := by
  unfold c12
  rw [hb 0 (by decide), hb 1 (by decide), hb 2 (by decide), hb 3 (by decide), hk 0 (by decide), hk 1 (by decide), hk 2 (by decide), hk 3 (by decide), hh 0 (by decide), hh 1 (by decide), hh 2 (by decide), hh 3 (by decide)]
theorem c8_b (b k : Nat → Int) {a : Nat} (ha : a < 4) : (c8 b k)[a]? = some (.int .i64 (b a)) := by
  match a, ha with
  | 0, _ | 1, _ | 2, _ | 3, _ => rfl
theorem c8_k (b k : Nat → Int) {a : Nat} (ha : a < 4) : (c8 b k)[4 + a]? = some (.int .i64 (k a)) := by
  match a, ha with
  | 0, _ | 1, _ | 2, _ | 3, _ => rfl
theorem set8_b (b k : Nat → Int) {a : Nat} (ha : a < 4) (v : Int) : (c8 b k).setIfInBounds a (.int .i64 v) = c8 (fun j => if j = a then v else b j) k := by
  match a, ha with
  | 0, _ | 1, _ | 2, _ | 3, _ => rfl
theorem set8_k (b k : Nat → Int) {a : Nat} (ha : a < 4) (v : Int) : (c8 b k).setIfInBounds (4 + a) (.int .i64 v) = c8 b (fun j => if j = a then v else k j) := by
  match a, ha with
  | 0, _ | 1, _ | 2, _ | 3, _ => rfl
theorem c8_congr {b b' k k' : Nat → Int} (hb : ∀ a, a < 4 → b a = b' a) (hk : ∀ a, a < 4 → k a = k' a) : c8 b k = c8 b' k' := by
  unfold c8
  rw [hb 0 (by decide), hb 1 (by decide), hb 2 (by decide), hb 3 (by decide), hk 0 (by decide), hk 1 (by decide), hk 2 (by decide), hk 3 (by decide)]
/-- the object lies at g. -/
def At12 (w : World) (g : Nat) (b k : Nat → Int) (h : Nat → Bool) : Prop := w.heap[g]? = some (.cells (c12 b k h) 28 (0, 0))
def At8 (w : World) (g : Nat) (b k : Nat → Int) : Prop := w.heap[g]? = some (.cells (c8 b k) 31 (0, 0))
def IsEd (w : World) (g : Nat) (e : Ec) : Prop := At12 w g (bE e) (kE e) (hE e)
def IsRe (w : World) (g : Nat) (e : Ec) : Prop := At8 w g (fun a => ((e.wd a : Nat) : Int)) (fun a => ((e.ct a : Nat) : Int))
/-- two that agree on the four. -/
def Like (e e' : Ec) : Prop := ∀ a, a < 4 → e.wd a = e'.wd a ∧ e.ct a = e'.ct a
theorem Like.win {e e' : Ec} (h : Like e e') {a : Nat} (ha : a < 4) : winE e a = winE e' a := by unfold winE; rw [(h a ha).1]
theorem IsEd.like {w : World} {g : Nat} {e e' : Ec} (h : IsEd w g e) (hl : Like e e') : IsEd w g e' := by
  unfold IsEd At12 at h ⊢
  rw [h]
  exact congrArg (fun c => some (Obj.cells c _ _)) (c12_congr (fun a ha => by unfold bE; rw [hl.win ha]) (fun a ha => by unfold kE; rw [(hl a ha).2]) (fun a ha => by unfold hE; rw [(hl a ha).2]))
theorem IsRe.like {w : World} {g : Nat} {e e' : Ec} (h : IsRe w g e) (hl : Like e e') : IsRe w g e' := by
  unfold IsRe At8 at h ⊢
  rw [h]
  exact congrArg (fun c => some (Obj.cells c _ _)) (c8_congr (fun a ha => by rw [(hl a ha).1]) (fun a ha => by rw [(hl a ha).2]))
theorem IsEd.below {w w' : World} {g : Nat} {e : Ec} (h : IsEd w g e) (hb : Below w.heap.size w w') : IsEd w' g e := (hb.block g (lt_blk h)).trans h
theorem IsRe.below {w w' : World} {g : Nat} {e : Ec} (h : IsRe w g e) (hb : Below w.heap.size w w') : IsRe w' g e := (hb.block g (lt_blk h)).trans h
theorem IsEd.only {S : Nat → Prop} {w w' : World} {g : Nat} {e : Ec} (h : IsEd w g e) (ho : Only S w w') (hn : ¬ S g) : IsEd w' g e := ho.at_ h hn
theorem IsRe.only {S : Nat → Prop} {w w' : World} {g : Nat} {e : Ec} (h : IsRe w g e) (ho : Only S w w') (hn : ¬ S g) : IsRe w' g e := ho.at_ h hn
theorem cell12 {w : World} {g : Nat} {b k : Nat → Int} {h : Nat → Bool} (hg : At12 w g b k h) (i : Nat) : w.cell? ⟨g, i, none⟩ = (c12 b k h)[i]? := by
  simp only [World.cell?, show w.heap[g]? = _ from hg]
  rfl
theorem cell8 {w : World} {g : Nat} {b k : Nat → Int} (hg : At8 w g b k) (i : Nat) : w.cell? ⟨g, i, none⟩ = (c8 b k)[i]? := by
  simp only [World.cell?, show w.heap[g]? = _ from hg]
  rfl
theorem At12.b {w : World} {g : Nat} {b k : Nat → Int} {h : Nat → Bool} (hg : At12 w g b k h) {a : Nat} (ha : a < 4) : w.cell? ⟨g, a, none⟩ = some (.int .i64 (b a)) := (cell12 hg a).trans (c12_b b k h ha)
theorem At12.k {w : World} {g : Nat} {b k : Nat → Int} {h : Nat → Bool} (hg : At12 w g b k h) {a : Nat} (ha : a < 4) : w.cell? ⟨g, 4 + a, none⟩ = some (.int .i64 (k a)) := (cell12 hg (4 + a)).trans (c12_k b k h ha)
theorem At12.h {w : World} {g : Nat} {b k : Nat → Int} {h : Nat → Bool} (hg : At12 w g b k h) {a : Nat} (ha : a < 4) : w.cell? ⟨g, 8 + a, none⟩ = some (.bool (h a)) := (cell12 hg (8 + a)).trans (c12_h b k h ha)
theorem At8.b {w : World} {g : Nat} {b k : Nat → Int} (hg : At8 w g b k) {a : Nat} (ha : a < 4) : w.cell? ⟨g, a, none⟩ = some (.int .i64 (b a)) := (cell8 hg a).trans (c8_b b k ha)
theorem At8.k {w : World} {g : Nat} {b k : Nat → Int} (hg : At8 w g b k) {a : Nat} (ha : a < 4) : w.cell? ⟨g, 4 + a, none⟩ = some (.int .i64 (k a)) := (cell8 hg (4 + a)).trans (c8_k b k ha)

/-! ### is, time, Window -/
def isB (n : Int) : Bool := decide (0 ≤ n) && decide (n < 4)
set_option maxRecDepth 100000 in
set_option maxHeartbeats 4000000 in
theorem isac_any (n : Int) (w : World) : Calls Tryd.prog 18 #[.int .i64 n] w fun e w' => e = .returned (.bool (isB n)) ∧ w = w' := by
  by_cases h1 : 0 ≤ n
  · have H := Shut.mk (show isB n = decide (n < 4) by unfold isB; simp [h1])
    go_enter Tryd.func18, Tryd.ntmps18
    go_wp2
    go_ret
    exact ⟨ret_b H.out, rfl⟩
  · have H := Shut.mk (show isB n = false by unfold isB; simp; omega)
    have h2 : n < 0 := by omega
    go_enter Tryd.func18, Tryd.ntmps18
    go_wp2
    go_ret
    exact ⟨ret_b H.out, rfl⟩
set_option maxRecDepth 100000 in
set_option maxHeartbeats 4000000 in
theorem time_any (g : Nat) (e : Ec) (a : Nat) (w : World) (hg : IsEd w g e) (hR : Rul w) (ha : a < 4) (hc : 1 ≤ e.ct a) (hi : e.ct a ≤ 1024) :
    Calls Tryd.prog 21 #[.pointer (some ⟨g, 0, none⟩), .int .i64 (a : Nat)] w fun r w' => r = .returned (.int .i64 ((timeE e.ct a : Nat) : Int)) ∧ Below w.heap.size w w' := by
  have h1 := hR.wait a ha
  have h2 := At12.k hg ha
  unfold kE at h2
  obtain ⟨x, hx⟩ : ∃ x, x = waitE a := ⟨_, rfl⟩
  obtain ⟨y, hy⟩ : ∃ y, y = e.ct a - 1 := ⟨_, rfl⟩
  have HV := Shut.mk (show ((timeE e.ct a : Nat) : Int) = (x : Int) + (y : Int) by unfold timeE; omega)
  rw [← hx] at h1
  rw [← hy] at h2
  have hx7 : x ≤ 7 := by rw [hx]; exact wait_le a
  have hxi : (x : Int) ≤ 7 := by omega
  have hyi : (y : Int) ≤ 1023 := by omega
  have hai : (a : Int) < 4 := by omega
  rw [HV.out]
  clear hx hy hg hR hc hi hx7
  go_enter Tryd.func21, Tryd.ntmps21
  go_wp2_with (fail)
  go_quiet (fail)
  go_wp2_with (fail)
  go_ret
  exact ⟨rfl, below_drewN (Below.refl _ _) _⟩
set_option maxRecDepth 100000 in
set_option maxHeartbeats 4000000 in
theorem window_in (g : Nat) (e : Ec) (a : Nat) (w : World) (hg : IsEd w g e) (hR : Rul w) (ha : a < 4) (hi : InvE e) :
    Calls Tryd.prog 9 #[.pointer (some ⟨g, 0, none⟩), .int .i64 (a : Nat)] w fun r w' => r = .returned (.int .i64 ((winE e a : Nat) : Int)) ∧ Below w.heap.size w w' := by
  have h1 := hR.first a ha
  have h2 := At12.b hg ha
  unfold bE at h2
  have HI := Shut.mk (isac_any (a : Int) w)
  rw [show isB (a : Int) = true by unfold isB; simp; omega] at HI
  have hw := hi.win a
  have hm := (most_le a).2
  obtain ⟨x, hx⟩ : ∃ x, x = leastE a := ⟨_, rfl⟩
  obtain ⟨y, hy⟩ : ∃ y, y = winE e a - leastE a := ⟨_, rfl⟩
  have HV := Shut.mk (show ((winE e a : Nat) : Int) = (x : Int) + (y : Int) by omega)
  have hxi : (x : Int) ≤ 1023 := by omega
  have hyi : (y : Int) ≤ 1023 := by omega
  rw [← hx] at h1
  rw [← hy] at h2
  have hai : (a : Int) < 4 := by omega
  rw [HV.out]
  clear hx hy hg hR hi hw hm
  go_enter Tryd.func9, Tryd.ntmps9
  go_wp2_with (fail)
  refine HI.out.mono ?_
  rintro r w' ⟨rfl, rfl⟩
  go_wp2_with (fail)
  go_quiet (fail)
  go_wp2_with (fail)
  go_ret
  exact ⟨rfl, below_drewN (Below.refl _ _) _⟩
set_option maxRecDepth 100000 in
set_option maxHeartbeats 4000000 in
theorem window_out (g : Nat) (n : Int) (w : World) (hn : ¬ (0 ≤ n ∧ n < 4)) :
    Calls Tryd.prog 9 #[.pointer (some ⟨g, 0, none⟩), .int .i64 n] w fun r w' => r = .returned (.int .i64 0) ∧ w = w' := by
  have HI := Shut.mk (isac_any n w)
  rw [show isB n = false by unfold isB; simp; omega] at HI
  clear hn
  go_enter Tryd.func9, Tryd.ntmps9
  go_wp2_with (fail)
  refine HI.out.mono ?_
  rintro r w' ⟨rfl, rfl⟩
  go_wp2_with (fail)
  go_ret
  exact ⟨rfl, rfl⟩
/-! ### Left -/
set_option maxRecDepth 100000 in
set_option maxHeartbeats 4000000 in
theorem left_out (g : Nat) (n : Int) (w : World) (hn : ¬ (0 ≤ n ∧ n < 4)) :
    Calls Tryd.prog 15 #[.pointer (some ⟨g, 0, none⟩), .int .i64 n] w fun r w' => r = .returned (.tuple #[.int .i64 0, .bool false]) ∧ w = w' := by
  have HI := Shut.mk (isac_any n w)
  rw [show isB n = false by unfold isB; simp; omega] at HI
  clear hn
  go_enter Tryd.func15, Tryd.ntmps15
  go_wp2_with (fail)
  refine HI.out.mono ?_
  rintro r w' ⟨rfl, rfl⟩
  go_wp2_with (fail)
  go_ret2
  exact ⟨rfl, rfl⟩
set_option maxRecDepth 100000 in
set_option maxHeartbeats 4000000 in
theorem left_in (g : Nat) (e : Ec) (a : Nat) (w : World) (hg : IsEd w g e) (ha : a < 4) :
    Calls Tryd.prog 15 #[.pointer (some ⟨g, 0, none⟩), .int .i64 (a : Nat)] w fun r w' => (∃ n : Int, r = .returned (.tuple #[.int .i64 n, .bool (decide (0 < e.ct a))]) ∧ (0 < e.ct a → n = ((e.ct a - 1 : Nat) : Int)) ∧ (¬ 0 < e.ct a → n = 0)) ∧ w = w' := by
  have h1 := At12.h hg ha
  have h2 := At12.k hg ha
  unfold hE at h1
  unfold kE at h2
  have HI := Shut.mk (isac_any (a : Int) w)
  rw [show isB (a : Int) = true by unfold isB; simp; omega] at HI
  obtain ⟨y, hy⟩ : ∃ y, y = e.ct a - 1 := ⟨_, rfl⟩
  have HY := Shut.mk hy
  rw [← hy] at h2 ⊢
  have hai : (a : Int) < 4 := by omega
  obtain ⟨c, hc⟩ : ∃ c, c = decide (0 < e.ct a) := ⟨_, rfl⟩
  have HC := Shut.mk hc
  rw [← hc] at h1 ⊢
  clear hy hg hc
  cases c with
  | true =>
    go_enter Tryd.func15, Tryd.ntmps15
    go_wp2_with (fail)
    refine HI.out.mono ?_
    rintro r w' ⟨rfl, rfl⟩
    go_wp2_with (fail)
    go_ret2
    exact ⟨⟨_, rfl, fun _ => rfl, fun h => absurd (of_decide_eq_true HC.out.symm) h⟩, rfl⟩
  | false =>
    go_enter Tryd.func15, Tryd.ntmps15
    go_wp2_with (fail)
    refine HI.out.mono ?_
    rintro r w' ⟨rfl, rfl⟩
    go_wp2_with (fail)
    go_ret2
    exact ⟨⟨_, rfl, fun h => absurd h (of_decide_eq_false HC.out.symm), fun _ => rfl⟩, rfl⟩

/-! ### Clone -/
theorem size12 : (Tryd.prog.info? 28).map (·.size) = some 12 := by kernel_rfl
theorem size1b : (Tryd.prog.info? 4).map (·.size) = some 1 := by kernel_rfl
theorem one12 (b k : Nat → Int) (h : Nat → Bool) : (c12 b k h).all (·.oneCell') = true := by unfold c12; simp [Value.oneCell']
set_option maxRecDepth 100000 in
set_option maxHeartbeats 8000000 in
theorem clone_any (g : Nat) (e : Ec) (w : World) (hg : IsEd w g e) :
    Calls Tryd.prog 8 #[.pointer (some ⟨g, 0, none⟩)] w fun r w' => r = .returned (.pointer (some ⟨w.heap.size, 0, none⟩)) ∧ IsEd w' w.heap.size e ∧ Below w.heap.size w w' := by
  obtain ⟨c, hc⟩ : ∃ c, c = c12 (bE e) (kE e) (hE e) := ⟨_, rfl⟩
  have HS := Shut.mk (show c.size = 12 by rw [hc]; rfl)
  have H1 := Shut.mk (show c.all (·.oneCell') = true by rw [hc]; exact one12 _ _ _)
  have HG := Shut.mk (show w.heap[g]? = some (.cells c 28 (0, 0)) by rw [hc]; exact hg)
  have HB := Shut.mk ((Below.refl w.heap.size w).alloc (Nat.le_refl _) (Obj.cells c 28 (0, 0)))
  have HN := Shut.mk (MapKept.heap_alloc w (Obj.cells c 28 (0, 0))).1
  have HZ := Shut.mk (MapKept.heap_alloc w (Obj.cells #[.int .i64 0, .int .i64 0, .int .i64 0, .int .i64 0, .int .i64 0, .int .i64 0, .int .i64 0, .int .i64 0, .bool false, .bool false, .bool false, .bool false] 28 (0, 0))).1
  have HC := Shut.mk hc
  clear hg hc
  go_enter Tryd.func8, Tryd.ntmps8
  go_wp2_with (first
    | (refine wpList_load_row rfl 28 (.tmp 5) rfl g rfl 28 c (0, 0) _ HG.out Tryd.underlying28 rfl (by rw [HS.out]; exact size12) ?_)
    | (refine wpList_store_row rfl 28 (.tmp 3) (.tmp 6) rfl w.heap.size c rfl rfl 28 _ HZ.out (by rw [HS.out]; exact size12) (by rw [HS.out]; rfl) H1.out ?_; rw [World.setRow_alloc_new]))
  go_ret
  exact ⟨rfl, by unfold IsEd At12; rw [← HC.out]; exact HN.out, HB.out⟩
end Go.Proofs.YtndkmgcmegcieaaDoor
