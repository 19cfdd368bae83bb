/-
  CONTRACTS of muezzinref.SameAddr, muezzinref.SameQoS1.
-/
import Derived.Test.YtogcpommidfmnaaDoorFr
import Derived.Test.YtogcpommidfmnaaDoorErr
import Derived.Stop.LaidErr
import Derived.Laws.IdiomStrings
namespace Go.Proofs.YtogcpommidfmnaaDoor
open Go.ChangeShapes Go.WideShapes Go.ChangeAt Go.RowKit
set_option linter.unusedVariables false

theorem A6.len (a : A6) : a.l.length = 6 := rfl
theorem A6.get (a : A6) (i : Nat) (h : i < 6) : a.cells[i]? = some (.int .u8 (a.l.getD i 0)) := by
  match i, h with
  | 0, _ | 1, _ | 2, _ | 3, _ | 4, _ | 5, _ => rfl
theorem cells_new (w : World) (cs : Array Value) (t : TypeId) (i : Nat) : (w.alloc (.cells cs t)).cell? ⟨w.heap.size, i, none⟩ = cs[i]? := World.cell?_alloc_mark w cs t (0, 0) i
theorem A6.at_ (a : A6) (w : World) (t : TypeId) (i : Nat) (h : i < 6) : (w.alloc (.cells a.cells t)).cell? ⟨w.heap.size, i, none⟩ = some (.int .u8 (a.l.getD i 0)) := (cells_new w _ t i).trans (a.get i h)

set_option maxRecDepth 100000 in
set_option maxHeartbeats 4000000 in
theorem sameAddr_any (a c : A6) (w : World) :
    Calls Tryd.prog 32 #[a.val, c.val] w fun e w' => e = .returned (.bool (sameB a.l c.l)) ∧ Below w.heap.size w w' := by
  have HB := Lib.hid (((Below.refl w.heap.size w).alloc (Nat.le_refl _) (.cells a.cells 23)).alloc (by simp) (.cells c.cells 23))
  have H1 := Lib.hid (show ∀ i : Nat, i < 6 → ((w.alloc (.cells a.cells 23)).alloc (.cells c.cells 23)).cell? ⟨w.heap.size, i, none⟩ = some (.int .u8 (a.l.getD i 0)) from
    fun i hi => cell?_alloc_old _ (a.at_ w _ i hi))
  have H2 := Lib.hid (show ∀ i : Nat, i < 6 → ((w.alloc (.cells a.cells 23)).alloc (.cells c.cells 23)).cell? ⟨w.heap.size + 1, i, none⟩ = some (.int .u8 (c.l.getD i 0)) from
    fun i hi => by have := c.at_ (w.alloc (.cells a.cells 23)) 23 i hi; rwa [show (w.alloc (.cells a.cells 23)).heap.size = w.heap.size + 1 by simp] at this)
  go_enter Tryd.func32, Tryd.ntmps32
  go_wp2
  generalize hw : World.alloc (World.alloc w _) _ = w2 at *
  clear hw
  go_loopw [5] (fun i wr => ∃ k n : Nat, k ≤ 6 ∧ i = .int .i64 k ∧ a.l.take k = c.l.take k ∧ wr = w2.drewN n) (fun i _ => 6 - (intOf i).toNat)
  case atStart => exact ⟨0, 0, by omega, rfl, by simp, rfl⟩
  case round =>
    obtain ⟨k, n, hk, rfl, hAB, rfl⟩ := hrel
    have HAB := Lib.hid hAB
    clear hAB
    by_cases hlt : k < 6
    · have c1 := H1.out k hlt
      have c2 := H2.out k hlt
      have hi : (k : Int) < 6 := by omega
      by_cases he : a.l.getD k 0 = c.l.getD k 0
      · have HS := Lib.hid (same_step HAB.out (by rw [a.len]; exact hlt) (by rw [c.len]; exact hlt) he)
        rw [he] at c1
        generalize c.l.getD k 0 = y at *
        clear he
        go_wp2
        go_quiet (fail)
        go_wp2
        go_roundw
        case rel => exact ⟨k + 1, _, by omega, by go_num, HS.out, rfl⟩
        case measure => simp [intOf]; omega
      · have HS := Lib.hid (same_not he)
        have hb' : (a.l.getD k 0 == c.l.getD k 0) = false := by simpa using he
        have hb2 : (a.l.getD k 0 != c.l.getD k 0) = true := by simpa using he
        generalize c.l.getD k 0 = y at *
        generalize a.l.getD k 0 = x at *
        clear he
        go_wp2
        go_quiet (fail)
        go_wp2
        go_ret
        exact ⟨ret_b HS.out, below_drewN (below_drewN HB.out _) _⟩
    · have HS := Lib.hid (same_all HAB.out (by rw [a.len]; omega) (by rw [c.len]; omega))
      go_wp2
      go_ret
      exact ⟨ret_b HS.out, below_drewN HB.out _⟩

/-- are two frames the same? -/
def sameQ (q p : Qf) (xs ys : List Int) : Bool := sameB q.t.l p.t.l && sameB q.b.l p.b.l && sameB q.f.l p.f.l && q.tid == p.tid && q.seq == p.seq && q.r == p.r && q.m == p.m && q.e == p.e && sameB xs ys

set_option maxRecDepth 100000 in
set_option maxHeartbeats 8000000 in
theorem sameQ_any (q p : Qf) (xs ys : List Int) (w : World) (hx : RowB .u8 w q.A q.n xs) (hy : RowB .u8 w p.A p.n ys) :
    Calls Tryd.prog 17 #[q.val, p.val] w fun e w' => e = .returned (.bool (sameQ q p xs ys)) ∧ Below w.heap.size w w' := by
  have HB := Lib.hid (((Below.refl w.heap.size w).alloc (Nat.le_refl _) (.cells q.cells 26)).alloc (by simp) (.cells p.cells 26))
  have HX := Lib.hid hx
  have HY := Lib.hid hy
  have HU := Lib.hid (show sameQ q p xs ys = (sameB q.t.l p.t.l && sameB q.b.l p.b.l && sameB q.f.l p.f.l && q.tid == p.tid && q.seq == p.seq && q.r == p.r && q.m == p.m && q.e == p.e && sameB xs ys) from rfl)
  generalize sameQ q p xs ys = res at HU ⊢
  clear hx hy
  go_enter Tryd.func17, Tryd.ntmps17
  go_wp2_with (fail)
  refine (sameAddr_any q.t p.t _).mono ?_
  rintro e w1 ⟨rfl, hB⟩
  generalize sameB q.t.l p.t.l = s at *
  have HB1 := Lib.hid hB
  obtain ⟨hc, hf⟩ := bcell hB
  have hz : w.heap.size + 1 < w1.heap.size := by have := hB.size; simp at this; omega
  clear hB hf
  simp only [World.size_alloc] at hc
  cases s
  · go_wp2
    go_ret
    exact ⟨ret_b (by rw [HU.out]; simp), HB.out.trans (HB1.out.mono (by simp; omega))⟩
  go_wp2_with (fail)
  refine (sameAddr_any q.b p.b _).mono ?_
  rintro e w2 ⟨rfl, hB⟩
  generalize sameB q.b.l p.b.l = s at *
  have HB2 := Lib.hid (HB1.out.trans (hB.mono HB1.out.size))
  clear hB hc hz
  obtain ⟨hc, hf⟩ := bcell HB2.out
  have hz : w.heap.size + 1 < w2.heap.size := by have := HB2.out.size; simp at this; omega
  clear hf
  simp only [World.size_alloc] at hc
  cases s
  · go_wp2
    go_ret
    exact ⟨ret_b (by rw [HU.out]; simp), HB.out.trans (HB2.out.mono (by simp; omega))⟩
  go_wp2_with (fail)
  refine (sameAddr_any q.f p.f _).mono ?_
  rintro e w3 ⟨rfl, hB⟩
  generalize sameB q.f.l p.f.l = s at *
  have HB3 := Lib.hid (HB2.out.trans (hB.mono HB2.out.size))
  clear hB hc hz
  obtain ⟨hc, hf⟩ := bcell HB3.out
  have hz : w.heap.size + 1 < w3.heap.size := by have := HB3.out.size; simp at this; omega
  clear hf
  simp only [World.size_alloc] at hc
  cases s
  · go_wp2
    go_ret
    exact ⟨ret_b (by rw [HU.out]; simp), HB.out.trans (HB3.out.mono (by simp; omega))⟩
  cases htid : (q.tid == p.tid)
  · have HU2 := Lib.hid (show res = false by rw [HU.out, htid]; simp)
    go_wp2
    go_ret
    exact ⟨ret_b HU2.out, HB.out.trans (HB3.out.mono (by simp; omega))⟩
  cases hseq : (q.seq == p.seq)
  · have HU2 := Lib.hid (show res = false by rw [HU.out, hseq]; simp)
    go_wp2
    go_ret
    exact ⟨ret_b HU2.out, HB.out.trans (HB3.out.mono (by simp; omega))⟩
  cases hr : (q.r == p.r)
  · have HU2 := Lib.hid (show res = false by rw [HU.out, hr]; simp)
    go_wp2
    go_ret
    exact ⟨ret_b HU2.out, HB.out.trans (HB3.out.mono (by simp; omega))⟩
  cases hm : (q.m == p.m)
  · have HU2 := Lib.hid (show res = false by rw [HU.out, hm]; simp)
    go_wp2
    go_ret
    exact ⟨ret_b HU2.out, HB.out.trans (HB3.out.mono (by simp; omega))⟩
  cases he : (q.e == p.e)
  · have HU2 := Lib.hid (show res = false by rw [HU.out, he]; simp)
    go_wp2
    go_ret
    exact ⟨ret_b HU2.out, HB.out.trans (HB3.out.mono (by simp; omega))⟩
  have HU2 := Lib.hid (show res = sameB xs ys by rw [HU.out, htid, hseq, hr, hm, he]; simp)
  have HB4 := Lib.hid (HB.out.trans (HB3.out.mono (by simp; omega)))
  have HX3 := Lib.hid (HX.out.below HB4.out)
  have HY3 := Lib.hid (HY.out.below HB4.out)
  go_wp2_with (fail)
  refine (same_any _ _ _ _ _ _ _ _ _ HX3.out HY3.out).mono ?_
  rintro e w4 ⟨rfl, n, rfl⟩
  generalize sameB xs ys = s at *
  go_wp2
  go_ret
  exact ⟨ret_b HU2.out, below_drewN HB4.out _⟩
end Go.Proofs.YtogcpommidfmnaaDoor
