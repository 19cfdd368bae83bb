/-
  THE CONTRACT OF seq.Sort: a new slice, just the numbers of 'sortedBy'; nothing that was there is changed.
-/
import Derived.Test.YtnenjemfplljfaaSeqC
import Derived.Test.YtnenjemfplljfaaOwn
import Derived.Test.YtnenjemfplljfaaSeqMath
import Derived.Test.YtnenjemfplljfaaShelf
namespace Go.Proofs.Ytnenjemfplljfaa
open Go.ChangeShapes Go.WideShapes Go.ChangeAt Go.RowKit Go.Sort
set_option linter.unusedVariables false

theorem Try.infoInt : (Try.prog.info? 3).map (fun i => (i.zero, i.size, i.bytes)) = some (some (.int .i64 0), 1, 8) := by kernel_rfl

/-- the row behind k rounds of the first loop. -/
def Filled (w : World) (g : Nat) (start : Int) (l : List Int) (k : Nat) : Prop :=
  ∃ xs : List Int, Own w 3 g xs ∧ xs.length = l.length ∧ xs.take k = (dists start l).take k
/-- .. of the second. -/
def Back (w : World) (g : Nat) (start : Int) (l : List Int) (k : Nat) : Prop :=
  ∃ xs : List Int, Own w 3 g xs ∧ xs.length = l.length ∧ xs.take k = (sortedBy start l).take k ∧ xs.drop k = ((dists start l).mergeSort leI).drop k

theorem take_set (xs ys : List Int) (k : Nat) (v : Int) (hk : k < xs.length) (hl : xs.length = ys.length) (h : xs.take k = ys.take k) (hv : ys.getD k 0 = v) : (xs.set k v).take (k + 1) = ys.take (k + 1) := by
  rw [take_succ_getD _ k (by simpa using hk), take_succ_getD ys k (by omega), List.take_set_of_le (Nat.le_refl _), h, hv]
  simp [List.getD, hk]

theorem Filled.step {w g start l k} (h : Filled w g start l k) (hk : k < l.length) : Filled (w.setCell ⟨g, k, none⟩ (.int .i64 (rd (l.getD k 0 - start)))) g start l (k + 1) := by
  obtain ⟨xs, ho, hl, ht⟩ := h
  refine ⟨_, ho.set k _, by simpa using hl, take_set xs (dists start l) k _ (by omega) (by rw [length_dists]; exact hl) ht ?_⟩
  unfold dists
  rw [getD_map _ _ _ hk]
theorem Filled.all {w g start l} (h : Filled w g start l l.length) : Own w 3 g (dists start l) := by
  obtain ⟨xs, ho, hl, ht⟩ := h
  rw [List.take_of_length_le (by omega), List.take_of_length_le (by rw [length_dists]; omega)] at ht
  rw [← ht]; exact ho
theorem Back.at {w g start l k} (h : Back w g start l k) (hk : k < l.length) : w.cell? ⟨g, k, none⟩ = some (.int .i64 (((dists start l).mergeSort leI).getD k 0)) := by
  obtain ⟨xs, ho, hl, ht, hd⟩ := h
  rw [ho.cell k (by omega)]
  have e : (xs.drop k)[0]? = (((dists start l).mergeSort leI).drop k)[0]? := by rw [hd]
  simp only [List.getElem?_drop, Nat.add_zero] at e
  simp [List.getD, e]
theorem Back.step {w g start l k} (h : Back w g start l k) (hk : k < l.length) : Back (w.setCell ⟨g, k, none⟩ (.int .i64 (rd (start + ((dists start l).mergeSort leI).getD k 0)))) g start l (k + 1) := by
  obtain ⟨xs, ho, hl, ht, hd⟩ := h
  refine ⟨_, ho.set k _, by simpa using hl, take_set xs (sortedBy start l) k _ (by omega) (by rw [length_sortedBy]; exact hl) ht ?_, ?_⟩
  · unfold sortedBy
    rw [getD_map _ _ _ (by simpa [dists] using hk)]
  · rw [List.drop_set_of_lt (by omega), ← List.drop_drop, hd, List.drop_drop]
theorem Back.all {w g start l} (h : Back w g start l l.length) : Own w 3 g (sortedBy start l) := by
  obtain ⟨xs, ho, hl, ht, _⟩ := h
  rw [List.take_of_length_le (by omega), List.take_of_length_le (by rw [length_sortedBy]; omega)] at ht
  rw [← ht]; exact ho
theorem Filled.frozen {w g start l k} (h : Filled w g start l k) (j : Nat) : w.frozen? ⟨g, j, none⟩ = false := by
  obtain ⟨xs, ho, _⟩ := h; exact ho.frozen j
theorem Back.frozen {w g start l k} (h : Back w g start l k) (j : Nat) : w.frozen? ⟨g, j, none⟩ = false := by
  obtain ⟨xs, ho, _⟩ := h; exact ho.frozen j
theorem Filled.was {w g start l k} (h : Filled w g start l k) (j : Nat) (hj : j < l.length) : ∃ v, w.cell? ⟨g, j, none⟩ = some v := by
  obtain ⟨xs, ho, hl, _⟩ := h; exact ⟨_, ho.cell j (by omega)⟩

theorem getD_take (z : List Int) (n k : Nat) (h : k < n) : (z.take n).getD k 0 = z.getD k 0 := by
  simp [List.getD, h]
/-- the arguments' cells, in whatever later world. -/
theorem row_cells {a : Option Addr} {len cap : Nat} {z : List Int} {w : World} (hrow : IsRow .i64 w a len cap z) (hp : 0 < len) :
    ∃ b off, a = some ⟨b, off, none⟩ ∧ ∀ wr, Below w.heap.size w wr → ∀ k, k < len → wr.cell? ⟨b, off + k, none⟩ = some (.int .i64 ((z.take len).getD k 0)) := by
  obtain ⟨b, off, rfl, h⟩ := hrow.els hp
  refine ⟨b, off, rfl, fun wr hb k hk => ?_⟩
  rw [hb.cell (cell_lt (h k hk).1), (h k hk).1, getD_take _ _ _ hk]

theorem filled_start {w : World} {g len : Nat} {base : Nat} (start : Int) (l : List Int) (hl : l.length = len)
    (h : w.ownsRow base 3 1 (.slice (some ⟨g, 0, none⟩) len len) len (madeCells #[Value.int .i64 0] len).toList) : Filled w g start l 0 := by
  refine ⟨List.replicate len 0, Own.of_row (base := base) (n := len) ?_, by simp [hl], by simp⟩
  have e : (madeCells #[Value.int .i64 0] len).toList = (List.replicate len (0 : Int)).map (Value.int .i64) := by
    rw [toList_madeCells_one]; simp
  rw [← e]; exact h
theorem back_start {w : World} {g : Nat} (start : Int) (l : List Int) (h : Own w 3 g ((dists start l).mergeSort leI)) : Back w g start l 0 :=
  ⟨_, h, by simp [dists], by simp, rfl⟩

theorem sortlib_any (g cap : Nat) (zs : List Int) (len : Nat) (hl : zs.length = len) (w : World) (h : Own w 3 g zs) (hs : len ≤ 1000) :
    Calls Try.prog 14 #[.slice (some ⟨g, 0, none⟩) len cap] w fun e w' =>
      e = .returned (.tuple #[]) ∧ Own w' 3 g (zs.mergeSort leI) ∧ ∀ w0 B, Below B w0 w → B ≤ g → B ≤ w.heap.size → Below B w0 w' := by
  subst hl
  refine (Any.slices_Sort_int Try.lays189 g 0 cap zs w h.holds h.lt (by omega)).mono ?_
  rintro e w' ⟨rfl, n, os, rfl⟩
  exact ⟨rfl, h.sorted _ (by simp) n os, fun w0 B hb hB hB' => below_sorted hb hB h.lt _ n os hB'⟩

set_option maxHeartbeats 2000000 in
theorem sort_any (start : Int) (a : Option Addr) (len cap : Nat) (z : List Int) (w : World) (hrow : IsRow .i64 w a len cap z) (hlen : len ≤ 1000) :
    Calls Try.prog 11 #[.int .i64 start, .slice a len cap] w fun e w' =>
      e = .returned (.slice (some ⟨w.heap.size, 0, none⟩) len len) ∧ Own w' 3 w.heap.size (sortedBy start (z.take len)) ∧ Below w.heap.size w w' := by
  have hlc := hrow.len_cap
  obtain ⟨i0, hi, hz0, hz1, hz2⟩ := info_parts Try.infoInt
  have Hcells := Lib.hid (row_cells hrow)
  clear hrow
  have hll : (z.take len).length = len := by simp; omega
  generalize z.take len = l at *
  have Hll := Lib.hid hll
  clear hll hlc
  go_enter Try.func11, Try.ntmps11
  go_wp2_with (at_make; refine wpList_make_full _ rfl _ _ 26 rfl w.heap.size 3 i0 (.int .i64 0) 1 Try.underlying26 hi hz0 hz1 _ _ _ _ len rfl rfl rfl rfl ?b2 ?b3 (Nat.le_refl _) ?_)
  case b2 => rw [hz2]; omega
  case b3 => unfold maxLen; omega
  intro w0 hown0 hgrow0
  have HF := Lib.hid (filled_start start l Hll.out hown0)
  have HB := Lib.hid ((Below.refl _ _).grown hgrow0 (Nat.le_refl _) (fun k h => by cases h) : Below w.heap.size w w0)
  clear hown0 hgrow0 hi hz0 hz1 hz2
  go_wp2
  go_loopw [15] (fun i wr => ∃ k : Nat, k ≤ len ∧ i = .int .i64 k ∧ Filled wr w.heap.size start l k ∧ Below w.heap.size w wr) (fun i _ => len - (intOf i).toNat)
  case atStart => exact ⟨0, by omega, rfl, HF.out, HB.out⟩
  case round =>
    obtain ⟨k, hk, rfl, hF, hB⟩ := hrel
    by_cases hlt : k < len
    · obtain ⟨b, off, rfl, hc⟩ := Hcells.out (by omega)
      have hc0 := hc _ hB k hlt
      obtain ⟨v, hv⟩ := hF.was k (by rw [Hll.out]; omega)
      have hfz := hF.frozen k
      have HF2 := Lib.hid (hF.step (by rw [Hll.out]; omega))
      have HB2 := Lib.hid (hB.setCell (p := ⟨w.heap.size, k, none⟩) (Nat.le_refl _) (.int .i64 (rd (l.getD k 0 - start))))
      generalize l.getD k 0 = x at *
      clear hc hF hB Hcells HF HB
      go_wp2_with (go_at_call 8; refine (dist_any _ _ _).mono ?_; rintro e w' ⟨rfl, rfl⟩)
      go_roundw
      case rel => exact ⟨k + 1, by omega, by go_num, HF2.out, HB2.out⟩
      case measure => simp [intOf]; omega
    · have hk' : k = len := by omega
      have HF2 := Lib.hid (show Own wr 3 w.heap.size (dists start l) from Filled.all (by rw [Hll.out, ← hk']; exact hF))
      clear hF HF HB
      have HB2 := Lib.hid hB
      clear hB hk'
      go_wp2_with (go_at_call 14; refine (sortlib_any _ _ _ _ ((length_dists start l).trans Hll.out) _ HF2.out hlen).mono ?_; rintro e w1 ⟨rfl, hO, hB⟩)
      have HO := Lib.hid (back_start start l hO)
      have HB3 := Lib.hid (hB w w.heap.size HB2.out (Nat.le_refl _) HB2.out.size)
      clear hO hB HF2 HB2
      go_loopw [31] (fun i wr => ∃ k : Nat, k ≤ len ∧ i = .int .i64 k ∧ Back wr w.heap.size start l k ∧ Below w.heap.size w wr) (fun i _ => len - (intOf i).toNat)
      case atStart => exact ⟨0, by omega, rfl, HO.out, HB3.out⟩
      case round =>
        obtain ⟨k, hk, rfl, hF, hB⟩ := hrel
        by_cases hlt : k < len
        · have hc0 := hF.at (by rw [Hll.out]; exact hlt)
          have hfz := hF.frozen k
          have HF2 := Lib.hid (hF.step (by rw [Hll.out]; exact hlt))
          have HB2 := Lib.hid (hB.setCell (p := ⟨w.heap.size, k, none⟩) (Nat.le_refl _) (.int .i64 (rd (start + ((dists start l).mergeSort leI).getD k 0))))
          generalize ((dists start l).mergeSort leI).getD k 0 = x at *
          clear hF hB HO HB3
          go_wp2_with (go_at_call 9; refine (add_any _ _ _).mono ?_; rintro e w' ⟨rfl, rfl⟩)
          go_roundw
          case rel => exact ⟨k + 1, by omega, by go_num, HF2.out, HB2.out⟩
          case measure => simp [intOf]; omega
        · have hk' : k = len := by omega
          have HF2 := Lib.hid (show Own wr 3 w.heap.size (sortedBy start l) from Back.all (by rw [Hll.out, ← hk']; exact hF))
          have HB2 := Lib.hid hB
          clear hF hB hk' HO HB3
          go_wp2
          go_ret
          exact ⟨rfl, HF2.out, HB2.out⟩
end Go.Proofs.Ytnenjemfplljfaa
