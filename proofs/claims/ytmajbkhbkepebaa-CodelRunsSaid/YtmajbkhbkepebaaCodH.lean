/-
  CONTRACTS of the law's other, same, right, first.
-/
import Derived.Test.YtmajbkhbkepebaaCodE
namespace Go.Proofs.Ytmajbkhbkepebaa
open Go.ChangeShapes Go.WideShapes Go.ChangeAt Go.RowKit Go.Deep
set_option linter.unusedVariables false
set_option linter.unusedSimpArgs false

theorem sizeRc' : (Try.prog.info? 30).map (·.size) = some 5 := by kernel_rfl
/-- a block of items as a row. -/
theorem lit_items {w : World} {g : Nat} {T : TypeId} {fr : Nat × Nat} (l : List It) (hg : w.heap[g]? = some (.cells (l.flatMap itC).toArray T fr)) (hle : l.length ≤ maxLen) : RowS itC 2 it00 w (some ⟨g, 0, none⟩) l.length l := by
  refine ⟨rfl, hle, fun hp => ⟨g, 0, rfl, fun i hi j v hv => ?_⟩⟩
  have hj : j < 2 := (List.getElem?_eq_some_iff.1 hv).1
  have h := block_range hg (i * 2 + j) v (by
    show (l.flatMap itC).toArray.toList[i * 2 + j]? = _
    rw [List.toList_toArray, flat_at (F := itC) (sz := 2) (d := it00) (fun _ => rfl) l i j hi hj]
    exact hv)
  simpa [Nat.add_assoc] using h
def Right (f d t : Int) (l : List It) : Prop := 0 ≤ t ∧ t ≤ 1125899906842624 ∧ 0 ≤ f ∧ f ≤ 1125899906842624 ∧ 0 ≤ d ∧ d ≤ 1125899906842624 ∧ l.length ≤ 40 ∧ ∀ x ∈ l, 0 ≤ x.at_ ∧ x.at_ ≤ t ∧ x.len ≤ 1048576
def OutRight (f d t : Int) (l : List It) (w : World) (e : Ending) (w' : World) : Prop := Below w.heap.size w w' ∧ ∃ r, e = .returned (.bool r) ∧ (r = true → Right f d t l)
theorem OutRight.no {f d t : Int} {l : List It} {w w' : World} (h : Below w.heap.size w w') : OutRight f d t l w (.returned (.bool false)) w' := ⟨h, false, rfl, fun e => by cases e⟩
theorem OutRight.yes {f d t : Int} {l : List It} {w w' : World} (h : Below w.heap.size w w') (hr : Right f d t l) : OutRight f d t l w (.returned (.bool true)) w' := ⟨h, true, rfl, fun _ => hr⟩
theorem Right.items {f d t : Int} {l : List It} (h : Right f d t l) : ∀ x ∈ l, 0 ≤ x.at_ ∧ x.at_ ≤ 4503599627370496 ∧ x.len ≤ 1048576 := fun x hx => by
  obtain ⟨h0, h1, -, -, -, -, -, h2⟩ := h
  obtain ⟨a, b, c⟩ := h2 x hx
  exact ⟨a, by omega, c⟩

set_option maxRecDepth 100000 in
theorem other_any (f d : Int) (n la : Nat) (o : Bool) (w : World) :
    Calls Try.prog 13 #[(Value.agg #[Value.int IntKind.i64 f, Value.int IntKind.i64 d, Value.int IntKind.u32 ((n : Nat) : Int), Value.int IntKind.u32 ((la : Nat) : Int), Value.bool o])] w fun e w' => e = .returned (Value.agg #[Value.int IntKind.i64 f, Value.int IntKind.i64 d, Value.int IntKind.u32 ((n : Nat) : Int), Value.int IntKind.u32 ((la : Nat) : Int), Value.bool o]) ∧ Below w.heap.size w w' := by
  have HA := Shut.mk (two_alloc w (Obj.cells #[Value.int IntKind.i64 f, Value.int IntKind.i64 d, Value.int IntKind.u32 (n : Nat), Value.int IntKind.u32 (la : Nat), Value.bool o] 24 (0, 0)) (Obj.cells #[Value.int IntKind.i64 f, Value.int IntKind.i64 d, Value.int IntKind.u32 (n : Nat), Value.int IntKind.u32 (la : Nat), Value.bool o] 30 (0, 0)))
  go_enter Try.func13, Try.ntmps13
  go_wp2
  exact bodyPost_ret (v := (Value.agg #[Value.int IntKind.i64 f, Value.int IntKind.i64 d, Value.int IntKind.u32 ((n : Nat) : Int), Value.int IntKind.u32 ((la : Nat) : Int), Value.bool o])) (results_cell1 (p := 2) Try.results13 _ _ (w.heap.size + 1) _ _ _ _ rfl HA.out.2.2.1 Try.underlying30 rfl sizeRc') rfl ⟨rfl, HA.out.1⟩

set_option maxRecDepth 100000 in
theorem same_any (f d : Int) (n la : Nat) (o : Bool) (w : World) :
    Calls Try.prog 14 #[(Value.agg #[Value.int IntKind.i64 f, Value.int IntKind.i64 d, Value.int IntKind.u32 ((n : Nat) : Int), Value.int IntKind.u32 ((la : Nat) : Int), Value.bool o]), (Value.agg #[Value.int IntKind.i64 f, Value.int IntKind.i64 d, Value.int IntKind.u32 ((n : Nat) : Int), Value.int IntKind.u32 ((la : Nat) : Int), Value.bool o])] w fun e w' => e = .returned (.bool true) ∧ Below w.heap.size w w' := by
  have HA := Shut.mk (two_alloc w (Obj.cells #[Value.int IntKind.i64 f, Value.int IntKind.i64 d, Value.int IntKind.u32 (n : Nat), Value.int IntKind.u32 (la : Nat), Value.bool o] 24 (0, 0)) (Obj.cells #[Value.int IntKind.i64 f, Value.int IntKind.i64 d, Value.int IntKind.u32 (n : Nat), Value.int IntKind.u32 (la : Nat), Value.bool o] 30 (0, 0)))
  cases o
  · go_enter Try.func14, Try.ntmps14
    go_wp2
    go_ret
    exact ⟨rfl, HA.out.1⟩
  · go_enter Try.func14, Try.ntmps14
    go_wp2
    go_ret
    exact ⟨rfl, HA.out.1⟩

set_option maxRecDepth 100000 in
set_option maxHeartbeats 4000000 in
theorem right_any (f d t : Int) (n la : Nat) (o : Bool) (A : Option Addr) (len cap : Nat) (l : List It) (w0 : World) (hl : RowS itC 2 it00 w0 A len l) :
    Calls Try.prog 10 #[(Value.agg #[Value.int IntKind.i64 f, Value.int IntKind.i64 d, Value.int IntKind.u32 ((n : Nat) : Int), Value.int IntKind.u32 ((la : Nat) : Int), Value.bool o]), .int .i64 t, .slice A len cap] w0 fun e w' => OutRight f d t l w0 e w' := by
  have HL := Shut.mk hl
  have HB : Shut (Below w0.heap.size w0 (w0.alloc (Obj.cells #[Value.int IntKind.i64 f, Value.int IntKind.i64 d, Value.int IntKind.u32 (n : Nat), Value.int IntKind.u32 (la : Nat), Value.bool o] 24 (0, 0)))) := ⟨(Below.refl _ _).alloc (Nat.le_refl _) _⟩
  have hm := hl.le
  have hmi : (len : Int) ≤ maxLen := by exact_mod_cast hm
  clear hl
  by_cases h0 : (t < 0)
  · go_enter Try.func10, Try.ntmps10
    go_wp2
    go_ret
    exact OutRight.no HB.out
  by_cases h1 : (1125899906842624 < t)
  · go_enter Try.func10, Try.ntmps10
    go_wp2
    go_ret
    exact OutRight.no HB.out
  by_cases h2 : (f < 0)
  · go_enter Try.func10, Try.ntmps10
    go_wp2
    go_ret
    exact OutRight.no HB.out
  by_cases h3 : (1125899906842624 < f)
  · go_enter Try.func10, Try.ntmps10
    go_wp2
    go_ret
    exact OutRight.no HB.out
  by_cases h4 : (d < 0)
  · go_enter Try.func10, Try.ntmps10
    go_wp2
    go_ret
    exact OutRight.no HB.out
  by_cases h5 : (1125899906842624 < d)
  · go_enter Try.func10, Try.ntmps10
    go_wp2
    go_ret
    exact OutRight.no HB.out
  by_cases h6 : ((40 : Int) < (len : Int))
  · go_enter Try.func10, Try.ntmps10
    go_wp2
    go_ret
    exact OutRight.no HB.out
  go_enter Try.func10, Try.ntmps10
  go_wp2_with (fail)
  generalize hw : w0.alloc _ = w1 at *
  have HL1 : Shut (RowS itC 2 it00 w1 A len l) := ⟨HL.out.below HB.out⟩
  clear hw
  go_loopw [7] (fun i wr => ∃ k : Nat, i = .int .i64 (k : Nat) ∧ k ≤ len ∧ (∀ j, j < k → 0 ≤ (l.getD j it00).at_ ∧ (l.getD j it00).at_ ≤ t ∧ (l.getD j it00).len ≤ 1048576) ∧ wr = w1) (fun i _ => len - (intOf i).toNat)
  case atStart => exact ⟨0, rfl, Nat.zero_le _, fun j hj => by omega, rfl⟩
  case round =>
    obtain ⟨k, rfl, hk, hj, rfl⟩ := hrel
    have HJ := Shut.mk hj
    clear hj
    rcases Nat.lt_or_eq_of_le hk with h7 | h7
    · obtain ⟨b0, off, rfl, hr⟩ := HL1.out.el k h7
      have hkI : ((k : Nat) : Int) < (len : Int) := by exact_mod_cast h7
      have y : IntKind.i64.wrap ((k : Int) + 1) = ((k + 1 : Nat) : Int) := by rw [IntWalk.i64_in _ ⟨by omega, by omega⟩]; omega
      have HQ : Shut ((l.getD k it00).at_ = (l.getD k it00).at_) := ⟨rfl⟩
      obtain ⟨x, hx⟩ : ∃ x, l.getD k it00 = x := ⟨_, rfl⟩
      rw [hx] at hr
      obtain ⟨xa, xl⟩ := x
      have c0 : wr.cell? ⟨b0, off + k * 2, none⟩ = some (.int .i64 xa) := by simpa using hr 0 _ rfl
      have c1 : wr.cell? ⟨b0, off + k * 2 + 1, none⟩ = some (.int .i64 xl) := by simpa using hr 1 _ rfl
      have HXE := Shut.mk hx
      clear hr hx
      by_cases g0 : xa < 0
      · go_wp2
        go_ret
        exact OutRight.no HB.out
      · by_cases g1 : t < xa
        · go_wp2
          go_ret
          exact OutRight.no HB.out
        · by_cases g2 : 1048576 < xl
          · go_wp2
            go_ret
            exact OutRight.no HB.out
          · go_wp2
            go_roundw
            case rel =>
              refine ⟨k + 1, by simp, h7, fun j hj => ?_, by first | rfl | trivial⟩
              rcases Nat.lt_or_eq_of_le (Nat.le_of_lt_succ hj) with e | e
              · exact HJ.out j e
              · rw [e, HXE.out]
                dsimp only
                omega
            case measure => simp [intOf]; omega
    · subst h7
      go_wp2
      go_ret
      refine OutRight.yes HB.out ⟨by omega, by omega, by omega, by omega, by omega, by omega, by rw [HL.out.len]; omega, fun x hx => ?_⟩
      obtain ⟨j, hj, rfl⟩ := List.mem_iff_getElem.1 hx
      have := HJ.out j (by rw [← HL.out.len]; exact hj)
      rw [List.getD_eq_getElem?_getD, List.getElem?_eq_getElem hj] at this
      exact this

theorem pull_e : pullR ⟨0, clampR 5 0 1073741824, clampR 100 0 1073741824⟩ ⟨0, 0, 0, 0, false⟩ 0 [] = (⟨0, 0, 0, 0, false⟩, 0, false) := rfl
theorem pull_f : pullR ⟨9, clampR 5 0 1073741824, clampR 100 0 1073741824⟩ ⟨0, 0, 0, 0, false⟩ 5000 [⟨0, 100⟩] = (⟨109, 0, 0, 0, false⟩, 0, true) := rfl
set_option maxRecDepth 100000 in
set_option maxHeartbeats 4000000 in
theorem first_any (w : World) : Calls Try.prog 9 #[] w fun e w' => e = .returned (.bool true) ∧ Below w.heap.size w w' := by
  go_enter Try.func9, Try.ntmps9
  go_wp2_with (fail)
  refine (pull_any 0 5 100 0 0 0 0 0 false none 0 0 [] _ RowS.nil (by omega) (by omega) (by omega) (fun x hx => by cases hx) (by omega) (by omega) (by omega) _ pull_e).mono ?_
  rintro e w1 ⟨rfl, hB⟩
  dsimp only
  have HB1 := Shut.mk (((Below.refl w.heap.size w).alloc (Nat.le_refl _) (Obj.cells #[Value.int IntKind.i64 0, Value.int IntKind.i64 0, Value.int IntKind.u32 0, Value.int IntKind.u32 0, Value.bool false] 24 (0, 0))).trans (hB.mono (by simp)))
  have HC := Shut.mk ((hB.block w.heap.size (by simp)).trans (heap_alloc_last w _))
  have H2 := Shut.mk (two_alloc w1 (Obj.cells #[Value.int IntKind.i64 0, Value.int IntKind.i64 0, Value.int IntKind.u32 0, Value.int IntKind.u32 0, Value.bool false] 24 (0, 0)) (Obj.cells #[Value.int IntKind.i64 0, Value.int IntKind.i64 100] 38 (0, 0)))
  have HC2 := Shut.mk ((((Below.refl w1.heap.size w1).alloc (Nat.le_refl _) (Obj.cells #[Value.int IntKind.i64 0, Value.int IntKind.i64 0, Value.int IntKind.u32 0, Value.int IntKind.u32 0, Value.bool false] 24 (0, 0))).block w.heap.size (lt_blk HC.out)).trans HC.out)
  clear hB
  go_wp2_with (first
    | (refine wpList_load_row rfl 24 (.tmp 1) rfl w.heap.size rfl 24 #[Value.int IntKind.i64 0, Value.int IntKind.i64 0, Value.int IntKind.u32 0, Value.int IntKind.u32 0, Value.bool false] (0, 0) _ HC2.out Try.underlying24 rfl size1 ?_))
  have HL : Shut (RowS itC 2 it00 ((w1.alloc (Obj.cells #[Value.int IntKind.i64 0, Value.int IntKind.i64 0, Value.int IntKind.u32 0, Value.int IntKind.u32 0, Value.bool false] 24 (0, 0))).alloc (Obj.cells #[Value.int IntKind.i64 0, Value.int IntKind.i64 100] 38 (0, 0))) (some ⟨w1.heap.size + 1, 0, none⟩) 1 [⟨0, 100⟩]) := ⟨lit_items [⟨0, 100⟩] H2.out.2.2.1 (by simp; unfold maxLen; omega)⟩
  refine (pull_any 9 5 100 5000 0 0 0 0 false _ 1 1 [⟨0, 100⟩] _ HL.out (by omega) (by omega) (by omega) (fun x hx => by simp at hx; subst hx; simp) (by omega) (by omega) (by omega) _ pull_f).mono ?_
  rintro e w2 ⟨rfl, hB⟩
  dsimp only
  have HB2 := Shut.mk ((HB1.out.trans (H2.out.1.mono HB1.out.size)).trans (hB.mono (Nat.le_trans HB1.out.size H2.out.1.size)))
  have HB3 := Shut.mk (HB2.out.alloc HB2.out.size (Obj.cells #[Value.int IntKind.i64 109, Value.int IntKind.i64 0, Value.int IntKind.u32 0, Value.int IntKind.u32 0, Value.bool false] 24 (0, 0)))
  clear hB
  go_wp2
  go_ret
  exact ⟨rfl, HB3.out⟩
end Go.Proofs.Ytmajbkhbkepebaa
