/-
  MATHS of SchedFair's walk: two rows of numbers of the law's own beside its turns; stations 1 to n, each of its weight, all active.
-/
import Derived.Test.YtkmblmnffnhpmaaDoorSchedV
import Derived.OwnWalk
namespace Go.Proofs.YtkmblmnffnhpmaaDoor
open Go.ChangeShapes Go.WideShapes Go.ChangeAt Go.RowKit Go.Deep
set_option linter.unusedVariables false
set_option linter.unusedSimpArgs false

theorem int64_info : (Tryd.prog.info? 2).map (fun i => (i.zero, i.size, i.bytes)) = some (some (.int .i64 0), 1, 8) := by kernel_rfl
/-! ### a row by a function -/
def rowF (n : Nat) (f : Nat → Int) : Array Value := ((List.range n).map fun k => Value.int .i64 (f k)).toArray
theorem rowF_size (n : Nat) (f : Nat → Int) : (rowF n f).size = n := by simp [rowF]
theorem rowF_set (n : Nat) (f : Nat → Int) {a : Nat} (ha : a < n) (v : Int) : (rowF n f).setIfInBounds a (.int .i64 v) = rowF n (upX f a v) := by
  unfold rowF
  rw [List.setIfInBounds_toArray]
  congr 1
  refine List.ext_getElem (by simp) fun j h1 h2 => ?_
  have hj : j < n := by simpa using h2
  rw [List.getElem_set]
  split
  · rename_i e; subst e; simp [upX]
  · rename_i e; simp only [List.getElem_map, List.getElem_range, upX]; rw [if_neg (fun h => e h.symm)]
theorem rowF_cell {w : World} {g n : Nat} {f : Nat → Int} {t : TypeId} (h : w.heap[g]? = some (.cells (rowF n f) t (0, 0))) (i : Nat) (hi : i < n) : w.cell? ⟨g, i, none⟩ = some (.int .i64 (f i)) := by
  have e := (block_range h) i (.int .i64 (f i)) (by simp [rowF, hi])
  simpa using e
theorem made_rowF {w : World} {B g n : Nat} (h : w.ownsRow B 2 1 (.slice (some ⟨g, 0, none⟩) n n) n (madeCells (Value.int .i64 0).cells (n * 1)).toList) : w.heap[g]? = some (.cells (rowF n (fun _ => 0)) 2 (0, 0)) := by
  rcases h.2 with ⟨h0, -⟩ | ⟨g', cap, cur, hv, hb, hg, hc, hm, hs, ht⟩
  · cases h0
  · simp only [Value.slice.injEq, Option.some.injEq, Addr.mk.injEq, and_true, true_and] at hv
    obtain ⟨rfl, rfl⟩ := hv
    have e : cur = rowF n (fun _ => 0) := by
      apply Array.ext'
      rw [List.take_of_length_le (by rw [Array.length_toList, hs]; exact Nat.le_refl _)] at ht
      rw [ht]
      unfold rowF
      rw [List.map_const', List.length_range, Nat.mul_one]
      exact toList_madeCells_one _ _
    rw [← e]; exact hg
/-- by number from 1, by place from 0. -/
def shF (f : Nat → Nat) (k : Nat) : Int := if k = 0 then 0 else ((f (k - 1) : Nat) : Int)
theorem shF_at (f : Nat → Nat) (i : Nat) : shF f (i + 1) = ((f i : Nat) : Int) := by unfold shF; rw [if_neg (by omega), Nat.add_sub_cancel]
theorem shF_0 : shF (fun _ => 0) = fun _ => 0 := by funext k; unfold shF; split <;> rfl
theorem shF_up (f : Nat → Nat) (o v : Nat) : upX (shF f) (o + 1) ((f o + v : Nat) : Int) = shF (addAt f o v) := by
  funext k
  unfold upX shF addAt
  by_cases h : k = o + 1
  · subst h
    rw [if_pos rfl, if_neg (by omega), if_pos (by omega), Nat.add_sub_cancel]
  · rw [if_neg h]
    by_cases h0 : k = 0
    · rw [if_pos h0, if_pos h0]
    · rw [if_neg h0, if_neg h0, if_neg (by omega)]
def cutF (f : Nat → Nat) (i : Nat) (k : Nat) : Nat := if k < i then f k else 0
theorem cutF_up (f : Nat → Nat) (i : Nat) : upX (shF (cutF f i)) (i + 1) ((f i : Nat) : Int) = shF (cutF f (i + 1)) := by
  funext k
  unfold upX shF cutF
  by_cases h : k = i + 1
  · subst h
    rw [if_pos rfl, if_neg (by omega), if_pos (by omega), Nat.add_sub_cancel]
  · rw [if_neg h]
    by_cases h0 : k = 0
    · rw [if_pos h0, if_pos h0]
    · rw [if_neg h0, if_neg h0]
      by_cases h1 : k - 1 < i
      · rw [if_pos h1, if_pos (by omega)]
      · rw [if_neg h1, if_neg (by omega)]
theorem cutF_0 (f : Nat → Nat) : cutF f 0 = fun _ => 0 := by funext k; unfold cutF; rw [if_neg (by omega)]
theorem cutF_at (f : Nat → Nat) {i k : Nat} (h : k < i) : cutF f i k = f k := by unfold cutF; rw [if_pos h]
/-! ### stations 1 to k, all active -/
def mkW (w T : Nat → Nat) (k : Nat) : List Tu := (List.range k).map fun i => ⟨i + 1, w i, T i, true⟩
section
variable (w T : Nat → Nat)
theorem mkw_len (k : Nat) : (mkW w T k).length = k := by unfold mkW; simp
theorem mkw_at {k i : Nat} (h : i < k) : (mkW w T k).getD i tu0 = ⟨i + 1, w i, T i, true⟩ := by unfold mkW; simp [List.getD, h]
theorem mkw_el {k j : Nat} (h : j < (mkW w T k).length) : (mkW w T k)[j] = ⟨j + 1, w j, T j, true⟩ := by
  have h2 : j < k := by rw [mkw_len] at h; exact h
  have e := mkw_at w T h2
  have e2 : (mkW w T k).getD j tu0 = (mkW w T k)[j] := by simp [List.getD, h]
  rw [← e2, e]
theorem mkw_next (k : Nat) : mkW w T (k + 1) = mkW w T k ++ [⟨k + 1, w k, T k, true⟩] := by unfold mkW; rw [List.range_succ, List.map_append]; rfl
theorem mkw_fi {k i : Nat} (h : i < k) : fiT (mkW w T k) ((i + 1 : Nat) : Int) = i :=
  fiT_is (by rw [mkw_len]; exact h) (by rw [mkw_at w T h]) fun j hj => by rw [mkw_at w T (by omega)]; show ¬ ((j + 1 : Nat) : Int) = ((i + 1 : Nat) : Int); omega
theorem mkw_has {k i : Nat} (h : i < k) : hasT (mkW w T k) ((i + 1 : Nat) : Int) = true := by unfold hasT; rw [mkw_fi w T h, mkw_len]; simpa using h
theorem mkw_not (k : Nat) {a : Int} (h : ∀ i, i < k → ¬ ((i + 1 : Nat) : Int) = a) : hasT (mkW w T k) a = false :=
  fiT_none fun i hi => by
    rw [mkw_len] at hi
    rw [mkw_at w T hi]
    exact h i hi
theorem mkw_add {k : Nat} (hk : k < 16) (hw : 1 ≤ w k ∧ w k ≤ 100) : addT (mkW w T k) ((k + 1 : Nat) : Int) ((w k : Nat) : Int) = (mkW w T k ++ [⟨k + 1, w k, 0, false⟩], 0) := by
  unfold addT
  rw [if_pos ⟨by unfold aidT; simp; omega, by unfold wtT; simp; omega⟩, mkw_not w T k (fun i hi => by omega), if_neg (by simp), Int.toNat_natCast, Int.toNat_natCast]
theorem mkw_sfi (k : Nat) : fiT (mkW w T k ++ [⟨k + 1, w k, 0, false⟩]) ((k + 1 : Nat) : Int) = k := by
  have hl : (mkW w T k ++ [(⟨k + 1, w k, 0, false⟩ : Tu)]).length = k + 1 := by rw [List.length_append, mkw_len]; rfl
  refine fiT_is (by rw [hl]; omega) ?_ fun j hj => ?_
  · simp [List.getD, List.getElem?_append_right (show (mkW w T k).length ≤ k by rw [mkw_len]; exact Nat.le_refl _), mkw_len]
  · have e : (mkW w T k ++ [(⟨k + 1, w k, 0, false⟩ : Tu)]).getD j tu0 = (mkW w T k).getD j tu0 := by
      simp [List.getD, List.getElem?_append_left (show j < (mkW w T k).length by rw [mkw_len]; exact hj)]
    rw [e, mkw_at w T hj]
    show ¬ ((j + 1 : Nat) : Int) = ((k + 1 : Nat) : Int)
    omega
theorem mkw_act (k : Nat) : actT (mkW w (fun _ => 0) k ++ [⟨k + 1, w k, 0, false⟩]) ((k + 1 : Nat) : Int) true = (mkW w (fun _ => 0) (k + 1), 0) := by
  have hf := mkw_sfi w (fun _ => 0) k
  have hl : (mkW w (fun _ => 0) k ++ [(⟨k + 1, w k, 0, false⟩ : Tu)]).length = k + 1 := by rw [List.length_append, mkw_len]; rfl
  have hh : hasT (mkW w (fun _ => 0) k ++ [(⟨k + 1, w k, 0, false⟩ : Tu)]) ((k + 1 : Nat) : Int) = true := by unfold hasT; rw [hf, hl]; simp
  have hg : (mkW w (fun _ => 0) k ++ [(⟨k + 1, w k, 0, false⟩ : Tu)]).getD k tu0 = ⟨k + 1, w k, 0, false⟩ := by
    simp [List.getD, List.getElem?_append_right (show (mkW w (fun _ => 0) k).length ≤ k by rw [mkw_len]; exact Nat.le_refl _), mkw_len]
  have ha : actOf (mkW w (fun _ => 0) k ++ [(⟨k + 1, w k, 0, false⟩ : Tu)]) ⟨k + 1, w k, 0, false⟩ true = ⟨k + 1, w k, 0, true⟩ := by
    unfold actOf
    rw [if_pos ⟨rfl, rfl⟩]
    split
    · rfl
    · rename_i y r e
      have hy := order_mem e
      have h0 : y.tm = 0 := by
        rcases List.mem_append.1 hy with h | h
        · unfold mkW at h
          obtain ⟨i, -, rfl⟩ := List.mem_map.1 h
          rfl
        · rw [List.mem_singleton.1 h]
      show (⟨k + 1, w k, max 0 y.tm, true⟩ : Tu) = _
      rw [h0]
      rfl
  unfold actT
  rw [if_pos hh, hf, hg, ha, mkw_next]
  congr 1
  rw [List.set_append_right _ _ (by rw [mkw_len]; exact Nat.le_refl _), mkw_len, Nat.sub_self]
  rfl
theorem mkw_ch {k i n : Nat} (hi : i < k) (hn : n ≤ 1099511627776) (hT : T i + 10000 * n / w i ≤ 1152921504606846976) : chT (mkW w T k) ((i + 1 : Nat) : Int) (n : Int) = (mkW w (addAt T i (10000 * n / w i)) k, 0) := by
  unfold chT
  rw [if_pos (mkw_has w T hi), if_pos (by unfold airT; simp; omega), mkw_fi w T hi, mkw_at w T hi, Int.toNat_natCast]
  congr 1
  have e : tmT ⟨i + 1, w i, T i, true⟩ n = T i + 10000 * n / w i := by unfold tmT; exact Nat.min_eq_left hT
  rw [e]
  refine List.ext_getElem (by rw [List.length_set, mkw_len, mkw_len]) fun j h1 h2 => ?_
  rw [mkw_len] at h2
  rw [List.getElem_set]
  by_cases hj : i = j
  · subst hj
    rw [if_pos rfl, mkw_el, addAt_same]
  · rw [if_neg hj, mkw_el, mkw_el, addAt_ne (fun e => hj e.symm)]
theorem mkw_ok {k : Nat} {t : Tu} (h : t ∈ mkW w T k) : ∃ i, i < k ∧ t = ⟨i + 1, w i, T i, true⟩ := by
  unfold mkW at h
  obtain ⟨i, hi, rfl⟩ := List.mem_map.1 h
  exact ⟨i, List.mem_range.1 hi, rfl⟩
theorem mkw_in {k i : Nat} (h : i < k) : (⟨i + 1, w i, T i, true⟩ : Tu) ∈ mkW w T k := List.mem_map.2 ⟨i, List.mem_range.2 h, rfl⟩
theorem mkw_ordlen (k : Nat) : (ordI (mkW w T k)).length = k := by
  rw [ordI_len, ordN_len]
  have e : (mkW w T k).filter (fun t => t.on) = mkW w T k := List.filter_eq_self.2 fun t ht => by obtain ⟨i, -, rfl⟩ := mkw_ok w T ht; rfl
  rw [e, mkw_len]
/-- whose turn it is: one of the least time. -/
theorem mkw_head {k : Nat} (hk : 0 < k) : ∃ o, o < k ∧ (ordI (mkW w T k)).getD 0 0 = ((o + 1 : Nat) : Int) ∧ ∀ j, j < k → T o ≤ T j := by
  have hl : 0 < (ordN (mkW w T k)).length := by rw [← ordI_len, mkw_ordlen]; exact hk
  have h0 := ordN_at (l := mkW w T k) hl
  obtain ⟨o, ho, e⟩ := mkw_ok w T h0.1
  refine ⟨o, ho, by rw [ordI_at hl, e], fun j hj => ?_⟩
  have hs := ordN_sorted (mkW w T k)
  have hm : (⟨j + 1, w j, T j, true⟩ : Tu) ∈ ordN (mkW w T k) := ordN_mem.2 ⟨mkw_in w T hj, rfl⟩
  cases hx : ordN (mkW w T k) with
  | nil => rw [hx] at hm; cases hm
  | cons u r =>
    rw [hx] at hs hm e
    rw [List.pairwise_cons] at hs
    have eu : u = ⟨o + 1, w o, T o, true⟩ := e
    rcases List.mem_cons.1 hm with h | h
    · have h2 := congrArg Tu.tm (h.trans eu)
      have h3 : T j = T o := h2
      omega
    · have h1 := hs.1 _ h
      rw [eu] at h1
      unfold leT at h1
      simp only at h1
      omega
end
/-! ### the law's turns beside its rows -/
structure FairW (w0 w : World) (g gw gg n : Nat) (W G : Nat → Int) (l : List Tu) : Prop where
  out : ∃ S, LawS w0 w S g l ∧ ∀ k, S k → k ≠ gw ∧ k ≠ gg
  atW : w.heap[gw]? = some (.cells (rowF n W) 2 (0, 0))
  atG : w.heap[gg]? = some (.cells (rowF n G) 2 (0, 0))
  ne : gw ≠ gg
  new : w0.heap.size ≤ gw ∧ w0.heap.size ≤ gg
section
variable {w0 w w' : World} {g gw gg n : Nat} {W G : Nat → Int} {l l' : List Tu} {E : Nat → Addr} {T : List Nat}
theorem FairW.bel (x : FairW w0 w g gw gg n W G l) : Below w0.heap.size w0 w := by obtain ⟨S, h, -⟩ := x.out; exact h.bel
theorem FairW.quiet (x : FairW w0 w g gw gg n W G l) (hb : Below w.heap.size w w') : FairW w0 w' g gw gg n W G l := by
  obtain ⟨S, h, h2⟩ := x.out
  exact ⟨⟨S, h.quiet hb, h2⟩, (hb.block gw (lt_blk x.atW)).trans x.atW, (hb.block gg (lt_blk x.atG)).trans x.atG, x.ne, x.new⟩
theorem FairW.of {S : Nat → Prop} (x : FairW w0 w g gw gg n W G l) (h2 : ∀ k, S k → k ≠ gw ∧ k ≠ gg) (h : StepS w0 w S w' g l') : FairW w0 w' g gw gg n W G l' := by
  obtain ⟨S', h3, h4, h5⟩ := h.out
  have hw := lt_blk x.atW
  have hg := lt_blk x.atG
  refine ⟨⟨S', h3, fun k hk => ?_⟩, h4.at_ x.atW fun e => (h2 gw e).1 rfl, h4.at_ x.atG fun e => (h2 gg e).2 rfl, x.ne, x.new⟩
  rcases h5 k hk with e | e
  · exact h2 k e
  · exact ⟨by omega, by omega⟩
theorem FairW.putW (x : FairW w0 w g gw gg n W G l) {a : Nat} (v : Int) : FairW w0 (w.setRow gw (rowF n (upX W a v))) g gw gg n (upX W a v) G l := by
  obtain ⟨S, h, h2⟩ := x.out
  exact ⟨⟨S, h.only (only_setRow w gw _) (fun k hk e => (h2 k hk).1 e) (fun k e => by have e : k = gw := e; rw [e]; exact x.new.1), h2⟩, setRow_heap w gw _ _ _ (0, 0) x.atW, (setRow_other w gw gg _ (fun e => x.ne e.symm)).trans x.atG, x.ne, x.new⟩
theorem FairW.putG (x : FairW w0 w g gw gg n W G l) {a : Nat} (v : Int) : FairW w0 (w.setRow gg (rowF n (upX G a v))) g gw gg n W (upX G a v) l := by
  obtain ⟨S, h, h2⟩ := x.out
  exact ⟨⟨S, h.only (only_setRow w gg _) (fun k hk e => (h2 k hk).2 e) (fun k e => by have e : k = gg := e; rw [e]; exact x.new.2), h2⟩, (setRow_other w gg gw _ x.ne).trans x.atW, setRow_heap w gg _ _ _ (0, 0) x.atG, x.ne, x.new⟩
theorem FairW.cw (x : FairW w0 w g gw gg n W G l) {i : Nat} (hi : i < n) : w.cell? ⟨gw, i, none⟩ = some (.int .i64 (W i)) := rowF_cell x.atW i hi
theorem FairW.cg (x : FairW w0 w g gw gg n W G l) {i : Nat} (hi : i < n) : w.cell? ⟨gg, i, none⟩ = some (.int .i64 (G i)) := rowF_cell x.atG i hi
theorem add_f (x : FairW w0 w g gw gg n W G l) (hl : l.length ≤ 800) (hS : Sent w0 E T) (h1 : 103 ∈ T) (h2 : 108 ∈ T) (a m : Int) : Calls Tryd.prog 13 #[.pointer (some ⟨g, 0, none⟩), .int .i64 a, .int .i64 m] w fun r w' => r = .returned (errV E (addT l a m).2) ∧ FairW w0 w' g gw gg n W G (addT l a m).1 := by
  obtain ⟨S, h, h3⟩ := x.out
  exact (add_l h hl hS h1 h2 a m).mono fun _ _ ⟨e1, e2⟩ => ⟨e1, x.of h3 e2⟩
theorem active_f (x : FairW w0 w g gw gg n W G l) (hS : Sent w0 E T) (h1 : 107 ∈ T) (a : Int) (on : Bool) : Calls Tryd.prog 19 #[.pointer (some ⟨g, 0, none⟩), .int .i64 a, .bool on] w fun r w' => r = .returned (errV E (actT l a on).2) ∧ FairW w0 w' g gw gg n W G (actT l a on).1 := by
  obtain ⟨S, h, h3⟩ := x.out
  exact (active_l h hS h1 a on).mono fun _ _ ⟨e1, e2⟩ => ⟨e1, x.of h3 e2⟩
theorem charge_f (x : FairW w0 w g gw gg n W G l) (hS : Sent w0 E T) (h1 : 103 ∈ T) (h2 : 107 ∈ T) (a m : Int) : Calls Tryd.prog 21 #[.pointer (some ⟨g, 0, none⟩), .int .i64 a, .int .i64 m] w fun r w' => r = .returned (errV E (chT l a m).2) ∧ FairW w0 w' g gw gg n W G (chT l a m).1 := by
  obtain ⟨S, h, h3⟩ := x.out
  exact (charge_l h hS h1 h2 a m).mono fun _ _ ⟨e1, e2⟩ => ⟨e1, x.of h3 e2⟩
/-- the row that Order answers lies apart from all. -/
theorem order_f (x : FairW w0 w g gw gg n W G l) : Calls Tryd.prog 11 #[.pointer (some ⟨g, 0, none⟩)] w fun r w' => ∃ A c S, r = .returned (.slice A (ordI l).length c) ∧ RowB .i64 w' A (ordI l).length (ordI l) ∧ FairW w0 w' g gw gg n W G l ∧ LawS w0 w' S g l ∧ (∀ k, S k → k ≠ gw ∧ k ≠ gg) ∧ ∀ p, A = some p → ¬ S p.block ∧ p.block ≠ gg := by
  obtain ⟨S, h, h3⟩ := x.out
  have hg := lt_blk x.atG
  refine (order_q h).mono ?_
  rintro r w' ⟨A, c, rfl, hr, hp, hl, hb⟩
  refine ⟨A, c, S, rfl, hr, x.quiet hb, hl, h3, fun p e => ⟨fun hk => ?_, ?_⟩⟩
  · have := h.there _ hk; have := (hp p e).1; omega
  · have := (hp p e).1; omega
end
end Go.Proofs.YtkmblmnffnhpmaaDoor
