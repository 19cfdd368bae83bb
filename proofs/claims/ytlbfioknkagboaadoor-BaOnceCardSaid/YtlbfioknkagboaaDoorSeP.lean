/-
  EACH FRAME COMES OUT ONCE: what a law counts; contract of BaOnce's function (BaOnce$1).
-/
import Derived.Test.YtlbfioknkagboaaDoorOpenO
import Derived.LoopTactic
import Derived.MakeChecks
namespace Go.Proofs.YtlbfioknkagboaaDoor
open Go.ChangeShapes Go.WideShapes Go.ChangeAt Go.RowKit Go.Deep
set_option linter.unusedVariables false
set_option linter.unusedSimpArgs false

theorem bool_info : (Tryd.prog.info? 4).map (fun i => (i.zero, i.size, i.bytes)) = some (some (.bool false), 1, 1) := by kernel_rfl
theorem size1b : (Tryd.prog.info? 4).map (·.size) = some 1 := by kernel_rfl
/-- bools in a row of cells. -/
def rowT (l : List Bool) : Array Value := (l.map Value.bool).toArray
theorem rowT_size (l : List Bool) : (rowT l).size = l.length := by simp [rowT]
theorem rowT_set (l : List Bool) (i : Nat) (v : Bool) : (rowT l).setIfInBounds i (.bool v) = rowT (l.set i v) := by
  unfold rowT
  rw [List.setIfInBounds_toArray, List.map_set]
theorem rowT_cell {w : World} {g : Nat} {l : List Bool} {t : TypeId} (h : w.heap[g]? = some (.cells (rowT l) t (0, 0))) (i : Nat) (hi : i < l.length) : w.cell? ⟨g, i, none⟩ = some (.bool (l.getD i false)) := by
  have e := (block_range h) i (.bool (l.getD i false)) (by simp [rowT, List.getD, hi])
  simpa using e
theorem made_rowT {w : World} {B g n : Nat} (h : w.ownsRow B 4 1 (.slice (some ⟨g, 0, none⟩) n n) n (madeCells (Value.bool false).cells (n * 1)).toList) : w.heap[g]? = some (.cells (rowT (List.replicate n false)) 4 (0, 0)) := by
  rcases h.2 with ⟨h0, -⟩ | ⟨g', cap, cur, hv, hb, hg, hc, hm, hs, ht⟩
  · cases h0
  · simp only [Value.slice.injEq, Option.some.injEq, Addr.mk.injEq, and_true, true_and] at hv
    obtain ⟨rfl, rfl⟩ := hv
    have e : cur = rowT (List.replicate n false) := by
      apply Array.ext'
      rw [List.take_of_length_le (by rw [Array.length_toList, hs]; exact Nat.le_refl _)] at ht
      rw [ht]
      unfold rowT
      rw [List.map_replicate, Nat.mul_one]
      exact toList_madeCells_one _ _
    rw [← e]; exact hg

def goneT (S : List Bool) : Nat → Bool := fun j => S.getD j false
theorem goneT_set {S : List Bool} {q : Nat} (h : q < S.length) : goneT (S.set q true) = fun j => goneT S j || j == q := by
  funext j
  unfold goneT
  by_cases e : j = q
  · subst e
    simp [List.getD, h]
  · have e1 : (S.set q true).getD j false = S.getD j false := by simp only [List.getD, List.getElem?_set_ne (fun e2 => e e2.symm)]
    rw [e1]
    simp [e]
/-- those that are not among the first ones told. -/
def restL (l T : List Fm) (k : Nat) : List Fm := l.filter fun f => decide (f.1.seq ∉ nums (T.take k))
theorem rest_zero (l T : List Fm) : restL l T 0 = l := by
  unfold restL
  rw [List.filter_eq_self]
  intro f hf
  simp [nums]
theorem rest_succ {l T : List Fm} {k : Nat} (h : k < T.length) : restL l T (k + 1) = (restL l T k).filter fun g => g.1.seq != (T.getD k fm0).1.seq := by
  unfold restL
  rw [List.filter_filter, take_fm h]
  refine List.filter_congr fun f _ => ?_
  unfold nums
  rw [List.map_append]
  rw [Bool.eq_iff_iff]
  simp [and_comm]
theorem rest_mem {l T : List Fm} {k : Nat} (h : k < T.length) (hn : (nums T).Nodup) (hs : ∀ f ∈ T, f ∈ l) : T.getD k fm0 ∈ restL l T k := by
  unfold restL
  rw [List.mem_filter]
  refine ⟨hs _ (mem_fm h), ?_⟩
  rw [decide_eq_true_iff]
  intro hm
  have e : T = T.take k ++ T.getD k fm0 :: T.drop (k + 1) := by rw [← drop_fm h, List.take_append_drop]
  have h2 : (nums (T.take k ++ T.getD k fm0 :: T.drop (k + 1))).Nodup := by rw [← e]; exact hn
  unfold nums at h2 hm
  rw [List.map_append, List.nodup_append] at h2
  exact h2.2.2 _ hm _ (by rw [List.map_cons]; exact List.mem_cons_self) rfl
theorem rest_end {l : List Fm} {P : Fm → Bool} (hn : (nums l).Nodup) : restL l (l.filter P) (l.filter P).length = l.filter fun f => !P f := by
  unfold restL
  rw [List.take_length]
  refine List.filter_congr fun f hf => ?_
  cases h : P f with
  | true =>
    rw [decide_eq_false]
    · rfl
    · intro h2
      exact h2 (mem_nums (List.mem_filter.2 ⟨hf, h⟩))
  | false =>
    rw [decide_eq_true]
    · rfl
    · intro h2
      obtain ⟨g, hg, e⟩ := List.mem_map.1 h2
      have hg2 := List.mem_filter.1 hg
      have := one_at hn hg2.1 hf e
      subst this
      rw [h] at hg2
      cases hg2.2
theorem rest_nodup {l T : List Fm} {k : Nat} (h : (nums l).Nodup) : (nums (restL l T k)).Nodup := nodup_filter h

/-! ### the function -/
structure EndF (w : World) (cn cg co gb N n over : Nat) (S : List Bool) : Prop where
  bn : w.heap[cn]? = some (.cells #[.int .i64 ((n : Nat) : Int)] 3 (0, 0))
  bg : w.heap[cg]? = some (.cells #[.slice (some ⟨gb, 0, none⟩) N N] 33 (0, 0))
  bb : w.heap[gb]? = some (.cells (rowT S) 4 (0, 0))
  bo : w.heap[co]? = some (.cells #[.int .i64 ((over : Nat) : Int)] 3 (0, 0))
  len : S.length = N
  ne : (cn ≠ gb ∧ cg ≠ gb ∧ co ≠ gb) ∧ cn ≠ co ∧ cg ≠ co ∧ cn ≠ cg
theorem EndF.only {w w' : World} {cn cg co gb N n over : Nat} {S : List Bool} {Q : Nat → Prop} (h : EndF w cn cg co gb N n over S) (ho : Only Q w w') (h1 : ¬ Q cn) (h2 : ¬ Q cg) (h3 : ¬ Q co) (h4 : ¬ Q gb) : EndF w' cn cg co gb N n over S :=
  ⟨ho.at_ h.bn h1, ho.at_ h.bg h2, ho.at_ h.bb h4, ho.at_ h.bo h3, h.len, h.ne⟩
theorem EndF.below {w w' : World} {cn cg co gb N n over : Nat} {S : List Bool} (h : EndF w cn cg co gb N n over S) (hb : Below w.heap.size w w') : EndF w' cn cg co gb N n over S := h.only (Q := fun _ => False) (Only.of_quiet hb) (fun e => e) (fun e => e) (fun e => e) (fun e => e)
set_option maxRecDepth 100000 in
set_option maxHeartbeats 8000000 in
theorem end_any (w : World) (cn cg co gb N n over most : Nat) (S : List Bool) (A : Option Addr) (nm c : Nat) (l : List Fm) (P : Fm → Bool) (hrow : RowS mpC 8 mp0 w A nm (toldM P l)) (hF : EndF w cn cg co gb N n over S) (hA : 0 < nm → ∀ a, A = some a → a.block ≠ gb ∧ a.block ≠ co) (hnN : n < N) (hN : N ≤ 1000) (hmost : most ≤ 1000)
    (hI : OnceI l n (goneT S) over most) (hnd : (nums l).Nodup) :
    Calls Tryd.prog 14 #[.slice A nm c, .int .i64 ((most : Nat) : Int), .pointer (some ⟨cn, 0, none⟩), .pointer (some ⟨cg, 0, none⟩), .pointer (some ⟨co, 0, none⟩)] w fun e w' => e = .returned (.bool true) ∧ ∃ S' over', EndF w' cn cg co gb N n over' S' ∧ OnceI (l.filter fun f => !P f) n (goneT S') over' most ∧ Only (fun k => k = gb ∨ k = co) w w' := by
  have HR := Shut.mk hrow
  have HF := Shut.mk hF
  have HA := Shut.mk hA
  have HI := Shut.mk hI
  have HND := Shut.mk hnd
  have HL := Shut.mk (show nm = (l.filter P).length by have := hrow.len; unfold toldM at this; rw [List.length_map] at this; exact this.symm)
  have hle := hrow.le
  unfold maxLen at hle
  clear hrow hF hA hI hnd
  go_enter Tryd.func14, Tryd.ntmps14
  go_wp2_with (fail)
  go_loopw [8] (fun i wr => ∃ (k : Nat) (S2 : List Bool) (ov : Nat), k ≤ nm ∧ i = .int .i64 k ∧ EndF wr cn cg co gb N n ov S2 ∧ OnceI (restL l (l.filter P) k) n (goneT S2) ov most ∧ Only (fun k => k = gb ∨ k = co) w wr) (fun i _ => nm - (intOf i).toNat)
  case atStart => exact ⟨0, S, over, by omega, rfl, HF.out, by rw [rest_zero]; exact HI.out, Only.refl _ _⟩
  case round =>
    obtain ⟨k, S2, ov, hk, rfl, hf, hi, ho⟩ := hrel
    have HF2 := Shut.mk hf
    have HI2 := Shut.mk hi
    have HO2 := Shut.mk ho
    clear hf hi ho
    by_cases hlt : k < nm
    · have hki : (k : Int) < (nm : Int) := by omega
      have HKL := Shut.mk (show k < (l.filter P).length by rw [← HL.out]; exact hlt)
      obtain ⟨b, off, rfl, hrg⟩ := (HR.out.only HO2.out (fun a ha e => by rcases e with e | e; exact (HA.out (by omega) a ha).1 e; exact (HA.out (by omega) a ha).2 e)).el k hlt
      have hmem := rest_mem (l := l) HKL.out (nodup_filter HND.out) (fun f hf => (List.mem_filter.1 hf).1)
      have hrs := rest_succ (l := l) HKL.out
      have hget : (toldM P l).getD k mp0 = ((l.filter P).getD k fm0).1 := by
        unfold toldM
        have h9 := HKL.out
        simp [List.getD, h9]
      rw [hget] at hrg
      obtain ⟨q, hid, hq1, hq2, hq3, hsn, hon⟩ := once_out HI2.out (rest_nodup HND.out) hmem
      rw [← hrs] at hon
      clear hmem hrs hget
      generalize (l.filter P).getD k fm0 = f at *
      obtain ⟨⟨⟨pi, pf, pt, pa, pb⟩, sq, sn, tl⟩, fb⟩ := f
      have hid' : pi = ((q : Nat) : Int) := hid
      subst hid'
      have hsn' : sn ≤ most := hsn
      have ci : wr.cell? ⟨b, off + k * 8, none⟩ = some (.int .i64 ((q : Nat) : Int)) := by have h9 := hrg 0 _ rfl; exact h9
      have cs : wr.cell? ⟨b, off + k * 8 + 6, none⟩ = some (.int .i64 ((sn : Nat) : Int)) := hrg 6 _ rfl
      have cnn : wr.cell? ⟨cn, 0, none⟩ = some (.int .i64 ((n : Nat) : Int)) := by have h9 := block_range HF2.out.bn 0 _ rfl; exact h9
      have cgg : wr.cell? ⟨cg, 0, none⟩ = some (.slice (some ⟨gb, 0, none⟩) N N) := by have h9 := block_range HF2.out.bg 0 _ rfl; exact h9
      have HQN := Shut.mk (show q < S2.length by rw [HF2.out.len]; omega)
      have cgb : wr.cell? ⟨gb, q, none⟩ = some (.bool false) := by have h9 := rowT_cell HF2.out.bb q HQN.out; rw [show S2.getD q false = false from hq3] at h9; exact h9
      have HOV := Shut.mk (show ov ≤ 1000 by have := HI2.out.cnt; omega)
      have HON := Shut.mk (show OnceI (restL l (l.filter P) (k + 1)) n (goneT (S2.set q true)) (ov + 1) most by rw [goneT_set HQN.out]; exact hon)
      have t1 : ¬ ((q : Nat) : Int) < 1 := by omega
      have t2 : ¬ ((n : Nat) : Int) < ((q : Nat) : Int) := by omega
      have t3 : ((q : Nat) : Int) < ((N : Nat) : Int) := by omega
      have t4 : ¬ ((most : Nat) : Int) < ((sn : Nat) : Int) := by omega
      have hq0 : (0 : Int) ≤ ((q : Nat) : Int) := by omega
      have how : ((ov : Nat) : Int) + 1 = (((ov + 1 : Nat)) : Int) := by omega
      have hov1 : ((ov : Nat) : Int) ≤ 1000 := by have := HOV.out; omega
      obtain ⟨o1, ho1⟩ : ∃ o1 : Nat, o1 = ov + 1 := ⟨_, rfl⟩
      have how2 : IntKind.i64.wrap (((ov : Nat) : Int) + 1) = ((o1 : Nat) : Int) := by rw [IntWalk.i64_in _ ⟨by omega, by omega⟩]; omega
      have how3 : ((ov : Nat) : Int) + 1 = ((o1 : Nat) : Int) := by omega
      have HO1 := Shut.mk ho1
      clear hrg hid hon hsn hsn' hq1 hq2 hq3 how ho1 hlt
      have HBw7 := Shut.mk (setRow_heap wr gb _ (rowT (S2.set q true)) _ (0, 0) HF2.out.bb)
      have HOw7 := Shut.mk (only_setRow wr gb (rowT (S2.set q true)))
      obtain ⟨w7, hw7⟩ : ∃ w7, w7 = wr.setRow gb (rowT (S2.set q true)) := ⟨_, rfl⟩
      rw [← hw7] at HBw7 HOw7
      have HWw7 := Shut.mk hw7.symm
      clear hw7
      have HBO7 := Shut.mk (HOw7.out.at_ HF2.out.bo HF2.out.ne.1.2.2)
      have HBw8 := Shut.mk (setRow_heap w7 co _ #[.int .i64 ((o1 : Nat) : Int)] _ (0, 0) HBO7.out)
      have HOw8 := Shut.mk (only_setRow w7 co #[.int .i64 ((o1 : Nat) : Int)])
      obtain ⟨w8, hw8⟩ : ∃ w8, w8 = w7.setRow co #[.int .i64 ((o1 : Nat) : Int)] := ⟨_, rfl⟩
      rw [← hw8] at HBw8 HOw8
      have HWw8 := Shut.mk hw8.symm
      clear hw8
      have coo : w7.cell? ⟨co, 0, none⟩ = some (.int .i64 ((ov : Nat) : Int)) := by have h9 := block_range HBO7.out 0 _ rfl; exact h9
      go_wp2_with (first
        | (refine wpList_store_into rfl 4 (.tmp 46) (.const (.bool true)) rfl gb q (.bool true) rfl rfl rfl 4 (rowT S2) (rowT (S2.set q true)) HF2.out.bb size1b (by rw [rowT_size]; exact HQN.out) (rowT_set _ _ _) ?_
           rw [HWw7.out])
        | (refine wpList_store_into rfl 3 (.tmp 4) (.tmp 48) rfl co 0 (.int .i64 ((o1 : Nat) : Int)) rfl rfl rfl 3 _ #[.int .i64 ((o1 : Nat) : Int)] HBO7.out size1i (by show 0 < 1; omega) rfl ?_
           rw [HWw8.out]))
      have HF8 := Shut.mk (show EndF w8 cn cg co gb N n (ov + 1) (S2.set q true) from ⟨HOw8.out.at_ (HOw7.out.at_ HF2.out.bn HF2.out.ne.1.1) HF2.out.ne.2.1, HOw8.out.at_ (HOw7.out.at_ HF2.out.bg HF2.out.ne.1.2.1) HF2.out.ne.2.2.1, HOw8.out.at_ HBw7.out (fun e => HF2.out.ne.1.2.2 e.symm), by rw [← HO1.out]; exact HBw8.out, by rw [List.length_set]; exact HF2.out.len, HF2.out.ne⟩)
      have HOE := Shut.mk ((HO2.out.trans HOw7.out fun i _ e => .inl e).trans HOw8.out fun i _ e => .inr e)
      go_roundw
      case rel => exact ⟨k + 1, S2.set q true, ov + 1, by omega, by go_num, HF8.out, HON.out, HOE.out⟩
      case measure => simp [intOf]; omega
    · have hk' : k = nm := by omega
      subst hk'
      have HE := Shut.mk (show restL l (l.filter P) k = l.filter fun f => !P f by rw [HL.out]; exact rest_end HND.out)
      rw [HE.out] at HI2
      go_wp2_with (fail)
      go_ret
      exact ⟨rfl, S2, ov, HF2.out, HI2.out, HO2.out⟩
end Go.Proofs.YtlbfioknkagboaaDoor
