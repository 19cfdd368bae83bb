/-
  WHAT FqFair WANTS BESIDE: make at a step; append of a uint32; a number stored into a row of the call's own; the closure 'size'; the maths.
-/
import Derived.Test.YtaibopaagjodoaaFqV
namespace Go.Proofs.Ytaibopaagjodoaa
open Go.ChangeShapes Go.WideShapes Go.ChangeAt Go.RowKit Go.Deep
set_option linter.unusedVariables false
set_option linter.unusedSimpArgs false

theorem step_make_full {P : Program} {w : World} {ops : Array Oper} {o : Oper} {a : Act} {K : Act → World → Prop} {Q : Exit → Act → World → Prop} {E : Prop}
    (hg : o.guard = none) (l c : Operand) (t : TypeId) (hop : o.op = Op.makeSlice t l c)
    (base : Nat) (e : TypeId) (i : TypeInfo) (z : Value) (size : Nat) (h1 : P.underlying t = some (.slice e)) (h2 : P.info? e = some i) (h3 : i.zero = some z) (h4 : i.size = size)
    (kl kc : IntKind) (L C : Int) (n : Nat) (hl : a.eval l = .int kl L) (hc : a.eval c = .int kc C) (hL : L = (n : Int)) (hC : C = (n : Int)) (b2 : i.bytes * n ≤ 281474976710656) (b3 : n ≤ maxLen) (b4 : base ≤ w.heap.size)
    (h : ∀ w', w'.ownsRow base e size (.slice (some ⟨w.heap.size, 0, none⟩) n n) n (madeCells z.cells (n * size)).toList → w.grownBy w' none → K (a.put o.dst (.slice (some ⟨w.heap.size, 0, none⟩) n n)) w') :
    if Region.wanted o (yielded ops a.tmps) = true then Oper.wp P o a w K Q else E := by
  have hw : Region.wanted o (yielded ops a.tmps) = true := by simp [Region.wanted, hg]
  rw [if_pos hw]
  obtain ⟨w', hrun, r1, r2⟩ := run_make_full (P := P) w base t e i z size h1 h2 h3 h4 kl kc n b2 b3 b4
  subst hL
  subst hC
  unfold Oper.wp
  simp [execOp, hop, hl, hc, hrun, Result.andThen]
  exact h w' r1 r2
theorem step_store_into {P : Program} {ops : Array Oper} {o : Oper} {a : Act} {w : World} {K : Act → World → Prop} {Q : Exit → Act → World → Prop} {E : Prop} (hgd : Region.wanted o (yielded ops a.tmps) = true) (ty : TypeId) (x y : Operand) (ho : o.op = .store ty x y)
    (g i : Nat) (v : Value) (hx : a.eval x = .pointer (some ⟨g, i, none⟩)) (hy : a.eval y = v) (h1 : v.oneCell' = true)
    (t : TypeId) (cur new : Array Value) (hg : w.heap[g]? = some (.cells cur t (0, 0))) (hi : (P.info? ty).map (·.size) = some 1) (hlt : i < cur.size) (hnew : cur.setIfInBounds i v = new)
    (h : K (a.put o.dst undef) (w.setRow g new)) : if Region.wanted o (yielded ops a.tmps) = true then Oper.wp P o a w K Q else E := by
  rw [if_pos hgd]
  unfold Oper.wp execOp
  simp only [ho, hx, hy, Sem.run_bind, Sem.run_pure, Result.andThen_ok, run_storeAt_into w g i t ty cur new v hg hi hlt h1 hnew]
  exact h
/-- numbers in a row of cells. -/
def rowC (l : List Int) : Array Value := (l.map (Value.int .i64)).toArray
theorem rowC_size (l : List Int) : (rowC l).size = l.length := by simp [rowC]
theorem rowC_set (l : List Int) (i : Nat) (v : Int) : (rowC l).setIfInBounds i (.int .i64 v) = rowC (l.set i v) := by
  unfold rowC
  rw [List.setIfInBounds_toArray, List.map_set]
theorem rowC_cell {w : World} {g : Nat} {l : List Int} {t : TypeId} (h : w.heap[g]? = some (.cells (rowC l) t (0, 0))) (i : Nat) (hi : i < l.length) : w.cell? ⟨g, i, none⟩ = some (.int .i64 (l.getD i 0)) := by
  have e := (block_range h) i (.int .i64 (l.getD i 0)) (by simp [rowC, List.getD, hi])
  simpa using e
/-- a row that was made is one. -/
theorem made_rowC {w : World} {B g n : Nat} (h : w.ownsRow B 3 1 (.slice (some ⟨g, 0, none⟩) n n) n (madeCells (Value.int .i64 0).cells (n * 1)).toList) : w.heap[g]? = some (.cells (rowC (List.replicate n 0)) 3 (0, 0)) := by
  rcases h.2 with ⟨h0, -⟩ | ⟨g', cap, cur, hv, hb, hg, hc, hm, hs, ht⟩
  · cases h0
  · simp only [Value.slice.injEq, Option.some.injEq, Addr.mk.injEq, and_true, true_and] at hv
    obtain ⟨rfl, rfl⟩ := hv
    have e : cur = rowC (List.replicate n 0) := by
      apply Array.ext'
      rw [List.take_of_length_le (by rw [Array.length_toList, hs]; exact Nat.le_refl _)] at ht
      rw [ht]
      unfold rowC
      rw [List.map_replicate, Nat.mul_one]
      exact toList_madeCells_one _ _
    rw [← e]; exact hg
/-! ### flows in a row of the call's own -/
def uC (x : Int) : List Value := [.int .u32 x]
def OwnU (w : World) (B : Nat) (v : Value) (l : List Int) : Prop := OwnS uC 1 w B 22 v l.length l
theorem u32_info : (Try.prog.info? 22).map (fun i => (i.zero, i.size, i.bytes)) = some (some (.int .u32 0), 1, 4) := by kernel_rfl
theorem OwnU.nil (w : World) (B : Nat) : OwnU w B (.slice none 0 0) [] := OwnS.nil w B _
theorem app_u {ops : Array Oper} {rest : List Oper} {o : Oper} {a : Act} {w : World} {Q : Exit → Act → World → Prop} (hgd : o.guard = none) (s x : Operand)
    (ho : o.op = .call { callee := .builtin .append, args := #[s, x], argTypes := #[57, 57] })
    (B : Nat) (lv : Value) (l : List Int) (hs : a.eval s = lv) (hP : OwnU w B lv l) (u : Int) (ad : Addr) (c : Nat) (hx : a.eval x = .slice (some ad) 1 c) (hc : w.cell? ad = some (.int .u32 u))
    (hk : l.length ≤ 1000000) (hB : B ≤ w.heap.size)
    (h : ∀ v w', Shut (OwnU w' B v (l ++ [u])) → Shut (Below B w w') → Shut (Only (fun j => lv.ownBlock = some j) w w') → Shut (∀ g, v.ownBlock = some g → lv.ownBlock = some g ∨ g = w.heap.size) → wpList Try.prog ops Q rest (a.put o.dst v) w') : wpList Try.prog ops Q (o :: rest) a w := by
  obtain ⟨i0, hi0, hz0, hz1, hz2⟩ := info_parts' u32_info
  refine wpList_append_lies w hgd s x 57 ho B 22 i0 _ 1 4 Try.underlying57 hi0 hz0 hz1 hz2 rfl (by omega) lv l.length _ hs hP.1 ad 1 c (uC u) hx rfl (fun j v hv => ?_) (by intro v hv; simp [uC] at hv; subst hv; rfl) (by omega) (by unfold maxLen; omega) (by omega) hB w.heap.size rfl ?_
  · match j, hv with
    | 0, hv => cases hv; simpa [Addr.add] using hc
  · intro g cap w' hown hgrow hor hlt
    have hor' : lv.ownBlock = some g ∨ g = w.heap.size := hor
    refine h _ w' ⟨⟨?_, rfl⟩⟩ ⟨(Below.refl B w).grown hgrow hB (by intro q hq; exact (World.ownsRow.lt hP.1 q hq).1)⟩ ⟨(Only.refl _ w).grown hgrow fun k hk _ => hk⟩ ⟨fun g' hg' => ?_⟩
    · rw [List.flatMap_append, List.length_append]
      simpa using hown
    · have e1 : g' = g := by simpa [Value.ownBlock] using hg'.symm
      rw [e1]; exact hor'
/-! ### the closure -/
def szF (z : List Int) (i : Nat) : Nat := if i < z.length then (nmod (z.getD i 0) 800).toNat + 1 else 100
theorem szF_in (z : List Int) (i : Nat) : 1 ≤ szF z i ∧ szF z i ≤ 800 := by
  unfold szF
  split
  · have h1 := nmod_lo (z.getD i 0) 800 (by decide)
    have h2 := nmod_hi (z.getD i 0) 800 (by decide)
    omega
  · omega
set_option maxRecDepth 100000 in
set_option maxHeartbeats 4000000 in
theorem size_any (s : Nat) (a : Option Addr) (len cap : Nat) (z : List Int) (i : Nat) (w : World) (hc : w.cell? ⟨s, 0, none⟩ = some (.slice a len cap)) (hr : RowB .i64 w a len z) (hi : i < 1000) :
    Calls Try.prog 36 #[.int .i64 (i : Nat), .pointer (some ⟨s, 0, none⟩)] w fun e w' => e = .returned (.int .i64 (szF z i : Nat)) ∧ w = w' := by
  have hl := hr.len
  have hle := hr.le
  unfold maxLen at hle
  have HR := Shut.mk hr
  clear hr
  by_cases h : i < len
  · obtain ⟨b, off, rfl, hcell⟩ := HR.out.el i h
    have hii : (i : Int) < (len : Int) := by omega
    have hi0 : (0 : Int) ≤ (i : Int) := by omega
    have HW := Shut.mk (show (Lit.int .i64 (z.getD i 0)).wf = true from by have := HR.out.wf i h; simpa [Lit.wf] using this)
    have HS := Shut.mk (show szF z i = (nmod (z.getD i 0) 800).toNat + 1 by unfold szF; rw [if_pos (by omega)])
    have h1 := nmod_lo (z.getD i 0) 800 (by decide)
    have h2 := nmod_hi (z.getD i 0) 800 (by decide)
    clear hl
    go_enter Try.func36, Try.ntmps36
    go_wp2_with (fail)
    refine (number_any (z.getD i 0) 800 w HW.out (by decide) (by decide)).mono ?_
    rintro e wn ⟨rfl, rfl⟩
    generalize nmod (z.getD i 0) 800 = m at *
    go_wp2_with (fail)
    go_ret
    exact ⟨ret_int (by rw [HS.out]; omega), rfl⟩
  · have hii : ¬ (i : Int) < (len : Int) := by omega
    have HS := Shut.mk (show szF z i = 100 by unfold szF; rw [if_neg (by omega)])
    clear hl
    go_enter Try.func36, Try.ntmps36
    go_wp2_with (fail)
    go_ret
    exact ⟨ret_int (by rw [HS.out]; rfl), rfl⟩
/-! ### the maths -/
abbrev bkZ : Int → Nat := bkQ 0#32
def bF (i : Nat) : Nat := bkt (BitVec.ofNat 32 i) 0#32
theorem bF_lt (i : Nat) : bF i < 16 := bkt_lt _ _
theorem bkZ_of {i : Nat} (hi : i < 6) : bkZ (i : Int) = bF i := by
  have : ∀ i : Nat, i < 6 → bkZ (i : Int) = bF i := by decide
  exact this i hi
theorem bF_inj {i j : Nat} (hi : i < 6) (hj : j < 6) (h : bF i = bF j) : i = j := by
  have : ∀ i, i < 6 → ∀ j, j < 6 → bF i = bF j → i = j := by decide
  exact this i hi j hj h
theorem uv_nat {i : Nat} (hi : i < 6) : uv (BitVec.ofNat 32 i) = (i : Int) := by
  have : ∀ i : Nat, i < 6 → uv (BitVec.ofNat 32 i) = (i : Int) := by decide
  exact this i hi
def PZ : Pl := ⟨0, 1073741824, 1073741824⟩
def pkZ (sz : Nat → Nat) (j : Nat) : Pk := ⟨0, j, 0, 0, zer (sz j)⟩
/-- i flows have all of theirs, and flow i has k. -/
structure PutI (sz : Nat → Nat) (i k : Nat) (q : Qu) : Prop where
  fresh : q.fresh = (List.range i).map bF ++ (if k = 0 then [] else [bF i])
  elder : q.elder = []
  all : ∀ j, j < i → q.fl (bF j) = ⟨List.replicate 110 (pkZ sz j), 300, cdZ⟩
  one : k ≠ 0 → q.fl (bF i) = ⟨List.replicate k (pkZ sz i), 300, cdZ⟩
  oth : ∀ b, (∀ j, j < i → b ≠ bF j) → (k ≠ 0 → b ≠ bF i) → q.fl b = flZ
theorem put_zero (sz : Nat → Nat) : PutI sz 0 0 quZ := ⟨rfl, rfl, fun j h => by omega, fun h => absurd rfl h, fun _ _ _ => rfl⟩
theorem put_next {sz : Nat → Nat} {i : Nat} {q : Qu} (h : PutI sz i 110 q) : PutI sz (i + 1) 0 q := by
  refine ⟨?_, h.elder, fun j hj => ?_, fun e => absurd rfl e, fun b h1 _ => h.oth b (fun j hj => h1 j (by omega)) fun _ => h1 i (by omega)⟩
  · rw [h.fresh, List.range_succ, List.map_append]; simp
  · rcases Nat.lt_or_ge j i with h1 | h1
    · exact h.all j h1
    · obtain rfl : j = i := by omega
      exact h.one (by omega)
theorem put_one {sz : Nat → Nat} {i k : Nat} {q : Qu} (hi : i < 6) (h : PutI sz i k q) : PutI sz i (k + 1) (putQ bkZ q (pkZ sz i)) := by
  have hb : bkZ (pkZ sz i).flow = bF i := bkZ_of hi
  have hne : ∀ j, j < i → bF j ≠ bF i := fun j hj e => by have := bF_inj (by omega) hi e; omega
  unfold putQ
  rw [hb]
  by_cases h0 : k = 0
  · subst h0
    have hnot : ¬ (bF i ∈ q.fresh ∨ bF i ∈ q.elder) := fun e => by
      rw [h.fresh, h.elder] at e
      simp only [if_true, List.append_nil, List.not_mem_nil, or_false, List.mem_map, List.mem_range] at e
      obtain ⟨j, hj, e⟩ := e
      exact hne j hj e
    have e0 : q.fl (bF i) = flZ := h.oth _ (fun j hj e => hne j hj e.symm) fun e => absurd rfl e
    rw [if_neg hnot, e0]
    refine ⟨?_, h.elder, fun j hj => ?_, fun _ => by simp only [setF_same]; rfl, fun b h1 h2 => ?_⟩
    · rw [h.fresh]; simp
    · simp only [setF_other _ _ (hne j hj)]; exact h.all j hj
    · simp only [setF_other _ _ (h2 (by omega))]; exact h.oth b h1 fun e => absurd rfl e
  · have hin : bF i ∈ q.fresh ∨ bF i ∈ q.elder := .inl (by rw [h.fresh, if_neg h0]; simp)
    rw [if_pos hin, h.one h0]
    refine ⟨?_, h.elder, fun j hj => ?_, fun _ => ?_, fun b h1 h2 => ?_⟩
    · rw [h.fresh, if_neg h0, if_neg (by omega)]
    · simp only [setF_other _ _ (hne j hj)]; exact h.all j hj
    · simp only [setF_same]
      rw [List.replicate_succ']
    · simp only [setF_other _ _ (h2 (by omega))]; exact h.oth b h1 fun _ => h2 (by omega)
theorem put_len {sz : Nat → Nat} {i k : Nat} {q : Qu} (hi : i < 6) (h : PutI sz i k q) (hk : k < 110) : (q.fl (bkZ (pkZ sz i).flow)).pk.length < 1000 := by
  have hb : bkZ (pkZ sz i).flow = bF i := bkZ_of hi
  rw [hb]
  by_cases h0 : k = 0
  · rw [h.oth _ (fun j hj e => by have := bF_inj (by omega) (by omega) e; omega) fun e => absurd h0 e]; decide
  · rw [h.one h0]; simp; omega
def szB (sz : Nat → Nat) (b : Nat) : Int := ((List.range 6).find? fun j => bF j == b).elim 0 fun j => (sz j : Int)
theorem szB_of (sz : Nat → Nat) {j : Nat} (hj : j < 6) : szB sz (bF j) = (sz j : Int) := by
  have : ∀ j, j < 6 → (List.range 6).find? (fun k => bF k == bF j) = some j := by decide
  unfold szB
  rw [this j hj]
  rfl
/-- behind t turns: T: what each was given. -/
structure TurnI (sz : Nat → Nat) (n t : Nat) (T : Nat → Int) (q : Qu) : Prop where
  mem : ∀ b, b ∈ q.fresh ++ q.elder ↔ ∃ j, j < n ∧ b = bF j
  fair : FairQ (szB sz) T q
  pk : ∀ j, j < n → ∃ m, (q.fl (bF j)).pk = List.replicate m (pkZ sz j) ∧ 110 ≤ m + t
  cd : ∀ j, j < n → (q.fl (bF j)).cd.on = false
  tot : ∀ j, j < n → 0 ≤ T (bF j) ∧ T (bF j) ≤ 800 * (t : Int)
theorem turn_zero {sz : Nat → Nat} {n : Nat} {q : Qu} (hn : n ≤ 6) (hs : ∀ j, 1 ≤ sz j) (h : PutI sz n 0 q) : TurnI sz n 0 (fun _ => 0) q := by
  have hf : q.fresh ++ q.elder = (List.range n).map bF := by rw [h.fresh, h.elder]; simp
  have hm : ∀ b, b ∈ q.fresh ++ q.elder ↔ ∃ j, j < n ∧ b = bF j := fun b => by
    rw [hf, List.mem_map]
    constructor
    · rintro ⟨j, hj, rfl⟩; exact ⟨j, List.mem_range.1 hj, rfl⟩
    · rintro ⟨j, hj, rfl⟩; exact ⟨j, List.mem_range.2 hj, rfl⟩
  refine ⟨hm, ⟨fun _ => 1, fun b hb => ?_, fun b hb => ?_, ?_⟩, fun j hj => ⟨110, by rw [h.all j hj], by omega⟩, fun j hj => by rw [h.all j hj]; rfl, fun j _ => ⟨Int.le_refl _, by omega⟩⟩
  · obtain ⟨j, hj, rfl⟩ := (hm b).1 hb
    rw [h.all j hj]
    show (0 : Int) = 300 * 1 - 300
    omega
  · obtain ⟨j, hj, rfl⟩ := (hm b).1 hb
    rw [h.all j hj, szB_of sz (by omega)]
    have := hs j
    show -(sz j : Int) < 300 ∧ (300 : Int) ≤ 300
    omega
  · rw [hf]
    exact List.Pairwise.imp (R := fun _ _ => True) (fun _ => ⟨Int.le_refl _, by show (1 : Int) ≤ 1 + 1; omega⟩) (List.pairwise_of_forall fun _ _ => trivial)
theorem turn_take {sz : Nat → Nat} {n t : Nat} {T : Nat → Int} {q : Qu} (hn : 0 < n ∧ n ≤ 6) (hs : ∀ j, 1 ≤ sz j ∧ sz j ≤ 800) (ht : t < 100) (hI : InvQ bkZ q) (h : TurnI sz n t T q) :
    ∃ j q', j < n ∧ Takes PZ q [] (some (pkZ sz j)) [] q' ∧ TurnI sz n (t + 1) (fun b => if b = bF j then T (bF j) + (sz j : Int) else T b) q' := by
  obtain ⟨r, ds', q', hT⟩ := takes_is PZ (mu q + 1) q [] (by omega) hI
  have hB : Busy PZ (szB sz) q := by
    refine ⟨fun b hb => ?_, fun b hb => ?_, fun b hb => ?_, fun b hb => ?_⟩ <;> obtain ⟨j, hj, rfl⟩ := (h.mem b).1 hb <;> obtain ⟨m, hm, hm2⟩ := h.pk j hj
    · refine ⟨h.cd j hj, fun p hp => ?_⟩
      rw [hm] at hp
      rw [List.eq_of_mem_replicate hp]
      show (0 : Int) - 0 < 1073741824
      omega
    · rw [hm]; intro e
      have := congrArg List.length e
      rw [List.length_replicate] at this
      simp at this; omega
    · intro p hp
      rw [hm] at hp
      rw [List.eq_of_mem_replicate hp, szB_of sz (by omega)]
      show ((zer (sz j)).length : Int) = _
      rw [zer_len]
    · rw [szB_of sz (by omega)]; have := (hs j).1; omega
  have hne : q.fresh ++ q.elder ≠ [] := fun e => by
    have : bF 0 ∈ q.fresh ++ q.elder := (h.mem _).2 ⟨0, hn.1, rfl⟩
    rw [e] at this; cases this
  obtain ⟨b, p, l, c1, c2, c3, c4, c5, c6, c7, c8, c9⟩ := fair_take hT hI hB h.fair hne
  obtain ⟨j, hj, rfl⟩ := (h.mem b).1 c1
  obtain ⟨m, hm, hm2⟩ := h.pk j hj
  obtain ⟨m', rfl⟩ : ∃ m', m = m' + 1 := ⟨m - 1, by omega⟩
  rw [hm, List.replicate_succ] at c2
  simp only [List.cons.injEq] at c2
  obtain ⟨rfl, rfl⟩ := c2
  subst c3
  subst c4
  rw [szB_of sz (show j < 6 by omega)] at c5
  refine ⟨j, q', hj, hT, ⟨fun b => (c6 b).trans (h.mem b), c5, fun i hi => ?_, fun i hi => ?_, fun i hi => ?_⟩⟩
  · by_cases e : i = j
    · subst e; exact ⟨m', c7, by omega⟩
    · obtain ⟨m2, h3, h4⟩ := h.pk i hi
      exact ⟨m2, by rw [(c9 _ fun e2 => e (bF_inj (by omega) (by omega) e2)).1]; exact h3, by omega⟩
  · by_cases e : i = j
    · subst e; exact c8
    · rw [(c9 _ fun e2 => e (bF_inj (by omega) (by omega) e2)).2]; exact h.cd i hi
  · have h1 := h.tot i hi
    have h2 := hs j
    by_cases e : i = j
    · subst e
      simp only [if_true]
      omega
    · have e3 : ¬ bF i = bF j := fun e2 => e (bF_inj (by omega) (by omega) e2)
      simp only [if_neg e3]
      omega
end Go.Proofs.Ytaibopaagjodoaa
