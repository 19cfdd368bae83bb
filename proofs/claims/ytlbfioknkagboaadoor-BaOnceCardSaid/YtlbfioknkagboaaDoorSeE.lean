/-
  CONTRACTS of ba's Heard$1, Sweep$1; what part keeps as it goes (PartR).
-/
import Derived.Test.YtlbfioknkagboaaDoorSeD
namespace Go.Proofs.YtlbfioknkagboaaDoor
open Go.ChangeShapes Go.WideShapes Go.ChangeAt Go.RowKit Go.Deep
set_option linter.unusedVariables false
set_option linter.unusedSimpArgs false

/-! ### append, with its footprint -/
section
variable {ops : Array Oper} {rest : List Oper} {o : Oper} {a : Act} {w : World} {Q : Exit → Act → World → Prop}
theorem app_s2 {α : Type} {F : α → List Value} {sz : Nat} {P : Program} (hgd : o.guard = none) (s x : Operand) (t : TypeId)
    (ho : o.op = .call { callee := .builtin .append, args := #[s, x], argTypes := #[t, t] }) (e : TypeId) (i : TypeInfo) (z : Value) (bytes : Nat) (ht : P.underlying t = some (.slice e)) (hi : P.info? e = some i) (hz : i.zero = some z) (hsize : i.size = sz) (hby : i.bytes = bytes) (hzs : z.cells.size = sz) (hsz : 0 < sz)
    (B k : Nat) (lv : Value) (l : List α) (hs : a.eval s = lv) (hP : OwnS F sz w B e lv k l) (u : α) (ad : Addr) (c : Nat) (hx : a.eval x = .slice (some ad) 1 c) (hF : (F u).length = sz) (hc : ∀ j v, (F u)[j]? = some v → w.cell? (ad.add j) = some v) (h1 : ∀ v ∈ F u, v.oneCell' = true)
    (hk : k + 1 ≤ 1000000000) (hbt : (k + 1) * bytes ≤ 140737488355328) (hB : B ≤ w.heap.size)
    (h : ∀ v' w', OwnS F sz w' B e v' (k + 1) (l ++ [u]) → Only (fun j => lv.ownBlock = some j) w w' → (∀ g, v'.ownBlock = some g → lv.ownBlock = some g ∨ g = w.heap.size) → wpList P ops Q rest (a.put o.dst v') w') : wpList P ops Q (o :: rest) a w := by
  refine wpList_append_lies w hgd s x t ho B e i z sz bytes ht hi hz hsize hby hzs hsz lv k _ hs hP.1 ad 1 c (F u) hx (by rw [hF, Nat.one_mul]) hc h1 (by omega) (by unfold maxLen; omega) hbt hB w.heap.size rfl ?_
  intro g cap w' hown hgrow hor hlt
  have hor' : lv.ownBlock = some g ∨ g = w.heap.size := hor
  refine h _ w' ⟨?_, by simp [hP.2]⟩ ((Only.refl _ w).grown hgrow fun k hk _ => hk) fun g' hg' => ?_
  · rw [List.flatMap_append]
    simpa using hown
  · have e1 : g' = g := by simpa [Value.ownBlock] using hg'.symm
    rw [e1]; exact hor'
theorem app_m2 (hgd : o.guard = none) (s x : Operand) (ho : o.op = .call { callee := .builtin .append, args := #[s, x], argTypes := #[34, 34] })
    (B : Nat) (lv : Value) (L : List Mp) (hs : a.eval s = lv) (hP : OwnM w B lv L) (u : Mp) (ad : Addr) (c : Nat) (hx : a.eval x = .slice (some ad) 1 c) (hc : ∀ j q, (mpC u)[j]? = some q → w.cell? (ad.add j) = some q) (hk : L.length ≤ 1000000) (hB : B ≤ w.heap.size)
    (h : ∀ v w', Shut (OwnM w' B v (L ++ [u])) → Shut (Only (fun j => lv.ownBlock = some j) w w') → Shut (∀ g, v.ownBlock = some g → lv.ownBlock = some g ∨ g = w.heap.size) → wpList Tryd.prog ops Q rest (a.put o.dst v) w') : wpList Tryd.prog ops Q (o :: rest) a w := by
  obtain ⟨i0, hi0, hz0, hz1, hz2⟩ := info_parts' mpdu_info
  refine app_s2 (F := mpC) (z := .agg #[.int .i64 0, .int .u32 0, .int .i64 0, .int .i64 0, .slice none 0 0, .int .i64 0, .int .i64 0, .int .i64 0]) hgd s x 34 ho 40 i0 80 Tryd.underlying34 hi0 hz0 hz1 hz2 rfl (by omega) B L.length lv L hs hP u ad c hx rfl hc (mpC_one u) (by omega) (by omega) hB ?_
  intro v w' h2 h3 h4
  exact h _ w' ⟨by unfold OwnM; rw [List.length_append]; exact h2⟩ ⟨h3⟩ ⟨h4⟩
theorem app_f2 (hgd : o.guard = none) (s x : Operand) (ho : o.op = .call { callee := .builtin .append, args := #[s, x], argTypes := #[76, 76] })
    (B : Nat) (lv : Value) (L : List Fm) (hs : a.eval s = lv) (hP : OwnF w B lv L) (u : Fm) (ad : Addr) (c : Nat) (hx : a.eval x = .slice (some ad) 1 c) (hc : ∀ j q, (frC u)[j]? = some q → w.cell? (ad.add j) = some q) (hk : L.length ≤ 1000000) (hB : B ≤ w.heap.size)
    (h : ∀ v w', Shut (OwnF w' B v (L ++ [u])) → Shut (Only (fun j => lv.ownBlock = some j) w w') → Shut (∀ g, v.ownBlock = some g → lv.ownBlock = some g ∨ g = w.heap.size) → wpList Tryd.prog ops Q rest (a.put o.dst v) w') : wpList Tryd.prog ops Q (o :: rest) a w := by
  obtain ⟨i0, hi0, hz0, hz1, hz2⟩ := info_parts' frame_info
  refine app_s2 (F := frC) (z := .agg #[.int .i64 0, .int .u32 0, .int .i64 0, .int .i64 0, .slice none 0 0, .int .i64 0, .int .i64 0, .int .i64 0, .bool false]) hgd s x 76 ho 85 i0 88 Tryd.underlying76 hi0 hz0 hz1 hz2 rfl (by omega) B L.length lv L hs hP u ad c hx rfl hc (frC_one u) (by omega) (by omega) hB ?_
  intro v w' h2 h3 h4
  exact h _ w' ⟨by unfold OwnF; rw [List.length_append]; exact h2⟩ ⟨h3⟩ ⟨h4⟩
end

/-! ### what part keeps -/
structure PartR (w : World) (p : Sp) (cw : Option Nat) (wr : World) (lv tv uv : Value) (LL : List Fm) (TL : List Mp) (x : Wo) (CL : List Fm) (Y : List Int) : Prop where
  lf : OwnF wr w.heap.size lv LL
  td : OwnM wr w.heap.size tv TL
  win : IsWin wr p.gw x
  inv : InvX x CL
  only : Only (fun j => j = p.gw ∨ cw = some j) w wr
  why : ∀ c, cw = some c → wr.heap[c]? = some (.cells #[uv] 47 (0, 0))
  row : RowN wr uv Y
  uo : ∀ g, uv.ownBlock = some g → w.heap.size ≤ g
  a1 : ∀ g, lv.ownBlock = some g → ¬ tv.ownBlock = some g ∧ ¬ uv.ownBlock = some g
  a2 : ∀ g, tv.ownBlock = some g → ¬ uv.ownBlock = some g
  lo : p.gw < w.heap.size ∧ ∀ c, cw = some c → c < w.heap.size ∧ c ≠ p.gw
section
variable {w wr w' : World} {p : Sp} {cw : Option Nat} {lv tv uv lv' tv' uv' : Value} {LL LL' : List Fm} {TL TL' : List Mp} {x x' : Wo} {CL CL' : List Fm} {Y Y' : List Int}
theorem PartR.quiet (h : PartR w p cw wr lv tv uv LL TL x CL Y) (hb : Below wr.heap.size wr w') : PartR w p cw w' lv tv uv LL TL x CL Y :=
  ⟨h.lf.below hb, h.td.below hb, h.win.below hb, h.inv, h.only.then_quiet hb, fun c hc => (hb.block c (lt_blk (h.why c hc))).trans (h.why c hc), h.row.only (S := fun _ => False) (Only.of_quiet hb) (fun _ _ e => e), h.uo, h.a1, h.a2, h.lo⟩
theorem PartR.left (h : PartR w p cw wr lv tv uv LL TL x CL Y) (hO : OwnF w' w.heap.size lv' LL') (ho : Only (fun j => lv.ownBlock = some j) wr w') (hn : ∀ g, lv'.ownBlock = some g → lv.ownBlock = some g ∨ g = wr.heap.size) : PartR w p cw w' lv' tv uv LL' TL x CL Y :=
  ⟨hO, own_only h.td ho fun g hg e => (h.a1 g e).1 hg, h.win.only ho fun e => by have h1 := h.lf.lt _ e; have h2 := h.lo.1; omega, h.inv, h.only.trans ho fun i hi e => by have h1 := h.lf.lt _ e; omega,
    fun c hc => ho.at_ (h.why c hc) fun e => by have h1 := h.lf.lt _ e; have h2 := (h.lo.2 c hc).1; omega, h.row.only ho fun g hg e => (h.a1 g e).2 hg, h.uo,
    fun g hg => by
      rcases hn g hg with e | e
      · exact h.a1 g e
      · exact ⟨fun e2 => by have := (h.td.lt g e2).2; omega, fun e2 => by have := h.row.lt g e2; omega⟩,
    h.a2, h.lo⟩
theorem PartR.told (h : PartR w p cw wr lv tv uv LL TL x CL Y) (hO : OwnM w' w.heap.size tv' TL') (ho : Only (fun j => tv.ownBlock = some j) wr w') (hn : ∀ g, tv'.ownBlock = some g → tv.ownBlock = some g ∨ g = wr.heap.size) : PartR w p cw w' lv tv' uv LL TL' x CL Y :=
  ⟨own_only h.lf ho fun g hg e => (h.a1 g hg).1 e, hO, h.win.only ho fun e => by have h1 := h.td.lt _ e; have h2 := h.lo.1; omega, h.inv, h.only.trans ho fun i hi e => by have h1 := h.td.lt _ e; omega,
    fun c hc => ho.at_ (h.why c hc) fun e => by have h1 := h.td.lt _ e; have h2 := (h.lo.2 c hc).1; omega, h.row.only ho fun g hg e => h.a2 g e hg, h.uo,
    fun g hg => ⟨fun e2 => by
      rcases hn g e2 with e | e
      · exact (h.a1 g hg).1 e
      · have := (h.lf.lt g hg).2; omega, (h.a1 g hg).2⟩,
    fun g hg => by
      rcases hn g hg with e | e
      · exact h.a2 g e
      · exact fun e2 => by have := h.row.lt g e2; omega, h.lo⟩
theorem PartR.done (h : PartR w p cw wr lv tv uv LL TL x CL Y) (hW : IsWin w' p.gw x') (hi : InvX x' CL') (ho : Only (· = p.gw) wr w') : PartR w p cw w' lv tv uv LL TL x' CL' Y :=
  ⟨own_only h.lf ho fun g hg e => by subst e; have h1 := h.lf.lt _ hg; have h2 := h.lo.1; omega, own_only h.td ho fun g hg e => by subst e; have h1 := h.td.lt _ hg; have h2 := h.lo.1; omega, hW, hi, h.only.trans ho fun i hi e => .inl e,
    fun c hc => ho.at_ (h.why c hc) (h.lo.2 c hc).2, h.row.only ho fun g hg e => by subst e; have h1 := h.uo _ hg; have h2 := h.lo.1; omega, h.uo, h.a1, h.a2, h.lo⟩
theorem PartR.whyr (h : PartR w p cw wr lv tv uv LL TL x CL Y) (hW : ∀ c, cw = some c → w'.heap[c]? = some (.cells #[uv'] 47 (0, 0))) (hr : RowN w' uv' Y') (ho : Only (fun j => cw = some j ∨ uv.ownBlock = some j) wr w') (hn : ∀ g, uv'.ownBlock = some g → uv.ownBlock = some g ∨ wr.heap.size ≤ g) : PartR w p cw w' lv tv uv' LL TL x CL Y' :=
  ⟨own_only h.lf ho fun g hg e => by
      rcases e with e | e
      · have h1 := h.lf.lt _ hg; have h2 := (h.lo.2 g e).1; omega
      · exact (h.a1 g hg).2 e,
    own_only h.td ho fun g hg e => by
      rcases e with e | e
      · have h1 := h.td.lt _ hg; have h2 := (h.lo.2 g e).1; omega
      · exact h.a2 g hg e,
    h.win.only ho fun e => by
      rcases e with e | e
      · exact (h.lo.2 _ e).2 rfl
      · have h1 := h.uo _ e; have h2 := h.lo.1; omega, h.inv, h.only.trans ho fun i hi e => by
      rcases e with e | e
      · exact .inr e
      · have h1 := h.uo _ e; omega, hW, hr,
    fun g hg => by
      rcases hn g hg with e | e
      · exact h.uo g e
      · have := h.only.size; omega,
    fun g hg => ⟨(h.a1 g hg).1, fun e2 => by
      rcases hn g e2 with e | e
      · exact (h.a1 g hg).2 e
      · have := (h.lf.lt g hg).2; omega⟩,
    fun g hg e2 => by
      rcases hn g e2 with e | e
      · exact h.a2 g hg e
      · have := (h.td.lt g hg).2; omega, h.lo⟩
end
theorem Tab64.only {w w' : World} {S : Nat → Prop} (h : Tab64 w) (ho : Only S w w') (hn : ¬ S 5) : Tab64 w' := fun j hj => ho.cell (h j hj) hn

/-! ### the functions that part is given -/
def bitM (M k : Nat) : Bool := decide (M / 2 ^ k % 2 = 1)
def ackP (a M : Nat) : Fm → Bool := fun f => f.2 && ackB a (bitM M) f.1.seq
theorem ack_word {M d : Nat} (hM : M < 18446744073709551616) : (bits .and .u64 ((M : Int) / 2 ^ min d 64) 1 == 1) = (decide (d < 64) && bitM M d) := by
  have e2 : ((M : Int) / 2 ^ min d 64) = ((M / 2 ^ min d 64 : Nat) : Int) := by
    rw [Int.natCast_ediv]
    congr 1
  rw [e2, shr_and _ _ hM]
  unfold bitM
  by_cases h : d < 64
  · rw [show min d 64 = d by omega, decide_eq_true h, Bool.true_and]
    generalize M / 2 ^ d = q
    rcases Nat.mod_two_eq_zero_or_one q with h | h <;> rw [h] <;> rfl
  · rw [show min d 64 = 64 by omega, decide_eq_false h, Bool.false_and, Nat.div_eq_of_lt (by omega : M < 2 ^ 64)]
    rfl
set_option maxRecDepth 100000 in
set_option maxHeartbeats 4000000 in
theorem heard1_any (c a M : Nat) (pi pf pt pa tl : Int) (sq sn : Nat) (fb : Bool) (w : World) (hsq : sq < 4096) (ha : a < 4096) (hM : M < 18446744073709551616) (h13 : w.cell? ⟨c, 13, none⟩ = some (.int .i64 ((a : Nat) : Int))) (h14 : w.cell? ⟨c, 14, none⟩ = some (.int .u64 ((M : Nat) : Int))) :
    Calls Tryd.prog 49 #[.agg #[.int .i64 pi, .int .u32 pf, .int .i64 pt, .int .i64 pa, .slice none 0 0, .int .i64 ((sq : Nat) : Int), .int .i64 ((sn : Nat) : Int), .int .i64 tl, .bool fb], .pointer (some ⟨c, 0, none⟩)] w fun e w' => e = .returned (.bool (ackP a M (⟨⟨pi, pf, pt, pa, []⟩, sq, sn, tl⟩, fb))) ∧ Below w.heap.size w w' := by
  go_enter Tryd.func49, Tryd.ntmps49
  have HB := Shut.mk ((Below.refl w.heap.size w).alloc (Nat.le_refl _) (Obj.cells #[.int .i64 pi, .int .u32 pf, .int .i64 pt, .int .i64 pa, .slice none 0 0, .int .i64 ((sq : Nat) : Int), .int .i64 ((sn : Nat) : Int), .int .i64 tl, .bool fb] 85 (0, 0)))
  have k13 := below_at HB.out h13
  have k14 := below_at HB.out h14
  have hr := block_range (heap_alloc_last w (Obj.cells #[.int .i64 pi, .int .u32 pf, .int .i64 pt, .int .i64 pa, .slice none 0 0, .int .i64 ((sq : Nat) : Int), .int .i64 ((sn : Nat) : Int), .int .i64 tl, .bool fb] 85 (0, 0)))
  have d5 : (w.alloc (Obj.cells #[.int .i64 pi, .int .u32 pf, .int .i64 pt, .int .i64 pa, .slice none 0 0, .int .i64 ((sq : Nat) : Int), .int .i64 ((sn : Nat) : Int), .int .i64 tl, .bool fb] 85 (0, 0))).cell? ⟨w.heap.size, 5, none⟩ = some (.int .i64 ((sq : Nat) : Int)) := by have h9 := hr 5 _ rfl; rw [Nat.zero_add] at h9; exact h9
  have d8 : (w.alloc (Obj.cells #[.int .i64 pi, .int .u32 pf, .int .i64 pt, .int .i64 pa, .slice none 0 0, .int .i64 ((sq : Nat) : Int), .int .i64 ((sn : Nat) : Int), .int .i64 tl, .bool fb] 85 (0, 0))).cell? ⟨w.heap.size, 8, none⟩ = some (.bool fb) := by have h9 := hr 8 _ rfl; rw [Nat.zero_add] at h9; exact h9
  have hd : rd (((sq : Nat) : Int) - ((a : Nat) : Int)) = ((distN a sq : Nat) : Int) := by unfold rd distN; omega
  have HW := Shut.mk (ack_word (d := distN a sq) hM)
  have HP := Shut.mk (show ackP a M (⟨⟨pi, pf, pt, pa, []⟩, sq, sn, tl⟩, fb) = (fb && (decide (distN a sq < 64) && bitM M (distN a sq))) from rfl)
  generalize distN a sq = d at *
  have HD := Shut.mk (fun w k => quiet_b (congrArg (Value.int .i64) hd) (dist_any ((a : Nat) : Int) ((sq : Nat) : Int) (World.drewN w k)))
  rw [HP.out]
  rw [← HW.out]
  clear hr h13 h14 hd hsq ha hM HP HW
  cases fb with
  | false =>
    go_wp2_with (fail)
    go_quiet (fail)
    go_wp2_with (fail)
    go_ret
    exact ⟨rfl, below_drewN HB.out _⟩
  | true =>
    go_wp2_with (fail)
    go_quiet ((go_at_call 50; exact HD.out _ _))
    go_wp2_with (fail)
    go_ret
    exact ⟨rfl, below_drewN HB.out _⟩
def goneP (retry : Nat) (now : Int) : Fm → Bool := fun f => decide (whyF retry now f ≠ 0)
def whyL (retry : Nat) (now : Int) (l : List Fm) : List Int := (l.map fun f => ((whyF retry now f : Nat) : Int)).filter fun a => a != 0
theorem whyL_yes {retry : Nat} {now : Int} {l : List Fm} {k : Nat} (h : k < l.length) (hp : whyF retry now (l.getD k fm0) ≠ 0) : whyL retry now (l.take (k + 1)) = whyL retry now (l.take k) ++ [((whyF retry now (l.getD k fm0) : Nat) : Int)] := by
  unfold whyL
  rw [take_fm h]
  generalize l.getD k fm0 = f at *
  generalize hy : whyF retry now f = y at *
  rw [List.map_append, List.filter_append, List.map_cons, List.map_nil, List.filter_cons, hy, if_pos (by simp; omega)]; rfl
theorem whyL_no {retry : Nat} {now : Int} {l : List Fm} {k : Nat} (h : k < l.length) (hp : whyF retry now (l.getD k fm0) = 0) : whyL retry now (l.take (k + 1)) = whyL retry now (l.take k) := by
  unfold whyL
  rw [take_fm h]
  generalize l.getD k fm0 = f at *
  rw [List.map_append, List.filter_append, List.map_cons, List.map_nil, List.filter_cons, hp, if_neg (by simp)]; simp
theorem whyL_len {retry : Nat} {now : Int} {l : List Fm} : (whyL retry now l).length ≤ l.length := by
  unfold whyL
  have := List.length_filter_le (fun a : Int => a != 0) (l.map fun f => ((whyF retry now f : Nat) : Int))
  rw [List.length_map] at this
  exact this
set_option maxRecDepth 100000 in
set_option maxHeartbeats 4000000 in
theorem sweep1_any (c1 c2 c3 g rt : Nat) (now : Int) (uv : Value) (Y : List Int) (pi pf pt pa tl : Int) (sq sn : Nat) (fb : Bool) (w : World) (h1 : w.cell? ⟨c1, 0, none⟩ = some (.pointer (some ⟨g, 0, none⟩))) (h2 : w.cell? ⟨c2, 0, none⟩ = some (.int .i64 now)) (h3 : w.heap[c3]? = some (.cells #[uv] 47 (0, 0))) (hg : w.cell? ⟨g, 1, none⟩ = some (.int .i64 ((rt : Nat) : Int))) (hr : RowN w uv Y) (hY : Y.length ≤ 1000000) (hne : ∀ j, uv.ownBlock = some j → j ≠ c3) :
    Calls Tryd.prog 39 #[.agg #[.int .i64 pi, .int .u32 pf, .int .i64 pt, .int .i64 pa, .slice none 0 0, .int .i64 ((sq : Nat) : Int), .int .i64 ((sn : Nat) : Int), .int .i64 tl, .bool fb], .pointer (some ⟨c1, 0, none⟩), .pointer (some ⟨c2, 0, none⟩), .pointer (some ⟨c3, 0, none⟩)] w fun e w' => e = .returned (.bool (goneP rt now (⟨⟨pi, pf, pt, pa, []⟩, sq, sn, tl⟩, fb))) ∧ ∃ uv', w'.heap[c3]? = some (.cells #[uv'] 47 (0, 0)) ∧ RowN w' uv' (Y ++ if whyF rt now (⟨⟨pi, pf, pt, pa, []⟩, sq, sn, tl⟩, fb) = 0 then [] else [((whyF rt now (⟨⟨pi, pf, pt, pa, []⟩, sq, sn, tl⟩, fb) : Nat) : Int)]) ∧ Only (fun j => c3 = j ∨ uv.ownBlock = some j) w w' ∧ (∀ j, uv'.ownBlock = some j → uv.ownBlock = some j ∨ w.heap.size ≤ j) := by
  obtain ⟨A, cc, rfl, -⟩ := hr.form
  have HB := Shut.mk ((Below.refl w.heap.size w).alloc (Nat.le_refl _) (Obj.cells #[.int .i64 pi, .int .u32 pf, .int .i64 pt, .int .i64 pa, .slice none 0 0, .int .i64 ((sq : Nat) : Int), .int .i64 ((sn : Nat) : Int), .int .i64 tl, .bool fb] 85 (0, 0)))
  have HG := Shut.mk (heap_alloc_last w (Obj.cells #[.int .i64 pi, .int .u32 pf, .int .i64 pt, .int .i64 pa, .slice none 0 0, .int .i64 ((sq : Nat) : Int), .int .i64 ((sn : Nat) : Int), .int .i64 tl, .bool fb] 85 (0, 0)))
  have HSZ := Shut.mk (show w.heap.size ≤ (w.alloc (Obj.cells #[.int .i64 pi, .int .u32 pf, .int .i64 pt, .int .i64 pa, .slice none 0 0, .int .i64 ((sq : Nat) : Int), .int .i64 ((sn : Nat) : Int), .int .i64 tl, .bool fb] 85 (0, 0))).heap.size by simp)
  have k1 := below_at HB.out h1
  have k2 := below_at HB.out h2
  have kg := below_at HB.out hg
  have K3 := Shut.mk ((HB.out.block c3 (lt_blk h3)).trans h3)
  have HR1 := Shut.mk (hr.only (S := fun _ => False) (Only.of_quiet HB.out) (fun _ _ e => e))
  have HNE := Shut.mk hne
  have HYL := Shut.mk hY
  have HC3 := Shut.mk (lt_blk h3)
  obtain ⟨y, hy⟩ : ∃ y, y = whyF rt now (⟨⟨pi, pf, pt, pa, []⟩, sq, sn, tl⟩, fb) := ⟨_, rfl⟩
  have HRE := Shut.mk (reason_any g rt pi pf pt pa tl now sq sn fb _ kg)
  have HGP := Shut.mk (show goneP rt now (⟨⟨pi, pf, pt, pa, []⟩, sq, sn, tl⟩, fb) = decide (y ≠ 0) by rw [hy]; rfl)
  rw [← hy] at HRE
  rw [← hy, HGP.out]
  clear h1 h2 h3 hg hr hne hY hy HGP
  go_enter Tryd.func39, Tryd.ntmps39
  go_wp2_with (first
    | (refine wpList_load_row rfl 85 (.tmp 4) rfl w.heap.size rfl 85 #[.int .i64 pi, .int .u32 pf, .int .i64 pt, .int .i64 pa, .slice none 0 0, .int .i64 ((sq : Nat) : Int), .int .i64 ((sn : Nat) : Int), .int .i64 tl, .bool fb] (0, 0) _ HG.out Tryd.underlying85 rfl sizeF ?_))
  generalize World.alloc w _ = w1 at *
  refine HRE.out.mono ?_
  rintro e w2 ⟨rfl, hb⟩
  have HB2 := Shut.mk (HB.out.trans (hb.mono HSZ.out))
  have K32 := Shut.mk ((hb.block c3 (lt_blk K3.out)).trans K3.out)
  have HR2 := Shut.mk (HR1.out.only (S := fun _ => False) (Only.of_quiet hb) (fun _ _ e => e))
  clear hb k1 k2 kg HRE
  by_cases hy : y = 0
  · subst hy
    have HOK := Shut.mk (show Only (fun j => c3 = j ∨ (Value.slice A Y.length cc).ownBlock = some j) w w2 from Only.of_quiet HB2.out)
    go_wp2_with (fail)
    go_ret
    exact ⟨rfl, _, K32.out, by simpa using HR2.out, HOK.out, fun j hj => .inl hj⟩
  · have hyi : (((y : Nat) : Int) != 0) = true := by simp; omega
    have HYN := Shut.mk hy
    have HDY := Shut.mk (show decide (y ≠ 0) = true by simp [hy])
    have HIF := Shut.mk (show (if y = 0 then [] else [((y : Nat) : Int)]) = [((y : Nat) : Int)] from if_neg hy)
    have cz : w2.cell? ⟨c3, 0, none⟩ = some (Value.slice A Y.length cc) := by have h9 := block_range K32.out 0 _ rfl; exact h9
    have HA5 := Shut.mk ((Below.refl w2.heap.size w2).alloc (Nat.le_refl _) (Obj.cells #[.int .i64 ((y : Nat) : Int)] 3 (0, 0)))
    have HX5 := Shut.mk (block_range (MapKept.heap_alloc w2 (Obj.cells #[.int .i64 ((y : Nat) : Int)] 3 (0, 0))).1)
    have HR5 := Shut.mk (HR2.out.only (S := fun _ => False) (Only.of_quiet HA5.out) (fun _ _ e => e))
    obtain ⟨n6, hn6⟩ : ∃ n6, n6 = (Y ++ [((y : Nat) : Int)]).length := ⟨_, rfl⟩
    have HN6 := Shut.mk hn6
    clear hn6 cz
    have cz : (w2.alloc (Obj.cells #[.int .i64 ((y : Nat) : Int)] 3 (0, 0))).cell? ⟨c3, 0, none⟩ = some (Value.slice A Y.length cc) := by have h9 := block_range ((HA5.out.block c3 (lt_blk K32.out)).trans K32.out) 0 _ rfl; exact h9
    have cz2 : w2.cell? ⟨c3, 0, none⟩ = some (Value.slice A Y.length cc) := by have h9 := block_range K32.out 0 _ rfl; exact h9
    go_wp2_with (first
      | (refine wpList_app_n rfl (.tmp 13) (.tmp 15) rfl (Value.slice A Y.length cc) Y rfl HR5.out ((y : Nat) : Int) ⟨w2.heap.size, 0, none⟩ 1 rfl (fun j q hq => by rw [Addr.add_mid]; exact HX5.out j q hq) HYL.out ?_
         intro uq w6 HO6 HB6 HZ6
         obtain ⟨A6, c6, rfl, -⟩ := HO6.out.form
         rw [← HN6.out] at HO6 HZ6 ⊢
         have K36 := Shut.mk (HB6.out.at_ ((HA5.out.block c3 (lt_blk K32.out)).trans K32.out) (fun e => HNE.out c3 e rfl))
         have HSR := Shut.mk (setRow_heap w6 c3 _ #[.slice A6 n6 c6] _ (0, 0) K36.out)
         have HO7 := Shut.mk (only_setRow w6 c3 #[.slice A6 n6 c6]))
      | (refine wpList_store_into rfl 47 (.tmp 3) (.tmp 16) rfl c3 0 (.slice A6 n6 c6) rfl rfl rfl 47 _ #[.slice A6 n6 c6] K36.out sizeNs (by show 0 < 1; omega) rfl ?_))
    go_ret
    have hs1 : w2.heap.size ≤ (w2.alloc (Obj.cells #[.int .i64 ((y : Nat) : Int)] 3 (0, 0))).heap.size := HA5.out.size
    have hs2 : w.heap.size ≤ w2.heap.size := HB2.out.size
    have HJ : ∀ j, (Value.slice A6 n6 c6).ownBlock = some j → j = c3 → False := fun j hj e => by
      subst e
      rcases HZ6.out _ hj with h1 | h1
      · exact HNE.out _ h1 rfl
      · have := HC3.out; omega
    refine ⟨rfl, .slice A6 n6 c6, HSR.out, by exact HO6.out.only HO7.out (fun j hj e => HJ j hj e), ?_, fun j hj => ?_⟩
    · have q1 : Only (fun j => c3 = j ∨ (Value.slice A Y.length cc).ownBlock = some j) w w2 := Only.of_quiet HB2.out
      have q2 := q1.then_quiet HA5.out
      have q3 := q2.trans HB6.out fun i _ e => .inr e
      exact q3.trans HO7.out fun i _ e => .inl e.symm
    · rcases HZ6.out _ hj with h1 | h1
      · exact .inl h1
      · exact .inr (by omega)
end Go.Proofs.YtlbfioknkagboaaDoor
