/-
  BaOnce's PLACES AND FACTS, each call of the law in these words.
-/
import Derived.Test.YtlbfioknkagboaaDoorSeP
namespace Go.Proofs.YtlbfioknkagboaaDoor
open Go.ChangeShapes Go.WideShapes Go.ChangeAt Go.RowKit Go.Deep
set_option linter.unusedVariables false
set_option linter.unusedSimpArgs false

theorem why_len (r : Nat) (now : Int) (l : List Fm) : (whyL r now l).length = (toldM (goneP r now) l).length := by
  unfold whyL toldM
  rw [List.filter_map, List.length_map, List.length_map]
  congr 1
  refine List.filter_congr fun f _ => ?_
  show ((((whyF r now f : Nat) : Int)) != 0) = decide (whyF r now f ≠ 0)
  rw [Bool.eq_iff_iff]
  simp
theorem idle_fly (l : List Fm) : (toldM idleP l).length + (toldM flyP l).length = l.length := by
  unfold toldM
  rw [List.length_map, List.length_map]
  induction l with
  | nil => rfl
  | cons f r ih =>
    rw [List.filter_cons, List.filter_cons, show idleP f = !f.2 from rfl, show flyP f = f.2 from rfl]
    cases f.2 with
    | true => simp; omega
    | false => simp; omega
theorem fly_none {l : List Fm} (h : (toldM flyP l).length = 0) : l.any flyP = false := by
  unfold toldM at h
  rw [List.length_map, List.length_eq_zero_iff, List.filter_eq_nil_iff] at h
  rw [List.any_eq_false]
  exact h
theorem near_st {s : Sb} (h : InvB s) (hf : s.l.any flyP = true) : s.l.any (nearP ((s.x.st : Nat) : Int)) = true := by
  obtain ⟨f, hf1, hf2⟩ := List.any_eq_true.1 hf
  refine List.any_eq_true.2 ⟨f, hf1, ?_⟩
  obtain ⟨d, hd, e⟩ := h.inv.at_ hf1
  have hd6 := h.inv.d64 d hd
  have hst := h.inv.inv.st
  have h2 : f.2 = true := hf2
  unfold nearP
  rw [h2, Bool.true_and, decide_eq_true_iff, ← e]
  unfold rd nmW
  omega
theorem told_seq {l : List Fm} {x : Int} : x ∈ seqI (toldM idleP l) ↔ ∃ f ∈ l, f.2 = false ∧ ((f.1.seq : Nat) : Int) = x := by
  unfold seqI toldM
  rw [List.map_map, List.mem_map]
  constructor
  · rintro ⟨f, hf, e⟩
    obtain ⟨h1, h2⟩ := List.mem_filter.1 hf
    exact ⟨f, h1, by simpa [idleP] using h2, e⟩
  · rintro ⟨f, hf, h2, e⟩
    exact ⟨f, List.mem_filter.2 ⟨hf, by simp [idleP, h2]⟩, e⟩
theorem told_seq_nodup {l : List Fm} (h : (nums l).Nodup) : (seqI (toldM idleP l)).Nodup := by
  have h1 := nodup_filter (p := idleP) h
  unfold nums at h1
  unfold seqI toldM
  rw [List.map_map]
  have e : (l.filter idleP).map ((fun m : Mp => ((m.seq : Nat) : Int)) ∘ Prod.fst) = ((l.filter idleP).map fun f => f.1.seq).map fun k => ((k : Nat) : Int) := by
    rw [List.map_map]; rfl
  rw [e]
  show List.Pairwise _ _
  rw [List.pairwise_map]
  exact h1.imp fun {a b} hab e => hab (by exact_mod_cast e)
theorem went_pre {l : List Fm} {j : Nat} (hn : (nums l).Nodup) (hf : l.any flyP = false) : wentC l ((seqI (toldM idleP l)).take j) = 0 := by
  obtain ⟨xs, hx⟩ : ∃ xs, xs = (seqI (toldM idleP l)).take j := ⟨_, rfl⟩
  rw [← hx]
  have hnd : xs.Nodup := by rw [hx]; exact (told_seq_nodup hn).sublist (List.take_sublist _ _)
  have hin : ∀ x ∈ xs, ∃ f ∈ l, f.2 = false ∧ ((f.1.seq : Nat) : Int) = x := fun x h => told_seq.1 (List.mem_of_mem_take (by rw [← hx]; exact h))
  have hfine : fineB l xs = true := by
    apply fine_yes
    intro k hk
    have e : xs.getD k 0 = xs[k] := by simp [List.getD, hk]
    unfold fineAt
    rw [e]
    obtain ⟨f, h1, h2, h3⟩ := hin xs[k] (List.getElem_mem hk)
    have ha : l.any (dueP xs[k]) = true := List.any_eq_true.2 ⟨f, h1, by simp [dueP, h2, h3]⟩
    rw [ha, decide_eq_false]
    · rfl
    · intro hm
      obtain ⟨i, hi, e2⟩ := List.mem_take_iff_getElem.1 hm
      have hik : i < k := by omega
      exact (List.pairwise_iff_getElem.1 hnd) i k (by omega) hk hik e2
  unfold wentC
  rw [hfine, hf]
  rfl
theorem went_once {l : List Fm} {n over z j : Nat} {gone : Nat → Bool} (h : OnceI l n gone over (z + 1)) (hn : (nums l).Nodup) (hi : ∀ f ∈ l, f.2 = false → f.1.sent ≤ z) : OnceI (l.map (goI ((seqI (toldM idleP l)).take j))) n gone over (z + 1) := by
  refine once_map h (fun f hf => ?_) (fun f hf => ?_)
  · unfold goI; split <;> rfl
  · unfold goI
    split
    · rename_i hm
      obtain ⟨g, hg, hg2, e⟩ := told_seq.1 (List.mem_of_mem_take hm)
      have : g = f := one_at hn hg hf (by exact_mod_cast e)
      subst this
      have := hi g hg hg2
      show g.1.sent + 1 ≤ z + 1
      omega
    · exact h.sent f hf

/-! ### places -/
structure OnceP (w wr : World) (g cn cg co gb N n z over : Nat) (q : Sp) (s : Sb) (S : List Bool) : Prop where
  law : LawS w wr q s
  gq : q.g = g
  fn : EndF wr cn cg co gb N n over S
  st : s.state ≠ 2
  va : s.vain = 0
  rt : s.retry = z
  li : s.life = 1000
  ap : ∀ k, FootS q k → k ≠ cn ∧ k ≠ cg ∧ k ≠ co ∧ k ≠ gb
  lo : w.heap.size ≤ cn ∧ w.heap.size ≤ cg ∧ w.heap.size ≤ co ∧ w.heap.size ≤ gb
structure OnceW (w wr : World) (g cn cg co gb N n z over : Nat) (q : Sp) (s : Sb) (S : List Bool) : Prop where
  p : OnceP w wr g cn cg co gb N n z over q s S
  i : OnceI s.l n (goneT S) over (z + 1)
/-- some came out; they are to be told to the law. -/
structure OnceM (w wr : World) (g cn cg co gb N n z over : Nat) (q : Sp) (s : Sb) (S : List Bool) (A : Option Addr) (nm : Nat) (l : List Fm) (P : Fm → Bool) : Prop where
  p : OnceP w wr g cn cg co gb N n z over q s S
  i : OnceI l n (goneT S) over (z + 1)
  nd : (nums l).Nodup
  row : RowS mpC 8 mp0 wr A nm (toldM P l)
  fin : ∀ (S' : List Bool) (over' : Nat), OnceI (l.filter fun f => !P f) n (goneT S') over' (z + 1) → OnceI s.l n (goneT S') over' (z + 1)
  idl : ∀ f ∈ s.l, f.2 = false → f.1.sent ≤ z + 1
theorem alloc_sz (w : World) (o : Obj) : (w.alloc o).heap.size = w.heap.size + 1 := by simp
theorem once_start {w wX w4 : World} {p0 : Sp} {s : Sb} {g z : Nat} (hl : LawS w wX p0 s) (hsl : s.l = []) (h1 : s.state ≠ 2) (h2 : s.vain = 0) (h3 : s.retry = z) (h4 : s.life = 1000) (hg : p0.g = g) (m : Nat)
    (hown : w4.ownsRow wX.heap.size 4 1 (.slice (some ⟨(wX.alloc (Obj.cells #[.int .i64 0] 3 (0, 0))).heap.size, 0, none⟩) (m + 2) (m + 2)) (m + 2) (madeCells (Value.bool false).cells ((m + 2) * 1)).toList) (hgr : (wX.alloc (Obj.cells #[.int .i64 0] 3 (0, 0))).grownBy w4 none) :
    OnceW w ((w4.alloc (Obj.cells #[.slice (some ⟨wX.heap.size + 1, 0, none⟩) (m + 2) (m + 2)] 33 (0, 0))).alloc (Obj.cells #[.int .i64 0] 3 (0, 0))) g wX.heap.size w4.heap.size (w4.heap.size + 1) (wX.heap.size + 1) (m + 2) 0 z 0 p0 s (List.replicate (m + 2) false) := by
  have hO := (Only.refl (fun _ => False) _).grown hgr (by simp)
  have hn4 := hO.at_ (MapKept.heap_alloc wX (Obj.cells #[.int .i64 0] 3 (0, 0))).1 (fun e => e)
  have hb4 := made_rowT hown
  rw [alloc_sz] at hb4
  have hB4 : Below wX.heap.size wX w4 := ((Below.refl wX.heap.size wX).alloc (Nat.le_refl _) _).trans (((Below.refl _ _).grown hgr (Nat.le_refl _) (by simp)).mono (by simp))
  obtain ⟨hB5, hcg, hco, -⟩ := two_alloc w4 (Obj.cells #[.slice (some ⟨wX.heap.size + 1, 0, none⟩) (m + 2) (m + 2)] 33 (0, 0)) (Obj.cells #[.int .i64 0] 3 (0, 0))
  have hlb : wX.heap.size + 1 < w4.heap.size := lt_blk hb4
  have hlw : w.heap.size ≤ wX.heap.size := hl.bel.size
  have hft := hl.foot
  have hgT : goneT (List.replicate (m + 2) false) = fun _ => false := by
    funext j
    unfold goneT
    by_cases hj : j < m + 2
    · simp [List.getD, hj]
    · simp [List.getD, hj]
  refine ⟨⟨(hl.quiet hB4).quiet hB5, hg, ⟨(Only.of_quiet (S := fun _ => False) hB5).at_ hn4 (fun e => e), ?_, (Only.of_quiet (S := fun _ => False) hB5).at_ hb4 (fun e => e), ?_, by simp, ⟨⟨by omega, by omega, by omega⟩, by omega, by omega, by omega⟩⟩, h1, h2, h3, h4, fun k hk => ?_, ⟨hlw, by omega, by omega, by omega⟩⟩, ?_⟩
  · exact hcg
  · exact hco
  · have := hft k hk; omega
  · rw [hsl, hgT]; exact once_zero _
section
variable {w wr w' : World} {g cn cg co gb N n z over : Nat} {q q' : Sp} {s s' : Sb} {S : List Bool}
theorem OnceP.quiet (h : OnceP w wr g cn cg co gb N n z over q s S) (hb : Below wr.heap.size wr w') : OnceP w w' g cn cg co gb N n z over q s S :=
  ⟨h.law.quiet hb, h.gq, h.fn.below hb, h.st, h.va, h.rt, h.li, h.ap, h.lo⟩
theorem OnceW.quiet (h : OnceW w wr g cn cg co gb N n z over q s S) (hb : Below wr.heap.size wr w') : OnceW w w' g cn cg co gb N n z over q s S := ⟨h.p.quiet hb, h.i⟩
theorem OnceP.lts (h : OnceP w wr g cn cg co gb N n z over q s S) : cn < wr.heap.size ∧ cg < wr.heap.size ∧ co < wr.heap.size ∧ gb < wr.heap.size := ⟨lt_blk h.fn.bn, lt_blk h.fn.bg, lt_blk h.fn.bo, lt_blk h.fn.bb⟩
theorem OnceP.turn (h : OnceP w wr g cn cg co gb N n z over q s S) (hl : LawS w w' q' s') (hs : StepS wr w' q q') (hg : q'.g = q.g) (h1 : s'.state = s.state) (h2 : s'.vain = 0) (h3 : s'.retry = s.retry) (h4 : s'.life = s.life) : OnceP w w' g cn cg co gb N n z over q' s' S :=
  ⟨hl, hg.trans h.gq, h.fn.only hs.only (fun e => (h.ap _ e).1 rfl) (fun e => (h.ap _ e).2.1 rfl) (fun e => (h.ap _ e).2.2.1 rfl) (fun e => (h.ap _ e).2.2.2 rfl), by rw [h1]; exact h.st, h2, h3.trans h.rt, h4.trans h.li, fun k hk => by
    rcases hs.fresh k hk with e | e
    · exact h.ap k e
    · have := h.lts; omega, h.lo⟩
/-- a cell, a row of the law's own turned. -/
theorem OnceP.ended (h : OnceP w wr g cn cg co gb N n z over q s S) {n' over' : Nat} {S' : List Bool} {Q : Nat → Prop} (ho : Only Q wr w') (hq : ∀ k, Q k → k = cn ∨ k = gb ∨ k = co) (hf : EndF w' cn cg co gb N n' over' S') : OnceP w w' g cn cg co gb N n' z over' q s S' :=
  ⟨h.law.beside ho (fun k hk e => by have := h.ap k hk; rcases hq k e with e | e | e <;> omega) (fun k e => by have := h.lo; rcases hq k e with e | e | e <;> omega), h.gq, hf, h.st, h.va, h.rt, h.li, h.ap, h.lo⟩
theorem cell_of {g : Nat} {cur : Array Value} {t : TypeId} {i : Nat} {v : Value} (h : wr.heap[g]? = some (.cells cur t (0, 0))) (hc : wr.cell? ⟨g, i, none⟩ = some v) : cur[i]? = some v := by
  rw [← hc]
  simp [World.cell?, h]
theorem row_apart {A : Option Addr} {nm : Nat} {L : List Mp} (hr : RowS mpC 8 mp0 wr A nm L) (hf : EndF wr cn cg co gb N n over S) (hp : 0 < nm) : ∀ a, A = some a → a.block ≠ gb ∧ a.block ≠ co := by
  intro a ha
  obtain ⟨b, off, e, h1⟩ := hr.els hp
  rw [e] at ha
  cases ha
  have h2 := h1 0 hp
  have c0 : wr.cell? ⟨b, off + 0 * 8 + 0, none⟩ = some (.int .i64 (L.getD 0 mp0).pk.id) := h2 0 _ rfl
  have c7 : wr.cell? ⟨b, off + 0 * 8 + 7, none⟩ = some (.int .i64 (L.getD 0 mp0).til) := h2 7 _ rfl
  constructor
  · intro eb
    have eb' : b = gb := eb
    subst eb'
    have h3 := cell_of hf.bb c0
    unfold rowT at h3
    rw [List.getElem?_toArray, List.getElem?_map] at h3
    cases h4 : S[off + 0 * 8 + 0]? with
    | none => rw [h4] at h3; cases h3
    | some b => rw [h4] at h3; cases h3
  · intro eb
    have eb' : b = co := eb
    subst eb'
    have h3 := cell_of hf.bo c7
    have h4 := (Array.getElem?_eq_some_iff.1 h3).1
    have h5 : off + 0 * 8 + 7 < 1 := h4
    omega

/-! ### the calls -/
theorem end_w {A : Option Addr} {nm : Nat} {l : List Fm} {P : Fm → Bool} (h : OnceM w wr g cn cg co gb N n z over q s S A nm l P) (c : Nat) (hnN : n < N) (hN : N ≤ 1000) (hz : z ≤ 100) (most : Int) (hm : ((z : Nat) : Int) + 1 = most) :
    Calls Tryd.prog 14 #[.slice A nm c, .int .i64 most, .pointer (some ⟨cn, 0, none⟩), .pointer (some ⟨cg, 0, none⟩), .pointer (some ⟨co, 0, none⟩)] wr fun e w' => e = .returned (.bool true) ∧ ∃ S' over', OnceW w w' g cn cg co gb N n z over' q s S' ∧ Only (fun k => k = gb ∨ k = co) wr w' := by
  subst hm
  refine (end_any wr cn cg co gb N n over (z + 1) S A nm c l P h.row h.p.fn (row_apart h.row h.p.fn) hnN hN (by omega) h.i h.nd).mono ?_
  rintro e w1 ⟨rfl, S', over', hf, hi, ho⟩
  exact ⟨rfl, S', over', ⟨h.p.ended ho (fun k e => .inr e) hf, h.fin S' over' hi⟩, ho⟩
theorem sweep_w (h : OnceW w wr g cn cg co gb N n z over q s S) (hT : Tab64 w) (now : Int) :
    Calls Tryd.prog 16 #[.pointer (some ⟨g, 0, none⟩), .int .i64 now] wr fun e w' => ∃ A c Au cu nm q' t l P, e = .returned (.tuple #[.slice A nm c, .slice Au nm cu]) ∧ nm ≤ 64 ∧ nm ≤ c ∧ OnceM w w' g cn cg co gb N n z over q' t S A nm l P ∧ (∀ f ∈ t.l, f.2 = false → f.1.sent ≤ z) ∧ StepS wr w' q q' := by
  have hc := sweep_l h.p.law hT now
  rw [h.p.gq] at hc
  refine hc.mono ?_
  rintro e w1 ⟨A, c, Au, cu, q', t, rfl, hrow, -, hl, hsw, hst, hg, hcc, -⟩
  rw [why_len]
  have hidl : ∀ f ∈ t.l, f.2 = false → f.1.sent ≤ z := fun f hf h2 => by
    rw [hsw.l] at hf
    have h3 := (List.mem_filter.1 hf).2
    unfold goneP whyF at h3
    rw [if_neg (by rw [h2]; simp)] at h3
    unfold whyM at h3
    rw [h.p.rt] at h3
    by_cases h4 : z < f.1.sent
    · rw [if_pos h4] at h3; simp at h3
    · omega
  exact ⟨A, c, Au, cu, _, q', t, s.l, goneP s.retry now, rfl, Nat.le_trans told_len h.p.law.inv.len, hcc, ⟨h.p.turn hl hst (hg.trans h.p.gq.symm) hsw.state (hsw.vain.trans h.p.va) hsw.retry hsw.life, h.i, h.p.law.inv.inv.nodup, hrow, fun S' o' hi => by rw [hsw.l]; exact hi, fun f hf h2 => Nat.le_succ_of_le (hidl f hf h2)⟩, hidl, hst⟩
theorem heard_w {E : Nat → Addr} (h : OnceW w wr g cn cg co gb N n z over q s S) (hT : Tab64 w) (hS : Sent w E [110]) (M : Nat) (hM : M < 18446744073709551616) :
    Calls Tryd.prog 21 #[.pointer (some ⟨g, 0, none⟩), .agg #[.int .u8 0, .int .u8 0, .int .u8 0, .int .u8 0, .int .u8 0, .int .u8 0, .int .u8 0, .int .u8 0, .int .u8 0, .int .u8 0, .int .u8 0, .int .u8 0, .int .i64 0, .int .i64 ((s.x.st : Nat) : Int), .int .u64 ((M : Nat) : Int)]] wr fun e w' => ∃ A c nm er, e = .returned (.tuple #[.slice A nm c, er]) ∧ ((er = errP (E 110) ∧ OnceW w w' g cn cg co gb N n z over q s S) ∨ (er = .nilIface ∧ ∃ q' t l P, OnceM w w' g cn cg co gb N n z over q' t S A nm l P)) := by
  cases hf : s.l.any flyP with
  | false =>
    have hc := heard_no h.p.law.se h.p.law.inv hf s.x.st M E ((hS.below h.p.law.bel).at_ 110 (by decide))
    rw [h.p.gq] at hc
    refine hc.mono ?_
    rintro e w1 ⟨rfl, hb⟩
    exact ⟨_, _, _, _, rfl, .inl ⟨rfl, h.quiet hb⟩⟩
  | true =>
    have hc := heard_l h.p.law hT hf s.x.st M (by have := h.p.law.inv.inv.inv.st; omega) hM (near_st h.p.law.inv hf)
    rw [h.p.gq] at hc
    refine hc.mono ?_
    rintro e w1 ⟨A, c, q', x', rfl, hrow, hl, -, -, hst, hg, -⟩
    refine ⟨A, c, _, _, rfl, .inr ⟨rfl, q', _, s.l, ackP s.x.st M, ⟨h.p.turn hl hst (hg.trans h.p.gq.symm) rfl h.p.va rfl rfl, h.i, h.p.law.inv.inv.nodup, hrow, fun S' o' hi => ?_, fun f hf2 h2 => ?_⟩⟩⟩
    · exact once_map hi (fun f _ => rfl) (fun f hf => hi.sent f hf)
    · obtain ⟨x, hx, rfl⟩ := List.mem_map.1 (show f ∈ lostL _ from hf2)
      exact h.i.sent x (List.mem_filter.1 hx).1
theorem lost_w {E : Nat → Addr} (h : OnceW w wr g cn cg co gb N n z over q s S) (hS : Sent w E [110]) :
    Calls Tryd.prog 23 #[.pointer (some ⟨g, 0, none⟩)] wr fun e w' => ∃ v s', e = .returned v ∧ OnceW w w' g cn cg co gb N n z over q s' S := by
  cases hf : s.l.any flyP with
  | false =>
    have hc := lost_no h.p.law.se h.p.law.inv hf E ((hS.below h.p.law.bel).at_ 110 (by decide))
    rw [h.p.gq] at hc
    refine hc.mono ?_
    rintro e w1 ⟨rfl, hb⟩
    exact ⟨_, s, rfl, h.quiet hb⟩
  | true =>
    have hc := lost_l h.p.law hf
    rw [h.p.gq] at hc
    refine hc.mono ?_
    rintro e w1 ⟨rfl, hl, hst⟩
    exact ⟨_, _, rfl, h.p.turn hl hst rfl rfl h.p.va rfl rfl, once_map h.i (fun f _ => rfl) (fun f hf => h.i.sent f hf)⟩
theorem barred_w (h : OnceW w wr g cn cg co gb N n z over q s S) :
    Calls Tryd.prog 24 #[.pointer (some ⟨g, 0, none⟩), .bool true] wr fun e w' => e = .returned (.tuple #[]) ∧ ∃ s', OnceW w w' g cn cg co gb N n z over q s' S := by
  have hc := barred_l h.p.law (by rw [h.p.va]; decide) true
  rw [h.p.gq] at hc
  refine hc.mono ?_
  rintro e w1 ⟨rfl, hl, hst⟩
  refine ⟨rfl, _, h.p.turn hl hst rfl ?_ ?_ ?_ ?_, ?_⟩
  · unfold barC; split; split; rfl; rfl; rfl
  · unfold barC; split; rfl; exact h.p.va
  · unfold barC; split; rfl; rfl
  · unfold barC; split; rfl; rfl
  · have e : (barC s true).l = s.l := by unfold barC; split; rfl; rfl
    rw [e]; exact h.i
theorem fresh_w {E : Nat → Addr} (h : OnceW w wr g cn cg co gb N n z over q s S) (hS : Sent w E [109]) (now : Int) (h0 : 0 ≤ now) (h1 : now ≤ 1000000000000) (id : Int) (hid : id = ((n + 1 : Nat) : Int)) :
    Calls Tryd.prog 15 #[.pointer (some ⟨g, 0, none⟩), .agg #[.int .i64 id, .int .u32 0, .int .i64 0, .int .i64 0, .slice none 0 0], .int .i64 now] wr fun e w' => ∃ a0 a1 a2 a3 a5 a6 a7 er, e = .returned (.tuple #[.agg #[.int .i64 a0, .int .u32 a1, .int .i64 a2, .int .i64 a3, .slice none 0 0, .int .i64 a5, .int .i64 a6, .int .i64 a7], er]) ∧ ((er = .nilIface ∧ ∃ q' s', OnceP w w' g cn cg co gb N n z over q' s' S ∧ OnceI s'.l (n + 1) (goneT S) over (z + 1)) ∨ (er = errP (E 109) ∧ OnceW w w' g cn cg co gb N n z over q s S)) := by
  cases ha : s.ask with
  | true =>
    have hc := fresh_ask h.p.law.se h.p.st ha id 0 0 0 now E ((hS.below h.p.law.bel).at_ 109 (by decide))
    rw [h.p.gq] at hc
    refine hc.mono ?_
    rintro e w1 ⟨rfl, hb⟩
    exact ⟨_, _, _, _, _, _, _, _, rfl, .inr ⟨rfl, h.quiet hb⟩⟩
  | false =>
    by_cases hg : s.x.gv < s.x.sz
    · have hc := fresh_l h.p.law h.p.st ha hg id 0 0 0 now h0 h1 _ _ rfl rfl
      rw [h.p.gq] at hc
      refine hc.mono ?_
      rintro e w1 ⟨rfl, q', hl, hst, hg2⟩
      exact ⟨_, _, _, _, _, _, _, _, rfl, .inl ⟨rfl, q', _, h.p.turn hl hst (hg2.trans h.p.gq.symm) rfl h.p.va rfl rfl, once_fresh h.i hid (Nat.zero_le _)⟩⟩
    · have hc := fresh_full h.p.law.se h.p.law.inv h.p.st ha hg id 0 0 0 now E ((hS.below h.p.law.bel).at_ 109 (by decide))
      rw [h.p.gq] at hc
      refine hc.mono ?_
      rintro e w1 ⟨rfl, hb⟩
      exact ⟨_, _, _, _, _, _, _, _, rfl, .inr ⟨rfl, h.quiet hb⟩⟩
/-- n is one more. -/
theorem OnceP.more (h : OnceP w wr g cn cg co gb N n z over q s S) (hi : OnceI s.l (n + 1) (goneT S) over (z + 1)) (v : Int) (hv : v = ((n + 1 : Nat) : Int)) (hw : w' = wr.setRow cn #[.int .i64 v]) : OnceW w w' g cn cg co gb N (n + 1) z over q s S := by
  subst hv
  subst hw
  have hO := only_setRow wr cn #[.int .i64 ((n + 1 : Nat) : Int)]
  have hB := setRow_heap wr cn _ #[.int .i64 ((n + 1 : Nat) : Int)] _ (0, 0) h.fn.bn
  have hne := h.fn.ne
  exact ⟨h.ended hO (fun k e => .inl e) ⟨hB, hO.at_ h.fn.bg (fun e => hne.2.2.2 e.symm), hO.at_ h.fn.bb (fun e => hne.1.1 e.symm), hO.at_ h.fn.bo (fun e => hne.2.1 e.symm), h.fn.len, h.fn.ne⟩, hi⟩
/-- a prefix of what is due is sent. -/
theorem went_w {E : Nat → Addr} (h : OnceW w wr g cn cg co gb N n z over q s S) (hS : Sent w E [107, 110]) (hi : ∀ f ∈ s.l, f.2 = false → f.1.sent ≤ z) (hz : z ≤ 100) (A : Option Addr) (m c j : Nat) (hj : j ≤ m) (hmc : j ≤ c) (hx : RowB .i64 wr A m (seqI (toldM idleP s.l))) (hap : ∀ a, A = some a → ¬ FootS q a.block) (hf : (toldM flyP s.l).length = 0) :
    Calls Tryd.prog 20 #[.pointer (some ⟨g, 0, none⟩), .slice A j c] wr fun e w' => e = .returned .nilIface ∧ ∃ s', OnceW w w' g cn cg co gb N n z over q s' S := by
  have hnd := h.p.law.inv.inv.nodup
  have hw := went_pre (j := j) hnd (fly_none hf)
  have hc := went_l h.p.law (hS.below (Below.refl _ _)) A j c ((seqI (toldM idleP s.l)).take j) (hx.first j hj) hmc hap (fun f hf => by have := h.i.sent f hf; omega) 0 hw _ (wentT_0 hw)
  rw [h.p.gq, errV_zero] at hc
  refine hc.mono ?_
  rintro e w1 ⟨rfl, hl, hst⟩
  exact ⟨rfl, _, h.p.turn hl hst rfl rfl h.p.va rfl rfl, went_once h.i hnd hi⟩
end
end Go.Proofs.YtlbfioknkagboaaDoor
