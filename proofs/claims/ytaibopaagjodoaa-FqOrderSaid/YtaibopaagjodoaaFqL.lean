/-
  FQ's QUEUE: its block known whole, by the model and the slice values; a flow of it, its lists, turned and put back.
-/
import Derived.Test.YtaibopaagjodoaaFqK
import Derived.Test.YtaibopaagjodoaaFqC
import Derived.Test.YtaibopaagjodoaaKeptM
namespace Go.Proofs.Ytaibopaagjodoaa
open Go.ChangeShapes Go.WideShapes Go.ChangeAt Go.RowKit Go.Deep
set_option linter.unusedVariables false
set_option linter.unusedSimpArgs false

/-! ### the block -/
def fcF (V : Nat → Value) (f : Nat → Fl) (b : Nat) : List Value := fcR (V b) (V (16 + b)) (bytesF (f b).pk) (f b).df (f b).cd
def cqH (x : Rq) : List Value := [.int .u32 x.seed, .int .i64 x.tg, .int .i64 x.iv]
def cqC (x : Rq) (V : Nat → Value) (f : Nat → Fl) : List Value := cqH x ++ ((List.range 16).flatMap (fcF V f) ++ [V 32, V 33])
theorem range_split : ∀ b, b < 16 → List.range 16 = List.range b ++ b :: (List.range (15 - b)).map (fun k => b + 1 + k) := by decide
theorem flat_map_congr {α β : Type} {F G : α → List β} {l : List α} (h : ∀ a ∈ l, F a = G a) : l.flatMap F = l.flatMap G := by
  induction l with
  | nil => rfl
  | cons a l ih => rw [List.flatMap_cons, List.flatMap_cons, h a List.mem_cons_self, ih fun b hb => h b (List.mem_cons_of_mem _ hb)]
/-- flow b of it. -/
theorem cq_split (x : Rq) (V : Nat → Value) (f : Nat → Fl) {b : Nat} (hb : b < 16) : ∃ pre post, pre.length = 3 + b * 9 ∧ cqC x V f = pre ++ fcF V f b ++ post ∧
    ∀ (U : Nat → Value) (h : Nat → Fl), (∀ k, k < 34 → k ≠ b → k ≠ 16 + b → U k = V k) → (∀ k, k < 16 → k ≠ b → h k = f k) → cqC x U h = pre ++ fcF U h b ++ post := by
  have hr := range_split b hb
  refine ⟨cqH x ++ (List.range b).flatMap (fcF V f), ((List.range (15 - b)).map (fun k => b + 1 + k)).flatMap (fcF V f) ++ [V 32, V 33], ?_, ?_, fun U h hU hh => ?_⟩
  · rw [List.length_append, flat_range_len _ 9 (fun _ => rfl)]; rfl
  · unfold cqC
    rw [hr, List.flatMap_append, List.flatMap_cons]
    simp only [List.append_assoc]
  · unfold cqC
    rw [hr, List.flatMap_append, List.flatMap_cons]
    have e1 : (List.range b).flatMap (fcF U h) = (List.range b).flatMap (fcF V f) := flat_map_congr fun k hk => by
      have hk' := List.mem_range.1 hk
      unfold fcF
      rw [hU k (by omega) (by omega) (by omega), hU (16 + k) (by omega) (by omega) (by omega), hh k (by omega) (by omega)]
    have e2 : ((List.range (15 - b)).map (fun k => b + 1 + k)).flatMap (fcF U h) = ((List.range (15 - b)).map (fun k => b + 1 + k)).flatMap (fcF V f) := flat_map_congr fun k hk => by
      obtain ⟨j, hj, rfl⟩ := List.mem_map.1 hk
      have hk' := List.mem_range.1 hj
      unfold fcF
      rw [hU _ (by omega) (by omega) (by omega), hU (16 + (b + 1 + j)) (by omega) (by omega) (by omega), hh _ (by omega) (by omega)]
    rw [e1, e2, hU 32 (by omega) (by omega) (by omega), hU 33 (by omega) (by omega) (by omega)]
    simp only [List.append_assoc]
/-- its lists. -/
theorem cq_lists (x : Rq) (V : Nat → Value) (f : Nat → Fl) : ∃ pre, pre.length = 147 ∧ cqC x V f = pre ++ [V 32, V 33] ++ [] ∧ ∀ U : Nat → Value, (∀ k, k < 32 → U k = V k) → cqC x U f = pre ++ [U 32, U 33] ++ [] := by
  refine ⟨cqH x ++ (List.range 16).flatMap (fcF V f), ?_, ?_, fun U hU => ?_⟩
  · rw [List.length_append, flat_range_len _ 9 (fun _ => rfl)]; rfl
  · unfold cqC; simp only [List.append_assoc, List.append_nil]
  · unfold cqC
    have e1 : (List.range 16).flatMap (fcF U f) = (List.range 16).flatMap (fcF V f) := flat_map_congr fun k hk => by
      have hk' := List.mem_range.1 hk
      unfold fcF
      rw [hU k (by omega), hU (16 + k) (by omega)]
    rw [e1]; simp only [List.append_assoc, List.append_nil]
/-- the queue q lies at x: its slices V (b: packets, 16 + b: items, 32, 33: the lists), bodies in T. -/
structure IsCq (T : Nat → Prop) (w : World) (x : Rq) (V : Nat → Value) (q : Qu) : Prop where
  blk : w.heap[x.g]? = some (.cells (cqC x V q.fl).toArray 72 (0, 0))
  pk : ∀ b, b < 16 → RowPk T w (V b) (q.fl b).pk
  it : ∀ b, b < 16 → RowIt w (V (16 + b)) (itemsF (q.fl b).pk)
  fr : RowN w (V 32) (natsI q.fresh)
  el : RowN w (V 33) (natsI q.elder)
  own : ∀ i, i < 34 → ∀ j, j < 34 → i ≠ j → ∀ k, (V i).ownBlock = some k → (V j).ownBlock ≠ some k
  apart : ∀ i, i < 34 → ∀ k, (V i).ownBlock = some k → k ≠ x.g ∧ ¬ T k
  there : ∀ k, T k → k < w.heap.size
  apt : ¬ T x.g
/-- the blocks that it writes. -/
def FootC (x : Rq) (V : Nat → Value) (k : Nat) : Prop := k = x.g ∨ ∃ i, i < 34 ∧ (V i).ownBlock = some k
/-- what a call on a queue leaves. -/
structure CqS (T : Nat → Prop) (w : World) (x : Rq) (V : Nat → Value) (T' : Nat → Prop) (w' : World) (V' : Nat → Value) : Prop where
  only : Only (FootC x V) w w'
  fresh : ∀ k, FootC x V' k → FootC x V k ∨ w.heap.size ≤ k
  ft : ∀ k, T' k → T k ∨ w.heap.size ≤ k
  tt : ∀ k, T k → T' k
section
variable {T T' S : Nat → Prop} {w w' w2 : World} {x : Rq} {V V' : Nat → Value} {q : Qu}
theorem IsCq.lt (h : IsCq T w x V q) : x.g < w.heap.size := lt_blk h.blk
theorem IsCq.ltV (h : IsCq T w x V q) {i : Nat} (hi : i < 34) {k : Nat} (hk : (V i).ownBlock = some k) : k < w.heap.size := by
  by_cases h1 : i < 16
  · exact (h.pk i h1).lt k hk
  · by_cases h2 : i < 32
    · obtain ⟨b, rfl⟩ : ∃ b, i = 16 + b := ⟨i - 16, by omega⟩
      exact (h.it b (by omega)).lt k hk
    · rcases (show i = 32 ∨ i = 33 by omega) with rfl | rfl
      · exact h.fr.lt k hk
      · exact h.el.lt k hk
theorem IsCq.lts (h : IsCq T w x V q) {k : Nat} (hk : FootC x V k) : k < w.heap.size := by
  rcases hk with rfl | ⟨i, hi, e⟩
  · exact h.lt
  · exact h.ltV hi e
theorem IsCq.only (h : IsCq T w x V q) (ho : Only S w w') (hf : ∀ k, FootC x V k → ¬ S k) (ht : ∀ k, T k → ¬ S k) : IsCq T w' x V q where
  blk := ho.at_ h.blk (hf _ (.inl rfl))
  pk := fun b hb => (h.pk b hb).only ho (fun g hg => hf _ (.inr ⟨b, by omega, hg⟩)) ht
  it := fun b hb => (h.it b hb).only ho (fun g hg => hf _ (.inr ⟨16 + b, by omega, hg⟩))
  fr := h.fr.only ho fun g hg => hf _ (.inr ⟨32, by omega, hg⟩)
  el := h.el.only ho fun g hg => hf _ (.inr ⟨33, by omega, hg⟩)
  own := h.own
  apart := h.apart
  there := fun k hk => Nat.lt_of_lt_of_le (h.there k hk) ho.size
  apt := h.apt
theorem IsCq.quiet (h : IsCq T w x V q) (hb : Below w.heap.size w w') : IsCq T w' x V q :=
  h.only (S := fun _ => False) (Only.of_quiet hb) (fun _ _ e => e) (fun _ _ e => e)
theorem CqS.refl : CqS T w x V T w V := ⟨Only.refl _ _, fun k h => .inl h, fun k h => .inl h, fun k h => h⟩
theorem CqS.trans {T2 : Nat → Prop} {V2 : Nat → Value} (h : CqS T w x V T' w' V') (k : CqS T' w' x V' T2 w2 V2) : CqS T w x V T2 w2 V2 where
  only := h.only.trans k.only fun i hi e => by
    rcases h.fresh i e with h1 | h1
    · exact h1
    · omega
  fresh := fun i e => by
    rcases k.fresh i e with h1 | h1
    · exact h.fresh i h1
    · exact .inr (Nat.le_trans h.only.size h1)
  ft := fun i e => by
    rcases k.ft i e with h1 | h1
    · exact h.ft i h1
    · exact .inr (Nat.le_trans h.only.size h1)
  tt := fun i e => k.tt i (h.tt i e)
theorem CqS.quiet (h : CqS T w x V T' w' V') (hb : Below w'.heap.size w' w2) : CqS T w x V T' w2 V' := ⟨h.only.then_quiet hb, h.fresh, h.ft, h.tt⟩
theorem CqS.over (h : CqS T w x V T' w' V') (ho : Only S w' w2) (hS : ∀ k, S k → w.heap.size ≤ k) : CqS T w x V T' w2 V' :=
  ⟨h.only.trans ho fun i hi e => by have := hS i e; omega, h.fresh, h.ft, h.tt⟩
theorem CqS.from_ (hb : Below w.heap.size w w') (h : CqS T w' x V T' w2 V') : CqS T w x V T' w2 V' :=
  ⟨(Only.of_quiet hb).trans h.only fun _ _ e => e, fun k e => (h.fresh k e).imp id (Nat.le_trans hb.size), fun k e => (h.ft k e).imp id (Nat.le_trans hb.size), h.tt⟩
/-- a flow of it. -/
theorem IsCq.flow (h : IsCq T w x V q) {b : Nat} (hb : b < 16) {pre post : List Value} (hs : cqC x V q.fl = pre ++ fcF V q.fl b ++ post) :
    FlB T w x.g 72 pre post (V b) (V (16 + b)) (q.fl b).pk (itemsF (q.fl b).pk) (bytesF (q.fl b).pk) (q.fl b).df (q.fl b).cd where
  blk := by have := h.blk; rw [hs] at this; exact this
  pk := h.pk b hb
  it := h.it b hb
  pg := fun k hk => h.apart b (by omega) k hk
  ig := fun k hk => h.apart (16 + b) (by omega) k hk
  pi := fun k hk => h.own b (by omega) (16 + b) (by omega) (by omega) k hk
  there := h.there
  gt := h.apt
def upd2 (V : Nat → Value) (b : Nat) (vp vi : Value) : Nat → Value := fun k => if k = b then vp else if k = 16 + b then vi else V k
/-- the flow put back. -/
theorem IsCq.put_flow (h : IsCq T w x V q) {b : Nat} (hb : b < 16) {pre post : List Value}
    (hs : ∀ (U : Nat → Value) (h : Nat → Fl), (∀ k, k < 34 → k ≠ b → k ≠ 16 + b → U k = V k) → (∀ k, k < 16 → k ≠ b → h k = q.fl k) → cqC x U h = pre ++ fcF U h b ++ post)
    {vp vi : Value} {y : Fl} (hf : FlB T' w' x.g 72 pre post vp vi y.pk (itemsF y.pk) (bytesF y.pk) y.df y.cd) (hS : FlS T w x.g (V b) (V (16 + b)) T' w' vp vi) :
    IsCq T' w' x (upd2 V b vp vi) ⟨setF q.fl b y, q.fresh, q.elder⟩ ∧ CqS T w x V T' w' (upd2 V b vp vi) := by
  have eb : upd2 V b vp vi b = vp := by simp [upd2]
  have ei : upd2 V b vp vi (16 + b) = vi := by unfold upd2; rw [if_neg (by omega), if_pos rfl]
  have eo : ∀ k, k ≠ b → k ≠ 16 + b → upd2 V b vp vi k = V k := fun k h1 h2 => by unfold upd2; rw [if_neg h1, if_neg h2]
  have hnot : ∀ i, i < 34 → i ≠ b → i ≠ 16 + b → ∀ k, (V i).ownBlock = some k → ¬ (k = x.g ∨ (V b).ownBlock = some k ∨ (V (16 + b)).ownBlock = some k) := fun i hi h1 h2 k hk e => by
    rcases e with e | e | e
    · exact (h.apart i hi k hk).1 e
    · exact h.own i hi b (by omega) h1 k hk e
    · exact h.own i hi (16 + b) (by omega) h2 k hk e
  have hT : ∀ k, T k → ¬ (k = x.g ∨ (V b).ownBlock = some k ∨ (V (16 + b)).ownBlock = some k) := fun k hk e => by
    rcases e with e | e | e
    · exact h.apt (e ▸ hk)
    · exact (h.apart b (by omega) k e).2 hk
    · exact (h.apart (16 + b) (by omega) k e).2 hk
  have hold : ∀ i, i < 34 → ∀ k, (upd2 V b vp vi i).ownBlock = some k → (V i).ownBlock = some k ∨ (w.heap.size ≤ k ∧ (i = b ∨ i = 16 + b)) := fun i hi k hk => by
    by_cases h1 : i = b
    · subst h1
      rw [eb] at hk
      exact (hS.fp k hk).imp id fun e => ⟨e, .inl rfl⟩
    · by_cases h2 : i = 16 + b
      · subst h2
        rw [ei] at hk
        exact (hS.fi k hk).imp id fun e => ⟨e, .inr rfl⟩
      · rw [eo i h1 h2] at hk
        exact .inl hk
  constructor
  · exact {
      blk := by
        have e := hs (upd2 V b vp vi) (setF q.fl b y) (fun k _ h1 h2 => eo k h1 h2) (fun k _ h1 => setF_other _ _ h1)
        have e2 : fcF (upd2 V b vp vi) (setF q.fl b y) b = fcR vp vi (bytesF y.pk) y.df y.cd := by unfold fcF; rw [eb, ei, setF_same]
        rw [e2] at e
        show w'.heap[x.g]? = some (.cells (cqC x (upd2 V b vp vi) (setF q.fl b y)).toArray _ _)
        rw [e]; exact hf.blk
      pk := fun j hj => by
        by_cases h1 : j = b
        · subst h1; rw [eb]; simp only [setF_same]; exact hf.pk
        · rw [eo j h1 (by omega)]
          simp only [setF_other _ _ h1]
          exact ((h.pk j hj).only hS.only (hnot j (by omega) h1 (by omega)) hT).mono hS.tt
      it := fun j hj => by
        by_cases h1 : j = b
        · subst h1; rw [ei]; simp only [setF_same]; exact hf.it
        · rw [eo (16 + j) (by omega) (by omega)]
          simp only [setF_other _ _ h1]
          exact (h.it j hj).only hS.only (hnot (16 + j) (by omega) (by omega) (by omega))
      fr := by rw [eo 32 (by omega) (by omega)]; exact h.fr.only hS.only (hnot 32 (by omega) (by omega) (by omega))
      el := by rw [eo 33 (by omega) (by omega)]; exact h.el.only hS.only (hnot 33 (by omega) (by omega) (by omega))
      own := fun i hi j hj hij k h1 h2 => by
        rcases hold i hi k h1 with a1 | ⟨a1, a2⟩
        · rcases hold j hj k h2 with b1 | ⟨b1, b2⟩
          · exact h.own i hi j hj hij k a1 b1
          · have := h.ltV hi a1; omega
        · rcases hold j hj k h2 with b1 | ⟨b1, b2⟩
          · have := h.ltV hj b1; omega
          · rcases a2 with rfl | rfl
            · rcases b2 with rfl | rfl
              · exact hij rfl
              · rw [eb] at h1; rw [ei] at h2; exact hf.pi k h1 h2
            · rcases b2 with rfl | rfl
              · rw [ei] at h1; rw [eb] at h2; exact hf.pi k h2 h1
              · exact hij rfl
      apart := fun i hi k hk => by
        rcases hold i hi k hk with a1 | ⟨a1, a2⟩
        · refine ⟨(h.apart i hi k a1).1, fun e => ?_⟩
          rcases hS.ft k e with e | e
          · exact (h.apart i hi k a1).2 e
          · have := h.ltV hi a1; omega
        · rcases a2 with rfl | rfl
          · rw [eb] at hk; exact hf.pg k hk
          · rw [ei] at hk; exact hf.ig k hk
      there := hf.there
      apt := hf.gt }
  · refine ⟨hS.only.mono fun i _ e => ?_, fun k hk => ?_, hS.ft, hS.tt⟩
    · rcases e with e | e | e
      · exact .inl e
      · exact .inr ⟨b, by omega, e⟩
      · exact .inr ⟨16 + b, by omega, e⟩
    · rcases hk with e | ⟨i, hi, e⟩
      · exact .inl (.inl e)
      · rcases hold i hi k e with a1 | ⟨a1, -⟩
        · exact .inl (.inr ⟨i, hi, a1⟩)
        · exact .inr a1
/-- a list put back (j: 32 or 33). -/
theorem IsCq.put_list (h : IsCq T w x V q) {j : Nat} (hj : j = 32 ∨ j = 33) {v : Value} {q' : Qu} (hfl : q'.fl = q.fl) (hb : w'.heap[x.g]? = some (.cells (cqC x (updF V j v) q.fl).toArray 72 (0, 0)))
    (h0 : j = 32 → RowN w' v (natsI q'.fresh) ∧ q'.elder = q.elder) (h1 : j = 33 → RowN w' v (natsI q'.elder) ∧ q'.fresh = q.fresh)
    (ho : Only (fun k => k = x.g ∨ (V j).ownBlock = some k) w w') (hv : ∀ k, v.ownBlock = some k → (V j).ownBlock = some k ∨ w.heap.size ≤ k) :
    IsCq T w' x (updF V j v) q' ∧ CqS T w x V T w' (updF V j v) := by
  have ej : updF V j v j = v := updF_same _ _ _
  have eo : ∀ k, k ≠ j → updF V j v k = V k := fun k hk => updF_other _ _ hk
  have hj34 : j < 34 := by omega
  have hnot : ∀ i, i < 34 → i ≠ j → ∀ k, (V i).ownBlock = some k → ¬ (k = x.g ∨ (V j).ownBlock = some k) := fun i hi hij k hk e => by
    rcases e with e | e
    · exact (h.apart i hi k hk).1 e
    · exact h.own i hi j hj34 hij k hk e
  have hT : ∀ k, T k → ¬ (k = x.g ∨ (V j).ownBlock = some k) := fun k hk e => by
    rcases e with e | e
    · exact h.apt (e ▸ hk)
    · exact (h.apart j hj34 k e).2 hk
  have hold : ∀ i, i < 34 → ∀ k, (updF V j v i).ownBlock = some k → (V i).ownBlock = some k ∨ (w.heap.size ≤ k ∧ i = j) := fun i hi k hk => by
    by_cases e : i = j
    · subst e
      rw [ej] at hk
      exact (hv k hk).imp id fun e => ⟨e, rfl⟩
    · rw [eo i e] at hk; exact .inl hk
  constructor
  · exact {
      blk := by rw [hfl]; exact hb
      pk := fun b hb => by rw [eo b (by omega), hfl]; exact (h.pk b hb).only ho (hnot b (by omega) (by omega)) hT
      it := fun b hb => by rw [eo (16 + b) (by omega), hfl]; exact (h.it b hb).only ho (hnot (16 + b) (by omega) (by omega))
      fr := by
        rcases hj with rfl | rfl
        · rw [ej]; exact (h0 rfl).1
        · rw [eo 32 (by omega), (h1 rfl).2]; exact h.fr.only ho (hnot 32 (by omega) (by omega))
      el := by
        rcases hj with rfl | rfl
        · rw [eo 33 (by omega), (h0 rfl).2]; exact h.el.only ho (hnot 33 (by omega) (by omega))
        · rw [ej]; exact (h1 rfl).1
      own := fun i hi m hm hij k a b => by
        rcases hold i hi k a with a1 | ⟨a1, a2⟩
        · rcases hold m hm k b with b1 | ⟨b1, b2⟩
          · exact h.own i hi m hm hij k a1 b1
          · have := h.ltV hi a1; omega
        · rcases hold m hm k b with b1 | ⟨b1, b2⟩
          · have := h.ltV hm b1; omega
          · omega
      apart := fun i hi k hk => by
        rcases hold i hi k hk with a1 | ⟨a1, a2⟩
        · exact h.apart i hi k a1
        · exact ⟨fun e => by have := h.lt; omega, fun e => by have := h.there k e; omega⟩
      there := fun k hk => Nat.lt_of_lt_of_le (h.there k hk) ho.size
      apt := h.apt }
  · refine ⟨ho.mono fun i _ e => ?_, fun k hk => ?_, fun k e => .inl e, fun k e => e⟩
    · rcases e with e | e
      · exact .inl e
      · exact .inr ⟨j, hj34, e⟩
    · rcases hk with e | ⟨i, hi, e⟩
      · exact .inl (.inl e)
      · rcases hold i hi k e with a1 | ⟨a1, -⟩
        · exact .inl (.inr ⟨i, hi, a1⟩)
        · exact .inr a1
theorem IsCq.head (h : IsCq T w x V q) : w.cell? ⟨x.g, 0, none⟩ = some (.int .u32 x.seed) ∧ w.cell? ⟨x.g, 1, none⟩ = some (.int .i64 x.tg) ∧ w.cell? ⟨x.g, 2, none⟩ = some (.int .i64 x.iv) := by
  have e := block_range h.blk
  refine ⟨?_, ?_, ?_⟩
  · simpa using e 0 _ (by simp [cqC, cqH])
  · simpa using e 1 _ (by simp [cqC, cqH])
  · simpa using e 2 _ (by simp [cqC, cqH])
theorem IsCq.cells (h : IsCq T w x V q) : w.cell? ⟨x.g, 147, none⟩ = some (V 32) ∧ w.cell? ⟨x.g, 148, none⟩ = some (V 33) := by
  obtain ⟨pre, hp, hc, -⟩ := cq_lists x V q.fl
  have hb := h.blk
  rw [hc] at hb
  exact ⟨mid_cell hb hp (j := 0) rfl, mid_cell hb hp (j := 1) rfl⟩
/-- a field of a flow. -/
theorem IsCq.fld (h : IsCq T w x V q) {b j : Nat} (hb : b < 16) {v : Value} (hv : (fcF V q.fl b)[j]? = some v) : w.cell? ⟨x.g, 3 + b * 9 + j, none⟩ = some v := by
  obtain ⟨pre, post, hp, hc, -⟩ := cq_split x V q.fl hb
  have hbk := h.blk
  rw [hc] at hbk
  exact mid_cell hbk hp hv
end
end Go.Proofs.Ytaibopaagjodoaa
