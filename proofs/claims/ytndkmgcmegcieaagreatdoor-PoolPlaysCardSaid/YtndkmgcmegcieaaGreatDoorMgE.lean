/-
  MATHS: what a pull keeps of its state's bounds. No program is named.
-/
import Derived.Test.YtndkmgcmegcieaaGreatDoorCodD
import Derived.Test.YtndkmgcmegcieaaGreatDoorFqK
import Derived.Test.YtndkmgcmegcieaaGreatDoorMgC
import Derived.Test.YtndkmgcmegcieaaGreatDoorMgB
namespace Go.Proofs.YtndkmgcmegcieaaGreatDoor
set_option linter.unusedVariables false
set_option linter.unusedSimpArgs false
def Kept (M : Int) (c : Cd) : Prop := c.count < 4294967296 ∧ c.last < 4294967296 ∧ 0 ≤ c.drop ∧ c.drop ≤ M
theorem nextN_in (a i : Int) (c : Nat) (h0 : 0 ≤ a) : 0 ≤ nextN a i c ∧ nextN a i c ≤ a + 1073741824 := by
 have h := next_in (a := a) (i := i) (invN_le c)
 have e : nextN a i c = nextR a i (invN c) := rfl
 rw [e]
 unfold clampR at h
 omega
theorem drops_kept {q : Pl} {M : Int} (h0 : 0 ≤ q.now) (hM : q.now + 1073741824 ≤ M) : ∀ (l : List It) (n : Nat) (c : Cd) (b : Int), Kept M c → Kept M (dropsR q n c b l).1
 | [], n, c, b, h => h
 | x :: r, n, c, b, h => by
  unfold dropsR
  obtain ⟨h1, h2, h3, h4⟩ := h
  split
  ·rename_i hd
   split
   ·have hn := nextN_in c.drop q.interval (more c.count) h3
    exact drops_kept h0 hM r (n + 1) _ _ ⟨more_lt h1, h2, hn.1, by have := hn.2; dsimp only; omega⟩
   ·exact ⟨more_lt h1, h2, h3, h4⟩
  ·exact ⟨h1, h2, h3, h4⟩
theorem pull_kept {q : Pl} {M : Int} (h0 : 0 ≤ q.now) (hM : q.now + 1073741824 ≤ M) {c : Cd} (h : Kept M c) (b : Int) (l : List It) : Kept M (pullR q c b l).1 := by
 obtain ⟨h1, h2, h3, h4⟩ := h
 unfold pullR
 split
 ·exact ⟨h1, h2, h3, h4⟩
 ·split
  ·split
   ·exact drops_kept h0 hM l 0 _ _ ⟨h1, h2, h3, h4⟩
   ·exact ⟨h1, h2, h3, h4⟩
  ·split
   ·have hn := nextN_in q.now q.interval (begins q c) h0
    exact ⟨begins_lt q c, begins_lt q c, hn.1, by have := hn.2; dsimp only; omega⟩
   ·exact ⟨h1, h2, h3, h4⟩
end Go.Proofs.YtndkmgcmegcieaaGreatDoor
/-
  FQ's QUEUE: its block known whole, by the model and the slice values; a flow of it, its lists, turned and put back.
-/
namespace Go.Proofs.YtndkmgcmegcieaaGreatDoor
open Go.ChangeShapes Go.WideShapes Go.ChangeAt Go.RowKit Go.Deep
set_option linter.unusedVariables false
set_option linter.unusedSimpArgs false
def fcF (V : Nat → Value) (f : Nat → Fl) (b : Nat) : List Value := fcR (V b) (V (16 + b)) (bytesF (f b).pk) (f b).df (f b).cd
def cqH (x : Rq) : List Value := [.int .u32 x.seed, .int .i64 x.tg, .int .i64 x.iv]
def cqC (x : Rq) (V : Nat → Value) (f : Nat → Fl) : List Value := cqH x ++ ((List.range 16).flatMap (fcF V f) ++ [V 32, V 33])
theorem range_split : ∀ b, b < 16 → List.range 16 = List.range b ++ b :: (List.range (15 - b)).map (fun k => b + 1 + k) := by decide
theorem flat_map_congr {α β : Type} {F G : α → List β} {l : List α} (h : ∀ a ∈ l, F a = G a) : l.flatMap F = l.flatMap G := by
 induction l with
 | nil => rfl
 | cons a l ih => rw [List.flatMap_cons, List.flatMap_cons, h a List.mem_cons_self, ih fun b hb => h b (List.mem_cons_of_mem _ hb)]
theorem cq_split (x : Rq) (V : Nat → Value) (f : Nat → Fl) {b : Nat} (hb : b < 16) : ∃ pre post, pre.length = 3 + b * 9 ∧ cqC x V f = pre ++ fcF V f b ++ post ∧
 ∀ (U : Nat → Value) (h : Nat → Fl), (∀ k, k < 34 → k ≠ b → k ≠ 16 + b → U k = V k) → (∀ k, k < 16 → k ≠ b → h k = f k) → cqC x U h = pre ++ fcF U h b ++ post := by
 have hr := range_split b hb
 refine ⟨cqH x ++ (List.range b).flatMap (fcF V f), ((List.range (15 - b)).map (fun k => b + 1 + k)).flatMap (fcF V f) ++ [V 32, V 33], ?_, ?_, fun U h hU hh => ?_⟩
 ·rw [List.length_append, flat_range_len _ 9 (fun _ => rfl)]; rfl
 ·unfold cqC
  rw [hr, List.flatMap_append, List.flatMap_cons]
  simp only [List.append_assoc]
 ·unfold cqC
  rw [hr, List.flatMap_append, List.flatMap_cons]
  have e1 : (List.range b).flatMap (fcF U h) = (List.range b).flatMap (fcF V f) := flat_map_congr fun k hk => by
   have hk' := List.mem_range.1 hk
   unfold fcF
   rw [hU k (by omega) (by omega) (by omega), hU (16 + k) (by omega) (by omega) (by omega), hh k (by omega) (by omega)]
  have e2 : ((List.range (15 - b)).map (fun k => b + 1 + k)).flatMap (fcF U h) = ((List.range (15 - b)).map (fun k => b + 1 + k)).flatMap (fcF V f) := flat_map_congr fun k hk => by
   obtain ⟨j, hj, rfl⟩ := List.mem_map.1 hk
   have hk' := List.mem_range.1 hj
   unfold fcF
   rw [hU _ (by omega) (by omega) (by omega), hU (16 + (b + 1 + j)) (by omega) (by omega) (by omega), hh _ (by omega) (by omega)]
  rw [e1, e2, hU 32 (by omega) (by omega) (by omega), hU 33 (by omega) (by omega) (by omega)]
  simp only [List.append_assoc]
theorem cq_lists (x : Rq) (V : Nat → Value) (f : Nat → Fl) : ∃ pre, pre.length = 147 ∧ cqC x V f = pre ++ [V 32, V 33] ++ [] ∧ ∀ U : Nat → Value, (∀ k, k < 32 → U k = V k) → cqC x U f = pre ++ [U 32, U 33] ++ [] := by
 refine ⟨cqH x ++ (List.range 16).flatMap (fcF V f), ?_, ?_, fun U hU => ?_⟩
 ·rw [List.length_append, flat_range_len _ 9 (fun _ => rfl)]; rfl
 ·unfold cqC; simp only [List.append_assoc, List.append_nil]
 ·unfold cqC
  have e1 : (List.range 16).flatMap (fcF U f) = (List.range 16).flatMap (fcF V f) := flat_map_congr fun k hk => by
   have hk' := List.mem_range.1 hk
   unfold fcF
   rw [hU k (by omega), hU (16 + k) (by omega)]
  rw [e1]; simp only [List.append_assoc, List.append_nil]
structure IsCq (T : Nat → Prop) (w : World) (x : Rq) (V : Nat → Value) (q : Qu) : Prop where
 blk : w.heap[x.g]? = some (.cells (cqC x V q.fl).toArray 98 (0, 0))
 pk : ∀ b, b < 16 → RowPk T w (V b) (q.fl b).pk
 it : ∀ b, b < 16 → RowIt w (V (16 + b)) (itemsF (q.fl b).pk)
 fr : RowN w (V 32) (natsI q.fresh)
 el : RowN w (V 33) (natsI q.elder)
 own : ∀ i, i < 34 → ∀ j, j < 34 → i ≠ j → ∀ k, (V i).ownBlock = some k → (V j).ownBlock ≠ some k
 apart : ∀ i, i < 34 → ∀ k, (V i).ownBlock = some k → k ≠ x.g ∧ ¬ T k
 there : ∀ k, T k → k < w.heap.size
 apt : ¬ T x.g
def FootC (x : Rq) (V : Nat → Value) (k : Nat) : Prop := k = x.g ∨ ∃ i, i < 34 ∧ (V i).ownBlock = some k
structure CqS (T : Nat → Prop) (w : World) (x : Rq) (V : Nat → Value) (T' : Nat → Prop) (w' : World) (V' : Nat → Value) : Prop where
 only : Only (FootC x V) w w'
 fresh : ∀ k, FootC x V' k → FootC x V k ∨ w.heap.size ≤ k
 ft : ∀ k, T' k → T k ∨ w.heap.size ≤ k
 tt : ∀ k, T k → T' k
section
variable {T T' S : Nat → Prop} {w w' w2 : World} {x : Rq} {V V' : Nat → Value} {q : Qu}
theorem IsCq.lt (h : IsCq T w x V q) : x.g < w.heap.size := lt_blk h.blk
theorem IsCq.ltV (h : IsCq T w x V q) {i : Nat} (hi : i < 34) {k : Nat} (hk : (V i).ownBlock = some k) : k < w.heap.size := by
 by_cases h1 : i < 16
 ·exact (h.pk i h1).lt k hk
 ·by_cases h2 : i < 32
  ·obtain ⟨b, rfl⟩ : ∃ b, i = 16 + b := ⟨i - 16, by omega⟩
   exact (h.it b (by omega)).lt k hk
  ·rcases (show i = 32 ∨ i = 33 by omega) with rfl | rfl
   ·exact h.fr.lt k hk
   ·exact h.el.lt k hk
theorem IsCq.lts (h : IsCq T w x V q) {k : Nat} (hk : FootC x V k) : k < w.heap.size := by
 rcases hk with rfl | ⟨i, hi, e⟩
 ·exact h.lt
 ·exact h.ltV hi e
theorem IsCq.only (h : IsCq T w x V q) (ho : Only S w w') (hf : ∀ k, FootC x V k → ¬ S k) (ht : ∀ k, T k → ¬ S k) : IsCq T w' x V q where
 blk := ho.at_ h.blk (hf _ (.inl rfl))
 pk := fun b hb => (h.pk b hb).only ho (fun g hg => hf _ (.inr ⟨b, by omega, hg⟩)) ht
 it := fun b hb => (h.it b hb).only ho (fun g hg => hf _ (.inr ⟨16 + b, by omega, hg⟩))
 fr := h.fr.only ho fun g hg => hf _ (.inr ⟨32, by omega, hg⟩)
 el := h.el.only ho fun g hg => hf _ (.inr ⟨33, by omega, hg⟩)
 own := h.own
 apart := h.apart
 there := fun k hk => Nat.lt_of_lt_of_le (h.there k hk) ho.size
 apt := h.apt
theorem IsCq.quiet (h : IsCq T w x V q) (hb : Below w.heap.size w w') : IsCq T w' x V q :=
 h.only (S := fun _ => False) (Only.of_quiet hb) (fun _ _ e => e) (fun _ _ e => e)
theorem CqS.refl : CqS T w x V T w V := ⟨Only.refl _ _, fun k h => .inl h, fun k h => .inl h, fun k h => h⟩
theorem CqS.trans {T2 : Nat → Prop} {V2 : Nat → Value} (h : CqS T w x V T' w' V') (k : CqS T' w' x V' T2 w2 V2) : CqS T w x V T2 w2 V2 where
 only := h.only.trans k.only fun i hi e => by
  rcases h.fresh i e with h1 | h1
  ·exact h1
  ·omega
 fresh := fun i e => by
  rcases k.fresh i e with h1 | h1
  ·exact h.fresh i h1
  ·exact .inr (Nat.le_trans h.only.size h1)
 ft := fun i e => by
  rcases k.ft i e with h1 | h1
  ·exact h.ft i h1
  ·exact .inr (Nat.le_trans h.only.size h1)
 tt := fun i e => k.tt i (h.tt i e)
theorem CqS.quiet (h : CqS T w x V T' w' V') (hb : Below w'.heap.size w' w2) : CqS T w x V T' w2 V' := ⟨h.only.then_quiet hb, h.fresh, h.ft, h.tt⟩
theorem CqS.over (h : CqS T w x V T' w' V') (ho : Only S w' w2) (hS : ∀ k, S k → w.heap.size ≤ k) : CqS T w x V T' w2 V' :=
 ⟨h.only.trans ho fun i hi e => by have := hS i e; omega, h.fresh, h.ft, h.tt⟩
theorem CqS.from_ (hb : Below w.heap.size w w') (h : CqS T w' x V T' w2 V') : CqS T w x V T' w2 V' :=
 ⟨(Only.of_quiet hb).trans h.only fun _ _ e => e, fun k e => (h.fresh k e).imp id (Nat.le_trans hb.size), fun k e => (h.ft k e).imp id (Nat.le_trans hb.size), h.tt⟩
theorem IsCq.flow (h : IsCq T w x V q) {b : Nat} (hb : b < 16) {pre post : List Value} (hs : cqC x V q.fl = pre ++ fcF V q.fl b ++ post) :
 FlB T w x.g 98 pre post (V b) (V (16 + b)) (q.fl b).pk (itemsF (q.fl b).pk) (bytesF (q.fl b).pk) (q.fl b).df (q.fl b).cd where
 blk := by have := h.blk; rw [hs] at this; exact this
 pk := h.pk b hb
 it := h.it b hb
 pg := fun k hk => h.apart b (by omega) k hk
 ig := fun k hk => h.apart (16 + b) (by omega) k hk
 pi := fun k hk => h.own b (by omega) (16 + b) (by omega) (by omega) k hk
 there := h.there
 gt := h.apt
def upd2 (V : Nat → Value) (b : Nat) (vp vi : Value) : Nat → Value := fun k => if k = b then vp else if k = 16 + b then vi else V k
theorem IsCq.put_flow (h : IsCq T w x V q) {b : Nat} (hb : b < 16) {pre post : List Value}
 (hs : ∀ (U : Nat → Value) (h : Nat → Fl), (∀ k, k < 34 → k ≠ b → k ≠ 16 + b → U k = V k) → (∀ k, k < 16 → k ≠ b → h k = q.fl k) → cqC x U h = pre ++ fcF U h b ++ post)
 {vp vi : Value} {y : Fl} (hf : FlB T' w' x.g 98 pre post vp vi y.pk (itemsF y.pk) (bytesF y.pk) y.df y.cd) (hS : FlS T w x.g (V b) (V (16 + b)) T' w' vp vi) :
 IsCq T' w' x (upd2 V b vp vi) ⟨setF q.fl b y, q.fresh, q.elder⟩ ∧ CqS T w x V T' w' (upd2 V b vp vi) := by
 have eb : upd2 V b vp vi b = vp := by simp [upd2]
 have ei : upd2 V b vp vi (16 + b) = vi := by unfold upd2; rw [if_neg (by omega), if_pos rfl]
 have eo : ∀ k, k ≠ b → k ≠ 16 + b → upd2 V b vp vi k = V k := fun k h1 h2 => by unfold upd2; rw [if_neg h1, if_neg h2]
 have hnot : ∀ i, i < 34 → i ≠ b → i ≠ 16 + b → ∀ k, (V i).ownBlock = some k → ¬ (k = x.g ∨ (V b).ownBlock = some k ∨ (V (16 + b)).ownBlock = some k) := fun i hi h1 h2 k hk e => by
  rcases e with e | e | e
  ·exact (h.apart i hi k hk).1 e
  ·exact h.own i hi b (by omega) h1 k hk e
  ·exact h.own i hi (16 + b) (by omega) h2 k hk e
 have hT : ∀ k, T k → ¬ (k = x.g ∨ (V b).ownBlock = some k ∨ (V (16 + b)).ownBlock = some k) := fun k hk e => by
  rcases e with e | e | e
  ·exact h.apt (e ▸ hk)
  ·exact (h.apart b (by omega) k e).2 hk
  ·exact (h.apart (16 + b) (by omega) k e).2 hk
 have hold : ∀ i, i < 34 → ∀ k, (upd2 V b vp vi i).ownBlock = some k → (V i).ownBlock = some k ∨ (w.heap.size ≤ k ∧ (i = b ∨ i = 16 + b)) := fun i hi k hk => by
  by_cases h1 : i = b
  ·subst h1
   rw [eb] at hk
   exact (hS.fp k hk).imp id fun e => ⟨e, .inl rfl⟩
  ·by_cases h2 : i = 16 + b
   ·subst h2
    rw [ei] at hk
    exact (hS.fi k hk).imp id fun e => ⟨e, .inr rfl⟩
   ·rw [eo i h1 h2] at hk
    exact .inl hk
 constructor
 ·exact {
   blk := by
    have e := hs (upd2 V b vp vi) (setF q.fl b y) (fun k _ h1 h2 => eo k h1 h2) (fun k _ h1 => setF_other _ _ h1)
    have e2 : fcF (upd2 V b vp vi) (setF q.fl b y) b = fcR vp vi (bytesF y.pk) y.df y.cd := by unfold fcF; rw [eb, ei, setF_same]
    rw [e2] at e
    show w'.heap[x.g]? = some (.cells (cqC x (upd2 V b vp vi) (setF q.fl b y)).toArray _ _)
    rw [e]; exact hf.blk
   pk := fun j hj => by
    by_cases h1 : j = b
    ·subst h1; rw [eb]; simp only [setF_same]; exact hf.pk
    ·rw [eo j h1 (by omega)]
     simp only [setF_other _ _ h1]
     exact ((h.pk j hj).only hS.only (hnot j (by omega) h1 (by omega)) hT).mono hS.tt
   it := fun j hj => by
    by_cases h1 : j = b
    ·subst h1; rw [ei]; simp only [setF_same]; exact hf.it
    ·rw [eo (16 + j) (by omega) (by omega)]
     simp only [setF_other _ _ h1]
     exact (h.it j hj).only hS.only (hnot (16 + j) (by omega) (by omega) (by omega))
   fr := by rw [eo 32 (by omega) (by omega)]; exact h.fr.only hS.only (hnot 32 (by omega) (by omega) (by omega))
   el := by rw [eo 33 (by omega) (by omega)]; exact h.el.only hS.only (hnot 33 (by omega) (by omega) (by omega))
   own := fun i hi j hj hij k h1 h2 => by
    rcases hold i hi k h1 with a1 | ⟨a1, a2⟩
    ·rcases hold j hj k h2 with b1 | ⟨b1, b2⟩
     ·exact h.own i hi j hj hij k a1 b1
     ·have := h.ltV hi a1; omega
    ·rcases hold j hj k h2 with b1 | ⟨b1, b2⟩
     ·have := h.ltV hj b1; omega
     ·rcases a2 with rfl | rfl
      ·rcases b2 with rfl | rfl
       ·exact hij rfl
       ·rw [eb] at h1; rw [ei] at h2; exact hf.pi k h1 h2
      ·rcases b2 with rfl | rfl
       ·rw [ei] at h1; rw [eb] at h2; exact hf.pi k h2 h1
       ·exact hij rfl
   apart := fun i hi k hk => by
    rcases hold i hi k hk with a1 | ⟨a1, a2⟩
    ·refine ⟨(h.apart i hi k a1).1, fun e => ?_⟩
     rcases hS.ft k e with e | e
     ·exact (h.apart i hi k a1).2 e
     ·have := h.ltV hi a1; omega
    ·rcases a2 with rfl | rfl
     ·rw [eb] at hk; exact hf.pg k hk
     ·rw [ei] at hk; exact hf.ig k hk
   there := hf.there
   apt := hf.gt }
 ·refine ⟨hS.only.mono fun i _ e => ?_, fun k hk => ?_, hS.ft, hS.tt⟩
  ·rcases e with e | e | e
   ·exact .inl e
   ·exact .inr ⟨b, by omega, e⟩
   ·exact .inr ⟨16 + b, by omega, e⟩
  ·rcases hk with e | ⟨i, hi, e⟩
   ·exact .inl (.inl e)
   ·rcases hold i hi k e with a1 | ⟨a1, -⟩
    ·exact .inl (.inr ⟨i, hi, a1⟩)
    ·exact .inr a1
theorem IsCq.put_list (h : IsCq T w x V q) {j : Nat} (hj : j = 32 ∨ j = 33) {v : Value} {q' : Qu} (hfl : q'.fl = q.fl) (hb : w'.heap[x.g]? = some (.cells (cqC x (updF V j v) q.fl).toArray 98 (0, 0)))
 (h0 : j = 32 → RowN w' v (natsI q'.fresh) ∧ q'.elder = q.elder) (h1 : j = 33 → RowN w' v (natsI q'.elder) ∧ q'.fresh = q.fresh)
 (ho : Only (fun k => k = x.g ∨ (V j).ownBlock = some k) w w') (hv : ∀ k, v.ownBlock = some k → (V j).ownBlock = some k ∨ w.heap.size ≤ k) :
 IsCq T w' x (updF V j v) q' ∧ CqS T w x V T w' (updF V j v) := by
 have ej : updF V j v j = v := updF_same _ _ _
 have eo : ∀ k, k ≠ j → updF V j v k = V k := fun k hk => updF_other _ _ hk
 have hj34 : j < 34 := by omega
 have hnot : ∀ i, i < 34 → i ≠ j → ∀ k, (V i).ownBlock = some k → ¬ (k = x.g ∨ (V j).ownBlock = some k) := fun i hi hij k hk e => by
  rcases e with e | e
  ·exact (h.apart i hi k hk).1 e
  ·exact h.own i hi j hj34 hij k hk e
 have hT : ∀ k, T k → ¬ (k = x.g ∨ (V j).ownBlock = some k) := fun k hk e => by
  rcases e with e | e
  ·exact h.apt (e ▸ hk)
  ·exact (h.apart j hj34 k e).2 hk
 have hold : ∀ i, i < 34 → ∀ k, (updF V j v i).ownBlock = some k → (V i).ownBlock = some k ∨ (w.heap.size ≤ k ∧ i = j) := fun i hi k hk => by
  by_cases e : i = j
  ·subst e
   rw [ej] at hk
   exact (hv k hk).imp id fun e => ⟨e, rfl⟩
  ·rw [eo i e] at hk; exact .inl hk
 constructor
 ·exact {
   blk := by rw [hfl]; exact hb
   pk := fun b hb => by rw [eo b (by omega), hfl]; exact (h.pk b hb).only ho (hnot b (by omega) (by omega)) hT
   it := fun b hb => by rw [eo (16 + b) (by omega), hfl]; exact (h.it b hb).only ho (hnot (16 + b) (by omega) (by omega))
   fr := by
    rcases hj with rfl | rfl
    ·rw [ej]; exact (h0 rfl).1
    ·rw [eo 32 (by omega), (h1 rfl).2]; exact h.fr.only ho (hnot 32 (by omega) (by omega))
   el := by
    rcases hj with rfl | rfl
    ·rw [eo 33 (by omega), (h0 rfl).2]; exact h.el.only ho (hnot 33 (by omega) (by omega))
    ·rw [ej]; exact (h1 rfl).1
   own := fun i hi m hm hij k a b => by
    rcases hold i hi k a with a1 | ⟨a1, a2⟩
    ·rcases hold m hm k b with b1 | ⟨b1, b2⟩
     ·exact h.own i hi m hm hij k a1 b1
     ·have := h.ltV hi a1; omega
    ·rcases hold m hm k b with b1 | ⟨b1, b2⟩
     ·have := h.ltV hm b1; omega
     ·omega
   apart := fun i hi k hk => by
    rcases hold i hi k hk with a1 | ⟨a1, a2⟩
    ·exact h.apart i hi k a1
    ·exact ⟨fun e => by have := h.lt; omega, fun e => by have := h.there k e; omega⟩
   there := fun k hk => Nat.lt_of_lt_of_le (h.there k hk) ho.size
   apt := h.apt }
 ·refine ⟨ho.mono fun i _ e => ?_, fun k hk => ?_, fun k e => .inl e, fun k e => e⟩
  ·rcases e with e | e
   ·exact .inl e
   ·exact .inr ⟨j, hj34, e⟩
  ·rcases hk with e | ⟨i, hi, e⟩
   ·exact .inl (.inl e)
   ·rcases hold i hi k e with a1 | ⟨a1, -⟩
    ·exact .inl (.inr ⟨i, hi, a1⟩)
    ·exact .inr a1
theorem IsCq.head (h : IsCq T w x V q) : w.cell? ⟨x.g, 0, none⟩ = some (.int .u32 x.seed) ∧ w.cell? ⟨x.g, 1, none⟩ = some (.int .i64 x.tg) ∧ w.cell? ⟨x.g, 2, none⟩ = some (.int .i64 x.iv) := by
 have e := block_range h.blk
 refine ⟨?_, ?_, ?_⟩
 ·simpa using e 0 _ (by simp [cqC, cqH])
 ·simpa using e 1 _ (by simp [cqC, cqH])
 ·simpa using e 2 _ (by simp [cqC, cqH])
theorem IsCq.cells (h : IsCq T w x V q) : w.cell? ⟨x.g, 147, none⟩ = some (V 32) ∧ w.cell? ⟨x.g, 148, none⟩ = some (V 33) := by
 obtain ⟨pre, hp, hc, -⟩ := cq_lists x V q.fl
 have hb := h.blk
 rw [hc] at hb
 exact ⟨mid_cell hb hp (j := 0) rfl, mid_cell hb hp (j := 1) rfl⟩
theorem IsCq.fld (h : IsCq T w x V q) {b j : Nat} (hb : b < 16) {v : Value} (hv : (fcF V q.fl b)[j]? = some v) : w.cell? ⟨x.g, 3 + b * 9 + j, none⟩ = some v := by
 obtain ⟨pre, post, hp, hc, -⟩ := cq_split x V q.fl hb
 have hbk := h.blk
 rw [hc] at hbk
 exact mid_cell hbk hp hv
end
end Go.Proofs.YtndkmgcmegcieaaGreatDoor
/-
  CONTRACTS of fq's New, turn, join, leave (of a queue), Put.
-/
namespace Go.Proofs.YtndkmgcmegcieaaGreatDoor
open Go.ChangeShapes Go.WideShapes Go.ChangeAt Go.RowKit Go.Deep
set_option linter.unusedVariables false
set_option linter.unusedSimpArgs false
def cdZ : Cd := ⟨0, 0, 0, 0, false⟩
def flZ : Fl := ⟨[], 0, cdZ⟩
def quZ : Qu := ⟨fun _ => flZ, [], []⟩
def VZ : Nat → Value := fun _ => .slice none 0 0
set_option maxRecDepth 100000 in
set_option maxHeartbeats 8000000 in
theorem new_any (seed tg iv : Int) (w : World) :
 Calls Tryz.prog 33 #[.int .u32 seed, .int .i64 tg, .int .i64 iv] w fun e w' => e = .returned (.pointer (some ⟨w.heap.size, 0, none⟩)) ∧ IsCq (fun _ => False) w' ⟨w.heap.size, seed, tg, iv⟩ VZ quZ ∧ Below w.heap.size w w' := by
 have HB := Shut.mk ((Below.refl w.heap.size w).alloc (Nat.le_refl _) (.cells (cqC ⟨w.heap.size, seed, tg, iv⟩ VZ quZ.fl).toArray 98 (0, 0)))
 have HX := Shut.mk (MapKept.heap_alloc w (.cells (cqC ⟨w.heap.size, seed, tg, iv⟩ VZ quZ.fl).toArray 98 (0, 0))).1
 go_enter Tryz.func33, Tryz.ntmps33
 go_wp2
 go_ret
 refine ⟨rfl, ⟨HX.out, fun b _ => RowPk.nil _ _, fun b _ => RowIt.nil _, RowN.nil _, RowN.nil _, fun i _ j _ _ k hk => (by cases hk), fun i _ k hk => (by cases hk), fun k hk => hk.elim, fun h => h⟩, HB.out⟩
theorem natsI_len (l : List Nat) : (natsI l).length = l.length := by simp [natsI]
theorem natsI_snoc (l : List Nat) (b : Nat) : natsI (l ++ [b]) = natsI l ++ [(b : Int)] := by simp [natsI]
theorem natsI_mem {l : List Nat} {b : Nat} : (b : Int) ∈ natsI l ↔ b ∈ l := by
 unfold natsI
 rw [List.mem_map]
 constructor
 ·rintro ⟨a, ha, e⟩
  have : a = b := by omega
  rwa [← this]
 ·exact fun h => ⟨b, h, rfl⟩
theorem natsI_in {l : List Nat} (h : ∀ b ∈ l, b < 16) : ∀ x ∈ natsI l, -9223372036854775808 ≤ x ∧ x ≤ 9223372036854775807 := fun x hx => by
 obtain ⟨b, hb, rfl⟩ := List.mem_map.1 hx
 have := h b hb
 omega
def turnI (q : Qu) : Nat := if q.fresh = [] then 1 else 0
set_option maxRecDepth 100000 in
set_option maxHeartbeats 8000000 in
theorem turn_any (T : Nat → Prop) (w : World) (x : Rq) (V : Nat → Value) (q : Qu) (h : IsCq T w x V q) :
 Calls Tryz.prog 66 #[.pointer (some ⟨x.g, 0, none⟩)] w fun e w' => e = .returned (.int .i64 (turnI q : Nat)) ∧ w = w' := by
 obtain ⟨A, cap, hv, -, -⟩ := h.fr.form
 rw [natsI_len] at hv
 have hc := h.cells.1
 rw [hv] at hc
 clear h hv
 obtain ⟨n, hn⟩ : ∃ n, q.fresh.length = n := ⟨_, rfl⟩
 rw [hn] at hc
 by_cases h0 : n = 0
 ·have HE := Shut.mk (show turnI q = 1 by unfold turnI; rw [if_pos (List.eq_nil_of_length_eq_zero (by omega))])
  subst h0
  clear hn
  go_enter Tryz.func66, Tryz.ntmps66
  go_wp2
  go_ret
  exact ⟨ret_int (by rw [HE.out]; rfl), rfl⟩
 ·have HE := Shut.mk (show turnI q = 0 by unfold turnI; rw [if_neg (fun e => h0 (by rw [← hn, e]; rfl))])
  have hp : 0 < n := by omega
  have hp' : (0 : Int) < (n : Int) := by omega
  clear hn h0
  go_enter Tryz.func66, Tryz.ntmps66
  go_wp2
  go_ret
  exact ⟨ret_int (by rw [HE.out]; rfl), rfl⟩
theorem joinq0_any (T : Nat → Prop) (w : World) (x : Rq) (V : Nat → Value) (q : Qu) (h : IsCq T w x V q) (hl : q.fresh.length ≤ 1000) (b : Nat) :
 Calls Tryz.prog 57 #[.pointer (some ⟨x.g, 0, none⟩), .int .i64 0, .int .i64 (b : Nat)] w fun e w' => e = .returned (.tuple #[]) ∧ ∃ V', IsCq T w' x V' ⟨q.fl, q.fresh ++ [b], q.elder⟩ ∧ CqS T w x V T w' V' := by
 obtain ⟨pre, hp, hc, hback⟩ := cq_lists x V q.fl
 have hb := h.blk
 rw [hc] at hb
 refine (join0_any x.g _ pre (V 32) (V 33) (natsI q.fresh) b w hb hp h.fr (fun k hk => (h.apart 32 (by omega) k hk).1) (by rw [natsI_len]; omega)).mono ?_
 rintro e w' ⟨rfl, v', hb', hr, ho, hv⟩
 have e2 := hback (updF V 32 v') (fun k hk => updF_other _ _ (by omega))
 rw [updF_same, updF_other _ _ (show 33 ≠ 32 by omega)] at e2
 obtain ⟨h1, h2⟩ := h.put_list (q' := ⟨q.fl, q.fresh ++ [b], q.elder⟩) (j := 32) (by omega) rfl (by rw [e2]; exact hb') (fun _ => ⟨by show RowN w' v' (natsI (q.fresh ++ [b])); rw [natsI_snoc]; exact hr, rfl⟩) (fun e => by omega) ho hv
 exact ⟨rfl, _, h1, h2⟩
theorem leaveq0_any (T : Nat → Prop) (w : World) (x : Rq) (V : Nat → Value) (q : Qu) (h : IsCq T w x V q) (b : Nat) (r : List Nat) (hq : q.fresh = b :: r) (hl : r.length ≤ 1000) :
 Calls Tryz.prog 67 #[.pointer (some ⟨x.g, 0, none⟩), .int .i64 0] w fun e w' => e = .returned (.int .i64 (b : Nat)) ∧ ∃ V', IsCq T w' x V' ⟨q.fl, r, q.elder⟩ ∧ CqS T w x V T w' V' := by
 obtain ⟨pre, hp, hc, hback⟩ := cq_lists x V q.fl
 have hb := h.blk
 rw [hc] at hb
 have hrow : RowN w (V 32) ((b : Int) :: natsI r) := by have := h.fr; rw [hq] at this; exact this
 refine (leave0_any x.g _ pre (V 32) (V 33) (b : Int) (natsI r) w hb hp hrow (fun k hk => (h.apart 32 (by omega) k hk).1) (by rw [natsI_len]; omega)).mono ?_
 rintro e w' ⟨rfl, v', hb', hr, ho, hv⟩
 have e2 := hback (updF V 32 v') (fun k hk => updF_other _ _ (by omega))
 rw [updF_same, updF_other _ _ (show 33 ≠ 32 by omega)] at e2
 obtain ⟨h1, h2⟩ := h.put_list (q' := ⟨q.fl, r, q.elder⟩) (j := 32) (by omega) rfl (by rw [e2]; exact hb') (fun _ => ⟨hr, rfl⟩) (fun e => by omega) ho (fun k hk => .inl (hv ▸ hk))
 exact ⟨rfl, _, h1, h2⟩
theorem joinq1_any (T : Nat → Prop) (w : World) (x : Rq) (V : Nat → Value) (q : Qu) (h : IsCq T w x V q) (hl : q.elder.length ≤ 1000) (b : Nat) :
 Calls Tryz.prog 57 #[.pointer (some ⟨x.g, 0, none⟩), .int .i64 1, .int .i64 (b : Nat)] w fun e w' => e = .returned (.tuple #[]) ∧ ∃ V', IsCq T w' x V' ⟨q.fl, q.fresh, q.elder ++ [b]⟩ ∧ CqS T w x V T w' V' := by
 obtain ⟨pre, hp, hc, hback⟩ := cq_lists x V q.fl
 have hb := h.blk
 rw [hc] at hb
 refine (join1_any x.g _ pre (V 32) (V 33) (natsI q.elder) b w hb hp h.el (fun k hk => (h.apart 33 (by omega) k hk).1) (by rw [natsI_len]; omega)).mono ?_
 rintro e w' ⟨rfl, v', hb', hr, ho, hv⟩
 have e2 := hback (updF V 33 v') (fun k hk => updF_other _ _ (by omega))
 rw [updF_other _ _ (show 32 ≠ 33 by omega), updF_same] at e2
 obtain ⟨h1, h2⟩ := h.put_list (q' := ⟨q.fl, q.fresh, q.elder ++ [b]⟩) (j := 33) (by omega) rfl (by rw [e2]; exact hb') (fun e => by omega) (fun _ => ⟨by show RowN w' v' (natsI (q.elder ++ [b])); rw [natsI_snoc]; exact hr, rfl⟩) ho hv
 exact ⟨rfl, _, h1, h2⟩
theorem leaveq1_any (T : Nat → Prop) (w : World) (x : Rq) (V : Nat → Value) (q : Qu) (h : IsCq T w x V q) (b : Nat) (r : List Nat) (hq : q.elder = b :: r) (hl : r.length ≤ 1000) :
 Calls Tryz.prog 67 #[.pointer (some ⟨x.g, 0, none⟩), .int .i64 1] w fun e w' => e = .returned (.int .i64 (b : Nat)) ∧ ∃ V', IsCq T w' x V' ⟨q.fl, q.fresh, r⟩ ∧ CqS T w x V T w' V' := by
 obtain ⟨pre, hp, hc, hback⟩ := cq_lists x V q.fl
 have hb := h.blk
 rw [hc] at hb
 have hrow : RowN w (V 33) ((b : Int) :: natsI r) := by have := h.el; rw [hq] at this; exact this
 refine (leave1_any x.g _ pre (V 32) (V 33) (b : Int) (natsI r) w hb hp hrow (fun k hk => (h.apart 33 (by omega) k hk).1) (by rw [natsI_len]; omega)).mono ?_
 rintro e w' ⟨rfl, v', hb', hr, ho, hv⟩
 have e2 := hback (updF V 33 v') (fun k hk => updF_other _ _ (by omega))
 rw [updF_other _ _ (show 32 ≠ 33 by omega), updF_same] at e2
 obtain ⟨h1, h2⟩ := h.put_list (q' := ⟨q.fl, q.fresh, r⟩) (j := 33) (by omega) rfl (by rw [e2]; exact hb') (fun e => by omega) (fun _ => ⟨hr, rfl⟩) ho (fun k hk => .inl (hv ▸ hk))
 exact ⟨rfl, _, h1, h2⟩
def bkQ (s : BitVec 32) (f : Int) : Nat := bkt (BitVec.ofInt 32 f) s
theorem bkQ_uv (s a : BitVec 32) : bkQ s (uv a) = bkt a s := by
 unfold bkQ uv
 congr 1
 simp
theorem bkQ_lt (s : BitVec 32) (f : Int) : bkQ s f < 16 := bkt_lt _ _
set_option maxRecDepth 100000 in
set_option maxHeartbeats 8000000 in
theorem put_any (sd : BitVec 32) (T : Nat → Prop) (w : World) (x : Rq) (V : Nat → Value) (q : Qu) (h : IsCq T w x V q) (hsd : x.seed = uv sd) (p : Pk) (A : Option Addr) (m cp : Nat) (hb : RowB .u8 w A m p.body) (hm : m ≤ 1000000)
 (hf : 0 ≤ p.flow ∧ p.flow ≤ 4294967295) (hlen : ∀ b, b < 16 → (q.fl b).pk.length ≤ 10000) (hbd : ∀ b, b < 16 → ∀ y ∈ (q.fl b).pk, y.body.length ≤ 1000000) (hfr : q.fresh.length ≤ 1000) (her : q.elder.length ≤ 1000) (hin : ∀ b ∈ q.fresh ++ q.elder, b < 16) :
 Calls Tryz.prog 34 #[.pointer (some ⟨x.g, 0, none⟩), pkV p (.slice A m cp)] w fun e w' => e = .returned (.int .i64 (bkQ sd p.flow : Nat)) ∧ ∃ T' V', IsCq T' w' x V' (putQ (bkQ sd) q p) ∧ CqS T w x V T' w' V' := by
 obtain ⟨pi, pf, pt, pa, pb⟩ := p
 dsimp only at *
 obtain ⟨fa, rfl⟩ := uv_of hf.1 hf.2
 rw [bkQ_uv]
 have HPQ := Shut.mk (show bkQ sd (uv fa) = bkt fa sd from bkQ_uv sd fa)
 obtain ⟨b, hbb⟩ : ∃ b, bkt fa sd = b := ⟨_, rfl⟩
 have HBB := Shut.mk hbb
 have hb16 : b < 16 := by rw [← hbb]; exact bkt_lt _ _
 rw [hbb] at HPQ ⊢
 have hbi : (b : Int) < 16 := by omega
 have HM := Shut.mk (show m ≤ 1000000000 by omega)
 have HSD := Shut.mk hsd
 have HLN := Shut.mk (show (q.fl b).pk.length ≤ 1000000 by have := hlen b hb16; omega)
 have HLI := Shut.mk (show (itemsF (q.fl b).pk).length ≤ 1000000 by rw [itemsF_len]; have := hlen b hb16; omega)
 have HBY := Shut.mk (show 0 ≤ bytesF (q.fl b).pk ∧ bytesF (q.fl b).pk ≤ 4503599627370496 by
  have h1 := bytes_low _ (hbd b hb16)
  have h2 := hlen b hb16
  omega)
 have HFR := Shut.mk hfr
 have HER := Shut.mk her
 have HIN := Shut.mk hin
 have HQ0 := Shut.mk h
 have HLB := Shut.mk hb.len
 have HA1 := Shut.mk ((Below.refl w.heap.size w).alloc (Nat.le_refl _) (Obj.cells #[Value.int .i64 pi, .int .u32 (uv fa), .int .i64 pt, .int .i64 pa, Value.slice A m cp] 35 (0, 0)))
 have HX1 := Shut.mk (MapKept.heap_alloc w (Obj.cells #[Value.int .i64 pi, .int .u32 (uv fa), .int .i64 pt, .int .i64 pa, Value.slice A m cp] 35 (0, 0))).1
 have HRB1 := Shut.mk (hb.below HA1.out)
 clear hbb hsd hlen hbd hfr her hin h hb hm hf
 unfold pkV
 dsimp only
 go_enter Tryz.func34, Tryz.ntmps34
 go_wp2_with (fail)
 generalize World.alloc w _ = w1 at *
 obtain ⟨s0, hs0⟩ : ∃ s, s = w.heap.size := ⟨_, rfl⟩
 have HS0 := Shut.mk hs0
 rw [← hs0] at HX1 ⊢
 clear hs0
 obtain ⟨w5, hw5⟩ : ∃ w5, w5 = World.drew w1 := ⟨_, rfl⟩
 have HW5 := Shut.mk hw5
 have HD5 := Shut.mk (show Below w1.heap.size w1 w5 by rw [hw5]; exact (Below.refl _ _).drew)
 have HX5 := Shut.mk ((HD5.out.block _ (lt_blk HX1.out)).trans HX1.out)
 have HQ5 := Shut.mk ((HQ0.out.quiet HA1.out).quiet HD5.out)
 have HRB5 := Shut.mk (HRB1.out.below HD5.out)
 clear hw5
 refine wp_region_D (fun w' => w5 = w') 6 (by kernel_rfl) HW5.out (fun hHeld hC => ?_)
 rw [← HW5.out] at hHeld ⊢
 refine dP 0 hC hHeld ?_; clear hC; intro hC
 refine dT 1 hC hHeld (fun w hSw => (show w.cell? ⟨s0, 1, none⟩ = some (.int .u32 (uv fa)) from by rw [← hSw]; have := block_range HX5.out 1 _ rfl; simpa using this)) ?_; clear hC; intro hC
 refine dP 2 hC hHeld ?_; clear hC; intro hC
 refine dP 3 hC hHeld ?_; clear hC; intro hC
 refine dP 4 hC hHeld ?_; clear hC; intro hC
 refine dT 5 hC hHeld (fun w hSw => (show w.cell? ⟨x.g, 0, none⟩ = some (.int .u32 (uv sd)) from by rw [← hSw, ← HSD.out]; exact HQ5.out.head.1)) ?_; clear hC; intro hC
 refine wpAnyD_one (i := 6) (by kernel_rfl) rfl hC (fun K hK => ?_)
 clear hC
 go_simp
 refine (bucket_any fa sd _).mono ?_
 rintro e' wn ⟨rfl, rfl⟩
 rw [HBB.out]
 refine hK.out _ _ (past (by kernel_rfl)) (fun hC => ?_)
 clear hK K
 try simp only [Act.put, sG1, sG2, sG3, sG4, sG5, sG6]
 refine dQ 7 hC ?_; clear hC; intro hC
 refine wpAnyD_done (by kernel_rfl) ?_ _
 try simp only [Act.put, sG1, sG2, sG3, sG4, sG5, sG6]
 clear hHeld hC
 obtain ⟨w6, hw6⟩ : ∃ w6, w6 = World.drew w5 := ⟨_, rfl⟩
 have HW6 := Shut.mk hw6
 have HD6 := Shut.mk (show Below w5.heap.size w5 w6 by rw [hw6]; exact (Below.refl _ _).drew)
 have HX6 := Shut.mk ((HD6.out.block _ (lt_blk HX5.out)).trans HX5.out)
 have HQ6 := Shut.mk (HQ5.out.quiet HD6.out)
 have HRB6 := Shut.mk (HRB5.out.below HD6.out)
 have HB6 := Shut.mk (HA1.out.trans ((HD5.out.trans (HD6.out.mono HD5.out.size)).mono HA1.out.size))
 clear hw6
 obtain ⟨pre, post, hpre, hsp, hback⟩ := cq_split x V q.fl hb16
 have HPR := Shut.mk hpre
 have HFL := Shut.mk (HQ6.out.flow hb16 hsp)
 have HBK := Shut.mk hback
 clear hpre hsp hback
 go_wp2_with (fail)
 refine wp_region_D (fun w' => w6 = w') 6 (by kernel_rfl) HW6.out (fun hHeld hC => ?_)
 rw [← HW6.out] at hHeld ⊢
 refine dP 0 hC hHeld ?_; clear hC; intro hC
 refine dP 1 hC hHeld ?_; clear hC; intro hC
 refine dP 2 hC hHeld ?_; clear hC; intro hC
 refine dP 3 hC hHeld ?_; clear hC; intro hC
 refine dP 4 hC hHeld ?_; clear hC; intro hC
 refine wpAnyD_take (i := 5) (v := .agg ([Value.int .i64 pi, .int .u32 (uv fa), .int .i64 pt, .int .i64 pa, Value.slice A m cp]).toArray) 40 rfl (by kernel_rfl) hC (by kernel_rfl) (by kernel_rfl) (by kernel_rfl) (by decide) (fun _ _ _ h => h) (yieldsIf_load_mid (by rfl) 35 (.tmp 3) rfl s0 (0) rfl ([Value.int .i64 pi, .int .u32 (uv fa), .int .i64 pt, .int .i64 pa, Value.slice A m cp]) _ (fun w' hSw => by rw [← hSw]; exact block_range HX6.out) Tryz.underlying35 rfl size5) (fun _ => hHeld) ?_
 try simp only [Act.put, sG1, sG2, sG3, sG4, sG5, sG6]
 clear hC
 intro hC
 refine wpAnyD_one (i := 6) (by kernel_rfl) rfl hC (fun K hK => ?_)
 clear hC
 go_simp
 refine (add_any T x.g (3 + b * 9) _ pre post (V b) (V (16 + b)) (q.fl b).pk (itemsF (q.fl b).pk) (bytesF (q.fl b).pk) (q.fl b).df (q.fl b).cd ⟨pi, uv fa, pt, pa, pb⟩ A m cp _ HFL.out HPR.out HRB6.out HM.out HLN.out HLI.out HBY.out).mono ?_
 rintro e' w7 ⟨rfl, T', vp', vi', hF, hS⟩
 have HF7 := Shut.mk hF
 have HS7 := Shut.mk hS
 clear hF hS
 refine hK.out _ _ (past (by kernel_rfl)) (fun hC => ?_)
 clear hK K
 try simp only [Act.put, sG1, sG2, sG3, sG4, sG5, sG6]
 refine wpAnyD_done (by kernel_rfl) ?_ _
 try simp only [Act.put, sG1, sG2, sG3, sG4, sG5, sG6]
 clear hC
 -- the flow is put back
 have HP8 := Shut.mk (HQ6.out.put_flow hb16 HBK.out (y := ⟨(q.fl b).pk ++ [⟨pi, uv fa, pt, pa, pb⟩], (q.fl b).df, (q.fl b).cd⟩) (by
  have h1 := HF7.out
  have e1 : itemsF ((q.fl b).pk ++ [⟨pi, uv fa, pt, pa, pb⟩]) = itemsF (q.fl b).pk ++ [⟨pa, (pb.length : Nat)⟩] := by simp [itemsF]
  have e2 : bytesF ((q.fl b).pk ++ [⟨pi, uv fa, pt, pa, pb⟩]) = bytesF (q.fl b).pk + (pb.length : Nat) := bytesF_snoc _ _
  rw [← e1, ← e2] at h1
  exact h1) HS7.out)
 obtain ⟨V8, hV8⟩ : ∃ V8, V8 = upd2 V b vp' vi' := ⟨_, rfl⟩
 rw [← hV8] at HP8
 have HQ8 := Shut.mk HP8.out.1
 have HC8 := Shut.mk (CqS.from_ HB6.out HP8.out.2)
 clear HP8 hV8 HF7 HS7 HBK HFL
 obtain ⟨A0, c0, hv0, -, -⟩ := HQ8.out.fr.form
 obtain ⟨A1, c1, hv1, -, -⟩ := HQ8.out.el.form
 have hn0 := natsI_len q.fresh
 have hn1 := natsI_len q.elder
 dsimp only at hv0 hv1
 have hl0 := HQ8.out.cells.1
 have hl1 := HQ8.out.cells.2
 rw [hv0] at hl0
 rw [hv1] at hl1
 have HR0 := Shut.mk (show RowB .i64 w7 A0 (natsI q.fresh).length (natsI q.fresh) from by
  have h1 := HQ8.out.fr
  rw [hv0] at h1
  exact h1.row (by rw [natsI_len]; have := HFR.out; unfold maxLen; omega) (natsI_in fun b hb => HIN.out b (List.mem_append_left _ hb)))
 have HR1 := Shut.mk (show RowB .i64 w7 A1 (natsI q.elder).length (natsI q.elder) from by
  have h1 := HQ8.out.el
  rw [hv1] at h1
  exact h1.row (by rw [natsI_len]; have := HER.out; unfold maxLen; omega) (natsI_in fun b hb => HIN.out b (List.mem_append_right _ hb)))
 have HNF := Shut.mk hn0
 have HNE := Shut.mk hn1
 clear hn0 hn1 hv0 hv1
 by_cases m0 : b ∈ q.fresh
 ·have HD0 := Shut.mk (show decide ((b : Int) ∈ natsI q.fresh) = true from decide_eq_true (natsI_mem.2 m0))
  have HPU := Shut.mk (show putQ (bkQ sd) q ⟨pi, uv fa, pt, pa, pb⟩ = ⟨setF q.fl b ⟨(q.fl b).pk ++ [⟨pi, uv fa, pt, pa, pb⟩], (q.fl b).df, (q.fl b).cd⟩, q.fresh, q.elder⟩ by unfold putQ; dsimp only; rw [HPQ.out, if_pos (.inl m0)])
  clear m0
  go_wp2_with (fail)
  refine (contains_any _ _ _ _ (b : Int) _ HR0.out).mono ?_
  rintro e' wn ⟨rfl, rfl⟩
  rw [HD0.out]
  go_wp2_with (fail)
  go_ret
  exact ⟨rfl, T', V8, by rw [HPU.out]; exact HQ8.out, HC8.out⟩
 ·have HD0 := Shut.mk (show decide ((b : Int) ∈ natsI q.fresh) = false from decide_eq_false fun h => m0 (natsI_mem.1 h))
  by_cases m1 : b ∈ q.elder
  ·have HD1 := Shut.mk (show decide ((b : Int) ∈ natsI q.elder) = true from decide_eq_true (natsI_mem.2 m1))
   have HPU := Shut.mk (show putQ (bkQ sd) q ⟨pi, uv fa, pt, pa, pb⟩ = ⟨setF q.fl b ⟨(q.fl b).pk ++ [⟨pi, uv fa, pt, pa, pb⟩], (q.fl b).df, (q.fl b).cd⟩, q.fresh, q.elder⟩ by unfold putQ; dsimp only; rw [HPQ.out, if_pos (.inr m1)])
   clear m0 m1
   go_wp2_with (fail)
   refine (contains_any _ _ _ _ (b : Int) _ HR0.out).mono ?_
   rintro e' wn ⟨rfl, rfl⟩
   rw [HD0.out]
   go_wp2_with (fail)
   refine (contains_any _ _ _ _ (b : Int) _ HR1.out).mono ?_
   rintro e' wn ⟨rfl, rfl⟩
   rw [HD1.out]
   go_wp2_with (fail)
   go_ret
   exact ⟨rfl, T', V8, by rw [HPU.out]; exact HQ8.out, HC8.out⟩
  ·have HD1 := Shut.mk (show decide ((b : Int) ∈ natsI q.elder) = false from decide_eq_false fun h => m1 (natsI_mem.1 h))
   have HPU := Shut.mk (show putQ (bkQ sd) q ⟨pi, uv fa, pt, pa, pb⟩ = ⟨setF q.fl b ⟨(q.fl b).pk ++ [⟨pi, uv fa, pt, pa, pb⟩], 300, (q.fl b).cd⟩, q.fresh ++ [b], q.elder⟩ by unfold putQ; dsimp only; rw [HPQ.out, if_neg (fun e => e.elim m0 m1)])
   clear m0 m1
   obtain ⟨pre2, post2, hpre2, hsp2, hback2⟩ := cq_split x V8 (setF q.fl b ⟨(q.fl b).pk ++ [⟨pi, uv fa, pt, pa, pb⟩], (q.fl b).df, (q.fl b).cd⟩) hb16
   have HPR2 := Shut.mk hpre2
   have HFL2 := Shut.mk (HQ8.out.flow hb16 hsp2)
   simp only [setF_same] at HFL2
   have HP9 := Shut.mk (HQ8.out.put_flow hb16 hback2 (y := ⟨(q.fl b).pk ++ [⟨pi, uv fa, pt, pa, pb⟩], 300, (q.fl b).cd⟩) (HFL2.out.store _ 300 _) (FlS.own _))
   obtain ⟨w9, hw9⟩ : ∃ w9, w9 = w7.setRow x.g (pre2 ++ fcR (V8 b) (V8 (16 + b)) (bytesF ((q.fl b).pk ++ [⟨pi, uv fa, pt, pa, pb⟩])) 300 (q.fl b).cd ++ post2).toArray := ⟨_, rfl⟩
   rw [← hw9] at HP9
   have HW9 := Shut.mk hw9
   have HQ9 := Shut.mk HP9.out.1
   have HC9 := Shut.mk (HC8.out.trans HP9.out.2)
   have hset : setF (setF q.fl b ⟨(q.fl b).pk ++ [⟨pi, uv fa, pt, pa, pb⟩], (q.fl b).df, (q.fl b).cd⟩) b ⟨(q.fl b).pk ++ [⟨pi, uv fa, pt, pa, pb⟩], 300, (q.fl b).cd⟩ = setF q.fl b ⟨(q.fl b).pk ++ [⟨pi, uv fa, pt, pa, pb⟩], 300, (q.fl b).cd⟩ := by
    funext k; unfold setF; split <;> rfl
   rw [hset] at HQ9
   clear hpre2 hsp2 hback2 hw9 HP9 hset
   go_wp2_with (fail)
   refine (contains_any _ _ _ _ (b : Int) _ HR0.out).mono ?_
   rintro e' wn ⟨rfl, rfl⟩
   rw [HD0.out]
   go_wp2_with (fail)
   refine (contains_any _ _ _ _ (b : Int) _ HR1.out).mono ?_
   rintro e' wn ⟨rfl, rfl⟩
   rw [HD1.out]
   go_wp2_with (refine wpList_store_fld rfl 3 (.tmp 43) (.const (.int .i64 300)) rfl x.g (3 + b * 9) 3 (.int .i64 300) rfl rfl rfl _ pre2 _ (fcR (V8 b) (V8 (16 + b)) (bytesF ((q.fl b).pk ++ [⟨pi, uv fa, pt, pa, pb⟩])) 300 (q.fl b).cd) post2 HFL2.out.blk HPR2.out size1i (by show 3 < 9; omega) rfl ?_
                rw [show World.setRow w7 x.g _ = w9 from HW9.out.symm])
   refine (joinq0_any T' w9 x _ _ HQ9.out HFR.out b).mono ?_
   rintro e' wZ ⟨rfl, VZ', hQZ, hCZ⟩
   have HQZ := Shut.mk hQZ
   have HCZ := Shut.mk (HC9.out.trans hCZ)
   clear hQZ hCZ
   go_wp2_with (fail)
   go_ret
   exact ⟨rfl, T', VZ', by rw [HPU.out]; exact HQZ.out, HCZ.out⟩
end Go.Proofs.YtndkmgcmegcieaaGreatDoor
/-
  MATHS of a queue of few packets: what a turn, a pull and a taking keep; the lists behind each; how many are dropped at most. No program is named.
-/
namespace Go.Proofs.YtndkmgcmegcieaaGreatDoor
set_option linter.unusedVariables false
set_option linter.unusedSimpArgs false
structure FewC (q : Qu) : Prop where
 len : ∀ b, b < 16 → (q.fl b).pk.length ≤ 1000
 el : ∀ b, b < 16 → ∀ p ∈ (q.fl b).pk, 0 ≤ p.at_ ∧ p.at_ ≤ 4503599627370496 ∧ p.body.length ≤ 1000000
 cd : ∀ b, b < 16 → Kept 4503599627370496 (q.fl b).cd
 df : ∀ b, b < 16 → -1000000 ≤ (q.fl b).df ∧ (q.fl b).df ≤ 300
theorem few_set {q : Qu} {b : Nat} {y : Fl} {fr el : List Nat} (h : FewC q) (hl : y.pk.length ≤ 1000) (he : ∀ p ∈ y.pk, 0 ≤ p.at_ ∧ p.at_ ≤ 4503599627370496 ∧ p.body.length ≤ 1000000) (hc : Kept 4503599627370496 y.cd) (hd : -1000000 ≤ y.df ∧ y.df ≤ 300) : FewC ⟨setF q.fl b y, fr, el⟩ := by
 refine ⟨fun k hk => ?_, fun k hk => ?_, fun k hk => ?_, fun k hk => ?_⟩ <;> by_cases e : k = b
 ·subst e; simp only [setF_same]; exact hl
 ·simp only [setF_other _ _ e]; exact h.len k hk
 ·subst e; simp only [setF_same]; exact he
 ·simp only [setF_other _ _ e]; exact h.el k hk
 ·subst e; simp only [setF_same]; exact hc
 ·simp only [setF_other _ _ e]; exact h.cd k hk
 ·subst e; simp only [setF_same]; exact hd
 ·simp only [setF_other _ _ e]; exact h.df k hk
theorem few_turn {q : Qu} {b : Nat} (h : FewC q) (hb : b < 16) (hd : (q.fl b).df ≤ 0) : FewC (turnQ q b) :=
 few_set h (h.len b hb) (h.el b hb) (h.cd b hb) (by have := h.df b hb; dsimp only; omega)
theorem few_gone {P : Pl} {q : Qu} {b : Nat} {nw : Bool} {c : Cd} {n : Nat} {is : Bool} (h : FewC q) (hb : b < 16) (h0 : 0 ≤ P.now) (hM : P.now + 1073741824 ≤ 4503599627370496) (hp : pullF P (q.fl b) = (c, n, is)) : FewC (goneQ q b nw c n) := by
 have hk := pull_kept h0 hM (h.cd b hb) (bytesF (q.fl b).pk) (itemsF (q.fl b).pk)
 unfold pullF at hp
 rw [hp] at hk
 refine few_set h ?_ (fun p hp => h.el b hb p (List.mem_of_mem_drop hp)) hk (h.df b hb)
 have := h.len b hb
 rw [List.length_drop]; omega
theorem few_took {P : Pl} {q : Qu} {b : Nat} {c : Cd} {n : Nat} (h : FewC q) (hb : b < 16) (h0 : 0 ≤ P.now) (hM : P.now + 1073741824 ≤ 4503599627370496) (hp : pullF P (q.fl b) = (c, n, true)) (hd : 0 < (q.fl b).df) : FewC (tookQ q b c n) := by
 have hk := pull_kept h0 hM (h.cd b hb) (bytesF (q.fl b).pk) (itemsF (q.fl b).pk)
 have hn := (pullF_bound hp).1 rfl
 unfold pullF at hp
 rw [hp] at hk
 refine few_set h ?_ (fun p hp => h.el b hb p (List.mem_of_mem_drop hp)) hk ?_
 ·have := h.len b hb
  rw [List.length_drop]; omega
 ·rw [List.getElem?_eq_getElem hn]
  have h1 := h.el b hb _ (List.getElem_mem hn)
  have h2 := h.df b hb
  unfold lenO
  dsimp only
  omega
theorem turn_new {bk : Int → Nat} {q : Qu} {b : Nat} {r : List Nat} (h : InvQ bk q) (hf : q.fresh = b :: r) : turnQ q b = ⟨setF q.fl b ⟨(q.fl b).pk, (q.fl b).df + 300, (q.fl b).cd⟩, r, q.elder ++ [b]⟩ := by
 obtain ⟨n1, n2, n3⟩ := lists_apart h.nodup
 rw [hf, List.nodup_cons] at n1
 have hbe : b ∉ q.elder := n3 b (by rw [hf]; simp)
 unfold turnQ
 rw [hf, del_head n1.1, del_not hbe]
theorem turn_old {bk : Int → Nat} {q : Qu} {b : Nat} {r : List Nat} (h : InvQ bk q) (h0 : q.fresh = []) (hf : q.elder = b :: r) : turnQ q b = ⟨setF q.fl b ⟨(q.fl b).pk, (q.fl b).df + 300, (q.fl b).cd⟩, [], r ++ [b]⟩ := by
 obtain ⟨n1, n2, n3⟩ := lists_apart h.nodup
 rw [hf, List.nodup_cons] at n2
 unfold turnQ
 rw [h0, hf, del_head n2.1]
 rfl
theorem gone_new {bk : Int → Nat} {q : Qu} {b : Nat} {r : List Nat} (c : Cd) (n : Nat) (h : InvQ bk q) (hf : q.fresh = b :: r) : goneQ q b true c n = ⟨setF q.fl b ⟨(q.fl b).pk.drop n, (q.fl b).df, c⟩, r, if q.elder = [] then [] else q.elder ++ [b]⟩ := by
 obtain ⟨n1, n2, n3⟩ := lists_apart h.nodup
 rw [hf, List.nodup_cons] at n1
 have hbe : b ∉ q.elder := n3 b (by rw [hf]; simp)
 unfold goneQ
 rw [hf, del_head n1.1, del_not hbe]
 by_cases e : q.elder = []
 ·rw [if_neg (fun h => h.2 e), if_pos e, e]
 ·rw [if_pos ⟨rfl, e⟩, if_neg e]
theorem gone_old {bk : Int → Nat} {q : Qu} {b : Nat} {r : List Nat} (c : Cd) (n : Nat) (h : InvQ bk q) (h0 : q.fresh = []) (hf : q.elder = b :: r) : goneQ q b false c n = ⟨setF q.fl b ⟨(q.fl b).pk.drop n, (q.fl b).df, c⟩, [], r⟩ := by
 obtain ⟨n1, n2, n3⟩ := lists_apart h.nodup
 rw [hf, List.nodup_cons] at n2
 unfold goneQ
 rw [h0, hf, if_neg (fun h => by cases h.1), del_head n2.1]
 rfl
theorem nodup_lt : ∀ (n : Nat) (l : List Nat), l.Nodup → (∀ b ∈ l, b < n) → l.length ≤ n
 | 0, l, _, h => by
  cases l with
  | nil => exact Nat.le_refl _
  | cons b r => have := h b List.mem_cons_self; omega
 | n + 1, l, hn, h => by
  by_cases hm : n ∈ l
  ·have h1 := del_len hn hm
   have h2 := nodup_lt n (delL l n) (hn.filter _) fun b hb => by
    have h3 := mem_del.1 hb
    have := h b h3.1
    omega
   omega
  ·have h2 := nodup_lt n l hn fun b hb => by
    have := h b hb
    have : b ≠ n := fun e => hm (e ▸ hb)
    omega
   omega
theorem lists_len {bk : Int → Nat} {q : Qu} (h : InvQ bk q) : (q.fresh ++ q.elder).length ≤ 16 := by
 exact nodup_lt 16 _ h.nodup h.lt
theorem takes_pre {P : Pl} {q : Qu} {ds : List Pk} {r : Option Pk} {ds' : List Pk} {q' : Qu} (h : Takes P q ds r ds' q') : ds.length ≤ ds'.length := by
 induction h with
 | none _ => exact Nat.le_refl _
 | turn _ _ _ ih => exact ih
 | gone _ _ _ _ ih => rw [List.length_append] at ih; omega
 | took _ _ _ => rw [List.length_append]; omega
theorem sum_le {f : Nat → Nat} {k : Nat} : ∀ n, (∀ b, b < n → f b ≤ k) → ((List.range n).map f).sum ≤ n * k
 | 0, _ => by simp
 | n + 1, h => by
  rw [List.range_succ, List.map_append, List.sum_append, Nat.succ_mul]
  have h1 := sum_le n fun b hb => h b (by omega)
  have h2 := h n (by omega)
  simp
  omega
theorem takes_len {bk : Int → Nat} {P : Pl} {q : Qu} {r : Option Pk} {ds' : List Pk} {q' : Qu} (h : Takes P q [] r ds' q') (hI : InvQ bk q) (hb : ∀ f, bk f < 16) (hF : FewC q) : ds'.length ≤ 16000 := by
 obtain ⟨-, h2, -⟩ := takes_keep h hI
 rw [len_buckets hb ds']
 refine Nat.le_trans (sum_le (k := 1000) 16 fun b hb => ?_) (by decide)
 have h3 := congrArg List.length (h2 b)
 rw [outOf_append, List.append_assoc, List.length_append, List.length_append] at h3
 have h4 := hF.len b hb
 simp only [outOf, List.filter_nil, List.nil_append] at h3 ⊢
 omega
theorem few_put {bk : Int → Nat} {q : Qu} {p : Pk} (hb : bk p.flow < 16) (h : FewC q) (hl : (q.fl (bk p.flow)).pk.length < 1000) (he : 0 ≤ p.at_ ∧ p.at_ ≤ 4503599627370496 ∧ p.body.length ≤ 1000000) : FewC (putQ bk q p) := by
 unfold putQ
 split
 ·exact few_set h (by simp; omega) (fun y hy => by
   rcases List.mem_append.1 hy with hy | hy
   ·exact h.el _ hb y hy
   ·rw [List.mem_singleton.1 hy]; exact he) (h.cd _ hb) (h.df _ hb)
 ·exact few_set h (by simp; omega) (fun y hy => by
   rcases List.mem_append.1 hy with hy | hy
   ·exact h.el _ hb y hy
   ·rw [List.mem_singleton.1 hy]; exact he) (h.cd _ hb) ⟨by show (-1000000 : Int) ≤ 300; omega, Int.le_refl _⟩
theorem few_Z : FewC ⟨fun _ => ⟨[], 0, ⟨0, 0, 0, 0, false⟩⟩, [], []⟩ := ⟨fun b _ => Nat.zero_le _, (fun b _ p hp => by cases hp), (fun b _ => ⟨by show 0 < _; omega, by show 0 < _; omega, Int.le_refl _, by show (0 : Int) ≤ _; omega⟩), (fun b _ => ⟨by show (-1000000 : Int) ≤ 0; omega, by show (0 : Int) ≤ 300; omega⟩)⟩
theorem takes_few {bk : Int → Nat} {P : Pl} {q : Qu} {ds : List Pk} {r : Option Pk} {ds' : List Pk} {q' : Qu} (h : Takes P q ds r ds' q') (h0 : 0 ≤ P.now) (hM : P.now + 1073741824 ≤ 4503599627370496) : InvQ bk q → FewC q → FewC q' := by
 induction h with
 | none _ => exact fun _ h => h
 | turn h1 hd _ ih => exact fun hI hF => ih (inv_turn hI (firstQ_mem h1)) (few_turn hF (hI.lt _ (firstQ_mem h1)) hd)
 | gone h1 hd hp _ ih => exact fun hI hF => ih (inv_gone hI (firstQ_mem h1) (Nat.le_of_eq ((pullF_bound hp).2 rfl).symm)) (few_gone hF (hI.lt _ (firstQ_mem h1)) h0 hM hp)
 | took h1 hd hp => exact fun hI hF => few_took hF (hI.lt _ (firstQ_mem h1)) h0 hM hp hd
end Go.Proofs.YtndkmgcmegcieaaGreatDoor
