/-
  THE REFERENCE's QUEUE: what its Take keeps in its loop.
-/
import Derived.Test.YtndkmgcmegcieaaGreatDoorFqRe
import Derived.Test.YtndkmgcmegcieaaGreatDoorFqT
namespace Go.Proofs.YtndkmgcmegcieaaGreatDoor
open Go.ChangeShapes Go.WideShapes Go.ChangeAt Go.RowKit Go.Deep
set_option linter.unusedVariables false
set_option linter.unusedSimpArgs false
theorem nats_wf {l : List Nat} (h : ∀ b ∈ l, b < 16) : ∀ y ∈ natsI l, -9223372036854775808 ≤ y ∧ y ≤ 9223372036854775807 := fun y hy => by
 obtain ⟨z, hz, rfl⟩ := List.mem_map.1 hy
 have := h z hz
 omega
structure TakR (T : Nat → Prop) (w : World) (x : Rq) (V : Nat → Value) (s4 : Nat) (u : Value) (wr : World) (q1 : Qu) (V1 : Nat → Value) (ds1 : List Pk) : Prop where
 is : IsRq T wr x V1 q1
 st : RqS T w x V T wr V1
 own : OwnP T wr (s4 + 1) u ds1
 ap : ∀ k, FootR x V1 k → k ≠ s4 ∧ u.ownBlock ≠ some k
 res : wr.heap[s4]? = some (.cells [Value.int .i64 0, .int .u32 0, .int .i64 0, .int .i64 0, .slice none 0 0].toArray 35 (0, 0))
 sw : s4 = w.heap.size
 old : ∀ j, T j → j < s4
section
variable {T : Nat → Prop} {w wr w2 w1 : World} {x : Rq} {V V1 V2 : Nat → Value} {s4 : Nat} {u : Value} {q1 q2 : Qu} {ds1 : List Pk}
theorem TakR.quiet (h : TakR T w x V s4 u wr q1 V1 ds1) (hb : Below wr.heap.size wr w2) : TakR T w x V s4 u w2 q1 V1 ds1 :=
 ⟨h.is.below hb, h.st.quiet hb, OwnK.below h.own hb, h.ap, (hb.block _ (lt_blk h.res)).trans h.res, h.sw, h.old⟩
theorem TakR.step (h : TakR T w x V s4 u wr q1 V1 ds1) (hs : RqS T wr x V1 T w2 V2) (hq : IsRq T w2 x V2 q2) : TakR T w x V s4 u w2 q2 V2 ds1 :=
 ⟨hq, h.st.trans hs, OwnK.only h.own hs.only (fun g hg e => (h.ap g e).2 hg) (fun k hk e => h.is.foot e hk), fun k hk => by
   rcases hs.fresh k hk with h1 | h1
   ·exact h.ap k h1
   ·have h2 := lt_blk h.res
    refine ⟨by omega, fun e => ?_⟩
    obtain ⟨l', ho, -⟩ := h.own
    have := (World.ownsRow.lt ho.1 k e).2
    omega, hs.only.at_ h.res (fun e => (h.ap s4 e).1 rfl), h.sw, h.old⟩
theorem TakR.num (h : TakR T w x V s4 u wr q1 V1 ds1) (hpk : ∀ c, c < 16 → (q2.fl c).pk = (q1.fl c).pk) (hfr : q2.fresh = q1.fresh) (hel : q2.elder = q1.elder) : TakR T w x V s4 u (wr.setRow x.g (rqC x V1 q2.fl).toArray) q2 V1 ds1 := by
 obtain ⟨hQ, hS⟩ := h.is.num (w' := wr.setRow x.g (rqC x V1 q2.fl).toArray) (q' := q2) (only_setRow _ _ _) (setRow_heap wr x.g _ _ _ (0, 0) h.is.blk) hpk hfr hel
 exact h.step hS hQ
theorem TakR.newpk (h : TakR T w x V s4 u wr q1 V1 ds1) {b : Nat} (hb : b < 16) (hB : Below wr.heap.size wr w1) {v : Value} {l : List Pk} (df : Int) (cd : Cd) (hu : OwnP T w1 wr.heap.size v l) :
 TakR T w x V s4 u (w1.setRow x.g (rqC x (updF V1 b v) (setF q1.fl b ⟨l, df, cd⟩)).toArray) ⟨setF q1.fl b ⟨l, df, cd⟩, q1.fresh, q1.elder⟩ (updF V1 b v) ds1 := by
 obtain ⟨hQ, hS⟩ := h.is.new_pk hb hB df cd hu (ownsP_new hu)
 exact h.step hS hQ
theorem TakR.newfr (h : TakR T w x V s4 u wr q1 V1 ds1) (hB : Below wr.heap.size wr w1) {v : Value} {l : List Nat} (hu : OwnN w1 wr.heap.size v (natsI l)) :
 TakR T w x V s4 u (w1.setRow x.g (rqC x (updF V1 16 v) q1.fl).toArray) ⟨q1.fl, l, q1.elder⟩ (updF V1 16 v) ds1 := by
 obtain ⟨hQ, hS⟩ := h.is.new_fr hB hu
 exact h.step hS hQ
theorem TakR.newel (h : TakR T w x V s4 u wr q1 V1 ds1) (hB : Below wr.heap.size wr w1) {v : Value} {l : List Nat} (hu : OwnN w1 wr.heap.size v (natsI l)) :
 TakR T w x V s4 u (w1.setRow x.g (rqC x (updF V1 17 v) q1.fl).toArray) ⟨q1.fl, q1.fresh, l⟩ (updF V1 17 v) ds1 := by
 obtain ⟨hQ, hS⟩ := h.is.new_el hB hu
 exact h.step hS hQ
theorem TakR.appel (h : TakR T w x V s4 u wr q1 V1 ds1) (ho : Only (fun k => (V1 17).ownBlock = some k) wr w1) {v : Value} {l : List Nat} (hu : OwnN w1 0 v (natsI l)) (hf : ∀ k, v.ownBlock = some k → (V1 17).ownBlock = some k ∨ wr.heap.size ≤ k) :
 TakR T w x V s4 u (w1.setRow x.g (rqC x (updF V1 17 v) q1.fl).toArray) ⟨q1.fl, q1.fresh, l⟩ (updF V1 17 v) ds1 := by
 obtain ⟨hQ, hS⟩ := h.is.app_el ho hu hf
 exact h.step hS hQ
theorem TakR.app (h : TakR T w x V s4 u wr q1 V1 ds1) {wE : World} {vE : Value} {ds2 : List Pk} (ho : Only (fun j => u.ownBlock = some j) wr wE) (hE : OwnP T wE (s4 + 1) vE ds2) (hf : ∀ g, vE.ownBlock = some g → u.ownBlock = some g ∨ wr.heap.size ≤ g) : TakR T w x V s4 vE wE q1 V1 ds2 := by
 have hlt : ∀ g, u.ownBlock = some g → s4 + 1 ≤ g := ownsP_new h.own
 exact ⟨h.is.only ho (fun k hk e => (h.ap k hk).2 e) (fun k hk e => by have := h.old k hk; have := hlt k e; omega), h.st.over ho (fun k e => by have := hlt k e; have := h.sw; omega), hE,
  fun k hk => ⟨(h.ap k hk).1, fun e => by
   rcases hf k e with e1 | e1
   ·exact (h.ap k hk).2 e1
   ·have := h.is.lts hk; omega⟩, ho.at_ h.res (fun e => by have := hlt s4 e; omega), h.sw, h.old⟩
end
theorem lists_of {bk : Int → Nat} {q : Qu} (h : InvQ bk q) : q.fresh.length ≤ 16 ∧ q.elder.length ≤ 16 ∧ (∀ b ∈ q.fresh, b < 16) ∧ ∀ b ∈ q.elder, b < 16 := by
 have h1 := lists_len h
 rw [List.length_append] at h1
 exact ⟨by omega, by omega, fun b hb => h.lt b (List.mem_append_left _ hb), fun b hb => h.lt b (List.mem_append_right _ hb)⟩
theorem e16 : ∀ b < 16, List.range 16 = List.range b ++ (b :: (List.range (15 - b)).map (fun j => b + 1 + j)) := by decide
theorem flat_congr' {α : Type} {F G : Nat → List α} : ∀ l : List Nat, (∀ k ∈ l, F k = G k) → l.flatMap F = l.flatMap G
 | [], _ => rfl
 | a :: r, h => by
  rw [List.flatMap_cons, List.flatMap_cons, h a List.mem_cons_self, flat_congr' r fun k hk => h k (List.mem_cons_of_mem _ hk)]
theorem setF_id (f : Nat → Fl) (b : Nat) : setF f b (f b) = f := by
 funext k
 by_cases e : k = b
 ·subst e; rw [setF_same]
 ·rw [setF_other _ _ e]
theorem rqC_split (x : Rq) (V : Nat → Value) (f : Nat → Fl) {b : Nat} (hb : b < 16) : ∃ pre post : List Value, pre.length = 3 + b * 7 ∧ ∀ (u : Value) (y : Fl), rqC x (updF V b u) (setF f b y) = pre ++ flC u y ++ post := by
 refine ⟨[.int .u32 x.seed, .int .i64 x.tg, .int .i64 x.iv] ++ (List.range b).flatMap (fun k => flC (V k) (f k)), ((List.range (15 - b)).map (fun j => b + 1 + j)).flatMap (fun k => flC (V k) (f k)) ++ [V 16, V 17], ?_, fun u y => ?_⟩
 ·rw [List.length_append, flat_range_len _ 7 (fun _ => rfl)]; rfl
 ·unfold rqC
  rw [e16 b hb, List.flatMap_append, List.flatMap_cons, updF_other V u (show 16 ≠ b by omega), updF_other V u (show 17 ≠ b by omega), updF_same, setF_same]
  rw [flat_congr (F := fun k => flC (updF V b u k) (setF f b y k)) (G := fun k => flC (V k) (f k)) b (fun k hk => by rw [updF_other _ _ (by omega), setF_other _ _ (by omega)])]
  rw [flat_congr' (F := fun k => flC (updF V b u k) (setF f b y k)) (G := fun k => flC (V k) (f k)) _ (fun k hk => by
   obtain ⟨j, -, rfl⟩ := List.mem_map.1 hk
   rw [updF_other _ _ (by omega), setF_other _ _ (by omega)])]
  simp only [List.append_assoc]
def cdL (c : Cd) : List Value := [.int .i64 c.first, .int .i64 c.drop, .int .u32 (c.count : Nat), .int .u32 (c.last : Nat), .bool c.on]
theorem rqC_cd (x : Rq) (V : Nat → Value) (f : Nat → Fl) {b : Nat} (hb : b < 16) (c : Cd) : ∃ pre post : List Value, pre.length = 3 + b * 7 + 2 ∧ rqC x V f = pre ++ cdL (f b).cd ++ post ∧ rqC x V (setF f b ⟨(f b).pk, (f b).df, c⟩) = pre ++ cdL c ++ post := by
 obtain ⟨pre, post, hl, h⟩ := rqC_split x V f hb
 have h1 := h (V b) (f b)
 have h2 := h (V b) ⟨(f b).pk, (f b).df, c⟩
 rw [updF_id] at h1 h2
 rw [setF_id] at h1
 refine ⟨pre ++ [V b, .int .i64 (f b).df], post, by rw [List.length_append, hl]; rfl, ?_, ?_⟩
 ·rw [h1]; simp [flC, cdL]
 ·rw [h2]; simp [flC, cdL]
theorem takes_fst {P : Pl} {q : Qu} {ds : List Pk} {r : Option Pk} {ds' : List Pk} {q' : Qu} (h : Takes P q ds r ds' q') : ds.length ≤ ds'.length := by
 induction h with
 | none _ => exact Nat.le_refl _
 | turn _ _ _ ih => exact ih
 | gone _ _ _ _ ih => rw [List.length_append] at ih; omega
 | took _ _ _ => rw [List.length_append]; omega
end Go.Proofs.YtndkmgcmegcieaaGreatDoor
