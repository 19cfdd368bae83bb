/-
  MATHS OF A SESSION: frames in a line, from number 0 on: given out, sent, lost, heard, swept. No program is named.
-/
import Derived.Test.YtlbfioknkagboaaDoorSessN
namespace Go.Proofs.YtlbfioknkagboaaDoor
set_option linter.unusedVariables false
set_option linter.unusedSimpArgs false

def lineF (pk : Nat → Pk) (til : Int) (sent : Nat) (b : Bool) (i : Nat) : Fm := (⟨pk i, i, sent, til⟩, b)
def lineL (pk : Nat → Pk) (til : Int) (sent : Nat) (b : Bool) (n : Nat) : List Fm := (List.range n).map (lineF pk til sent b)
theorem nums_line (pk : Nat → Pk) (til : Int) (sent : Nat) (b : Bool) (n : Nat) : nums (lineL pk til sent b n) = List.range n := by
  unfold nums lineL
  rw [List.map_map]
  conv => rhs; rw [← List.map_id (List.range n)]
  exact List.map_congr_left fun i _ => rfl
theorem line_succ (pk : Nat → Pk) (til : Int) (sent : Nat) (b : Bool) (n : Nat) : lineL pk til sent b (n + 1) = lineL pk til sent b n ++ [lineF pk til sent b n] := by
  unfold lineL
  rw [List.range_succ, List.map_append]
  rfl
theorem front_range {n : Nat} (h : n < 4096) : frontN (List.range n) n = 0 := by
  cases n with
  | zero => rfl
  | succ n => rw [List.range_succ_eq_map]; rfl
/-- a session that is On, with n frames out. -/
def lineS (size retry : Nat) (life tok : Int) (wsz : Nat) (l : List Fm) (n : Nat) : Se := ⟨size, retry, life, 3, tok, wsz, n, l, false, 0⟩
section
variable {size retry wsz sent n : Nat} {life tok til now : Int} {pk : Nat → Pk} {b : Bool}
theorem line_start (hn : n < 4096) : startS (lineS size retry life tok wsz (lineL pk til sent b n) n) = 0 := by
  show frontN (nums (lineL pk til sent b n)) n = 0
  rw [nums_line, front_range hn]
theorem line_gv (hn : n < 4096) : gvS (lineS size retry life tok wsz (lineL pk til sent b n) n) = n := by
  show distN (startS (lineS size retry life tok wsz (lineL pk til sent b n) n)) n = n
  rw [line_start hn]
  unfold distN; omega
theorem line_room (hn : n < 4096) : roomS (lineS size retry life tok wsz (lineL pk til sent b n) n) = wsz - n := by
  show wsz - gvS _ = _
  rw [line_gv hn]
/-- one more. -/
theorem line_fresh (hn : n < wsz) (hw : wsz ≤ 64) (ht : til = now + life) : freshS (lineS size retry life tok wsz (lineL pk til 0 false n) n) (pk n) now = (lineS size retry life tok wsz (lineL pk til 0 false (n + 1)) (n + 1), some ⟨pk n, n, 0, til⟩, 0) := by
  subst ht
  have h3 : ¬ (lineS size retry life tok wsz (lineL pk (now + life) 0 false n) n).state = 2 := by show ¬ (3 : Nat) = 2; decide
  have h4 : ¬ (roomS (lineS size retry life tok wsz (lineL pk (now + life) 0 false n) n) = 0 ∨ (lineS size retry life tok wsz (lineL pk (now + life) 0 false n) n).ask = true) := by
    rintro (h | h)
    · rw [line_room (by omega)] at h; omega
    · cases h
  unfold freshS
  rw [if_neg h3, if_neg h4, line_succ]
  show (Se.mk size retry life 3 tok wsz ((n + 1) % 4096) (lineL pk (now + life) 0 false n ++ [(⟨pk n, n, 0, now + life⟩, false)]) false 0, some (Mp.mk (pk n) n 0 (now + life)), 0) = _
  rw [Nat.mod_eq_of_lt (by omega)]
  rfl
theorem line_due : those false (lineL pk til sent false n) = (List.range n).map fun i => ⟨pk i, i, sent, til⟩ := by
  unfold those
  rw [List.filter_eq_self.2]
  · unfold lineL; rw [List.map_map]; rfl
  · intro f hf
    obtain ⟨i, -, rfl⟩ := List.mem_map.1 hf
    rfl
theorem line_fly : those true (lineL pk til sent true n) = (List.range n).map fun i => ⟨pk i, i, sent, til⟩ := by
  unfold those
  rw [List.filter_eq_self.2]
  · unfold lineL; rw [List.map_map]; rfl
  · intro f hf
    obtain ⟨i, -, rfl⟩ := List.mem_map.1 hf
    rfl
theorem line_nofly : those true (lineL pk til sent false n) = [] := by
  unfold those
  rw [List.filter_eq_nil_iff.2]
  · rfl
  · intro f hf
    obtain ⟨i, -, rfl⟩ := List.mem_map.1 hf
    simp [lineF]
theorem line_nodue : those false (lineL pk til sent true n) = [] := by
  unfold those
  rw [List.filter_eq_nil_iff.2]
  · rfl
  · intro f hf
    obtain ⟨i, -, rfl⟩ := List.mem_map.1 hf
    simp [lineF]
theorem line_may : mayGo (lineL pk til sent false n) (List.range n) := by
  refine ⟨List.nodup_range, fun x hx => ?_⟩
  rw [line_due, List.map_map]
  exact List.mem_map.2 ⟨x, hx, rfl⟩
theorem line_went : wentL (lineL pk til sent false n) (List.range n) = lineL pk til (sent + 1) true n := by
  unfold wentL lineL
  rw [List.map_map]
  refine List.map_congr_left fun i hi => ?_
  show goes (List.range n) (lineF pk til sent false i) = _
  unfold goes lineF
  rw [if_pos hi]
theorem line_lost : lostL (lineL pk til sent true n) = lineL pk til sent false n := by
  unfold lostL lineL
  rw [List.map_map]
  rfl
/-- nothing is over. -/
theorem line_calm (hs : sent ≤ retry) (ht : now ≤ til) : outL retry now (lineL pk til sent false n) = [] ∧ sweptL retry now (lineL pk til sent false n) = lineL pk til sent false n := by
  have hw : ∀ i, whyM retry now ⟨pk i, i, sent, til⟩ = 0 := fun i => by unfold whyM; rw [if_neg (by show ¬ retry < sent; omega), if_neg (by show ¬ til < now; omega)]
  constructor
  · unfold outL
    rw [line_due, List.filter_eq_nil_iff]
    intro m hm
    obtain ⟨i, -, rfl⟩ := List.mem_map.1 hm
    rw [hw]; simp
  · unfold sweptL
    rw [List.filter_eq_self]
    intro f hf
    obtain ⟨i, -, rfl⟩ := List.mem_map.1 hf
    show (false || whyM retry now ⟨pk i, i, sent, til⟩ == 0) = true
    rw [hw]; rfl
/-- all were sent too often. -/
theorem line_over (hs : retry < sent) : outL retry now (lineL pk til sent false n) = ((List.range n).map fun i => ⟨pk i, i, sent, til⟩) ∧ sweptL retry now (lineL pk til sent false n) = [] := by
  have hw : ∀ i, whyM retry now ⟨pk i, i, sent, til⟩ = 3 := fun i => by unfold whyM; rw [if_pos (by show retry < sent; omega)]
  constructor
  · unfold outL
    rw [line_due, List.filter_eq_self]
    intro m hm
    obtain ⟨i, -, rfl⟩ := List.mem_map.1 hm
    rw [hw]; rfl
  · unfold sweptL
    rw [List.filter_eq_nil_iff]
    intro f hf
    obtain ⟨i, -, rfl⟩ := List.mem_map.1 hf
    show ¬ (false || whyM retry now ⟨pk i, i, sent, til⟩ == 0) = true
    rw [hw]; decide
/-- an answer from 'back' ahead of the first on. -/
theorem back_dist {back i : Nat} (hb : back < 64) (hi : i < 64) : distN ((4096 - back) % 4096) i = back + i := by unfold distN; omega
def hitB (bits : Nat → Bool) (back i : Nat) : Bool := decide (i + back < 64) && bits (i + back)
theorem line_heard {bits : Nat → Bool} {back : Nat} (hb : back < 64) (hn : n ≤ 64) :
    ackedL ((4096 - back) % 4096) bits (lineL pk til sent true n) = (((List.range n).filter fun i => hitB bits back i).map fun i => ⟨pk i, i, sent, til⟩) ∧
    heardL ((4096 - back) % 4096) bits (lineL pk til sent true n) = (((List.range n).filter fun i => !hitB bits back i).map fun i => lineF pk til sent false i) := by
  have ha : ∀ i ∈ List.range n, ackB ((4096 - back) % 4096) bits i = hitB bits back i := fun i hi => by
    unfold ackB hitB
    rw [back_dist hb (by have := List.mem_range.1 hi; omega), Nat.add_comm back i]
  constructor
  · unfold ackedL
    rw [line_fly, List.filter_map]
    congr 1
    exact List.filter_congr fun i hi => ha i hi
  · unfold heardL lineL
    rw [List.filter_map, List.map_map]
    have e : (List.range n).filter ((fun f : Fm => !(f.2 && ackB ((4096 - back) % 4096) bits f.1.seq)) ∘ lineF pk til sent true) = (List.range n).filter fun i => !hitB bits back i :=
      List.filter_congr fun i hi => by show (!(true && ackB ((4096 - back) % 4096) bits i)) = _; rw [ha i hi, Bool.true_and]
    rw [e]
    rfl
end

/-! ### each comes out once -/
/-- n came; those of 'gone' came out, 'over' of them; the others are in. -/
structure OnceI (l : List Fm) (n : Nat) (gone : Nat → Bool) (over : Nat) (most : Nat) : Prop where
  ids : (l.map fun f => f.1.pk.id).Nodup
  inn : ∀ f ∈ l, ∃ k : Nat, f.1.pk.id = (k : Int) ∧ 1 ≤ k ∧ k ≤ n ∧ gone k = false
  sent : ∀ f ∈ l, f.1.sent ≤ most
  out : ∀ k, gone k = true → k ≤ n
  cnt : l.length + over = n
theorem once_zero (most : Nat) : OnceI [] 0 (fun _ => false) 0 most := ⟨List.nodup_nil, fun f hf => (by cases hf), fun f hf => (by cases hf), fun k hk => (by cases hk), rfl⟩
theorem once_fresh {l : List Fm} {n over most : Nat} {gone : Nat → Bool} {m : Mp} (h : OnceI l n gone over most) (hid : m.pk.id = ((n + 1 : Nat) : Int)) (hs : m.sent ≤ most) : OnceI (l ++ [(m, false)]) (n + 1) gone over most := by
  refine ⟨?_, fun f hf => ?_, fun f hf => ?_, fun k hk => Nat.le_succ_of_le (h.out k hk), by rw [List.length_append]; have := h.cnt; show l.length + 1 + over = n + 1; omega⟩
  · rw [List.map_append, List.nodup_append]
    refine ⟨h.ids, by simp, fun a ha b hb => ?_⟩
    obtain ⟨f, hf, rfl⟩ := List.mem_map.1 ha
    simp only [List.map_cons, List.map_nil, List.mem_singleton] at hb
    obtain ⟨k, e, -, hk, -⟩ := h.inn f hf
    rw [hb, hid, e]
    omega
  · rcases List.mem_append.1 hf with hf | hf
    · obtain ⟨k, e, h1, h2, h3⟩ := h.inn f hf
      exact ⟨k, e, h1, by omega, h3⟩
    · rw [List.mem_singleton.1 hf]
      refine ⟨n + 1, hid, by omega, Nat.le_refl _, ?_⟩
      cases hg : gone (n + 1)
      · rfl
      · have := h.out _ hg; omega
  · rcases List.mem_append.1 hf with hf | hf
    · exact h.sent f hf
    · rw [List.mem_singleton.1 hf]; exact hs
/-- what each bears has turned, no more is sent than may be. -/
theorem once_map {l : List Fm} {n over most : Nat} {gone : Nat → Bool} {g : Fm → Fm} (h : OnceI l n gone over most) (hid : ∀ f ∈ l, (g f).1.pk.id = f.1.pk.id) (hs : ∀ f ∈ l, (g f).1.sent ≤ most) : OnceI (l.map g) n gone over most := by
  have e : (l.map g).map (fun f => f.1.pk.id) = l.map fun f => f.1.pk.id := by rw [List.map_map]; exact List.map_congr_left hid
  refine ⟨by rw [e]; exact h.ids, fun f hf => ?_, fun f hf => ?_, h.out, by rw [List.length_map]; exact h.cnt⟩
  · obtain ⟨x, hx, rfl⟩ := List.mem_map.1 hf
    obtain ⟨k, e1, h1⟩ := h.inn x hx
    exact ⟨k, (hid x hx).trans e1, h1⟩
  · obtain ⟨x, hx, rfl⟩ := List.mem_map.1 hf
    exact hs x hx
/-- one comes out: it was in, and not out. -/
theorem once_out {l : List Fm} {n over most : Nat} {gone : Nat → Bool} {f : Fm} (h : OnceI l n gone over most) (hn : (nums l).Nodup) (hf : f ∈ l) :
    ∃ k : Nat, f.1.pk.id = (k : Int) ∧ 1 ≤ k ∧ k ≤ n ∧ gone k = false ∧ f.1.sent ≤ most ∧ OnceI (l.filter fun g => g.1.seq != f.1.seq) n (fun j => gone j || j == k) (over + 1) most := by
  obtain ⟨k, e, h1, h2, h3⟩ := h.inn f hf
  refine ⟨k, e, h1, h2, h3, h.sent f hf, ?_⟩
  have hsub : List.Sublist (l.filter fun g => g.1.seq != f.1.seq) l := List.filter_sublist
  refine ⟨h.ids.sublist (hsub.map _), fun g hg => ?_, fun g hg => h.sent g (hsub.subset hg), fun j hj => ?_, ?_⟩
  · obtain ⟨hg1, hg2⟩ := List.mem_filter.1 hg
    obtain ⟨j, ej, j1, j2, j3⟩ := h.inn g hg1
    refine ⟨j, ej, j1, j2, ?_⟩
    have hjk : j ≠ k := by
      intro ee
      subst ee
      have : g = f := by
        have hn1 := h.ids
        clear hsub hg hg2 h hn
        induction l with
        | nil => cases hf
        | cons x r ih =>
          rw [List.map_cons, List.nodup_cons] at hn1
          have hin : ∀ y ∈ r, y.1.pk.id ∈ r.map fun f => f.1.pk.id := fun y hy => List.mem_map.2 ⟨y, hy, rfl⟩
          rcases List.mem_cons.1 hf with rfl | hf1
          · rcases List.mem_cons.1 hg1 with rfl | hg2
            · rfl
            · exact absurd (show f.1.pk.id ∈ _ by rw [e, ← ej]; exact hin g hg2) hn1.1
          · rcases List.mem_cons.1 hg1 with rfl | hg2
            · exact absurd (show g.1.pk.id ∈ _ by rw [ej, ← e]; exact hin f hf1) hn1.1
            · exact ih hf1 hg2 hn1.2
      subst this
      simp at hg2
    simp [j3, hjk]
  · simp only [Bool.or_eq_true, beq_iff_eq] at hj
    rcases hj with hj | rfl
    · exact h.out j hj
    · exact h2
  · have hc := h.cnt
    have hlen : ∀ l : List Fm, (nums l).Nodup → f ∈ l → (l.filter fun g => g.1.seq != f.1.seq).length + 1 = l.length := by
      intro l hn hf
      obtain ⟨i, hi⟩ := List.getElem?_of_mem hf
      rw [← erase_is hn hi]
      have := (List.getElem?_eq_some_iff.1 hi).1
      simp; omega
    have := hlen l hn hf
    omega
end Go.Proofs.YtlbfioknkagboaaDoor
