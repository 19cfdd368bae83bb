/-
  MATHS OF A SESSION: what is out, in its order, each due or flying; the window by its next number alone (its start is what is out first, or the next number). No program is named.
-/
import Derived.Test.YtlbfioknkagboaaDoorFqM
import Derived.Test.YtlbfioknkagboaaDoorWinM
namespace Go.Proofs.YtlbfioknkagboaaDoor
set_option linter.unusedVariables false
set_option linter.unusedSimpArgs false

structure Mp where
  pk : Pk
  seq : Nat
  sent : Nat
  til : Int
structure Se where
  size : Nat
  retry : Nat
  life : Int
  state : Nat
  token : Int
  wsz : Nat
  ah : Nat
  l : List (Mp × Bool)
  ask : Bool
  vain : Nat
def nums (l : List (Mp × Bool)) : List Nat := l.map fun f => f.1.seq
def frontN (xs : List Nat) (ah : Nat) : Nat := match xs with | [] => ah | x :: _ => x
def startS (s : Se) : Nat := frontN (nums s.l) s.ah
def gvS (s : Se) : Nat := distN (startS s) s.ah
def roomS (s : Se) : Nat := s.wsz - gvS s
def those (b : Bool) (l : List (Mp × Bool)) : List Mp := (l.filter fun f => f.2 == b).map fun f => f.1
def dueS (s : Se) : List Mp := those false s.l
def flyS (s : Se) : List Mp := those true s.l
def newS (size retry : Nat) (life : Int) : Se := ⟨size, retry, life, 1, 0, 1, 0, [], false, 0⟩
def askS (s : Se) (tok : Int) : Se × Nat × Nat :=
  if tok < 0 ∨ 255 < tok then (s, 0, 103) else if s.state ≠ 1 ∨ s.l ≠ [] then (s, 0, 110) else ({ s with state := 2, token := tok }, s.ah, 0)
def answerS (s : Se) (tok status size : Int) : Se × Nat :=
  if s.state ≠ 2 ∨ s.token ≠ tok then (s, 110) else if status ≠ 0 then ({ s with state := 1 }, 0) else if size < 0 ∨ 1023 < size then (s, 103)
  else ({ s with state := 3, wsz := if 0 < size then min s.size size.toNat else s.size }, 0)
def endS (s : Se) : Se × Nat := if s.state = 1 ∨ s.l ≠ [] then (s, 110) else ({ s with state := 1, wsz := 1, ask := false }, 0)
def freshS (s : Se) (p : Pk) (now : Int) : Se × Option Mp × Nat :=
  if s.state = 2 then (s, none, 110) else if roomS s = 0 ∨ s.ask = true then (s, none, 109)
  else ({ s with ah := (s.ah + 1) % 4096, l := s.l ++ [(⟨p, s.ah, 0, now + s.life⟩, false)] }, some ⟨p, s.ah, 0, now + s.life⟩, 0)
/-- each is due, none is named twice. -/
def mayGo (l : List (Mp × Bool)) (xs : List Nat) : Prop := xs.Nodup ∧ ∀ x ∈ xs, x ∈ (those false l).map fun m => m.seq
def goes (xs : List Nat) (f : Mp × Bool) : Mp × Bool := if f.1.seq ∈ xs then ({ f.1 with sent := f.1.sent + 1 }, true) else f
def wentL (l : List (Mp × Bool)) (xs : List Nat) : List (Mp × Bool) := l.map (goes xs)
/-- an answer's bit. -/
def ackB (a : Nat) (bit : Nat → Bool) (x : Nat) : Bool := decide (distN a x < 64) && bit (distN a x)
def heardL (a : Nat) (bit : Nat → Bool) (l : List (Mp × Bool)) : List (Mp × Bool) := (l.filter fun f => !(f.2 && ackB a bit f.1.seq)).map fun f => (f.1, false)
def ackedL (a : Nat) (bit : Nat → Bool) (l : List (Mp × Bool)) : List Mp := (those true l).filter fun m => ackB a bit m.seq
def lostL (l : List (Mp × Bool)) : List (Mp × Bool) := l.map fun f => (f.1, false)
def whyM (retry : Nat) (now : Int) (m : Mp) : Nat := if retry < m.sent then 3 else if m.til < now then 4 else 0
def sweptL (retry : Nat) (now : Int) (l : List (Mp × Bool)) : List (Mp × Bool) := l.filter fun f => f.2 || whyM retry now f.1 == 0
def outL (retry : Nat) (now : Int) (l : List (Mp × Bool)) : List Mp := (those false l).filter fun m => whyM retry now m != 0
def sweepS (s : Se) (now : Int) : Se := { s with l := sweptL s.retry now s.l, ask := s.ask || (!(outL s.retry now s.l).isEmpty && s.state == 3), vain := if !(outL s.retry now s.l).isEmpty && s.state == 3 && !s.ask then 0 else s.vain }
def barredS (s : Se) (done : Bool) : Se := if s.ask = true then { s with vain := s.vain + 1, ask := !(done || decide (s.retry < s.vain + 1)) } else s

/-! ### numbers that rise -/
structure Rise (st gv : Nat) (xs : List Nat) : Prop where
  hst : st < 4096
  hgv : gv ≤ 64
  lt : ∀ x ∈ xs, x < 4096 ∧ distN st x < gv
  up : xs.Pairwise fun a b => distN st a < distN st b
  front : frontN xs ((st + gv) % 4096) = st
theorem dist_lt (a b : Nat) : distN a b < 4096 := Nat.mod_lt _ (by decide)
theorem dist_self {a : Nat} : distN a a = 0 ∨ 4096 ≤ a := by unfold distN; omega
theorem dist_ah {st gv : Nat} (h : st < 4096) (hg : gv ≤ 64) : distN st ((st + gv) % 4096) = gv := by unfold distN; omega
theorem rise_nodup {st gv : Nat} {xs : List Nat} (h : Rise st gv xs) : xs.Nodup := h.up.imp fun hab e => by subst e; omega
/-- what is left of it, behind some went. -/
theorem rise_sub {st gv : Nat} {xs ys : List Nat} (h : Rise st gv xs) (hs : List.Sublist ys xs) :
    Rise (frontN ys ((st + gv) % 4096)) (distN (frontN ys ((st + gv) % 4096)) ((st + gv) % 4096)) ys ∧ distN (frontN ys ((st + gv) % 4096)) ((st + gv) % 4096) = gv - distN st (frontN ys ((st + gv) % 4096)) ∧ distN st (frontN ys ((st + gv) % 4096)) ≤ gv := by
  have h1 := h.hst
  have h2 := h.hgv
  cases ys with
  | nil =>
    show Rise ((st + gv) % 4096) (distN ((st + gv) % 4096) ((st + gv) % 4096)) [] ∧ distN ((st + gv) % 4096) ((st + gv) % 4096) = gv - distN st ((st + gv) % 4096) ∧ distN st ((st + gv) % 4096) ≤ gv
    have e : distN ((st + gv) % 4096) ((st + gv) % 4096) = 0 := by unfold distN; omega
    rw [e, dist_ah h1 h2]
    exact ⟨⟨Nat.mod_lt _ (by decide), by omega, fun x hx => (by cases hx), List.Pairwise.nil, by show ((st + gv) % 4096 + 0) % 4096 = _; omega⟩, by omega, Nat.le_refl _⟩
  | cons y r =>
    show Rise y (distN y ((st + gv) % 4096)) (y :: r) ∧ distN y ((st + gv) % 4096) = gv - distN st y ∧ distN st y ≤ gv
    have hy := h.lt y (hs.subset List.mem_cons_self)
    have hup := h.up.sublist hs
    rw [List.pairwise_cons] at hup
    have e : distN y ((st + gv) % 4096) = gv - distN st y := by unfold distN at *; omega
    have hd : ∀ x, x < 4096 → distN st y ≤ distN st x → distN y x = distN st x - distN st y := by intro x hx hle; unfold distN at *; omega
    rw [e]
    refine ⟨⟨hy.1, by omega, fun x hx => ?_, ?_, ?_⟩, rfl, by omega⟩
    · have hx1 := h.lt x (hs.subset hx)
      refine ⟨hx1.1, ?_⟩
      rcases List.mem_cons.1 hx with rfl | hx2
      · have : distN x x = 0 := by unfold distN; omega
        omega
      · have := hup.1 x hx2
        rw [hd x hx1.1 (by omega)]
        omega
    · refine (h.up.sublist hs).imp_of_mem fun {a b} ha hb hab => ?_
      have ha1 := h.lt a (hs.subset ha)
      have hb1 := h.lt b (hs.subset hb)
      have hya : distN st y ≤ distN st a := by
        rcases List.mem_cons.1 ha with rfl | ha2
        · exact Nat.le_refl _
        · exact Nat.le_of_lt (hup.1 a ha2)
      rw [hd a ha1.1 hya, hd b hb1.1 (by omega)]
      omega
    · rfl
theorem rise_snoc {st gv : Nat} {xs : List Nat} (h : Rise st gv xs) (hg : gv < 64) : Rise st (gv + 1) (xs ++ [(st + gv) % 4096]) := by
  have h1 := h.hst
  have e := dist_ah h1 h.hgv
  refine ⟨h1, hg, fun x hx => ?_, ?_, ?_⟩
  · rcases List.mem_append.1 hx with hx | hx
    · have := h.lt x hx; exact ⟨this.1, by omega⟩
    · rw [List.mem_singleton.1 hx]; exact ⟨Nat.mod_lt _ (by decide), by omega⟩
  · rw [List.pairwise_append]
    refine ⟨h.up, by simp, fun a ha b hb => ?_⟩
    rw [List.mem_singleton.1 hb, e]
    exact (h.lt a ha).2
  · cases xs with
    | nil =>
      have := h.front
      exact this
    | cons x r => exact h.front

/-! ### what a session keeps -/
structure InvS (s : Se) : Prop where
  rise : Rise (startS s) (gvS s) (nums s.l)
  ah : (startS s + gvS s) % 4096 = s.ah
  wsz : 1 ≤ s.wsz ∧ s.wsz ≤ 64
  room : gvS s ≤ s.wsz
  size : 1 ≤ s.size ∧ s.size ≤ 64
  asked : s.state = 2 → s.l = []
theorem invS_new {size retry : Nat} {life : Int} (h1 : 1 ≤ size) (h2 : size ≤ 64) : InvS (newS size retry life) :=
  ⟨⟨by show (0 : Nat) < 4096; decide, by show distN 0 0 ≤ 64; decide, fun x hx => (by cases hx), List.Pairwise.nil, by show (0 + distN 0 0) % 4096 = 0; decide⟩, by show (0 + distN 0 0) % 4096 = 0; decide, ⟨by show 1 ≤ 1; decide, by show 1 ≤ 64; decide⟩, by show distN 0 0 ≤ 1; decide, ⟨h1, h2⟩, fun h => by cases h⟩
/-- nothing out: the window stands at its next number. -/
theorem gv_none {s : Se} (h : InvS s) (hl : s.l = []) : gvS s = 0 ∧ startS s = s.ah := by
  have e : startS s = s.ah := by unfold startS; rw [hl]; rfl
  have h1 := h.rise.hst
  refine ⟨?_, e⟩
  unfold gvS
  rw [e] at *
  unfold distN; omega
/-- what is out has become less, in its order; the flags and what each bears may have turned. -/
theorem invS_sub {s t : Se} (h : InvS s) (hl : List.Sublist (nums t.l) (nums s.l)) (ha : t.ah = s.ah) (hw : t.wsz = s.wsz) (hz : t.size = s.size) (hst : t.state = 2 → s.state = 2) : InvS t := by
  obtain ⟨r1, r2, r3⟩ := rise_sub h.rise hl
  rw [h.ah] at r1 r2 r3
  have e1 : startS t = frontN (nums t.l) s.ah := by unfold startS; rw [ha]
  have e2 : gvS t = distN (frontN (nums t.l) s.ah) s.ah := by unfold gvS; rw [e1, ha]
  refine ⟨by rw [e1, e2]; exact r1, ?_, by rw [hw]; exact h.wsz, by have := h.room; rw [e2, hw]; omega, by rw [hz]; exact h.size, fun hs => ?_⟩
  · have h1 := r1.hst
    have h2 := h.rise.hst
    have h3 := h.rise.hgv
    have h4 := h.ah
    rw [e1, e2, ha]
    unfold distN; omega
  · have e := h.asked (hst hs)
    rw [e] at hl
    have h5 : nums t.l = [] := List.sublist_nil.1 hl
    exact List.map_eq_nil_iff.1 h5
theorem nums_map {l : List (Mp × Bool)} {f : Mp × Bool → Mp × Bool} (hf : ∀ x, (f x).1.seq = x.1.seq) : nums (l.map f) = nums l := by
  unfold nums
  rw [List.map_map]
  exact List.map_congr_left fun x _ => hf x
theorem nums_filter {l : List (Mp × Bool)} (p : Mp × Bool → Bool) : List.Sublist (nums (l.filter p)) (nums l) := List.Sublist.map _ List.filter_sublist
theorem nums_heard {a : Nat} {bit : Nat → Bool} {l : List (Mp × Bool)} : List.Sublist (nums (heardL a bit l)) (nums l) := by
  unfold heardL
  rw [nums_map (f := fun f => (f.1, false)) fun x => rfl]
  exact nums_filter _
theorem nums_swept {retry : Nat} {now : Int} {l : List (Mp × Bool)} : List.Sublist (nums (sweptL retry now l)) (nums l) := nums_filter _
theorem nums_went {l : List (Mp × Bool)} {xs : List Nat} : nums (wentL l xs) = nums l := nums_map fun x => by unfold goes; split <;> rfl
theorem nums_lost {l : List (Mp × Bool)} : nums (lostL l) = nums l := nums_map fun x => rfl
theorem invS_fresh {s : Se} {p : Pk} {now : Int} (h : InvS s) (h2 : s.state ≠ 2) (hr : roomS s ≠ 0) :
    InvS { s with ah := (s.ah + 1) % 4096, l := s.l ++ [(⟨p, s.ah, 0, now + s.life⟩, false)] } := by
  have hg : gvS s < s.wsz := by unfold roomS at hr; omega
  have hw := h.wsz.2
  have hs1 := h.rise.hst
  have hah := h.ah
  have hlt : s.ah < 4096 := by omega
  have e1 : startS { s with ah := (s.ah + 1) % 4096, l := s.l ++ [(⟨p, s.ah, 0, now + s.life⟩, false)] } = startS s := by
    unfold startS nums
    dsimp only
    cases e : s.l with
    | nil => rfl
    | cons f r => rfl
  have e2 : gvS { s with ah := (s.ah + 1) % 4096, l := s.l ++ [(⟨p, s.ah, 0, now + s.life⟩, false)] } = gvS s + 1 := by
    show distN (startS { s with ah := (s.ah + 1) % 4096, l := s.l ++ [(⟨p, s.ah, 0, now + s.life⟩, false)] }) ((s.ah + 1) % 4096) = _
    rw [e1]
    unfold gvS at *
    unfold distN at *
    omega
  have hsn := rise_snoc h.rise (by omega)
  rw [h.ah] at hsn
  have e3 : nums (s.l ++ [((⟨p, s.ah, 0, now + s.life⟩ : Mp), false)]) = nums s.l ++ [s.ah] := by unfold nums; simp
  refine ⟨?_, ?_, h.wsz, by rw [e2]; exact hg, h.size, fun hs => absurd hs h2⟩
  · rw [e1, e2]
    show Rise (startS s) (gvS s + 1) (nums (s.l ++ [((⟨p, s.ah, 0, now + s.life⟩ : Mp), false)]))
    rw [e3]
    exact hsn
  · rw [e1, e2]
    show (startS s + (gvS s + 1)) % 4096 = (s.ah + 1) % 4096
    omega
end Go.Proofs.YtlbfioknkagboaaDoor
