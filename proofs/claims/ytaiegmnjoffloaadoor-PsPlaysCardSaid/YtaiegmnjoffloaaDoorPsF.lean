/-
  The code's Power in the words of the model of PsN: each call of whatever arguments.
-/
import Derived.Test.YtaiegmnjoffloaaDoorPsE
namespace Go.Proofs.YtaiegmnjoffloaaDoor
open Go.ChangeShapes Go.WideShapes Go.ChangeAt Go.RowKit Go.Deep
set_option linter.unusedVariables false
set_option linter.unusedSimpArgs false

def stP (p : Nap) : Nat := if p.there = true then (if p.asleep = true then (if p.asked = true then 3 else if p.opn = true then 4 else 2) else 1) else 0
structure RelC (c : Cst) (p : Nap) : Prop where
  st : c.st = stP p
  u : c.u = p.u
  most : c.most = p.most
  left : p.there = true → p.asleep = true → p.asked = false → p.opn = true → c.left = if 0 < p.most then p.left else 0
  few : c.left ≤ 8
theorem stP_le (p : Nap) : stP p ≤ 4 := by unfold stP; split <;> (try split) <;> (try split) <;> (try split) <;> omega
theorem stP_0 {p : Nap} : (stP p ≠ 0) = (p.there = true) := by unfold stP; cases p.there <;> cases p.asleep <;> cases p.asked <;> cases p.opn <;> simp
structure RelY (y : Nat → Cst) (X : Nat → Nap) : Prop where
  inv : InvP X
  rel : ∀ k, RelC (y k) (X k)
theorem RelY.invC {y : Nat → Cst} {X : Nat → Nap} (h : RelY y X) : InvC y :=
  ⟨fun k => by rw [(h.rel k).st]; exact stP_le _, fun k => by rw [(h.rel k).most]; exact (h.inv.most k).1, fun k => (h.rel k).few⟩
theorem RelY.th {y : Nat → Cst} {X : Nat → Nap} (h : RelY y X) (a : Int) : thC y a = thP X a := by
  unfold thC thP
  rw [(h.rel a.toNat).st, Bool.eq_iff_iff, Bool.and_eq_true, Bool.and_eq_true, decide_eq_true_eq, stP_0]
theorem rel_upd {y : Nat → Cst} {X : Nat → Nap} (h : ∀ k, RelC (y k) (X k)) (a : Nat) {c : Cst} {p : Nap} (hc : RelC c p) (k : Nat) : RelC (updF y a c k) (updF X a p k) := by
  unfold updF
  split
  · exact hc
  · exact h k
theorem rel_0 : RelC cst0 nap0 := ⟨rfl, rfl, rfl, (fun h => by cases h), Nat.zero_le _⟩
theorem rel_add (u : Nat → Bool) (m : Nat) : RelC ⟨1, m, 0, u⟩ (addN u m) := ⟨rfl, rfl, rfl, (fun _ h => by cases h), Nat.zero_le _⟩
theorem RelC.poll {c : Cst} {p : Nap} (h : RelC c p) (hi : InvN p) (ht : p.there = true) : RelC (pollS c).1 (pollN p).1 ∧ (pollS c).2 = (pollN p).2 := by
  have h1 := h.st
  have h2 := hi.awake
  have h3 := hi.one
  have h4 := h.left
  unfold stP at h1
  unfold pollS pollN
  cases ha : p.asleep <;> cases hk : p.asked <;> cases ho : p.opn <;> simp [ht, ha, hk, ho] at h1 h2 h3 h4 <;> simp [h1] <;> (first | exact h | exact ⟨by unfold stP; simp [ht, ha, hk, ho], h.u, h.most, (fun _ _ h5 => by simp at h5), h.few⟩)
theorem RelC.close {c : Cst} {p : Nap} (h : RelC c p) (hi : InvN p) (ht : p.there = true) : RelC (closeS c).1 (closeN p).1 ∧ (closeS c).2 = (closeN p).2 := by
  have h1 := h.st
  have h2 := hi.awake
  have h3 := hi.one
  have h4 := h.left
  unfold stP at h1
  unfold closeS closeN
  cases ha : p.asleep <;> cases hk : p.asked <;> cases ho : p.opn <;> simp [ht, ha, hk, ho] at h1 h2 h3 h4 <;> simp [h1] <;> (first | exact h | exact ⟨by unfold stP; simp [ht, ha, hk, ho], h.u, h.most, (fun _ _ _ h5 => by simp at h5), h.few⟩)
theorem RelC.doze {c : Cst} {p : Nap} (h : RelC c p) (hi : InvN p) (ht : p.there = true) (on : Bool) : RelC (dozeS c on) (dozeN p on) := by
  have h1 := h.st
  have h2 := hi.awake
  have h3 := hi.one
  have h4 := h.left
  unfold stP at h1
  unfold dozeS dozeN
  cases ha : p.asleep <;> cases hk : p.asked <;> cases ho : p.opn <;> cases on <;> simp [ht, ha, hk, ho] at h1 h2 h3 h4 <;> simp [h1] <;> (first | exact h | exact ⟨by unfold stP; simp [ht, ha, hk, ho, h1], h.u, h.most, (fun _ h6 h7 h5 => by simp_all), h.few⟩)
theorem RelC.trig {c : Cst} {p : Nap} (h : RelC c p) (hi : InvN p) (hm : p.most ≤ 8) (ht : p.there = true) (n : Nat) : RelC (trigS c n).1 (trigN p n).1 ∧ (trigS c n).2 = (trigN p n).2 := by
  have h1 := h.st
  have h2 := hi.awake
  have h3 := hi.one
  have h4 := h.left
  have h5 := h.u
  unfold stP at h1
  unfold trigS trigN
  rw [h5]
  cases ha : p.asleep <;> cases hk : p.asked <;> cases ho : p.opn <;> cases hu : p.u n <;> simp [ht, ha, hk, ho] at h1 h2 h3 h4 <;> simp [h1] <;> (first | exact h | exact ⟨by unfold stP; simp [ht, ha, hk, ho], (by first | exact h.u | rfl), h.most, (fun _ _ _ _ => by show c.most = if 0 < p.most then p.most else 0; rw [h.most]; split <;> omega), (by show c.most ≤ 8; rw [h.most]; exact hm)⟩)
theorem RelC.may {c : Cst} {p : Nap} (h : RelC c p) (hi : InvN p) (ht : p.there = true) (n : Nat) : mayS c n = mayN p n := by
  have h1 := h.st
  have h2 := hi.awake
  have h3 := hi.one
  have h5 := h.u
  unfold stP at h1
  unfold mayS mayN
  rw [h5]
  cases ha : p.asleep <;> cases hk : p.asked <;> cases ho : p.opn <;> simp [ht, ha, hk, ho] at h1 h2 h3 <;> simp [h1, ht]
theorem RelC.sent {c : Cst} {p : Nap} (h : RelC c p) (hi : InvN p) (ht : p.there = true) (n : Nat) (hm : mayN p n = true) (more : Bool) : RelC (sentS c more).1 (sentN p more).1 ∧ (sentS c more).2 = (sentN p more).2 := by
  have h1 := h.st
  have h2 := hi.awake
  have h3 := hi.one
  have h4 := h.left
  have h6 := hi.left
  have h7 := h.few
  unfold mayN at hm
  unfold stP at h1
  unfold sentS sentN
  cases ha : p.asleep
  · have h2 := h2 ha
    simp [ht, ha] at h1
    simp [h1]
    exact h
  · cases hk : p.asked
    · cases ho : p.opn
      · simp [ht, ha, hk, ho] at hm
      · simp [ht, ha, hk, ho] at h1 h4
        have h6 := h6 ho
        have e : (c.left = 1 ∨ more = false) ↔ lastN p more = true := by
          unfold lastN
          rw [h4]
          by_cases h0 : 0 < p.most
          · have h6 := h6 h0
            rw [if_pos h0]
            cases more <;> simp [h0]
            omega
          · rw [if_neg h0]
            cases more <;> simp [h0]
        simp only [h1]
        rw [if_pos trivial]
        by_cases hl : lastN p more = true
        · rw [if_pos (e.2 hl), if_neg (by simp), if_neg (by simp), if_pos hl]
          exact ⟨⟨(by unfold stP; simp [ht, ha, hk]), h.u, h.most, (fun _ _ _ h5 => by simp at h5), h.few⟩, hl.symm⟩
        · rw [if_neg (fun h8 => hl (e.1 h8)), if_neg (by simp), if_neg (by simp), if_neg hl]
          have hl' : lastN p more = false := by simpa using hl
          refine ⟨⟨(by unfold stP; simp [ht, ha, hk, ho, h1]), h.u, h.most, (fun _ _ _ _ => ?_), (by show c.left - 1 ≤ 8; omega)⟩, hl'.symm⟩
          show c.left - 1 = if 0 < p.most then (if 0 < p.most then p.left - 1 else p.left) else 0
          rw [h4]
          split <;> simp_all
    · simp [ht, ha, hk] at h1
      simp [h1]
      refine ⟨by unfold stP; simp [ht, ha, hk]; cases ho : p.opn <;> simp_all, h.u, h.most, (fun _ _ _ h5 => ?_), h.few⟩
      exact absurd ⟨hk, h5⟩ h3
/-! ### all stations -/
section
variable {y : Nat → Cst} {X : Nat → Nap}
theorem RelY.poll (h : RelY y X) (a : Int) : RelY (pollQ y a).1 (pollP X a).1 ∧ (pollQ y a).2 = (pollP X a).2 := by
  have hi := h.inv.poll a
  unfold pollQ pollP at *
  rw [h.th a]
  split
  · rename_i ht
    rw [if_pos ht] at hi
    have e := (h.rel a.toNat).poll (h.inv.one _) (th_there ht)
    exact ⟨⟨hi, rel_upd h.rel _ e.1⟩, e.2⟩
  · exact ⟨h, rfl⟩
theorem RelY.close (h : RelY y X) (a : Int) : RelY (closeQ y a).1 (closeP X a).1 ∧ (closeQ y a).2 = (closeP X a).2 := by
  have hi := h.inv.close a
  unfold closeQ closeP at *
  rw [h.th a]
  split
  · rename_i ht
    rw [if_pos ht] at hi
    have e := (h.rel a.toNat).close (h.inv.one _) (th_there ht)
    exact ⟨⟨hi, rel_upd h.rel _ e.1⟩, e.2⟩
  · exact ⟨h, rfl⟩
theorem RelY.doze (h : RelY y X) (a : Int) (on : Bool) : RelY (dozeQ y a on).1 (dozeP X a on).1 ∧ (dozeQ y a on).2 = (dozeP X a on).2 := by
  have hi := h.inv.doze a on
  unfold dozeQ dozeP at *
  rw [h.th a]
  split
  · rename_i ht
    rw [if_pos ht] at hi
    exact ⟨⟨hi, rel_upd h.rel _ ((h.rel a.toNat).doze (h.inv.one _) (th_there ht) on)⟩, rfl⟩
  · exact ⟨h, rfl⟩
theorem RelY.trig (h : RelY y X) (a c : Int) : RelY (trigQ y a c).1 (trigP X a c).1 ∧ (trigQ y a c).2 = (trigP X a c).2 := by
  have hi := h.inv.trig a c
  unfold trigQ trigP at *
  rw [h.th a]
  split
  · rename_i ht
    rw [if_pos ht] at hi
    split
    · rename_i hc
      rw [if_pos hc] at hi
      have e := (h.rel a.toNat).trig (h.inv.one _) (h.inv.most _).1 (th_there ht) c.toNat
      exact ⟨⟨hi, rel_upd h.rel _ e.1⟩, e.2⟩
    · exact ⟨h, rfl⟩
  · exact ⟨h, rfl⟩
theorem RelY.add (h : RelY y X) (a : Int) (u : Nat → Bool) (m : Int) : RelY (addQ y a u m).1 (addP X a u m).1 ∧ (addQ y a u m).2 = (addP X a u m).2 := by
  have hi := h.inv.add a u m
  unfold addQ addP at *
  split
  · rename_i hc
    rw [if_pos hc] at hi
    have e : thC y a = (X a.toNat).there := by rw [h.th a]; unfold thP; rw [hc.1, Bool.true_and]
    rw [e]
    split
    · exact ⟨h, rfl⟩
    · rename_i ht
      rw [if_neg ht] at hi
      exact ⟨⟨hi, rel_upd h.rel _ (rel_add _ _)⟩, rfl⟩
  · exact ⟨h, rfl⟩
theorem RelY.del (h : RelY y X) (a : Int) : RelY (delQ y a) (delP X a) := by
  have hi := h.inv.del a
  unfold delQ delP at *
  rw [h.th a]
  split
  · rename_i ht
    rw [if_pos ht] at hi
    exact ⟨hi, rel_upd h.rel _ rel_0⟩
  · exact h
theorem RelY.may (h : RelY y X) (a c : Int) : mayQ y a c = mayP X a c := by
  unfold mayQ mayP
  rw [h.th a]
  cases ht : thP X a
  · rfl
  · rw [Bool.true_and, Bool.true_and, (h.rel a.toNat).may (h.inv.one _) (th_there ht)]
theorem RelY.sent (h : RelY y X) (a c : Int) (more : Bool) : RelY (sentQ y a c more).1 (sentP X a c more).1 ∧ (sentQ y a c more).2 = (sentP X a c more).2 := by
  have hi := h.inv.sent a c more
  unfold sentQ sentP at *
  rw [h.th a]
  split
  · rename_i ht
    rw [if_pos ht] at hi
    split
    · rename_i hc
      rw [if_pos hc] at hi
      rw [(h.rel a.toNat).may (h.inv.one _) (th_there ht)]
      split
      · rename_i hm
        rw [if_pos hm] at hi
        have e := (h.rel a.toNat).sent (h.inv.one _) (th_there ht) c.toNat hm more
        exact ⟨⟨hi, rel_upd h.rel _ e.1⟩, by rw [e.2]⟩
      · exact ⟨h, rfl⟩
    · exact ⟨h, rfl⟩
  · exact ⟨h, rfl⟩
theorem RelY.asl (h : RelY y X) (a : Int) : aslQ y a = aslP X a := by
  unfold aslQ aslP
  rw [h.th a]
  cases ht : thP X a
  · rfl
  · rw [Bool.true_and, Bool.true_and, (h.rel a.toNat).st]
    have h1 := th_there ht
    unfold stP
    rw [h1]
    cases (X a.toNat).asleep <;> cases (X a.toNat).asked <;> cases (X a.toNat).opn <;> rfl
theorem RelY.ask (h : RelY y X) (a : Int) : askQ y a = askP X a := by
  unfold askQ askP
  rw [h.th a]
  cases ht : thP X a
  · rfl
  · rw [Bool.true_and, Bool.true_and, (h.rel a.toNat).st]
    have h1 := th_there ht
    have h2 := (h.inv.one a.toNat).awake
    unfold stP
    rw [h1]
    cases h3 : (X a.toNat).asleep <;> cases h4 : (X a.toNat).asked <;> cases h5 : (X a.toNat).opn <;> simp_all
end
/-! ### the code's Power, each call -/
def IsPs (w : World) (g : Nat) (X : Nat → Nap) : Prop := ∃ y, IsCs w g y ∧ RelY y X
section
variable {w w' : World} {g : Nat} {X : Nat → Nap}
theorem IsPs.below (h : IsPs w g X) (hb : Below w.heap.size w w') : IsPs w' g X := by obtain ⟨y, h1, h2⟩ := h; exact ⟨y, h1.below hb, h2⟩
theorem IsPs.only {S : Nat → Prop} (h : IsPs w g X) (ho : Only S w w') (hn : ¬ S g) : IsPs w' g X := by obtain ⟨y, h1, h2⟩ := h; exact ⟨y, h1.only ho hn, h2⟩
theorem IsPs.inv (h : IsPs w g X) : InvP X := by obtain ⟨y, -, h2⟩ := h; exact h2.inv
theorem IsPs.lt (h : IsPs w g X) : g < w.heap.size := by obtain ⟨y, h1, -⟩ := h; exact lt_blk h1
end
theorem poll_t {S : List Nat} (g : Nat) (X : Nat → Nap) (a : Int) (w : World) (E : Nat → Addr) (hS : Sent w E S) (h107 : 107 ∈ S) (h110 : 110 ∈ S) (h : IsPs w g X) :
    Calls Tryd.prog 17 #[.pointer (some ⟨g, 0, none⟩), .int .i64 a] w fun e w' => e = .returned (errV E (pollP X a).2) ∧ IsPs w' g (pollP X a).1 ∧ Only (· = g) w w' := by
  obtain ⟨y, h1, h2⟩ := h
  have e := h2.poll a
  refine (poll_q g y a w E hS h107 h110 h1 h2.invC).mono ?_
  rintro r w' ⟨rfl, h3, h4⟩
  exact ⟨by rw [e.2], ⟨_, h3, e.1⟩, h4⟩
theorem close_t {S : List Nat} (g : Nat) (X : Nat → Nap) (a : Int) (w : World) (E : Nat → Addr) (hS : Sent w E S) (h107 : 107 ∈ S) (h110 : 110 ∈ S) (h : IsPs w g X) :
    Calls Tryd.prog 23 #[.pointer (some ⟨g, 0, none⟩), .int .i64 a] w fun e w' => e = .returned (errV E (closeP X a).2) ∧ IsPs w' g (closeP X a).1 ∧ Only (· = g) w w' := by
  obtain ⟨y, h1, h2⟩ := h
  have e := h2.close a
  refine (close_q g y a w E hS h107 h110 h1 h2.invC).mono ?_
  rintro r w' ⟨rfl, h3, h4⟩
  exact ⟨by rw [e.2], ⟨_, h3, e.1⟩, h4⟩
theorem doze_t {S : List Nat} (g : Nat) (X : Nat → Nap) (a : Int) (on : Bool) (w : World) (E : Nat → Addr) (hS : Sent w E S) (h107 : 107 ∈ S) (h : IsPs w g X) :
    Calls Tryd.prog 15 #[.pointer (some ⟨g, 0, none⟩), .int .i64 a, .bool on] w fun e w' => e = .returned (errV E (dozeP X a on).2) ∧ IsPs w' g (dozeP X a on).1 ∧ Only (· = g) w w' := by
  obtain ⟨y, h1, h2⟩ := h
  have e := h2.doze a on
  refine (doze_q g y a on w E hS h107 h1 h2.invC).mono ?_
  rintro r w' ⟨rfl, h3, h4⟩
  exact ⟨by rw [e.2], ⟨_, h3, e.1⟩, h4⟩
theorem trig_t {S : List Nat} (g : Nat) (X : Nat → Nap) (a c : Int) (w : World) (E : Nat → Addr) (hS : Sent w E S) (h103 : 103 ∈ S) (h107 : 107 ∈ S) (h110 : 110 ∈ S) (h : IsPs w g X) :
    Calls Tryd.prog 19 #[.pointer (some ⟨g, 0, none⟩), .int .i64 a, .int .i64 c] w fun e w' => e = .returned (errV E (trigP X a c).2) ∧ IsPs w' g (trigP X a c).1 ∧ Only (· = g) w w' := by
  obtain ⟨y, h1, h2⟩ := h
  have e := h2.trig a c
  refine (trig_q g y a c w E hS h103 h107 h110 h1 h2.invC).mono ?_
  rintro r w' ⟨rfl, h3, h4⟩
  exact ⟨by rw [e.2], ⟨_, h3, e.1⟩, h4⟩
theorem sent_t {S : List Nat} (g : Nat) (X : Nat → Nap) (a c : Int) (more : Bool) (w : World) (E : Nat → Addr) (hS : Sent w E S) (h103 : 103 ∈ S) (h107 : 107 ∈ S) (h110 : 110 ∈ S) (h : IsPs w g X) :
    Calls Tryd.prog 21 #[.pointer (some ⟨g, 0, none⟩), .int .i64 a, .int .i64 c, .bool more] w fun e w' => e = .returned (.tuple #[.bool (sentP X a c more).2.1, errV E (sentP X a c more).2.2]) ∧ IsPs w' g (sentP X a c more).1 ∧ Only (· = g) w w' := by
  obtain ⟨y, h1, h2⟩ := h
  have e := h2.sent a c more
  refine (sent_q g y a c more w E hS h103 h107 h110 h1 h2.invC).mono ?_
  rintro r w' ⟨rfl, h3, h4⟩
  exact ⟨by rw [e.2], ⟨_, h3, e.1⟩, h4⟩
theorem add_t {S : List Nat} (g : Nat) (X : Nat → Nap) (a : Int) (u : Nat → Bool) (m : Int) (w : World) (E : Nat → Addr) (hS : Sent w E S) (h103 : 103 ∈ S) (h108 : 108 ∈ S) (h : IsPs w g X) :
    Calls Tryd.prog 11 #[.pointer (some ⟨g, 0, none⟩), .int .i64 a, .agg #[.bool (u 0), .bool (u 1), .bool (u 2), .bool (u 3)], .int .i64 m] w fun e w' => e = .returned (errV E (addP X a u m).2) ∧ IsPs w' g (addP X a u m).1 ∧ Only (· = g) w w' := by
  obtain ⟨y, h1, h2⟩ := h
  have e := h2.add a u m
  refine (add_q g y a m u w E hS h103 h108 h1).mono ?_
  rintro r w' ⟨rfl, h3, h4⟩
  exact ⟨by rw [e.2], ⟨_, h3, e.1⟩, h4⟩
theorem may_t (g : Nat) (X : Nat → Nap) (a c : Int) (w : World) (h : IsPs w g X) : Calls Tryd.prog 28 #[.pointer (some ⟨g, 0, none⟩), .int .i64 a, .int .i64 c] w fun e w' => e = .returned (.bool (mayP X a c)) ∧ w = w' := by
  obtain ⟨y, h1, h2⟩ := h
  rw [← h2.may a c]
  exact may_q g y a c w h1 h2.invC
theorem asl_t (g : Nat) (X : Nat → Nap) (a : Int) (w : World) (h : IsPs w g X) : Calls Tryd.prog 9 #[.pointer (some ⟨g, 0, none⟩), .int .i64 a] w fun e w' => e = .returned (.bool (aslP X a)) ∧ w = w' := by
  obtain ⟨y, h1, h2⟩ := h
  rw [← h2.asl a]
  exact asl_q g y a w h1 h2.invC
theorem ask_t (g : Nat) (X : Nat → Nap) (a : Int) (w : World) (h : IsPs w g X) : Calls Tryd.prog 26 #[.pointer (some ⟨g, 0, none⟩), .int .i64 a] w fun e w' => e = .returned (.bool (askP X a)) ∧ w = w' := by
  obtain ⟨y, h1, h2⟩ := h
  rw [← h2.ask a]
  exact ask_q g y a w h1 h2.invC
theorem del_t (g : Nat) (X : Nat → Nap) (a : Int) (w : World) (h : IsPs w g X) : Calls Tryd.prog 13 #[.pointer (some ⟨g, 0, none⟩), .int .i64 a] w fun e w' => e = .returned (.tuple #[]) ∧ IsPs w' g (delP X a) ∧ Only (· = g) w w' := by
  obtain ⟨y, h1, h2⟩ := h
  refine (del_q g y a w h1).mono ?_
  rintro r w' ⟨rfl, h3, h4⟩
  exact ⟨rfl, ⟨_, h3, h2.del a⟩, h4⟩
theorem clone_t (g : Nat) (X : Nat → Nap) (w : World) (h : IsPs w g X) : Calls Tryd.prog 8 #[.pointer (some ⟨g, 0, none⟩)] w fun e w' => e = .returned (.pointer (some ⟨w.heap.size, 0, none⟩)) ∧ IsPs w' w.heap.size X ∧ Below w.heap.size w w' := by
  obtain ⟨y, h1, h2⟩ := h
  refine (clone_q g y w h1).mono ?_
  rintro r w' ⟨rfl, h3, h4⟩
  exact ⟨rfl, ⟨_, h3, h2⟩, h4⟩
end Go.Proofs.YtaiegmnjoffloaaDoor
