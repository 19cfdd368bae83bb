/-
  PsApart: all stations, the law's own flags beside them.
-/
import Derived.Test.YtaiegmnjoffloaaDoorPsQ
import Derived.Test.YtaiegmnjoffloaaDoorOpenU
namespace Go.Proofs.YtaiegmnjoffloaaDoor
open Go.ChangeShapes Go.WideShapes Go.ChangeAt Go.RowKit Go.Deep
set_option linter.unusedVariables false
set_option linter.unusedSimpArgs false

theorem wf_wrap (x : Int) : (Lit.int .i64 (wrap64 x)).wf = true := by
  have : -9223372036854775808 ≤ wrap64 x ∧ wrap64 x ≤ 9223372036854775807 := by unfold wrap64; omega
  simpa [Lit.wf, IntKind.min, IntKind.max, IntKind.signed, IntKind.bits] using this
theorem calls_bel {P : Program} {f : FuncId} {args : Array Value} {w : World} {v : Ending} (h : Calls P f args w fun e w' => e = v ∧ w = w') : Calls P f args w fun e w' => e = v ∧ Below w.heap.size w w' := h.mono fun _ _ ⟨h1, h2⟩ => ⟨h1, h2 ▸ Below.refl _ _⟩
/-- stations 1 to n - 1 are there, each awake. -/
def ax (u : Nat → Bool) (n k : Nat) : Nap := if 1 ≤ k ∧ k < n then addN u 3 else nap0
theorem ax_1 (u : Nat → Bool) : ax u 1 = X0 := by funext k; unfold ax; rw [if_neg (by omega)]; rfl
theorem ax_add (u : Nat → Bool) {n : Nat} (h1 : 1 ≤ n) (h2 : n ≤ 16) : addP (ax u n) (n : Int) u 3 = (ax u (n + 1), 0) := by
  unfold addP
  rw [if_pos ⟨aid_in h1 h2, rfl⟩, Int.toNat_natCast, if_neg (by unfold ax; rw [if_neg (by omega)]; simp [nap0])]
  congr 1
  funext k
  unfold updF ax
  by_cases e : k = n
  · rw [if_pos e, if_pos (by omega)]; rfl
  · rw [if_neg e]
    by_cases h : 1 ≤ k ∧ k < n
    · rw [if_pos h, if_pos (by omega)]
    · rw [if_neg h, if_neg (by omega)]
/-- each is there, and sleeps as s says; no period is open. -/
structure ApX (X : Nat → Nap) (s : Nat → Bool) : Prop where
  inv : InvP X
  one : ∀ k, 1 ≤ k → k ≤ 16 → (X k).there = true ∧ (X k).opn = false ∧ (X k).asleep = s k
section
variable {X : Nat → Nap} {s : Nat → Bool} {k : Nat}
theorem ApX.begin {u : Nat → Bool} (hi : InvP (ax u 17)) : ApX (ax u 17) fun _ => false :=
  ⟨hi, fun k h1 h2 => by unfold ax; rw [if_pos (by omega)]; exact ⟨rfl, rfl, rfl⟩⟩
theorem ApX.th (h : ApX X s) (h1 : 1 ≤ k) (h2 : k ≤ 16) : thP X (k : Int) = true := by unfold thP; rw [aid_in h1 h2, Int.toNat_natCast, (h.one k h1 h2).1]; rfl
theorem ApX.asl (h : ApX X s) (h1 : 1 ≤ k) (h2 : k ≤ 16) : aslP X (k : Int) = s k := by
  unfold aslP
  rw [h.th h1 h2, Int.toNat_natCast, Bool.true_and, (h.one k h1 h2).2.2]
theorem ApX.ask0 (h : ApX X s) (h1 : 1 ≤ k) (h2 : k ≤ 16) (hs : s k = false) : askP X (k : Int) = false := by
  unfold askP
  rw [h.th h1 h2, Int.toNat_natCast, Bool.true_and]
  exact ((h.inv.one k).awake ((h.one k h1 h2).2.2.trans hs)).1
theorem ApX.may0 (h : ApX X s) (h1 : 1 ≤ k) (h2 : k ≤ 16) (hs : s k = false) {c : Nat} (hc : c < 4) : mayP X (k : Int) (c : Int) = true := by
  unfold mayP mayN
  rw [h.th h1 h2, ac_in hc, Int.toNat_natCast, (h.one k h1 h2).1, (h.one k h1 h2).2.2, hs]
  rfl
theorem ApX.may1 (h : ApX X s) (h1 : 1 ≤ k) (h2 : k ≤ 16) (hs : s k = true) {c : Nat} (hc : c < 4) : mayP X (k : Int) (c : Int) = askP X (k : Int) := by
  unfold mayP mayN askP
  rw [h.th h1 h2, ac_in hc, Int.toNat_natCast, (h.one k h1 h2).1, (h.one k h1 h2).2.2, hs, (h.one k h1 h2).2.1]
  cases (X k).asked <;> rfl
theorem ApX.upd (h : ApX X s) {p : Nap} {b : Bool} (hp : p.there = true ∧ p.opn = false ∧ p.asleep = b) (hi : InvP (updF X k p)) : ApX (updF X k p) (updF s k b) := by
  refine ⟨hi, fun j j1 j2 => ?_⟩
  by_cases e : j = k
  · subst e; rw [updF_same, updF_same]; exact hp
  · rw [updF_ne e, updF_ne e]; exact h.one j j1 j2
theorem ApX.doze (h : ApX X s) (h1 : 1 ≤ k) (h2 : k ≤ 16) (on : Bool) : ApX (dozeP X (k : Int) on).1 (updF s k on) := by
  have hi := h.inv.doze (k : Int) on
  unfold dozeP at *
  rw [if_pos (h.th h1 h2), Int.toNat_natCast] at *
  refine h.upd ?_ hi
  have h3 := h.one k h1 h2
  unfold dozeN
  split
  · rename_i e; exact ⟨h3.1, h3.2.1, e⟩
  · exact ⟨h3.1, rfl, rfl⟩
theorem upd_self (s : Nat → Bool) (k : Nat) : updF s k (s k) = s := by
  funext j
  unfold updF
  split
  · rename_i e; rw [e]
  · rfl
theorem ApX.poll (h : ApX X s) (h1 : 1 ≤ k) (h2 : k ≤ 16) : ApX (pollP X (k : Int)).1 s := by
  have hi := h.inv.poll (k : Int)
  unfold pollP at *
  rw [if_pos (h.th h1 h2), Int.toNat_natCast] at *
  have h3 := h.one k h1 h2
  have h4 : ApX (updF X k (pollN (X k)).1) (updF s k (s k)) := by
    refine h.upd ?_ hi
    unfold pollN
    split
    · exact h3
    · exact h3
  rw [upd_self] at h4
  exact h4
theorem ApX.del (h : ApX X s) (h1 : 1 ≤ k) (h2 : k ≤ 16) (u : Nat → Bool) : mayP (delP X (k : Int)) (k : Int) 0 = false ∧ aslP (delP X (k : Int)) (k : Int) = false ∧ (addP (delP X (k : Int)) (k : Int) u 3).2 = 0 ∧ ApX (addP (delP X (k : Int)) (k : Int) u 3).1 (updF s k false) := by
  have hi := (h.inv.del (k : Int)).add (k : Int) u 3
  have e : delP X (k : Int) = updF X k nap0 := by unfold delP; rw [if_pos (h.th h1 h2), Int.toNat_natCast]
  rw [e] at hi ⊢
  have ht : thP (updF X k nap0) (k : Int) = false := by unfold thP; rw [Int.toNat_natCast, updF_same, Bool.and_eq_false_iff]; exact .inr rfl
  have ea : addP (updF X k nap0) (k : Int) u 3 = (updF X k (addN u 3), 0) := by
    unfold addP
    rw [if_pos ⟨aid_in h1 h2, rfl⟩, Int.toNat_natCast, updF_same, if_neg (by simp [nap0]), updF_two]
    rfl
  rw [ea] at hi ⊢
  exact ⟨by unfold mayP; rw [ht]; rfl, by unfold aslP; rw [ht]; rfl, rfl, h.upd ⟨rfl, rfl, rfl⟩ hi⟩
end
/-- the law's own flags. -/
def boF (b : Bool) : List Value := [.bool b]
theorem boF_len (b : Bool) : (boF b).length = 1 := rfl
def blkB (s : Nat → Bool) : Array Value := ([] ++ arrF boF 17 s ++ []).toArray
def IsBl (w : World) (g : Nat) (s : Nat → Bool) : Prop := w.heap[g]? = some (.cells (blkB s) 63 (0, 0))
theorem zero_bl : blkB (fun _ => false) = #[.bool false, .bool false, .bool false, .bool false, .bool false, .bool false, .bool false, .bool false, .bool false, .bool false, .bool false, .bool false, .bool false, .bool false, .bool false, .bool false, .bool false] := by kernel_rfl
theorem IsBl.c {w : World} {g : Nat} {s : Nat → Bool} (h : IsBl w g s) {k : Nat} (hk : k < 17) : w.cell? ⟨g, k, none⟩ = some (.bool (s k)) := by
  have e := arr_cell boF_len h hk (j := 0) (v := .bool (s k)) rfl
  simpa using e
theorem bl_set (s : Nat → Bool) {k : Nat} (hk : k < 17) (b : Bool) : (blkB s).setIfInBounds k (.bool b) = blkB (updF s k b) := by
  have e := arr_set boF_len s [] [] hk (j := 0) (by decide) (u := b) (v := .bool b) rfl
  simpa [blkB] using e
theorem bl_lt (s : Nat → Bool) {k : Nat} (hk : k < 17) : k < (blkB s).size := by
  have e := arr_lt boF_len s [] [] hk (j := 0) (by decide)
  simpa [blkB] using e
structure ApW (w0 w : World) (g gb : Nat) (X : Nat → Nap) (s : Nat → Bool) : Prop where
  law : LawP w0 w g X
  bl : IsBl w gb s
  ne : gb ≠ g
  bn : w0.heap.size ≤ gb
section
variable {w0 w w' : World} {g gb : Nat} {X X' : Nat → Nap} {s s' : Nat → Bool} {E : Nat → Addr} {S : List Nat}
theorem ApW.quiet (h : ApW w0 w g gb X s) (hb : Below w.heap.size w w') : ApW w0 w' g gb X s := ⟨h.law.quiet hb, (hb.block gb (lt_blk h.bl)).trans h.bl, h.ne, h.bn⟩
theorem ApW.code (h : ApW w0 w g gb X s) (hp : IsPs w' g X') (ho : Only (· = g) w w') : ApW w0 w' g gb X' s := ⟨h.law.step hp ho, ho.at_ h.bl h.ne, h.ne, h.bn⟩
theorem ApW.put (h : ApW w0 w g gb X s) (s' : Nat → Bool) : ApW w0 (w.setRow gb (blkB s')) g gb X s' :=
  ⟨⟨h.law.ps.only (only_setRow w gb _) (fun e => h.ne e.symm), h.law.bel.trans ((only_setRow w gb (blkB s')).below (fun i hi e => by have e : i = gb := e; have := h.bn; omega) h.law.bel.size), h.law.new⟩, setRow_heap w gb _ _ _ (0, 0) h.bl, h.ne, h.bn⟩
theorem doze_w (h : ApW w0 w g gb X s) (hS : Sent w0 E S) (h107 : 107 ∈ S) (a : Int) (on : Bool) : Calls Tryd.prog 15 #[.pointer (some ⟨g, 0, none⟩), .int .i64 a, .bool on] w fun e w' => e = .returned (errV E (dozeP X a on).2) ∧ ApW w0 w' g gb (dozeP X a on).1 s :=
  (doze_t g X a on w E (hS.below h.law.bel) h107 h.law.ps).mono fun _ _ ⟨h1, h2, h3⟩ => ⟨h1, h.code h2 h3⟩
theorem poll_w (h : ApW w0 w g gb X s) (hS : Sent w0 E S) (h107 : 107 ∈ S) (h110 : 110 ∈ S) (a : Int) : Calls Tryd.prog 17 #[.pointer (some ⟨g, 0, none⟩), .int .i64 a] w fun e w' => e = .returned (errV E (pollP X a).2) ∧ ApW w0 w' g gb (pollP X a).1 s :=
  (poll_t g X a w E (hS.below h.law.bel) h107 h110 h.law.ps).mono fun _ _ ⟨h1, h2, h3⟩ => ⟨h1, h.code h2 h3⟩
theorem add_w (h : ApW w0 w g gb X s) (hS : Sent w0 E S) (h103 : 103 ∈ S) (h108 : 108 ∈ S) (a : Int) (u : Nat → Bool) (m : Int) : Calls Tryd.prog 11 #[.pointer (some ⟨g, 0, none⟩), .int .i64 a, .agg #[.bool (u 0), .bool (u 1), .bool (u 2), .bool (u 3)], .int .i64 m] w fun e w' => e = .returned (errV E (addP X a u m).2) ∧ ApW w0 w' g gb (addP X a u m).1 s :=
  (add_t g X a u m w E (hS.below h.law.bel) h103 h108 h.law.ps).mono fun _ _ ⟨h1, h2, h3⟩ => ⟨h1, h.code h2 h3⟩
theorem del_w (h : ApW w0 w g gb X s) (a : Int) : Calls Tryd.prog 13 #[.pointer (some ⟨g, 0, none⟩), .int .i64 a] w fun e w' => e = .returned (.tuple #[]) ∧ ApW w0 w' g gb (delP X a) s :=
  (del_t g X a w h.law.ps).mono fun _ _ ⟨h1, h2, h3⟩ => ⟨h1, h.code h2 h3⟩
end
end Go.Proofs.YtaiegmnjoffloaaDoor
