/-
  CONTRACTS of package ps: the stations in their block; find, is, may, sent; Asleep, Polled, Poll, Close, Doze.
-/
import Derived.Test.YtaiegmnjoffloaaDoorPsR
import Derived.Test.YtaiegmnjoffloaaDoorErrP
import Derived.Deep.CutRange
import Derived.StillTailTactics
import Derived.LoopTactic
namespace Go.Proofs.YtaiegmnjoffloaaDoor
open Go.ChangeShapes Go.WideShapes Go.ChangeAt Go.RowKit Go.Deep
set_option linter.unusedVariables false
set_option linter.unusedSimpArgs false

/-- a station as the code has it: 0 away, 1 awake, 2 asleep, 3 polled, 4 a period. -/
structure Cst where
  st : Nat
  most : Nat
  left : Nat
  u : Nat → Bool
def cst0 : Cst := ⟨0, 0, 0, fun _ => false⟩
def cstC (p : Cst) : List Value := [.int .i64 (p.st : Nat), .bool (p.u 0), .bool (p.u 1), .bool (p.u 2), .bool (p.u 3), .int .i64 (p.most : Nat), .int .i64 (p.left : Nat)]
theorem cstC_len (p : Cst) : (cstC p).length = 7 := rfl
theorem cstC_one (p : Cst) : ∀ v ∈ cstC p, v.oneCell' = true := by intro v hv; unfold cstC at hv; simp only [List.mem_cons, List.not_mem_nil, or_false] at hv; rcases hv with rfl | rfl | rfl | rfl | rfl | rfl | rfl <;> rfl
theorem cstC_u (p : Cst) {c : Nat} (hc : c < 4) : (cstC p)[1 + c]? = some (.bool (p.u c)) := by
  match c, hc with
  | 0, _ | 1, _ | 2, _ | 3, _ => rfl
  | n + 4, h => exact absurd h (by omega)
def blkC (y : Nat → Cst) : Array Value := ([] ++ arrF cstC 17 y ++ []).toArray
def IsCs (w : World) (g : Nat) (y : Nat → Cst) : Prop := w.heap[g]? = some (.cells (blkC y) 31 (0, 0))
theorem sizeSt : (Tryd.prog.info? 28).map (·.size) = some 7 := by kernel_rfl
theorem sizeStt : (Tryd.prog.info? 25).map (·.size) = some 1 := by kernel_rfl
theorem sizeIn : (Tryd.prog.info? 3).map (·.size) = some 1 := by kernel_rfl
structure InvC (y : Nat → Cst) : Prop where
  st : ∀ k, (y k).st ≤ 4
  most : ∀ k, (y k).most ≤ 8
  left : ∀ k, (y k).left ≤ 8
def thC (y : Nat → Cst) (a : Int) : Bool := aidP a && decide ((y a.toNat).st ≠ 0)
def mayS (p : Cst) (c : Nat) : Bool := if p.st = 1 ∨ p.st = 3 then true else if p.st = 4 then p.u c else false
def sentS (p : Cst) (more : Bool) : Cst × Bool :=
  if p.st = 3 then ({ p with st := 2 }, false) else if p.st = 4 then (if p.left = 1 ∨ more = false then ({ p with st := 2 }, true) else ({ p with left := p.left - 1 }, false)) else (p, false)
def pollS (p : Cst) : Cst × Nat := if p.st = 1 ∨ p.st = 4 then (p, 110) else ({ p with st := 3 }, 0)
def closeS (p : Cst) : Cst × Nat := if p.st = 4 then ({ p with st := 2 }, 0) else (p, 110)
def dozeS (p : Cst) (on : Bool) : Cst := if on = false then { p with st := 1 } else if p.st = 1 then { p with st := 2 } else p
def trigS (p : Cst) (c : Nat) : Cst × Nat := if p.st = 2 ∧ p.u c = true then ({ p with st := 4, left := p.most }, 0) else (p, 110)
def pollQ (y : Nat → Cst) (a : Int) : (Nat → Cst) × Nat := if thC y a = true then (updF y a.toNat (pollS (y a.toNat)).1, (pollS (y a.toNat)).2) else (y, 107)
def closeQ (y : Nat → Cst) (a : Int) : (Nat → Cst) × Nat := if thC y a = true then (updF y a.toNat (closeS (y a.toNat)).1, (closeS (y a.toNat)).2) else (y, 107)
def dozeQ (y : Nat → Cst) (a : Int) (on : Bool) : (Nat → Cst) × Nat := if thC y a = true then (updF y a.toNat (dozeS (y a.toNat) on), 0) else (y, 107)
def trigQ (y : Nat → Cst) (a c : Int) : (Nat → Cst) × Nat := if thC y a = true then (if acP c = true then (updF y a.toNat (trigS (y a.toNat) c.toNat).1, (trigS (y a.toNat) c.toNat).2) else (y, 103)) else (y, 107)
def addQ (y : Nat → Cst) (a : Int) (u : Nat → Bool) (m : Int) : (Nat → Cst) × Nat := if aidP a = true ∧ mostP m = true then (if thC y a = true then (y, 108) else (updF y a.toNat ⟨1, m.toNat, 0, u⟩, 0)) else (y, 103)
def delQ (y : Nat → Cst) (a : Int) : Nat → Cst := if thC y a = true then updF y a.toNat cst0 else y
def mayQ (y : Nat → Cst) (a c : Int) : Bool := thC y a && (acP c && mayS (y a.toNat) c.toNat)
def sentQ (y : Nat → Cst) (a c : Int) (more : Bool) : (Nat → Cst) × Bool × Nat :=
  if thC y a = true then (if acP c = true then (if mayS (y a.toNat) c.toNat = true then (updF y a.toNat (sentS (y a.toNat) more).1, (sentS (y a.toNat) more).2, 0) else (y, false, 110)) else (y, false, 103)) else (y, false, 107)
section
variable {w w' : World} {g k : Nat} {x y : Nat → Cst}
theorem IsCs.below (h : IsCs w g x) (hb : Below w.heap.size w w') : IsCs w' g x := (hb.block g (lt_blk h)).trans h
theorem IsCs.only {S : Nat → Prop} (h : IsCs w g x) (ho : Only S w w') (hn : ¬ S g) : IsCs w' g x := ho.at_ h hn
theorem IsCs.c (h : IsCs w g x) (hk : k < 17) {j : Nat} {v : Value} (hv : (cstC (x k))[j]? = some v) : w.cell? ⟨g, k * 7 + j, none⟩ = some v := by
  have e := arr_cell cstC_len h hk hv
  simpa using e
theorem IsCs.c0 (h : IsCs w g x) (hk : k < 17) : w.cell? ⟨g, k * 7, none⟩ = some (.int .i64 ((x k).st : Nat)) := h.c hk (j := 0) rfl
theorem IsCs.cs (h : IsCs w g x) (hk : k < 17) {s : Nat} (hs : (x k).st = s) : w.cell? ⟨g, k * 7, none⟩ = some (.int .i64 (s : Nat)) := by rw [← hs]; exact h.c0 hk
theorem IsCs.cu (h : IsCs w g x) (hk : k < 17) {c : Nat} (hc : c < 4) : w.cell? ⟨g, k * 7 + 1 + c, none⟩ = some (.bool ((x k).u c)) := by
  rw [Nat.add_assoc]
  exact h.c hk (cstC_u _ hc)
theorem cs_set (x : Nat → Cst) (hk : k < 17) {j : Nat} (hj : j < 7) {u : Cst} {v : Value} (hu : cstC u = (cstC (x k)).set j v) : (blkC x).setIfInBounds (k * 7 + j) v = blkC (updF x k u) := by
  have e := arr_set cstC_len x [] [] hk hj hu
  simpa [blkC] using e
theorem cs_set0 (x : Nat → Cst) (hk : k < 17) {u : Cst} {v : Value} (hu : cstC u = (cstC (x k)).set 0 v) : (blkC x).setIfInBounds (k * 7) v = blkC (updF x k u) := cs_set x hk (j := 0) (by decide) hu
theorem cs_lt (x : Nat → Cst) (hk : k < 17) {j : Nat} (hj : j < 7) : k * 7 + j < (blkC x).size := by
  have e := arr_lt cstC_len x [] [] hk hj
  simpa [blkC] using e
theorem cs_lt0 (x : Nat → Cst) (hk : k < 17) : k * 7 < (blkC x).size := cs_lt x hk (j := 0) (by decide)
theorem IsCs.put (h : IsCs w g x) (y : Nat → Cst) : IsCs (w.setRow g (blkC y)) g y := setRow_heap w g _ _ _ (0, 0) h
theorem updC_id (x : Nat → Cst) (k : Nat) : updF x k (x k) = x := by
  funext j
  unfold updF
  split
  · rename_i e; rw [e]
  · rfl
theorem updC_two (x : Nat → Cst) (k : Nat) (p q : Cst) : updF (updF x k p) k q = updF x k q := by
  funext j
  unfold updF
  split <;> rfl
theorem thC_aid {a : Int} (h : thC x a = true) : aidP a = true := by unfold thC at h; simp only [Bool.and_eq_true] at h; exact h.1
theorem thC_st {a : Int} (h : thC x a = true) : (x a.toNat).st ≠ 0 := by unfold thC at h; simp only [Bool.and_eq_true, decide_eq_true_eq] at h; exact h.2
theorem four_st {s : Nat} (h0 : s ≠ 0) (h4 : s ≤ 4) : s = 1 ∨ s = 2 ∨ s = 3 ∨ s = 4 := by omega
end
/-! ### find, is -/
set_option maxRecDepth 100000 in
set_option maxHeartbeats 8000000 in
theorem find_no (g : Nat) (y : Nat → Cst) (a : Int) (w : World) (h : IsCs w g y) (ht : thC y a = false) : Calls Tryd.prog 31 #[.pointer (some ⟨g, 0, none⟩), .int .i64 a] w fun e w' => e = .returned (.pointer none) ∧ w = w' := by
  by_cases h1 : 1 ≤ a
  · by_cases h2 : a ≤ 16
    · obtain ⟨k, rfl, k1, k2⟩ := aidP_nat (show aidP a = true by unfold aidP; simp [h1, h2])
      have c0 : w.cell? ⟨g, k * 7, none⟩ = some (.int .i64 0) := h.cs (k := k) (s := 0) (by omega) (by unfold thC aidP at ht; simp [h1, h2] at ht; omega)
      have e1 : (0 : Int) ≤ (k : Int) := by omega
      have e2 : (k : Int) < 17 := by omega
      have e3 : ¬ (k : Int) < 1 := by omega
      have e4 : ¬ (16 : Int) < (k : Int) := by omega
      clear h ht
      go_enter Tryd.func31, Tryd.ntmps31
      go_wp2_with (fail)
      go_ret
      exact ⟨rfl, rfl⟩
    · have e3 : ¬ a < 1 := by omega
      have e4 : (16 : Int) < a := by omega
      clear h ht
      go_enter Tryd.func31, Tryd.ntmps31
      go_wp2_with (fail)
      go_ret
      exact ⟨rfl, rfl⟩
  · have e3 : a < 1 := by omega
    clear h ht
    go_enter Tryd.func31, Tryd.ntmps31
    go_wp2_with (fail)
    go_ret
    exact ⟨rfl, rfl⟩
set_option maxRecDepth 100000 in
set_option maxHeartbeats 8000000 in
theorem find_yes (g : Nat) (y : Nat → Cst) (k : Nat) (w : World) (h : IsCs w g y) (ht : thC y (k : Int) = true) : Calls Tryd.prog 31 #[.pointer (some ⟨g, 0, none⟩), .int .i64 (k : Int)] w fun e w' => e = .returned (.pointer (some ⟨g, k * 7, none⟩)) ∧ w = w' := by
  obtain ⟨j, hj, k1, k2⟩ := aidP_nat (thC_aid ht)
  obtain rfl : k = j := by omega
  have hs := thC_st ht
  rw [Int.toNat_natCast] at hs
  have c0 := h.c0 (k := k) (by omega)
  generalize (y k).st = s at *
  have e1 : (0 : Int) ≤ (k : Int) := by omega
  have e2 : (k : Int) < 17 := by omega
  have e3 : ¬ (k : Int) < 1 := by omega
  have e4 : ¬ (16 : Int) < (k : Int) := by omega
  have e5 : ((s : Int) == 0) = false := by simp; omega
  clear h ht hj k1 k2 hs
  go_enter Tryd.func31, Tryd.ntmps31
  go_wp2_with (fail)
  go_ret
  exact ⟨rfl, rfl⟩
set_option maxRecDepth 100000 in
set_option maxHeartbeats 8000000 in
theorem isac_any (n : Int) (w : World) : Calls Tryd.prog 36 #[.int .i64 n] w fun e w' => e = .returned (.bool (acP n)) ∧ w = w' := by
  by_cases h1 : 0 ≤ n
  · have H := Shut.mk (show acP n = decide (n < 4) by unfold acP; simp [h1])
    go_enter Tryd.func36, Tryd.ntmps36
    go_wp2
    go_ret
    exact ⟨ret_b H.out, rfl⟩
  · have H := Shut.mk (show acP n = false by unfold acP; simp; omega)
    have h2 : n < 0 := by omega
    go_enter Tryd.func36, Tryd.ntmps36
    go_wp2
    go_ret
    exact ⟨ret_b H.out, rfl⟩
/-! ### may, sent: of one station -/
set_option maxRecDepth 100000 in
set_option maxHeartbeats 8000000 in
theorem may_s (g : Nat) (y : Nat → Cst) (k c : Nat) (w : World) (h : IsCs w g y) (hk : k < 17) (hc : c < 4) (h0 : (y k).st ≠ 0) (h4 : (y k).st ≤ 4) :
    Calls Tryd.prog 38 #[.pointer (some ⟨g, k * 7, none⟩), .int .i64 (c : Int)] w fun e w' => e = .returned (.bool (mayS (y k) c)) ∧ w = w' := by
  have cu := h.cu hk hc
  have e1 : (0 : Int) ≤ (c : Int) := by omega
  have e2 : (c : Int) < 4 := by omega
  rcases four_st h0 h4 with hs | hs | hs | hs
  · have c0 : w.cell? ⟨g, k * 7, none⟩ = some (.int .i64 1) := h.cs hk hs
    have H := Shut.mk (show mayS (y k) c = true by unfold mayS; rw [hs]; simp)
    clear h h0 h4 hs
    generalize (y k).u c = uc at *
    go_enter Tryd.func38, Tryd.ntmps38
    go_wp2_with (fail)
    go_ret
    exact ⟨ret_b H.out, rfl⟩
  · have c0 : w.cell? ⟨g, k * 7, none⟩ = some (.int .i64 2) := h.cs hk hs
    have H := Shut.mk (show mayS (y k) c = false by unfold mayS; rw [hs]; simp)
    clear h h0 h4 hs
    generalize (y k).u c = uc at *
    go_enter Tryd.func38, Tryd.ntmps38
    go_wp2_with (fail)
    go_ret
    exact ⟨ret_b H.out, rfl⟩
  · have c0 : w.cell? ⟨g, k * 7, none⟩ = some (.int .i64 3) := h.cs hk hs
    have H := Shut.mk (show mayS (y k) c = true by unfold mayS; rw [hs]; simp)
    clear h h0 h4 hs
    generalize (y k).u c = uc at *
    go_enter Tryd.func38, Tryd.ntmps38
    go_wp2_with (fail)
    go_ret
    exact ⟨ret_b H.out, rfl⟩
  · have c0 : w.cell? ⟨g, k * 7, none⟩ = some (.int .i64 4) := h.cs hk hs
    have H := Shut.mk (show mayS (y k) c = (y k).u c by unfold mayS; rw [hs]; simp)
    clear h h0 h4 hs
    generalize (y k).u c = uc at *
    go_enter Tryd.func38, Tryd.ntmps38
    go_wp2_with (fail)
    go_ret
    exact ⟨ret_b H.out, rfl⟩
set_option maxRecDepth 100000 in
set_option maxHeartbeats 8000000 in
theorem sent_s (g : Nat) (y : Nat → Cst) (k : Nat) (more : Bool) (w : World) (h : IsCs w g y) (hk : k < 17) (h0 : (y k).st ≠ 0) (h4 : (y k).st ≤ 4) (hl : (y k).left ≤ 8) :
    Calls Tryd.prog 39 #[.pointer (some ⟨g, k * 7, none⟩), .bool more] w fun e w' => e = .returned (.bool (sentS (y k) more).2) ∧ IsCs w' g (updF y k (sentS (y k) more).1) ∧ Only (· = g) w w' := by
  have HX := Shut.mk h
  have HK := Shut.mk hk
  obtain ⟨p, hp⟩ : ∃ p, p = y k := ⟨_, rfl⟩
  have HID := Shut.mk (show updF y k p = y by rw [hp]; exact updC_id y k)
  have c6 : w.cell? ⟨g, k * 7 + 6, none⟩ = some (.int .i64 (p.left : Nat)) := by rw [hp]; exact h.c hk (j := 6) rfl
  rw [← hp] at h0 h4 hl ⊢
  rcases four_st h0 h4 with hs | hs | hs | hs
  · have c0 : w.cell? ⟨g, k * 7, none⟩ = some (.int .i64 1) := h.cs hk (hp ▸ hs)
    have e : sentS p more = (p, false) := by unfold sentS; rw [hs]; simp
    rw [e]
    clear h h0 h4 hl hk hs e hp c6
    go_enter Tryd.func39, Tryd.ntmps39
    go_wp2_with (fail)
    go_ret
    exact ⟨rfl, by rw [HID.out]; exact HX.out, Only.refl _ _⟩
  · have c0 : w.cell? ⟨g, k * 7, none⟩ = some (.int .i64 2) := h.cs hk (hp ▸ hs)
    have e : sentS p more = (p, false) := by unfold sentS; rw [hs]; simp
    rw [e]
    clear h h0 h4 hl hk hs e hp c6
    go_enter Tryd.func39, Tryd.ntmps39
    go_wp2_with (fail)
    go_ret
    exact ⟨rfl, by rw [HID.out]; exact HX.out, Only.refl _ _⟩
  · have c0 : w.cell? ⟨g, k * 7, none⟩ = some (.int .i64 3) := h.cs hk (hp ▸ hs)
    have e : sentS p more = ({ p with st := 2 }, false) := by unfold sentS; rw [if_pos hs]
    rw [e]
    have HS := Shut.mk (show cstC { p with st := 2 } = (cstC (y k)).set 0 (.int .i64 2) by rw [← hp]; rfl)
    clear h h0 h4 hl hk hs e hp c6
    go_enter Tryd.func39, Tryd.ntmps39
    go_wp2_with (first
      | (refine wpList_store_into rfl 25 (.tmp 13) (.const (.int .i64 2)) rfl g (k * 7) (.int .i64 2) rfl rfl rfl 31 (blkC y) (blkC (updF y k ({ p with st := 2 }))) HX.out sizeStt (cs_lt0 _ HK.out) (cs_set0 _ HK.out HS.out) ?_
         have HA1 := Shut.mk (HX.out.put (updF y k ({ p with st := 2 })))
         have HO1 := Shut.mk (only_setRow w g (blkC (updF y k ({ p with st := 2 }))))
         generalize World.setRow w g (blkC (updF y k ({ p with st := 2 }))) = wn1 at *))
    go_ret
    exact ⟨rfl, HA1.out, HO1.out⟩
  · have c0 : w.cell? ⟨g, k * 7, none⟩ = some (.int .i64 4) := h.cs hk (hp ▸ hs)
    by_cases hl1 : p.left = 1
    · have hcl : p.left = 1 ∨ more = false := .inl hl1
      rw [hl1] at c6
      have c6 : w.cell? ⟨g, k * 7 + 6, none⟩ = some (.int .i64 1) := c6
      have e : sentS p more = ({ p with st := 2 }, true) := by unfold sentS; rw [if_neg (by omega), if_pos hs, if_pos hcl]
      rw [e]
      have HS := Shut.mk (show cstC { p with st := 2 } = (cstC (y k)).set 0 (.int .i64 2) by rw [← hp]; rfl)
      clear h h0 h4 hl hk hs e hp hcl hl1
      go_enter Tryd.func39, Tryd.ntmps39
      go_wp2_with (first
        | (refine wpList_store_into rfl 25 (.tmp 27) (.const (.int .i64 2)) rfl g (k * 7) (.int .i64 2) rfl rfl rfl 31 (blkC y) (blkC (updF y k ({ p with st := 2 }))) HX.out sizeStt (cs_lt0 _ HK.out) (cs_set0 _ HK.out HS.out) ?_
           have HA1 := Shut.mk (HX.out.put (updF y k ({ p with st := 2 })))
           have HO1 := Shut.mk (only_setRow w g (blkC (updF y k ({ p with st := 2 }))))
           generalize World.setRow w g (blkC (updF y k ({ p with st := 2 }))) = wn1 at *))
      go_ret
      exact ⟨rfl, HA1.out, HO1.out⟩
    · cases more with
      | false =>
        have hcl : p.left = 1 ∨ false = false := .inr rfl
        have e5 : ((p.left : Int) == 1) = false := by simp; omega
        have e : sentS p false = ({ p with st := 2 }, true) := by unfold sentS; rw [if_neg (by omega), if_pos hs, if_pos hcl]
        rw [e]
        have HS := Shut.mk (show cstC { p with st := 2 } = (cstC (y k)).set 0 (.int .i64 2) by rw [← hp]; rfl)
        clear h h0 h4 hl hk hs e hp hcl hl1
        go_enter Tryd.func39, Tryd.ntmps39
        go_wp2_with (first
          | (refine wpList_store_into rfl 25 (.tmp 27) (.const (.int .i64 2)) rfl g (k * 7) (.int .i64 2) rfl rfl rfl 31 (blkC y) (blkC (updF y k ({ p with st := 2 }))) HX.out sizeStt (cs_lt0 _ HK.out) (cs_set0 _ HK.out HS.out) ?_
             have HA1 := Shut.mk (HX.out.put (updF y k ({ p with st := 2 })))
             have HO1 := Shut.mk (only_setRow w g (blkC (updF y k ({ p with st := 2 }))))
             generalize World.setRow w g (blkC (updF y k ({ p with st := 2 }))) = wn1 at *))
        go_ret
        exact ⟨rfl, HA1.out, HO1.out⟩
      | true =>
        have e5 : ((p.left : Int) == 1) = false := by simp; omega
        by_cases hz : p.left = 0
        · rw [hz] at c6
          have c6 : w.cell? ⟨g, k * 7 + 6, none⟩ = some (.int .i64 0) := c6
          have e : sentS p true = ({ p with left := p.left - 1 }, false) := by unfold sentS; rw [if_neg (by omega), if_pos hs, if_neg (by simp; omega)]
          rw [e]
          have HS := Shut.mk (show cstC { p with left := p.left - 1 } = (cstC (y k)).set 6 (.int .i64 0) by rw [← hp]; unfold cstC; simp only [List.set_cons_succ, List.set_cons_zero]; rw [show p.left - 1 = 0 by omega]; rfl)
          generalize hU : ({ p with left := p.left - 1 } : Cst) = U at *
          clear h h0 h4 hl hk hs e hp hU e5 hz hl1
          go_enter Tryd.func39, Tryd.ntmps39
          go_wp2_with (first
            | (refine wpList_store_into rfl 3 (.tmp 36) (.tmp 34) rfl g (k * 7 + 6) (.int .i64 0) rfl rfl rfl 31 (blkC y) (blkC (updF y k (U))) HX.out sizeIn (cs_lt _ HK.out (by decide)) (cs_set _ HK.out (by decide) HS.out) ?_
               have HA1 := Shut.mk (HX.out.put (updF y k (U)))
               have HO1 := Shut.mk (only_setRow w g (blkC (updF y k (U))))
               generalize World.setRow w g (blkC (updF y k (U))) = wn1 at *))
          go_ret
          exact ⟨rfl, HA1.out, HO1.out⟩
        · obtain ⟨l, hl2⟩ : ∃ l : Nat, p.left = l + 2 := ⟨p.left - 2, by omega⟩
          rw [hl2] at c6
          have c6 : w.cell? ⟨g, k * 7 + 6, none⟩ = some (.int .i64 ((l : Int) + 2)) := c6
          have e6 : ((l : Int) + 2 == 1) = false := by simp; omega
          have e7 : (l : Int) + 2 - 1 = (l : Int) + 1 := by omega
          have e8 : IntKind.i64.wrap ((l : Int) + 1) = (l : Int) + 1 := IntWalk.i64_in _ ⟨by omega, by omega⟩
          have e9 : max ((l : Int) + 1) 0 = (l : Int) + 1 := by omega
          have e10 : ¬ (l : Int) + 1 < 0 := by omega
          have e : sentS p true = ({ p with left := p.left - 1 }, false) := by unfold sentS; rw [if_neg (by omega), if_pos hs, if_neg (by simp; omega)]
          rw [e]
          have HS := Shut.mk (show cstC { p with left := p.left - 1 } = (cstC (y k)).set 6 (.int .i64 ((l : Int) + 1)) by rw [← hp]; unfold cstC; simp only [List.set_cons_succ, List.set_cons_zero]; rw [show p.left - 1 = l + 1 by omega]; rfl)
          generalize hU : ({ p with left := p.left - 1 } : Cst) = U at *
          clear h h0 h4 hl hk hs e hp hU e5 hz hl1 hl2
          go_enter Tryd.func39, Tryd.ntmps39
          go_wp2_with (first
            | (refine wpList_store_into rfl 3 (.tmp 36) (.tmp 34) rfl g (k * 7 + 6) (.int .i64 ((l : Int) + 1)) rfl rfl rfl 31 (blkC y) (blkC (updF y k (U))) HX.out sizeIn (cs_lt _ HK.out (by decide)) (cs_set _ HK.out (by decide) HS.out) ?_
               have HA1 := Shut.mk (HX.out.put (updF y k (U)))
               have HO1 := Shut.mk (only_setRow w g (blkC (updF y k (U))))
               generalize World.setRow w g (blkC (updF y k (U))) = wn1 at *))
          go_ret
          exact ⟨rfl, HA1.out, HO1.out⟩
/-! ### Poll, Close, Doze -/
set_option maxRecDepth 100000 in
set_option maxHeartbeats 8000000 in
theorem poll_q {S : List Nat} (g : Nat) (y : Nat → Cst) (a : Int) (w : World) (E : Nat → Addr) (hS : Sent w E S) (h107 : 107 ∈ S) (h110 : 110 ∈ S) (h : IsCs w g y) (hi : InvC y) :
    Calls Tryd.prog 17 #[.pointer (some ⟨g, 0, none⟩), .int .i64 a] w fun e w' => e = .returned (errV E (pollQ y a).2) ∧ IsCs w' g (pollQ y a).1 ∧ Only (· = g) w w' := by
  have HX := Shut.mk h
  have z107 : w.cell? ⟨2, 0, none⟩ = some (errP (E 107)) := hS.at_ 107 h107
  have HE107 := Shut.mk (errV_pos E (c := 107) (by decide))
  unfold pollQ
  cases ht : thC y a with
  | false =>
    have HT := Shut.mk (find_no g y a w h ht)
    rw [if_neg (by simp)]
    show Calls _ _ _ _ fun e w' => e = .returned (errV E 107) ∧ IsCs w' g y ∧ _
    rw [HE107.out]
    generalize E 107 = er at *
    clear h ht hS hi HE107
    go_enter Tryd.func17, Tryd.ntmps17
    go_wp2_with (fail)
    refine HT.out.mono ?_
    rintro e w' ⟨rfl, rfl⟩
    go_wp2_with (fail)
    go_ret
    exact ⟨rfl, HX.out, Only.refl _ _⟩
  | true =>
    rw [if_pos rfl]
    obtain ⟨k, rfl, k1, k2⟩ := aidP_nat (thC_aid ht)
    have HT := Shut.mk (find_yes g y k w h ht)
    have h0 := thC_st ht
    rw [Int.toNat_natCast] at h0 ⊢
    have HK := Shut.mk (show k < 17 by omega)
    have hk := HK.out
    have h4 := hi.st k
    have h5 := hi.most k
    have h6 := hi.left k
    obtain ⟨p, hp⟩ : ∃ p, p = y k := ⟨_, rfl⟩
    have HID := Shut.mk (show updF y k p = y by rw [hp]; exact updC_id y k)
    rw [← hp] at h0 h4 h5 h6 ⊢
    clear k1 k2 ht z107 HE107
    rcases four_st h0 h4 with hs | hs | hs | hs
    · have c0 : w.cell? ⟨g, k * 7, none⟩ = some (.int .i64 1) := h.cs hk (hp ▸ hs)
      have e : pollS p = (p, 110) := by unfold pollS; rw [if_pos (by omega)]
      rw [e]
      have z : w.cell? ⟨3, 0, none⟩ = some (errP (E 110)) := hS.at_ 110 h110
      have HE := Shut.mk (errV_pos E (c := 110) (by decide))
      show Calls _ _ _ _ fun e w' => e = .returned (errV E 110) ∧ IsCs w' g (updF y k p) ∧ _
      rw [HE.out]
      generalize E 110 = er at *
      clear h h0 h4 h5 h6 hk hs e hp hS hi 
      go_enter Tryd.func17, Tryd.ntmps17
      go_wp2_with (fail)
      refine HT.out.mono ?_
      rintro e w' ⟨rfl, rfl⟩
      go_wp2_with (fail)
      go_ret
      exact ⟨rfl, by rw [HID.out]; exact HX.out, Only.refl _ _⟩
    · have c0 : w.cell? ⟨g, k * 7, none⟩ = some (.int .i64 2) := h.cs hk (hp ▸ hs)
      have e : pollS p = ({ p with st := 3 }, 0) := by unfold pollS; rw [if_neg (by omega)]
      rw [e]
      have HS := Shut.mk (show cstC { p with st := 3 } = (cstC (y k)).set 0 (.int .i64 3) by rw [← hp]; rfl)
      show Calls _ _ _ _ fun e w' => e = .returned .nilIface ∧ IsCs w' g (updF y k { p with st := 3 }) ∧ _
      clear h h0 h4 h5 h6 hk hs e hp hS hi 
      go_enter Tryd.func17, Tryd.ntmps17
      go_wp2_with (fail)
      refine HT.out.mono ?_
      rintro e w' ⟨rfl, rfl⟩
      go_wp2_with (first
        | (refine wpList_store_into rfl 25 (.tmp 29) (.const (.int .i64 3)) rfl g (k * 7) (.int .i64 3) rfl rfl rfl 31 (blkC y) (blkC (updF y k ({ p with st := 3 }))) HX.out sizeStt (cs_lt0 _ HK.out) (cs_set0 _ HK.out HS.out) ?_
           have HA1 := Shut.mk (HX.out.put (updF y k ({ p with st := 3 })))
           have HO1 := Shut.mk (only_setRow w g (blkC (updF y k ({ p with st := 3 }))))
           generalize World.setRow w g (blkC (updF y k ({ p with st := 3 }))) = wn1 at *))
      go_ret
      exact ⟨rfl, HA1.out, HO1.out⟩
    · have c0 : w.cell? ⟨g, k * 7, none⟩ = some (.int .i64 3) := h.cs hk (hp ▸ hs)
      have e : pollS p = ({ p with st := 3 }, 0) := by unfold pollS; rw [if_neg (by omega)]
      rw [e]
      have HS := Shut.mk (show cstC { p with st := 3 } = (cstC (y k)).set 0 (.int .i64 3) by rw [← hp]; rfl)
      show Calls _ _ _ _ fun e w' => e = .returned .nilIface ∧ IsCs w' g (updF y k { p with st := 3 }) ∧ _
      clear h h0 h4 h5 h6 hk hs e hp hS hi 
      go_enter Tryd.func17, Tryd.ntmps17
      go_wp2_with (fail)
      refine HT.out.mono ?_
      rintro e w' ⟨rfl, rfl⟩
      go_wp2_with (first
        | (refine wpList_store_into rfl 25 (.tmp 29) (.const (.int .i64 3)) rfl g (k * 7) (.int .i64 3) rfl rfl rfl 31 (blkC y) (blkC (updF y k ({ p with st := 3 }))) HX.out sizeStt (cs_lt0 _ HK.out) (cs_set0 _ HK.out HS.out) ?_
           have HA1 := Shut.mk (HX.out.put (updF y k ({ p with st := 3 })))
           have HO1 := Shut.mk (only_setRow w g (blkC (updF y k ({ p with st := 3 }))))
           generalize World.setRow w g (blkC (updF y k ({ p with st := 3 }))) = wn1 at *))
      go_ret
      exact ⟨rfl, HA1.out, HO1.out⟩
    · have c0 : w.cell? ⟨g, k * 7, none⟩ = some (.int .i64 4) := h.cs hk (hp ▸ hs)
      have e : pollS p = (p, 110) := by unfold pollS; rw [if_pos (by omega)]
      rw [e]
      have z : w.cell? ⟨3, 0, none⟩ = some (errP (E 110)) := hS.at_ 110 h110
      have HE := Shut.mk (errV_pos E (c := 110) (by decide))
      show Calls _ _ _ _ fun e w' => e = .returned (errV E 110) ∧ IsCs w' g (updF y k p) ∧ _
      rw [HE.out]
      generalize E 110 = er at *
      clear h h0 h4 h5 h6 hk hs e hp hS hi 
      go_enter Tryd.func17, Tryd.ntmps17
      go_wp2_with (fail)
      refine HT.out.mono ?_
      rintro e w' ⟨rfl, rfl⟩
      go_wp2_with (fail)
      go_ret
      exact ⟨rfl, by rw [HID.out]; exact HX.out, Only.refl _ _⟩
set_option maxRecDepth 100000 in
set_option maxHeartbeats 8000000 in
theorem close_q {S : List Nat} (g : Nat) (y : Nat → Cst) (a : Int) (w : World) (E : Nat → Addr) (hS : Sent w E S) (h107 : 107 ∈ S) (h110 : 110 ∈ S) (h : IsCs w g y) (hi : InvC y) :
    Calls Tryd.prog 23 #[.pointer (some ⟨g, 0, none⟩), .int .i64 a] w fun e w' => e = .returned (errV E (closeQ y a).2) ∧ IsCs w' g (closeQ y a).1 ∧ Only (· = g) w w' := by
  have HX := Shut.mk h
  have z107 : w.cell? ⟨2, 0, none⟩ = some (errP (E 107)) := hS.at_ 107 h107
  have HE107 := Shut.mk (errV_pos E (c := 107) (by decide))
  unfold closeQ
  cases ht : thC y a with
  | false =>
    have HT := Shut.mk (find_no g y a w h ht)
    rw [if_neg (by simp)]
    show Calls _ _ _ _ fun e w' => e = .returned (errV E 107) ∧ IsCs w' g y ∧ _
    rw [HE107.out]
    generalize E 107 = er at *
    clear h ht hS hi HE107
    go_enter Tryd.func23, Tryd.ntmps23
    go_wp2_with (fail)
    refine HT.out.mono ?_
    rintro e w' ⟨rfl, rfl⟩
    go_wp2_with (fail)
    go_ret
    exact ⟨rfl, HX.out, Only.refl _ _⟩
  | true =>
    rw [if_pos rfl]
    obtain ⟨k, rfl, k1, k2⟩ := aidP_nat (thC_aid ht)
    have HT := Shut.mk (find_yes g y k w h ht)
    have h0 := thC_st ht
    rw [Int.toNat_natCast] at h0 ⊢
    have HK := Shut.mk (show k < 17 by omega)
    have hk := HK.out
    have h4 := hi.st k
    have h5 := hi.most k
    have h6 := hi.left k
    obtain ⟨p, hp⟩ : ∃ p, p = y k := ⟨_, rfl⟩
    have HID := Shut.mk (show updF y k p = y by rw [hp]; exact updC_id y k)
    rw [← hp] at h0 h4 h5 h6 ⊢
    clear k1 k2 ht z107 HE107
    rcases four_st h0 h4 with hs | hs | hs | hs
    · have c0 : w.cell? ⟨g, k * 7, none⟩ = some (.int .i64 1) := h.cs hk (hp ▸ hs)
      have e : closeS p = (p, 110) := by unfold closeS; rw [if_neg (by omega)]
      rw [e]
      have z : w.cell? ⟨3, 0, none⟩ = some (errP (E 110)) := hS.at_ 110 h110
      have HE := Shut.mk (errV_pos E (c := 110) (by decide))
      show Calls _ _ _ _ fun e w' => e = .returned (errV E 110) ∧ IsCs w' g (updF y k p) ∧ _
      rw [HE.out]
      generalize E 110 = er at *
      clear h h0 h4 h5 h6 hk hs e hp hS hi 
      go_enter Tryd.func23, Tryd.ntmps23
      go_wp2_with (fail)
      refine HT.out.mono ?_
      rintro e w' ⟨rfl, rfl⟩
      go_wp2_with (fail)
      go_ret
      exact ⟨rfl, by rw [HID.out]; exact HX.out, Only.refl _ _⟩
    · have c0 : w.cell? ⟨g, k * 7, none⟩ = some (.int .i64 2) := h.cs hk (hp ▸ hs)
      have e : closeS p = (p, 110) := by unfold closeS; rw [if_neg (by omega)]
      rw [e]
      have z : w.cell? ⟨3, 0, none⟩ = some (errP (E 110)) := hS.at_ 110 h110
      have HE := Shut.mk (errV_pos E (c := 110) (by decide))
      show Calls _ _ _ _ fun e w' => e = .returned (errV E 110) ∧ IsCs w' g (updF y k p) ∧ _
      rw [HE.out]
      generalize E 110 = er at *
      clear h h0 h4 h5 h6 hk hs e hp hS hi 
      go_enter Tryd.func23, Tryd.ntmps23
      go_wp2_with (fail)
      refine HT.out.mono ?_
      rintro e w' ⟨rfl, rfl⟩
      go_wp2_with (fail)
      go_ret
      exact ⟨rfl, by rw [HID.out]; exact HX.out, Only.refl _ _⟩
    · have c0 : w.cell? ⟨g, k * 7, none⟩ = some (.int .i64 3) := h.cs hk (hp ▸ hs)
      have e : closeS p = (p, 110) := by unfold closeS; rw [if_neg (by omega)]
      rw [e]
      have z : w.cell? ⟨3, 0, none⟩ = some (errP (E 110)) := hS.at_ 110 h110
      have HE := Shut.mk (errV_pos E (c := 110) (by decide))
      show Calls _ _ _ _ fun e w' => e = .returned (errV E 110) ∧ IsCs w' g (updF y k p) ∧ _
      rw [HE.out]
      generalize E 110 = er at *
      clear h h0 h4 h5 h6 hk hs e hp hS hi 
      go_enter Tryd.func23, Tryd.ntmps23
      go_wp2_with (fail)
      refine HT.out.mono ?_
      rintro e w' ⟨rfl, rfl⟩
      go_wp2_with (fail)
      go_ret
      exact ⟨rfl, by rw [HID.out]; exact HX.out, Only.refl _ _⟩
    · have c0 : w.cell? ⟨g, k * 7, none⟩ = some (.int .i64 4) := h.cs hk (hp ▸ hs)
      have e : closeS p = ({ p with st := 2 }, 0) := by unfold closeS; rw [if_pos hs]
      rw [e]
      have HS := Shut.mk (show cstC { p with st := 2 } = (cstC (y k)).set 0 (.int .i64 2) by rw [← hp]; rfl)
      show Calls _ _ _ _ fun e w' => e = .returned .nilIface ∧ IsCs w' g (updF y k { p with st := 2 }) ∧ _
      clear h h0 h4 h5 h6 hk hs e hp hS hi 
      go_enter Tryd.func23, Tryd.ntmps23
      go_wp2_with (fail)
      refine HT.out.mono ?_
      rintro e w' ⟨rfl, rfl⟩
      go_wp2_with (first
        | (refine wpList_store_into rfl 25 (.tmp 22) (.const (.int .i64 2)) rfl g (k * 7) (.int .i64 2) rfl rfl rfl 31 (blkC y) (blkC (updF y k ({ p with st := 2 }))) HX.out sizeStt (cs_lt0 _ HK.out) (cs_set0 _ HK.out HS.out) ?_
           have HA1 := Shut.mk (HX.out.put (updF y k ({ p with st := 2 })))
           have HO1 := Shut.mk (only_setRow w g (blkC (updF y k ({ p with st := 2 }))))
           generalize World.setRow w g (blkC (updF y k ({ p with st := 2 }))) = wn1 at *))
      go_ret
      exact ⟨rfl, HA1.out, HO1.out⟩
set_option maxRecDepth 100000 in
set_option maxHeartbeats 8000000 in
theorem doze_q {S : List Nat} (g : Nat) (y : Nat → Cst) (a : Int) (on : Bool) (w : World) (E : Nat → Addr) (hS : Sent w E S) (h107 : 107 ∈ S) (h : IsCs w g y) (hi : InvC y) :
    Calls Tryd.prog 15 #[.pointer (some ⟨g, 0, none⟩), .int .i64 a, .bool on] w fun e w' => e = .returned (errV E (dozeQ y a on).2) ∧ IsCs w' g (dozeQ y a on).1 ∧ Only (· = g) w w' := by
  have HX := Shut.mk h
  have z107 : w.cell? ⟨2, 0, none⟩ = some (errP (E 107)) := hS.at_ 107 h107
  have HE107 := Shut.mk (errV_pos E (c := 107) (by decide))
  unfold dozeQ
  cases ht : thC y a with
  | false =>
    have HT := Shut.mk (find_no g y a w h ht)
    rw [if_neg (by simp)]
    show Calls _ _ _ _ fun e w' => e = .returned (errV E 107) ∧ IsCs w' g y ∧ _
    rw [HE107.out]
    generalize E 107 = er at *
    clear h ht hS hi HE107
    go_enter Tryd.func15, Tryd.ntmps15
    go_wp2_with (fail)
    refine HT.out.mono ?_
    rintro e w' ⟨rfl, rfl⟩
    go_wp2_with (fail)
    go_ret
    exact ⟨rfl, HX.out, Only.refl _ _⟩
  | true =>
    rw [if_pos rfl]
    obtain ⟨k, rfl, k1, k2⟩ := aidP_nat (thC_aid ht)
    have HT := Shut.mk (find_yes g y k w h ht)
    have h0 := thC_st ht
    rw [Int.toNat_natCast] at h0 ⊢
    have HK := Shut.mk (show k < 17 by omega)
    have hk := HK.out
    have h4 := hi.st k
    have h5 := hi.most k
    have h6 := hi.left k
    obtain ⟨p, hp⟩ : ∃ p, p = y k := ⟨_, rfl⟩
    have HID := Shut.mk (show updF y k p = y by rw [hp]; exact updC_id y k)
    rw [← hp] at h0 h4 h5 h6 ⊢
    clear k1 k2 ht z107 HE107
    rcases four_st h0 h4 with hs | hs | hs | hs
    · have c0 : w.cell? ⟨g, k * 7, none⟩ = some (.int .i64 1) := h.cs hk (hp ▸ hs)
      cases on with
      | false =>
        have e : dozeS p false = { p with st := 1 } := rfl
        rw [e]
        have HS := Shut.mk (show cstC { p with st := 1 } = (cstC (y k)).set 0 (.int .i64 1) by rw [← hp]; rfl)
        show Calls _ _ _ _ fun e w' => e = .returned .nilIface ∧ IsCs w' g (updF y k { p with st := 1 }) ∧ _
        clear h h0 h4 h5 h6 hk hs e hp hS hi 
        go_enter Tryd.func15, Tryd.ntmps15
        go_wp2_with (fail)
        refine HT.out.mono ?_
        rintro e w' ⟨rfl, rfl⟩
        go_wp2_with (first
          | (refine wpList_store_into rfl 25 (.tmp 20) (.const (.int .i64 1)) rfl g (k * 7) (.int .i64 1) rfl rfl rfl 31 (blkC y) (blkC (updF y k ({ p with st := 1 }))) HX.out sizeStt (cs_lt0 _ HK.out) (cs_set0 _ HK.out HS.out) ?_
             have HA1 := Shut.mk (HX.out.put (updF y k ({ p with st := 1 })))
             have HO1 := Shut.mk (only_setRow w g (blkC (updF y k ({ p with st := 1 }))))
             generalize World.setRow w g (blkC (updF y k ({ p with st := 1 }))) = wn1 at *))
        go_ret
        exact ⟨rfl, HA1.out, HO1.out⟩
      | true =>
        have e : dozeS p true = { p with st := 2 } := by unfold dozeS; rw [if_neg (by simp), if_pos hs]
        rw [e]
        have HS := Shut.mk (show cstC { p with st := 2 } = (cstC (y k)).set 0 (.int .i64 2) by rw [← hp]; rfl)
        show Calls _ _ _ _ fun e w' => e = .returned .nilIface ∧ IsCs w' g (updF y k { p with st := 2 }) ∧ _
        clear h h0 h4 h5 h6 hk hs e hp hS hi 
        go_enter Tryd.func15, Tryd.ntmps15
        go_wp2_with (fail)
        refine HT.out.mono ?_
        rintro e w' ⟨rfl, rfl⟩
        go_wp2_with (first
          | (refine wpList_store_into rfl 25 (.tmp 29) (.const (.int .i64 2)) rfl g (k * 7) (.int .i64 2) rfl rfl rfl 31 (blkC y) (blkC (updF y k ({ p with st := 2 }))) HX.out sizeStt (cs_lt0 _ HK.out) (cs_set0 _ HK.out HS.out) ?_
             have HA1 := Shut.mk (HX.out.put (updF y k ({ p with st := 2 })))
             have HO1 := Shut.mk (only_setRow w g (blkC (updF y k ({ p with st := 2 }))))
             generalize World.setRow w g (blkC (updF y k ({ p with st := 2 }))) = wn1 at *))
        go_ret
        exact ⟨rfl, HA1.out, HO1.out⟩
    · have c0 : w.cell? ⟨g, k * 7, none⟩ = some (.int .i64 2) := h.cs hk (hp ▸ hs)
      cases on with
      | false =>
        have e : dozeS p false = { p with st := 1 } := rfl
        rw [e]
        have HS := Shut.mk (show cstC { p with st := 1 } = (cstC (y k)).set 0 (.int .i64 1) by rw [← hp]; rfl)
        show Calls _ _ _ _ fun e w' => e = .returned .nilIface ∧ IsCs w' g (updF y k { p with st := 1 }) ∧ _
        clear h h0 h4 h5 h6 hk hs e hp hS hi 
        go_enter Tryd.func15, Tryd.ntmps15
        go_wp2_with (fail)
        refine HT.out.mono ?_
        rintro e w' ⟨rfl, rfl⟩
        go_wp2_with (first
          | (refine wpList_store_into rfl 25 (.tmp 20) (.const (.int .i64 1)) rfl g (k * 7) (.int .i64 1) rfl rfl rfl 31 (blkC y) (blkC (updF y k ({ p with st := 1 }))) HX.out sizeStt (cs_lt0 _ HK.out) (cs_set0 _ HK.out HS.out) ?_
             have HA1 := Shut.mk (HX.out.put (updF y k ({ p with st := 1 })))
             have HO1 := Shut.mk (only_setRow w g (blkC (updF y k ({ p with st := 1 }))))
             generalize World.setRow w g (blkC (updF y k ({ p with st := 1 }))) = wn1 at *))
        go_ret
        exact ⟨rfl, HA1.out, HO1.out⟩
      | true =>
        have e : dozeS p true = p := by unfold dozeS; rw [if_neg (by simp), if_neg (by omega)]
        rw [e]
        show Calls _ _ _ _ fun e w' => e = .returned .nilIface ∧ IsCs w' g (updF y k p) ∧ _
        clear h h0 h4 h5 h6 hk hs e hp hS hi
        go_enter Tryd.func15, Tryd.ntmps15
        go_wp2_with (fail)
        refine HT.out.mono ?_
        rintro e w' ⟨rfl, rfl⟩
        go_wp2_with (fail)
        go_ret
        exact ⟨rfl, by rw [HID.out]; exact HX.out, Only.refl _ _⟩
    · have c0 : w.cell? ⟨g, k * 7, none⟩ = some (.int .i64 3) := h.cs hk (hp ▸ hs)
      cases on with
      | false =>
        have e : dozeS p false = { p with st := 1 } := rfl
        rw [e]
        have HS := Shut.mk (show cstC { p with st := 1 } = (cstC (y k)).set 0 (.int .i64 1) by rw [← hp]; rfl)
        show Calls _ _ _ _ fun e w' => e = .returned .nilIface ∧ IsCs w' g (updF y k { p with st := 1 }) ∧ _
        clear h h0 h4 h5 h6 hk hs e hp hS hi 
        go_enter Tryd.func15, Tryd.ntmps15
        go_wp2_with (fail)
        refine HT.out.mono ?_
        rintro e w' ⟨rfl, rfl⟩
        go_wp2_with (first
          | (refine wpList_store_into rfl 25 (.tmp 20) (.const (.int .i64 1)) rfl g (k * 7) (.int .i64 1) rfl rfl rfl 31 (blkC y) (blkC (updF y k ({ p with st := 1 }))) HX.out sizeStt (cs_lt0 _ HK.out) (cs_set0 _ HK.out HS.out) ?_
             have HA1 := Shut.mk (HX.out.put (updF y k ({ p with st := 1 })))
             have HO1 := Shut.mk (only_setRow w g (blkC (updF y k ({ p with st := 1 }))))
             generalize World.setRow w g (blkC (updF y k ({ p with st := 1 }))) = wn1 at *))
        go_ret
        exact ⟨rfl, HA1.out, HO1.out⟩
      | true =>
        have e : dozeS p true = p := by unfold dozeS; rw [if_neg (by simp), if_neg (by omega)]
        rw [e]
        show Calls _ _ _ _ fun e w' => e = .returned .nilIface ∧ IsCs w' g (updF y k p) ∧ _
        clear h h0 h4 h5 h6 hk hs e hp hS hi
        go_enter Tryd.func15, Tryd.ntmps15
        go_wp2_with (fail)
        refine HT.out.mono ?_
        rintro e w' ⟨rfl, rfl⟩
        go_wp2_with (fail)
        go_ret
        exact ⟨rfl, by rw [HID.out]; exact HX.out, Only.refl _ _⟩
    · have c0 : w.cell? ⟨g, k * 7, none⟩ = some (.int .i64 4) := h.cs hk (hp ▸ hs)
      cases on with
      | false =>
        have e : dozeS p false = { p with st := 1 } := rfl
        rw [e]
        have HS := Shut.mk (show cstC { p with st := 1 } = (cstC (y k)).set 0 (.int .i64 1) by rw [← hp]; rfl)
        show Calls _ _ _ _ fun e w' => e = .returned .nilIface ∧ IsCs w' g (updF y k { p with st := 1 }) ∧ _
        clear h h0 h4 h5 h6 hk hs e hp hS hi 
        go_enter Tryd.func15, Tryd.ntmps15
        go_wp2_with (fail)
        refine HT.out.mono ?_
        rintro e w' ⟨rfl, rfl⟩
        go_wp2_with (first
          | (refine wpList_store_into rfl 25 (.tmp 20) (.const (.int .i64 1)) rfl g (k * 7) (.int .i64 1) rfl rfl rfl 31 (blkC y) (blkC (updF y k ({ p with st := 1 }))) HX.out sizeStt (cs_lt0 _ HK.out) (cs_set0 _ HK.out HS.out) ?_
             have HA1 := Shut.mk (HX.out.put (updF y k ({ p with st := 1 })))
             have HO1 := Shut.mk (only_setRow w g (blkC (updF y k ({ p with st := 1 }))))
             generalize World.setRow w g (blkC (updF y k ({ p with st := 1 }))) = wn1 at *))
        go_ret
        exact ⟨rfl, HA1.out, HO1.out⟩
      | true =>
        have e : dozeS p true = p := by unfold dozeS; rw [if_neg (by simp), if_neg (by omega)]
        rw [e]
        show Calls _ _ _ _ fun e w' => e = .returned .nilIface ∧ IsCs w' g (updF y k p) ∧ _
        clear h h0 h4 h5 h6 hk hs e hp hS hi
        go_enter Tryd.func15, Tryd.ntmps15
        go_wp2_with (fail)
        refine HT.out.mono ?_
        rintro e w' ⟨rfl, rfl⟩
        go_wp2_with (fail)
        go_ret
        exact ⟨rfl, by rw [HID.out]; exact HX.out, Only.refl _ _⟩
/-! ### Asleep, Polled -/
def aslQ (y : Nat → Cst) (a : Int) : Bool := thC y a && decide ((y a.toNat).st ≠ 1)
def askQ (y : Nat → Cst) (a : Int) : Bool := thC y a && decide ((y a.toNat).st = 3)
set_option maxRecDepth 100000 in
set_option maxHeartbeats 8000000 in
theorem asl_q (g : Nat) (y : Nat → Cst) (a : Int) (w : World) (h : IsCs w g y) (hi : InvC y) : Calls Tryd.prog 9 #[.pointer (some ⟨g, 0, none⟩), .int .i64 a] w fun e w' => e = .returned (.bool (aslQ y a)) ∧ w = w' := by
  cases ht : thC y a with
  | false =>
    have HT := Shut.mk (find_no g y a w h ht)
    have H := Shut.mk (show aslQ y a = false by unfold aslQ; rw [ht]; rfl)
    rw [H.out]
    clear h ht hi H
    go_enter Tryd.func9, Tryd.ntmps9
    go_wp2_with (fail)
    refine HT.out.mono ?_
    rintro e w' ⟨rfl, rfl⟩
    go_wp2_with (fail)
    go_ret
    exact ⟨rfl, rfl⟩
  | true =>
    obtain ⟨k, rfl, k1, k2⟩ := aidP_nat (thC_aid ht)
    have HT := Shut.mk (find_yes g y k w h ht)
    have h0 := thC_st ht
    rw [Int.toNat_natCast] at h0
    have hk : k < 17 := by omega
    have h4 := hi.st k
    obtain ⟨p, hp⟩ : ∃ p, p = y k := ⟨_, rfl⟩
    rw [← hp] at h0 h4
    clear k1 k2
    rcases four_st h0 h4 with hs | hs | hs | hs
    · have c0 : w.cell? ⟨g, k * 7, none⟩ = some (.int .i64 1) := h.cs hk (hp ▸ hs)
      have H := Shut.mk (show aslQ y (k : Int) = false by unfold aslQ; rw [ht, Int.toNat_natCast, ← hp]; simp [hs])
      rw [H.out]
      clear h h0 h4 hk hs hp ht hi H
      go_enter Tryd.func9, Tryd.ntmps9
      go_wp2_with (fail)
      refine HT.out.mono ?_
      rintro e w' ⟨rfl, rfl⟩
      go_wp2_with (fail)
      go_ret
      exact ⟨rfl, rfl⟩
    · have c0 : w.cell? ⟨g, k * 7, none⟩ = some (.int .i64 2) := h.cs hk (hp ▸ hs)
      have H := Shut.mk (show aslQ y (k : Int) = true by unfold aslQ; rw [ht, Int.toNat_natCast, ← hp]; simp [hs])
      rw [H.out]
      clear h h0 h4 hk hs hp ht hi H
      go_enter Tryd.func9, Tryd.ntmps9
      go_wp2_with (fail)
      refine HT.out.mono ?_
      rintro e w' ⟨rfl, rfl⟩
      go_wp2_with (fail)
      go_ret
      exact ⟨rfl, rfl⟩
    · have c0 : w.cell? ⟨g, k * 7, none⟩ = some (.int .i64 3) := h.cs hk (hp ▸ hs)
      have H := Shut.mk (show aslQ y (k : Int) = true by unfold aslQ; rw [ht, Int.toNat_natCast, ← hp]; simp [hs])
      rw [H.out]
      clear h h0 h4 hk hs hp ht hi H
      go_enter Tryd.func9, Tryd.ntmps9
      go_wp2_with (fail)
      refine HT.out.mono ?_
      rintro e w' ⟨rfl, rfl⟩
      go_wp2_with (fail)
      go_ret
      exact ⟨rfl, rfl⟩
    · have c0 : w.cell? ⟨g, k * 7, none⟩ = some (.int .i64 4) := h.cs hk (hp ▸ hs)
      have H := Shut.mk (show aslQ y (k : Int) = true by unfold aslQ; rw [ht, Int.toNat_natCast, ← hp]; simp [hs])
      rw [H.out]
      clear h h0 h4 hk hs hp ht hi H
      go_enter Tryd.func9, Tryd.ntmps9
      go_wp2_with (fail)
      refine HT.out.mono ?_
      rintro e w' ⟨rfl, rfl⟩
      go_wp2_with (fail)
      go_ret
      exact ⟨rfl, rfl⟩
set_option maxRecDepth 100000 in
set_option maxHeartbeats 8000000 in
theorem ask_q (g : Nat) (y : Nat → Cst) (a : Int) (w : World) (h : IsCs w g y) (hi : InvC y) : Calls Tryd.prog 26 #[.pointer (some ⟨g, 0, none⟩), .int .i64 a] w fun e w' => e = .returned (.bool (askQ y a)) ∧ w = w' := by
  cases ht : thC y a with
  | false =>
    have HT := Shut.mk (find_no g y a w h ht)
    have H := Shut.mk (show askQ y a = false by unfold askQ; rw [ht]; rfl)
    rw [H.out]
    clear h ht hi H
    go_enter Tryd.func26, Tryd.ntmps26
    go_wp2_with (fail)
    refine HT.out.mono ?_
    rintro e w' ⟨rfl, rfl⟩
    go_wp2_with (fail)
    go_ret
    exact ⟨rfl, rfl⟩
  | true =>
    obtain ⟨k, rfl, k1, k2⟩ := aidP_nat (thC_aid ht)
    have HT := Shut.mk (find_yes g y k w h ht)
    have h0 := thC_st ht
    rw [Int.toNat_natCast] at h0
    have hk : k < 17 := by omega
    have h4 := hi.st k
    obtain ⟨p, hp⟩ : ∃ p, p = y k := ⟨_, rfl⟩
    rw [← hp] at h0 h4
    clear k1 k2
    rcases four_st h0 h4 with hs | hs | hs | hs
    · have c0 : w.cell? ⟨g, k * 7, none⟩ = some (.int .i64 1) := h.cs hk (hp ▸ hs)
      have H := Shut.mk (show askQ y (k : Int) = false by unfold askQ; rw [ht, Int.toNat_natCast, ← hp]; simp [hs])
      rw [H.out]
      clear h h0 h4 hk hs hp ht hi H
      go_enter Tryd.func26, Tryd.ntmps26
      go_wp2_with (fail)
      refine HT.out.mono ?_
      rintro e w' ⟨rfl, rfl⟩
      go_wp2_with (fail)
      go_ret
      exact ⟨rfl, rfl⟩
    · have c0 : w.cell? ⟨g, k * 7, none⟩ = some (.int .i64 2) := h.cs hk (hp ▸ hs)
      have H := Shut.mk (show askQ y (k : Int) = false by unfold askQ; rw [ht, Int.toNat_natCast, ← hp]; simp [hs])
      rw [H.out]
      clear h h0 h4 hk hs hp ht hi H
      go_enter Tryd.func26, Tryd.ntmps26
      go_wp2_with (fail)
      refine HT.out.mono ?_
      rintro e w' ⟨rfl, rfl⟩
      go_wp2_with (fail)
      go_ret
      exact ⟨rfl, rfl⟩
    · have c0 : w.cell? ⟨g, k * 7, none⟩ = some (.int .i64 3) := h.cs hk (hp ▸ hs)
      have H := Shut.mk (show askQ y (k : Int) = true by unfold askQ; rw [ht, Int.toNat_natCast, ← hp]; simp [hs])
      rw [H.out]
      clear h h0 h4 hk hs hp ht hi H
      go_enter Tryd.func26, Tryd.ntmps26
      go_wp2_with (fail)
      refine HT.out.mono ?_
      rintro e w' ⟨rfl, rfl⟩
      go_wp2_with (fail)
      go_ret
      exact ⟨rfl, rfl⟩
    · have c0 : w.cell? ⟨g, k * 7, none⟩ = some (.int .i64 4) := h.cs hk (hp ▸ hs)
      have H := Shut.mk (show askQ y (k : Int) = false by unfold askQ; rw [ht, Int.toNat_natCast, ← hp]; simp [hs])
      rw [H.out]
      clear h h0 h4 hk hs hp ht hi H
      go_enter Tryd.func26, Tryd.ntmps26
      go_wp2_with (fail)
      refine HT.out.mono ?_
      rintro e w' ⟨rfl, rfl⟩
      go_wp2_with (fail)
      go_ret
      exact ⟨rfl, rfl⟩
end Go.Proofs.YtaiegmnjoffloaaDoor
