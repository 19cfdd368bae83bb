/-
  CONTRACTS of package crc's Seal and Fits (over Base).
-/
import Derived.Test.YtejdmpdbapfomaaDoorBase
import Derived.Test.YtejdmpdbapfomaaDoorCrcC
namespace Go.Proofs.YtejdmpdbapfomaaDoor
open Go.ChangeShapes Go.WideShapes Go.ChangeAt Go.RowKit
set_option linter.unusedVariables false

theorem sum_range (xs : List Int) : 0 ≤ sum xs ∧ sum xs ≤ 255 := by
  unfold sum
  have := (~~~ reg xs).reverse.isLt
  omega

theorem byte_size : (Tryd.prog.info? 5).map (·.size) = some 1 := by kernel_rfl
theorem set_last (xs : List Int) (v : Int) : (xs ++ [0]).set xs.length v = xs ++ [v] := by simp

/-- what a copy reads. -/
def Src (w : World) (A : Option Addr) (cs : List Value) : Prop := 0 < cs.length → ∃ ad, A = some ad ∧ ∀ j v, cs[j]? = some v → w.cell? (ad.add j) = some v
theorem RowB.srcS {k w A n xs} (h : RowB k w A n xs) : Src w A (xs.map (Value.int k)) := fun hp => by
  have hl := h.len
  rw [List.length_map, hl] at hp
  obtain ⟨b, off, e, hc⟩ := h.cells hp
  refine ⟨_, e, fun j v hv => ?_⟩
  have hj : j < n := by
    have := (List.getElem?_eq_some_iff.1 hv).1
    rw [List.length_map, hl] at this
    exact this
  have h2 := hc j hj
  rw [List.getElem?_map] at hv
  have hx : xs[j]? = some (xs.getD j 0) := by simp [List.getD, show j < xs.length by rw [hl]; exact hj]
  rw [hx] at hv
  simp at hv
  subst hv
  by_cases h0 : j = 0
  · subst h0; simpa [Addr.add] using h2
  · simpa [Addr.add, h0] using h2

/-- copy of a whole row into the head of a row of the call's own. -/
theorem copy_run {w : World} {g m cap n c : Nat} {A : Option Addr} {xs ys : List Int} {ty : TypeId} (hO : w.heap[g]? = some (.cells (ys.map (Value.int .u8)).toArray 5 (0, 0))) (hl : ys.length = m) (hS : RowB .u8 w A n xs) (hn : n ≤ m) :
    ∃ w', (Builtin.copy_ #[23, 23] ty #[.slice (some ⟨g, 0, none⟩) m cap, .slice A n c]).run Tryd.prog w = .ok (.int .i64 n) w' ∧ Hid (w'.heap[g]? = some (.cells ((xs ++ ys.drop n).map (Value.int .u8)).toArray 5 (0, 0))) ∧ Below g w w' := by
  have hlx := hS.len
  rcases Nat.eq_zero_or_pos n with h0 | hp
  · subst h0
    have hx : xs = [] := List.eq_nil_of_length_eq_zero hlx
    subst hx
    exact ⟨w, run_copy_none w _ _ _ 5 _ _ _ _ _ _ Tryd.underlying23 byte_size (by simp), by simpa [Hid] using hO, Below.refl _ _⟩
  · obtain ⟨ad, rfl, hc⟩ := hS.srcS (by rw [List.length_map, hlx]; exact hp)
    have hr := run_copy_row (P := Tryd.prog) w 23 23 ty 5 g 0 m cap ad n c _ 5 (xs.map (Value.int .u8)) Tryd.underlying23 byte_size hO (by rw [List.length_map, hlx]; exact (Nat.min_eq_left hn).symm) hc (by simp [hl, hlx]; omega) (ints_oneCell _ _)
    rw [show goInt (xs.map (Value.int .u8)).length = .int .i64 n by simp [goInt, hlx]] at hr
    refine ⟨_, hr, ?_, ⟨rfl, rfl, rfl, by simp, fun k hk => setRow_other w g k _ (by omega)⟩⟩
    refine Lib.hid ((setRow_heap w g _ _ 5 _ hO).trans ?_)
    simp [hlx]

set_option maxRecDepth 100000 in
set_option maxHeartbeats 4000000 in
theorem seal_any (A : Option Addr) (n c : Nat) (xs : List Int) (w : World) (h : RowB .u8 w A n xs) (hn : n ≤ 1000000000) :
    Calls Tryd.prog 38 #[.slice A n c] w fun e w' => e = .returned (.slice (some ⟨w.heap.size, 0, none⟩) (n + 1) (n + 1)) ∧ OwnB w' w.heap.size 5 .u8 w.heap.size (n + 1) (n + 1) (xs ++ [sum xs]) ∧ Below w.heap.size w w' := by
  obtain ⟨i0, hi0, hz0, hz1, hz2⟩ := info_parts byte_info
  have HR := Lib.hid h
  clear h
  go_enter Tryd.func38, Tryd.ntmps38
  go_wp2_with (at_make; refine wpList_make_full _ rfl _ _ 23 rfl w.heap.size 5 i0 (.int .u8 0) 1 Tryd.underlying23 hi0 hz0 hz1 _ _ _ _ (n + 1) rfl rfl (by omega) (by omega) (by rw [hz2]; omega) (by unfold maxLen; omega) (Nat.le_refl _) ?_; intro w1 hown1 hgrow1)
  rw [zeros] at hown1
  have HO := Lib.hid (OwnB.whole (k := .u8) hown1)
  have HB := Lib.hid ((Below.refl w.heap.size w).grown hgrow1 (Nat.le_refl _) (by simp))
  clear hown1 hgrow1
  obtain ⟨w2, hcp, hg2, hb2⟩ := copy_run (cap := n + 1) (c := c) (ty := 3) HO.out (List.length_replicate ..) (HR.out.below HB.out) (by omega)
  rw [hcp]
  clear hcp
  have HB2 := Lib.hid (HB.out.trans hb2)
  have HR2 := Lib.hid (HR.out.below HB2.out)
  have HL := Lib.hid HR.out.len
  have HO2 := Lib.hid (show OwnB w2 w.heap.size 5 .u8 w.heap.size (n + 1) (n + 1) (xs ++ (List.replicate (n + 1) (0 : Int)).drop n) from OwnB.of_whole hg2.out (Nat.le_refl _) (by simp [HL.out]) (by unfold maxLen; omega))
  rw [show (List.replicate (n + 1) (0 : Int)).drop n = [0] by simp] at HO2
  have hc2 := HO2.out.cell n (by omega)
  have hf2 := HO2.out.frozen n
  rw [show List.getD (xs ++ [0]) n 0 = (0 : Int) by rw [← HL.out]; simp [List.getD]] at hc2
  have hs2 := HO2.out.set n (sum xs)
  rw [show List.set (xs ++ [0]) n (sum xs) = xs ++ [sum xs] by rw [← HL.out]; exact set_last _ _] at hs2
  have HS2 := Lib.hid hs2
  clear hs2 hb2 hg2 HO HB
  go_wp2_with (go_at_call 42; refine (sum_any _ _ _ _ _ HR2.out).mono ?_; rintro e w' ⟨rfl, rfl⟩)
  go_ret
  exact ⟨rfl, HS2.out, HB2.out.setCell (Nat.le_refl _) _⟩

theorem quiet_eq {P : Program} {f : FuncId} {args : Array Value} {w : World} {n : Nat} {v : Value}
    (h : Calls P f args (w.drewN n) fun e w' => e = .returned v ∧ w.drewN n = w') : Calls P f args (w.drewN n) fun e w'' => e = .returned v ∧ ∃ m, w'' = w.drewN m :=
  h.mono fun _ _ ⟨he, hm⟩ => ⟨he, n, hm.symm⟩

def fitsB (xs : List Int) : Bool := xs.getD (xs.length - 1) 0 == sum (xs.take (xs.length - 1)) && decide (0 < xs.length)


set_option maxRecDepth 100000 in
set_option maxHeartbeats 4000000 in
theorem fits_any (A : Option Addr) (n c : Nat) (xs : List Int) (w : World) (h : RowB .u8 w A n xs) (hn : n ≤ c) :
    Calls Tryd.prog 39 #[.slice A n c] w fun e w' => e = .returned (.bool (fitsB xs)) ∧ ∃ m, w' = w.drewN m := by
  have hle := h.le
  unfold maxLen at hle
  rcases Nat.eq_zero_or_pos n with h0 | hp
  · subst h0
    have hx : xs = [] := List.eq_nil_of_length_eq_zero h.len
    subst hx
    clear h
    have hd : decide ((0 : Int) ≤ -1) = false := by decide
    go_enter Tryd.func39, Tryd.ntmps39
    go_wp2
    go_quiet (fail)
    go_wp2
    go_ret
    exact ⟨rfl, _, rfl⟩
  · obtain ⟨b, off, rfl, hc⟩ := h.el (n - 1) (by omega)
    have HE := Lib.hid (show (xs.getD (n - 1) 0 == sum (xs.take (n - 1))) = fitsB xs by unfold fitsB; rw [h.len]; simp [hp])
    have HF := Lib.hid (h.first (n - 1) (by omega))
    clear h
    have h1 : (0 : Int) ≤ (n : Int) - 1 := by omega
    have h2 : (n : Int) - 1 < (n : Int) := by omega
    have h3 : ((n : Int) - 1).toNat = n - 1 := by omega
    have h4 : (n : Int) - 1 ≤ (c : Int) := by omega
    have hd : decide ((0 : Int) ≤ (n : Int) - 1) = true := by simpa using h1
    have hd1 : decide ((1 : Int) ≤ (n : Int)) = true := by simp; omega
    have HQ := Lib.hid (fun m => quiet_eq (sum_any (some ⟨b, off, none⟩) (n - 1) c _ (w.drewN m) (HF.out.drewN m)))
    clear HF
    generalize xs.getD (n - 1) 0 = v at *
    generalize sum (xs.take (n - 1)) = s at *
    go_enter Tryd.func39, Tryd.ntmps39
    go_wp2
    go_quiet ((go_at_call 42; exact HQ.out _))
    go_wp2
    go_ret
    exact ⟨ret_bool HE.out, _, rfl⟩
end Go.Proofs.YtejdmpdbapfomaaDoor
