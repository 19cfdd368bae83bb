/-
  CONTRACTS of the reference's Power (chapter 21): all stations' sleep in one block.
-/
import Derived.Test.YtaiegmnjoffloaaDoorPsN
import Derived.Test.YtaiegmnjoffloaaDoorArrF
import Derived.Test.YtaiegmnjoffloaaDoorRowN
import Derived.Test.YtaiegmnjoffloaaDoorShutA
import Derived.Test.YtaiegmnjoffloaaDoorTkH
import Derived.Test.YtaiegmnjoffloaaDoorTkD
import Derived.Test.YtaiegmnjoffloaaDoorHeldD
import Derived.Test.YtaiegmnjoffloaaDoorPlainB
import Derived.Test.YtaiegmnjoffloaaDoorNum
import Derived.StillTailTactics
import Derived.LoopTactic
namespace Go.Proofs.YtaiegmnjoffloaaDoor
open Go.ChangeShapes Go.WideShapes Go.ChangeAt Go.RowKit Go.Deep
set_option linter.unusedVariables false
set_option linter.unusedSimpArgs false

def napC (p : Nap) : List Value := [.bool p.there, .bool p.asleep, .bool p.asked, .bool p.opn, .bool (p.u 0), .bool (p.u 1), .bool (p.u 2), .bool (p.u 3), .int .i64 (p.most : Nat), .int .i64 (p.left : Nat)]
theorem napC_len (p : Nap) : (napC p).length = 10 := rfl
theorem napC_one (p : Nap) : ∀ v ∈ napC p, v.oneCell' = true := by intro v hv; unfold napC at hv; simp only [List.mem_cons, List.not_mem_nil, or_false] at hv; rcases hv with rfl | rfl | rfl | rfl | rfl | rfl | rfl | rfl | rfl | rfl <;> rfl
theorem napC_u (p : Nap) {c : Nat} (hc : c < 4) : (napC p)[4 + c]? = some (.bool (p.u c)) := by
  match c, hc with
  | 0, _ | 1, _ | 2, _ | 3, _ => rfl
  | n + 4, h => exact absurd h (by omega)
def blkP (x : Nat → Nap) : Array Value := ([] ++ arrF napC 17 x ++ []).toArray
def IsRp (w : World) (g : Nat) (x : Nat → Nap) : Prop := w.heap[g]? = some (.cells (blkP x) 37 (0, 0))
theorem sizeNap : (Tryd.prog.info? 34).map (·.size) = some 10 := by kernel_rfl
theorem sizeBo : (Tryd.prog.info? 4).map (·.size) = some 1 := by kernel_rfl
section
variable {w w' : World} {g k : Nat} {x y : Nat → Nap}
theorem IsRp.below (h : IsRp w g x) (hb : Below w.heap.size w w') : IsRp w' g x := (hb.block g (lt_blk h)).trans h
theorem IsRp.only {S : Nat → Prop} (h : IsRp w g x) (ho : Only S w w') (hn : ¬ S g) : IsRp w' g x := ho.at_ h hn
theorem IsRp.c (h : IsRp w g x) (hk : k < 17) {j : Nat} {v : Value} (hv : (napC (x k))[j]? = some v) : w.cell? ⟨g, k * 10 + j, none⟩ = some v := by
  have e := arr_cell napC_len h hk hv
  simpa using e
theorem IsRp.c0 (h : IsRp w g x) (hk : k < 17) : w.cell? ⟨g, k * 10, none⟩ = some (.bool (x k).there) := h.c hk (j := 0) rfl
theorem IsRp.cu (h : IsRp w g x) (hk : k < 17) {c : Nat} (hc : c < 4) : w.cell? ⟨g, k * 10 + 4 + c, none⟩ = some (.bool ((x k).u c)) := by
  rw [Nat.add_assoc]
  exact h.c hk (napC_u _ hc)
theorem blk_set (x : Nat → Nap) (hk : k < 17) {j : Nat} (hj : j < 10) {u : Nap} {v : Value} (hu : napC u = (napC (x k)).set j v) : (blkP x).setIfInBounds (k * 10 + j) v = blkP (updF x k u) := by
  have e := arr_set napC_len x [] [] hk hj hu
  simpa [blkP] using e
theorem blk_lt (x : Nat → Nap) (hk : k < 17) {j : Nat} (hj : j < 10) : k * 10 + j < (blkP x).size := by
  have e := arr_lt napC_len x [] [] hk hj
  simpa [blkP] using e
theorem IsRp.put (h : IsRp w g x) (y : Nat → Nap) : IsRp (w.setRow g (blkP y)) g y := setRow_heap w g _ _ _ (0, 0) h
theorem updF_id (x : Nat → Nap) (k : Nat) : updF x k (x k) = x := by
  funext j
  unfold updF
  split
  · rename_i e; rw [e]
  · rfl
theorem updF_two (x : Nat → Nap) (k : Nat) (p q : Nap) : updF (updF x k p) k q = updF x k q := by
  funext j
  unfold updF
  split <;> rfl
theorem th_aid {a : Int} (h : thP x a = true) : aidP a = true := by unfold thP at h; simp only [Bool.and_eq_true] at h; exact h.1
end
/-! ### aid, there, category -/
set_option maxRecDepth 100000 in
set_option maxHeartbeats 8000000 in
theorem raid_any (n : Int) (w : World) : Calls Tryd.prog 34 #[.int .i64 n] w fun e w' => e = .returned (.bool (aidP n)) ∧ w = w' := by
  by_cases h1 : 1 ≤ n
  · have H := Shut.mk (show aidP n = decide (n ≤ 16) by unfold aidP; simp [h1])
    go_enter Tryd.func34, Tryd.ntmps34
    go_wp2
    go_ret
    exact ⟨ret_b H.out, rfl⟩
  · have H := Shut.mk (show aidP n = false by unfold aidP; simp; omega)
    have h2 : n < 1 := by omega
    go_enter Tryd.func34, Tryd.ntmps34
    go_wp2
    go_ret
    exact ⟨ret_b H.out, rfl⟩
set_option maxRecDepth 100000 in
set_option maxHeartbeats 8000000 in
theorem rcat_any (n : Int) (w : World) : Calls Tryd.prog 37 #[.int .i64 n] w fun e w' => e = .returned (.bool (acP n)) ∧ w = w' := by
  by_cases h1 : 0 ≤ n
  · have H := Shut.mk (show acP n = decide (n < 4) by unfold acP; simp [h1])
    go_enter Tryd.func37, Tryd.ntmps37
    go_wp2
    go_ret
    exact ⟨ret_b H.out, rfl⟩
  · have H := Shut.mk (show acP n = false by unfold acP; simp; omega)
    have h2 : n < 0 := by omega
    go_enter Tryd.func37, Tryd.ntmps37
    go_wp2
    go_ret
    exact ⟨ret_b H.out, rfl⟩
set_option maxRecDepth 100000 in
set_option maxHeartbeats 8000000 in
theorem rthere_any (g : Nat) (x : Nat → Nap) (a : Int) (w : World) (h : IsRp w g x) : Calls Tryd.prog 35 #[.pointer (some ⟨g, 0, none⟩), .int .i64 a] w fun e w' => e = .returned (.bool (thP x a)) ∧ w = w' := by
  have HA := Shut.mk (raid_any a w)
  cases ha : aidP a with
  | false =>
    have H := Shut.mk (show thP x a = false by unfold thP; rw [ha]; rfl)
    rw [ha] at HA
    clear h ha
    go_enter Tryd.func35, Tryd.ntmps35
    go_wp2_with (fail)
    refine HA.out.mono ?_
    rintro e w' ⟨rfl, rfl⟩
    go_wp2_with (fail)
    go_ret
    exact ⟨ret_b H.out, rfl⟩
  | true =>
    have H := Shut.mk (show thP x a = (x a.toNat).there by unfold thP; rw [ha]; rfl)
    rw [ha] at HA
    obtain ⟨k, rfl, k1, k2⟩ := aidP_nat ha
    rw [Int.toNat_natCast] at H
    have c0 := h.c0 (k := k) (by omega)
    generalize (x k).there = t at *
    have e1 : (0 : Int) ≤ (k : Int) := by omega
    have e2 : (k : Int) < 17 := by omega
    clear h ha
    go_enter Tryd.func35, Tryd.ntmps35
    go_wp2_with (fail)
    refine HA.out.mono ?_
    rintro e w' ⟨rfl, rfl⟩
    go_wp2_with (fail)
    go_ret
    exact ⟨ret_b H.out, rfl⟩
/-! ### Poll, Close -/
set_option maxRecDepth 100000 in
set_option maxHeartbeats 8000000 in
theorem rpoll_t (g : Nat) (x : Nat → Nap) (a : Int) (w : World) (h : IsRp w g x) :
    Calls Tryd.prog 18 #[.pointer (some ⟨g, 0, none⟩), .int .i64 a] w fun e w' => e = .returned (.int .i64 ((pollP x a).2 : Nat)) ∧ IsRp w' g (pollP x a).1 ∧ Only (· = g) w w' := by
  have HT := Shut.mk (rthere_any g x a w h)
  have HX := Shut.mk h
  unfold pollP
  cases ht : thP x a with
  | false =>
    rw [ht] at HT
    rw [if_neg (by simp)]
    clear h ht
    go_enter Tryd.func18, Tryd.ntmps18
    go_wp2_with (fail)
    refine HT.out.mono ?_
    rintro e w' ⟨rfl, rfl⟩
    go_wp2_with (fail)
    go_ret
    exact ⟨rfl, HX.out, Only.refl _ _⟩
  | true =>
    rw [ht] at HT
    rw [if_pos rfl]
    obtain ⟨k, rfl, k1, k2⟩ := aidP_nat (th_aid ht)
    rw [Int.toNat_natCast]
    have HK := Shut.mk (show k < 17 by omega)
    have c1 := h.c (k := k) (by omega) (j := 1) rfl
    have c2 := h.c (k := k) (by omega) (j := 2) rfl
    have c3 := h.c (k := k) (by omega) (j := 3) rfl
    have c8 := h.c (k := k) (by omega) (j := 8) rfl
    have c9 := h.c (k := k) (by omega) (j := 9) rfl
    have e1 : (0 : Int) ≤ (k : Int) := by omega
    have e2 : (k : Int) < 17 := by omega
    obtain ⟨p, hp⟩ : ∃ p, p = x k := ⟨_, rfl⟩
    have HP := Shut.mk hp
    have HID := Shut.mk (show updF x k p = x by rw [hp]; exact updF_id x k)
    rw [← hp] at c1 c2 c3 c8 c9 ⊢
    clear k1 k2
    cases has : p.asleep with
    | false =>
      rw [has] at c1
      have e : pollN p = (p, 110) := by unfold pollN; rw [if_pos (.inl has)]
      rw [e]
      clear h ht hp
      go_enter Tryd.func18, Tryd.ntmps18
      go_wp2_with (fail)
      refine HT.out.mono ?_
      rintro e w' ⟨rfl, rfl⟩
      go_wp2_with (fail)
      go_ret
      exact ⟨rfl, by rw [HID.out]; exact HX.out, Only.refl _ _⟩
    | true =>
      rw [has] at c1
      cases hop : p.opn with
      | true =>
        rw [hop] at c3
        have e : pollN p = (p, 110) := by unfold pollN; rw [if_pos (.inr hop)]
        rw [e]
        clear h ht hp
        go_enter Tryd.func18, Tryd.ntmps18
        go_wp2_with (fail)
        refine HT.out.mono ?_
        rintro e w' ⟨rfl, rfl⟩
        go_wp2_with (fail)
        go_ret
        exact ⟨rfl, by rw [HID.out]; exact HX.out, Only.refl _ _⟩
      | false =>
        rw [hop] at c3
        have e : pollN p = ({ p with asked := true }, 0) := by unfold pollN; rw [if_neg (by rw [has, hop]; simp)]
        rw [e]
        have HS := Shut.mk (show napC { p with asked := true } = (napC (x k)).set 2 (.bool true) by rw [← hp]; rfl)
        clear h ht hp
        go_enter Tryd.func18, Tryd.ntmps18
        go_wp2_with (fail)
        refine HT.out.mono ?_
        rintro e w' ⟨rfl, rfl⟩
        go_wp2_with (first
          | (refine wpList_store_into rfl 4 (.tmp 31) (.const (.bool true)) rfl g (k * 10 + 2) (.bool true) rfl rfl rfl 37 (blkP x) (blkP (updF x k ({ p with asked := true }))) HX.out sizeBo (blk_lt _ HK.out (by decide)) (blk_set _ HK.out (by decide) HS.out) ?_
             have HA1 := Shut.mk (HX.out.put (updF x k ({ p with asked := true })))
             have HO1 := Shut.mk (only_setRow w g (blkP (updF x k ({ p with asked := true }))))
             generalize World.setRow w g (blkP (updF x k ({ p with asked := true }))) = wn1 at *))
        go_ret
        exact ⟨rfl, HA1.out, HO1.out⟩
set_option maxRecDepth 100000 in
set_option maxHeartbeats 8000000 in
theorem rclose_t (g : Nat) (x : Nat → Nap) (a : Int) (w : World) (h : IsRp w g x) :
    Calls Tryd.prog 24 #[.pointer (some ⟨g, 0, none⟩), .int .i64 a] w fun e w' => e = .returned (.int .i64 ((closeP x a).2 : Nat)) ∧ IsRp w' g (closeP x a).1 ∧ Only (· = g) w w' := by
  have HT := Shut.mk (rthere_any g x a w h)
  have HX := Shut.mk h
  unfold closeP
  cases ht : thP x a with
  | false =>
    rw [ht] at HT
    rw [if_neg (by simp)]
    clear h ht
    go_enter Tryd.func24, Tryd.ntmps24
    go_wp2_with (fail)
    refine HT.out.mono ?_
    rintro e w' ⟨rfl, rfl⟩
    go_wp2_with (fail)
    go_ret
    exact ⟨rfl, HX.out, Only.refl _ _⟩
  | true =>
    rw [ht] at HT
    rw [if_pos rfl]
    obtain ⟨k, rfl, k1, k2⟩ := aidP_nat (th_aid ht)
    rw [Int.toNat_natCast]
    have HK := Shut.mk (show k < 17 by omega)
    have c1 := h.c (k := k) (by omega) (j := 1) rfl
    have c2 := h.c (k := k) (by omega) (j := 2) rfl
    have c3 := h.c (k := k) (by omega) (j := 3) rfl
    have c8 := h.c (k := k) (by omega) (j := 8) rfl
    have c9 := h.c (k := k) (by omega) (j := 9) rfl
    have e1 : (0 : Int) ≤ (k : Int) := by omega
    have e2 : (k : Int) < 17 := by omega
    obtain ⟨p, hp⟩ : ∃ p, p = x k := ⟨_, rfl⟩
    have HP := Shut.mk hp
    have HID := Shut.mk (show updF x k p = x by rw [hp]; exact updF_id x k)
    rw [← hp] at c1 c2 c3 c8 c9 ⊢
    clear k1 k2
    cases hop : p.opn with
    | false =>
      rw [hop] at c3
      have e : closeN p = (p, 110) := by unfold closeN; rw [if_neg (by rw [hop]; simp)]
      rw [e]
      clear h ht hp
      go_enter Tryd.func24, Tryd.ntmps24
      go_wp2_with (fail)
      refine HT.out.mono ?_
      rintro e w' ⟨rfl, rfl⟩
      go_wp2_with (fail)
      go_ret
      exact ⟨rfl, by rw [HID.out]; exact HX.out, Only.refl _ _⟩
    | true =>
      rw [hop] at c3
      have e : closeN p = ({ p with opn := false }, 0) := by unfold closeN; rw [if_pos hop]
      rw [e]
      have HS := Shut.mk (show napC { p with opn := false } = (napC (x k)).set 3 (.bool false) by rw [← hp]; rfl)
      clear h ht hp
      go_enter Tryd.func24, Tryd.ntmps24
      go_wp2_with (fail)
      refine HT.out.mono ?_
      rintro e w' ⟨rfl, rfl⟩
      go_wp2_with (first
        | (refine wpList_store_into rfl 4 (.tmp 22) (.const (.bool false)) rfl g (k * 10 + 3) (.bool false) rfl rfl rfl 37 (blkP x) (blkP (updF x k ({ p with opn := false }))) HX.out sizeBo (blk_lt _ HK.out (by decide)) (blk_set _ HK.out (by decide) HS.out) ?_
           have HA1 := Shut.mk (HX.out.put (updF x k ({ p with opn := false })))
           have HO1 := Shut.mk (only_setRow w g (blkP (updF x k ({ p with opn := false }))))
           generalize World.setRow w g (blkP (updF x k ({ p with opn := false }))) = wn1 at *))
      go_ret
      exact ⟨rfl, HA1.out, HO1.out⟩
/-! ### Doze, Asleep, Polled -/
set_option maxRecDepth 100000 in
set_option maxHeartbeats 8000000 in
theorem rdoze_t (g : Nat) (x : Nat → Nap) (a : Int) (on : Bool) (w : World) (h : IsRp w g x) :
    Calls Tryd.prog 16 #[.pointer (some ⟨g, 0, none⟩), .int .i64 a, .bool on] w fun e w' => e = .returned (.int .i64 ((dozeP x a on).2 : Nat)) ∧ IsRp w' g (dozeP x a on).1 ∧ Only (· = g) w w' := by
  have HT := Shut.mk (rthere_any g x a w h)
  have HX := Shut.mk h
  unfold dozeP
  cases ht : thP x a with
  | false =>
    rw [ht] at HT
    rw [if_neg (by simp)]
    clear h ht
    go_enter Tryd.func16, Tryd.ntmps16
    go_wp2_with (fail)
    refine HT.out.mono ?_
    rintro e w' ⟨rfl, rfl⟩
    go_wp2_with (fail)
    go_ret
    exact ⟨rfl, HX.out, Only.refl _ _⟩
  | true =>
    rw [ht] at HT
    rw [if_pos rfl]
    obtain ⟨k, rfl, k1, k2⟩ := aidP_nat (th_aid ht)
    rw [Int.toNat_natCast]
    have HK := Shut.mk (show k < 17 by omega)
    have c1 := h.c (k := k) (by omega) (j := 1) rfl
    have c2 := h.c (k := k) (by omega) (j := 2) rfl
    have c3 := h.c (k := k) (by omega) (j := 3) rfl
    have c8 := h.c (k := k) (by omega) (j := 8) rfl
    have c9 := h.c (k := k) (by omega) (j := 9) rfl
    have e1 : (0 : Int) ≤ (k : Int) := by omega
    have e2 : (k : Int) < 17 := by omega
    obtain ⟨p, hp⟩ : ∃ p, p = x k := ⟨_, rfl⟩
    have HP := Shut.mk hp
    have HID := Shut.mk (show updF x k p = x by rw [hp]; exact updF_id x k)
    rw [← hp] at c1 c2 c3 c8 c9 ⊢
    clear k1 k2
    cases has : p.asleep with
    | false =>
      rw [has] at c1
      cases on with
      | false =>
        have e : dozeN p false = p := by unfold dozeN; rw [if_pos has]
        rw [e]
        clear h ht hp has e
        go_enter Tryd.func16, Tryd.ntmps16
        go_wp2_with (fail)
        refine HT.out.mono ?_
        rintro e w' ⟨rfl, rfl⟩
        go_wp2_with (fail)
        go_ret
        exact ⟨rfl, by rw [HID.out]; exact HX.out, Only.refl _ _⟩
      | true =>
        have e : dozeN p true = { p with asleep := true, asked := false, opn := false } := by unfold dozeN; rw [if_neg (by rw [has]; simp)]
        rw [e]
        have HS1 := Shut.mk (show napC { p with asleep := true } = (napC (x k)).set 1 (.bool true) by rw [← hp]; rfl)
        have HS2 := Shut.mk (show napC { p with asleep := true, asked := false } = (napC (updF x k { p with asleep := true } k)).set 2 (.bool false) by rw [updF_same]; rfl)
        have HS3 := Shut.mk (show napC { p with asleep := true, asked := false, opn := false } = (napC (updF (updF x k { p with asleep := true }) k { p with asleep := true, asked := false } k)).set 3 (.bool false) by rw [updF_same]; rfl)
        clear h ht hp has e
        go_enter Tryd.func16, Tryd.ntmps16
        go_wp2_with (fail)
        refine HT.out.mono ?_
        rintro e w' ⟨rfl, rfl⟩
        go_wp2_with (first
          | (refine wpList_store_into rfl 4 (.tmp 26) (.tmp 22) rfl g (k * 10 + 1) (.bool true) rfl rfl rfl 37 (blkP x) (blkP (updF x k ({ p with asleep := true }))) HX.out sizeBo (blk_lt _ HK.out (by decide)) (blk_set _ HK.out (by decide) HS1.out) ?_
             have HA1 := Shut.mk (HX.out.put (updF x k ({ p with asleep := true })))
             have HO1 := Shut.mk (only_setRow w g (blkP (updF x k ({ p with asleep := true }))))
             generalize World.setRow w g (blkP (updF x k ({ p with asleep := true }))) = wn1 at *)
          | (refine wpList_store_into rfl 4 (.tmp 32) (.const (.bool false)) rfl g (k * 10 + 2) (.bool false) rfl rfl rfl 37 (blkP (updF x k { p with asleep := true })) (blkP (updF (updF x k { p with asleep := true }) k ({ p with asleep := true, asked := false }))) HA1.out sizeBo (blk_lt _ HK.out (by decide)) (blk_set _ HK.out (by decide) HS2.out) ?_
             have HA2 := Shut.mk (HA1.out.put (updF (updF x k { p with asleep := true }) k ({ p with asleep := true, asked := false })))
             have HO2 := Shut.mk (only_setRow wn1 g (blkP (updF (updF x k { p with asleep := true }) k ({ p with asleep := true, asked := false }))))
             generalize World.setRow wn1 g (blkP (updF (updF x k { p with asleep := true }) k ({ p with asleep := true, asked := false }))) = wn2 at *)
          | (refine wpList_store_into rfl 4 (.tmp 38) (.const (.bool false)) rfl g (k * 10 + 3) (.bool false) rfl rfl rfl 37 (blkP (updF (updF x k { p with asleep := true }) k { p with asleep := true, asked := false })) (blkP (updF (updF (updF x k { p with asleep := true }) k { p with asleep := true, asked := false }) k ({ p with asleep := true, asked := false, opn := false }))) HA2.out sizeBo (blk_lt _ HK.out (by decide)) (blk_set _ HK.out (by decide) HS3.out) ?_
             have HA3 := Shut.mk (HA2.out.put (updF (updF (updF x k { p with asleep := true }) k { p with asleep := true, asked := false }) k ({ p with asleep := true, asked := false, opn := false })))
             have HO3 := Shut.mk (only_setRow wn2 g (blkP (updF (updF (updF x k { p with asleep := true }) k { p with asleep := true, asked := false }) k ({ p with asleep := true, asked := false, opn := false }))))
             generalize World.setRow wn2 g (blkP (updF (updF (updF x k { p with asleep := true }) k { p with asleep := true, asked := false }) k ({ p with asleep := true, asked := false, opn := false }))) = wn3 at *))
        go_ret
        refine ⟨rfl, ?_, (HO1.out.trans HO2.out fun _ _ e => e).trans HO3.out fun _ _ e => e⟩
        have h := HA3.out
        rw [updF_two, updF_two] at h
        exact h
    | true =>
      rw [has] at c1
      cases on with
      | false =>
        have e : dozeN p false = { p with asleep := false, asked := false, opn := false } := by unfold dozeN; rw [if_neg (by rw [has]; simp)]
        rw [e]
        have HS1 := Shut.mk (show napC { p with asleep := false } = (napC (x k)).set 1 (.bool false) by rw [← hp]; rfl)
        have HS2 := Shut.mk (show napC { p with asleep := false, asked := false } = (napC (updF x k { p with asleep := false } k)).set 2 (.bool false) by rw [updF_same]; rfl)
        have HS3 := Shut.mk (show napC { p with asleep := false, asked := false, opn := false } = (napC (updF (updF x k { p with asleep := false }) k { p with asleep := false, asked := false } k)).set 3 (.bool false) by rw [updF_same]; rfl)
        clear h ht hp has e
        go_enter Tryd.func16, Tryd.ntmps16
        go_wp2_with (fail)
        refine HT.out.mono ?_
        rintro e w' ⟨rfl, rfl⟩
        go_wp2_with (first
          | (refine wpList_store_into rfl 4 (.tmp 26) (.tmp 22) rfl g (k * 10 + 1) (.bool false) rfl rfl rfl 37 (blkP x) (blkP (updF x k ({ p with asleep := false }))) HX.out sizeBo (blk_lt _ HK.out (by decide)) (blk_set _ HK.out (by decide) HS1.out) ?_
             have HA1 := Shut.mk (HX.out.put (updF x k ({ p with asleep := false })))
             have HO1 := Shut.mk (only_setRow w g (blkP (updF x k ({ p with asleep := false }))))
             generalize World.setRow w g (blkP (updF x k ({ p with asleep := false }))) = wn1 at *)
          | (refine wpList_store_into rfl 4 (.tmp 32) (.const (.bool false)) rfl g (k * 10 + 2) (.bool false) rfl rfl rfl 37 (blkP (updF x k { p with asleep := false })) (blkP (updF (updF x k { p with asleep := false }) k ({ p with asleep := false, asked := false }))) HA1.out sizeBo (blk_lt _ HK.out (by decide)) (blk_set _ HK.out (by decide) HS2.out) ?_
             have HA2 := Shut.mk (HA1.out.put (updF (updF x k { p with asleep := false }) k ({ p with asleep := false, asked := false })))
             have HO2 := Shut.mk (only_setRow wn1 g (blkP (updF (updF x k { p with asleep := false }) k ({ p with asleep := false, asked := false }))))
             generalize World.setRow wn1 g (blkP (updF (updF x k { p with asleep := false }) k ({ p with asleep := false, asked := false }))) = wn2 at *)
          | (refine wpList_store_into rfl 4 (.tmp 38) (.const (.bool false)) rfl g (k * 10 + 3) (.bool false) rfl rfl rfl 37 (blkP (updF (updF x k { p with asleep := false }) k { p with asleep := false, asked := false })) (blkP (updF (updF (updF x k { p with asleep := false }) k { p with asleep := false, asked := false }) k ({ p with asleep := false, asked := false, opn := false }))) HA2.out sizeBo (blk_lt _ HK.out (by decide)) (blk_set _ HK.out (by decide) HS3.out) ?_
             have HA3 := Shut.mk (HA2.out.put (updF (updF (updF x k { p with asleep := false }) k { p with asleep := false, asked := false }) k ({ p with asleep := false, asked := false, opn := false })))
             have HO3 := Shut.mk (only_setRow wn2 g (blkP (updF (updF (updF x k { p with asleep := false }) k { p with asleep := false, asked := false }) k ({ p with asleep := false, asked := false, opn := false }))))
             generalize World.setRow wn2 g (blkP (updF (updF (updF x k { p with asleep := false }) k { p with asleep := false, asked := false }) k ({ p with asleep := false, asked := false, opn := false }))) = wn3 at *))
        go_ret
        refine ⟨rfl, ?_, (HO1.out.trans HO2.out fun _ _ e => e).trans HO3.out fun _ _ e => e⟩
        have h := HA3.out
        rw [updF_two, updF_two] at h
        exact h
      | true =>
        have e : dozeN p true = p := by unfold dozeN; rw [if_pos has]
        rw [e]
        clear h ht hp has e
        go_enter Tryd.func16, Tryd.ntmps16
        go_wp2_with (fail)
        refine HT.out.mono ?_
        rintro e w' ⟨rfl, rfl⟩
        go_wp2_with (fail)
        go_ret
        exact ⟨rfl, by rw [HID.out]; exact HX.out, Only.refl _ _⟩
set_option maxRecDepth 100000 in
set_option maxHeartbeats 8000000 in
theorem rasleep_t (g : Nat) (x : Nat → Nap) (a : Int) (w : World) (h : IsRp w g x) :
    Calls Tryd.prog 25 #[.pointer (some ⟨g, 0, none⟩), .int .i64 a] w fun e w' => e = .returned (.bool (aslP x a)) ∧ w = w' := by
  have HT := Shut.mk (rthere_any g x a w h)
  unfold aslP
  cases ht : thP x a with
  | false =>
    rw [ht] at HT
    clear h ht
    go_enter Tryd.func25, Tryd.ntmps25
    go_wp2_with (fail)
    refine HT.out.mono ?_
    rintro e w' ⟨rfl, rfl⟩
    go_wp2_with (fail)
    go_ret
    exact ⟨rfl, rfl⟩
  | true =>
    rw [ht] at HT
    obtain ⟨k, rfl, k1, k2⟩ := aidP_nat (th_aid ht)
    rw [Int.toNat_natCast]
    have c1 := h.c (k := k) (by omega) (j := 1) rfl
    generalize (x k).asleep = v at *
    have e1 : (0 : Int) ≤ (k : Int) := by omega
    have e2 : (k : Int) < 17 := by omega
    clear h ht
    go_enter Tryd.func25, Tryd.ntmps25
    go_wp2_with (fail)
    refine HT.out.mono ?_
    rintro e w' ⟨rfl, rfl⟩
    go_wp2_with (fail)
    go_ret
    exact ⟨rfl, rfl⟩
set_option maxRecDepth 100000 in
set_option maxHeartbeats 8000000 in
theorem rpolled_t (g : Nat) (x : Nat → Nap) (a : Int) (w : World) (h : IsRp w g x) :
    Calls Tryd.prog 27 #[.pointer (some ⟨g, 0, none⟩), .int .i64 a] w fun e w' => e = .returned (.bool (askP x a)) ∧ w = w' := by
  have HT := Shut.mk (rthere_any g x a w h)
  unfold askP
  cases ht : thP x a with
  | false =>
    rw [ht] at HT
    clear h ht
    go_enter Tryd.func27, Tryd.ntmps27
    go_wp2_with (fail)
    refine HT.out.mono ?_
    rintro e w' ⟨rfl, rfl⟩
    go_wp2_with (fail)
    go_ret
    exact ⟨rfl, rfl⟩
  | true =>
    rw [ht] at HT
    obtain ⟨k, rfl, k1, k2⟩ := aidP_nat (th_aid ht)
    rw [Int.toNat_natCast]
    have c1 := h.c (k := k) (by omega) (j := 2) rfl
    generalize (x k).asked = v at *
    have e1 : (0 : Int) ≤ (k : Int) := by omega
    have e2 : (k : Int) < 17 := by omega
    clear h ht
    go_enter Tryd.func27, Tryd.ntmps27
    go_wp2_with (fail)
    refine HT.out.mono ?_
    rintro e w' ⟨rfl, rfl⟩
    go_wp2_with (fail)
    go_ret
    exact ⟨rfl, rfl⟩
/-! ### Del, Add -/
set_option maxRecDepth 100000 in
set_option maxHeartbeats 8000000 in
theorem rdel_t (g : Nat) (x : Nat → Nap) (a : Int) (w : World) (h : IsRp w g x) :
    Calls Tryd.prog 14 #[.pointer (some ⟨g, 0, none⟩), .int .i64 a] w fun e w' => e = .returned (.tuple #[]) ∧ IsRp w' g (delP x a) ∧ Only (· = g) w w' := by
  have HT := Shut.mk (rthere_any g x a w h)
  have HX := Shut.mk h
  unfold delP
  cases ht : thP x a with
  | false =>
    rw [ht] at HT
    rw [if_neg (by simp)]
    clear h ht
    go_enter Tryd.func14, Tryd.ntmps14
    go_wp2_with (fail)
    refine HT.out.mono ?_
    rintro e w' ⟨rfl, rfl⟩
    go_wp2_with (fail)
    refine bodyPost_end (results_none (fn := Tryd.f14) rfl _ _ _) rfl ?_
    exact ⟨rfl, HX.out, Only.refl _ _⟩
  | true =>
    rw [ht] at HT
    rw [if_pos rfl]
    obtain ⟨k, rfl, k1, k2⟩ := aidP_nat (th_aid ht)
    rw [Int.toNat_natCast]
    obtain ⟨pre, post, hl, hb, hs⟩ := arr_part napC_len x [] [] (show k < 17 by omega)
    have HPL := Shut.mk (show pre.length = k * 10 by simpa using hl)
    have HBB := Shut.mk (show w.heap[g]? = some (.cells (pre ++ napC (x k) ++ post).toArray 37 (0, 0)) by rw [← hb]; exact h)
    have HA := Shut.mk (show IsRp (w.setRow g (pre ++ napC nap0 ++ post).toArray) g (updF x k nap0) by rw [hs]; exact h.put _)
    have HO := Shut.mk (only_setRow w g (pre ++ napC nap0 ++ post).toArray)
    have e1 : (0 : Int) ≤ (k : Int) := by omega
    have e2 : (k : Int) < 17 := by omega
    clear h ht hl hb hs
    go_enter Tryd.func14, Tryd.ntmps14
    go_wp2_with (fail)
    refine HT.out.mono ?_
    rintro e w' ⟨rfl, rfl⟩
    go_wp2_with (first
      | (refine wpList_store_part rfl 34 (.tmp 12) (.tmp 9) rfl g (k * 10) (.agg (napC nap0).toArray) rfl rfl 37 pre (napC (x k)) (napC nap0) post HBB.out HPL.out rfl rfl sizeNap (napC_one _) ?_; generalize World.setRow w g _ = w8 at *))
    refine bodyPost_end (results_none (fn := Tryd.f14) rfl _ _ _) rfl ?_
    exact ⟨rfl, HA.out, HO.out⟩
set_option maxRecDepth 100000 in
set_option maxHeartbeats 8000000 in
theorem radd_aid (g : Nat) (x : Nat → Nap) (a m : Int) (u : Nat → Bool) (w : World) (ha : aidP a = false) :
    Calls Tryd.prog 12 #[.pointer (some ⟨g, 0, none⟩), .int .i64 a, .agg #[.bool (u 0), .bool (u 1), .bool (u 2), .bool (u 3)], .int .i64 m] w fun e w' => e = .returned (.int .i64 103) ∧ Below w.heap.size w w' := by
  have HB := Shut.mk ((Below.refl w.heap.size w).alloc (Nat.le_refl _) (Obj.cells #[.bool (u 0), .bool (u 1), .bool (u 2), .bool (u 3)] 26 (0, 0)))
  have HA := Shut.mk fun w' => raid_any a w'
  rw [ha] at HA
  clear ha
  go_enter Tryd.func12, Tryd.ntmps12
  go_wp2_with (fail)
  refine (HA.out _).mono ?_
  rintro e w' ⟨rfl, rfl⟩
  go_wp2_with (fail)
  go_ret
  exact ⟨rfl, HB.out⟩
set_option maxRecDepth 100000 in
set_option maxHeartbeats 8000000 in
theorem radd_low (g : Nat) (x : Nat → Nap) (a m : Int) (u : Nat → Bool) (w : World) (ha : aidP a = true) (hm : m < 0) :
    Calls Tryd.prog 12 #[.pointer (some ⟨g, 0, none⟩), .int .i64 a, .agg #[.bool (u 0), .bool (u 1), .bool (u 2), .bool (u 3)], .int .i64 m] w fun e w' => e = .returned (.int .i64 103) ∧ Below w.heap.size w w' := by
  have HB := Shut.mk ((Below.refl w.heap.size w).alloc (Nat.le_refl _) (Obj.cells #[.bool (u 0), .bool (u 1), .bool (u 2), .bool (u 3)] 26 (0, 0)))
  have HA := Shut.mk fun w' => raid_any a w'
  rw [ha] at HA
  clear ha
  go_enter Tryd.func12, Tryd.ntmps12
  go_wp2_with (fail)
  refine (HA.out _).mono ?_
  rintro e w' ⟨rfl, rfl⟩
  go_wp2_with (fail)
  go_ret
  exact ⟨rfl, HB.out⟩
set_option maxRecDepth 100000 in
set_option maxHeartbeats 8000000 in
theorem radd_high (g : Nat) (x : Nat → Nap) (a m : Int) (u : Nat → Bool) (w : World) (ha : aidP a = true) (hm : ¬ m < 0) (hm2 : 8 < m) :
    Calls Tryd.prog 12 #[.pointer (some ⟨g, 0, none⟩), .int .i64 a, .agg #[.bool (u 0), .bool (u 1), .bool (u 2), .bool (u 3)], .int .i64 m] w fun e w' => e = .returned (.int .i64 103) ∧ Below w.heap.size w w' := by
  have HB := Shut.mk ((Below.refl w.heap.size w).alloc (Nat.le_refl _) (Obj.cells #[.bool (u 0), .bool (u 1), .bool (u 2), .bool (u 3)] 26 (0, 0)))
  have HA := Shut.mk fun w' => raid_any a w'
  rw [ha] at HA
  clear ha
  go_enter Tryd.func12, Tryd.ntmps12
  go_wp2_with (fail)
  refine (HA.out _).mono ?_
  rintro e w' ⟨rfl, rfl⟩
  go_wp2_with (fail)
  go_ret
  exact ⟨rfl, HB.out⟩
theorem size4b : (Tryd.prog.info? 26).map (·.size) = some 4 := by kernel_rfl
set_option maxRecDepth 100000 in
set_option maxHeartbeats 8000000 in
theorem radd_in (g : Nat) (x : Nat → Nap) (k m : Nat) (u : Nat → Bool) (w : World) (h : IsRp w g x) (k1 : 1 ≤ k) (k2 : k ≤ 16) (hm : m ≤ 8) (t : Bool) (ht : (x k).there = t) :
    Calls Tryd.prog 12 #[.pointer (some ⟨g, 0, none⟩), .int .i64 (k : Int), .agg #[.bool (u 0), .bool (u 1), .bool (u 2), .bool (u 3)], .int .i64 (m : Int)] w fun e w' => e = .returned (.int .i64 ((if t = true then 108 else 0 : Nat) : Int)) ∧ IsRp w' g (if t = true then x else updF x k (addN u m)) ∧ Only (· = g) w w' := by
  have HB1 := Shut.mk ((Below.refl w.heap.size w).alloc (Nat.le_refl _) (Obj.cells #[.bool (u 0), .bool (u 1), .bool (u 2), .bool (u 3)] 26 (0, 0)))
  have HN1 := Shut.mk (block_range (MapKept.heap_alloc w (Obj.cells #[.bool (u 0), .bool (u 1), .bool (u 2), .bool (u 3)] 26 (0, 0))).1)
  have HA := Shut.mk fun w' => raid_any (k : Int) w'
  have HX := Shut.mk h
  rw [show aidP (k : Int) = true by unfold aidP; simp; omega] at HA
  obtain ⟨pre, post, hl, hb, hs⟩ := arr_part napC_len x [] [] (show k < 17 by omega)
  have HPL := Shut.mk (show pre.length = k * 10 by simpa using hl)
  have HBW := Shut.mk fun (w' : World) (h' : IsRp w' g x) => show w'.heap[g]? = some (.cells (pre ++ napC (x k) ++ post).toArray 37 (0, 0)) by rw [← hb]; exact h'
  have HPUT := Shut.mk fun (w' : World) (h' : w'.heap[g]? = some (.cells (pre ++ napC (x k) ++ post).toArray 37 (0, 0))) => show IsRp (w'.setRow g (pre ++ napC (addN u m) ++ post).toArray) g (updF x k (addN u m)) by rw [hs]; exact setRow_heap w' g _ _ _ (0, 0) h'
  have c0 := (h.below HB1.out).c0 (k := k) (by omega)
  rw [ht] at c0
  obtain ⟨gb, hgb⟩ : ∃ gb, gb = w.heap.size := ⟨_, rfl⟩
  have HGB := Shut.mk hgb
  have e1 : (0 : Int) ≤ (k : Int) := by omega
  have e2 : (k : Int) < 17 := by omega
  have e3 : ¬ (m : Int) < 0 := by omega
  have e4 : ¬ 8 < (m : Int) := by omega
  have e5 : ¬ 8 < m := by omega
  clear h hl hb hs ht hgb k1 k2 hm
  cases t with
  | true =>
    go_enter Tryd.func12, Tryd.ntmps12
    go_wp2_with (fail)
    refine (HA.out _).mono ?_
    rintro e w' ⟨rfl, rfl⟩
    go_wp2_with (fail)
    go_ret
    exact ⟨rfl, HX.out.below HB1.out, Only.of_quiet HB1.out⟩
  | false =>
    go_enter Tryd.func12, Tryd.ntmps12
    go_wp2_with (fail)
    refine (HA.out _).mono ?_
    rintro e w' ⟨rfl, rfl⟩
    rw [← HGB.out] at HN1 ⊢
    generalize World.alloc w (Obj.cells #[.bool (u 0), .bool (u 1), .bool (u 2), .bool (u 3)] 26 (0, 0)) = w1 at *
    have HBB := Shut.mk fun (w' : World) (hb : Below w1.heap.size w1 w') => HBW.out w' ((HX.out.below HB1.out).below hb)
    have HU := Shut.mk fun (w' : World) (hb : Below w1.heap.size w1 w') => show w'.rangeAt gb 0 [.bool (u 0), .bool (u 1), .bool (u 2), .bool (u 3)] from fun j v hv => below_at hb (HN1.out j v hv)
    go_wp2_with (fail)
    refine wp_region_D (fun w' => Below w1.heap.size w1 w') 8 (by kernel_rfl) (show Below w1.heap.size w1 (World.drew w1) from (Below.refl _ _).drew) (fun hHeld hC => ?_)
    refine dP 0 hC hHeld ?_; clear hC; intro hC
    refine dP 1 hC hHeld ?_; clear hC; intro hC
    refine wpAnyD_take (i := 2) (v := .agg ([.bool (u 0), .bool (u 1), .bool (u 2), .bool (u 3)]).toArray) 40 rfl (by kernel_rfl) hC (by kernel_rfl) (by kernel_rfl) (by kernel_rfl) (by decide) (fun _ _ _ h => h) (yieldsIf_load_mid (by rfl) 26 (.tmp 6) rfl gb (0) rfl ([.bool (u 0), .bool (u 1), .bool (u 2), .bool (u 3)]) _ (fun w' hSw => HU.out _ hSw) Tryd.underlying26 rfl size4b) (fun _ => hHeld) ?_
    try simp only [Act.put, List.getElem_toArray, List.getElem_cons_zero, List.getElem_cons_succ, List.setIfInBounds_toArray, List.set_cons_zero, List.set_cons_succ]
    clear hC
    intro hC
    refine dP 3 hC hHeld ?_; clear hC; intro hC
    refine wpAnyD_pure (i := 4) (v := .agg (napC (addN u m)).toArray) rfl hC (by kernel_rfl) (by kernel_rfl) (by kernel_rfl) (by decide) (fun _ _ _ h => h) (Or.inl ⟨by rfl, ?_⟩) (fun _ => hHeld) ?_
    · intro w hSw
      kernel_rfl
    try simp only [Act.put, List.getElem_toArray, List.getElem_cons_zero, List.getElem_cons_succ, List.setIfInBounds_toArray, List.set_cons_zero, List.set_cons_succ]
    clear hC
    intro hC
    refine dP 5 hC hHeld ?_; clear hC; intro hC
    refine dP 6 hC hHeld ?_; clear hC; intro hC
    refine dP 7 hC hHeld ?_; clear hC; intro hC
    refine wpAnyD_one (i := 8) (by kernel_rfl) rfl hC (fun K hK => ?_)
    clear hC
    refine step_store_part rfl 34 (.tmp 34) (.tmp 31) rfl g (k * 10) (.agg (napC (addN u m)).toArray) rfl rfl 37 pre (napC (x k)) (napC (addN u m)) post ((HBB.out _ hHeld)) HPL.out rfl rfl sizeNap (napC_one _) ?_
    have HA2 := Shut.mk (HPUT.out _ ((HBB.out _ hHeld)))
    have HO2 := Shut.mk ((Only.of_quiet (S := (· = g)) (HB1.out.trans (hHeld.mono HB1.out.size))).trans (only_setRow _ g (pre ++ napC (addN u m) ++ post).toArray) fun _ _ e => e)
    generalize hq : World.setRow (World.drew w1) g _ = w8 at *
    clear hq
    refine hK.out _ _ (past (by kernel_rfl)) (fun hC => ?_)
    clear hK K
    try simp only [Act.put, List.getElem_toArray, List.getElem_cons_zero, List.getElem_cons_succ, List.setIfInBounds_toArray, List.set_cons_zero, List.set_cons_succ]
    refine wpAnyD_done (by kernel_rfl) ?_ _
    try simp only [Act.put, List.getElem_toArray, List.getElem_cons_zero, List.getElem_cons_succ, List.setIfInBounds_toArray, List.set_cons_zero, List.set_cons_succ]
    clear hC hHeld
    go_wp2_with (fail)
    go_ret
    exact ⟨rfl, HA2.out, HO2.out⟩
end Go.Proofs.YtaiegmnjoffloaaDoor
