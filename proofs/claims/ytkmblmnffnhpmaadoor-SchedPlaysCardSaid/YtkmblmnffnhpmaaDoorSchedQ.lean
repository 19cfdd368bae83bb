/-
  THE REFERENCE'S turns: Charge.
-/
import Derived.Test.YtkmblmnffnhpmaaDoorSchedR
import Derived.Test.YtkmblmnffnhpmaaDoorHeldD
import Derived.Test.YtkmblmnffnhpmaaDoorTkH
import Derived.Test.YtkmblmnffnhpmaaDoorTkD
import Derived.StillTailTactics
import Derived.LoopTactic
import Derived.Lib.MinMax
namespace Go.Proofs.YtkmblmnffnhpmaaDoor
open Go.ChangeShapes Go.WideShapes Go.ChangeAt Go.RowKit Go.Deep
set_option linter.unusedVariables false
set_option linter.unusedSimpArgs false

theorem size1y : (Tryd.prog.info? 2).map (·.size) = some 1 := by kernel_rfl
theorem size1z : (Tryd.prog.info? 4).map (·.size) = some 1 := by kernel_rfl
theorem RsE.below {B h g n c : Nat} {l l' : List Tu} {w wa w' : World} (x : IsRs B w h (.slice (some ⟨g, 0, none⟩) n c) l) (hb : Below w.heap.size w wa) (hv : OwnS trC 4 w' B 49 (.slice (some ⟨g, 0, none⟩) n c) n l') (ho : Only (· = g) wa w') : RsE B h (.slice (some ⟨g, 0, none⟩) n c) l' w w' := by
  obtain ⟨h1, h2⟩ := (x.below hb).cell hv ho
  exact ⟨_, h1, (Only.of_quiet hb).trans h2 fun i _ hi => hi, Fresh.refl _ _⟩
theorem okT_at {l : List Tu} (hi : InvT l) {k : Nat} (hk : k < l.length) : OkT (l.getD k tu0) := by
  have e : l.getD k tu0 = l[k] := by simp [List.getD, hk]
  rw [e]
  exact hi.ok _ (List.getElem_mem hk)
theorem ch_nums {t q n z : Nat} (ht : t ≤ 1152921504606846976) (hq : q ≤ 10000 * n) (hn : n ≤ 1099511627776) (hz : z = min (t + q) 1152921504606846976) :
    IntKind.i64.wrap (q : Int) = (q : Int) ∧ wrap64 (q : Int) = (q : Int) ∧ IntKind.i64.wrap ((t : Int) + (q : Int)) = (t : Int) + (q : Int) ∧ min ((t : Int) + (q : Int)) 1152921504606846976 = (z : Int) := by
  have hq2 : q ≤ 10995116277760000 := by omega
  clear hq hn
  refine ⟨IntWalk.i64_in _ ⟨by omega, by omega⟩, by unfold wrap64; omega, IntWalk.i64_in _ ⟨by omega, by omega⟩, ?_⟩
  rw [hz]
  rcases Nat.le_total (t + q) 1152921504606846976 with h | h
  · rw [Nat.min_eq_left h, Int.min_eq_left (by omega)]
    omega
  · rw [Nat.min_eq_right h, Int.min_eq_right (by omega)]
    rfl
/-! ### Charge -/
set_option maxRecDepth 100000 in
set_option maxHeartbeats 8000000 in
theorem refcharge_range (h : Nat) (A : Option Addr) (c : Nat) (l : List Tu) (a n : Int) (w : World) (hs : w.heap[h]? = some (.cells #[.slice A l.length c] 29 (0, 0))) (hr : RowS trC 4 tu0 w A l.length l) (hh : hasT l a = true) (hn : airT n = false) :
    Calls Tryd.prog 22 #[.pointer (some ⟨h, 0, none⟩), .int .i64 a, .int .i64 n] w fun r w' => r = .returned (.int .i64 103) ∧ w = w' := by
  have HF := Shut.mk (find_any h A c l a w hs hr)
  rw [ansF_yes hh] at HF
  generalize fiT l a = k at *
  have hp : ¬ (k : Int) < 0 := by omega
  by_cases h0 : n < 0
  · clear hs hr hh hn
    go_enter Tryd.func22, Tryd.ntmps22
    go_wp2_with (fail)
    refine HF.out.mono ?_
    rintro r w' ⟨rfl, rfl⟩
    go_wp2_with (fail)
    go_ret
    exact ⟨rfl, rfl⟩
  · have h3 : 1099511627776 < n := by
      unfold airT at hn
      simp only [Bool.and_eq_false_iff, decide_eq_false_iff_not] at hn
      omega
    clear hs hr hh hn
    go_enter Tryd.func22, Tryd.ntmps22
    go_wp2_with (fail)
    refine HF.out.mono ?_
    rintro r w' ⟨rfl, rfl⟩
    go_wp2_with (fail)
    go_ret
    exact ⟨rfl, rfl⟩
set_option maxRecDepth 100000 in
set_option maxHeartbeats 8000000 in
theorem refcharge_in (B gr : Nat) (v : Value) (l : List Tu) (a : Int) (n : Nat) (w : World) (x : IsRs B w gr v l) (hi : InvT l) (hl : l.length ≤ 1000) (hh : hasT l a = true) (hn : airT n = true) :
    Calls Tryd.prog 22 #[.pointer (some ⟨gr, 0, none⟩), .int .i64 a, .int .i64 (n : Nat)] w fun r w' => r = .returned (.int .i64 0) ∧ RsE B gr v (l.set (fiT l a) { l.getD (fiT l a) tu0 with tm := tmT (l.getD (fiT l a) tu0) n }) w w' := by
  obtain ⟨A, c, rfl, hr, hc⟩ := x.row (by omega)
  have HF := Shut.mk (find_any gr A c l a w x.slot hr)
  rw [ansF_yes hh] at HF
  have hk := has_lt hh
  obtain ⟨k, hkk⟩ : ∃ k, k = fiT l a := ⟨_, rfl⟩
  rw [← hkk] at HF hk ⊢
  obtain ⟨g, cap, hg, hbg, hgl⟩ := World.ownsRow.form x.own.1 (by omega)
  cases hg
  have hok := okT_at hi hk
  obtain ⟨b', off', hA', hrg⟩ := hr.el k hk
  cases hA'
  rw [Nat.zero_add] at hrg
  have h1 := range_cell hrg 1 _ rfl
  have h2 := range_cell hrg 2 _ rfl
  have hc1 := cell1 x.slot
  obtain ⟨m, hm⟩ : ∃ m, m = l.length := ⟨_, rfl⟩
  have HX := Shut.mk (show IsRs B w gr (.slice (some ⟨g, 0, none⟩) m c) l by rw [hm]; exact x)
  have HO := Shut.mk (show OwnS trC 4 w B 49 (.slice (some ⟨g, 0, none⟩) m c) m l by rw [hm]; exact x.own)
  rw [← hm] at hc1 hk ⊢
  obtain ⟨z, hz⟩ : ∃ z, z = tmT (l.getD k tu0) n := ⟨_, rfl⟩
  rw [← hz]
  obtain ⟨t, ht⟩ : ∃ t, t = (l.getD k tu0).tm := ⟨_, rfl⟩
  obtain ⟨u, hu⟩ : ∃ u, u = (l.getD k tu0).wt := ⟨_, rfl⟩
  have hok1 := hok.wt
  have hok2 := hok.tm
  unfold tmT at hz
  rw [← ht] at h2 hok2 hz
  rw [← hu] at h1 hok1 hz
  have hn2 : n ≤ 1099511627776 := by unfold airT at hn; simp only [Bool.and_eq_true, decide_eq_true_eq] at hn; omega
  obtain ⟨q, hq⟩ : ∃ q, q = 10000 * n / u := ⟨_, rfl⟩
  rw [← hq] at hz
  have hqb : q ≤ 10000 * n := by rw [hq]; exact Nat.div_le_self _ _
  have y1 : IntKind.i64.wrap (10000 * (n : Int)) = 10000 * (n : Int) := IntWalk.i64_in _ ⟨by omega, by omega⟩
  have y2 : (10000 * (n : Int)).tdiv (u : Int) = (q : Int) := by
    have e : (10000 * (n : Int)) = ((10000 * n : Nat) : Int) := by omega
    rw [e, Int.tdiv_eq_ediv_of_nonneg (by omega), hq]
    exact (Int.natCast_ediv _ _).symm
  obtain ⟨y3, y4, y5, y6⟩ := ch_nums hok2 hqb hn2 hz
  have hu0 : ¬ u = 0 := by omega
  have HSL := Shut.mk fun (w' : World) (hb : Below w.heap.size w w') => show w'.cell? ⟨gr, 0, none⟩ = some (.slice (some ⟨g, 0, none⟩) m c) from below_at hb hc1
  have HWT := Shut.mk fun (w' : World) (hb : Below w.heap.size w w') => show w'.cell? ⟨g, k * 4 + 1, none⟩ = some (.int .i64 (u : Nat)) from below_at hb h1
  have HTM := Shut.mk fun (w' : World) (hb : Below w.heap.size w w') => show w'.cell? ⟨g, k * 4 + 2, none⟩ = some (.int .i64 (t : Nat)) from below_at hb h2
  have HK := Shut.mk hk
  have hk0 : (0 : Int) ≤ (k : Int) := by omega
  have hk1 : (k : Int) < (m : Int) := by omega
  have hp : ¬ (k : Int) < 0 := by omega
  have hn3 : ¬ (n : Int) < 0 := by omega
  have hn4 : ¬ 1099511627776 < (n : Int) := by omega
  have hn5 : n ≤ 1099511627776 := hn2
  clear x hi hr hc hl hh hn hkk hbg hgl hm hk hrg h1 h2 hc1 hz ht hu hok hok1 hok2 hn2 hq hqb
  go_enter Tryd.func22, Tryd.ntmps22
  go_wp2_with (fail)
  refine HF.out.mono ?_
  rintro r w' ⟨rfl, rfl⟩
  go_wp2_with (fail)
  refine wp_region_D (fun w' => Below w.heap.size w w') 28 (by kernel_rfl) (show Below w.heap.size w (World.drew w) from (Below.refl _ _).drew) (fun hHeld hC => ?_)
  refine dP 0 hC hHeld ?_; clear hC; intro hC
  refine dP 1 hC hHeld ?_; clear hC; intro hC
  refine dP 2 hC hHeld ?_; clear hC; intro hC
  refine dT 3 hC hHeld (fun w hSw => (HSL.out _ hSw)) ?_; clear hC; intro hC
  refine dP 4 hC hHeld ?_; clear hC; intro hC
  refine dP 5 hC hHeld ?_; clear hC; intro hC
  refine dP 6 hC hHeld ?_; clear hC; intro hC
  refine dP 7 hC hHeld ?_; clear hC; intro hC
  refine dT 8 hC hHeld (fun w hSw => (HSL.out _ hSw)) ?_; clear hC; intro hC
  refine dP 9 hC hHeld ?_; clear hC; intro hC
  refine dP 10 hC hHeld ?_; clear hC; intro hC
  refine dP 11 hC hHeld ?_; clear hC; intro hC
  refine dT 12 hC hHeld (fun w hSw => (HTM.out _ hSw)) ?_; clear hC; intro hC
  refine dP 13 hC hHeld ?_; clear hC; intro hC
  refine dP 14 hC hHeld ?_; clear hC; intro hC
  refine dP 15 hC hHeld ?_; clear hC; intro hC
  refine dP 16 hC hHeld ?_; clear hC; intro hC
  refine dP 17 hC hHeld ?_; clear hC; intro hC
  refine dT 18 hC hHeld (fun w hSw => (HSL.out _ hSw)) ?_; clear hC; intro hC
  refine dP 19 hC hHeld ?_; clear hC; intro hC
  refine dP 20 hC hHeld ?_; clear hC; intro hC
  refine dP 21 hC hHeld ?_; clear hC; intro hC
  refine dT 22 hC hHeld (fun w hSw => (HWT.out _ hSw)) ?_; clear hC; intro hC
  refine dP 23 hC hHeld ?_; clear hC; intro hC
  refine dP 24 hC hHeld ?_; clear hC; intro hC
  refine dP 25 hC hHeld ?_; clear hC; intro hC
  refine dP 26 hC hHeld ?_; clear hC; intro hC
  refine dP 27 hC hHeld ?_; clear hC; intro hC
  refine wpAnyD_one (i := 28) (by kernel_rfl) rfl hC (fun K hK => ?_)
  clear hC
  refine step_store_cell (d := tu0) trC_len rfl 2 (.tmp 46) (.tmp 44) rfl B 49 g k 2 m c _ l { l.getD k tu0 with tm := z } (.int .i64 (z : Nat)) rfl rfl rfl rfl (HO.out.below hHeld) HK.out (by decide) size1y rfl ?_
  intro w2 hv2 ho2
  have HFIN := Shut.mk (RsE.below HX.out hHeld hv2.out ho2.out)
  clear hv2 ho2
  refine hK.out _ _ (past (by kernel_rfl)) (fun hC => ?_)
  clear hK K
  try simp only [Act.put, List.getElem_toArray, List.getElem_cons_zero, List.getElem_cons_succ, List.setIfInBounds_toArray, List.set_cons_zero, List.set_cons_succ]
  refine wpAnyD_done (by kernel_rfl) ?_ _
  try simp only [Act.put, List.getElem_toArray, List.getElem_cons_zero, List.getElem_cons_succ, List.setIfInBounds_toArray, List.set_cons_zero, List.set_cons_succ]
  clear hC hHeld
  go_wp2_with (fail)
  go_ret
  exact ⟨rfl, HFIN.out⟩
end Go.Proofs.YtkmblmnffnhpmaaDoor
