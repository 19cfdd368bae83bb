/-
  The walk of muezzin/muezzinlaw21.PsPlays: the Go text returns true.
-/
import Derived.Test.YtaiegmnjoffloaaDoorPsL
import Derived.Test.YtaiegmnjoffloaaDoorOpenN
import Derived.Test.YtaiegmnjoffloaaDoorNum
import Derived.Test.YtaiegmnjoffloaaDoorErrP
import Derived.Test.YtaiegmnjoffloaaDoorPsQ
import Derived.Test.YtaiegmnjoffloaaDoorPsY
import Derived.Test.YtaiegmnjoffloaaDoorTkD
import Derived.Test.YtaiegmnjoffloaaDoorTkH
import Derived.LoopTactic
import Derived.Lib.MinMax
import Derived.Deep.CutRange
import Derived.Deep.CutBlock
import Derived.BigGuard
import Derived.WalkKit
import Derived.ProofKit
import Derived.Below
namespace Go.Proofs.YtaiegmnjoffloaaDoor.psPlays
open Go.ChangeShapes Go.WideShapes Go.ChangeAt Go.RowKit Go.Deep
set_option linter.unusedVariables false
set_option linter.unusedSimpArgs false

open Go.Proofs.YtaiegmnjoffloaaDoor

theorem size8 : (Tryd.prog.info? 39).map (·.size) = some 8 := by kernel_rfl
theorem below_put {w : World} {g B : Nat} {wa : World} (h : Below B wa w) (hg : B ≤ g) (hB : B ≤ w.heap.size) (cs : Array Value) : Below B wa (w.setRow g cs) := h.trans ((only_setRow w g cs).below (fun i hi e => by have e : i = g := e; omega) hB)

/-! ### THE WALK -/
set_option maxRecDepth 100000 in
set_option maxHeartbeats 8000000 in
theorem walk (a0 : Option Addr) (cap0 : Nat) (l0 : List Don) (w : World) (E : Nat → Addr) (hS : Sent w E [101, 102, 103, 104, 105, 106, 107, 108, 109, 110, 111, 112, 113, 114]) (w0 : RowS doC 8 do00 w a0 l0.length l0 ∧ l0.length ≤ cap0 ∧ ∀ d ∈ l0, okDo d) :
    Calls Tryd.prog 3 #[.slice a0 l0.length cap0] w fun e w' => e = .returned (.bool true) ∧ Below w.heap.size w w' := by
  obtain ⟨hr0, hc0, hok0⟩ := w0
  have HROW := Shut.mk hr0
  obtain ⟨n, hn⟩ : ∃ n : Nat, n = l0.length := ⟨_, rfl⟩
  have HN := Shut.mk hn
  have hle := hr0.le
  rw [← hn] at hle ⊢
  clear hr0 hc0 hok0 hn
  have HS := Shut.mk hS
  clear hS
  go_enter Tryd.func3, Tryd.ntmps3
  go_wp2_with (fail)
  refine (first_any w E HS.out (by decide) (by decide) (by decide)).mono ?_
  rintro x wa ⟨rfl, hBa⟩
  have HBa := Shut.mk hBa
  clear hBa
  rcases Nat.lt_or_ge 100 n with hN | hN
  · have hN' : (100 : Int) < (n : Int) := by omega
    go_wp2_with (fail)
    go_ret
    exact ⟨rfl, HBa.out⟩
  have hN1 : ¬ (100 : Int) < (n : Int) := by omega
  clear hN
  obtain ⟨wb, hwb⟩ : ∃ wb, wb = wa.alloc (Obj.cells Tryd.zeroCells31 31 (0, 0)) := ⟨_, rfl⟩
  obtain ⟨wc, hwc⟩ : ∃ wc, wc = wb.alloc (Obj.cells Tryd.zeroCells37 37 (0, 0)) := ⟨_, rfl⟩
  have HL := Shut.mk (show LawP w wb wa.heap.size X0 by rw [hwb]; exact LawP.made HBa.out)
  obtain ⟨g, hg⟩ : ∃ g, g = wa.heap.size := ⟨_, rfl⟩
  obtain ⟨h, hh⟩ : ∃ h, h = wb.heap.size := ⟨_, rfl⟩
  have hs1 : wa.heap.size < wb.heap.size := by rw [hwb]; simp
  rw [← hg] at HL
  have HP0 := Shut.mk (show PlP w wc g h X0 X0 by
    rw [hwc, hh]
    exact ⟨HL.out.quiet ((Below.refl _ _).alloc (Nat.le_refl _) _), by unfold IsRp; rw [zero_rp]; exact (MapKept.heap_alloc wb _).1, HL.out.bel.size, by omega⟩)
  have HWB := Shut.mk hwb.symm
  have HWC := Shut.mk hwc.symm
  have HGN := Shut.mk hg
  have HHN := Shut.mk hh
  clear hwb hwc hg hh hs1 HL HBa
  go_upto_region 7 with (fail)
  rw [HWB.out, ← HGN.out]
  generalize Value.agg Tryd.zeroCells31 = v23 at *
  go_upto_region 8 with (fail)
  rw [HWC.out, ← HHN.out]
  generalize Value.agg Tryd.zeroCells37 = v25 at *
  clear HWB HWC HGN HHN hN1
  go_wp2_with (fail)
  go_loopw [6, 8, 9, 10, 11, 12, 13, 14, 15] (fun s6 _ _ _ _ _ _ _ _ wr => ∃ (i : Nat) (X : Nat → Nap), i ≤ n ∧ s6 = .int .i64 (i : Int) ∧ Shut (PlP w wr g h X X)) (fun s6 _ _ _ _ _ _ _ _ _ => n - (intOf s6).toNat)
  case atStart => exact ⟨0, X0, Nat.zero_le _, rfl, HP0⟩
  case round =>
    clear HP0
    obtain ⟨i, X, hi, rfl, HP⟩ := hrel
    by_cases hin : i < n
    rotate_left
    · obtain rfl : i = n := by omega
      have hge : ¬ (i : Int) < (i : Int) := by omega
      have hge2 : ¬ i < i := by omega
      clear hi hin
      go_wp2_with (fail)
      go_ret
      exact ⟨rfl, HP.out.law.bel⟩
    have hin2 : (i : Int) < (n : Int) := by omega
    have HIN2 := Shut.mk hin
    have HINV := Shut.mk HP.out.law.ps.inv
    obtain ⟨b, off, rfl, hrg⟩ := (HROW.out.below HP.out.law.bel).el i (by rw [← HN.out]; exact hin)
    generalize l0.getD i do00 = dd at *
    obtain ⟨dk, da, dn, dt, du⟩ := dd
    have HRG := Shut.mk (show wr.rangeAt b (off + i * 8) [.int .i64 dk, .int .i64 da, .int .i64 dn, .bool dt, .bool (du 0), .bool (du 1), .bool (du 2), .bool (du 3)] from hrg)
    clear hrg hi
    obtain ⟨gd, hgd⟩ : ∃ x, x = wr.heap.size := ⟨_, rfl⟩
    have HGD := Shut.mk hgd
    have HAd := Shut.mk ((Below.refl wr.heap.size wr).alloc (Nat.le_refl _) (Obj.cells #[.int .i64 0, .int .i64 0, .int .i64 0, .bool false, .bool false, .bool false, .bool false, .bool false] 39 (0, 0)))
    have HXd := Shut.mk (show (wr.alloc (Obj.cells #[.int .i64 0, .int .i64 0, .int .i64 0, .bool false, .bool false, .bool false, .bool false, .bool false] 39 (0, 0))).heap[gd]? = some (Obj.cells #[.int .i64 0, .int .i64 0, .int .i64 0, .bool false, .bool false, .bool false, .bool false, .bool false] 39 (0, 0)) by rw [hgd]; exact (MapKept.heap_alloc wr (Obj.cells #[.int .i64 0, .int .i64 0, .int .i64 0, .bool false, .bool false, .bool false, .bool false, .bool false] 39 (0, 0))).1)
    obtain ⟨w1, hw1⟩ : ∃ w4, w4 = (wr.alloc (Obj.cells #[.int .i64 0, .int .i64 0, .int .i64 0, .bool false, .bool false, .bool false, .bool false, .bool false] 39 (0, 0))).setRow gd #[.int .i64 dk, .int .i64 da, .int .i64 dn, .bool dt, .bool (du 0), .bool (du 1), .bool (du 2), .bool (du 3)] := ⟨_, rfl⟩
    have HDB := Shut.mk (show w1.heap[gd]? = some (Obj.cells #[.int .i64 dk, .int .i64 da, .int .i64 dn, .bool dt, .bool (du 0), .bool (du 1), .bool (du 2), .bool (du 3)] 39 (0, 0)) by rw [hw1]; exact setRow_heap _ gd _ #[.int .i64 dk, .int .i64 da, .int .i64 dn, .bool dt, .bool (du 0), .bool (du 1), .bool (du 2), .bool (du 3)] _ (0, 0) HXd.out)
    have HBd := Shut.mk (show Below wr.heap.size wr w1 by rw [hw1]; exact below_put HAd.out (by omega) HAd.out.size _)
    have HW1 := Shut.mk hw1.symm
    have HGL := Shut.mk (Nat.le_of_eq hgd.symm)
    clear hgd hw1
    go_wp2_with (first
      | (refine wpList_load_mid rfl 39 (.tmp 35) rfl b (off + i * 8) rfl [.int .i64 dk, .int .i64 da, .int .i64 dn, .bool dt, .bool (du 0), .bool (du 1), .bool (du 2), .bool (du 3)] _ HRG.out Tryd.underlying39 rfl size8 ?_)
      | (refine wpList_store_row rfl 39 (.tmp 7) (.tmp 36) rfl gd #[.int .i64 dk, .int .i64 da, .int .i64 dn, .bool dt, .bool (du 0), .bool (du 1), .bool (du 2), .bool (du 3)] (by show Value.pointer (some ⟨wr.heap.size, 0, none⟩) = _; rw [HGD.out]) rfl 39 _ HXd.out size8 rfl (by simp [Value.oneCell']) ?_
         rw [HW1.out, ← HGD.out]))
    refine (clone_t g X w1 (HP.out.quiet HBd.out).law.ps).mono ?_
    rintro x' w3 ⟨rfl, hz, hb2⟩
    obtain ⟨c, hc⟩ : ∃ c, c = w1.heap.size := ⟨_, rfl⟩
    have HPD := Shut.mk (show PlD w w3 g h c gd X X X (Obj.cells #[.int .i64 dk, .int .i64 da, .int .i64 dn, .bool dt, .bool (du 0), .bool (du 1), .bool (du 2), .bool (du 3)] 39 (0, 0)) by rw [hc]; exact HP.out.begin HBd.out HDB.out HGL.out hz hb2)
    rw [← hc]
    obtain ⟨wv, hwv⟩ : ∃ wv, wv = aslP X 1 := ⟨_, rfl⟩
    have HWV := Shut.mk hwv
    clear hz hb2 hc hwv HP HDB HBd HXd HAd HGD HRG HW1 HGL
    go_wp2_with (fail)
    refine (asl_t c X 1 w3 HPD.out.cl).mono ?_
    rintro x' wq ⟨rfl, rfl⟩
    rw [← HWV.out]
    have hkd : w3.cell? ⟨gd, 0, none⟩ = some (.int .i64 dk) := by have := block_range HPD.out.db 0 _ rfl; simpa using this
    go_upto_block 2 with (fail)
    clear hkd
    go_cut [10, 11, 12, 13] from 43 to 159 (fun _ _ _ _ wx => ∃ X2, Shut (PlD w wx g h c gd X2 X2 X (Obj.cells #[.int .i64 dk, .int .i64 da, .int .i64 dn, .bool dt, .bool (du 0), .bool (du 1), .bool (du 2), .bool (du 3)] 39 (0, 0))))
    case first =>
      by_cases hk1 : dk = 1
      · have e1 : (dk == 1) = true := by simpa using hk1
        clear hk1
        obtain ⟨X1, hX1⟩ : ∃ X1, X1 = (addP X da du dn).1 := ⟨_, rfl⟩
        obtain ⟨kc, hK⟩ : ∃ kc, kc = (addP X da du dn).2 := ⟨_, rfl⟩
        have HQK := Shut.mk (show X1 = (addP X da du dn).1 ∧ kc = (addP X da du dn).2 from ⟨hX1, hK⟩)
        have HKC := Shut.mk (show kc = 0 ∨ kc ∈ S14 by rw [hK]; exact codes_add X da du dn)
        clear hX1 hK
        go_wp2_with (fail)
        refine wp_region_D (fun w' => w'.heap[gd]? = some (Obj.cells #[.int .i64 dk, .int .i64 da, .int .i64 dn, .bool dt, .bool (du 0), .bool (du 1), .bool (du 2), .bool (du 3)] 39 (0, 0))) 15 (by kernel_rfl) (show (World.drew w3).heap[gd]? = some (Obj.cells #[.int .i64 dk, .int .i64 da, .int .i64 dn, .bool dt, .bool (du 0), .bool (du 1), .bool (du 2), .bool (du 3)] 39 (0, 0)) from HPD.out.db) (fun hHeld hC => ?_)
        obtain ⟨w5, hw5⟩ : ∃ w5, w5 = World.drew w3 := ⟨_, rfl⟩
        have HP5 := Shut.mk (HPD.out.quiet (show Below w3.heap.size w3 w5 by rw [hw5]; exact (Below.refl _ _).drew))
        rw [← hw5] at hHeld ⊢
        clear hw5
        refine dP 0 hC hHeld ?_; clear hC; intro hC
        refine dP 1 hC hHeld ?_; clear hC; intro hC
        refine dT 2 hC hHeld (fun w hSw => (show w.cell? ⟨gd, 1, none⟩ = some (.int .i64 da) from by have := block_range hSw 1 _ rfl; simpa using this)) ?_; clear hC; intro hC
        refine dP 3 hC hHeld ?_; clear hC; intro hC
        refine wpAnyD_take (i := 4) (v := .agg ([.bool (du 0), .bool (du 1), .bool (du 2), .bool (du 3)]).toArray) 40 rfl (by kernel_rfl) hC (by kernel_rfl) (by kernel_rfl) (by kernel_rfl) (by decide) (fun _ _ _ h => h) (yieldsIf_load_mid (by rfl) 26 (.tmp 58) rfl gd (4) rfl ([.bool (du 0), .bool (du 1), .bool (du 2), .bool (du 3)]) _ (fun w' hSw => (mid4 (l := [.int .i64 dk, .int .i64 da, .int .i64 dn, .bool dt, .bool (du 0), .bool (du 1), .bool (du 2), .bool (du 3)]) hSw (fun j v hv => by match j with | 0 | 1 | 2 | 3 => exact hv | n + 4 => simp at hv))) Tryd.underlying26 rfl size4b) (fun _ => hHeld) ?_
        try simp only [Act.put, List.getElem_toArray, List.getElem_cons_zero, List.getElem_cons_succ, List.setIfInBounds_toArray, List.set_cons_zero, List.set_cons_succ]
        clear hC
        intro hC
        refine dP 5 hC hHeld ?_; clear hC; intro hC
        refine dT 6 hC hHeld (fun w hSw => (show w.cell? ⟨gd, 2, none⟩ = some (.int .i64 dn) from by have := block_range hSw 2 _ rfl; simpa using this)) ?_; clear hC; intro hC
        refine dP 8 hC hHeld ?_; clear hC; intro hC
        refine dP 9 hC hHeld ?_; clear hC; intro hC
        refine dT 10 hC hHeld (fun w hSw => (show w.cell? ⟨gd, 1, none⟩ = some (.int .i64 da) from by have := block_range hSw 1 _ rfl; simpa using this)) ?_; clear hC; intro hC
        refine dP 11 hC hHeld ?_; clear hC; intro hC
        refine wpAnyD_take (i := 12) (v := .agg ([.bool (du 0), .bool (du 1), .bool (du 2), .bool (du 3)]).toArray) 40 rfl (by kernel_rfl) hC (by kernel_rfl) (by kernel_rfl) (by kernel_rfl) (by decide) (fun _ _ _ h => h) (yieldsIf_load_mid (by rfl) 26 (.tmp 66) rfl gd (4) rfl ([.bool (du 0), .bool (du 1), .bool (du 2), .bool (du 3)]) _ (fun w' hSw => (mid4 (l := [.int .i64 dk, .int .i64 da, .int .i64 dn, .bool dt, .bool (du 0), .bool (du 1), .bool (du 2), .bool (du 3)]) hSw (fun j v hv => by match j with | 0 | 1 | 2 | 3 => exact hv | n + 4 => simp at hv))) Tryd.underlying26 rfl size4b) (fun _ => hHeld) ?_
        try simp only [Act.put, List.getElem_toArray, List.getElem_cons_zero, List.getElem_cons_succ, List.setIfInBounds_toArray, List.set_cons_zero, List.set_cons_succ]
        clear hC
        intro hC
        refine dP 13 hC hHeld ?_; clear hC; intro hC
        refine dT 14 hC hHeld (fun w hSw => (show w.cell? ⟨gd, 2, none⟩ = some (.int .i64 dn) from by have := block_range hSw 2 _ rfl; simpa using this)) ?_; clear hC; intro hC
        refine wpAnyD_one (i := 7) (by kernel_rfl) rfl hC (fun K hK => ?_)
        clear hC
        go_simp
        refine (add_c HP5.out HS.out (by decide) (by decide) da du dn).mono ?_
        rintro e' we1 ⟨rfl, hP⟩
        rw [← HQK.out.1] at hP
        rw [← HQK.out.2]
        have HP6 := Shut.mk hP
        clear hP
        have hHeld2 := HP6.out.db
        clear hHeld
        have hHeld := hHeld2
        clear hHeld2
        refine hK.out _ _ (fun _ => hHeld) (fun hC => ?_)
        clear hK K
        try simp only [Act.put, List.getElem_toArray, List.getElem_cons_zero, List.getElem_cons_succ, List.setIfInBounds_toArray, List.set_cons_zero, List.set_cons_succ]
        refine wpAnyD_one (i := 15) (by kernel_rfl) rfl hC (fun K hK => ?_)
        clear hC
        go_simp
        refine (add_r HP6.out da du dn).mono ?_
        rintro e' we2 ⟨rfl, hP⟩
        rw [← HQK.out.1] at hP
        rw [← HQK.out.2]
        have HP7 := Shut.mk hP
        clear hP
        refine hK.out _ _ (past (by kernel_rfl)) (fun hC => ?_)
        clear hK K
        try simp only [Act.put, List.getElem_toArray, List.getElem_cons_zero, List.getElem_cons_succ, List.setIfInBounds_toArray, List.set_cons_zero, List.set_cons_succ]
        refine wpAnyD_one (i := 16) (by kernel_rfl) rfl hC (fun K hK => ?_)
        clear hC
        go_simp
        refine (is_any E kc (kc : Nat) we2 (HS.out.below HP7.out.bel) HKC.out).mono ?_
        rintro e' we3 ⟨rfl, hb⟩
        rw [show (((kc : Nat) : Int) == ((kc : Nat) : Int)) = true by simp]
        have HP8 := Shut.mk (HP7.out.quiet hb)
        clear hb
        refine hK.out _ _ (past (by kernel_rfl)) (fun hC => ?_)
        clear hK K
        try simp only [Act.put, List.getElem_toArray, List.getElem_cons_zero, List.getElem_cons_succ, List.setIfInBounds_toArray, List.set_cons_zero, List.set_cons_succ]
        refine dQ 17 hC ?_; clear hC; intro hC
        refine wpAnyD_done (by kernel_rfl) ?_ _
        try simp only [Act.put, List.getElem_toArray, List.getElem_cons_zero, List.getElem_cons_succ, List.setIfInBounds_toArray, List.set_cons_zero, List.set_cons_succ]
        clear hC hHeld
        go_wp2_with (fail)
        go_meet
        exact ⟨X1, HP8⟩
      have e1 : (dk == 1) = false := by simpa using hk1
      clear hk1
      by_cases hk2 : dk = 2
      · have e2 : (dk == 2) = true := by simpa using hk2
        clear hk2
        have f1 : w3.cell? ⟨gd, 1, none⟩ = some (.int .i64 da) := by have := block_range HPD.out.db 1 _ rfl; simpa using this
        go_wp2_with (fail)
        refine (del_c HPD.out da).mono ?_
        rintro x' w4 ⟨rfl, hP⟩
        have HP6 := Shut.mk hP
        clear hP f1
        have f1 : w4.cell? ⟨gd, 1, none⟩ = some (.int .i64 da) := by have := block_range HP6.out.db 1 _ rfl; simpa using this
        go_wp2_with (fail)
        refine (del_r HP6.out da).mono ?_
        rintro x' w5 ⟨rfl, hP⟩
        have HP7 := Shut.mk hP
        clear hP f1
        go_wp2_with (fail)
        go_meet
        exact ⟨_, HP7⟩
      have e2 : (dk == 2) = false := by simpa using hk2
      clear hk2
      by_cases hk3 : dk = 3
      · have e3 : (dk == 3) = true := by simpa using hk3
        clear hk3
        obtain ⟨X1, hX1⟩ : ∃ X1, X1 = (dozeP X da dt).1 := ⟨_, rfl⟩
        obtain ⟨kc, hK⟩ : ∃ kc, kc = (dozeP X da dt).2 := ⟨_, rfl⟩
        have HQK := Shut.mk (show X1 = (dozeP X da dt).1 ∧ kc = (dozeP X da dt).2 from ⟨hX1, hK⟩)
        have HKC := Shut.mk (show kc = 0 ∨ kc ∈ S14 by rw [hK]; exact codes_doze X da dt)
        clear hX1 hK
        go_wp2_with (fail)
        refine wp_region_D (fun w' => w'.heap[gd]? = some (Obj.cells #[.int .i64 dk, .int .i64 da, .int .i64 dn, .bool dt, .bool (du 0), .bool (du 1), .bool (du 2), .bool (du 3)] 39 (0, 0))) 11 (by kernel_rfl) (show (World.drew w3).heap[gd]? = some (Obj.cells #[.int .i64 dk, .int .i64 da, .int .i64 dn, .bool dt, .bool (du 0), .bool (du 1), .bool (du 2), .bool (du 3)] 39 (0, 0)) from HPD.out.db) (fun hHeld hC => ?_)
        obtain ⟨w5, hw5⟩ : ∃ w5, w5 = World.drew w3 := ⟨_, rfl⟩
        have HP5 := Shut.mk (HPD.out.quiet (show Below w3.heap.size w3 w5 by rw [hw5]; exact (Below.refl _ _).drew))
        rw [← hw5] at hHeld ⊢
        clear hw5
        refine dP 0 hC hHeld ?_; clear hC; intro hC
        refine dP 1 hC hHeld ?_; clear hC; intro hC
        refine dT 2 hC hHeld (fun w hSw => (show w.cell? ⟨gd, 1, none⟩ = some (.int .i64 da) from by have := block_range hSw 1 _ rfl; simpa using this)) ?_; clear hC; intro hC
        refine dP 3 hC hHeld ?_; clear hC; intro hC
        refine dT 4 hC hHeld (fun w hSw => (show w.cell? ⟨gd, 3, none⟩ = some (.bool dt) from by have := block_range hSw 3 _ rfl; simpa using this)) ?_; clear hC; intro hC
        refine dP 6 hC hHeld ?_; clear hC; intro hC
        refine dP 7 hC hHeld ?_; clear hC; intro hC
        refine dT 8 hC hHeld (fun w hSw => (show w.cell? ⟨gd, 1, none⟩ = some (.int .i64 da) from by have := block_range hSw 1 _ rfl; simpa using this)) ?_; clear hC; intro hC
        refine dP 9 hC hHeld ?_; clear hC; intro hC
        refine dT 10 hC hHeld (fun w hSw => (show w.cell? ⟨gd, 3, none⟩ = some (.bool dt) from by have := block_range hSw 3 _ rfl; simpa using this)) ?_; clear hC; intro hC
        refine wpAnyD_one (i := 5) (by kernel_rfl) rfl hC (fun K hK => ?_)
        clear hC
        go_simp
        refine (doze_c HP5.out HS.out (by decide) da dt).mono ?_
        rintro e' we1 ⟨rfl, hP⟩
        rw [← HQK.out.1] at hP
        rw [← HQK.out.2]
        have HP6 := Shut.mk hP
        clear hP
        have hHeld2 := HP6.out.db
        clear hHeld
        have hHeld := hHeld2
        clear hHeld2
        refine hK.out _ _ (fun _ => hHeld) (fun hC => ?_)
        clear hK K
        try simp only [Act.put, List.getElem_toArray, List.getElem_cons_zero, List.getElem_cons_succ, List.setIfInBounds_toArray, List.set_cons_zero, List.set_cons_succ]
        refine wpAnyD_one (i := 11) (by kernel_rfl) rfl hC (fun K hK => ?_)
        clear hC
        go_simp
        refine (doze_r HP6.out da dt).mono ?_
        rintro e' we2 ⟨rfl, hP⟩
        rw [← HQK.out.1] at hP
        rw [← HQK.out.2]
        have HP7 := Shut.mk hP
        clear hP
        refine hK.out _ _ (past (by kernel_rfl)) (fun hC => ?_)
        clear hK K
        try simp only [Act.put, List.getElem_toArray, List.getElem_cons_zero, List.getElem_cons_succ, List.setIfInBounds_toArray, List.set_cons_zero, List.set_cons_succ]
        refine wpAnyD_one (i := 12) (by kernel_rfl) rfl hC (fun K hK => ?_)
        clear hC
        go_simp
        refine (is_any E kc (kc : Nat) we2 (HS.out.below HP7.out.bel) HKC.out).mono ?_
        rintro e' we3 ⟨rfl, hb⟩
        rw [show (((kc : Nat) : Int) == ((kc : Nat) : Int)) = true by simp]
        have HP8 := Shut.mk (HP7.out.quiet hb)
        clear hb
        refine hK.out _ _ (past (by kernel_rfl)) (fun hC => ?_)
        clear hK K
        try simp only [Act.put, List.getElem_toArray, List.getElem_cons_zero, List.getElem_cons_succ, List.setIfInBounds_toArray, List.set_cons_zero, List.set_cons_succ]
        refine dQ 13 hC ?_; clear hC; intro hC
        refine wpAnyD_done (by kernel_rfl) ?_ _
        try simp only [Act.put, List.getElem_toArray, List.getElem_cons_zero, List.getElem_cons_succ, List.setIfInBounds_toArray, List.set_cons_zero, List.set_cons_succ]
        clear hC hHeld
        go_wp2_with (fail)
        go_meet
        exact ⟨X1, HP8⟩
      have e3 : (dk == 3) = false := by simpa using hk3
      clear hk3
      by_cases hk4 : dk = 4
      · have e4 : (dk == 4) = true := by simpa using hk4
        clear hk4
        obtain ⟨X1, hX1⟩ : ∃ X1, X1 = (pollP X da).1 := ⟨_, rfl⟩
        obtain ⟨kc, hK⟩ : ∃ kc, kc = (pollP X da).2 := ⟨_, rfl⟩
        have HQK := Shut.mk (show X1 = (pollP X da).1 ∧ kc = (pollP X da).2 from ⟨hX1, hK⟩)
        have HKC := Shut.mk (show kc = 0 ∨ kc ∈ S14 by rw [hK]; exact codes_poll X da)
        clear hX1 hK
        go_wp2_with (fail)
        refine wp_region_D (fun w' => w'.heap[gd]? = some (Obj.cells #[.int .i64 dk, .int .i64 da, .int .i64 dn, .bool dt, .bool (du 0), .bool (du 1), .bool (du 2), .bool (du 3)] 39 (0, 0))) 7 (by kernel_rfl) (show (World.drew w3).heap[gd]? = some (Obj.cells #[.int .i64 dk, .int .i64 da, .int .i64 dn, .bool dt, .bool (du 0), .bool (du 1), .bool (du 2), .bool (du 3)] 39 (0, 0)) from HPD.out.db) (fun hHeld hC => ?_)
        obtain ⟨w5, hw5⟩ : ∃ w5, w5 = World.drew w3 := ⟨_, rfl⟩
        have HP5 := Shut.mk (HPD.out.quiet (show Below w3.heap.size w3 w5 by rw [hw5]; exact (Below.refl _ _).drew))
        rw [← hw5] at hHeld ⊢
        clear hw5
        refine dP 0 hC hHeld ?_; clear hC; intro hC
        refine dP 1 hC hHeld ?_; clear hC; intro hC
        refine dT 2 hC hHeld (fun w hSw => (show w.cell? ⟨gd, 1, none⟩ = some (.int .i64 da) from by have := block_range hSw 1 _ rfl; simpa using this)) ?_; clear hC; intro hC
        refine dP 4 hC hHeld ?_; clear hC; intro hC
        refine dP 5 hC hHeld ?_; clear hC; intro hC
        refine dT 6 hC hHeld (fun w hSw => (show w.cell? ⟨gd, 1, none⟩ = some (.int .i64 da) from by have := block_range hSw 1 _ rfl; simpa using this)) ?_; clear hC; intro hC
        refine wpAnyD_one (i := 3) (by kernel_rfl) rfl hC (fun K hK => ?_)
        clear hC
        go_simp
        refine (poll_c HP5.out HS.out (by decide) (by decide) da).mono ?_
        rintro e' we1 ⟨rfl, hP⟩
        rw [← HQK.out.1] at hP
        rw [← HQK.out.2]
        have HP6 := Shut.mk hP
        clear hP
        have hHeld2 := HP6.out.db
        clear hHeld
        have hHeld := hHeld2
        clear hHeld2
        refine hK.out _ _ (fun _ => hHeld) (fun hC => ?_)
        clear hK K
        try simp only [Act.put, List.getElem_toArray, List.getElem_cons_zero, List.getElem_cons_succ, List.setIfInBounds_toArray, List.set_cons_zero, List.set_cons_succ]
        refine wpAnyD_one (i := 7) (by kernel_rfl) rfl hC (fun K hK => ?_)
        clear hC
        go_simp
        refine (poll_r HP6.out da).mono ?_
        rintro e' we2 ⟨rfl, hP⟩
        rw [← HQK.out.1] at hP
        rw [← HQK.out.2]
        have HP7 := Shut.mk hP
        clear hP
        refine hK.out _ _ (past (by kernel_rfl)) (fun hC => ?_)
        clear hK K
        try simp only [Act.put, List.getElem_toArray, List.getElem_cons_zero, List.getElem_cons_succ, List.setIfInBounds_toArray, List.set_cons_zero, List.set_cons_succ]
        refine wpAnyD_one (i := 8) (by kernel_rfl) rfl hC (fun K hK => ?_)
        clear hC
        go_simp
        refine (is_any E kc (kc : Nat) we2 (HS.out.below HP7.out.bel) HKC.out).mono ?_
        rintro e' we3 ⟨rfl, hb⟩
        rw [show (((kc : Nat) : Int) == ((kc : Nat) : Int)) = true by simp]
        have HP8 := Shut.mk (HP7.out.quiet hb)
        clear hb
        refine hK.out _ _ (past (by kernel_rfl)) (fun hC => ?_)
        clear hK K
        try simp only [Act.put, List.getElem_toArray, List.getElem_cons_zero, List.getElem_cons_succ, List.setIfInBounds_toArray, List.set_cons_zero, List.set_cons_succ]
        refine dQ 9 hC ?_; clear hC; intro hC
        refine wpAnyD_done (by kernel_rfl) ?_ _
        try simp only [Act.put, List.getElem_toArray, List.getElem_cons_zero, List.getElem_cons_succ, List.setIfInBounds_toArray, List.set_cons_zero, List.set_cons_succ]
        clear hC hHeld
        go_wp2_with (fail)
        go_meet
        exact ⟨X1, HP8⟩
      have e4 : (dk == 4) = false := by simpa using hk4
      clear hk4
      by_cases hk5 : dk = 5
      · have e5 : (dk == 5) = true := by simpa using hk5
        clear hk5
        obtain ⟨X1, hX1⟩ : ∃ X1, X1 = (trigP X da dn).1 := ⟨_, rfl⟩
        obtain ⟨kc, hK⟩ : ∃ kc, kc = (trigP X da dn).2 := ⟨_, rfl⟩
        have HQK := Shut.mk (show X1 = (trigP X da dn).1 ∧ kc = (trigP X da dn).2 from ⟨hX1, hK⟩)
        have HKC := Shut.mk (show kc = 0 ∨ kc ∈ S14 by rw [hK]; exact codes_trig X da dn)
        clear hX1 hK
        go_wp2_with (fail)
        refine wp_region_D (fun w' => w'.heap[gd]? = some (Obj.cells #[.int .i64 dk, .int .i64 da, .int .i64 dn, .bool dt, .bool (du 0), .bool (du 1), .bool (du 2), .bool (du 3)] 39 (0, 0))) 11 (by kernel_rfl) (show (World.drew w3).heap[gd]? = some (Obj.cells #[.int .i64 dk, .int .i64 da, .int .i64 dn, .bool dt, .bool (du 0), .bool (du 1), .bool (du 2), .bool (du 3)] 39 (0, 0)) from HPD.out.db) (fun hHeld hC => ?_)
        obtain ⟨w5, hw5⟩ : ∃ w5, w5 = World.drew w3 := ⟨_, rfl⟩
        have HP5 := Shut.mk (HPD.out.quiet (show Below w3.heap.size w3 w5 by rw [hw5]; exact (Below.refl _ _).drew))
        rw [← hw5] at hHeld ⊢
        clear hw5
        refine dP 0 hC hHeld ?_; clear hC; intro hC
        refine dP 1 hC hHeld ?_; clear hC; intro hC
        refine dT 2 hC hHeld (fun w hSw => (show w.cell? ⟨gd, 1, none⟩ = some (.int .i64 da) from by have := block_range hSw 1 _ rfl; simpa using this)) ?_; clear hC; intro hC
        refine dP 3 hC hHeld ?_; clear hC; intro hC
        refine dT 4 hC hHeld (fun w hSw => (show w.cell? ⟨gd, 2, none⟩ = some (.int .i64 dn) from by have := block_range hSw 2 _ rfl; simpa using this)) ?_; clear hC; intro hC
        refine dP 6 hC hHeld ?_; clear hC; intro hC
        refine dP 7 hC hHeld ?_; clear hC; intro hC
        refine dT 8 hC hHeld (fun w hSw => (show w.cell? ⟨gd, 1, none⟩ = some (.int .i64 da) from by have := block_range hSw 1 _ rfl; simpa using this)) ?_; clear hC; intro hC
        refine dP 9 hC hHeld ?_; clear hC; intro hC
        refine dT 10 hC hHeld (fun w hSw => (show w.cell? ⟨gd, 2, none⟩ = some (.int .i64 dn) from by have := block_range hSw 2 _ rfl; simpa using this)) ?_; clear hC; intro hC
        refine wpAnyD_one (i := 5) (by kernel_rfl) rfl hC (fun K hK => ?_)
        clear hC
        go_simp
        refine (trig_c HP5.out HS.out (by decide) (by decide) (by decide) da dn).mono ?_
        rintro e' we1 ⟨rfl, hP⟩
        rw [← HQK.out.1] at hP
        rw [← HQK.out.2]
        have HP6 := Shut.mk hP
        clear hP
        have hHeld2 := HP6.out.db
        clear hHeld
        have hHeld := hHeld2
        clear hHeld2
        refine hK.out _ _ (fun _ => hHeld) (fun hC => ?_)
        clear hK K
        try simp only [Act.put, List.getElem_toArray, List.getElem_cons_zero, List.getElem_cons_succ, List.setIfInBounds_toArray, List.set_cons_zero, List.set_cons_succ]
        refine wpAnyD_one (i := 11) (by kernel_rfl) rfl hC (fun K hK => ?_)
        clear hC
        go_simp
        refine (trig_r HP6.out da dn).mono ?_
        rintro e' we2 ⟨rfl, hP⟩
        rw [← HQK.out.1] at hP
        rw [← HQK.out.2]
        have HP7 := Shut.mk hP
        clear hP
        refine hK.out _ _ (past (by kernel_rfl)) (fun hC => ?_)
        clear hK K
        try simp only [Act.put, List.getElem_toArray, List.getElem_cons_zero, List.getElem_cons_succ, List.setIfInBounds_toArray, List.set_cons_zero, List.set_cons_succ]
        refine wpAnyD_one (i := 12) (by kernel_rfl) rfl hC (fun K hK => ?_)
        clear hC
        go_simp
        refine (is_any E kc (kc : Nat) we2 (HS.out.below HP7.out.bel) HKC.out).mono ?_
        rintro e' we3 ⟨rfl, hb⟩
        rw [show (((kc : Nat) : Int) == ((kc : Nat) : Int)) = true by simp]
        have HP8 := Shut.mk (HP7.out.quiet hb)
        clear hb
        refine hK.out _ _ (past (by kernel_rfl)) (fun hC => ?_)
        clear hK K
        try simp only [Act.put, List.getElem_toArray, List.getElem_cons_zero, List.getElem_cons_succ, List.setIfInBounds_toArray, List.set_cons_zero, List.set_cons_succ]
        refine dQ 13 hC ?_; clear hC; intro hC
        refine wpAnyD_done (by kernel_rfl) ?_ _
        try simp only [Act.put, List.getElem_toArray, List.getElem_cons_zero, List.getElem_cons_succ, List.setIfInBounds_toArray, List.set_cons_zero, List.set_cons_succ]
        clear hC hHeld
        go_wp2_with (fail)
        go_meet
        exact ⟨X1, HP8⟩
      have e5 : (dk == 5) = false := by simpa using hk5
      clear hk5
      by_cases hk6 : dk = 6
      · have e6 : (dk == 6) = true := by simpa using hk6
        clear hk6
        obtain ⟨X1, hX1⟩ : ∃ X1, X1 = (sentP X da dn dt).1 := ⟨_, rfl⟩
        obtain ⟨la, hla⟩ : ∃ la, la = (sentP X da dn dt).2.1 := ⟨_, rfl⟩
        obtain ⟨kc, hK⟩ : ∃ kc, kc = (sentP X da dn dt).2.2 := ⟨_, rfl⟩
        have HQK := Shut.mk (show X1 = (sentP X da dn dt).1 ∧ la = (sentP X da dn dt).2.1 ∧ kc = (sentP X da dn dt).2.2 from ⟨hX1, hla, hK⟩)
        have HKC := Shut.mk (show kc = 0 ∨ kc ∈ S14 by rw [hK]; exact codes_sent X da dn dt)
        have hne : (la != la) = false := by simp
        clear hX1 hla hK
        have f1 : w3.cell? ⟨gd, 1, none⟩ = some (.int .i64 da) := by have := block_range HPD.out.db 1 _ rfl; simpa using this
        have f2 : w3.cell? ⟨gd, 2, none⟩ = some (.int .i64 dn) := by have := block_range HPD.out.db 2 _ rfl; simpa using this
        have f3 : w3.cell? ⟨gd, 3, none⟩ = some (.bool dt) := by have := block_range HPD.out.db 3 _ rfl; simpa using this
        go_wp2_with (fail)
        refine (sent_c HPD.out HS.out (by decide) (by decide) (by decide) da dn dt).mono ?_
        rintro x' w4 ⟨rfl, hP⟩
        rw [← HQK.out.1] at hP
        rw [← HQK.out.2.1, ← HQK.out.2.2]
        have HP6 := Shut.mk hP
        clear hP f1 f2 f3
        have f1 : w4.cell? ⟨gd, 1, none⟩ = some (.int .i64 da) := by have := block_range HP6.out.db 1 _ rfl; simpa using this
        have f2 : w4.cell? ⟨gd, 2, none⟩ = some (.int .i64 dn) := by have := block_range HP6.out.db 2 _ rfl; simpa using this
        have f3 : w4.cell? ⟨gd, 3, none⟩ = some (.bool dt) := by have := block_range HP6.out.db 3 _ rfl; simpa using this
        go_wp2_with (fail)
        refine (sent_r HP6.out HINV.out da dn dt).mono ?_
        rintro x' w5 ⟨rfl, hP⟩
        rw [← HQK.out.1] at hP
        rw [← HQK.out.2.1, ← HQK.out.2.2]
        have HP7 := Shut.mk hP
        clear hP f1 f2 f3
        go_wp2_with (fail)
        refine (is_any E kc (kc : Nat) w5 (HS.out.below HP7.out.bel) HKC.out).mono ?_
        rintro x' w6 ⟨rfl, hb⟩
        rw [show (((kc : Nat) : Int) == ((kc : Nat) : Int)) = true by simp]
        have HP8 := Shut.mk (HP7.out.quiet hb)
        clear hb
        go_wp2_with (fail)
        go_meet
        exact ⟨X1, HP8⟩
      have e6 : (dk == 6) = false := by simpa using hk6
      clear hk6
      obtain ⟨X1, hX1⟩ : ∃ X1, X1 = (closeP X da).1 := ⟨_, rfl⟩
      obtain ⟨kc, hK⟩ : ∃ kc, kc = (closeP X da).2 := ⟨_, rfl⟩
      have HQK := Shut.mk (show X1 = (closeP X da).1 ∧ kc = (closeP X da).2 from ⟨hX1, hK⟩)
      have HKC := Shut.mk (show kc = 0 ∨ kc ∈ S14 by rw [hK]; exact codes_close X da)
      clear hX1 hK
      go_wp2_with (fail)
      refine wp_region_D (fun w' => w'.heap[gd]? = some (Obj.cells #[.int .i64 dk, .int .i64 da, .int .i64 dn, .bool dt, .bool (du 0), .bool (du 1), .bool (du 2), .bool (du 3)] 39 (0, 0))) 7 (by kernel_rfl) (show (World.drew w3).heap[gd]? = some (Obj.cells #[.int .i64 dk, .int .i64 da, .int .i64 dn, .bool dt, .bool (du 0), .bool (du 1), .bool (du 2), .bool (du 3)] 39 (0, 0)) from HPD.out.db) (fun hHeld hC => ?_)
      obtain ⟨w5, hw5⟩ : ∃ w5, w5 = World.drew w3 := ⟨_, rfl⟩
      have HP5 := Shut.mk (HPD.out.quiet (show Below w3.heap.size w3 w5 by rw [hw5]; exact (Below.refl _ _).drew))
      rw [← hw5] at hHeld ⊢
      clear hw5
      refine dP 0 hC hHeld ?_; clear hC; intro hC
      refine dP 1 hC hHeld ?_; clear hC; intro hC
      refine dT 2 hC hHeld (fun w hSw => (show w.cell? ⟨gd, 1, none⟩ = some (.int .i64 da) from by have := block_range hSw 1 _ rfl; simpa using this)) ?_; clear hC; intro hC
      refine dP 4 hC hHeld ?_; clear hC; intro hC
      refine dP 5 hC hHeld ?_; clear hC; intro hC
      refine dT 6 hC hHeld (fun w hSw => (show w.cell? ⟨gd, 1, none⟩ = some (.int .i64 da) from by have := block_range hSw 1 _ rfl; simpa using this)) ?_; clear hC; intro hC
      refine wpAnyD_one (i := 3) (by kernel_rfl) rfl hC (fun K hK => ?_)
      clear hC
      go_simp
      refine (close_c HP5.out HS.out (by decide) (by decide) da).mono ?_
      rintro e' we1 ⟨rfl, hP⟩
      rw [← HQK.out.1] at hP
      rw [← HQK.out.2]
      have HP6 := Shut.mk hP
      clear hP
      have hHeld2 := HP6.out.db
      clear hHeld
      have hHeld := hHeld2
      clear hHeld2
      refine hK.out _ _ (fun _ => hHeld) (fun hC => ?_)
      clear hK K
      try simp only [Act.put, List.getElem_toArray, List.getElem_cons_zero, List.getElem_cons_succ, List.setIfInBounds_toArray, List.set_cons_zero, List.set_cons_succ]
      refine wpAnyD_one (i := 7) (by kernel_rfl) rfl hC (fun K hK => ?_)
      clear hC
      go_simp
      refine (close_r HP6.out da).mono ?_
      rintro e' we2 ⟨rfl, hP⟩
      rw [← HQK.out.1] at hP
      rw [← HQK.out.2]
      have HP7 := Shut.mk hP
      clear hP
      refine hK.out _ _ (past (by kernel_rfl)) (fun hC => ?_)
      clear hK K
      try simp only [Act.put, List.getElem_toArray, List.getElem_cons_zero, List.getElem_cons_succ, List.setIfInBounds_toArray, List.set_cons_zero, List.set_cons_succ]
      refine wpAnyD_one (i := 8) (by kernel_rfl) rfl hC (fun K hK => ?_)
      clear hC
      go_simp
      refine (is_any E kc (kc : Nat) we2 (HS.out.below HP7.out.bel) HKC.out).mono ?_
      rintro e' we3 ⟨rfl, hb⟩
      rw [show (((kc : Nat) : Int) == ((kc : Nat) : Int)) = true by simp]
      have HP8 := Shut.mk (HP7.out.quiet hb)
      clear hb
      refine hK.out _ _ (past (by kernel_rfl)) (fun hC => ?_)
      clear hK K
      try simp only [Act.put, List.getElem_toArray, List.getElem_cons_zero, List.getElem_cons_succ, List.setIfInBounds_toArray, List.set_cons_zero, List.set_cons_succ]
      refine dQ 9 hC ?_; clear hC; intro hC
      refine wpAnyD_done (by kernel_rfl) ?_ _
      try simp only [Act.put, List.getElem_toArray, List.getElem_cons_zero, List.getElem_cons_succ, List.setIfInBounds_toArray, List.set_cons_zero, List.set_cons_succ]
      clear hC hHeld
      go_wp2_with (fail)
      go_meet
      exact ⟨X1, HP8⟩
    case rest =>
      obtain ⟨X2, HP2⟩ := hcut
      clear HPD
      have HI2 := Shut.mk HP2.out.pw.law.ps.inv
      go_wp2_with (fail)
      go_loopw [14, 15] (fun s14 _ wr => ∃ a : Nat, a ≤ 18 ∧ s14 = .int .i64 (a : Int) ∧ Shut (PlD w wr g h c gd X2 X2 X (Obj.cells #[.int .i64 dk, .int .i64 da, .int .i64 dn, .bool dt, .bool (du 0), .bool (du 1), .bool (du 2), .bool (du 3)] 39 (0, 0)))) (fun s14 _ _ => 18 - (intOf s14).toNat)
      case atStart => exact ⟨0, Nat.zero_le _, rfl, HP2⟩
      case round =>
        clear HP2
        obtain ⟨a, ha, rfl, HQ⟩ := hrel
        by_cases ha18 : a = 18
        · subst ha18
          have hw1 : (wv != wv) = false := by simp
          clear ha
          go_wp2_with (fail)
          refine (asl_t c X 1 wr HQ.out.cl).mono ?_
          rintro x' wq ⟨rfl, rfl⟩
          rw [← HWV.out]
          go_wp2_with (fail)
          go_roundw
          case rel => exact ⟨i + 1, X2, by have := HIN2.out; omega, by go_num, Shut.mk HQ.out.pw⟩
          case measure => have := HIN2.out; simp [intOf]; omega
        have h17 : (a : Int) ≤ 17 := by omega
        have HA := Shut.mk (show a < 18 by omega)
        obtain ⟨v1, hv1⟩ : ∃ v1, v1 = aslP X2 (a : Int) := ⟨_, rfl⟩
        obtain ⟨v2, hv2⟩ : ∃ v2, v2 = askP X2 (a : Int) := ⟨_, rfl⟩
        have HV1 := Shut.mk hv1
        have HV2 := Shut.mk hv2
        have n1 : (v1 != v1) = false := by simp
        have n2 : (v2 != v2) = false := by simp
        clear ha ha18 hv1 hv2
        go_wp2_with (fail)
        refine (asl_t g X2 (a : Int) wr HQ.out.pw.law.ps).mono ?_
        rintro x' wq ⟨rfl, rfl⟩
        rw [← HV1.out]
        go_wp2_with (fail)
        refine (rasleep_t h X2 (a : Int) wr HQ.out.pw.rp).mono ?_
        rintro x' wq ⟨rfl, rfl⟩
        rw [← HV1.out]
        go_wp2_with (fail)
        refine (ask_t g X2 (a : Int) wr HQ.out.pw.law.ps).mono ?_
        rintro x' wq ⟨rfl, rfl⟩
        rw [← HV2.out]
        go_wp2_with (fail)
        refine (rpolled_t h X2 (a : Int) wr HQ.out.pw.rp).mono ?_
        rintro x' wq ⟨rfl, rfl⟩
        rw [← HV2.out]
        clear HV1 HV2
        go_wp2_with (fail)
        go_loopw [15] (fun s15 wr => ∃ k : Nat, k ≤ 6 ∧ s15 = .int .i64 ((k : Int) - 1) ∧ Shut (PlD w wr g h c gd X2 X2 X (Obj.cells #[.int .i64 dk, .int .i64 da, .int .i64 dn, .bool dt, .bool (du 0), .bool (du 1), .bool (du 2), .bool (du 3)] 39 (0, 0)))) (fun s15 _ => (5 - intOf s15).toNat)
        case atStart => exact ⟨0, Nat.zero_le _, rfl, HQ⟩
        case round =>
          clear HQ n1 n2
          obtain ⟨k, hk, rfl, HQ⟩ := hrel
          obtain ⟨z, hz⟩ : ∃ z : Int, z = (k : Int) - 1 := ⟨_, rfl⟩
          have HZ := Shut.mk hz
          rw [← hz]
          by_cases hk6 : k = 6
          · have hz5 : ¬ z ≤ 4 := by omega
            have hz6 : (4 : Int) < z := by omega
            clear hk hk6 hz
            go_wp2_with (fail)
            go_roundw
            case rel => exact ⟨a + 1, by have := HA.out; omega, by go_num, HQ⟩
            case measure => have := HA.out; simp [intOf]; omega
          · have hz4 : z ≤ 4 := by omega
            have HKL := Shut.mk (show k < 6 by omega)
            have HZZ := Shut.mk (show -1 ≤ z ∧ z ≤ 4 by omega)
            obtain ⟨v3, hv3⟩ : ∃ v3, v3 = mayP X2 (a : Int) z := ⟨_, rfl⟩
            have HV3 := Shut.mk hv3
            have n3 : (v3 != v3) = false := by simp
            have y1 : IntKind.i64.wrap (z + 1) = z + 1 := IntWalk.i64_in _ ⟨by omega, by omega⟩
            clear hk hk6 hz hv3
            go_wp2_with (fail)
            refine (may_t g X2 (a : Int) z wr HQ.out.pw.law.ps).mono ?_
            rintro x' wq ⟨rfl, rfl⟩
            rw [← HV3.out]
            go_wp2_with (fail)
            refine (rmay_t h X2 (a : Int) z wr HQ.out.pw.rp).mono ?_
            rintro x' wq ⟨rfl, hb⟩
            rw [← HV3.out]
            have HQ2 := Shut.mk (HQ.out.quiet hb)
            clear hb HQ
            go_wp2_with (fail)
            go_roundw
            case rel => exact ⟨k + 1, by have := HKL.out; omega, by rw [HZ.out]; congr 1; omega, HQ2⟩
            case measure => have := HZZ.out; simp [intOf]; omega

end Go.Proofs.YtaiegmnjoffloaaDoor.psPlays
