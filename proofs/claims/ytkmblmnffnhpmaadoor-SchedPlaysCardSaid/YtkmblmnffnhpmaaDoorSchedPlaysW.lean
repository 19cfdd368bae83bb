/-
  The walk of muezzin/muezzinlaw20.SchedPlays: the Go text returns true.
-/
import Derived.Test.YtkmblmnffnhpmaaDoorOpenS
import Derived.Test.YtkmblmnffnhpmaaDoorNum
import Derived.Test.YtkmblmnffnhpmaaDoorSchedF
import Derived.Test.YtkmblmnffnhpmaaDoorSchedY
import Derived.Test.YtkmblmnffnhpmaaDoorIntsA
import Derived.Test.YtkmblmnffnhpmaaDoorTkD
import Derived.Test.YtkmblmnffnhpmaaDoorTkH
import Derived.LoopTactic
import Derived.Lib.MinMax
import Derived.Deep.CutRange
import Derived.Deep.CutBlock
import Derived.WalkKit
import Derived.ProofKit
import Derived.Below
namespace Go.Proofs.YtkmblmnffnhpmaaDoor.schedPlays
open Go.ChangeShapes Go.WideShapes Go.ChangeAt Go.RowKit Go.Deep
set_option linter.unusedVariables false
set_option linter.unusedSimpArgs false

open Go.Proofs.YtkmblmnffnhpmaaDoor

theorem size5 : (Tryd.prog.info? 31).map (·.size) = some 5 := by kernel_rfl
theorem below_put {w : World} {g B : Nat} {wa : World} (h : Below B wa w) (hg : B ≤ g) (hB : B ≤ w.heap.size) (cs : Array Value) : Below B wa (w.setRow g cs) := h.trans ((only_setRow w g cs).below (fun i hi e => by have e : i = g := e; omega) hB)
theorem same_refl (xs : List Int) : sameB xs xs = true := by unfold sameB; simp

/-! ### THE WALK -/
set_option maxRecDepth 100000 in
set_option maxHeartbeats 8000000 in
theorem walk (a0 : Option Addr) (cap0 : Nat) (l0 : List Dos) (w : World) (E : Nat → Addr) (hS : Sent w E [101, 102, 103, 104, 105, 106, 107, 108, 109, 110, 111, 112, 113, 114]) (w0 : RowS doC 5 do00 w a0 l0.length l0 ∧ l0.length ≤ cap0 ∧ ∀ d ∈ l0, okDo d) :
    Calls Tryd.prog 3 #[.slice a0 l0.length cap0] w fun e w' => e = .returned (.bool true) ∧ Below w.heap.size w w' := by
  obtain ⟨hr0, hc0, hok0⟩ := w0
  have HROW := Shut.mk hr0
  obtain ⟨n, hn⟩ : ∃ n : Nat, n = l0.length := ⟨_, rfl⟩
  have HN := Shut.mk hn
  have hle := hr0.le
  rw [← hn] at hle ⊢
  clear hr0 hc0 hok0 hn
  have HS := Shut.mk hS
  clear hS
  go_enter Tryd.func3, Tryd.ntmps3
  go_wp2_with (fail)
  refine (first_any w E HS.out (by decide) (by decide) (by decide)).mono ?_
  rintro x wa ⟨rfl, hBa⟩
  have HBa := Shut.mk hBa
  clear hBa
  rcases Nat.lt_or_ge 100 n with hN | hN
  · have hN' : (100 : Int) < (n : Int) := by omega
    go_wp2_with (fail)
    go_ret
    exact ⟨rfl, HBa.out⟩
  have hN1 : ¬ (100 : Int) < (n : Int) := by omega
  have HN100 := Shut.mk hN
  clear hN
  go_wp2_with (fail)
  refine (new_l HBa.out).mono ?_
  rintro x wb ⟨S, g, rfl, hl, hb, hs⟩
  have HP0 := Shut.mk (show PlA w (wb.alloc (Obj.cells #[.slice none 0 0] 29 (0, 0))) g wb.heap.size [] from
    ⟨S, .slice none 0 0, hl.quiet ((Below.refl _ _).alloc (Nat.le_refl _) _), rs_zero wb hl.bel.size, fun k hk e => by
      have h1 := hl.there k hk
      rcases e with e | e
      · omega
      · cases e⟩)
  clear hl hb hs
  go_wp2_with (fail)
  generalize World.alloc wb _ = wc at *
  obtain ⟨h, hh⟩ : ∃ h, h = wb.heap.size := ⟨_, rfl⟩
  rw [← hh] at HP0 ⊢
  clear hh hN1
  go_loopw [6, 8, 9, 10, 11, 12, 13] (fun s6 _ _ _ _ _ _ wr => ∃ (i : Nat) (l : List Tu), i ≤ n ∧ s6 = .int .i64 (i : Int) ∧ Shut (PlA w wr g h l ∧ l.length ≤ i)) (fun s6 _ _ _ _ _ _ _ => n - (intOf s6).toNat)
  case atStart => exact ⟨0, [], Nat.zero_le _, rfl, Shut.mk ⟨HP0.out, Nat.le_refl _⟩⟩
  case round =>
    clear HP0
    obtain ⟨i, l, hi, rfl, HP⟩ := hrel
    by_cases hin : i < n
    rotate_left
    · obtain rfl : i = n := by omega
      have hge : ¬ (i : Int) < (i : Int) := by omega
      have hge2 : ¬ i < i := by omega
      clear hi hin
      go_wp2_with (fail)
      go_ret
      exact ⟨rfl, HP.out.1.bel⟩
    have hin2 : (i : Int) < (n : Int) := by omega
    have HIN2 := Shut.mk hin
    have HLL := Shut.mk (show l.length ≤ i ∧ i < 100 from ⟨HP.out.2, by have := HN100.out; omega⟩)
    have HINV := Shut.mk HP.out.1.inv
    obtain ⟨b, off, rfl, hrg⟩ := (HROW.out.below HP.out.1.bel).el i (by rw [← HN.out]; exact hin)
    generalize l0.getD i do00 = dd at *
    obtain ⟨dk, da, db, dn, dt⟩ := dd
    have HRG := Shut.mk (show wr.rangeAt b (off + i * 5) [.int .i64 dk, .int .i64 da, .int .i64 db, .int .i64 dn, .bool dt] from hrg)
    clear hrg hi
    obtain ⟨gd, hgd⟩ : ∃ x, x = wr.heap.size := ⟨_, rfl⟩
    have HGD := Shut.mk hgd
    have HAd := Shut.mk ((Below.refl wr.heap.size wr).alloc (Nat.le_refl _) (Obj.cells #[.int .i64 0, .int .i64 0, .int .i64 0, .int .i64 0, .bool false] 31 (0, 0)))
    have HXd := Shut.mk (show (wr.alloc (Obj.cells #[.int .i64 0, .int .i64 0, .int .i64 0, .int .i64 0, .bool false] 31 (0, 0))).heap[gd]? = some (Obj.cells #[.int .i64 0, .int .i64 0, .int .i64 0, .int .i64 0, .bool false] 31 (0, 0)) by rw [hgd]; exact (MapKept.heap_alloc wr (Obj.cells #[.int .i64 0, .int .i64 0, .int .i64 0, .int .i64 0, .bool false] 31 (0, 0))).1)
    obtain ⟨w1, hw1⟩ : ∃ w4, w4 = (wr.alloc (Obj.cells #[.int .i64 0, .int .i64 0, .int .i64 0, .int .i64 0, .bool false] 31 (0, 0))).setRow gd #[.int .i64 dk, .int .i64 da, .int .i64 db, .int .i64 dn, .bool dt] := ⟨_, rfl⟩
    have HDB := Shut.mk (show w1.heap[gd]? = some (Obj.cells #[.int .i64 dk, .int .i64 da, .int .i64 db, .int .i64 dn, .bool dt] 31 (0, 0)) by rw [hw1]; exact setRow_heap _ gd _ #[.int .i64 dk, .int .i64 da, .int .i64 db, .int .i64 dn, .bool dt] _ (0, 0) HXd.out)
    have HBd := Shut.mk (show Below wr.heap.size wr w1 by rw [hw1]; exact below_put HAd.out (by omega) HAd.out.size _)
    have HW1 := Shut.mk hw1.symm
    have HGL := Shut.mk (Nat.le_of_eq hgd.symm)
    clear hgd hw1
    go_wp2_with (first
      | (refine wpList_load_mid rfl 31 (.tmp 34) rfl b (off + i * 5) rfl [.int .i64 dk, .int .i64 da, .int .i64 db, .int .i64 dn, .bool dt] _ HRG.out Tryd.underlying31 rfl size5 ?_)
      | (refine wpList_store_row rfl 31 (.tmp 7) (.tmp 35) rfl gd #[.int .i64 dk, .int .i64 da, .int .i64 db, .int .i64 dn, .bool dt] (by show Value.pointer (some ⟨wr.heap.size, 0, none⟩) = _; rw [HGD.out]) rfl 31 _ HXd.out size5 rfl (by simp [Value.oneCell']) ?_
         rw [HW1.out, ← HGD.out]))
    refine (clone_a (HP.out.1.quiet HBd.out)).mono ?_
    rintro x' w2 ⟨c, Z, rfl, hz, hzn, hb2⟩
    have HZ := Shut.mk hz
    have HZN := Shut.mk (show (∀ k, Z k → w1.heap.size ≤ k) ∧ Below w1.heap.size w1 w2 from ⟨hzn, hb2⟩)
    clear hz hzn hb2
    go_wp2_with (fail)
    refine (order_r HZ.out).mono ?_
    rintro x' w3 ⟨A, c9, rfl, hr9, hA9, hb3⟩
    have HPD := Shut.mk (show PlD w w3 g h c gd l l l A (Obj.cells #[.int .i64 dk, .int .i64 da, .int .i64 db, .int .i64 dn, .bool dt] 31 (0, 0)) from HP.out.1.begin HBd.out HDB.out HGL.out HZ.out HZN.out.2 HZN.out.1 hr9 hA9 hb3)
    obtain ⟨m9, hm9⟩ : ∃ m, m = (ordI l).length := ⟨_, rfl⟩
    rw [← hm9]
    have HM9 := Shut.mk hm9
    clear hr9 hA9 hb3 HZ HZN HP HDB HBd HXd HAd HGD HRG hm9 HW1 HGL
    have hkd : w3.cell? ⟨gd, 0, none⟩ = some (.int .i64 dk) := by have := block_range HPD.out.db 0 _ rfl; simpa using this
    go_upto_block 2 with (fail)
    clear hkd
    go_cut [] from 42 to 115 (fun wx => ∃ l2, Shut (PlD w wx g h c gd l2 l2 l A (Obj.cells #[.int .i64 dk, .int .i64 da, .int .i64 db, .int .i64 dn, .bool dt] 31 (0, 0)) ∧ l2.length ≤ i + 1))
    case first =>
      by_cases hk1 : dk = 1
      · have e1 : (dk == 1) = true := by simpa using hk1
        clear hk1
        obtain ⟨l1, hl1⟩ : ∃ l1, l1 = (addT l da db).1 := ⟨_, rfl⟩
        obtain ⟨kc, hK⟩ : ∃ kc, kc = (addT l da db).2 := ⟨_, rfl⟩
        have HQK := Shut.mk (show l1 = (addT l da db).1 ∧ kc = (addT l da db).2 from ⟨hl1, hK⟩)
        have HKC := Shut.mk (show kc = 0 ∨ kc ∈ S14 by rw [hK]; exact codes_add l da db)
        have HQL := Shut.mk (show l1.length ≤ i + 1 by rw [hl1]; exact Nat.le_trans (len_add l da db) (by have := HLL.out; omega))
        clear hl1 hK
        go_wp2_with (fail)
        refine wp_region_D (fun w' => w'.heap[gd]? = some (Obj.cells #[.int .i64 dk, .int .i64 da, .int .i64 db, .int .i64 dn, .bool dt] 31 (0, 0))) 11 (by kernel_rfl) (show (World.drew w3).heap[gd]? = some (Obj.cells #[.int .i64 dk, .int .i64 da, .int .i64 db, .int .i64 dn, .bool dt] 31 (0, 0)) from HPD.out.db) (fun hHeld hC => ?_)
        obtain ⟨w5, hw5⟩ : ∃ w5, w5 = World.drew w3 := ⟨_, rfl⟩
        have HP5 := Shut.mk (HPD.out.quiet (show Below w3.heap.size w3 w5 by rw [hw5]; exact (Below.refl _ _).drew))
        rw [← hw5] at hHeld ⊢
        clear hw5
        refine dP 0 hC hHeld ?_; clear hC; intro hC
        refine dP 1 hC hHeld ?_; clear hC; intro hC
        refine dT 2 hC hHeld (fun w hSw => (show w.cell? ⟨gd, 1, none⟩ = some (.int .i64 da) from by have := block_range hSw 1 _ rfl; simpa using this)) ?_; clear hC; intro hC
        refine dP 3 hC hHeld ?_; clear hC; intro hC
        refine dT 4 hC hHeld (fun w hSw => (show w.cell? ⟨gd, 2, none⟩ = some (.int .i64 db) from by have := block_range hSw 2 _ rfl; simpa using this)) ?_; clear hC; intro hC
        refine dP 6 hC hHeld ?_; clear hC; intro hC
        refine dP 7 hC hHeld ?_; clear hC; intro hC
        refine dT 8 hC hHeld (fun w hSw => (show w.cell? ⟨gd, 1, none⟩ = some (.int .i64 da) from by have := block_range hSw 1 _ rfl; simpa using this)) ?_; clear hC; intro hC
        refine dP 9 hC hHeld ?_; clear hC; intro hC
        refine dT 10 hC hHeld (fun w hSw => (show w.cell? ⟨gd, 2, none⟩ = some (.int .i64 db) from by have := block_range hSw 2 _ rfl; simpa using this)) ?_; clear hC; intro hC
        refine wpAnyD_one (i := 5) (by kernel_rfl) rfl hC (fun K hK => ?_)
        clear hC
        go_simp
        refine (add_c HP5.out (by have := HLL.out; omega) HS.out (by decide) (by decide) da db).mono ?_
        rintro e' we1 ⟨rfl, hP⟩
        rw [← HQK.out.1] at hP
        rw [← HQK.out.2]
        have HP6 := Shut.mk hP
        clear hP
        have hHeld2 := HP6.out.db
        clear hHeld
        have hHeld := hHeld2
        clear hHeld2
        refine hK.out _ _ (fun _ => hHeld) (fun hC => ?_)
        clear hK K
        try simp only [Act.put, List.getElem_toArray, List.getElem_cons_zero, List.getElem_cons_succ, List.setIfInBounds_toArray, List.set_cons_zero, List.set_cons_succ]
        refine wpAnyD_one (i := 11) (by kernel_rfl) rfl hC (fun K hK => ?_)
        clear hC
        go_simp
        refine (add_r HP6.out (by have := HLL.out; omega) da db).mono ?_
        rintro e' we2 ⟨rfl, hP⟩
        rw [← HQK.out.1] at hP
        rw [← HQK.out.2]
        have HP7 := Shut.mk hP
        clear hP
        refine hK.out _ _ (past (by kernel_rfl)) (fun hC => ?_)
        clear hK K
        try simp only [Act.put, List.getElem_toArray, List.getElem_cons_zero, List.getElem_cons_succ, List.setIfInBounds_toArray, List.set_cons_zero, List.set_cons_succ]
        refine wpAnyD_one (i := 12) (by kernel_rfl) rfl hC (fun K hK => ?_)
        clear hC
        go_simp
        refine (is_any E kc (kc : Nat) we2 (HS.out.below HP7.out.bel) HKC.out).mono ?_
        rintro e' we3 ⟨rfl, hb⟩
        rw [show (((kc : Nat) : Int) == ((kc : Nat) : Int)) = true by simp]
        have HP8 := Shut.mk (HP7.out.quiet hb)
        clear hb
        refine hK.out _ _ (past (by kernel_rfl)) (fun hC => ?_)
        clear hK K
        try simp only [Act.put, List.getElem_toArray, List.getElem_cons_zero, List.getElem_cons_succ, List.setIfInBounds_toArray, List.set_cons_zero, List.set_cons_succ]
        refine dQ 13 hC ?_; clear hC; intro hC
        refine wpAnyD_done (by kernel_rfl) ?_ _
        try simp only [Act.put, List.getElem_toArray, List.getElem_cons_zero, List.getElem_cons_succ, List.setIfInBounds_toArray, List.set_cons_zero, List.set_cons_succ]
        clear hC hHeld
        go_wp2_with (fail)
        go_meet
        exact ⟨l1, Shut.mk ⟨HP8.out, HQL.out⟩⟩
      have e1 : (dk == 1) = false := by simpa using hk1
      clear hk1
      by_cases hk2 : dk = 2
      · have e2 : (dk == 2) = true := by simpa using hk2
        clear hk2
        obtain ⟨l1, hl1⟩ : ∃ l1, l1 = (delT l da).1 := ⟨_, rfl⟩
        obtain ⟨kc, hK⟩ : ∃ kc, kc = (delT l da).2 := ⟨_, rfl⟩
        have HQK := Shut.mk (show l1 = (delT l da).1 ∧ kc = (delT l da).2 from ⟨hl1, hK⟩)
        have HKC := Shut.mk (show kc = 0 ∨ kc ∈ S14 by rw [hK]; exact codes_del l da)
        have HQL := Shut.mk (show l1.length ≤ i + 1 by rw [hl1]; exact Nat.le_trans (len_del l da) (by have := HLL.out; omega))
        clear hl1 hK
        go_wp2_with (fail)
        refine wp_region_D (fun w' => w'.heap[gd]? = some (Obj.cells #[.int .i64 dk, .int .i64 da, .int .i64 db, .int .i64 dn, .bool dt] 31 (0, 0))) 7 (by kernel_rfl) (show (World.drew w3).heap[gd]? = some (Obj.cells #[.int .i64 dk, .int .i64 da, .int .i64 db, .int .i64 dn, .bool dt] 31 (0, 0)) from HPD.out.db) (fun hHeld hC => ?_)
        obtain ⟨w5, hw5⟩ : ∃ w5, w5 = World.drew w3 := ⟨_, rfl⟩
        have HP5 := Shut.mk (HPD.out.quiet (show Below w3.heap.size w3 w5 by rw [hw5]; exact (Below.refl _ _).drew))
        rw [← hw5] at hHeld ⊢
        clear hw5
        refine dP 0 hC hHeld ?_; clear hC; intro hC
        refine dP 1 hC hHeld ?_; clear hC; intro hC
        refine dT 2 hC hHeld (fun w hSw => (show w.cell? ⟨gd, 1, none⟩ = some (.int .i64 da) from by have := block_range hSw 1 _ rfl; simpa using this)) ?_; clear hC; intro hC
        refine dP 4 hC hHeld ?_; clear hC; intro hC
        refine dP 5 hC hHeld ?_; clear hC; intro hC
        refine dT 6 hC hHeld (fun w hSw => (show w.cell? ⟨gd, 1, none⟩ = some (.int .i64 da) from by have := block_range hSw 1 _ rfl; simpa using this)) ?_; clear hC; intro hC
        refine wpAnyD_one (i := 3) (by kernel_rfl) rfl hC (fun K hK => ?_)
        clear hC
        go_simp
        refine (del_c HP5.out HS.out (by decide) da).mono ?_
        rintro e' we1 ⟨rfl, hP⟩
        rw [← HQK.out.1] at hP
        rw [← HQK.out.2]
        have HP6 := Shut.mk hP
        clear hP
        have hHeld2 := HP6.out.db
        clear hHeld
        have hHeld := hHeld2
        clear hHeld2
        refine hK.out _ _ (fun _ => hHeld) (fun hC => ?_)
        clear hK K
        try simp only [Act.put, List.getElem_toArray, List.getElem_cons_zero, List.getElem_cons_succ, List.setIfInBounds_toArray, List.set_cons_zero, List.set_cons_succ]
        refine wpAnyD_one (i := 7) (by kernel_rfl) rfl hC (fun K hK => ?_)
        clear hC
        go_simp
        refine (del_r HP6.out (by have := HLL.out; omega) da).mono ?_
        rintro e' we2 ⟨rfl, hP⟩
        rw [← HQK.out.1] at hP
        rw [← HQK.out.2]
        have HP7 := Shut.mk hP
        clear hP
        refine hK.out _ _ (past (by kernel_rfl)) (fun hC => ?_)
        clear hK K
        try simp only [Act.put, List.getElem_toArray, List.getElem_cons_zero, List.getElem_cons_succ, List.setIfInBounds_toArray, List.set_cons_zero, List.set_cons_succ]
        refine wpAnyD_one (i := 8) (by kernel_rfl) rfl hC (fun K hK => ?_)
        clear hC
        go_simp
        refine (is_any E kc (kc : Nat) we2 (HS.out.below HP7.out.bel) HKC.out).mono ?_
        rintro e' we3 ⟨rfl, hb⟩
        rw [show (((kc : Nat) : Int) == ((kc : Nat) : Int)) = true by simp]
        have HP8 := Shut.mk (HP7.out.quiet hb)
        clear hb
        refine hK.out _ _ (past (by kernel_rfl)) (fun hC => ?_)
        clear hK K
        try simp only [Act.put, List.getElem_toArray, List.getElem_cons_zero, List.getElem_cons_succ, List.setIfInBounds_toArray, List.set_cons_zero, List.set_cons_succ]
        refine dQ 9 hC ?_; clear hC; intro hC
        refine wpAnyD_done (by kernel_rfl) ?_ _
        try simp only [Act.put, List.getElem_toArray, List.getElem_cons_zero, List.getElem_cons_succ, List.setIfInBounds_toArray, List.set_cons_zero, List.set_cons_succ]
        clear hC hHeld
        go_wp2_with (fail)
        go_meet
        exact ⟨l1, Shut.mk ⟨HP8.out, HQL.out⟩⟩
      have e2 : (dk == 2) = false := by simpa using hk2
      clear hk2
      by_cases hk3 : dk = 3
      · have e3 : (dk == 3) = true := by simpa using hk3
        clear hk3
        obtain ⟨l1, hl1⟩ : ∃ l1, l1 = (weighT l da db).1 := ⟨_, rfl⟩
        obtain ⟨kc, hK⟩ : ∃ kc, kc = (weighT l da db).2 := ⟨_, rfl⟩
        have HQK := Shut.mk (show l1 = (weighT l da db).1 ∧ kc = (weighT l da db).2 from ⟨hl1, hK⟩)
        have HKC := Shut.mk (show kc = 0 ∨ kc ∈ S14 by rw [hK]; exact codes_weigh l da db)
        have HQL := Shut.mk (show l1.length ≤ i + 1 by rw [hl1]; exact by rw [len_weigh]; have := HLL.out; omega)
        clear hl1 hK
        go_wp2_with (fail)
        refine wp_region_D (fun w' => w'.heap[gd]? = some (Obj.cells #[.int .i64 dk, .int .i64 da, .int .i64 db, .int .i64 dn, .bool dt] 31 (0, 0))) 11 (by kernel_rfl) (show (World.drew w3).heap[gd]? = some (Obj.cells #[.int .i64 dk, .int .i64 da, .int .i64 db, .int .i64 dn, .bool dt] 31 (0, 0)) from HPD.out.db) (fun hHeld hC => ?_)
        obtain ⟨w5, hw5⟩ : ∃ w5, w5 = World.drew w3 := ⟨_, rfl⟩
        have HP5 := Shut.mk (HPD.out.quiet (show Below w3.heap.size w3 w5 by rw [hw5]; exact (Below.refl _ _).drew))
        rw [← hw5] at hHeld ⊢
        clear hw5
        refine dP 0 hC hHeld ?_; clear hC; intro hC
        refine dP 1 hC hHeld ?_; clear hC; intro hC
        refine dT 2 hC hHeld (fun w hSw => (show w.cell? ⟨gd, 1, none⟩ = some (.int .i64 da) from by have := block_range hSw 1 _ rfl; simpa using this)) ?_; clear hC; intro hC
        refine dP 3 hC hHeld ?_; clear hC; intro hC
        refine dT 4 hC hHeld (fun w hSw => (show w.cell? ⟨gd, 2, none⟩ = some (.int .i64 db) from by have := block_range hSw 2 _ rfl; simpa using this)) ?_; clear hC; intro hC
        refine dP 6 hC hHeld ?_; clear hC; intro hC
        refine dP 7 hC hHeld ?_; clear hC; intro hC
        refine dT 8 hC hHeld (fun w hSw => (show w.cell? ⟨gd, 1, none⟩ = some (.int .i64 da) from by have := block_range hSw 1 _ rfl; simpa using this)) ?_; clear hC; intro hC
        refine dP 9 hC hHeld ?_; clear hC; intro hC
        refine dT 10 hC hHeld (fun w hSw => (show w.cell? ⟨gd, 2, none⟩ = some (.int .i64 db) from by have := block_range hSw 2 _ rfl; simpa using this)) ?_; clear hC; intro hC
        refine wpAnyD_one (i := 5) (by kernel_rfl) rfl hC (fun K hK => ?_)
        clear hC
        go_simp
        refine (weigh_c HP5.out HS.out (by decide) (by decide) da db).mono ?_
        rintro e' we1 ⟨rfl, hP⟩
        rw [← HQK.out.1] at hP
        rw [← HQK.out.2]
        have HP6 := Shut.mk hP
        clear hP
        have hHeld2 := HP6.out.db
        clear hHeld
        have hHeld := hHeld2
        clear hHeld2
        refine hK.out _ _ (fun _ => hHeld) (fun hC => ?_)
        clear hK K
        try simp only [Act.put, List.getElem_toArray, List.getElem_cons_zero, List.getElem_cons_succ, List.setIfInBounds_toArray, List.set_cons_zero, List.set_cons_succ]
        refine wpAnyD_one (i := 11) (by kernel_rfl) rfl hC (fun K hK => ?_)
        clear hC
        go_simp
        refine (weigh_r HP6.out (by have := HLL.out; omega) da db).mono ?_
        rintro e' we2 ⟨rfl, hP⟩
        rw [← HQK.out.1] at hP
        rw [← HQK.out.2]
        have HP7 := Shut.mk hP
        clear hP
        refine hK.out _ _ (past (by kernel_rfl)) (fun hC => ?_)
        clear hK K
        try simp only [Act.put, List.getElem_toArray, List.getElem_cons_zero, List.getElem_cons_succ, List.setIfInBounds_toArray, List.set_cons_zero, List.set_cons_succ]
        refine wpAnyD_one (i := 12) (by kernel_rfl) rfl hC (fun K hK => ?_)
        clear hC
        go_simp
        refine (is_any E kc (kc : Nat) we2 (HS.out.below HP7.out.bel) HKC.out).mono ?_
        rintro e' we3 ⟨rfl, hb⟩
        rw [show (((kc : Nat) : Int) == ((kc : Nat) : Int)) = true by simp]
        have HP8 := Shut.mk (HP7.out.quiet hb)
        clear hb
        refine hK.out _ _ (past (by kernel_rfl)) (fun hC => ?_)
        clear hK K
        try simp only [Act.put, List.getElem_toArray, List.getElem_cons_zero, List.getElem_cons_succ, List.setIfInBounds_toArray, List.set_cons_zero, List.set_cons_succ]
        refine dQ 13 hC ?_; clear hC; intro hC
        refine wpAnyD_done (by kernel_rfl) ?_ _
        try simp only [Act.put, List.getElem_toArray, List.getElem_cons_zero, List.getElem_cons_succ, List.setIfInBounds_toArray, List.set_cons_zero, List.set_cons_succ]
        clear hC hHeld
        go_wp2_with (fail)
        go_meet
        exact ⟨l1, Shut.mk ⟨HP8.out, HQL.out⟩⟩
      have e3 : (dk == 3) = false := by simpa using hk3
      clear hk3
      by_cases hk4 : dk = 4
      · have e4 : (dk == 4) = true := by simpa using hk4
        clear hk4
        obtain ⟨l1, hl1⟩ : ∃ l1, l1 = (actT l da dt).1 := ⟨_, rfl⟩
        obtain ⟨kc, hK⟩ : ∃ kc, kc = (actT l da dt).2 := ⟨_, rfl⟩
        have HQK := Shut.mk (show l1 = (actT l da dt).1 ∧ kc = (actT l da dt).2 from ⟨hl1, hK⟩)
        have HKC := Shut.mk (show kc = 0 ∨ kc ∈ S14 by rw [hK]; exact codes_active l da dt)
        have HQL := Shut.mk (show l1.length ≤ i + 1 by rw [hl1]; exact by rw [len_act]; have := HLL.out; omega)
        clear hl1 hK
        go_wp2_with (fail)
        refine wp_region_D (fun w' => w'.heap[gd]? = some (Obj.cells #[.int .i64 dk, .int .i64 da, .int .i64 db, .int .i64 dn, .bool dt] 31 (0, 0))) 11 (by kernel_rfl) (show (World.drew w3).heap[gd]? = some (Obj.cells #[.int .i64 dk, .int .i64 da, .int .i64 db, .int .i64 dn, .bool dt] 31 (0, 0)) from HPD.out.db) (fun hHeld hC => ?_)
        obtain ⟨w5, hw5⟩ : ∃ w5, w5 = World.drew w3 := ⟨_, rfl⟩
        have HP5 := Shut.mk (HPD.out.quiet (show Below w3.heap.size w3 w5 by rw [hw5]; exact (Below.refl _ _).drew))
        rw [← hw5] at hHeld ⊢
        clear hw5
        refine dP 0 hC hHeld ?_; clear hC; intro hC
        refine dP 1 hC hHeld ?_; clear hC; intro hC
        refine dT 2 hC hHeld (fun w hSw => (show w.cell? ⟨gd, 1, none⟩ = some (.int .i64 da) from by have := block_range hSw 1 _ rfl; simpa using this)) ?_; clear hC; intro hC
        refine dP 3 hC hHeld ?_; clear hC; intro hC
        refine dT 4 hC hHeld (fun w hSw => (show w.cell? ⟨gd, 4, none⟩ = some (.bool dt) from by have := block_range hSw 4 _ rfl; simpa using this)) ?_; clear hC; intro hC
        refine dP 6 hC hHeld ?_; clear hC; intro hC
        refine dP 7 hC hHeld ?_; clear hC; intro hC
        refine dT 8 hC hHeld (fun w hSw => (show w.cell? ⟨gd, 1, none⟩ = some (.int .i64 da) from by have := block_range hSw 1 _ rfl; simpa using this)) ?_; clear hC; intro hC
        refine dP 9 hC hHeld ?_; clear hC; intro hC
        refine dT 10 hC hHeld (fun w hSw => (show w.cell? ⟨gd, 4, none⟩ = some (.bool dt) from by have := block_range hSw 4 _ rfl; simpa using this)) ?_; clear hC; intro hC
        refine wpAnyD_one (i := 5) (by kernel_rfl) rfl hC (fun K hK => ?_)
        clear hC
        go_simp
        refine (active_c HP5.out HS.out (by decide) da dt).mono ?_
        rintro e' we1 ⟨rfl, hP⟩
        rw [← HQK.out.1] at hP
        rw [← HQK.out.2]
        have HP6 := Shut.mk hP
        clear hP
        have hHeld2 := HP6.out.db
        clear hHeld
        have hHeld := hHeld2
        clear hHeld2
        refine hK.out _ _ (fun _ => hHeld) (fun hC => ?_)
        clear hK K
        try simp only [Act.put, List.getElem_toArray, List.getElem_cons_zero, List.getElem_cons_succ, List.setIfInBounds_toArray, List.set_cons_zero, List.set_cons_succ]
        refine wpAnyD_one (i := 11) (by kernel_rfl) rfl hC (fun K hK => ?_)
        clear hC
        go_simp
        refine (active_r HP6.out HINV.out (by have := HLL.out; omega) da dt).mono ?_
        rintro e' we2 ⟨rfl, hP⟩
        rw [← HQK.out.1] at hP
        rw [← HQK.out.2]
        have HP7 := Shut.mk hP
        clear hP
        refine hK.out _ _ (past (by kernel_rfl)) (fun hC => ?_)
        clear hK K
        try simp only [Act.put, List.getElem_toArray, List.getElem_cons_zero, List.getElem_cons_succ, List.setIfInBounds_toArray, List.set_cons_zero, List.set_cons_succ]
        refine wpAnyD_one (i := 12) (by kernel_rfl) rfl hC (fun K hK => ?_)
        clear hC
        go_simp
        refine (is_any E kc (kc : Nat) we2 (HS.out.below HP7.out.bel) HKC.out).mono ?_
        rintro e' we3 ⟨rfl, hb⟩
        rw [show (((kc : Nat) : Int) == ((kc : Nat) : Int)) = true by simp]
        have HP8 := Shut.mk (HP7.out.quiet hb)
        clear hb
        refine hK.out _ _ (past (by kernel_rfl)) (fun hC => ?_)
        clear hK K
        try simp only [Act.put, List.getElem_toArray, List.getElem_cons_zero, List.getElem_cons_succ, List.setIfInBounds_toArray, List.set_cons_zero, List.set_cons_succ]
        refine dQ 13 hC ?_; clear hC; intro hC
        refine wpAnyD_done (by kernel_rfl) ?_ _
        try simp only [Act.put, List.getElem_toArray, List.getElem_cons_zero, List.getElem_cons_succ, List.setIfInBounds_toArray, List.set_cons_zero, List.set_cons_succ]
        clear hC hHeld
        go_wp2_with (fail)
        go_meet
        exact ⟨l1, Shut.mk ⟨HP8.out, HQL.out⟩⟩
      have e4 : (dk == 4) = false := by simpa using hk4
      clear hk4
      obtain ⟨l1, hl1⟩ : ∃ l1, l1 = (chT l da dn).1 := ⟨_, rfl⟩
      obtain ⟨kc, hK⟩ : ∃ kc, kc = (chT l da dn).2 := ⟨_, rfl⟩
      have HQK := Shut.mk (show l1 = (chT l da dn).1 ∧ kc = (chT l da dn).2 from ⟨hl1, hK⟩)
      have HKC := Shut.mk (show kc = 0 ∨ kc ∈ S14 by rw [hK]; exact codes_charge l da dn)
      have HQL := Shut.mk (show l1.length ≤ i + 1 by rw [hl1]; exact by rw [len_ch]; have := HLL.out; omega)
      clear hl1 hK
      go_wp2_with (fail)
      refine wp_region_D (fun w' => w'.heap[gd]? = some (Obj.cells #[.int .i64 dk, .int .i64 da, .int .i64 db, .int .i64 dn, .bool dt] 31 (0, 0))) 11 (by kernel_rfl) (show (World.drew w3).heap[gd]? = some (Obj.cells #[.int .i64 dk, .int .i64 da, .int .i64 db, .int .i64 dn, .bool dt] 31 (0, 0)) from HPD.out.db) (fun hHeld hC => ?_)
      obtain ⟨w5, hw5⟩ : ∃ w5, w5 = World.drew w3 := ⟨_, rfl⟩
      have HP5 := Shut.mk (HPD.out.quiet (show Below w3.heap.size w3 w5 by rw [hw5]; exact (Below.refl _ _).drew))
      rw [← hw5] at hHeld ⊢
      clear hw5
      refine dP 0 hC hHeld ?_; clear hC; intro hC
      refine dP 1 hC hHeld ?_; clear hC; intro hC
      refine dT 2 hC hHeld (fun w hSw => (show w.cell? ⟨gd, 1, none⟩ = some (.int .i64 da) from by have := block_range hSw 1 _ rfl; simpa using this)) ?_; clear hC; intro hC
      refine dP 3 hC hHeld ?_; clear hC; intro hC
      refine dT 4 hC hHeld (fun w hSw => (show w.cell? ⟨gd, 3, none⟩ = some (.int .i64 dn) from by have := block_range hSw 3 _ rfl; simpa using this)) ?_; clear hC; intro hC
      refine dP 6 hC hHeld ?_; clear hC; intro hC
      refine dP 7 hC hHeld ?_; clear hC; intro hC
      refine dT 8 hC hHeld (fun w hSw => (show w.cell? ⟨gd, 1, none⟩ = some (.int .i64 da) from by have := block_range hSw 1 _ rfl; simpa using this)) ?_; clear hC; intro hC
      refine dP 9 hC hHeld ?_; clear hC; intro hC
      refine dT 10 hC hHeld (fun w hSw => (show w.cell? ⟨gd, 3, none⟩ = some (.int .i64 dn) from by have := block_range hSw 3 _ rfl; simpa using this)) ?_; clear hC; intro hC
      refine wpAnyD_one (i := 5) (by kernel_rfl) rfl hC (fun K hK => ?_)
      clear hC
      go_simp
      refine (charge_c HP5.out HS.out (by decide) (by decide) da dn).mono ?_
      rintro e' we1 ⟨rfl, hP⟩
      rw [← HQK.out.1] at hP
      rw [← HQK.out.2]
      have HP6 := Shut.mk hP
      clear hP
      have hHeld2 := HP6.out.db
      clear hHeld
      have hHeld := hHeld2
      clear hHeld2
      refine hK.out _ _ (fun _ => hHeld) (fun hC => ?_)
      clear hK K
      try simp only [Act.put, List.getElem_toArray, List.getElem_cons_zero, List.getElem_cons_succ, List.setIfInBounds_toArray, List.set_cons_zero, List.set_cons_succ]
      refine wpAnyD_one (i := 11) (by kernel_rfl) rfl hC (fun K hK => ?_)
      clear hC
      go_simp
      refine (charge_r HP6.out HINV.out (by have := HLL.out; omega) da dn).mono ?_
      rintro e' we2 ⟨rfl, hP⟩
      rw [← HQK.out.1] at hP
      rw [← HQK.out.2]
      have HP7 := Shut.mk hP
      clear hP
      refine hK.out _ _ (past (by kernel_rfl)) (fun hC => ?_)
      clear hK K
      try simp only [Act.put, List.getElem_toArray, List.getElem_cons_zero, List.getElem_cons_succ, List.setIfInBounds_toArray, List.set_cons_zero, List.set_cons_succ]
      refine wpAnyD_one (i := 12) (by kernel_rfl) rfl hC (fun K hK => ?_)
      clear hC
      go_simp
      refine (is_any E kc (kc : Nat) we2 (HS.out.below HP7.out.bel) HKC.out).mono ?_
      rintro e' we3 ⟨rfl, hb⟩
      rw [show (((kc : Nat) : Int) == ((kc : Nat) : Int)) = true by simp]
      have HP8 := Shut.mk (HP7.out.quiet hb)
      clear hb
      refine hK.out _ _ (past (by kernel_rfl)) (fun hC => ?_)
      clear hK K
      try simp only [Act.put, List.getElem_toArray, List.getElem_cons_zero, List.getElem_cons_succ, List.setIfInBounds_toArray, List.set_cons_zero, List.set_cons_succ]
      refine dQ 13 hC ?_; clear hC; intro hC
      refine wpAnyD_done (by kernel_rfl) ?_ _
      try simp only [Act.put, List.getElem_toArray, List.getElem_cons_zero, List.getElem_cons_succ, List.setIfInBounds_toArray, List.set_cons_zero, List.set_cons_succ]
      clear hC hHeld
      go_wp2_with (fail)
      go_meet
      exact ⟨l1, Shut.mk ⟨HP8.out, HQL.out⟩⟩
    case rest =>
      obtain ⟨l2, HP3⟩ := hcut
      have HP2 := Shut.mk HP3.out.1
      have HL2 := Shut.mk (show l2.length ≤ i + 1 ∧ l2.length ≤ 1000 from ⟨HP3.out.2, by have := HP3.out.2; have := HLL.out; omega⟩)
      have HI2 := Shut.mk HP2.out.inv
      clear HPD HP3
      go_wp2_with (fail)
      refine (order_c HP2.out).mono ?_
      rintro x' w4 ⟨A1, c1, rfl, hr, hp, hb⟩
      have HR1 := Shut.mk hr
      have HP3 := Shut.mk hp
      obtain ⟨m1, hm1⟩ : ∃ m, m = (ordI l2).length := ⟨_, rfl⟩
      rw [← hm1] at HR1 ⊢
      have HM1 := Shut.mk hm1
      clear hr hp hb HP2 hm1
      go_wp2_with (fail)
      refine (reforder_r HP3.out HI2.out HL2.out.2).mono ?_
      rintro x' w5 ⟨A2, c2, rfl, hr, hp, hb⟩
      rw [← HM1.out] at hr ⊢
      have HR2 := Shut.mk hr
      have HR1b := Shut.mk (HR1.out.below hb)
      have HP4 := Shut.mk hp
      clear hr hp hb HP3 HR1
      go_wp2_with (fail)
      refine (sameInts_any A1 A2 m1 c1 m1 c2 (ordI l2) (ordI l2) _ HR1b.out HR2.out).mono ?_
      rintro x' w6 ⟨rfl, n1, rfl⟩
      rw [same_refl]
      have HP5 := Shut.mk (HP4.out.quiet (below_drewN (Below.refl _ _) n1))
      generalize World.drewN w5 n1 = w6 at *
      clear HP4 HR1b HR2
      go_wp2_with (fail)
      refine (order_z HP5.out).mono ?_
      rintro x' w7 ⟨A3, c3, rfl, hr, hp, hb⟩
      rw [← HM9.out] at hr ⊢
      have HR3 := Shut.mk hr
      have HP6 := Shut.mk hp
      have HR9 := Shut.mk (show RowB .i64 w7 A m9 (ordI l) by rw [HM9.out]; exact hp.row)
      clear hr hp hb HP5
      go_wp2_with (fail)
      refine (sameInts_any A3 A m9 c3 m9 c9 (ordI l) (ordI l) _ HR3.out HR9.out).mono ?_
      rintro x' w8 ⟨rfl, n2, rfl⟩
      rw [same_refl]
      have HP7 := Shut.mk (HP6.out.quiet (below_drewN (Below.refl _ _) n2))
      generalize World.drewN w7 n2 = w8 at *
      clear HP6 HR3 HR9
      go_wp2_with (fail)
      go_loopw [10, 11, 12, 13] (fun s10 _ _ _ wr => ∃ a : Nat, a ≤ 18 ∧ s10 = .int .i64 (a : Int) ∧ Shut (PlD w wr g h c gd l2 l2 l A (Obj.cells #[.int .i64 dk, .int .i64 da, .int .i64 db, .int .i64 dn, .bool dt] 31 (0, 0)))) (fun s10 _ _ _ _ => 18 - (intOf s10).toNat)
      case atStart => exact ⟨0, Nat.zero_le _, rfl, HP7⟩
      case round =>
        clear HP7
        obtain ⟨a, ha, rfl, HQ⟩ := hrel
        by_cases ha18 : a = 18
        · subst ha18
          clear ha
          go_wp2_with (fail)
          go_roundw
          case rel => exact ⟨i + 1, l2, by have := HIN2.out; omega, by go_num, Shut.mk ⟨HQ.out.two, HL2.out.1⟩⟩
          case measure => have := HIN2.out; simp [intOf]; omega
        have h17 : (a : Int) ≤ 17 := by omega
        have HA := Shut.mk (show a < 18 by omega)
        have y1 : IntKind.i64.wrap ((a : Int) + 1) = ((a + 1 : Nat) : Int) := by rw [IntWalk.i64_in _ ⟨by omega, by omega⟩]; omega
        clear ha ha18
        go_wp2_with (fail)
        refine (time_c HQ.out (a : Int)).mono ?_
        rintro x' wt ⟨rfl, hp⟩
        have HQ2 := Shut.mk hp
        have HFD := Shut.mk (find_r hp HL2.out.2 (a : Int))
        clear hp HQ
        cases hh : hasT l2 (a : Int) with
        | true =>
          obtain ⟨b2, off2, cc2, hc1, hc2⟩ := HQ2.out.cells HL2.out.2 (has_lt hh)
          have hk := has_lt hh
          rw [show timeT l2 (a : Int) = ((l2.getD (fiT l2 (a : Int)) tu0).tm, true) by unfold timeT; rw [if_pos hh]]
          rw [ansF_yes hh] at HFD
          generalize (l2.getD (fiT l2 (a : Int)) tu0).tm = tm at *
          generalize fiT l2 (a : Int) = k at *
          have hk0 : (0 : Int) ≤ (k : Int) := by omega
          obtain ⟨ml, hml⟩ : ∃ ml, ml = l2.length := ⟨_, rfl⟩
          rw [← hml] at hc1 hk
          have hk1 : (k : Int) < (ml : Int) := by omega
          have d1 : ((tm : Int) != (tm : Int)) = false := by simp
          clear hh hml
          go_wp2_with (fail)
          refine HFD.out.mono ?_
          rintro x' wq ⟨rfl, rfl⟩
          go_wp2_with (fail)
          go_roundw
          case rel => exact ⟨a + 1, by have := HA.out; omega, by go_num, HQ2⟩
          case measure => have := HA.out; simp [intOf]; omega
        | false =>
          rw [show timeT l2 (a : Int) = (0, false) by unfold timeT; rw [if_neg (by simp [hh])]]
          rw [ansF_no hh] at HFD
          clear hh
          go_wp2_with (fail)
          refine HFD.out.mono ?_
          rintro x' wq ⟨rfl, rfl⟩
          go_wp2_with (fail)
          go_roundw
          case rel => exact ⟨a + 1, by have := HA.out; omega, by go_num, HQ2⟩
          case measure => have := HA.out; simp [intOf]; omega

end Go.Proofs.YtkmblmnffnhpmaaDoor.schedPlays
