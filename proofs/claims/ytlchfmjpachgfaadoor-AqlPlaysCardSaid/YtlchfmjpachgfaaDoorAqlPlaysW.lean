/-
  The walk of muezzin/muezzinlaw19.AqlPlays: the Go text returns true.
-/
import Derived.Test.YtlchfmjpachgfaaDoorOpenA
import Derived.Test.YtlchfmjpachgfaaDoorOpenA
import Derived.Test.YtlchfmjpachgfaaDoorAqlD
import Derived.LoopTactic
import Derived.Lib.MinMax
import Derived.Deep.CutRange
import Derived.Deep.CutBlock
import Derived.WalkKit
import Derived.ProofKit
import Derived.Below
namespace Go.Proofs.YtlchfmjpachgfaaDoor.aqlPlays
open Go.ChangeShapes Go.WideShapes Go.ChangeAt Go.RowKit Go.Deep
set_option linter.unusedVariables false
set_option linter.unusedSimpArgs false

open Go.Proofs.YtlchfmjpachgfaaDoor

theorem ra_zero (n0 n1 : Int) (w : World) : IsRa (w.alloc (Obj.cells #[.int .i64 n0, .int .i64 n1, .int .i64 0, .int .i64 0, .int .i64 0, .int .i64 0, .int .i64 0, .int .i64 0, .int .i64 0, .int .i64 0, .int .i64 0, .int .i64 0, .int .i64 0, .int .i64 0, .int .i64 0, .int .i64 0, .int .i64 0, .int .i64 0, .int .i64 0] 33 (0, 0))) w.heap.size (newA n0 n1) := by
  unfold IsRa At19
  rw [(MapKept.heap_alloc w (Obj.cells #[.int .i64 n0, .int .i64 n1, .int .i64 0, .int .i64 0, .int .i64 0, .int .i64 0, .int .i64 0, .int .i64 0, .int .i64 0, .int .i64 0, .int .i64 0, .int .i64 0, .int .i64 0, .int .i64 0, .int .i64 0, .int .i64 0, .int .i64 0, .int .i64 0, .int .i64 0] 33 (0, 0))).1]
  exact congrArg (fun c => some (Obj.cells c _ _)) (c19_congr (st := n0) (wh := n1) (x := fun _ => 0) (fun a _ => (vA_new n0 n1 a).symm))
theorem size3 : (Tryd.prog.info? 35).map (·.size) = some 3 := by kernel_rfl
theorem codes_add (q : Aq) (a n : Int) : (addA q a n).2 = 0 ∨ (addA q a n).2 ∈ S14 := by
  unfold addA; split
  · exact .inl rfl
  · exact .inr (show 103 ∈ S14 by decide)
theorem codes_sub (q : Aq) (a n : Int) : (subA q a n).2 = 0 ∨ (subA q a n).2 ∈ S14 := by
  unfold subA; split
  · split
    · exact .inr (show 110 ∈ S14 by decide)
    · exact .inl rfl
  · exact .inr (show 103 ∈ S14 by decide)
theorem clear_no {q : Aq} {a : Int} (h : aidB a = false) : clearA q a = q := by unfold clearA; rw [if_neg (by simp [h])]
theorem clear_in {q : Aq} {a : Int} (h : aidB a = true) : clearA q a = putA q a 0 := by unfold clearA; rw [if_pos h]
/-- the code's object at g, the reference's at h. -/
structure PW (w wx : World) (g h : Nat) (q p : Aq) : Prop where
  aq : IsAq wx g q
  ra : IsRa wx h p
  inv : InvA q
  all : allA q ≤ 4611686018427387904
  bel : Below w.heap.size w wx
  gn : w.heap.size ≤ g
  hn : w.heap.size ≤ h
  ne : g ≠ h
theorem PW.quiet {w wx wy : World} {g h : Nat} {q p : Aq} (x : PW w wx g h q p) (hb : Below wx.heap.size wx wy) : PW w wy g h q p :=
  ⟨x.aq.below hb, x.ra.below hb, x.inv, x.all, x.bel.trans (hb.mono x.bel.size), x.gn, x.hn, x.ne⟩
theorem PW.code {w wx wy : World} {g h : Nat} {q q' p : Aq} (x : PW w wx g h q p) (ho : Only (· = g) wx wy) (hg : IsAq wy g q') (hi : InvA q') (ha : allA q' ≤ 4611686018427387904) : PW w wy g h q' p :=
  ⟨hg, x.ra.only ho fun e => x.ne e.symm, hi, ha, x.bel.trans (ho.below (fun i hi e => by have := x.gn; omega) x.bel.size), x.gn, x.hn, x.ne⟩
theorem PW.ref {w wx wy : World} {g h : Nat} {q p p' : Aq} (x : PW w wx g h q p) (ho : Only (· = h) wx wy) (hg : IsRa wy h p') : PW w wy g h q p' :=
  ⟨x.aq.only ho x.ne, hg, x.inv, x.all, x.bel.trans (ho.below (fun i hi e => by have := x.hn; omega) x.bel.size), x.gn, x.hn, x.ne⟩
/-- a copy at c, the law's own block at gd. -/
structure PD (w wx : World) (g h c gd : Nat) (q p z : Aq) (o : Obj) : Prop where
  pw : PW w wx g h q p
  cl : IsAq wx c z
  db : wx.heap[gd]? = some o
  na : c ≠ g ∧ c ≠ h ∧ gd ≠ g ∧ gd ≠ h
  zi : InvA z
  za : allA z ≤ 4611686018427387904
theorem PD.quiet {w wx wy : World} {g h c gd : Nat} {q p z : Aq} {o : Obj} (x : PD w wx g h c gd q p z o) (hb : Below wx.heap.size wx wy) : PD w wy g h c gd q p z o :=
  ⟨x.pw.quiet hb, x.cl.below hb, (hb.block _ (lt_blk x.db)).trans x.db, x.na, x.zi, x.za⟩
theorem PD.code {w wx wy : World} {g h c gd : Nat} {q q' p z : Aq} {o : Obj} (x : PD w wx g h c gd q p z o) (ho : Only (· = g) wx wy) (hg : IsAq wy g q') (hi : InvA q') (ha : allA q' ≤ 4611686018427387904) : PD w wy g h c gd q' p z o :=
  ⟨x.pw.code ho hg hi ha, x.cl.only ho x.na.1, ho.at_ x.db x.na.2.2.1, x.na, x.zi, x.za⟩
theorem PD.ref {w wx wy : World} {g h c gd : Nat} {q p p' z : Aq} {o : Obj} (x : PD w wx g h c gd q p z o) (ho : Only (· = h) wx wy) (hg : IsRa wy h p') : PD w wy g h c gd q p' z o :=
  ⟨x.pw.ref ho hg, x.cl.only ho x.na.2.1, ho.at_ x.db x.na.2.2.2, x.na, x.zi, x.za⟩

/-! ### THE WALK -/
set_option maxRecDepth 100000 in
set_option maxHeartbeats 8000000 in
theorem walk (n0 : Int) (n1 : Int) (a2 : Option Addr) (cap2 : Nat) (l2 : List Doa) (w : World) (E : Nat → Addr) (hS : Sent w E [101, 102, 103, 104, 105, 106, 107, 108, 109, 110, 111, 112, 113, 114]) (w0 : (Lit.int .i64 n0).wf = true) (w1 : (Lit.int .i64 n1).wf = true) (w2 : RowS doC 3 do00 w a2 l2.length l2 ∧ l2.length ≤ cap2 ∧ ∀ d ∈ l2, okDo d) :
    Calls Tryd.prog 3 #[.int .i64 n0, .int .i64 n1, .slice a2 l2.length cap2] w fun e w' => e = .returned (.bool true) ∧ Below w.heap.size w w' := by
  obtain ⟨hr0, hc0, hok0⟩ := w2
  have HROW := Shut.mk hr0
  obtain ⟨n, hn⟩ : ∃ n : Nat, n = l2.length := ⟨_, rfl⟩
  have HN := Shut.mk hn
  have hle := hr0.le
  rw [← hn] at hle ⊢
  clear hr0 hc0 hok0 hn w0 w1
  have HS := Shut.mk hS
  clear hS
  go_enter Tryd.func3, Tryd.ntmps3
  go_wp2_with (fail)
  refine (first_any w E HS.out (by decide)).mono ?_
  rintro x wa ⟨rfl, hBa⟩
  have HBa := Shut.mk hBa
  clear hBa
  by_cases hok : airB n0 = true ∧ airB n1 = true
  rotate_left
  · go_wp2_with (fail)
    refine (new_no n0 n1 wa E ((HS.out.below HBa.out).at_ 103 (by decide)) (bools hok)).mono ?_
    rintro x wb ⟨rfl, hb⟩
    have HBb := Shut.mk (HBa.out.trans (hb.mono HBa.out.size))
    have hor : n0 < 0 ∨ 1099511627776 < n0 ∨ n1 < 0 ∨ 1099511627776 < n1 := by
      rcases bools hok with e | e
      all_goals
        unfold airB at e
        simp only [Bool.and_eq_false_iff, decide_eq_false_iff_not] at e
        omega
    clear hb hok
    by_cases k1 : n0 < 0
    · clear hor
      go_wp2_with (fail)
      refine (is_any E 103 103 wb (HS.out.below HBb.out) (.inr (by decide))).mono ?_
      rintro x wc ⟨rfl, hb⟩
      have HBc := Shut.mk (HBb.out.trans (hb.mono HBb.out.size))
      clear hb
      go_wp2_with (fail)
      go_ret
      exact ⟨rfl, HBc.out⟩
    by_cases k2 : 1099511627776 < n0
    · clear hor
      go_wp2_with (fail)
      refine (is_any E 103 103 wb (HS.out.below HBb.out) (.inr (by decide))).mono ?_
      rintro x wc ⟨rfl, hb⟩
      have HBc := Shut.mk (HBb.out.trans (hb.mono HBb.out.size))
      clear hb
      go_wp2_with (fail)
      go_ret
      exact ⟨rfl, HBc.out⟩
    by_cases k3 : n1 < 0
    · clear hor
      go_wp2_with (fail)
      refine (is_any E 103 103 wb (HS.out.below HBb.out) (.inr (by decide))).mono ?_
      rintro x wc ⟨rfl, hb⟩
      have HBc := Shut.mk (HBb.out.trans (hb.mono HBb.out.size))
      clear hb
      go_wp2_with (fail)
      go_ret
      exact ⟨rfl, HBc.out⟩
    have k4 : 1099511627776 < n1 := by omega
    clear hor
    go_wp2_with (fail)
    refine (is_any E 103 103 wb (HS.out.below HBb.out) (.inr (by decide))).mono ?_
    rintro x wc ⟨rfl, hb⟩
    have HBc := Shut.mk (HBb.out.trans (hb.mono HBb.out.size))
    clear hb
    go_wp2_with (fail)
    go_ret
    exact ⟨rfl, HBc.out⟩
  have k1 : ¬ n0 < 0 ∧ ¬ 1099511627776 < n0 ∧ ¬ n1 < 0 ∧ ¬ 1099511627776 < n1 := by
    obtain ⟨e1, e2⟩ := hok
    unfold airB at e1 e2
    simp only [Bool.and_eq_true, decide_eq_true_eq] at e1 e2
    omega
  obtain ⟨k1, k2, k3, k4⟩ := k1
  go_wp2_with (fail)
  refine (new_ok n0 n1 wa hok.1 hok.2).mono ?_
  rintro x wb ⟨rfl, hA, hb⟩
  clear hok
  have HA0 := Shut.mk hA
  have HBb := Shut.mk hb
  clear hA hb
  rcases Nat.lt_or_ge 100 n with hN | hN
  · have hN' : (100 : Int) < (n : Int) := by omega
    go_wp2_with (fail)
    go_ret
    exact ⟨rfl, HBa.out.trans (HBb.out.mono HBa.out.size)⟩
  have hN1 : ¬ (100 : Int) < (n : Int) := by omega
  have HN100 := Shut.mk hN
  have HP0 := Shut.mk (show PW w (wb.alloc (Obj.cells #[.int .i64 n0, .int .i64 n1, .int .i64 0, .int .i64 0, .int .i64 0, .int .i64 0, .int .i64 0, .int .i64 0, .int .i64 0, .int .i64 0, .int .i64 0, .int .i64 0, .int .i64 0, .int .i64 0, .int .i64 0, .int .i64 0, .int .i64 0, .int .i64 0, .int .i64 0] 33 (0, 0))) wa.heap.size wb.heap.size (newA n0 n1) (newA n0 n1) from
    { aq := HA0.out.below ((Below.refl _ _).alloc (Nat.le_refl _) _)
      ra := ra_zero n0 n1 wb
      inv := invA_new _ _
      all := by rw [allA_new]; decide
      bel := (HBa.out.trans (HBb.out.mono HBa.out.size)).alloc (HBa.out.trans (HBb.out.mono HBa.out.size)).size _
      gn := HBa.out.size
      hn := (HBa.out.trans (HBb.out.mono HBa.out.size)).size
      ne := by have := lt_blk HA0.out; omega })
  clear hN
  go_wp2_with (fail)
  obtain ⟨g, hg⟩ : ∃ g, g = wa.heap.size := ⟨_, rfl⟩
  rw [← hg] at HP0 ⊢
  generalize World.alloc wb _ = wc at *
  obtain ⟨h, hh⟩ : ∃ h, h = wb.heap.size := ⟨_, rfl⟩
  rw [← hh] at HP0 ⊢
  have HZA := Shut.mk (show allA (newA n0 n1) ≤ ((0 : Nat) : Int) * 1099511627776 by rw [allA_new]; decide)
  generalize newA n0 n1 = q0 at *
  clear hg hh hN1 HA0 HBb k1 k2 k3 k4
  go_loopw [11, 12, 13, 14, 15, 16] (fun s11 _ _ _ _ _ wr => ∃ (i : Nat) (q : Aq), i ≤ n ∧ s11 = .int .i64 (i : Int) ∧ Shut (PW w wr g h q q ∧ allA q ≤ (i : Int) * 1099511627776)) (fun s11 _ _ _ _ _ _ => n - (intOf s11).toNat)
  case atStart => exact ⟨0, q0, Nat.zero_le _, rfl, Shut.mk ⟨HP0.out, HZA.out⟩⟩
  case round =>
    clear HP0 HZA
    obtain ⟨i, q, hi, rfl, HP⟩ := hrel
    by_cases hin : i < n
    rotate_left
    · obtain rfl : i = n := by omega
      have hge : ¬ (i : Int) < (i : Int) := by omega
      have hge2 : ¬ i < i := by omega
      clear hi hin
      go_wp2_with (fail)
      go_ret
      exact ⟨rfl, HP.out.1.bel⟩
    have hin2 : (i : Int) < (n : Int) := by omega
    have HIN2 := Shut.mk hin
    have HLE := Shut.mk HP.out.2
    have HI100 := Shut.mk (show (i : Int) < 100 by have := HN100.out; omega)
    obtain ⟨b, off, rfl, hrg⟩ := (HROW.out.below HP.out.1.bel).el i (by rw [← HN.out]; exact hin)
    generalize l2.getD i do00 = dd at *
    obtain ⟨dk, da, dn⟩ := dd
    have HRG := Shut.mk (show wr.rangeAt b (off + i * 3) [.int .i64 dk, .int .i64 da, .int .i64 dn] from hrg)
    clear hrg hi
    obtain ⟨gd, hgd⟩ : ∃ x, x = wr.heap.size := ⟨_, rfl⟩
    have HGD := Shut.mk hgd
    have HAd := Shut.mk ((Below.refl wr.heap.size wr).alloc (Nat.le_refl _) (Obj.cells #[.int .i64 0, .int .i64 0, .int .i64 0] 35 (0, 0)))
    have HXd := Shut.mk (show (wr.alloc (Obj.cells #[.int .i64 0, .int .i64 0, .int .i64 0] 35 (0, 0))).heap[gd]? = some (Obj.cells #[.int .i64 0, .int .i64 0, .int .i64 0] 35 (0, 0)) by rw [hgd]; exact (MapKept.heap_alloc wr (Obj.cells #[.int .i64 0, .int .i64 0, .int .i64 0] 35 (0, 0))).1)
    obtain ⟨w1, hw1⟩ : ∃ w4, w4 = (wr.alloc (Obj.cells #[.int .i64 0, .int .i64 0, .int .i64 0] 35 (0, 0))).setRow gd #[.int .i64 dk, .int .i64 da, .int .i64 dn] := ⟨_, rfl⟩
    have HDB := Shut.mk (show w1.heap[gd]? = some (Obj.cells #[.int .i64 dk, .int .i64 da, .int .i64 dn] 35 (0, 0)) by rw [hw1]; exact setRow_heap _ gd _ #[.int .i64 dk, .int .i64 da, .int .i64 dn] _ (0, 0) HXd.out)
    have HBd := Shut.mk (show Below wr.heap.size wr w1 by rw [hw1]; exact below_setRow HAd.out (by omega) _)
    have HW1 := Shut.mk hw1.symm
    have HPW1 := Shut.mk (HP.out.1.quiet HBd.out)
    have HGN := Shut.mk (show gd ≠ g ∧ gd ≠ h from by have h1 := lt_blk HP.out.1.aq; have h2 := lt_blk HP.out.1.ra; omega)
    clear hgd hw1 HP
    go_wp2_with (first
      | (refine wpList_load_mid rfl 35 (.tmp 81) rfl b (off + i * 3) rfl [.int .i64 dk, .int .i64 da, .int .i64 dn] _ HRG.out Tryd.underlying35 rfl size3 ?_)
      | (refine wpList_store_row rfl 35 (.tmp 12) (.tmp 82) rfl gd #[.int .i64 dk, .int .i64 da, .int .i64 dn] (by show Value.pointer (some ⟨wr.heap.size, 0, none⟩) = _; rw [HGD.out]) rfl 35 _ HXd.out size3 rfl (by simp [Value.oneCell']) ?_
         rw [HW1.out, ← HGD.out]))
    refine (clone_any g q w1 HPW1.out.aq).mono ?_
    rintro x' w2 ⟨rfl, hC, hb⟩
    obtain ⟨c, hc⟩ : ∃ c, c = w1.heap.size := ⟨_, rfl⟩
    rw [← hc] at hC ⊢
    obtain ⟨z, hz⟩ : ∃ z, z = q := ⟨_, rfl⟩
    have HPD0 := Shut.mk (show PD w w2 g h c gd q q z (Obj.cells #[.int .i64 dk, .int .i64 da, .int .i64 dn] 35 (0, 0)) from ⟨HPW1.out.quiet hb, by rw [hz]; exact hC, (hb.block _ (lt_blk HDB.out)).trans HDB.out, by have h1 := lt_blk HPW1.out.aq; have h2 := lt_blk HPW1.out.ra; have h3 := HGN.out; omega, by rw [hz]; exact HPW1.out.inv, by rw [hz]; exact HPW1.out.all⟩)
    clear hC hb hc hz HPW1 HDB HBd HXd HAd HGN HRG
    go_wp2_with (fail)
    refine (all_any c z w2 HPD0.out.cl HPD0.out.zi HPD0.out.za).mono ?_
    rintro x' w3 ⟨rfl, hb⟩
    have HPD := Shut.mk (HPD0.out.quiet hb)
    obtain ⟨wv, hwv⟩ : ∃ v, v = allA z := ⟨_, rfl⟩
    rw [← hwv]
    have HWA := Shut.mk hwv
    clear hb hwv HPD0
    have hkd : w3.cell? ⟨gd, 0, none⟩ = some (.int .i64 dk) := by have := block_range HPD.out.db 0 _ rfl; simpa using this
    go_upto_block 2 with (fail)
    go_cut [] from 87 to 138 (fun wx => ∃ q2, Shut (PD w wx g h c gd q2 q2 z (Obj.cells #[.int .i64 dk, .int .i64 da, .int .i64 dn] 35 (0, 0)) ∧ allA q2 ≤ ((i : Int) + 1) * 1099511627776))
    case first =>
      by_cases hk1 : dk = 1
      · have e1 : (dk == 1) = true := by simpa using hk1
        clear hk1
        obtain ⟨q1, hq1⟩ : ∃ q1, q1 = (addA q da dn).1 := ⟨_, rfl⟩
        obtain ⟨kc, hK⟩ : ∃ kc, kc = (addA q da dn).2 := ⟨_, rfl⟩
        have HQK := Shut.mk (show q1 = (addA q da dn).1 ∧ kc = (addA q da dn).2 from ⟨hq1, hK⟩)
        have HQ0 := Shut.mk (show InvA q ∧ allA q ≤ 4611686018427387904 from ⟨HPD.out.pw.inv, HPD.out.pw.all⟩)
        have HKC := Shut.mk (show kc = 0 ∨ kc ∈ S14 by rw [hK]; exact codes_add q da dn)
        have HQI := Shut.mk (show InvA q1 by rw [hq1]; exact inv_addA HQ0.out.1 da dn)
        have HQA := Shut.mk (show allA q1 ≤ 4611686018427387904 by rw [hq1]; exact Int.le_trans (all_addA HQ0.out.1 da dn) (by have := HLE.out; have := HI100.out; omega))
        have HQL := Shut.mk (show allA q1 ≤ ((i : Int) + 1) * 1099511627776 by rw [hq1]; exact Int.le_trans (all_addA HQ0.out.1 da dn) (by have := HLE.out; omega))
        clear hq1 hK
        go_wp2_with (fail)
        refine wp_region_D (fun w' => w'.heap[gd]? = some (Obj.cells #[.int .i64 dk, .int .i64 da, .int .i64 dn] 35 (0, 0))) 11 (by kernel_rfl) (show (World.drew w3).heap[gd]? = some (Obj.cells #[.int .i64 dk, .int .i64 da, .int .i64 dn] 35 (0, 0)) from HPD.out.db) (fun hHeld hC => ?_)
        obtain ⟨w5, hw5⟩ : ∃ w5, w5 = World.drew w3 := ⟨_, rfl⟩
        have HP5 := Shut.mk (HPD.out.quiet (show Below w3.heap.size w3 w5 by rw [hw5]; exact (Below.refl _ _).drew))
        rw [← hw5] at hHeld ⊢
        clear hw5
        refine dP 0 hC hHeld ?_; clear hC; intro hC
        refine dP 1 hC hHeld ?_; clear hC; intro hC
        refine dT 2 hC hHeld (fun w hSw => (show w.cell? ⟨gd, 1, none⟩ = some (.int .i64 da) from by have := block_range hSw 1 _ rfl; simpa using this)) ?_; clear hC; intro hC
        refine dP 3 hC hHeld ?_; clear hC; intro hC
        refine dT 4 hC hHeld (fun w hSw => (show w.cell? ⟨gd, 2, none⟩ = some (.int .i64 dn) from by have := block_range hSw 2 _ rfl; simpa using this)) ?_; clear hC; intro hC
        refine dP 6 hC hHeld ?_; clear hC; intro hC
        refine dP 7 hC hHeld ?_; clear hC; intro hC
        refine dT 8 hC hHeld (fun w hSw => (show w.cell? ⟨gd, 1, none⟩ = some (.int .i64 da) from by have := block_range hSw 1 _ rfl; simpa using this)) ?_; clear hC; intro hC
        refine dP 9 hC hHeld ?_; clear hC; intro hC
        refine dT 10 hC hHeld (fun w hSw => (show w.cell? ⟨gd, 2, none⟩ = some (.int .i64 dn) from by have := block_range hSw 2 _ rfl; simpa using this)) ?_; clear hC; intro hC
        refine wpAnyD_one (i := 5) (by kernel_rfl) rfl hC (fun K hK => ?_)
        clear hC
        go_simp
        refine (add_any g q da dn w5 E (HS.out.below HP5.out.pw.bel) (by decide) HP5.out.pw.aq HP5.out.pw.inv HP5.out.pw.all).mono ?_
        rintro e' we1 ⟨rfl, hE, hO⟩
        rw [← HQK.out.1] at hE
        rw [← HQK.out.2]
        have HP6 := Shut.mk (HP5.out.code hO hE HQI.out HQA.out)
        clear hE hO
        have hHeld2 := HP6.out.db
        clear hHeld
        have hHeld := hHeld2
        clear hHeld2
        refine hK.out _ _ (fun _ => hHeld) (fun hC => ?_)
        clear hK K
        try simp only [Act.put, List.getElem_toArray, List.getElem_cons_zero, List.getElem_cons_succ, List.setIfInBounds_toArray, List.set_cons_zero, List.set_cons_succ]
        refine wpAnyD_one (i := 11) (by kernel_rfl) rfl hC (fun K hK => ?_)
        clear hC
        go_simp
        refine (refadd_any h q da dn we1 HP6.out.pw.ra HQ0.out.1 HQ0.out.2).mono ?_
        rintro e' we2 ⟨rfl, hE, hO⟩
        rw [← HQK.out.1] at hE
        rw [← HQK.out.2]
        have HP7 := Shut.mk (HP6.out.ref hO hE)
        clear hE hO
        refine hK.out _ _ (past (by kernel_rfl)) (fun hC => ?_)
        clear hK K
        try simp only [Act.put, List.getElem_toArray, List.getElem_cons_zero, List.getElem_cons_succ, List.setIfInBounds_toArray, List.set_cons_zero, List.set_cons_succ]
        refine wpAnyD_one (i := 12) (by kernel_rfl) rfl hC (fun K hK => ?_)
        clear hC
        go_simp
        refine (is_any E kc (kc : Nat) we2 (HS.out.below HP7.out.pw.bel) HKC.out).mono ?_
        rintro e' we3 ⟨rfl, hb⟩
        rw [show (((kc : Nat) : Int) == ((kc : Nat) : Int)) = true by simp]
        have HP8 := Shut.mk (HP7.out.quiet hb)
        clear hb
        refine hK.out _ _ (past (by kernel_rfl)) (fun hC => ?_)
        clear hK K
        try simp only [Act.put, List.getElem_toArray, List.getElem_cons_zero, List.getElem_cons_succ, List.setIfInBounds_toArray, List.set_cons_zero, List.set_cons_succ]
        refine dQ 13 hC ?_; clear hC; intro hC
        refine wpAnyD_done (by kernel_rfl) ?_ _
        try simp only [Act.put, List.getElem_toArray, List.getElem_cons_zero, List.getElem_cons_succ, List.setIfInBounds_toArray, List.set_cons_zero, List.set_cons_succ]
        clear hC hHeld
        go_wp2_with (fail)
        go_meet
        exact ⟨q1, Shut.mk ⟨HP8.out, HQL.out⟩⟩
      · have e1 : (dk == 1) = false := by simpa using hk1
        clear hk1
        by_cases hk2 : dk = 2
        · have e2 : (dk == 2) = true := by simpa using hk2
          clear hk2
          obtain ⟨q1, hq1⟩ : ∃ q1, q1 = (subA q da dn).1 := ⟨_, rfl⟩
          obtain ⟨kc, hK⟩ : ∃ kc, kc = (subA q da dn).2 := ⟨_, rfl⟩
          have HQK := Shut.mk (show q1 = (subA q da dn).1 ∧ kc = (subA q da dn).2 from ⟨hq1, hK⟩)
          have HQ0 := Shut.mk (show InvA q ∧ allA q ≤ 4611686018427387904 from ⟨HPD.out.pw.inv, HPD.out.pw.all⟩)
          have HKC := Shut.mk (show kc = 0 ∨ kc ∈ S14 by rw [hK]; exact codes_sub q da dn)
          have HQI := Shut.mk (show InvA q1 by rw [hq1]; exact inv_subA HQ0.out.1 da dn)
          have HQA := Shut.mk (show allA q1 ≤ 4611686018427387904 by rw [hq1]; exact Int.le_trans (all_subA HQ0.out.1 da dn) HQ0.out.2)
          have HQL := Shut.mk (show allA q1 ≤ ((i : Int) + 1) * 1099511627776 by rw [hq1]; exact Int.le_trans (all_subA HQ0.out.1 da dn) (by have := HLE.out; omega))
          clear hq1 hK
          go_wp2_with (fail)
          refine wp_region_D (fun w' => w'.heap[gd]? = some (Obj.cells #[.int .i64 dk, .int .i64 da, .int .i64 dn] 35 (0, 0))) 11 (by kernel_rfl) (show (World.drew w3).heap[gd]? = some (Obj.cells #[.int .i64 dk, .int .i64 da, .int .i64 dn] 35 (0, 0)) from HPD.out.db) (fun hHeld hC => ?_)
          obtain ⟨w5, hw5⟩ : ∃ w5, w5 = World.drew w3 := ⟨_, rfl⟩
          have HP5 := Shut.mk (HPD.out.quiet (show Below w3.heap.size w3 w5 by rw [hw5]; exact (Below.refl _ _).drew))
          rw [← hw5] at hHeld ⊢
          clear hw5
          refine dP 0 hC hHeld ?_; clear hC; intro hC
          refine dP 1 hC hHeld ?_; clear hC; intro hC
          refine dT 2 hC hHeld (fun w hSw => (show w.cell? ⟨gd, 1, none⟩ = some (.int .i64 da) from by have := block_range hSw 1 _ rfl; simpa using this)) ?_; clear hC; intro hC
          refine dP 3 hC hHeld ?_; clear hC; intro hC
          refine dT 4 hC hHeld (fun w hSw => (show w.cell? ⟨gd, 2, none⟩ = some (.int .i64 dn) from by have := block_range hSw 2 _ rfl; simpa using this)) ?_; clear hC; intro hC
          refine dP 6 hC hHeld ?_; clear hC; intro hC
          refine dP 7 hC hHeld ?_; clear hC; intro hC
          refine dT 8 hC hHeld (fun w hSw => (show w.cell? ⟨gd, 1, none⟩ = some (.int .i64 da) from by have := block_range hSw 1 _ rfl; simpa using this)) ?_; clear hC; intro hC
          refine dP 9 hC hHeld ?_; clear hC; intro hC
          refine dT 10 hC hHeld (fun w hSw => (show w.cell? ⟨gd, 2, none⟩ = some (.int .i64 dn) from by have := block_range hSw 2 _ rfl; simpa using this)) ?_; clear hC; intro hC
          refine wpAnyD_one (i := 5) (by kernel_rfl) rfl hC (fun K hK => ?_)
          clear hC
          go_simp
          refine (sub_any g q da dn w5 E (HS.out.below HP5.out.pw.bel) (by decide) (by decide) HP5.out.pw.aq HP5.out.pw.inv HP5.out.pw.all).mono ?_
          rintro e' we1 ⟨rfl, hE, hO⟩
          rw [← HQK.out.1] at hE
          rw [← HQK.out.2]
          have HP6 := Shut.mk (HP5.out.code hO hE HQI.out HQA.out)
          clear hE hO
          have hHeld2 := HP6.out.db
          clear hHeld
          have hHeld := hHeld2
          clear hHeld2
          refine hK.out _ _ (fun _ => hHeld) (fun hC => ?_)
          clear hK K
          try simp only [Act.put, List.getElem_toArray, List.getElem_cons_zero, List.getElem_cons_succ, List.setIfInBounds_toArray, List.set_cons_zero, List.set_cons_succ]
          refine wpAnyD_one (i := 11) (by kernel_rfl) rfl hC (fun K hK => ?_)
          clear hC
          go_simp
          refine (refsub_any h q da dn we1 HP6.out.pw.ra HQ0.out.1 HQ0.out.2).mono ?_
          rintro e' we2 ⟨rfl, hE, hO⟩
          rw [← HQK.out.1] at hE
          rw [← HQK.out.2]
          have HP7 := Shut.mk (HP6.out.ref hO hE)
          clear hE hO
          refine hK.out _ _ (past (by kernel_rfl)) (fun hC => ?_)
          clear hK K
          try simp only [Act.put, List.getElem_toArray, List.getElem_cons_zero, List.getElem_cons_succ, List.setIfInBounds_toArray, List.set_cons_zero, List.set_cons_succ]
          refine wpAnyD_one (i := 12) (by kernel_rfl) rfl hC (fun K hK => ?_)
          clear hC
          go_simp
          refine (is_any E kc (kc : Nat) we2 (HS.out.below HP7.out.pw.bel) HKC.out).mono ?_
          rintro e' we3 ⟨rfl, hb⟩
          rw [show (((kc : Nat) : Int) == ((kc : Nat) : Int)) = true by simp]
          have HP8 := Shut.mk (HP7.out.quiet hb)
          clear hb
          refine hK.out _ _ (past (by kernel_rfl)) (fun hC => ?_)
          clear hK K
          try simp only [Act.put, List.getElem_toArray, List.getElem_cons_zero, List.getElem_cons_succ, List.setIfInBounds_toArray, List.set_cons_zero, List.set_cons_succ]
          refine dQ 13 hC ?_; clear hC; intro hC
          refine wpAnyD_done (by kernel_rfl) ?_ _
          try simp only [Act.put, List.getElem_toArray, List.getElem_cons_zero, List.getElem_cons_succ, List.setIfInBounds_toArray, List.set_cons_zero, List.set_cons_succ]
          clear hC hHeld
          go_wp2_with (fail)
          go_meet
          exact ⟨q1, Shut.mk ⟨HP8.out, HQL.out⟩⟩
        · have e2 : (dk == 2) = false := by simpa using hk2
          clear hk2
          have HQ0 := Shut.mk (show InvA q ∧ allA q ≤ 4611686018427387904 from ⟨HPD.out.pw.inv, HPD.out.pw.all⟩)
          have HQA := Shut.mk (show allA (clearA q da) ≤ ((i : Int) + 1) * 1099511627776 from Int.le_trans (all_clearA HQ0.out.1 da) (by have := HLE.out; omega))
          have hc1 : w3.cell? ⟨gd, 1, none⟩ = some (.int .i64 da) := by have := block_range HPD.out.db 1 _ rfl; simpa using this
          go_wp2_with (fail)
          clear hc1
          refine (clear_any g q da w3 HPD.out.pw.aq HQ0.out.1).mono ?_
          rintro x' w4 ⟨rfl, hE, hO⟩
          have HPC := Shut.mk (HPD.out.code hO hE (inv_clearA HQ0.out.1 da) (Int.le_trans (all_clearA HQ0.out.1 da) HQ0.out.2))
          have hc1 : w4.cell? ⟨gd, 1, none⟩ = some (.int .i64 da) := by have := block_range HPC.out.db 1 _ rfl; simpa using this
          clear hE hO HPD
          have HPD := HPC
          clear HPC
          obtain ⟨w3, hw3⟩ : ∃ w3, w3 = w4 := ⟨_, rfl⟩
          subst hw3
          by_cases hd : aidB da = true
          · obtain ⟨a, ha, ha17, ha1⟩ := ints_in hd
            subst ha
            have HA := Shut.mk ha17
            rw [clear_in hd] at HPD HQA
            have hx0 : (1 : Int) ≤ (a : Int) := by omega
            have hx1 : (a : Int) ≤ 16 := by have := aidB_iff.1 hd; omega
            have hx2 : (a : Int) < 17 := by omega
            clear hd ha17 ha1
            go_wp2_with (fail)
            refine wp_region_D (fun w' => w'.heap[gd]? = some (Obj.cells #[.int .i64 dk, .int .i64 ((a : Nat) : Int), .int .i64 dn] 35 (0, 0))) 6 (by kernel_rfl) (show (World.drew w3).heap[gd]? = some (Obj.cells #[.int .i64 dk, .int .i64 ((a : Nat) : Int), .int .i64 dn] 35 (0, 0)) from HPD.out.db) (fun hHeld hC => ?_)
            obtain ⟨w5, hw5⟩ : ∃ w5, w5 = World.drew w3 := ⟨_, rfl⟩
            have HP5 := Shut.mk (HPD.out.quiet (show Below w3.heap.size w3 w5 by rw [hw5]; exact (Below.refl _ _).drew))
            rw [← hw5] at hHeld ⊢
            clear hw5
            refine dP 0 hC hHeld ?_; clear hC; intro hC
            refine dP 1 hC hHeld ?_; clear hC; intro hC
            refine dT 2 hC hHeld (fun w hSw => (show w.cell? ⟨gd, 1, none⟩ = some (.int .i64 ((a : Nat) : Int)) from by have := block_range hSw 1 _ rfl; simpa using this)) ?_; clear hC; intro hC
            refine dP 3 hC hHeld ?_; clear hC; intro hC
            refine dP 4 hC hHeld ?_; clear hC; intro hC
            refine dP 5 hC hHeld ?_; clear hC; intro hC
            refine wpAnyD_one (i := 6) (by kernel_rfl) rfl hC (fun K hK => ?_)
            clear hC
            refine step_store_into rfl 2 (.tmp 106) (.const (.int .i64 0)) rfl h (2 + a) (.int .i64 0) rfl rfl rfl 33 _ _ HP5.out.pw.ra size1x (by show 2 + a < 19; have := HA.out; omega) (c19_set _ _ _ HA.out _) ?_
            have HP6 := Shut.mk (HP5.out.ref (only_setRow w5 h (c19 q.st q.wh (upX (vA q) a 0))) (IsRa.put (a := a) (v := 0) (setRow_heap w5 h _ _ _ (0, 0) HP5.out.pw.ra) HQ0.out.1 HA.out))
            generalize hq : World.setRow w5 h _ = we1 at *
            clear hq
            refine hK.out _ _ (past (by kernel_rfl)) (fun hC => ?_)
            clear hK K
            try simp only [Act.put, List.getElem_toArray, List.getElem_cons_zero, List.getElem_cons_succ, List.setIfInBounds_toArray, List.set_cons_zero, List.set_cons_succ]
            refine wpAnyD_done (by kernel_rfl) ?_ _
            try simp only [Act.put, List.getElem_toArray, List.getElem_cons_zero, List.getElem_cons_succ, List.setIfInBounds_toArray, List.set_cons_zero, List.set_cons_succ]
            clear hC hHeld
            go_wp2_with (fail)
            go_meet
            exact ⟨_, Shut.mk ⟨HP6.out, HQA.out⟩⟩
          · have hd' : aidB da = false := by simpa using hd
            rw [clear_no hd'] at HPD HQA
            have hlt := fun h : 1 ≤ da ∧ da ≤ 16 => hd (aidB_iff.2 h)
            clear hd hd'
            by_cases hx0 : 1 ≤ da
            · have hx1 : ¬ da ≤ 16 := fun h => hlt ⟨hx0, h⟩
              clear hlt
              go_wp2_with (fail)
              go_meet
              exact ⟨q, Shut.mk ⟨HPD.out, HQA.out⟩⟩
            · clear hlt
              go_wp2_with (fail)
              go_meet
              exact ⟨q, Shut.mk ⟨HPD.out, HQA.out⟩⟩
    case rest =>
      obtain ⟨q2, HP3⟩ := hcut
      have HP2 := Shut.mk HP3.out.1
      have HQB := Shut.mk HP3.out.2
      clear HPD HP3
      go_wp2_with (fail)
      go_loopw [15, 16] (fun s15 _ wr => ∃ j : Nat, j ≤ 18 ∧ s15 = .int .i64 (j : Int) ∧ Shut (PD w wr g h c gd q2 q2 z (Obj.cells #[.int .i64 dk, .int .i64 da, .int .i64 dn] 35 (0, 0)))) (fun s15 _ _ => 18 - (intOf s15).toNat)
      case atStart => exact ⟨0, Nat.zero_le _, rfl, HP2⟩
      case round =>
        clear HP2
        obtain ⟨j, hj, rfl, HQ⟩ := hrel
        by_cases hj18 : j = 18
        · subst hj18
          clear hj
          go_wp2_with (fail)
          refine (all_any g q2 wr HQ.out.pw.aq HQ.out.pw.inv HQ.out.pw.all).mono ?_
          rintro x' wn ⟨rfl, hb⟩
          have HQ2 := Shut.mk (HQ.out.quiet hb)
          clear hb
          go_wp2_with (fail)
          refine (refall_any h q2 wn HQ2.out.pw.ra HQ2.out.pw.inv HQ2.out.pw.all).mono ?_
          rintro x' wm ⟨rfl, hb⟩
          have HQ3 := Shut.mk (HQ2.out.quiet hb)
          clear hb
          obtain ⟨al, hal⟩ : ∃ al, al = allA q2 := ⟨_, rfl⟩
          rw [← hal]
          clear hal
          go_wp2_with (fail)
          refine (all_any c z wm HQ3.out.cl HQ3.out.zi HQ3.out.za).mono ?_
          rintro x' wo ⟨rfl, hb⟩
          have HQ4 := Shut.mk (HQ3.out.quiet hb)
          rw [← HWA.out]
          clear hb
          go_wp2_with (fail)
          go_roundw
          case rel => exact ⟨i + 1, q2, by have := HIN2.out; omega, by go_num, Shut.mk ⟨HQ4.out.pw, HQB.out⟩⟩
          case measure => have := HIN2.out; simp [intOf]; omega
        by_cases hj0 : j = 0
        · subst hj0
          clear hj hj18
          go_wp2_with (fail)
          refine (may_any g q2 0 wr HQ.out.pw.aq HQ.out.pw.inv HQ.out.pw.all).mono ?_
          rintro x' wn ⟨rfl, hb⟩
          have HQ2 := Shut.mk (HQ.out.quiet hb)
          clear hb
          go_wp2_with (fail)
          refine (refmay_any h q2 0 wn HQ2.out.pw.ra HQ2.out.pw.inv HQ2.out.pw.all).mono ?_
          rintro x' wm ⟨rfl, hb⟩
          have HQ3 := Shut.mk (HQ2.out.quiet hb)
          clear hb
          generalize mayA q2 0 = mb
          have hmb : (mb != mb) = false := by simp
          go_wp2_with (fail)
          refine (of_any g q2 0 wm HQ3.out.pw.aq HQ3.out.pw.inv HQ3.out.pw.all).mono ?_
          rintro x' wo ⟨rfl, hb⟩
          have HQ4 := Shut.mk (HQ3.out.quiet hb)
          rw [show ofA q2 0 = 0 from ofA_no rfl]
          clear hb
          go_wp2_with (fail)
          go_roundw
          case rel => exact ⟨1, by omega, by go_num, HQ4⟩
          case measure => simp [intOf]
        by_cases hj17 : j = 17
        · subst hj17
          clear hj hj18 hj0
          go_wp2_with (fail)
          refine (may_any g q2 17 wr HQ.out.pw.aq HQ.out.pw.inv HQ.out.pw.all).mono ?_
          rintro x' wn ⟨rfl, hb⟩
          have HQ2 := Shut.mk (HQ.out.quiet hb)
          clear hb
          go_wp2_with (fail)
          refine (refmay_any h q2 17 wn HQ2.out.pw.ra HQ2.out.pw.inv HQ2.out.pw.all).mono ?_
          rintro x' wm ⟨rfl, hb⟩
          have HQ3 := Shut.mk (HQ2.out.quiet hb)
          clear hb
          generalize mayA q2 17 = mb
          have hmb : (mb != mb) = false := by simp
          go_wp2_with (fail)
          refine (of_any g q2 17 wm HQ3.out.pw.aq HQ3.out.pw.inv HQ3.out.pw.all).mono ?_
          rintro x' wo ⟨rfl, hb⟩
          have HQ4 := Shut.mk (HQ3.out.quiet hb)
          rw [show ofA q2 17 = 0 from ofA_no rfl]
          clear hb
          go_wp2_with (fail)
          go_roundw
          case rel => exact ⟨18, by omega, by go_num, HQ4⟩
          case measure => simp [intOf]
        have HJ := Shut.mk (show j < 17 by omega)
        have HJA := Shut.mk (show aidB (j : Int) = true from aidB_iff.2 ⟨by omega, by omega⟩)
        have hx0 : (1 : Int) ≤ (j : Int) := by omega
        have hx1 : (j : Int) ≤ 16 := by omega
        have hx2 : (j : Int) ≤ 17 := by omega
        have hx3 : (j : Int) < 17 := by omega
        have hx := At19.x HQ.out.pw.ra HJ.out
        have HOF := Shut.mk (ofA_v (q := q2) HJA.out)
        generalize vA q2 j = v at *
        clear hj hj18 hj0 hj17
        go_wp2_with (fail)
        clear hx
        refine (may_any g q2 (j : Int) wr HQ.out.pw.aq HQ.out.pw.inv HQ.out.pw.all).mono ?_
        rintro x' wn ⟨rfl, hb⟩
        have HQ2 := Shut.mk (HQ.out.quiet hb)
        clear hb
        go_wp2_with (fail)
        refine (refmay_any h q2 (j : Int) wn HQ2.out.pw.ra HQ2.out.pw.inv HQ2.out.pw.all).mono ?_
        rintro x' wm ⟨rfl, hb⟩
        have HQ3 := Shut.mk (HQ2.out.quiet hb)
        clear hb
        generalize mayA q2 (j : Int) = mb
        have hmb : (mb != mb) = false := by simp
        go_wp2_with (fail)
        refine (of_any g q2 (j : Int) wm HQ3.out.pw.aq HQ3.out.pw.inv HQ3.out.pw.all).mono ?_
        rintro x' wo ⟨rfl, hb⟩
        have HQ4 := Shut.mk (HQ3.out.quiet hb)
        rw [HOF.out]
        clear hb
        go_wp2_with (fail)
        go_roundw
        case rel => exact ⟨j + 1, by have := HJ.out; omega, by go_num, HQ4⟩
        case measure => have := HJ.out; simp [intOf]; omega

end Go.Proofs.YtlchfmjpachgfaaDoor.aqlPlays
