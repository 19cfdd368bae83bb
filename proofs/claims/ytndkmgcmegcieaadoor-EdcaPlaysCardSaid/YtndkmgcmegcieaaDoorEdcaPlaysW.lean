/-
  The walk of muezzin/muezzinlaw18.EdcaPlays: the Go text returns true.
-/
import Derived.Test.YtndkmgcmegcieaaDoorOpenE
import Derived.Test.YtndkmgcmegcieaaDoorOpenE
import Derived.LoopTactic
import Derived.Deep.CutRange
import Derived.Deep.CutBlock
import Derived.WalkKit
import Derived.ProofKit
import Derived.Below
namespace Go.Proofs.YtndkmgcmegcieaaDoor.edcaPlays
open Go.ChangeShapes Go.WideShapes Go.ChangeAt Go.RowKit Go.Deep
set_option linter.unusedVariables false
set_option linter.unusedSimpArgs false

open Go.Proofs.YtndkmgcmegcieaaDoor

theorem rul_ne8 {w : World} {g : Nat} {e : Ec} (hR : Rul w) (hg : IsRe w g e) : 0 ≠ g := fun h => by
  have h1 := hR.most 2 (by decide)
  have h2 := cell8 hg 8
  subst h
  rw [show 2 * 3 + 2 = 8 by rfl, h2] at h1
  cases h1
theorem size4u : (Tryd.prog.info? 33).map (·.size) = some 4 := by kernel_rfl
theorem size11 : (Tryd.prog.info? 35).map (·.size) = some 11 := by kernel_rfl
/-- the code's object at g, the reference's at h. -/
structure PW (w wx : World) (g h : Nat) (e y : Ec) : Prop where
  ed : IsEd wx g e
  re : IsRe wx h y
  inv : InvE e
  bel : Below w.heap.size w wx
  gn : w.heap.size ≤ g
  hn : w.heap.size ≤ h
  ne : g ≠ h
  rul : Rul wx
theorem PW.quiet {w wx wy : World} {g h : Nat} {e y : Ec} (p : PW w wx g h e y) (hb : Below wx.heap.size wx wy) : PW w wy g h e y :=
  ⟨p.ed.below hb, p.re.below hb, p.inv, p.bel.trans (hb.mono p.bel.size), p.gn, p.hn, p.ne, p.rul.below hb⟩
theorem PW.code {w wx wy : World} {g h : Nat} {e e' y : Ec} (p : PW w wx g h e y) (ho : Only (· = g) wx wy) (hg : IsEd wy g e') (hi : InvE e') : PW w wy g h e' y :=
  ⟨hg, p.re.only ho fun e => p.ne e.symm, hi, p.bel.trans (ho.below (fun i hi e => by have := p.gn; omega) p.bel.size), p.gn, p.hn, p.ne, p.rul.only ho (rul_ne p.rul p.ed)⟩
theorem PW.ref {w wx wy : World} {g h : Nat} {e y y' : Ec} (p : PW w wx g h e y) (ho : Only (· = h) wx wy) (hg : IsRe wy h y') : PW w wy g h e y' :=
  ⟨p.ed.only ho p.ne, hg, p.inv, p.bel.trans (ho.below (fun i hi e => by have := p.hn; omega) p.bel.size), p.gn, p.hn, p.ne, p.rul.only ho (rul_ne8 p.rul p.re)⟩
/-- a copy at c, the law's own block at gd. -/
structure PD (w wx : World) (g h c gd : Nat) (e y z : Ec) (o : Obj) : Prop where
  pw : PW w wx g h e y
  cl : IsEd wx c z
  db : wx.heap[gd]? = some o
  na : c ≠ g ∧ c ≠ h ∧ gd ≠ g ∧ gd ≠ h
  zi : InvE z
theorem PD.quiet {w wx wy : World} {g h c gd : Nat} {e y z : Ec} {o : Obj} (p : PD w wx g h c gd e y z o) (hb : Below wx.heap.size wx wy) : PD w wy g h c gd e y z o :=
  ⟨p.pw.quiet hb, p.cl.below hb, (hb.block _ (lt_blk p.db)).trans p.db, p.na, p.zi⟩
theorem PD.code {w wx wy : World} {g h c gd : Nat} {e e' y z : Ec} {o : Obj} (p : PD w wx g h c gd e y z o) (ho : Only (· = g) wx wy) (hg : IsEd wy g e') (hi : InvE e') : PD w wy g h c gd e' y z o :=
  ⟨p.pw.code ho hg hi, p.cl.only ho p.na.1, ho.at_ p.db p.na.2.2.1, p.na, p.zi⟩
theorem PD.ref {w wx wy : World} {g h c gd : Nat} {e y y' z : Ec} {o : Obj} (p : PD w wx g h c gd e y z o) (ho : Only (· = h) wx wy) (hg : IsRe wy h y') : PD w wy g h c gd e y' z o :=
  ⟨p.pw.ref ho hg, p.cl.only ho p.na.2.1, ho.at_ p.db p.na.2.2.2, p.na, p.zi⟩
theorem mid4 {w : World} {g o : Nat} {t : TypeId} {fr : Nat × Nat} {l cs : List Value} (hh : w.heap[g]? = some (.cells l.toArray t fr)) (hl : ∀ j v, cs[j]? = some v → l[o + j]? = some v) : w.rangeAt g o cs := fun j v hv => by
  rw [cell_of_row w g (o + j) _ t fr hh]
  simpa using hl j v hv

/-! ### THE WALK -/
set_option maxRecDepth 100000 in
set_option maxHeartbeats 8000000 in
theorem walk (a0 : Option Addr) (cap0 : Nat) (l0 : List Doe) (w : World) (E : Nat → Addr) (hS : Sent w E [101, 102, 103, 104, 105, 106, 107, 108, 109, 110, 111, 112, 113, 114]) (hR : Rul w) (w0 : RowS doC 11 do00 w a0 l0.length l0 ∧ l0.length ≤ cap0 ∧ ∀ d ∈ l0, okDo d) :
    Calls Tryd.prog 3 #[.slice a0 l0.length cap0] w fun e w' => e = .returned (.bool true) ∧ Below w.heap.size w w' := by
  have HS := Shut.mk hS
  have HR := Shut.mk hR
  obtain ⟨hr0, hc0, hok0⟩ := w0
  have HROW := Shut.mk hr0
  have HOKA := Shut.mk hok0
  obtain ⟨n, hn⟩ : ∃ n : Nat, n = l0.length := ⟨_, rfl⟩
  have HN := Shut.mk hn
  have hle := hr0.le
  rw [← hn] at hle ⊢
  clear hS hR hr0 hc0 hok0 hn
  go_enter Tryd.func3, Tryd.ntmps3
  go_wp2_with (fail)
  refine (first_any w HR.out).mono ?_
  rintro x wa ⟨rfl, hBa⟩
  have HBa := Shut.mk hBa
  clear hBa
  rcases Nat.lt_or_ge 100 n with hN | hN
  · have hN' : (100 : Int) < (n : Int) := by omega
    go_wp2_with (fail)
    go_ret
    exact ⟨rfl, HBa.out⟩
  have hN1 : ¬ (100 : Int) < (n : Int) := by omega
  have HN100 := Shut.mk hN
  have HP0 := Shut.mk (show PW w ((wa.alloc (Obj.cells #[.int .i64 0, .int .i64 0, .int .i64 0, .int .i64 0, .int .i64 0, .int .i64 0, .int .i64 0, .int .i64 0, .bool false, .bool false, .bool false, .bool false] 28 (0, 0))).alloc (Obj.cells #[.int .i64 0, .int .i64 0, .int .i64 0, .int .i64 0, .int .i64 0, .int .i64 0, .int .i64 0, .int .i64 0] 31 (0, 0))) wa.heap.size (wa.heap.size + 1) e0 e0 from
    { ed := (ed_zero wa).below ((Below.refl _ _).alloc (Nat.le_refl _) _)
      re := by have h1 := re_zero (wa.alloc (Obj.cells #[.int .i64 0, .int .i64 0, .int .i64 0, .int .i64 0, .int .i64 0, .int .i64 0, .int .i64 0, .int .i64 0, .bool false, .bool false, .bool false, .bool false] 28 (0, 0))); rw [show (wa.alloc (Obj.cells #[.int .i64 0, .int .i64 0, .int .i64 0, .int .i64 0, .int .i64 0, .int .i64 0, .int .i64 0, .int .i64 0, .bool false, .bool false, .bool false, .bool false] 28 (0, 0))).heap.size = wa.heap.size + 1 by simp] at h1; exact h1
      inv := inv_e0
      bel := (HBa.out.alloc HBa.out.size _).alloc (Nat.le_trans HBa.out.size (by simp)) _
      gn := HBa.out.size
      hn := by have := HBa.out.size; omega
      ne := by omega
      rul := HR.out.below ((HBa.out.alloc HBa.out.size _).alloc (Nat.le_trans HBa.out.size (by simp)) _) })
  clear hN
  go_wp2_with (fail)
  generalize World.alloc (World.alloc wa _) _ = wb at *
  obtain ⟨h, hh⟩ : ∃ h, h = wa.heap.size + 1 := ⟨_, rfl⟩
  rw [← hh] at HP0 ⊢
  obtain ⟨g, hg⟩ : ∃ g, g = wa.heap.size := ⟨_, rfl⟩
  rw [← hg] at HP0 ⊢
  clear hh hg hN1
  go_loopw [6, 7, 8, 9, 10, 11, 12, 13, 14, 15, 16, 17, 18, 19] (fun s6 _ _ _ _ _ _ _ _ _ _ _ _ _ wr => ∃ (i : Nat) (e : Ec), i ≤ n ∧ s6 = .int .i64 (i : Int) ∧ Shut (PW w wr g h e e)) (fun s6 _ _ _ _ _ _ _ _ _ _ _ _ _ _ => n - (intOf s6).toNat)
  case atStart => exact ⟨0, e0, Nat.zero_le _, rfl, HP0⟩
  case round =>
    clear HP0
    obtain ⟨i, e, hi, rfl, HP⟩ := hrel
    by_cases hin : i < n
    rotate_left
    · obtain rfl : i = n := by omega
      have hge : ¬ (i : Int) < (i : Int) := by omega
      have hge2 : ¬ i < i := by omega
      clear hi hin
      go_wp2_with (fail)
      go_ret
      exact ⟨rfl, HP.out.bel⟩
    have hin2 : (i : Int) < (n : Int) := by omega
    have HIN2 := Shut.mk hin
    obtain ⟨b, off, rfl, hrg⟩ := (HROW.out.below HP.out.bel).el i (by rw [← HN.out]; exact hin)
    have hdok := HOKA.out (l0.getD i do00) (by
      have e : l0.getD i do00 = l0[i]'(by rw [← HN.out]; exact hin) := by simp [List.getD, show i < l0.length by rw [← HN.out]; exact hin]
      rw [e]; exact List.getElem_mem _)
    generalize l0.getD i do00 = dd at *
    obtain ⟨dk, da, dw, d0, d1, d2, d3, q0, q1, q2, q3⟩ := dd
    have HOK := Shut.mk hdok
    have HRG := Shut.mk (show wr.rangeAt b (off + i * 11) [Value.int .i64 dk, .int .i64 da, .bool dw, .bool d0, .bool d1, .bool d2, .bool d3, .int .u32 (q0 : Nat), .int .u32 (q1 : Nat), .int .u32 (q2 : Nat), .int .u32 (q3 : Nat)] from hrg)
    clear hrg hdok hi
    obtain ⟨gd, hgd⟩ : ∃ x, x = wr.heap.size := ⟨_, rfl⟩
    have HGD := Shut.mk hgd
    have HAd := Shut.mk ((Below.refl wr.heap.size wr).alloc (Nat.le_refl _) (Obj.cells #[.int .i64 0, .int .i64 0, .bool false, .bool false, .bool false, .bool false, .bool false, .int .u32 0, .int .u32 0, .int .u32 0, .int .u32 0] 35 (0, 0)))
    have HXd := Shut.mk (show (wr.alloc (Obj.cells #[.int .i64 0, .int .i64 0, .bool false, .bool false, .bool false, .bool false, .bool false, .int .u32 0, .int .u32 0, .int .u32 0, .int .u32 0] 35 (0, 0))).heap[gd]? = some (Obj.cells #[.int .i64 0, .int .i64 0, .bool false, .bool false, .bool false, .bool false, .bool false, .int .u32 0, .int .u32 0, .int .u32 0, .int .u32 0] 35 (0, 0)) by rw [hgd]; exact (MapKept.heap_alloc wr (Obj.cells #[.int .i64 0, .int .i64 0, .bool false, .bool false, .bool false, .bool false, .bool false, .int .u32 0, .int .u32 0, .int .u32 0, .int .u32 0] 35 (0, 0))).1)
    obtain ⟨w1, hw1⟩ : ∃ w4, w4 = (wr.alloc (Obj.cells #[.int .i64 0, .int .i64 0, .bool false, .bool false, .bool false, .bool false, .bool false, .int .u32 0, .int .u32 0, .int .u32 0, .int .u32 0] 35 (0, 0))).setRow gd #[Value.int .i64 dk, .int .i64 da, .bool dw, .bool d0, .bool d1, .bool d2, .bool d3, .int .u32 (q0 : Nat), .int .u32 (q1 : Nat), .int .u32 (q2 : Nat), .int .u32 (q3 : Nat)] := ⟨_, rfl⟩
    have HDB := Shut.mk (show w1.heap[gd]? = some (Obj.cells #[Value.int .i64 dk, .int .i64 da, .bool dw, .bool d0, .bool d1, .bool d2, .bool d3, .int .u32 (q0 : Nat), .int .u32 (q1 : Nat), .int .u32 (q2 : Nat), .int .u32 (q3 : Nat)] 35 (0, 0)) by rw [hw1]; exact setRow_heap _ gd _ #[Value.int .i64 dk, .int .i64 da, .bool dw, .bool d0, .bool d1, .bool d2, .bool d3, .int .u32 (q0 : Nat), .int .u32 (q1 : Nat), .int .u32 (q2 : Nat), .int .u32 (q3 : Nat)] _ (0, 0) HXd.out)
    have HBd := Shut.mk (show Below wr.heap.size wr w1 by rw [hw1]; exact below_setRow HAd.out (by omega) _)
    have HW1 := Shut.mk hw1.symm
    have HPW1 := Shut.mk (HP.out.quiet HBd.out)
    have HGN := Shut.mk (show gd ≠ g ∧ gd ≠ h from by have h1 := lt_blk HP.out.ed; have h2 := lt_blk HP.out.re; omega)
    clear hgd hw1 HP
    go_wp2_with (first
      | (refine wpList_load_mid rfl 35 (.tmp 39) rfl b (off + i * 11) rfl [Value.int .i64 dk, .int .i64 da, .bool dw, .bool d0, .bool d1, .bool d2, .bool d3, .int .u32 (q0 : Nat), .int .u32 (q1 : Nat), .int .u32 (q2 : Nat), .int .u32 (q3 : Nat)] _ HRG.out Tryd.underlying35 rfl size11 ?_)
      | (refine wpList_store_row rfl 35 (.tmp 7) (.tmp 40) rfl gd #[Value.int .i64 dk, .int .i64 da, .bool dw, .bool d0, .bool d1, .bool d2, .bool d3, .int .u32 (q0 : Nat), .int .u32 (q1 : Nat), .int .u32 (q2 : Nat), .int .u32 (q3 : Nat)] (by show Value.pointer (some ⟨wr.heap.size, 0, none⟩) = _; rw [HGD.out]) rfl 35 _ HXd.out size11 rfl (by simp [Value.oneCell']) ?_
         rw [HW1.out, ← HGD.out]))
    refine (clone_any g e w1 HPW1.out.ed).mono ?_
    rintro x' w2 ⟨rfl, hC, hb⟩
    obtain ⟨c, hc⟩ : ∃ c, c = w1.heap.size := ⟨_, rfl⟩
    rw [← hc] at hC ⊢
    obtain ⟨z, hz⟩ : ∃ z, z = e := ⟨_, rfl⟩
    have HPD0 := Shut.mk (show PD w w2 g h c gd e e z (Obj.cells #[Value.int .i64 dk, .int .i64 da, .bool dw, .bool d0, .bool d1, .bool d2, .bool d3, .int .u32 (q0 : Nat), .int .u32 (q1 : Nat), .int .u32 (q2 : Nat), .int .u32 (q3 : Nat)] 35 (0, 0)) from ⟨HPW1.out.quiet hb, by rw [hz]; exact hC, (hb.block _ (lt_blk HDB.out)).trans HDB.out, by have h1 := lt_blk HPW1.out.ed; have h2 := lt_blk HPW1.out.re; have h3 := HGN.out; omega, by rw [hz]; exact HPW1.out.inv⟩)
    clear hC hb hc hz HPW1 HDB HBd HXd HAd HGN HRG
    go_wp2_with (fail)
    refine (show Calls Tryd.prog 9 #[.pointer (some ⟨c, 0, none⟩), .int .i64 1] w2 _ from window_in c z 1 w2 HPD0.out.cl HPD0.out.pw.rul (by decide) HPD0.out.zi).mono ?_
    rintro x' w3 ⟨rfl, hb⟩
    have HPD := Shut.mk (HPD0.out.quiet hb)
    obtain ⟨wv, hwv⟩ : ∃ v, v = winE z 1 := ⟨_, rfl⟩
    rw [← hwv]
    have HWA := Shut.mk hwv
    clear hb hwv HPD0
    have hkd : w3.cell? ⟨gd, 0, none⟩ = some (.int .i64 dk) := by have := block_range HPD.out.db 0 _ rfl; simpa using this
    go_upto_if 47 with (fail)
    clear hkd
    go_cut [10, 11, 12, 13, 14, 15] from 47 to 94 (fun _ _ _ _ _ _ wx => ∃ e2, Shut (PD w wx g h c gd e2 e2 z (Obj.cells #[Value.int .i64 dk, .int .i64 da, .bool dw, .bool d0, .bool d1, .bool d2, .bool d3, .int .u32 (q0 : Nat), .int .u32 (q1 : Nat), .int .u32 (q2 : Nat), .int .u32 (q3 : Nat)] 35 (0, 0))))
    case first =>
      by_cases hk1 : dk = 1
      · have e1 : (dk == 1) = true := by simpa using hk1
        clear hk1
        have HM3 := Shut.mk (show ∀ wx : World, wx.heap[gd]? = some (Obj.cells #[Value.int .i64 dk, .int .i64 da, .bool dw, .bool d0, .bool d1, .bool d2, .bool d3, .int .u32 (q0 : Nat), .int .u32 (q1 : Nat), .int .u32 (q2 : Nat), .int .u32 (q3 : Nat)] 35 (0, 0)) → wx.rangeAt gd 3 [.bool d0, .bool d1, .bool d2, .bool d3] from fun wx hh => mid4 (l := [Value.int .i64 dk, .int .i64 da, .bool dw, .bool d0, .bool d1, .bool d2, .bool d3, .int .u32 (q0 : Nat), .int .u32 (q1 : Nat), .int .u32 (q2 : Nat), .int .u32 (q3 : Nat)]) hh fun j v hv => by
          match j, hv with
          | 0, hv | 1, hv | 2, hv | 3, hv => exact hv
          | n + 4, hv => simp at hv)
        have HM7 := Shut.mk (show ∀ wx : World, wx.heap[gd]? = some (Obj.cells #[Value.int .i64 dk, .int .i64 da, .bool dw, .bool d0, .bool d1, .bool d2, .bool d3, .int .u32 (q0 : Nat), .int .u32 (q1 : Nat), .int .u32 (q2 : Nat), .int .u32 (q3 : Nat)] 35 (0, 0)) → wx.rangeAt gd 7 [.int .u32 (q0 : Nat), .int .u32 (q1 : Nat), .int .u32 (q2 : Nat), .int .u32 (q3 : Nat)] from fun wx hh => mid4 (l := [Value.int .i64 dk, .int .i64 da, .bool dw, .bool d0, .bool d1, .bool d2, .bool d3, .int .u32 (q0 : Nat), .int .u32 (q1 : Nat), .int .u32 (q2 : Nat), .int .u32 (q3 : Nat)]) hh fun j v hv => by
          match j, hv with
          | 0, hv | 1, hv | 2, hv | 3, hv => exact hv
          | n + 4, hv => simp at hv)
        obtain ⟨R, hR'⟩ : ∃ R : Nat → Bool, R = (Doe.mk dk da dw d0 d1 d2 d3 q0 q1 q2 q3).r := ⟨_, rfl⟩
        obtain ⟨D, hD'⟩ : ∃ D : Nat → Nat, D = (Doe.mk dk da dw d0 d1 d2 d3 q0 q1 q2 q3).d := ⟨_, rfl⟩
        have HRA := Shut.mk (show bA R = .agg #[.bool d0, .bool d1, .bool d2, .bool d3] by rw [hR']; rfl)
        have HDA := Shut.mk (show uA D = .agg #[.int .u32 (q0 : Nat), .int .u32 (q1 : Nat), .int .u32 (q2 : Nat), .int .u32 (q3 : Nat)] by rw [hD']; rfl)
        have HDB := Shut.mk (show ∀ i, i < 4 → D i < 4294967296 from fun i _ => by rw [hD']; exact HOK.out.1 i)
        clear hR' hD'
        go_wp2_with (first
          | (refine wpList_load_mid rfl 26 (.tmp 50) rfl gd 3 rfl [.bool d0, .bool d1, .bool d2, .bool d3] _ (HM3.out _ HPD.out.db) Tryd.underlying26 rfl size4b ?_)
          | (refine wpList_load_mid rfl 33 (.tmp 52) rfl gd 7 rfl [.int .u32 (q0 : Nat), .int .u32 (q1 : Nat), .int .u32 (q2 : Nat), .int .u32 (q3 : Nat)] _ (HM7.out _ HPD.out.db) Tryd.underlying33 rfl size4u ?_))
        have HCC := Shut.mk (contend_any g e R D w3 HPD.out.pw.ed HPD.out.pw.rul HPD.out.pw.inv HDB.out)
        rw [HRA.out, HDA.out] at HCC
        refine HCC.out.mono ?_
        rintro x' w4 ⟨rfl, hE, hO⟩
        obtain ⟨e1, he1⟩ : ∃ e1, e1 = contE e R D := ⟨_, rfl⟩
        have HP4 := Shut.mk (show PD w w4 g h c gd e1.1 e z (Obj.cells #[Value.int .i64 dk, .int .i64 da, .bool dw, .bool d0, .bool d1, .bool d2, .bool d3, .int .u32 (q0 : Nat), .int .u32 (q1 : Nat), .int .u32 (q2 : Nat), .int .u32 (q3 : Nat)] 35 (0, 0)) by rw [he1]; exact HPD.out.code hO hE (HPD.out.pw.inv.cont R D))
        have HE1 := Shut.mk he1
        rw [← he1]
        clear hE hO he1 HCC
        have HRC := Shut.mk (fun (wx : World) (hh : IsRe wx h e) => refcontend_any h e R D wx hh HPD.out.pw.inv HDB.out)
        rw [HRA.out, HDA.out, ← HE1.out] at HRC
        have HIV := Shut.mk (show InvE e1.1 by rw [HE1.out]; exact HPD.out.pw.inv.cont R D)
        clear HPD
        cases hans : e1.2 with
        | none =>
          have HAN := Shut.mk hans
          rw [ans_none]
          clear hans
          go_wp2_with (first
            | (refine wpList_load_mid rfl 26 (.tmp 60) rfl gd 3 rfl [.bool d0, .bool d1, .bool d2, .bool d3] _ (HM3.out _ HP4.out.db) Tryd.underlying26 rfl size4b ?_)
            | (refine wpList_load_mid rfl 33 (.tmp 62) rfl gd 7 rfl [.int .u32 (q0 : Nat), .int .u32 (q1 : Nat), .int .u32 (q2 : Nat), .int .u32 (q3 : Nat)] _ (HM7.out _ HP4.out.db) Tryd.underlying33 rfl size4u ?_))
          refine (HRC.out _ HP4.out.pw.re).mono ?_
          rintro x' w5 ⟨rfl, hE, hO⟩
          have HP5 := Shut.mk (HP4.out.ref hO hE)
          rw [HAN.out, ans_none]
          clear hE hO
          go_wp2_with (fail)
          go_meet
          exact ⟨e1.1, HP5⟩
        | some p =>
          obtain ⟨a, t⟩ := p
          have HAN := Shut.mk hans
          rw [ans_some]
          clear hans
          go_wp2_with (first
            | (refine wpList_load_mid rfl 26 (.tmp 60) rfl gd 3 rfl [.bool d0, .bool d1, .bool d2, .bool d3] _ (HM3.out _ HP4.out.db) Tryd.underlying26 rfl size4b ?_)
            | (refine wpList_load_mid rfl 33 (.tmp 62) rfl gd 7 rfl [.int .u32 (q0 : Nat), .int .u32 (q1 : Nat), .int .u32 (q2 : Nat), .int .u32 (q3 : Nat)] _ (HM7.out _ HP4.out.db) Tryd.underlying33 rfl size4u ?_))
          refine (HRC.out _ HP4.out.pw.re).mono ?_
          rintro x' w5 ⟨rfl, hE, hO⟩
          have HP5 := Shut.mk (HP4.out.ref hO hE)
          rw [HAN.out, ans_some]
          clear hE hO
          go_wp2_with (fail)
          go_meet
          exact ⟨e1.1, HP5⟩
      · have e1 : (dk == 1) = false := by simpa using hk1
        clear hk1
        by_cases hin : 0 ≤ da ∧ da < 4
        · obtain ⟨a, ha⟩ := Int.eq_ofNat_of_zero_le hin.1
          subst ha
          have HA := Shut.mk (show a < 4 by omega)
          have HIN := Shut.mk HPD.out.pw.inv
          clear hin
          go_wp2_with (fail)
          refine wp_region_D (fun w' => w'.heap[gd]? = some (Obj.cells #[Value.int .i64 dk, .int .i64 ((a : Nat) : Int), .bool dw, .bool d0, .bool d1, .bool d2, .bool d3, .int .u32 (q0 : Nat), .int .u32 (q1 : Nat), .int .u32 (q2 : Nat), .int .u32 (q3 : Nat)] 35 (0, 0))) 11 (by kernel_rfl) (show (World.drew w3).heap[gd]? = some (Obj.cells #[Value.int .i64 dk, .int .i64 ((a : Nat) : Int), .bool dw, .bool d0, .bool d1, .bool d2, .bool d3, .int .u32 (q0 : Nat), .int .u32 (q1 : Nat), .int .u32 (q2 : Nat), .int .u32 (q3 : Nat)] 35 (0, 0)) from HPD.out.db) (fun hHeld hC => ?_)
          obtain ⟨w5, hw5⟩ : ∃ w5, w5 = World.drew w3 := ⟨_, rfl⟩
          have HP5 := Shut.mk (HPD.out.quiet (show Below w3.heap.size w3 w5 by rw [hw5]; exact (Below.refl _ _).drew))
          rw [← hw5] at hHeld ⊢
          clear hw5
          refine wpAnyD_pure (i := 0) (v := ?_) rfl hC (by kernel_rfl) (by kernel_rfl) (by kernel_rfl) (by decide) (fun _ _ _ h => h) (Or.inl ⟨by rfl, ?_⟩) (fun _ => hHeld) ?_
          rotate_left
          · intro w hSw
            clear hSw
            go_simp
            try with_reducible rfl
          try simp only [Act.put, List.getElem_toArray, List.getElem_cons_zero, List.getElem_cons_succ, List.setIfInBounds_toArray, List.set_cons_zero, List.set_cons_succ]
          clear hC
          intro hC
          refine wpAnyD_pure (i := 1) (v := ?_) rfl hC (by kernel_rfl) (by kernel_rfl) (by kernel_rfl) (by decide) (fun _ _ _ h => h) (Or.inl ⟨by rfl, ?_⟩) (fun _ => hHeld) ?_
          rotate_left
          · intro w hSw
            clear hSw
            go_simp
            try with_reducible rfl
          try simp only [Act.put, List.getElem_toArray, List.getElem_cons_zero, List.getElem_cons_succ, List.setIfInBounds_toArray, List.set_cons_zero, List.set_cons_succ]
          clear hC
          intro hC
          refine wpAnyD_take (i := 2) (v := ?_) 40 rfl (by kernel_rfl) hC (by kernel_rfl) (by kernel_rfl) (by kernel_rfl) (by decide) (fun _ _ _ h => h) (Or.inl ⟨by rfl, ?_⟩) (fun _ => hHeld) ?_
          rotate_left
          · intro w hSw
            have hz := (show w.cell? ⟨gd, 1, none⟩ = some (.int .i64 ((a : Nat) : Int)) from by have := block_range hSw 1 _ rfl; simpa using this)
            clear hSw
            go_simp
            try with_reducible rfl
          try simp only [Act.put, List.getElem_toArray, List.getElem_cons_zero, List.getElem_cons_succ, List.setIfInBounds_toArray, List.set_cons_zero, List.set_cons_succ]
          clear hC
          intro hC
          refine wpAnyD_pure (i := 3) (v := ?_) rfl hC (by kernel_rfl) (by kernel_rfl) (by kernel_rfl) (by decide) (fun _ _ _ h => h) (Or.inl ⟨by rfl, ?_⟩) (fun _ => hHeld) ?_
          rotate_left
          · intro w hSw
            clear hSw
            go_simp
            try with_reducible rfl
          try simp only [Act.put, List.getElem_toArray, List.getElem_cons_zero, List.getElem_cons_succ, List.setIfInBounds_toArray, List.set_cons_zero, List.set_cons_succ]
          clear hC
          intro hC
          refine wpAnyD_take (i := 4) (v := ?_) 40 rfl (by kernel_rfl) hC (by kernel_rfl) (by kernel_rfl) (by kernel_rfl) (by decide) (fun _ _ _ h => h) (Or.inl ⟨by rfl, ?_⟩) (fun _ => hHeld) ?_
          rotate_left
          · intro w hSw
            have hz := (show w.cell? ⟨gd, 2, none⟩ = some (.bool dw) from by have := block_range hSw 2 _ rfl; simpa using this)
            clear hSw
            go_simp
            try with_reducible rfl
          try simp only [Act.put, List.getElem_toArray, List.getElem_cons_zero, List.getElem_cons_succ, List.setIfInBounds_toArray, List.set_cons_zero, List.set_cons_succ]
          clear hC
          intro hC
          refine wpAnyD_pure (i := 6) (v := ?_) rfl hC (by kernel_rfl) (by kernel_rfl) (by kernel_rfl) (by decide) (fun _ _ _ h => h) (Or.inl ⟨by rfl, ?_⟩) (fun _ => hHeld) ?_
          rotate_left
          · intro w hSw
            clear hSw
            go_simp
            try with_reducible rfl
          try simp only [Act.put, List.getElem_toArray, List.getElem_cons_zero, List.getElem_cons_succ, List.setIfInBounds_toArray, List.set_cons_zero, List.set_cons_succ]
          clear hC
          intro hC
          refine wpAnyD_pure (i := 7) (v := ?_) rfl hC (by kernel_rfl) (by kernel_rfl) (by kernel_rfl) (by decide) (fun _ _ _ h => h) (Or.inl ⟨by rfl, ?_⟩) (fun _ => hHeld) ?_
          rotate_left
          · intro w hSw
            clear hSw
            go_simp
            try with_reducible rfl
          try simp only [Act.put, List.getElem_toArray, List.getElem_cons_zero, List.getElem_cons_succ, List.setIfInBounds_toArray, List.set_cons_zero, List.set_cons_succ]
          clear hC
          intro hC
          refine wpAnyD_take (i := 8) (v := ?_) 40 rfl (by kernel_rfl) hC (by kernel_rfl) (by kernel_rfl) (by kernel_rfl) (by decide) (fun _ _ _ h => h) (Or.inl ⟨by rfl, ?_⟩) (fun _ => hHeld) ?_
          rotate_left
          · intro w hSw
            have hz := (show w.cell? ⟨gd, 1, none⟩ = some (.int .i64 ((a : Nat) : Int)) from by have := block_range hSw 1 _ rfl; simpa using this)
            clear hSw
            go_simp
            try with_reducible rfl
          try simp only [Act.put, List.getElem_toArray, List.getElem_cons_zero, List.getElem_cons_succ, List.setIfInBounds_toArray, List.set_cons_zero, List.set_cons_succ]
          clear hC
          intro hC
          refine wpAnyD_pure (i := 9) (v := ?_) rfl hC (by kernel_rfl) (by kernel_rfl) (by kernel_rfl) (by decide) (fun _ _ _ h => h) (Or.inl ⟨by rfl, ?_⟩) (fun _ => hHeld) ?_
          rotate_left
          · intro w hSw
            clear hSw
            go_simp
            try with_reducible rfl
          try simp only [Act.put, List.getElem_toArray, List.getElem_cons_zero, List.getElem_cons_succ, List.setIfInBounds_toArray, List.set_cons_zero, List.set_cons_succ]
          clear hC
          intro hC
          refine wpAnyD_take (i := 10) (v := ?_) 40 rfl (by kernel_rfl) hC (by kernel_rfl) (by kernel_rfl) (by kernel_rfl) (by decide) (fun _ _ _ h => h) (Or.inl ⟨by rfl, ?_⟩) (fun _ => hHeld) ?_
          rotate_left
          · intro w hSw
            have hz := (show w.cell? ⟨gd, 2, none⟩ = some (.bool dw) from by have := block_range hSw 2 _ rfl; simpa using this)
            clear hSw
            go_simp
            try with_reducible rfl
          try simp only [Act.put, List.getElem_toArray, List.getElem_cons_zero, List.getElem_cons_succ, List.setIfInBounds_toArray, List.set_cons_zero, List.set_cons_succ]
          clear hC
          intro hC
          refine wpAnyD_one (i := 5) (by kernel_rfl) rfl hC (fun K hK => ?_)
          clear hC
          go_simp
          refine (end_in g e a dw w5 HP5.out.pw.ed HP5.out.pw.rul HA.out HP5.out.pw.inv).mono ?_
          rintro e' we1 ⟨rfl, hE, hO⟩
          have HP6 := Shut.mk (HP5.out.code hO hE (HP5.out.pw.inv.end a dw))
          clear hE hO
          have hHeld2 := HP6.out.db
          clear hHeld
          have hHeld := hHeld2
          clear hHeld2
          refine hK.out _ _ (fun _ => hHeld) (fun hC => ?_)
          clear hK K
          try simp only [Act.put, List.getElem_toArray, List.getElem_cons_zero, List.getElem_cons_succ, List.setIfInBounds_toArray, List.set_cons_zero, List.set_cons_succ]
          refine wpAnyD_one (i := 11) (by kernel_rfl) rfl hC (fun K hK => ?_)
          clear hC
          go_simp
          refine (refend_in h e a dw we1 HP6.out.pw.re HA.out HIN.out).mono ?_
          rintro e' we2 ⟨rfl, hE, hO⟩
          have HP7 := Shut.mk (HP6.out.ref hO hE)
          clear hE hO
          refine hK.out _ _ (past (by kernel_rfl)) (fun hC => ?_)
          clear hK K
          try simp only [Act.put, List.getElem_toArray, List.getElem_cons_zero, List.getElem_cons_succ, List.setIfInBounds_toArray, List.set_cons_zero, List.set_cons_succ]
          refine wpAnyD_one (i := 12) (by kernel_rfl) rfl hC (fun K hK => ?_)
          clear hC
          go_simp
          refine (show Calls Tryd.prog 12 #[.nilIface, .int .i64 0] we2 fun e w' => e = .returned (.bool true) ∧ Below we2.heap.size we2 w' from is_any E 0 0 we2 (HS.out.below HP7.out.pw.bel) (.inl rfl)).mono ?_
          rintro e' we3 ⟨rfl, hb⟩
          have HP8 := Shut.mk (HP7.out.quiet hb)
          clear hb
          refine hK.out _ _ (past (by kernel_rfl)) (fun hC => ?_)
          clear hK K
          try simp only [Act.put, List.getElem_toArray, List.getElem_cons_zero, List.getElem_cons_succ, List.setIfInBounds_toArray, List.set_cons_zero, List.set_cons_succ]
          refine wpAnyD_pure (i := 13) (v := ?_) rfl hC (by kernel_rfl) (by kernel_rfl) (by kernel_rfl) (by decide) (fun _ _ _ h => h) (Or.inl ⟨by rfl, ?_⟩) (past (by kernel_rfl)) ?_
          rotate_left
          · intro w hSw
            clear hSw
            go_simp
            try with_reducible rfl
          try simp only [Act.put, List.getElem_toArray, List.getElem_cons_zero, List.getElem_cons_succ, List.setIfInBounds_toArray, List.set_cons_zero, List.set_cons_succ]
          clear hC
          intro hC
          refine wpAnyD_done (by kernel_rfl) ?_ _
          try simp only [Act.put, List.getElem_toArray, List.getElem_cons_zero, List.getElem_cons_succ, List.setIfInBounds_toArray, List.set_cons_zero, List.set_cons_succ]
          clear hC hHeld
          go_wp2_with (fail)
          go_meet
          exact ⟨endE e a dw, HP8⟩
        · have HNA := Shut.mk hin
          clear hin
          go_wp2_with (fail)
          refine wp_region_D (fun w' => w'.heap[gd]? = some (Obj.cells #[Value.int .i64 dk, .int .i64 da, .bool dw, .bool d0, .bool d1, .bool d2, .bool d3, .int .u32 (q0 : Nat), .int .u32 (q1 : Nat), .int .u32 (q2 : Nat), .int .u32 (q3 : Nat)] 35 (0, 0))) 11 (by kernel_rfl) (show (World.drew w3).heap[gd]? = some (Obj.cells #[Value.int .i64 dk, .int .i64 da, .bool dw, .bool d0, .bool d1, .bool d2, .bool d3, .int .u32 (q0 : Nat), .int .u32 (q1 : Nat), .int .u32 (q2 : Nat), .int .u32 (q3 : Nat)] 35 (0, 0)) from HPD.out.db) (fun hHeld hC => ?_)
          obtain ⟨w5, hw5⟩ : ∃ w5, w5 = World.drew w3 := ⟨_, rfl⟩
          have HP5 := Shut.mk (HPD.out.quiet (show Below w3.heap.size w3 w5 by rw [hw5]; exact (Below.refl _ _).drew))
          rw [← hw5] at hHeld ⊢
          clear hw5
          refine wpAnyD_pure (i := 0) (v := ?_) rfl hC (by kernel_rfl) (by kernel_rfl) (by kernel_rfl) (by decide) (fun _ _ _ h => h) (Or.inl ⟨by rfl, ?_⟩) (fun _ => hHeld) ?_
          rotate_left
          · intro w hSw
            clear hSw
            go_simp
            try with_reducible rfl
          try simp only [Act.put, List.getElem_toArray, List.getElem_cons_zero, List.getElem_cons_succ, List.setIfInBounds_toArray, List.set_cons_zero, List.set_cons_succ]
          clear hC
          intro hC
          refine wpAnyD_pure (i := 1) (v := ?_) rfl hC (by kernel_rfl) (by kernel_rfl) (by kernel_rfl) (by decide) (fun _ _ _ h => h) (Or.inl ⟨by rfl, ?_⟩) (fun _ => hHeld) ?_
          rotate_left
          · intro w hSw
            clear hSw
            go_simp
            try with_reducible rfl
          try simp only [Act.put, List.getElem_toArray, List.getElem_cons_zero, List.getElem_cons_succ, List.setIfInBounds_toArray, List.set_cons_zero, List.set_cons_succ]
          clear hC
          intro hC
          refine wpAnyD_take (i := 2) (v := ?_) 40 rfl (by kernel_rfl) hC (by kernel_rfl) (by kernel_rfl) (by kernel_rfl) (by decide) (fun _ _ _ h => h) (Or.inl ⟨by rfl, ?_⟩) (fun _ => hHeld) ?_
          rotate_left
          · intro w hSw
            have hz := (show w.cell? ⟨gd, 1, none⟩ = some (.int .i64 da) from by have := block_range hSw 1 _ rfl; simpa using this)
            clear hSw
            go_simp
            try with_reducible rfl
          try simp only [Act.put, List.getElem_toArray, List.getElem_cons_zero, List.getElem_cons_succ, List.setIfInBounds_toArray, List.set_cons_zero, List.set_cons_succ]
          clear hC
          intro hC
          refine wpAnyD_pure (i := 3) (v := ?_) rfl hC (by kernel_rfl) (by kernel_rfl) (by kernel_rfl) (by decide) (fun _ _ _ h => h) (Or.inl ⟨by rfl, ?_⟩) (fun _ => hHeld) ?_
          rotate_left
          · intro w hSw
            clear hSw
            go_simp
            try with_reducible rfl
          try simp only [Act.put, List.getElem_toArray, List.getElem_cons_zero, List.getElem_cons_succ, List.setIfInBounds_toArray, List.set_cons_zero, List.set_cons_succ]
          clear hC
          intro hC
          refine wpAnyD_take (i := 4) (v := ?_) 40 rfl (by kernel_rfl) hC (by kernel_rfl) (by kernel_rfl) (by kernel_rfl) (by decide) (fun _ _ _ h => h) (Or.inl ⟨by rfl, ?_⟩) (fun _ => hHeld) ?_
          rotate_left
          · intro w hSw
            have hz := (show w.cell? ⟨gd, 2, none⟩ = some (.bool dw) from by have := block_range hSw 2 _ rfl; simpa using this)
            clear hSw
            go_simp
            try with_reducible rfl
          try simp only [Act.put, List.getElem_toArray, List.getElem_cons_zero, List.getElem_cons_succ, List.setIfInBounds_toArray, List.set_cons_zero, List.set_cons_succ]
          clear hC
          intro hC
          refine wpAnyD_pure (i := 6) (v := ?_) rfl hC (by kernel_rfl) (by kernel_rfl) (by kernel_rfl) (by decide) (fun _ _ _ h => h) (Or.inl ⟨by rfl, ?_⟩) (fun _ => hHeld) ?_
          rotate_left
          · intro w hSw
            clear hSw
            go_simp
            try with_reducible rfl
          try simp only [Act.put, List.getElem_toArray, List.getElem_cons_zero, List.getElem_cons_succ, List.setIfInBounds_toArray, List.set_cons_zero, List.set_cons_succ]
          clear hC
          intro hC
          refine wpAnyD_pure (i := 7) (v := ?_) rfl hC (by kernel_rfl) (by kernel_rfl) (by kernel_rfl) (by decide) (fun _ _ _ h => h) (Or.inl ⟨by rfl, ?_⟩) (fun _ => hHeld) ?_
          rotate_left
          · intro w hSw
            clear hSw
            go_simp
            try with_reducible rfl
          try simp only [Act.put, List.getElem_toArray, List.getElem_cons_zero, List.getElem_cons_succ, List.setIfInBounds_toArray, List.set_cons_zero, List.set_cons_succ]
          clear hC
          intro hC
          refine wpAnyD_take (i := 8) (v := ?_) 40 rfl (by kernel_rfl) hC (by kernel_rfl) (by kernel_rfl) (by kernel_rfl) (by decide) (fun _ _ _ h => h) (Or.inl ⟨by rfl, ?_⟩) (fun _ => hHeld) ?_
          rotate_left
          · intro w hSw
            have hz := (show w.cell? ⟨gd, 1, none⟩ = some (.int .i64 da) from by have := block_range hSw 1 _ rfl; simpa using this)
            clear hSw
            go_simp
            try with_reducible rfl
          try simp only [Act.put, List.getElem_toArray, List.getElem_cons_zero, List.getElem_cons_succ, List.setIfInBounds_toArray, List.set_cons_zero, List.set_cons_succ]
          clear hC
          intro hC
          refine wpAnyD_pure (i := 9) (v := ?_) rfl hC (by kernel_rfl) (by kernel_rfl) (by kernel_rfl) (by decide) (fun _ _ _ h => h) (Or.inl ⟨by rfl, ?_⟩) (fun _ => hHeld) ?_
          rotate_left
          · intro w hSw
            clear hSw
            go_simp
            try with_reducible rfl
          try simp only [Act.put, List.getElem_toArray, List.getElem_cons_zero, List.getElem_cons_succ, List.setIfInBounds_toArray, List.set_cons_zero, List.set_cons_succ]
          clear hC
          intro hC
          refine wpAnyD_take (i := 10) (v := ?_) 40 rfl (by kernel_rfl) hC (by kernel_rfl) (by kernel_rfl) (by kernel_rfl) (by decide) (fun _ _ _ h => h) (Or.inl ⟨by rfl, ?_⟩) (fun _ => hHeld) ?_
          rotate_left
          · intro w hSw
            have hz := (show w.cell? ⟨gd, 2, none⟩ = some (.bool dw) from by have := block_range hSw 2 _ rfl; simpa using this)
            clear hSw
            go_simp
            try with_reducible rfl
          try simp only [Act.put, List.getElem_toArray, List.getElem_cons_zero, List.getElem_cons_succ, List.setIfInBounds_toArray, List.set_cons_zero, List.set_cons_succ]
          clear hC
          intro hC
          refine wpAnyD_one (i := 5) (by kernel_rfl) rfl hC (fun K hK => ?_)
          clear hC
          go_simp
          refine (end_out g da dw w5 E ((HS.out.below HP5.out.pw.bel).at_ 103 (by decide)) HNA.out).mono ?_
          rintro e' we1 ⟨rfl, hb⟩
          have HP6 := Shut.mk (HP5.out.quiet hb)
          clear hb
          have hHeld2 := HP6.out.db
          clear hHeld
          have hHeld := hHeld2
          clear hHeld2
          refine hK.out _ _ (fun _ => hHeld) (fun hC => ?_)
          clear hK K
          try simp only [Act.put, List.getElem_toArray, List.getElem_cons_zero, List.getElem_cons_succ, List.setIfInBounds_toArray, List.set_cons_zero, List.set_cons_succ]
          refine wpAnyD_one (i := 11) (by kernel_rfl) rfl hC (fun K hK => ?_)
          clear hC
          go_simp
          refine (refend_out h da dw we1 HNA.out).mono ?_
          rintro e' we2 ⟨rfl, hwq⟩
          subst hwq
          have HP7 := HP6
          refine hK.out _ _ (past (by kernel_rfl)) (fun hC => ?_)
          clear hK K
          try simp only [Act.put, List.getElem_toArray, List.getElem_cons_zero, List.getElem_cons_succ, List.setIfInBounds_toArray, List.set_cons_zero, List.set_cons_succ]
          refine wpAnyD_one (i := 12) (by kernel_rfl) rfl hC (fun K hK => ?_)
          clear hC
          go_simp
          refine (show Calls Tryd.prog 12 #[errP (E 103), .int .i64 103] we1 fun e w' => e = .returned (.bool true) ∧ Below we1.heap.size we1 w' from is_any E 103 103 we1 (HS.out.below HP7.out.pw.bel) (.inr (by decide))).mono ?_
          rintro e' we2 ⟨rfl, hb⟩
          have HP8 := Shut.mk (HP7.out.quiet hb)
          clear hb
          refine hK.out _ _ (past (by kernel_rfl)) (fun hC => ?_)
          clear hK K
          try simp only [Act.put, List.getElem_toArray, List.getElem_cons_zero, List.getElem_cons_succ, List.setIfInBounds_toArray, List.set_cons_zero, List.set_cons_succ]
          refine wpAnyD_pure (i := 13) (v := ?_) rfl hC (by kernel_rfl) (by kernel_rfl) (by kernel_rfl) (by decide) (fun _ _ _ h => h) (Or.inl ⟨by rfl, ?_⟩) (past (by kernel_rfl)) ?_
          rotate_left
          · intro w hSw
            clear hSw
            go_simp
            try with_reducible rfl
          try simp only [Act.put, List.getElem_toArray, List.getElem_cons_zero, List.getElem_cons_succ, List.setIfInBounds_toArray, List.set_cons_zero, List.set_cons_succ]
          clear hC
          intro hC
          refine wpAnyD_done (by kernel_rfl) ?_ _
          try simp only [Act.put, List.getElem_toArray, List.getElem_cons_zero, List.getElem_cons_succ, List.setIfInBounds_toArray, List.set_cons_zero, List.set_cons_succ]
          clear hC hHeld
          go_wp2_with (fail)
          go_meet
          exact ⟨e, HP8⟩
    case rest =>
      obtain ⟨e2, HP2⟩ := hcut
      clear HPD HOK
      go_wp2_with (fail)
      go_loopw [16, 17, 18, 19] (fun s16 _ _ _ wr => ∃ j : Nat, j ≤ 6 ∧ s16 = .int .i64 ((j : Int) - 1) ∧ Shut (PD w wr g h c gd e2 e2 z (Obj.cells #[Value.int .i64 dk, .int .i64 da, .bool dw, .bool d0, .bool d1, .bool d2, .bool d3, .int .u32 (q0 : Nat), .int .u32 (q1 : Nat), .int .u32 (q2 : Nat), .int .u32 (q3 : Nat)] 35 (0, 0)))) (fun s16 _ _ _ _ => 6 - (intOf s16 + 1).toNat)
      case atStart => exact ⟨0, Nat.zero_le _, rfl, HP2⟩
      case round =>
        clear HP2
        obtain ⟨j, hj, rfl, HQ⟩ := hrel
        by_cases hj0 : j = 0
        · subst hj0
          rw [show (((0 : Nat) : Int) - 1) = -1 by rfl]
          go_wp2_with (fail)
          refine (left_out g (-1) wr (by omega)).mono ?_
          rintro x' wn ⟨rfl, rfl⟩
          go_wp2_with (fail)
          refine (window_out g (-1) wr (by omega)).mono ?_
          rintro x' wn ⟨rfl, rfl⟩
          go_wp2_with (fail)
          refine (refwindow_out h (-1) wr (by omega)).mono ?_
          rintro x' wn ⟨rfl, rfl⟩
          go_wp2_with (fail)
          go_roundw
          case rel => exact ⟨1, by omega, by go_num, HQ⟩
          case measure => simp [intOf]
        · by_cases hj5 : j = 5
          · subst hj5
            rw [show (((5 : Nat) : Int) - 1) = 4 by rfl]
            go_wp2_with (fail)
            refine (left_out g 4 wr (by omega)).mono ?_
            rintro x' wn ⟨rfl, rfl⟩
            go_wp2_with (fail)
            refine (window_out g 4 wr (by omega)).mono ?_
            rintro x' wn ⟨rfl, rfl⟩
            go_wp2_with (fail)
            refine (refwindow_out h 4 wr (by omega)).mono ?_
            rintro x' wn ⟨rfl, rfl⟩
            go_wp2_with (fail)
            go_roundw
            case rel => exact ⟨6, by omega, by go_num, HQ⟩
            case measure => simp [intOf]
          · by_cases hj6 : j = 6
            · subst hj6
              rw [show (((6 : Nat) : Int) - 1) = 5 by rfl]
              clear hj hj0 hj5
              go_wp2_with (fail)
              refine (window_in c z 1 wr HQ.out.cl HQ.out.pw.rul (by decide) HQ.out.zi).mono ?_
              rintro x' wz ⟨rfl, hb⟩
              have HQ2 := Shut.mk (HQ.out.quiet hb)
              rw [← HWA.out]
              clear hb
              go_wp2_with (fail)
              go_roundw
              case rel => exact ⟨i + 1, e2, by have := HIN2.out; omega, by go_num, ⟨HQ2.out.pw⟩⟩
              case measure => have := HIN2.out; simp [intOf]; omega
            · obtain ⟨a, rfl⟩ : ∃ a, j = a + 1 := ⟨j - 1, by omega⟩
              rw [show (((a + 1 : Nat) : Int) - 1) = (a : Int) by omega]
              have HA := Shut.mk (show a < 4 by omega)
              have ha4 : (a : Int) < 4 := by omega
              have ha5 : (a : Int) ≤ 4 := by omega
              have hk := At8.k HQ.out.pw.re HA.out
              obtain ⟨k, hkk⟩ : ∃ k, k = e2.ct a := ⟨_, rfl⟩
              rw [← hkk] at hk
              have HKK := Shut.mk hkk
              have hk10 : k ≤ 1024 := by rw [hkk]; exact HQ.out.pw.inv.ct a
              clear hkk hj hj0 hj5 hj6
              go_wp2_with (fail)
              clear hk
              refine (left_in g e2 a wr HQ.out.pw.ed HA.out).mono ?_
              rintro x' wn ⟨⟨m, rfl, hm1, hm2⟩, rfl⟩
              rw [← HKK.out] at hm1 hm2 ⊢
              have hk := At8.k HQ.out.pw.re HA.out
              rw [← HKK.out] at hk
              rcases Nat.eq_zero_or_pos k with hz | hp
              · have hd : decide (0 < k) = false := by simp; omega
                have hd2 : decide ((0 : Int) < (k : Int)) = false := by simp; omega
                rw [hd]
                clear hm1 hm2 hk10 hz
                go_wp2_with (fail)
                clear hd hd2
                refine (window_in g e2 a wr HQ.out.pw.ed HQ.out.pw.rul HA.out HQ.out.pw.inv).mono ?_
                rintro x' wz ⟨rfl, hb⟩
                have HQ2 := Shut.mk (HQ.out.quiet hb)
                clear hb hk
                go_wp2_with (fail)
                refine (refwindow_in h e2 a wz HQ2.out.pw.re HA.out).mono ?_
                rintro x' wv ⟨rfl, hb⟩
                have HQ3 := Shut.mk (HQ2.out.quiet hb)
                clear hb
                go_wp2_with (fail)
                go_roundw
                case rel => exact ⟨a + 1 + 1, by have := HA.out; omega, by go_num, HQ3⟩
                case measure => have := HA.out; simp [intOf]; omega
              · have hd : decide (0 < k) = true := by simpa using hp
                have hd2 : decide ((0 : Int) < (k : Int)) = true := by simp; omega
                obtain ⟨k1, hk1⟩ : ∃ k1, k1 = k - 1 := ⟨_, rfl⟩
                obtain rfl : m = (k1 : Int) := by rw [hk1]; exact hm1 hp
                have y1 : IntKind.i64.wrap ((k : Int) - 1) = (k1 : Int) := by rw [IntWalk.i64_in _ ⟨by omega, by omega⟩]; omega
                rw [hd]
                clear hm1 hm2 hk10 hp hk1
                go_wp2_with (fail)
                clear hd hd2
                refine (window_in g e2 a wr HQ.out.pw.ed HQ.out.pw.rul HA.out HQ.out.pw.inv).mono ?_
                rintro x' wz ⟨rfl, hb⟩
                have HQ2 := Shut.mk (HQ.out.quiet hb)
                clear hb hk
                go_wp2_with (fail)
                refine (refwindow_in h e2 a wz HQ2.out.pw.re HA.out).mono ?_
                rintro x' wv ⟨rfl, hb⟩
                have HQ3 := Shut.mk (HQ2.out.quiet hb)
                have hk := At8.k HQ3.out.pw.re HA.out
                rw [← HKK.out] at hk
                clear hb
                go_wp2_with (fail)
                go_roundw
                case rel => exact ⟨a + 1 + 1, by have := HA.out; omega, by go_num, HQ3⟩
                case measure => have := HA.out; simp [intOf]; omega

end Go.Proofs.YtndkmgcmegcieaaDoor.edcaPlays
