/-
  The walk of muezzin/muezzinlaw18.EdcaAlone: the Go text returns true.
-/
import Derived.Test.YtndkmgcmegcieaaDoorEdcaG
import Derived.Test.YtndkmgcmegcieaaDoorEdcaG
import Derived.LoopTactic
import Derived.Deep.CutRange
import Derived.Deep.CutBlock
import Derived.WalkKit
import Derived.ProofKit
import Derived.Below
namespace Go.Proofs.YtndkmgcmegcieaaDoor.edcaAlone
open Go.ChangeShapes Go.WideShapes Go.ChangeAt Go.RowKit Go.Deep
set_option linter.unusedVariables false
set_option linter.unusedSimpArgs false

open Go.Proofs.YtndkmgcmegcieaaDoor

theorem size4u : (Tryd.prog.info? 33).map (·.size) = some 4 := by kernel_rfl
theorem alone_world {w wa : World} (hb : Below w.heap.size w wa) (hR : Rul w) (o1 o2 o3 o5 o6 : Obj) :
    LawE w ((((((wa.alloc o1).alloc o2).alloc o3).alloc (Obj.cells #[.int .i64 0, .int .i64 0, .int .i64 0, .int .i64 0, .int .i64 0, .int .i64 0, .int .i64 0, .int .i64 0, .bool false, .bool false, .bool false, .bool false] 28 (0, 0))).alloc o5).alloc o6) (wa.heap.size + 1 + 1 + 1) e0 ∧
    ((((((wa.alloc o1).alloc o2).alloc o3).alloc (Obj.cells #[.int .i64 0, .int .i64 0, .int .i64 0, .int .i64 0, .int .i64 0, .int .i64 0, .int .i64 0, .int .i64 0, .bool false, .bool false, .bool false, .bool false] 28 (0, 0))).alloc o5).alloc o6).heap[wa.heap.size + 1 + 1 + 1 + 1]? = some o5 ∧
    ((((((wa.alloc o1).alloc o2).alloc o3).alloc (Obj.cells #[.int .i64 0, .int .i64 0, .int .i64 0, .int .i64 0, .int .i64 0, .int .i64 0, .int .i64 0, .int .i64 0, .bool false, .bool false, .bool false, .bool false] 28 (0, 0))).alloc o5).alloc o6).heap[wa.heap.size + 1 + 1 + 1 + 1 + 1]? = some o6 := by
  obtain ⟨wb, hwb⟩ : ∃ wb, wb = ((wa.alloc o1).alloc o2).alloc o3 := ⟨_, rfl⟩
  have hz : wa.heap.size + 1 + 1 + 1 = wb.heap.size := by rw [hwb]; simp
  have h1 := hb.size
  have hB : Below w.heap.size w wb := by rw [hwb]; exact ((hb.alloc h1 o1).alloc (by simp; omega) o2).alloc (by simp; omega) o3
  have hL := LawE.zero hB hR
  rw [← hwb, hz]
  obtain ⟨wc, hwc⟩ : ∃ wc, wc = wb.alloc (Obj.cells #[.int .i64 0, .int .i64 0, .int .i64 0, .int .i64 0, .int .i64 0, .int .i64 0, .int .i64 0, .int .i64 0, .bool false, .bool false, .bool false, .bool false] 28 (0, 0)) := ⟨_, rfl⟩
  rw [← hwc] at hL ⊢
  have hz2 : wb.heap.size + 1 = wc.heap.size := by rw [hwc]; simp
  rw [hz2]
  have hz3 : wc.heap.size + 1 = (wc.alloc o5).heap.size := by simp
  refine ⟨(hL.quiet ((Below.refl wc.heap.size wc).alloc (Nat.le_refl _) o5)).quiet ((Below.refl (wc.alloc o5).heap.size (wc.alloc o5)).alloc (Nat.le_refl _) o6), ?_, ?_⟩
  · exact (((Below.refl (wc.alloc o5).heap.size (wc.alloc o5)).alloc (Nat.le_refl _) o6).block _ (by simp)).trans (MapKept.heap_alloc wc o5).1
  · rw [hz3]; exact (MapKept.heap_alloc (wc.alloc o5) o6).1

/-! ### THE WALK -/
set_option maxRecDepth 100000 in
set_option maxHeartbeats 8000000 in
theorem walk (n0 : Int) (n1 : Int) (n2 : Int) (w : World) (E : Nat → Addr) (hS : Sent w E [101, 102, 103, 104, 105, 106, 107, 108, 109, 110, 111, 112, 113, 114]) (hR : Rul w) (w0 : (Lit.int .i64 n0).wf = true) (w1 : (Lit.int .i64 n1).wf = true) (w2 : (Lit.int .u32 n2).wf = true) :
    Calls Tryd.prog 4 #[.int .i64 n0, .int .i64 n1, .int .u32 n2] w fun e w' => e = .returned (.bool true) ∧ Below w.heap.size w w' := by
  have HR := Shut.mk hR
  have HS := Shut.mk hS
  have W0 := Shut.mk w0
  have W1 := Shut.mk w1
  clear hR hS w0 w1
  have hu2 : 0 ≤ n2 ∧ n2 ≤ 4294967295 := by simpa [Lit.wf, IntKind.min, IntKind.max, IntKind.signed, IntKind.bits] using w2
  obtain ⟨q, hq⟩ := Int.eq_ofNat_of_zero_le hu2.1
  subst hq
  have HQ32 := Shut.mk (show q < 4294967296 by omega)
  clear hu2 w2
  go_enter Tryd.func4, Tryd.ntmps4
  go_wp2_with (fail)
  refine (first_any w HR.out).mono ?_
  rintro x wa ⟨rfl, hBa⟩
  have HBa := Shut.mk hBa
  clear hBa
  go_wp2_with (fail)
  refine (number_any n0 4 wa W0.out (by decide) (by decide)).mono ?_
  rintro x wn ⟨rfl, rfl⟩
  have hm0 := nmod_lo n0 4 (by decide)
  have hm1 := nmod_hi n0 4 (by decide)
  obtain ⟨c, hc⟩ := Int.eq_ofNat_of_zero_le hm0
  rw [hc] at hm1 ⊢
  have HC := Shut.mk (show c < 4 by omega)
  clear hm0 hc hm1
  go_wp2_with (fail)
  refine (number_any n1 12 wa W1.out (by decide) (by decide)).mono ?_
  rintro x wn ⟨rfl, rfl⟩
  have hm0 := nmod_lo n1 12 (by decide)
  have hm1 := nmod_hi n1 12 (by decide)
  obtain ⟨n, hn⟩ := Int.eq_ofNat_of_zero_le hm0
  rw [hn] at hm1 ⊢
  have HN := Shut.mk (show n < 12 by omega)
  clear hm0 hn hm1
  rcases (show c = 0 ∨ c = 1 ∨ c = 2 ∨ c = 3 by have := HC.out; omega) with rfl | rfl | rfl | rfl
  · clear HC
    have HA6 := Shut.mk (alone_world HBa.out HR.out (Obj.cells #[.int .i64 7, .int .i64 3, .int .i64 2, .int .i64 2] 3 (0, 0)) (Obj.cells #[.int .i64 15, .int .i64 15, .int .i64 7, .int .i64 3] 3 (0, 0)) (Obj.cells #[.int .i64 1023, .int .i64 63, .int .i64 15, .int .i64 7] 3 (0, 0)) (Obj.cells #[.bool true, .bool false, .bool false, .bool false] 26 (0, 0)) (Obj.cells #[.int .u32 (q : Nat), .int .u32 0, .int .u32 0, .int .u32 0] 33 (0, 0)))
    obtain ⟨R, hR'⟩ : ∃ R : Nat → Bool, R = fun i => decide (i = 0) := ⟨_, rfl⟩
    obtain ⟨D, hD'⟩ : ∃ D : Nat → Nat, D = fun i => if i = 0 then q else 0 := ⟨_, rfl⟩
    have HRA := Shut.mk (show bA R = .agg #[.bool true, .bool false, .bool false, .bool false] by rw [hR']; rfl)
    have HDA := Shut.mk (show uA D = .agg #[.int .u32 (q : Nat), .int .u32 0, .int .u32 0, .int .u32 0] by rw [hD']; rfl)
    have HDB := Shut.mk (show ∀ i, i < 4 → D i < 4294967296 from fun i _ => by
      have h1 := HQ32.out
      rw [hD']
      show (if i = 0 then q else 0) < 4294967296
      split <;> omega)
    have HDC := Shut.mk (show D 0 = q by rw [hD']; rfl)
    have HRC := Shut.mk (show ∀ b, b < 4 → (R b = true ↔ b = 0) from fun b hb => by rw [hR']; simp)
    clear hR' hD'
    go_wp2_with (fail)
    generalize World.alloc (World.alloc (World.alloc (World.alloc (World.alloc (World.alloc wa _) _) _) _) _) _ = wl at *
    obtain ⟨gd, hgd⟩ : ∃ x, x = wa.heap.size + 1 + 1 + 1 + 1 + 1 := ⟨_, rfl⟩
    rw [← hgd] at HA6 ⊢
    obtain ⟨gr, hgr⟩ : ∃ x, x = wa.heap.size + 1 + 1 + 1 + 1 := ⟨_, rfl⟩
    rw [← hgr] at HA6 ⊢
    obtain ⟨g, hg⟩ : ∃ x, x = wa.heap.size + 1 + 1 + 1 := ⟨_, rfl⟩
    rw [← hg] at HA6 ⊢
    have HNE := Shut.mk (show gr ≠ g ∧ gd ≠ g by omega)
    have HL0 := Shut.mk HA6.out.1
    have HB0 := Shut.mk HA6.out.2
    clear hgd hgr hg HA6
    go_loopw [9, 15, 16, 17, 18] (fun s9 s15 _ _ _ wr => ∃ (k : Nat) (e : Ec), k ≤ n ∧ s15 = .int .i64 (k : Int) ∧ s9 = .int .i64 ((growE 0 k : Nat) : Int) ∧ Shut (LawE w wr g e) ∧ Shut (AloneE e 0 k) ∧ Shut (wr.heap[gr]? = some (Obj.cells #[.bool true, .bool false, .bool false, .bool false] 26 (0, 0)) ∧ wr.heap[gd]? = some (Obj.cells #[.int .u32 (q : Nat), .int .u32 0, .int .u32 0, .int .u32 0] 33 (0, 0)))) (fun _ s15 _ _ _ _ => n - (intOf s15).toNat)
    case atStart => exact ⟨0, e0, Nat.zero_le _, rfl, rfl, HL0, ⟨alone_0 0⟩, HB0⟩
    case round =>
      clear HL0 HB0
      obtain ⟨k, e, hk, rfl, rfl, HL, HE, HBK⟩ := hrel
      have hgl := grow_le 0 k
      have hmo := most_le 0
      obtain ⟨gk, hgk⟩ : ∃ x, x = growE 0 k := ⟨_, rfl⟩
      rw [← hgk] at hgl ⊢
      have HGK := Shut.mk hgk
      by_cases hlt : k < n
      · have hlt2 : (k : Int) < (n : Int) := by omega
        have hk12 : (k : Int) < 12 := by have := HN.out; omega
        obtain ⟨u, hu⟩ : ∃ u, u = gk + 1 := ⟨_, rfl⟩
        obtain ⟨z, hz⟩ : ∃ z, z = q % u := ⟨_, rfl⟩
        obtain ⟨o, ho⟩ : ∃ o, o = 7 + z := ⟨_, rfl⟩
        obtain ⟨g1, hg1⟩ : ∃ x, x = min (2 * gk + 1) 1023 := ⟨_, rfl⟩
        have hzu : z < u := by rw [hz]; exact Nat.mod_lt _ (by omega)
        have HCA := Shut.mk (alone_cont HE.out (by decide) HRC.out D)
        rw [HDC.out, ← HGK.out, show 0 = 0 from rfl] at HCA
        have HO := Shut.mk (show waitE 0 + q % (gk + 1) = o by rw [ho, hz, hu]; rfl)
        have HG1 := Shut.mk (show g1 = growE 0 (k + 1) by rw [hg1, hgk]; rfl)
        have y1 : IntKind.i64.wrap ((gk : Int) + 1) = (u : Int) := by rw [IntWalk.i64_in _ ⟨by omega, by omega⟩]; omega
        have y2 : IntKind.u32.wrap (u : Int) = (u : Int) := IntWalk.u32_in _ ⟨by omega, by omega⟩
        have y3 : ¬ u = 0 := by omega
        have y4 : (q : Int).tmod (u : Int) = (z : Int) := by rw [Int.tmod_eq_emod_of_nonneg (by omega), ← Int.natCast_emod, ← hz]
        have y4b : (q : Int) % (u : Int) = (z : Int) := by rw [← Int.natCast_emod, ← hz]
        have y5 : IntKind.i64.wrap (z : Int) = (z : Int) := IntWalk.i64_in _ ⟨by omega, by omega⟩
        have y6 : IntKind.i64.wrap (7 + (z : Int)) = (o : Int) := by rw [IntWalk.i64_in _ ⟨by omega, by omega⟩]; omega
        have y7 : IntKind.i64.wrap (2 * (gk : Int)) = 2 * (gk : Int) := IntWalk.i64_in _ ⟨by omega, by omega⟩
        have y8 : IntKind.i64.wrap (2 * (gk : Int) + 1) = 2 * (gk : Int) + 1 := IntWalk.i64_in _ ⟨by omega, by omega⟩
        have y9 : min (2 * (gk : Int) + 1) 1023 = ((g1 : Nat) : Int) := by omega
        have HKN := Shut.mk hlt
        clear hu hz ho hg1 hzu hgl hmo hgk hlt hk
        go_wp2_with (first
          | (refine wpList_load_row rfl 26 (.tmp 13) rfl gr rfl 26 #[.bool true, .bool false, .bool false, .bool false] (0, 0) _ HBK.out.1 Tryd.underlying26 rfl size4b ?_)
          | (refine wpList_load_row rfl 33 (.tmp 14) rfl gd rfl 33 #[.int .u32 (q : Nat), .int .u32 0, .int .u32 0, .int .u32 0] (0, 0) _ HBK.out.2 Tryd.underlying33 rfl size4u ?_))
        have HCC := Shut.mk (contend_l HL.out R D HDB.out)
        rw [HRA.out, HDA.out, HCA.out.1, HO.out, ans_some] at HCC
        refine HCC.out.mono ?_
        rintro x w1 ⟨rfl, hL, hO⟩
        obtain ⟨E1, hE1⟩ : ∃ E1, E1 = (contE e R D).1 := ⟨_, rfl⟩
        rw [← hE1] at hL HCA
        have HL1 := Shut.mk hL
        have HBK1 := Shut.mk (show w1.heap[gr]? = some (Obj.cells #[.bool true, .bool false, .bool false, .bool false] 26 (0, 0)) ∧ w1.heap[gd]? = some (Obj.cells #[.int .u32 (q : Nat), .int .u32 0, .int .u32 0, .int .u32 0] 33 (0, 0)) from ⟨hO.at_ HBK.out.1 HNE.out.1, hO.at_ HBK.out.2 HNE.out.2⟩)
        have HE1 := Shut.mk HCA.out.2
        clear hL hO hE1 HCC HCA HL HBK HE
        go_wp2_with (fail)
        refine (show Calls Tryd.prog 9 #[.pointer (some ⟨g, 0, none⟩), .int .i64 0] w1 _ from window_l HL1.out 0 (by decide)).mono ?_
        rintro x w2 ⟨rfl, hL, hb⟩
        rw [show winE E1 0 = gk by rw [HE1.out.win]; exact HGK.out.symm]
        have HL2 := Shut.mk hL
        have HBK2 := Shut.mk (show w2.heap[gr]? = some (Obj.cells #[.bool true, .bool false, .bool false, .bool false] 26 (0, 0)) ∧ w2.heap[gd]? = some (Obj.cells #[.int .u32 (q : Nat), .int .u32 0, .int .u32 0, .int .u32 0] 33 (0, 0)) from ⟨(hb.block _ (lt_blk HBK1.out.1)).trans HBK1.out.1, (hb.block _ (lt_blk HBK1.out.2)).trans HBK1.out.2⟩)
        clear hL hb HL1 HBK1
        go_wp2_with (fail)
        refine (show Calls Tryd.prog 13 #[.pointer (some ⟨g, 0, none⟩), .int .i64 0, .bool false] w2 _ from end_l HL2.out 0 (by decide) false).mono ?_
        rintro x w3 ⟨rfl, hL, hO⟩
        have HL3 := Shut.mk hL
        have HE3 := Shut.mk (alone_ill HE1.out)
        have HBK3 := Shut.mk (show w3.heap[gr]? = some (Obj.cells #[.bool true, .bool false, .bool false, .bool false] 26 (0, 0)) ∧ w3.heap[gd]? = some (Obj.cells #[.int .u32 (q : Nat), .int .u32 0, .int .u32 0, .int .u32 0] 33 (0, 0)) from ⟨hO.at_ HBK2.out.1 HNE.out.1, hO.at_ HBK2.out.2 HNE.out.2⟩)
        clear hL hO HL2 HBK2
        go_wp2_with (fail)
        go_roundw
        case rel => exact ⟨k + 1, _, HKN.out, by go_num, by rw [HG1.out], HL3, HE3, HBK3⟩
        case measure => have := HKN.out; simp [intOf]; omega
      · obtain rfl : k = n := by omega
        have hge : ¬ (k : Int) < (k : Int) := by omega
        have HW := Shut.mk HE.out.win
        rw [← HGK.out] at HW
        clear hlt hk hgl hmo hgk
        go_wp2_with (fail)
        refine (show Calls Tryd.prog 9 #[.pointer (some ⟨g, 0, none⟩), .int .i64 0] wr _ from window_l HL.out 0 (by decide)).mono ?_
        rintro x w2 ⟨rfl, hL, -⟩
        rw [HW.out]
        have HL2 := Shut.mk hL
        clear hL
        go_wp2_with (fail)
        refine (show Calls Tryd.prog 13 #[.pointer (some ⟨g, 0, none⟩), .int .i64 0, .bool true] w2 _ from end_l HL2.out 0 (by decide) true).mono ?_
        rintro x w3 ⟨rfl, hL, -⟩
        have HL3 := Shut.mk hL
        have HE3 := Shut.mk (alone_well HE.out)
        clear hL
        go_wp2_with (fail)
        refine (show Calls Tryd.prog 9 #[.pointer (some ⟨g, 0, none⟩), .int .i64 0] w3 _ from window_l HL3.out 0 (by decide)).mono ?_
        rintro x w4 ⟨rfl, hL, -⟩
        rw [show winE (endE e 0 true) 0 = 15 by rw [HE3.out.win]; rfl]
        have HL4 := Shut.mk hL
        clear hL
        go_wp2_with (fail)
        refine (end_out g 4 true w4 E ((HS.out.below HL4.out.bel).at_ 103 (by decide)) (by omega)).mono ?_
        rintro x w5 ⟨rfl, hb⟩
        have HL5 := Shut.mk (HL4.out.quiet hb)
        clear hb
        go_wp2_with (fail)
        refine (is_any E 103 103 w5 (HS.out.below HL5.out.bel) (.inr (by decide))).mono ?_
        rintro x w6 ⟨rfl, hb⟩
        have HL6 := Shut.mk (HL5.out.quiet hb)
        clear hb
        go_wp2_with (fail)
        refine (window_out g (-1) w6 (by omega)).mono ?_
        rintro x w7 ⟨rfl, rfl⟩
        go_wp2_with (fail)
        go_ret
        exact ⟨rfl, HL6.out.bel⟩
  · clear HC
    have HA6 := Shut.mk (alone_world HBa.out HR.out (Obj.cells #[.int .i64 7, .int .i64 3, .int .i64 2, .int .i64 2] 3 (0, 0)) (Obj.cells #[.int .i64 15, .int .i64 15, .int .i64 7, .int .i64 3] 3 (0, 0)) (Obj.cells #[.int .i64 1023, .int .i64 63, .int .i64 15, .int .i64 7] 3 (0, 0)) (Obj.cells #[.bool false, .bool true, .bool false, .bool false] 26 (0, 0)) (Obj.cells #[.int .u32 0, .int .u32 (q : Nat), .int .u32 0, .int .u32 0] 33 (0, 0)))
    obtain ⟨R, hR'⟩ : ∃ R : Nat → Bool, R = fun i => decide (i = 1) := ⟨_, rfl⟩
    obtain ⟨D, hD'⟩ : ∃ D : Nat → Nat, D = fun i => if i = 1 then q else 0 := ⟨_, rfl⟩
    have HRA := Shut.mk (show bA R = .agg #[.bool false, .bool true, .bool false, .bool false] by rw [hR']; rfl)
    have HDA := Shut.mk (show uA D = .agg #[.int .u32 0, .int .u32 (q : Nat), .int .u32 0, .int .u32 0] by rw [hD']; rfl)
    have HDB := Shut.mk (show ∀ i, i < 4 → D i < 4294967296 from fun i _ => by
      have h1 := HQ32.out
      rw [hD']
      show (if i = 1 then q else 0) < 4294967296
      split <;> omega)
    have HDC := Shut.mk (show D 1 = q by rw [hD']; rfl)
    have HRC := Shut.mk (show ∀ b, b < 4 → (R b = true ↔ b = 1) from fun b hb => by rw [hR']; simp)
    clear hR' hD'
    go_wp2_with (fail)
    generalize World.alloc (World.alloc (World.alloc (World.alloc (World.alloc (World.alloc wa _) _) _) _) _) _ = wl at *
    obtain ⟨gd, hgd⟩ : ∃ x, x = wa.heap.size + 1 + 1 + 1 + 1 + 1 := ⟨_, rfl⟩
    rw [← hgd] at HA6 ⊢
    obtain ⟨gr, hgr⟩ : ∃ x, x = wa.heap.size + 1 + 1 + 1 + 1 := ⟨_, rfl⟩
    rw [← hgr] at HA6 ⊢
    obtain ⟨g, hg⟩ : ∃ x, x = wa.heap.size + 1 + 1 + 1 := ⟨_, rfl⟩
    rw [← hg] at HA6 ⊢
    have HNE := Shut.mk (show gr ≠ g ∧ gd ≠ g by omega)
    have HL0 := Shut.mk HA6.out.1
    have HB0 := Shut.mk HA6.out.2
    clear hgd hgr hg HA6
    go_loopw [9, 15, 16, 17, 18] (fun s9 s15 _ _ _ wr => ∃ (k : Nat) (e : Ec), k ≤ n ∧ s15 = .int .i64 (k : Int) ∧ s9 = .int .i64 ((growE 1 k : Nat) : Int) ∧ Shut (LawE w wr g e) ∧ Shut (AloneE e 1 k) ∧ Shut (wr.heap[gr]? = some (Obj.cells #[.bool false, .bool true, .bool false, .bool false] 26 (0, 0)) ∧ wr.heap[gd]? = some (Obj.cells #[.int .u32 0, .int .u32 (q : Nat), .int .u32 0, .int .u32 0] 33 (0, 0)))) (fun _ s15 _ _ _ _ => n - (intOf s15).toNat)
    case atStart => exact ⟨0, e0, Nat.zero_le _, rfl, rfl, HL0, ⟨alone_0 1⟩, HB0⟩
    case round =>
      clear HL0 HB0
      obtain ⟨k, e, hk, rfl, rfl, HL, HE, HBK⟩ := hrel
      have hgl := grow_le 1 k
      have hmo := most_le 1
      obtain ⟨gk, hgk⟩ : ∃ x, x = growE 1 k := ⟨_, rfl⟩
      rw [← hgk] at hgl ⊢
      have HGK := Shut.mk hgk
      by_cases hlt : k < n
      · have hlt2 : (k : Int) < (n : Int) := by omega
        have hk12 : (k : Int) < 12 := by have := HN.out; omega
        obtain ⟨u, hu⟩ : ∃ u, u = gk + 1 := ⟨_, rfl⟩
        obtain ⟨z, hz⟩ : ∃ z, z = q % u := ⟨_, rfl⟩
        obtain ⟨o, ho⟩ : ∃ o, o = 3 + z := ⟨_, rfl⟩
        obtain ⟨g1, hg1⟩ : ∃ x, x = min (2 * gk + 1) 63 := ⟨_, rfl⟩
        have hzu : z < u := by rw [hz]; exact Nat.mod_lt _ (by omega)
        have HCA := Shut.mk (alone_cont HE.out (by decide) HRC.out D)
        rw [HDC.out, ← HGK.out, show 1 = 1 from rfl] at HCA
        have HO := Shut.mk (show waitE 1 + q % (gk + 1) = o by rw [ho, hz, hu]; rfl)
        have HG1 := Shut.mk (show g1 = growE 1 (k + 1) by rw [hg1, hgk]; rfl)
        have y1 : IntKind.i64.wrap ((gk : Int) + 1) = (u : Int) := by rw [IntWalk.i64_in _ ⟨by omega, by omega⟩]; omega
        have y2 : IntKind.u32.wrap (u : Int) = (u : Int) := IntWalk.u32_in _ ⟨by omega, by omega⟩
        have y3 : ¬ u = 0 := by omega
        have y4 : (q : Int).tmod (u : Int) = (z : Int) := by rw [Int.tmod_eq_emod_of_nonneg (by omega), ← Int.natCast_emod, ← hz]
        have y4b : (q : Int) % (u : Int) = (z : Int) := by rw [← Int.natCast_emod, ← hz]
        have y5 : IntKind.i64.wrap (z : Int) = (z : Int) := IntWalk.i64_in _ ⟨by omega, by omega⟩
        have y6 : IntKind.i64.wrap (3 + (z : Int)) = (o : Int) := by rw [IntWalk.i64_in _ ⟨by omega, by omega⟩]; omega
        have y7 : IntKind.i64.wrap (2 * (gk : Int)) = 2 * (gk : Int) := IntWalk.i64_in _ ⟨by omega, by omega⟩
        have y8 : IntKind.i64.wrap (2 * (gk : Int) + 1) = 2 * (gk : Int) + 1 := IntWalk.i64_in _ ⟨by omega, by omega⟩
        have y9 : min (2 * (gk : Int) + 1) 63 = ((g1 : Nat) : Int) := by omega
        have HKN := Shut.mk hlt
        clear hu hz ho hg1 hzu hgl hmo hgk hlt hk
        go_wp2_with (first
          | (refine wpList_load_row rfl 26 (.tmp 13) rfl gr rfl 26 #[.bool false, .bool true, .bool false, .bool false] (0, 0) _ HBK.out.1 Tryd.underlying26 rfl size4b ?_)
          | (refine wpList_load_row rfl 33 (.tmp 14) rfl gd rfl 33 #[.int .u32 0, .int .u32 (q : Nat), .int .u32 0, .int .u32 0] (0, 0) _ HBK.out.2 Tryd.underlying33 rfl size4u ?_))
        have HCC := Shut.mk (contend_l HL.out R D HDB.out)
        rw [HRA.out, HDA.out, HCA.out.1, HO.out, ans_some] at HCC
        refine HCC.out.mono ?_
        rintro x w1 ⟨rfl, hL, hO⟩
        obtain ⟨E1, hE1⟩ : ∃ E1, E1 = (contE e R D).1 := ⟨_, rfl⟩
        rw [← hE1] at hL HCA
        have HL1 := Shut.mk hL
        have HBK1 := Shut.mk (show w1.heap[gr]? = some (Obj.cells #[.bool false, .bool true, .bool false, .bool false] 26 (0, 0)) ∧ w1.heap[gd]? = some (Obj.cells #[.int .u32 0, .int .u32 (q : Nat), .int .u32 0, .int .u32 0] 33 (0, 0)) from ⟨hO.at_ HBK.out.1 HNE.out.1, hO.at_ HBK.out.2 HNE.out.2⟩)
        have HE1 := Shut.mk HCA.out.2
        clear hL hO hE1 HCC HCA HL HBK HE
        go_wp2_with (fail)
        refine (show Calls Tryd.prog 9 #[.pointer (some ⟨g, 0, none⟩), .int .i64 1] w1 _ from window_l HL1.out 1 (by decide)).mono ?_
        rintro x w2 ⟨rfl, hL, hb⟩
        rw [show winE E1 1 = gk by rw [HE1.out.win]; exact HGK.out.symm]
        have HL2 := Shut.mk hL
        have HBK2 := Shut.mk (show w2.heap[gr]? = some (Obj.cells #[.bool false, .bool true, .bool false, .bool false] 26 (0, 0)) ∧ w2.heap[gd]? = some (Obj.cells #[.int .u32 0, .int .u32 (q : Nat), .int .u32 0, .int .u32 0] 33 (0, 0)) from ⟨(hb.block _ (lt_blk HBK1.out.1)).trans HBK1.out.1, (hb.block _ (lt_blk HBK1.out.2)).trans HBK1.out.2⟩)
        clear hL hb HL1 HBK1
        go_wp2_with (fail)
        refine (show Calls Tryd.prog 13 #[.pointer (some ⟨g, 0, none⟩), .int .i64 1, .bool false] w2 _ from end_l HL2.out 1 (by decide) false).mono ?_
        rintro x w3 ⟨rfl, hL, hO⟩
        have HL3 := Shut.mk hL
        have HE3 := Shut.mk (alone_ill HE1.out)
        have HBK3 := Shut.mk (show w3.heap[gr]? = some (Obj.cells #[.bool false, .bool true, .bool false, .bool false] 26 (0, 0)) ∧ w3.heap[gd]? = some (Obj.cells #[.int .u32 0, .int .u32 (q : Nat), .int .u32 0, .int .u32 0] 33 (0, 0)) from ⟨hO.at_ HBK2.out.1 HNE.out.1, hO.at_ HBK2.out.2 HNE.out.2⟩)
        clear hL hO HL2 HBK2
        go_wp2_with (fail)
        go_roundw
        case rel => exact ⟨k + 1, _, HKN.out, by go_num, by rw [HG1.out], HL3, HE3, HBK3⟩
        case measure => have := HKN.out; simp [intOf]; omega
      · obtain rfl : k = n := by omega
        have hge : ¬ (k : Int) < (k : Int) := by omega
        have HW := Shut.mk HE.out.win
        rw [← HGK.out] at HW
        clear hlt hk hgl hmo hgk
        go_wp2_with (fail)
        refine (show Calls Tryd.prog 9 #[.pointer (some ⟨g, 0, none⟩), .int .i64 1] wr _ from window_l HL.out 1 (by decide)).mono ?_
        rintro x w2 ⟨rfl, hL, -⟩
        rw [HW.out]
        have HL2 := Shut.mk hL
        clear hL
        go_wp2_with (fail)
        refine (show Calls Tryd.prog 13 #[.pointer (some ⟨g, 0, none⟩), .int .i64 1, .bool true] w2 _ from end_l HL2.out 1 (by decide) true).mono ?_
        rintro x w3 ⟨rfl, hL, -⟩
        have HL3 := Shut.mk hL
        have HE3 := Shut.mk (alone_well HE.out)
        clear hL
        go_wp2_with (fail)
        refine (show Calls Tryd.prog 9 #[.pointer (some ⟨g, 0, none⟩), .int .i64 1] w3 _ from window_l HL3.out 1 (by decide)).mono ?_
        rintro x w4 ⟨rfl, hL, -⟩
        rw [show winE (endE e 1 true) 1 = 15 by rw [HE3.out.win]; rfl]
        have HL4 := Shut.mk hL
        clear hL
        go_wp2_with (fail)
        refine (end_out g 4 true w4 E ((HS.out.below HL4.out.bel).at_ 103 (by decide)) (by omega)).mono ?_
        rintro x w5 ⟨rfl, hb⟩
        have HL5 := Shut.mk (HL4.out.quiet hb)
        clear hb
        go_wp2_with (fail)
        refine (is_any E 103 103 w5 (HS.out.below HL5.out.bel) (.inr (by decide))).mono ?_
        rintro x w6 ⟨rfl, hb⟩
        have HL6 := Shut.mk (HL5.out.quiet hb)
        clear hb
        go_wp2_with (fail)
        refine (window_out g (-1) w6 (by omega)).mono ?_
        rintro x w7 ⟨rfl, rfl⟩
        go_wp2_with (fail)
        go_ret
        exact ⟨rfl, HL6.out.bel⟩
  · clear HC
    have HA6 := Shut.mk (alone_world HBa.out HR.out (Obj.cells #[.int .i64 7, .int .i64 3, .int .i64 2, .int .i64 2] 3 (0, 0)) (Obj.cells #[.int .i64 15, .int .i64 15, .int .i64 7, .int .i64 3] 3 (0, 0)) (Obj.cells #[.int .i64 1023, .int .i64 63, .int .i64 15, .int .i64 7] 3 (0, 0)) (Obj.cells #[.bool false, .bool false, .bool true, .bool false] 26 (0, 0)) (Obj.cells #[.int .u32 0, .int .u32 0, .int .u32 (q : Nat), .int .u32 0] 33 (0, 0)))
    obtain ⟨R, hR'⟩ : ∃ R : Nat → Bool, R = fun i => decide (i = 2) := ⟨_, rfl⟩
    obtain ⟨D, hD'⟩ : ∃ D : Nat → Nat, D = fun i => if i = 2 then q else 0 := ⟨_, rfl⟩
    have HRA := Shut.mk (show bA R = .agg #[.bool false, .bool false, .bool true, .bool false] by rw [hR']; rfl)
    have HDA := Shut.mk (show uA D = .agg #[.int .u32 0, .int .u32 0, .int .u32 (q : Nat), .int .u32 0] by rw [hD']; rfl)
    have HDB := Shut.mk (show ∀ i, i < 4 → D i < 4294967296 from fun i _ => by
      have h1 := HQ32.out
      rw [hD']
      show (if i = 2 then q else 0) < 4294967296
      split <;> omega)
    have HDC := Shut.mk (show D 2 = q by rw [hD']; rfl)
    have HRC := Shut.mk (show ∀ b, b < 4 → (R b = true ↔ b = 2) from fun b hb => by rw [hR']; simp)
    clear hR' hD'
    go_wp2_with (fail)
    generalize World.alloc (World.alloc (World.alloc (World.alloc (World.alloc (World.alloc wa _) _) _) _) _) _ = wl at *
    obtain ⟨gd, hgd⟩ : ∃ x, x = wa.heap.size + 1 + 1 + 1 + 1 + 1 := ⟨_, rfl⟩
    rw [← hgd] at HA6 ⊢
    obtain ⟨gr, hgr⟩ : ∃ x, x = wa.heap.size + 1 + 1 + 1 + 1 := ⟨_, rfl⟩
    rw [← hgr] at HA6 ⊢
    obtain ⟨g, hg⟩ : ∃ x, x = wa.heap.size + 1 + 1 + 1 := ⟨_, rfl⟩
    rw [← hg] at HA6 ⊢
    have HNE := Shut.mk (show gr ≠ g ∧ gd ≠ g by omega)
    have HL0 := Shut.mk HA6.out.1
    have HB0 := Shut.mk HA6.out.2
    clear hgd hgr hg HA6
    go_loopw [9, 15, 16, 17, 18] (fun s9 s15 _ _ _ wr => ∃ (k : Nat) (e : Ec), k ≤ n ∧ s15 = .int .i64 (k : Int) ∧ s9 = .int .i64 ((growE 2 k : Nat) : Int) ∧ Shut (LawE w wr g e) ∧ Shut (AloneE e 2 k) ∧ Shut (wr.heap[gr]? = some (Obj.cells #[.bool false, .bool false, .bool true, .bool false] 26 (0, 0)) ∧ wr.heap[gd]? = some (Obj.cells #[.int .u32 0, .int .u32 0, .int .u32 (q : Nat), .int .u32 0] 33 (0, 0)))) (fun _ s15 _ _ _ _ => n - (intOf s15).toNat)
    case atStart => exact ⟨0, e0, Nat.zero_le _, rfl, rfl, HL0, ⟨alone_0 2⟩, HB0⟩
    case round =>
      clear HL0 HB0
      obtain ⟨k, e, hk, rfl, rfl, HL, HE, HBK⟩ := hrel
      have hgl := grow_le 2 k
      have hmo := most_le 2
      obtain ⟨gk, hgk⟩ : ∃ x, x = growE 2 k := ⟨_, rfl⟩
      rw [← hgk] at hgl ⊢
      have HGK := Shut.mk hgk
      by_cases hlt : k < n
      · have hlt2 : (k : Int) < (n : Int) := by omega
        have hk12 : (k : Int) < 12 := by have := HN.out; omega
        obtain ⟨u, hu⟩ : ∃ u, u = gk + 1 := ⟨_, rfl⟩
        obtain ⟨z, hz⟩ : ∃ z, z = q % u := ⟨_, rfl⟩
        obtain ⟨o, ho⟩ : ∃ o, o = 2 + z := ⟨_, rfl⟩
        obtain ⟨g1, hg1⟩ : ∃ x, x = min (2 * gk + 1) 15 := ⟨_, rfl⟩
        have hzu : z < u := by rw [hz]; exact Nat.mod_lt _ (by omega)
        have HCA := Shut.mk (alone_cont HE.out (by decide) HRC.out D)
        rw [HDC.out, ← HGK.out, show 2 = 2 from rfl] at HCA
        have HO := Shut.mk (show waitE 2 + q % (gk + 1) = o by rw [ho, hz, hu]; rfl)
        have HG1 := Shut.mk (show g1 = growE 2 (k + 1) by rw [hg1, hgk]; rfl)
        have y1 : IntKind.i64.wrap ((gk : Int) + 1) = (u : Int) := by rw [IntWalk.i64_in _ ⟨by omega, by omega⟩]; omega
        have y2 : IntKind.u32.wrap (u : Int) = (u : Int) := IntWalk.u32_in _ ⟨by omega, by omega⟩
        have y3 : ¬ u = 0 := by omega
        have y4 : (q : Int).tmod (u : Int) = (z : Int) := by rw [Int.tmod_eq_emod_of_nonneg (by omega), ← Int.natCast_emod, ← hz]
        have y4b : (q : Int) % (u : Int) = (z : Int) := by rw [← Int.natCast_emod, ← hz]
        have y5 : IntKind.i64.wrap (z : Int) = (z : Int) := IntWalk.i64_in _ ⟨by omega, by omega⟩
        have y6 : IntKind.i64.wrap (2 + (z : Int)) = (o : Int) := by rw [IntWalk.i64_in _ ⟨by omega, by omega⟩]; omega
        have y7 : IntKind.i64.wrap (2 * (gk : Int)) = 2 * (gk : Int) := IntWalk.i64_in _ ⟨by omega, by omega⟩
        have y8 : IntKind.i64.wrap (2 * (gk : Int) + 1) = 2 * (gk : Int) + 1 := IntWalk.i64_in _ ⟨by omega, by omega⟩
        have y9 : min (2 * (gk : Int) + 1) 15 = ((g1 : Nat) : Int) := by omega
        have HKN := Shut.mk hlt
        clear hu hz ho hg1 hzu hgl hmo hgk hlt hk
        go_wp2_with (first
          | (refine wpList_load_row rfl 26 (.tmp 13) rfl gr rfl 26 #[.bool false, .bool false, .bool true, .bool false] (0, 0) _ HBK.out.1 Tryd.underlying26 rfl size4b ?_)
          | (refine wpList_load_row rfl 33 (.tmp 14) rfl gd rfl 33 #[.int .u32 0, .int .u32 0, .int .u32 (q : Nat), .int .u32 0] (0, 0) _ HBK.out.2 Tryd.underlying33 rfl size4u ?_))
        have HCC := Shut.mk (contend_l HL.out R D HDB.out)
        rw [HRA.out, HDA.out, HCA.out.1, HO.out, ans_some] at HCC
        refine HCC.out.mono ?_
        rintro x w1 ⟨rfl, hL, hO⟩
        obtain ⟨E1, hE1⟩ : ∃ E1, E1 = (contE e R D).1 := ⟨_, rfl⟩
        rw [← hE1] at hL HCA
        have HL1 := Shut.mk hL
        have HBK1 := Shut.mk (show w1.heap[gr]? = some (Obj.cells #[.bool false, .bool false, .bool true, .bool false] 26 (0, 0)) ∧ w1.heap[gd]? = some (Obj.cells #[.int .u32 0, .int .u32 0, .int .u32 (q : Nat), .int .u32 0] 33 (0, 0)) from ⟨hO.at_ HBK.out.1 HNE.out.1, hO.at_ HBK.out.2 HNE.out.2⟩)
        have HE1 := Shut.mk HCA.out.2
        clear hL hO hE1 HCC HCA HL HBK HE
        go_wp2_with (fail)
        refine (show Calls Tryd.prog 9 #[.pointer (some ⟨g, 0, none⟩), .int .i64 2] w1 _ from window_l HL1.out 2 (by decide)).mono ?_
        rintro x w2 ⟨rfl, hL, hb⟩
        rw [show winE E1 2 = gk by rw [HE1.out.win]; exact HGK.out.symm]
        have HL2 := Shut.mk hL
        have HBK2 := Shut.mk (show w2.heap[gr]? = some (Obj.cells #[.bool false, .bool false, .bool true, .bool false] 26 (0, 0)) ∧ w2.heap[gd]? = some (Obj.cells #[.int .u32 0, .int .u32 0, .int .u32 (q : Nat), .int .u32 0] 33 (0, 0)) from ⟨(hb.block _ (lt_blk HBK1.out.1)).trans HBK1.out.1, (hb.block _ (lt_blk HBK1.out.2)).trans HBK1.out.2⟩)
        clear hL hb HL1 HBK1
        go_wp2_with (fail)
        refine (show Calls Tryd.prog 13 #[.pointer (some ⟨g, 0, none⟩), .int .i64 2, .bool false] w2 _ from end_l HL2.out 2 (by decide) false).mono ?_
        rintro x w3 ⟨rfl, hL, hO⟩
        have HL3 := Shut.mk hL
        have HE3 := Shut.mk (alone_ill HE1.out)
        have HBK3 := Shut.mk (show w3.heap[gr]? = some (Obj.cells #[.bool false, .bool false, .bool true, .bool false] 26 (0, 0)) ∧ w3.heap[gd]? = some (Obj.cells #[.int .u32 0, .int .u32 0, .int .u32 (q : Nat), .int .u32 0] 33 (0, 0)) from ⟨hO.at_ HBK2.out.1 HNE.out.1, hO.at_ HBK2.out.2 HNE.out.2⟩)
        clear hL hO HL2 HBK2
        go_wp2_with (fail)
        go_roundw
        case rel => exact ⟨k + 1, _, HKN.out, by go_num, by rw [HG1.out], HL3, HE3, HBK3⟩
        case measure => have := HKN.out; simp [intOf]; omega
      · obtain rfl : k = n := by omega
        have hge : ¬ (k : Int) < (k : Int) := by omega
        have HW := Shut.mk HE.out.win
        rw [← HGK.out] at HW
        clear hlt hk hgl hmo hgk
        go_wp2_with (fail)
        refine (show Calls Tryd.prog 9 #[.pointer (some ⟨g, 0, none⟩), .int .i64 2] wr _ from window_l HL.out 2 (by decide)).mono ?_
        rintro x w2 ⟨rfl, hL, -⟩
        rw [HW.out]
        have HL2 := Shut.mk hL
        clear hL
        go_wp2_with (fail)
        refine (show Calls Tryd.prog 13 #[.pointer (some ⟨g, 0, none⟩), .int .i64 2, .bool true] w2 _ from end_l HL2.out 2 (by decide) true).mono ?_
        rintro x w3 ⟨rfl, hL, -⟩
        have HL3 := Shut.mk hL
        have HE3 := Shut.mk (alone_well HE.out)
        clear hL
        go_wp2_with (fail)
        refine (show Calls Tryd.prog 9 #[.pointer (some ⟨g, 0, none⟩), .int .i64 2] w3 _ from window_l HL3.out 2 (by decide)).mono ?_
        rintro x w4 ⟨rfl, hL, -⟩
        rw [show winE (endE e 2 true) 2 = 7 by rw [HE3.out.win]; rfl]
        have HL4 := Shut.mk hL
        clear hL
        go_wp2_with (fail)
        refine (end_out g 4 true w4 E ((HS.out.below HL4.out.bel).at_ 103 (by decide)) (by omega)).mono ?_
        rintro x w5 ⟨rfl, hb⟩
        have HL5 := Shut.mk (HL4.out.quiet hb)
        clear hb
        go_wp2_with (fail)
        refine (is_any E 103 103 w5 (HS.out.below HL5.out.bel) (.inr (by decide))).mono ?_
        rintro x w6 ⟨rfl, hb⟩
        have HL6 := Shut.mk (HL5.out.quiet hb)
        clear hb
        go_wp2_with (fail)
        refine (window_out g (-1) w6 (by omega)).mono ?_
        rintro x w7 ⟨rfl, rfl⟩
        go_wp2_with (fail)
        go_ret
        exact ⟨rfl, HL6.out.bel⟩
  · clear HC
    have HA6 := Shut.mk (alone_world HBa.out HR.out (Obj.cells #[.int .i64 7, .int .i64 3, .int .i64 2, .int .i64 2] 3 (0, 0)) (Obj.cells #[.int .i64 15, .int .i64 15, .int .i64 7, .int .i64 3] 3 (0, 0)) (Obj.cells #[.int .i64 1023, .int .i64 63, .int .i64 15, .int .i64 7] 3 (0, 0)) (Obj.cells #[.bool false, .bool false, .bool false, .bool true] 26 (0, 0)) (Obj.cells #[.int .u32 0, .int .u32 0, .int .u32 0, .int .u32 (q : Nat)] 33 (0, 0)))
    obtain ⟨R, hR'⟩ : ∃ R : Nat → Bool, R = fun i => decide (i = 3) := ⟨_, rfl⟩
    obtain ⟨D, hD'⟩ : ∃ D : Nat → Nat, D = fun i => if i = 3 then q else 0 := ⟨_, rfl⟩
    have HRA := Shut.mk (show bA R = .agg #[.bool false, .bool false, .bool false, .bool true] by rw [hR']; rfl)
    have HDA := Shut.mk (show uA D = .agg #[.int .u32 0, .int .u32 0, .int .u32 0, .int .u32 (q : Nat)] by rw [hD']; rfl)
    have HDB := Shut.mk (show ∀ i, i < 4 → D i < 4294967296 from fun i _ => by
      have h1 := HQ32.out
      rw [hD']
      show (if i = 3 then q else 0) < 4294967296
      split <;> omega)
    have HDC := Shut.mk (show D 3 = q by rw [hD']; rfl)
    have HRC := Shut.mk (show ∀ b, b < 4 → (R b = true ↔ b = 3) from fun b hb => by rw [hR']; simp)
    clear hR' hD'
    go_wp2_with (fail)
    generalize World.alloc (World.alloc (World.alloc (World.alloc (World.alloc (World.alloc wa _) _) _) _) _) _ = wl at *
    obtain ⟨gd, hgd⟩ : ∃ x, x = wa.heap.size + 1 + 1 + 1 + 1 + 1 := ⟨_, rfl⟩
    rw [← hgd] at HA6 ⊢
    obtain ⟨gr, hgr⟩ : ∃ x, x = wa.heap.size + 1 + 1 + 1 + 1 := ⟨_, rfl⟩
    rw [← hgr] at HA6 ⊢
    obtain ⟨g, hg⟩ : ∃ x, x = wa.heap.size + 1 + 1 + 1 := ⟨_, rfl⟩
    rw [← hg] at HA6 ⊢
    have HNE := Shut.mk (show gr ≠ g ∧ gd ≠ g by omega)
    have HL0 := Shut.mk HA6.out.1
    have HB0 := Shut.mk HA6.out.2
    clear hgd hgr hg HA6
    go_loopw [9, 15, 16, 17, 18] (fun s9 s15 _ _ _ wr => ∃ (k : Nat) (e : Ec), k ≤ n ∧ s15 = .int .i64 (k : Int) ∧ s9 = .int .i64 ((growE 3 k : Nat) : Int) ∧ Shut (LawE w wr g e) ∧ Shut (AloneE e 3 k) ∧ Shut (wr.heap[gr]? = some (Obj.cells #[.bool false, .bool false, .bool false, .bool true] 26 (0, 0)) ∧ wr.heap[gd]? = some (Obj.cells #[.int .u32 0, .int .u32 0, .int .u32 0, .int .u32 (q : Nat)] 33 (0, 0)))) (fun _ s15 _ _ _ _ => n - (intOf s15).toNat)
    case atStart => exact ⟨0, e0, Nat.zero_le _, rfl, rfl, HL0, ⟨alone_0 3⟩, HB0⟩
    case round =>
      clear HL0 HB0
      obtain ⟨k, e, hk, rfl, rfl, HL, HE, HBK⟩ := hrel
      have hgl := grow_le 3 k
      have hmo := most_le 3
      obtain ⟨gk, hgk⟩ : ∃ x, x = growE 3 k := ⟨_, rfl⟩
      rw [← hgk] at hgl ⊢
      have HGK := Shut.mk hgk
      by_cases hlt : k < n
      · have hlt2 : (k : Int) < (n : Int) := by omega
        have hk12 : (k : Int) < 12 := by have := HN.out; omega
        obtain ⟨u, hu⟩ : ∃ u, u = gk + 1 := ⟨_, rfl⟩
        obtain ⟨z, hz⟩ : ∃ z, z = q % u := ⟨_, rfl⟩
        obtain ⟨o, ho⟩ : ∃ o, o = 2 + z := ⟨_, rfl⟩
        obtain ⟨g1, hg1⟩ : ∃ x, x = min (2 * gk + 1) 7 := ⟨_, rfl⟩
        have hzu : z < u := by rw [hz]; exact Nat.mod_lt _ (by omega)
        have HCA := Shut.mk (alone_cont HE.out (by decide) HRC.out D)
        rw [HDC.out, ← HGK.out, show 3 = 3 from rfl] at HCA
        have HO := Shut.mk (show waitE 3 + q % (gk + 1) = o by rw [ho, hz, hu]; rfl)
        have HG1 := Shut.mk (show g1 = growE 3 (k + 1) by rw [hg1, hgk]; rfl)
        have y1 : IntKind.i64.wrap ((gk : Int) + 1) = (u : Int) := by rw [IntWalk.i64_in _ ⟨by omega, by omega⟩]; omega
        have y2 : IntKind.u32.wrap (u : Int) = (u : Int) := IntWalk.u32_in _ ⟨by omega, by omega⟩
        have y3 : ¬ u = 0 := by omega
        have y4 : (q : Int).tmod (u : Int) = (z : Int) := by rw [Int.tmod_eq_emod_of_nonneg (by omega), ← Int.natCast_emod, ← hz]
        have y4b : (q : Int) % (u : Int) = (z : Int) := by rw [← Int.natCast_emod, ← hz]
        have y5 : IntKind.i64.wrap (z : Int) = (z : Int) := IntWalk.i64_in _ ⟨by omega, by omega⟩
        have y6 : IntKind.i64.wrap (2 + (z : Int)) = (o : Int) := by rw [IntWalk.i64_in _ ⟨by omega, by omega⟩]; omega
        have y7 : IntKind.i64.wrap (2 * (gk : Int)) = 2 * (gk : Int) := IntWalk.i64_in _ ⟨by omega, by omega⟩
        have y8 : IntKind.i64.wrap (2 * (gk : Int) + 1) = 2 * (gk : Int) + 1 := IntWalk.i64_in _ ⟨by omega, by omega⟩
        have y9 : min (2 * (gk : Int) + 1) 7 = ((g1 : Nat) : Int) := by omega
        have HKN := Shut.mk hlt
        clear hu hz ho hg1 hzu hgl hmo hgk hlt hk
        go_wp2_with (first
          | (refine wpList_load_row rfl 26 (.tmp 13) rfl gr rfl 26 #[.bool false, .bool false, .bool false, .bool true] (0, 0) _ HBK.out.1 Tryd.underlying26 rfl size4b ?_)
          | (refine wpList_load_row rfl 33 (.tmp 14) rfl gd rfl 33 #[.int .u32 0, .int .u32 0, .int .u32 0, .int .u32 (q : Nat)] (0, 0) _ HBK.out.2 Tryd.underlying33 rfl size4u ?_))
        have HCC := Shut.mk (contend_l HL.out R D HDB.out)
        rw [HRA.out, HDA.out, HCA.out.1, HO.out, ans_some] at HCC
        refine HCC.out.mono ?_
        rintro x w1 ⟨rfl, hL, hO⟩
        obtain ⟨E1, hE1⟩ : ∃ E1, E1 = (contE e R D).1 := ⟨_, rfl⟩
        rw [← hE1] at hL HCA
        have HL1 := Shut.mk hL
        have HBK1 := Shut.mk (show w1.heap[gr]? = some (Obj.cells #[.bool false, .bool false, .bool false, .bool true] 26 (0, 0)) ∧ w1.heap[gd]? = some (Obj.cells #[.int .u32 0, .int .u32 0, .int .u32 0, .int .u32 (q : Nat)] 33 (0, 0)) from ⟨hO.at_ HBK.out.1 HNE.out.1, hO.at_ HBK.out.2 HNE.out.2⟩)
        have HE1 := Shut.mk HCA.out.2
        clear hL hO hE1 HCC HCA HL HBK HE
        go_wp2_with (fail)
        refine (show Calls Tryd.prog 9 #[.pointer (some ⟨g, 0, none⟩), .int .i64 3] w1 _ from window_l HL1.out 3 (by decide)).mono ?_
        rintro x w2 ⟨rfl, hL, hb⟩
        rw [show winE E1 3 = gk by rw [HE1.out.win]; exact HGK.out.symm]
        have HL2 := Shut.mk hL
        have HBK2 := Shut.mk (show w2.heap[gr]? = some (Obj.cells #[.bool false, .bool false, .bool false, .bool true] 26 (0, 0)) ∧ w2.heap[gd]? = some (Obj.cells #[.int .u32 0, .int .u32 0, .int .u32 0, .int .u32 (q : Nat)] 33 (0, 0)) from ⟨(hb.block _ (lt_blk HBK1.out.1)).trans HBK1.out.1, (hb.block _ (lt_blk HBK1.out.2)).trans HBK1.out.2⟩)
        clear hL hb HL1 HBK1
        go_wp2_with (fail)
        refine (show Calls Tryd.prog 13 #[.pointer (some ⟨g, 0, none⟩), .int .i64 3, .bool false] w2 _ from end_l HL2.out 3 (by decide) false).mono ?_
        rintro x w3 ⟨rfl, hL, hO⟩
        have HL3 := Shut.mk hL
        have HE3 := Shut.mk (alone_ill HE1.out)
        have HBK3 := Shut.mk (show w3.heap[gr]? = some (Obj.cells #[.bool false, .bool false, .bool false, .bool true] 26 (0, 0)) ∧ w3.heap[gd]? = some (Obj.cells #[.int .u32 0, .int .u32 0, .int .u32 0, .int .u32 (q : Nat)] 33 (0, 0)) from ⟨hO.at_ HBK2.out.1 HNE.out.1, hO.at_ HBK2.out.2 HNE.out.2⟩)
        clear hL hO HL2 HBK2
        go_wp2_with (fail)
        go_roundw
        case rel => exact ⟨k + 1, _, HKN.out, by go_num, by rw [HG1.out], HL3, HE3, HBK3⟩
        case measure => have := HKN.out; simp [intOf]; omega
      · obtain rfl : k = n := by omega
        have hge : ¬ (k : Int) < (k : Int) := by omega
        have HW := Shut.mk HE.out.win
        rw [← HGK.out] at HW
        clear hlt hk hgl hmo hgk
        go_wp2_with (fail)
        refine (show Calls Tryd.prog 9 #[.pointer (some ⟨g, 0, none⟩), .int .i64 3] wr _ from window_l HL.out 3 (by decide)).mono ?_
        rintro x w2 ⟨rfl, hL, -⟩
        rw [HW.out]
        have HL2 := Shut.mk hL
        clear hL
        go_wp2_with (fail)
        refine (show Calls Tryd.prog 13 #[.pointer (some ⟨g, 0, none⟩), .int .i64 3, .bool true] w2 _ from end_l HL2.out 3 (by decide) true).mono ?_
        rintro x w3 ⟨rfl, hL, -⟩
        have HL3 := Shut.mk hL
        have HE3 := Shut.mk (alone_well HE.out)
        clear hL
        go_wp2_with (fail)
        refine (show Calls Tryd.prog 9 #[.pointer (some ⟨g, 0, none⟩), .int .i64 3] w3 _ from window_l HL3.out 3 (by decide)).mono ?_
        rintro x w4 ⟨rfl, hL, -⟩
        rw [show winE (endE e 3 true) 3 = 3 by rw [HE3.out.win]; rfl]
        have HL4 := Shut.mk hL
        clear hL
        go_wp2_with (fail)
        refine (end_out g 4 true w4 E ((HS.out.below HL4.out.bel).at_ 103 (by decide)) (by omega)).mono ?_
        rintro x w5 ⟨rfl, hb⟩
        have HL5 := Shut.mk (HL4.out.quiet hb)
        clear hb
        go_wp2_with (fail)
        refine (is_any E 103 103 w5 (HS.out.below HL5.out.bel) (.inr (by decide))).mono ?_
        rintro x w6 ⟨rfl, hb⟩
        have HL6 := Shut.mk (HL5.out.quiet hb)
        clear hb
        go_wp2_with (fail)
        refine (window_out g (-1) w6 (by omega)).mono ?_
        rintro x w7 ⟨rfl, rfl⟩
        go_wp2_with (fail)
        go_ret
        exact ⟨rfl, HL6.out.bel⟩

end Go.Proofs.YtndkmgcmegcieaaDoor.edcaAlone
