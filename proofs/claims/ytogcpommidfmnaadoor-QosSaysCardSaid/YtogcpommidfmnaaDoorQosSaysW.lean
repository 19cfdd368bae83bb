/-
  The walk of muezzin/muezzinlaw3.QosSays: the Go text returns true.
-/
import Derived.Test.YtogcpommidfmnaaDoorQosF
import Derived.Test.YtogcpommidfmnaaDoorOpen
import Derived.Test.YtogcpommidfmnaaDoorErr
import Derived.Test.YtogcpommidfmnaaDoorQosU
import Derived.Test.YtogcpommidfmnaaDoorSameQ
import Derived.IntWalk
import Derived.WalkKit
import Derived.ProofKit
import Derived.Below
namespace Go.Proofs.YtogcpommidfmnaaDoor.qosSays
open Go.ChangeShapes Go.WideShapes Go.ChangeAt Go.RowKit Go.Joins
set_option linter.unusedVariables false
set_option linter.unusedSimpArgs false

theorem and_low (n : Int) : 0 ≤ bits .and .i64 n 65535 ∧ bits .and .i64 n 65535 ≤ 65535 := by
  have h : (BitVec.ofInt 64 n &&& BitVec.ofInt 64 65535).toNat ≤ 65535 := by
    rw [BitVec.toNat_and]
    exact Nat.le_trans Nat.and_le_right (by decide)
  have e : bits .and .i64 n 65535 = IntKind.i64.wrap ((BitVec.ofInt 64 n &&& BitVec.ofInt 64 65535).toNat : Int) := rfl
  rw [e, IntWalk.i64_in _ ⟨by omega, by omega⟩]
  omega

/-! ### THE WALK -/
set_option maxRecDepth 100000 in
set_option maxHeartbeats 8000000 in
theorem walk (f0 : Qf) (z0 : List Int) (a1 : Option Addr) (len1 cap1 : Nat) (z1 : List Int) (n2 : Int) (w : World) (E : Nat → Addr) (hS : Sent w E [101, 102, 103, 104, 105, 106, 107, 108, 109, 110, 111, 112, 113, 114]) (w0 : IsQf w f0 z0) (w1 : IsRow .u8 w a1 len1 cap1 z1) (w2 : (Lit.int .i64 n2).wf = true) :
    Calls Tryd.prog 4 #[f0.val, .slice a1 len1 cap1, .int .i64 n2] w fun e w' => e = .returned (.bool true) ∧ Below w.heap.size w w' := by
  have HX := Lib.hid (RowB.of_row w0.row)
  have HN := Lib.hid w0.nil
  have HWt := Lib.hid (And.intro w0.t (And.intro w0.b w0.f))
  have HS := Lib.hid hS
  have HLC := Lib.hid w0.row.len_cap.1
  generalize z0.take f0.n = xs at HX
  clear w0 hS
  have HB0 := Lib.hid ((Below.refl w.heap.size w).alloc (Nat.le_refl _) (.cells f0.cells 26))
  have HZ0 := Lib.hid (show w.heap.size < (w.alloc (.cells f0.cells 26)).heap.size by simp)
  have HG0 := Lib.hid (heap_alloc_last w (.cells f0.cells 26))
  have HY := Lib.hid (RowB.of_row w1)
  have HLD := Lib.hid w1.len_cap.1
  generalize z1.take len1 = ys at HY
  have W2 := Lib.hid w2
  clear w1 w2
  by_cases h60 : (1600 : Int) < (f0.n : Int)
  · go_enter Tryd.func4, Tryd.ntmps4
    go_wp2_with (fail)
    refine (first_any _).mono ?_
    rintro e w1 ⟨rfl, hB⟩
    have HB1 := Lib.hid hB
    have c23 := q_at hB HZ0.out 23
    dsimp only [Qf.cells] at c23
    clear hB
    go_wp2
    go_ret
    exact ⟨rfl, HB0.out.trans (HB1.out.mono HB0.out.size)⟩
  have hd60 : decide ((1600 : Int) < (f0.n : Int)) = false := by simpa using h60
  clear h60
  by_cases h61 : (1600 : Int) < (len1 : Int)
  · go_enter Tryd.func4, Tryd.ntmps4
    go_wp2_with (fail)
    refine (first_any _).mono ?_
    rintro e w1 ⟨rfl, hB⟩
    have HB1 := Lib.hid hB
    have c23 := q_at hB HZ0.out 23
    dsimp only [Qf.cells] at c23
    clear hB
    go_wp2
    go_ret
    exact ⟨rfl, HB0.out.trans (HB1.out.mono HB0.out.size)⟩
  have hd61 : decide ((1600 : Int) < (len1 : Int)) = false := by simpa using h61
  have h61' : len1 ≤ 1600 := by omega
  clear h61
  go_enter Tryd.func4, Tryd.ntmps4
  go_wp2_with (fail)
  refine (first_any _).mono ?_
  rintro e w1 ⟨rfl, hB⟩
  have HB1 := Lib.hid hB
  have c23 := q_at hB HZ0.out 23
  dsimp only [Qf.cells] at c23
  clear hB
  have HG1 := Lib.hid ((HB1.out.block _ HZ0.out).trans HG0.out)
  have HS1 := Lib.hid (HS.out.below (HB0.out.trans (HB1.out.mono HB0.out.size)))
  have HX1 := Lib.hid (HX.out.below (HB0.out.trans (HB1.out.mono HB0.out.size)))
  go_wp2_with (refine wpList_load_row rfl 26 (.tmp 3) rfl w.heap.size rfl 26 f0.cells (0, 0) _ HG1.out Tryd.underlying26 rfl size26 ?_)
  clear hd60 hd61 c23
  refine (bytes_all f0 xs E w1 HX1.out HN.out HWt.out.1 HWt.out.2.1 HWt.out.2.2 HS1.out).mono ?_
  rintro e w2 ⟨Ax, nx, cx, rfl, hR, hB⟩
  have HRx := Lib.hid hR
  have HB2 := Lib.hid (HB1.out.trans (hB.mono HB1.out.size))
  clear hR hB
  have HG2 := Lib.hid ((HB2.out.block _ HZ0.out).trans HG0.out)
  have HS2 := Lib.hid (HS.out.below (HB0.out.trans (HB2.out.mono HB0.out.size)))
  have HX2 := Lib.hid (HX.out.below (HB0.out.trans (HB2.out.mono HB0.out.size)))
  generalize hve : errV E (codeB f0) = ve at *
  have HVE := Lib.hid hve
  clear hve
  go_wp2_with (refine wpList_load_row rfl 26 (.tmp 3) rfl w.heap.size rfl 26 f0.cells (0, 0) _ HG2.out Tryd.underlying26 rfl size26 ?_)
  refine (ref_all f0 xs w2 HX2.out HN.out HWt.out.1 HWt.out.2.1 HWt.out.2.2).mono ?_
  rintro e w3 ⟨Ay, ny, cy, rfl, hR, hB⟩
  have HRy := Lib.hid hR
  have HB3 := Lib.hid (HB2.out.trans (hB.mono HB2.out.size))
  have HRx3 := Lib.hid (HRx.out.below hB)
  clear hR hB
  have HS3 := Lib.hid (HS.out.below (HB0.out.trans (HB3.out.mono HB0.out.size)))
  have HY3 := Lib.hid (HY.out.below (HB0.out.trans (HB3.out.mono HB0.out.size)))
  have HC14 := Lib.hid (codeB_14 f0)
  generalize codeB f0 = cb at *
  generalize outB f0 xs = zs at *
  go_wp2_with (fail)
  refine (read_all a1 len1 cap1 ys E w3 HY3.out HLD.out HS3.out).mono ?_
  rintro e w4 ⟨Ap, np, cp, rfl, hR, hB⟩
  have HRp := Lib.hid hR
  have HB4 := Lib.hid (HB3.out.trans (hB.mono HB3.out.size))
  have HRx4 := Lib.hid (HRx3.out.below hB)
  have HRy4 := Lib.hid (HRy.out.below hB)
  clear hR hB
  generalize hp : (outR ys len1).body Ap np cp = p at *
  have HP := Lib.hid hp
  clear hp
  generalize hvg : errV E (rdB ys len1) = vg at *
  have HVG := Lib.hid hvg
  clear hvg
  have HB5 := Lib.hid (HB4.out.alloc HB4.out.size (.cells p.cells 26))
  have HP5 := Lib.hid (heap_alloc_last w4 (.cells p.cells 26))
  have HZ5 := Lib.hid (show w4.heap.size < (w4.alloc (.cells p.cells 26)).heap.size by simp)
  have HA4 := Lib.hid ((Below.refl w4.heap.size w4).alloc (Nat.le_refl _) (.cells p.cells 26))
  have HRx5 := Lib.hid (HRx4.out.below HA4.out)
  have HRy5 := Lib.hid (HRy4.out.below HA4.out)
  have HRp5 := Lib.hid (HRp.out.below HA4.out)
  have HY5 := Lib.hid (HY.out.below (HB0.out.trans (HB5.out.mono HB0.out.size)))
  go_wp2_with (refine wpList_store_row rfl 26 (.tmp 12) (.tmp 42) rfl w4.heap.size p.cells rfl rfl 26 Go.Proofs.YtogcpommidfmnaaDoor.q0.cells (heap_alloc_last _ _) size26 rfl (Qf.oneCell _) ?_; rw [World.setRow_alloc_new])
  clear HA4
  generalize World.alloc w4 _ = w5 at *
  generalize w4.heap.size = hp at *
  refine (refread_all a1 len1 cap1 ys w5 HY5.out HLD.out h61').mono ?_
  rintro e w6 ⟨Aq, nq, cq, rfl, hR, hB⟩
  have HRq := Lib.hid hR
  have HB6 := Lib.hid (HB5.out.trans (hB.mono HB5.out.size))
  have HP6 := Lib.hid ((hB.block _ HZ5.out).trans HP5.out)
  have HZ6 := Lib.hid (Nat.lt_of_lt_of_le HZ5.out hB.size)
  have HRx6 := Lib.hid (HRx5.out.below hB)
  have HRy6 := Lib.hid (HRy5.out.below hB)
  have HRp6 := Lib.hid (HRp5.out.below hB)
  clear hR hB
  generalize hq : (outR ys len1).body Aq nq cq = q at *
  have HQ := Lib.hid hq
  clear hq
  have HD14 := Lib.hid (rd_all14 ys len1)
  have HSM := Lib.hid (show sameQ p q (outY ys len1) (outY ys len1) = true by rw [← HP.out, ← HQ.out]; exact body_same _ _ _ _ _ _ _ _)
  have HPA := Lib.hid (show p.A = Ap ∧ p.n = np ∧ q.A = Aq ∧ q.n = nq by rw [← HP.out, ← HQ.out]; exact ⟨rfl, rfl, rfl, rfl⟩)
  generalize rdB ys len1 = cd at *
  generalize outY ys len1 = us at *
  have HB7 := Lib.hid (HB6.out.alloc HB6.out.size (.cells q.cells 26))
  have HA6 := Lib.hid ((Below.refl w6.heap.size w6).alloc (Nat.le_refl _) (.cells q.cells 26))
  have HQ7 := Lib.hid (heap_alloc_last w6 (.cells q.cells 26))
  have HP7 := Lib.hid ((HA6.out.block _ HZ6.out).trans HP6.out)
  have HZ7 := Lib.hid (show w6.heap.size < (w6.alloc (.cells q.cells 26)).heap.size by simp)
  have HX7 := Lib.hid (Nat.lt_of_lt_of_le HZ6.out HA6.out.size)
  have HRx7 := Lib.hid (HRx6.out.below HA6.out)
  have HRy7 := Lib.hid (HRy6.out.below HA6.out)
  have HRp7 := Lib.hid (HRp6.out.below HA6.out)
  have HRq7 := Lib.hid (HRq.out.below HA6.out)
  go_wp2_with (refine wpList_store_row rfl 26 (.tmp 14) (.tmp 47) rfl w6.heap.size q.cells rfl rfl 26 Go.Proofs.YtogcpommidfmnaaDoor.q0.cells (heap_alloc_last _ _) size26 rfl (Qf.oneCell _) ?_; rw [World.setRow_alloc_new])
  clear HA6
  generalize World.alloc w6 _ = w7 at *
  generalize w6.heap.size = hq at *
  refine (same_any Ax Ay nx cx ny cy zs zs w7 HRx7.out HRy7.out).mono ?_
  rintro e w8 ⟨rfl, m, rfl⟩
  rw [sameB_refl]
  have HS8 := Lib.hid (show Sent (w7.drewN m) E S14 from (HS.out.below (HB0.out.trans (HB7.out.mono HB0.out.size))).drewN m)
  have HB8 := Lib.hid (below_drewN HB7.out m)
  have HP8 := Lib.hid (show (w7.drewN m).heap[hp]? = _ from HP7.out)
  have HQ8 := Lib.hid (show (w7.drewN m).heap[hq]? = _ from HQ7.out)
  have HX8 := Lib.hid (show hp < (w7.drewN m).heap.size from HX7.out)
  have HZ8 := Lib.hid (show hq < (w7.drewN m).heap.size from HZ7.out)
  have HRp8 := Lib.hid (HRp7.out.drewN m)
  have HRq8 := Lib.hid (HRq7.out.drewN m)
  generalize World.drewN w7 m = w8 at *
  go_wp2_with (fail)
  rw [← HVE.out]
  refine (is_any E cb cb w8 HS8.out HC14.out).mono ?_
  rintro e w9 ⟨rfl, hB⟩
  rw [show ((cb : Int) == (cb : Int)) = true by simp]
  have HB9 := Lib.hid (HB8.out.trans (hB.mono HB8.out.size))
  have HS9 := Lib.hid (HS8.out.below hB)
  have HP9 := Lib.hid ((hB.block _ HX8.out).trans HP8.out)
  have HQ9 := Lib.hid ((hB.block _ HZ8.out).trans HQ8.out)
  have HRp9 := Lib.hid (HRp8.out.below hB)
  have HRq9 := Lib.hid (HRq8.out.below hB)
  clear hB
  go_wp2_with (first
    | (refine wpList_load_if (by rfl) 26 (.tmp 12) rfl hp rfl 26 p.cells (0, 0) _ HP9.out Tryd.underlying26 rfl size26 ?_)
    | (refine wpList_load_if (by rfl) 26 (.tmp 14) rfl hq rfl 26 q.cells (0, 0) _ HQ9.out Tryd.underlying26 rfl size26 ?_))
  refine (sameQ_any p q us us _ (by rw [HPA.out.1, HPA.out.2.1]; exact HRp9.out) (by rw [HPA.out.2.2.1, HPA.out.2.2.2]; exact HRq9.out)).mono ?_
  rintro e w10 ⟨rfl, hB⟩
  rw [HSM.out]
  have HBA := Lib.hid (HB9.out.trans (hB.mono HB9.out.size))
  have HSA := Lib.hid (HS9.out.below hB)
  clear hB
  go_wp2_with (fail)
  rw [← HVG.out]
  refine (is_any E cd cd w10 HSA.out HD14.out).mono ?_
  rintro e w11 ⟨rfl, hB⟩
  rw [show ((cd : Int) == (cd : Int)) = true by simp]
  have HBB := Lib.hid (HBA.out.trans (hB.mono HBA.out.size))
  clear hB
  go_wp2_with (fail)
  have hk := and_low n2
  have y1 : IntKind.i64.wrap (26 + bits .and .i64 n2 65535) = 26 + bits .and .i64 n2 65535 := IntWalk.i64_in _ ⟨by omega, by omega⟩
  refine (len_any (bits .and .i64 n2 65535) w11 (by omega) (by omega)).mono ?_
  rintro e w12 ⟨rfl, rfl⟩
  rw [show 26 + max (bits .and .i64 n2 65535) 0 = 26 + bits .and .i64 n2 65535 by omega]
  go_wp2_with (fail)
  refine (len_any (-1) w11 (by omega) (by omega)).mono ?_
  rintro e w13 ⟨rfl, rfl⟩
  rw [show 26 + max (-1 : Int) 0 = 26 by omega]
  go_wp2
  go_ret
  exact ⟨rfl, HB0.out.trans (HBB.out.mono HB0.out.size)⟩

end Go.Proofs.YtogcpommidfmnaaDoor.qosSays
