/-
  The walk of muezzin/muezzinlaw20.SchedWeights: the Go text returns true.
-/
import Derived.Test.YtkmblmnffnhpmaaDoorSchedF
import Derived.Test.YtkmblmnffnhpmaaDoorNum
import Derived.LoopTactic
import Derived.Lib.MinMax
import Derived.Deep.CutRange
import Derived.Deep.CutBlock
import Derived.WalkKit
import Derived.ProofKit
import Derived.Below
namespace Go.Proofs.YtkmblmnffnhpmaaDoor.schedWeights
open Go.ChangeShapes Go.WideShapes Go.ChangeAt Go.RowKit Go.Deep
set_option linter.unusedVariables false
set_option linter.unusedSimpArgs false

open Go.Proofs.YtkmblmnffnhpmaaDoor

theorem row_two (w : World) (a b : Int) (ha : -9223372036854775808 ≤ a ∧ a ≤ 9223372036854775807) (hb : -9223372036854775808 ≤ b ∧ b ≤ 9223372036854775807) : RowB .i64 (w.alloc (Obj.cells #[.int .i64 a, .int .i64 b] 3 (0, 0))) (some ⟨w.heap.size, 0, none⟩) 2 [a, b] :=
  ⟨rfl, by unfold maxLen; omega, fun i hi => by
    match i, hi with
    | 0, _ => simpa [Lit.wf, IntKind.min, IntKind.max, IntKind.signed, IntKind.bits] using ha
    | 1, _ => simpa [Lit.wf, IntKind.min, IntKind.max, IntKind.signed, IntKind.bits] using hb
    | n + 2, h => exact absurd h (by omega), fun _ => ⟨w.heap.size, 0, rfl, fun i hi => by
    match i, hi with
    | 0, _ => rw [World.cell?_alloc_new]; rfl
    | 1, _ => rw [World.cell?_alloc_new]; rfl
    | n + 2, h => exact absurd h (by omega)⟩⟩
theorem wt_in {n : Nat} (h : 1 ≤ n ∧ n ≤ 100) : wtT (n : Int) = true := by unfold wtT; simp; omega
def wl (A B X Y : Nat) (p q : Bool) : List Tu := [⟨4, A, X, p⟩, ⟨9, B, Y, q⟩]
theorem w_add1 {A : Nat} (h : 1 ≤ A ∧ A ≤ 100) : addT [] 4 (A : Int) = ([⟨4, A, 0, false⟩], 0) := by
  unfold addT
  rw [if_pos ⟨show aidT 4 = true from rfl, wt_in h⟩, Int.toNat_natCast]
  rfl
theorem w_add2 {A B : Nat} (h : 1 ≤ B ∧ B ≤ 100) : addT [⟨4, A, 0, false⟩] 9 (B : Int) = (wl A B 0 0 false false, 0) := by
  unfold addT
  rw [if_pos ⟨show aidT 9 = true from rfl, wt_in h⟩, Int.toNat_natCast]
  rfl
theorem w_act1 (A B : Nat) : actT (wl A B 0 0 false false) 4 true = (wl A B 0 0 true false, 0) := rfl
theorem w_act2 (A B : Nat) : actT (wl A B 0 0 true false) 9 true = (wl A B 0 0 true true, 0) := rfl
theorem air_in {n : Nat} (h : n < 1048576) : airT (n : Int) = true := by unfold airT; simp; omega
theorem tm_in {t x A n X : Nat} {on : Bool} (h : n < 1048576) (ht : t ≤ 10485760000) (hX : X = 10000 * n / A) : tmT ⟨x, A, t, on⟩ n = t + X := by
  unfold tmT
  show min (t + 10000 * n / A) _ = _
  rw [← hX]
  have : X ≤ 10000 * n := by rw [hX]; exact Nat.div_le_self _ _
  omega
theorem w_ch1 {A B X Y t n : Nat} (h : n < 1048576) (ht : t ≤ 10485760000) (hX : X = 10000 * n / A) : chT (wl A B t Y true true) 4 (n : Int) = (wl A B (t + X) Y true true, 0) := by
  unfold chT
  rw [if_pos (show hasT (wl A B t Y true true) 4 = true from rfl), if_pos (air_in h), Int.toNat_natCast]
  exact congrArg (fun z => (([⟨4, A, z, true⟩, ⟨9, B, Y, true⟩] : List Tu), 0)) (tm_in h ht hX)
theorem w_ch2 {A B X Y n : Nat} (h : n < 1048576) (hY : Y = 10000 * n / B) : chT (wl A B X 0 true true) 9 (n : Int) = (wl A B X Y true true, 0) := by
  unfold chT
  rw [if_pos (show hasT (wl A B X 0 true true) 9 = true from rfl), if_pos (air_in h), Int.toNat_natCast]
  exact congrArg (fun z => (([⟨4, A, X, true⟩, ⟨9, B, z, true⟩] : List Tu), 0)) ((tm_in (t := 0) h (by omega) hY).trans (Nat.zero_add _))
theorem w_weigh {A B C X Y : Nat} (h : 1 ≤ C ∧ C ≤ 100) : weighT (wl A B X Y true true) 4 (C : Int) = (wl C B X Y true true, 0) := by
  unfold weighT
  rw [if_pos (show hasT (wl A B X Y true true) 4 = true from rfl), if_pos (wt_in h), Int.toNat_natCast]
  rfl
theorem w_time4 (A B X Y : Nat) : timeT (wl A B X Y true true) 4 = (X, true) := rfl
theorem w_time9 (A B X Y : Nat) : timeT (wl A B X Y true true) 9 = (Y, true) := rfl
theorem w_ord1 {A B X Y : Nat} (h : ¬ Y < X) : ordI (wl A B X Y true true) = [4, 9] := by
  have hl : leT ⟨4, A, X, true⟩ ⟨9, B, Y, true⟩ := by unfold leT; dsimp only; omega
  have e : orderT [] (wl A B X Y true true) = putT [⟨4, A, X, true⟩] ⟨9, B, Y, true⟩ := rfl
  unfold ordI
  rw [e]
  unfold putT
  rw [List.takeWhile_cons_of_pos (by simpa using hl), List.dropWhile_cons_of_pos (by simpa using hl)]
  rfl
theorem w_ord2 {A B X Y : Nat} (h : Y < X) : ordI (wl A B X Y true true) = [9, 4] := by
  have hl : ¬ leT ⟨4, A, X, true⟩ ⟨9, B, Y, true⟩ := by unfold leT; dsimp only; omega
  have e : orderT [] (wl A B X Y true true) = putT [⟨4, A, X, true⟩] ⟨9, B, Y, true⟩ := rfl
  unfold ordI
  rw [e]
  unfold putT
  rw [List.takeWhile_cons_of_neg (by simpa using hl), List.dropWhile_cons_of_neg (by simpa using hl)]
  rfl
theorem w_no5 (A B X Y : Nat) : weighT (wl A B X Y true true) 5 1 = (wl A B X Y true true, 107) := rfl
theorem w_no101 (A B X Y : Nat) : weighT (wl A B X Y true true) 4 101 = (wl A B X Y true true, 103) := rfl
theorem w_nom1 (A B X Y : Nat) : chT (wl A B X Y true true) 4 (-1) = (wl A B X Y true true, 103) := rfl
theorem m_one {n : Nat} (h : n < 1048576) : IntKind.i64.wrap (10000 * (n : Int)) = 10000 * (n : Int) := IntWalk.i64_in _ ⟨by omega, by omega⟩
theorem m_two {X Z : Nat} (h : X ≤ 10485760000) (h2 : Z ≤ 10485760000) : IntKind.i64.wrap ((X : Int) + (Z : Int)) = (X : Int) + (Z : Int) := IntWalk.i64_in _ ⟨by omega, by omega⟩
theorem q_nums {n A X : Nat} (h : n < 1048576) (hX : X = 10000 * n / A) : (10000 * (n : Int)).tdiv (A : Int) = (X : Int) ∧ wrap64 (X : Int) = (X : Int) ∧ IntKind.i64.wrap (X : Int) = (X : Int) ∧ X ≤ 10485760000 := by
  have e : (10000 * (n : Int)) = ((10000 * n : Nat) : Int) := by omega
  have hb : X ≤ 10000 * n := by rw [hX]; exact Nat.div_le_self _ _
  refine ⟨?_, ?_, ?_, by omega⟩
  · rw [e, Int.tdiv_eq_ediv_of_nonneg (by omega), hX]
    exact (Int.natCast_ediv _ _).symm
  · clear e hX; unfold wrap64; omega
  · clear e hX; exact IntWalk.i64_in _ ⟨by omega, by omega⟩

/-! ### THE WALK -/
set_option maxRecDepth 100000 in
set_option maxHeartbeats 8000000 in
theorem walk (n0 : Int) (n1 : Int) (n2 : Int) (n3 : Int) (w : World) (E : Nat → Addr) (hS : Sent w E [101, 102, 103, 104, 105, 106, 107, 108, 109, 110, 111, 112, 113, 114]) (w0 : (Lit.int .i64 n0).wf = true) (w1 : (Lit.int .i64 n1).wf = true) (w2 : (Lit.int .i64 n2).wf = true) (w3 : (Lit.int .i64 n3).wf = true) :
    Calls Tryd.prog 6 #[.int .i64 n0, .int .i64 n1, .int .i64 n2, .int .i64 n3] w fun e w' => e = .returned (.bool true) ∧ Below w.heap.size w w' := by
  have HS := Shut.mk hS
  have W0 := Shut.mk w0
  have W1 := Shut.mk w1
  have W2 := Shut.mk w2
  have W3 := Shut.mk w3
  clear hS w0 w1 w2 w3
  obtain ⟨A0, hA0⟩ : ∃ a : Nat, nmod n0 100 = (a : Int) := ⟨(nmod n0 100).toNat, by have := nmod_lo n0 100 (by decide); omega⟩
  have HEA := Shut.mk hA0
  have HBA := Shut.mk (show A0 < 100 by have := nmod_hi n0 100 (by decide); omega)
  clear hA0
  obtain ⟨B0, hB0⟩ : ∃ a : Nat, nmod n1 100 = (a : Int) := ⟨(nmod n1 100).toNat, by have := nmod_lo n1 100 (by decide); omega⟩
  have HEB := Shut.mk hB0
  have HBB := Shut.mk (show B0 < 100 by have := nmod_hi n1 100 (by decide); omega)
  clear hB0
  obtain ⟨C0, hC0⟩ : ∃ a : Nat, nmod n2 100 = (a : Int) := ⟨(nmod n2 100).toNat, by have := nmod_lo n2 100 (by decide); omega⟩
  have HEC := Shut.mk hC0
  have HBC := Shut.mk (show C0 < 100 by have := nmod_hi n2 100 (by decide); omega)
  clear hC0
  obtain ⟨D0, hD0⟩ : ∃ a : Nat, nmod n3 1048576 = (a : Int) := ⟨(nmod n3 1048576).toNat, by have := nmod_lo n3 1048576 (by decide); omega⟩
  have HED := Shut.mk hD0
  have HBD := Shut.mk (show D0 < 1048576 by have := nmod_hi n3 1048576 (by decide); omega)
  clear hD0
  obtain ⟨A, hA⟩ : ∃ A, A = A0 + 1 := ⟨_, rfl⟩
  obtain ⟨B, hB⟩ : ∃ B, B = B0 + 1 := ⟨_, rfl⟩
  obtain ⟨C, hC⟩ : ∃ C, C = C0 + 1 := ⟨_, rfl⟩
  obtain ⟨n, hn⟩ : ∃ n, n = D0 := ⟨_, rfl⟩
  have HA := Shut.mk (show 1 ≤ A ∧ A ≤ 100 by have := HBA.out; omega)
  have HBW := Shut.mk (show 1 ≤ B ∧ B ≤ 100 by have := HBB.out; omega)
  have HC := Shut.mk (show 1 ≤ C ∧ C ≤ 100 by have := HBC.out; omega)
  have HN := Shut.mk (show n < 1048576 by have := HBD.out; omega)
  have ya : IntKind.i64.wrap ((A0 : Int) + 1) = (A : Int) := by have := HBA.out; rw [IntWalk.i64_in _ ⟨by omega, by omega⟩]; omega
  have yb : IntKind.i64.wrap ((B0 : Int) + 1) = (B : Int) := by have := HBB.out; rw [IntWalk.i64_in _ ⟨by omega, by omega⟩]; omega
  have yc : IntKind.i64.wrap ((C0 : Int) + 1) = (C : Int) := by have := HBC.out; rw [IntWalk.i64_in _ ⟨by omega, by omega⟩]; omega
  obtain ⟨X, hX⟩ : ∃ X, X = 10000 * n / A := ⟨_, rfl⟩
  obtain ⟨dx_, wx, kx, bx⟩ := q_nums HN.out hX
  have HX := Shut.mk (show X = 10000 * n / A ∧ X ≤ 10485760000 from ⟨hX, bx⟩)
  clear hX
  obtain ⟨Y, hY⟩ : ∃ Y, Y = 10000 * n / B := ⟨_, rfl⟩
  obtain ⟨dy_, wy, ky, by_⟩ := q_nums HN.out hY
  have HY := Shut.mk hY
  clear hY
  obtain ⟨Z, hZ⟩ : ∃ Z, Z = 10000 * n / C := ⟨_, rfl⟩
  obtain ⟨dz_, wz, kz, bz⟩ := q_nums HN.out hZ
  have HZ := Shut.mk hZ
  clear hZ
  have HDX := Shut.mk dx_
  have HDY := Shut.mk dy_
  have HDZ := Shut.mk dz_
  clear dx_ dy_ dz_
  have HXZ := Shut.mk (show X ≤ 10485760000 ∧ Z ≤ 10485760000 from ⟨bx, bz⟩)
  have m1 := m_one HN.out
  have m2 := m_two HXZ.out.1 HXZ.out.2
  have a0 : ¬ A = 0 := by have := HA.out; omega
  have b0 : ¬ B = 0 := by have := HBW.out; omega
  have c0 : ¬ C = 0 := by have := HC.out; omega
  have HEN := Shut.mk hn
  clear hA hB hC bx by_ bz hn
  go_enter Tryd.func6, Tryd.ntmps6
  go_wp2_with (fail)
  refine (first_any w E HS.out (by decide) (by decide) (by decide)).mono ?_
  rintro x wa ⟨rfl, hBa⟩
  have HBa := Shut.mk hBa
  clear hBa
  go_wp2_with (fail)
  refine (number_any n0 100 wa W0.out (by decide) (by decide)).mono ?_
  rintro x wn ⟨rfl, rfl⟩
  rw [HEA.out]
  go_wp2_with (fail)
  refine (number_any n1 100 wa W1.out (by decide) (by decide)).mono ?_
  rintro x wn ⟨rfl, rfl⟩
  rw [HEB.out]
  go_wp2_with (fail)
  refine (number_any n2 100 wa W2.out (by decide) (by decide)).mono ?_
  rintro x wn ⟨rfl, rfl⟩
  rw [HEC.out]
  go_wp2_with (fail)
  refine (number_any n3 1048576 wa W3.out (by decide) (by decide)).mono ?_
  rintro x wn ⟨rfl, rfl⟩
  rw [HED.out, ← HEN.out]
  clear W0 W1 W2 W3 HEA HEB HEC HED HEN HBA HBB HBC HBD ya yb yc
  go_wp2_with (fail)
  refine (new_l HBa.out).mono ?_
  rintro x wb ⟨S, g, rfl, hl, hb, hs⟩
  have HL0 := Shut.mk hl
  clear hl hb hs
  go_wp2_with (fail)
  refine (add_l HL0.out (by decide) HS.out (by decide) (by decide) 4 (A : Int)).mono ?_
  rintro x wc ⟨rfl, hst⟩
  rw [w_add1 HA.out] at hst ⊢
  obtain ⟨HL1S, hl, ho, hf⟩ := hst
  rw [errV_zero]
  have HL1 := Shut.mk hl
  clear hl ho hf HL0
  go_wp2_with (fail)
  refine (add_l HL1.out (by show 1 ≤ 800; decide) HS.out (by decide) (by decide) 9 (B : Int)).mono ?_
  rintro x wd ⟨rfl, hst⟩
  rw [w_add2 HBW.out] at hst ⊢
  obtain ⟨HL2S, hl, ho, hf⟩ := hst
  rw [errV_zero]
  have HL2 := Shut.mk hl
  clear hl ho hf HL1
  go_wp2_with (fail)
  refine (active_l HL2.out HS.out (by decide) 4 true).mono ?_
  rintro x we ⟨rfl, hst⟩
  rw [w_act1] at hst ⊢
  obtain ⟨HL3S, hl, ho, hf⟩ := hst
  rw [errV_zero]
  have HL3 := Shut.mk hl
  clear hl ho hf HL2
  go_wp2_with (fail)
  refine (active_l HL3.out HS.out (by decide) 9 true).mono ?_
  rintro x wf ⟨rfl, hst⟩
  rw [w_act2] at hst ⊢
  obtain ⟨HL4S, hl, ho, hf⟩ := hst
  rw [errV_zero]
  have HL4 := Shut.mk hl
  clear hl ho hf HL3
  go_wp2_with (fail)
  refine (charge_l HL4.out HS.out (by decide) (by decide) 4 (n : Int)).mono ?_
  rintro x wg ⟨rfl, hst⟩
  rw [w_ch1 HN.out (Nat.zero_le _) HX.out.1] at hst ⊢
  obtain ⟨HL5S, hl, ho, hf⟩ := hst
  rw [errV_zero]
  have HL5 := Shut.mk hl
  clear hl ho hf HL4
  rw [Nat.zero_add] at HL5
  go_wp2_with (fail)
  refine (charge_l HL5.out HS.out (by decide) (by decide) 9 (n : Int)).mono ?_
  rintro x wh ⟨rfl, hst⟩
  rw [w_ch2 HN.out HY.out] at hst ⊢
  obtain ⟨HL6S, hl, ho, hf⟩ := hst
  rw [errV_zero]
  have HL6 := Shut.mk hl
  clear hl ho hf HL5
  go_wp2_with (fail)
  refine (time_l HL6.out 4).mono ?_
  rintro x ws ⟨rfl, hl, hb⟩
  rw [w_time4]
  have HL7 := Shut.mk hl
  clear hl hb HL6
  go_wp2_with (fail)
  refine (time_l HL7.out 9).mono ?_
  rintro x wt ⟨rfl, hl, hb⟩
  rw [w_time9]
  have HL8 := Shut.mk hl
  clear hl hb HL7
  obtain ⟨T6, HT6⟩ : ∃ T6, Shut (LawS w wt T6 g (wl A B X Y true true)) := ⟨_, HL8⟩
  have HL6 := HT6
  clear HL8 HT6
  by_cases hYX : Y < X
  · have hyx : (Y : Int) < (X : Int) := by omega
    have HCH := Shut.mk (((Below.refl wt.heap.size wt).alloc (Nat.le_refl _) (Obj.cells #[.int .i64 4, .int .i64 9] 3 (0, 0))).alloc (by simp) (Obj.cells #[.int .i64 9, .int .i64 4] 3 (0, 0)))
    have HRW := Shut.mk (row_two (wt.alloc (Obj.cells #[.int .i64 4, .int .i64 9] 3 (0, 0))) 9 4 (by decide) (by decide))
    have HLW := Shut.mk (HL6.out.quiet HCH.out)
    have HNS := Shut.mk (show ¬ T6 (wt.alloc (Obj.cells #[.int .i64 4, .int .i64 9] 3 (0, 0))).heap.size from fun e => by have h := HL6.out.there _ e; simp at h; omega)
    obtain ⟨gw, hgw⟩ : ∃ gw, gw = (wt.alloc (Obj.cells #[.int .i64 4, .int .i64 9] 3 (0, 0))).heap.size := ⟨_, rfl⟩
    have HGW := Shut.mk hgw
    rw [← hgw] at HRW HNS
    have HGL := Shut.mk (show gw < ((wt.alloc (Obj.cells #[.int .i64 4, .int .i64 9] 3 (0, 0))).alloc (Obj.cells #[.int .i64 9, .int .i64 4] 3 (0, 0))).heap.size by rw [hgw]; simp)
    clear HCH HL6
    go_wp2_with (fail)
    obtain ⟨wu, hwu⟩ : ∃ wu, wu = ((wt.alloc (Obj.cells #[.int .i64 4, .int .i64 9] 3 (0, 0))).alloc (Obj.cells #[.int .i64 9, .int .i64 4] 3 (0, 0))) := ⟨_, rfl⟩
    rw [← hwu] at HRW HLW HGL ⊢
    rw [show wt.heap.size + 1 = gw by rw [HGW.out]; simp]
    clear hwu hgw HGW
    refine (order_l HLW.out).mono ?_
    rintro x w7 ⟨A7, c7, rfl, hr, hp, T7, hl, ho, hf, hq⟩
    rw [w_ord2 hYX] at hr ⊢
    have HR7 := Shut.mk hr
    have HP7 := Shut.mk (show (∀ p, A7 = some p → p.block < w7.heap.size ∧ ¬ T7 p.block) from fun p hp' => ⟨by
      obtain ⟨b7, o7, e7, hel⟩ := hr.el 0 (by decide)
      have e8 := hp'
      rw [e7] at e8
      cases e8
      exact cell_lt' hel, hq p hp'⟩)
    have HW7 := Shut.mk (show RowB .i64 w7 (some ⟨gw, 0, none⟩) 2 [9, 4] ∧ gw < w7.heap.size ∧ ¬ T7 gw from ⟨HRW.out.only ho (fun p e => by cases e; exact HNS.out), Nat.lt_of_lt_of_le HGL.out ho.size, fun e => (hf gw e).elim HNS.out (fun h => absurd h (by have := HGL.out; omega))⟩)
    have HL7 := Shut.mk hl
    clear hr hp hl ho hf hq HRW HNS HGL HLW
    go_wp2_with (fail)
    refine (weigh_l HL7.out HS.out (by decide) (by decide) 4 (C : Int)).mono ?_
    rintro x w8 ⟨rfl, hst⟩
    rw [w_weigh HC.out] at hst ⊢
    obtain ⟨T8, hl, ho, hf⟩ := hst
    rw [errV_zero]
    have HL8 := Shut.mk hl
    have HR8 := Shut.mk (show RowB .i64 w8 A7 2 [9, 4] ∧ (∀ p, A7 = some p → p.block < w8.heap.size ∧ ¬ T8 p.block) from ⟨HR7.out.only ho (fun p e => (HP7.out p e).2), fun p e => ⟨Nat.lt_of_lt_of_le (HP7.out p e).1 ho.size, fun t => (hf _ t).elim (HP7.out p e).2 (fun h => absurd h (by have := (HP7.out p e).1; omega))⟩⟩)
    have HW8 := Shut.mk (show RowB .i64 w8 (some ⟨gw, 0, none⟩) 2 [9, 4] ∧ gw < w8.heap.size ∧ ¬ T8 gw from ⟨HW7.out.1.only ho (fun p e => by cases e; exact HW7.out.2.2), Nat.lt_of_lt_of_le HW7.out.2.1 ho.size, fun t => (hf _ t).elim HW7.out.2.2 (fun h => absurd h (by have := HW7.out.2.1; omega))⟩)
    clear hl ho hf HL7 HR7 HP7 HW7
    go_wp2_with (fail)
    refine (charge_l HL8.out HS.out (by decide) (by decide) 4 (n : Int)).mono ?_
    rintro x w9 ⟨rfl, hst⟩
    rw [w_ch1 HN.out HX.out.2 HZ.out] at hst ⊢
    obtain ⟨T9, hl, ho, hf⟩ := hst
    rw [errV_zero]
    have HL9 := Shut.mk hl
    have HR9 := Shut.mk (HR8.out.1.only ho (fun p e => (HR8.out.2 p e).2))
    have HW9 := Shut.mk (HW8.out.1.only ho (fun p e => by cases e; exact HW8.out.2.2))
    clear hl ho hf HL8 HR8 HW8
    go_wp2_with (fail)
    refine (time_l HL9.out 4).mono ?_
    rintro x w10 ⟨rfl, hl, hb⟩
    rw [w_time4]
    have HL10 := Shut.mk hl
    have HR10 := Shut.mk (HR9.out.below hb)
    have HW10 := Shut.mk (HW9.out.below hb)
    clear hl hb HL9 HR9 HW9
    have dx := HDX.out
    have dy := HDY.out
    have dz := HDZ.out
    go_wp2_with (fail)
    refine (sameInts_any A7 (some ⟨gw, 0, none⟩) 2 c7 2 2 [9, 4] [9, 4] _ HR10.out HW10.out).mono ?_
    rintro x w11 ⟨rfl, nn, rfl⟩
    rw [show sameB ([9, 4] : List Int) [9, 4] = true from rfl]
    have HL11 := Shut.mk (HL10.out.quiet (below_drewN (Below.refl _ _) nn))
    generalize World.drewN w10 nn = w11 at *
    clear HL10 HR10 HW10
    go_wp2_with (fail)
    refine (weigh_l HL11.out HS.out (by decide) (by decide) 5 1).mono ?_
    rintro x w12 ⟨rfl, hst⟩
    rw [w_no5] at hst ⊢
    obtain ⟨HL12S, hl, ho, hf⟩ := hst
    have HL12 := Shut.mk hl
    clear hl ho hf HL11
    go_wp2_with (fail)
    refine (is_any E 107 107 w12 (HS.out.below HL12.out.bel) (.inr (by decide))).mono ?_
    rintro x w13 ⟨rfl, hb⟩
    have HL13 := Shut.mk (HL12.out.quiet hb)
    clear hb HL12
    go_wp2_with (fail)
    refine (weigh_l HL13.out HS.out (by decide) (by decide) 4 101).mono ?_
    rintro x w14 ⟨rfl, hst⟩
    rw [w_no101] at hst ⊢
    obtain ⟨HL14S, hl, ho, hf⟩ := hst
    have HL14 := Shut.mk hl
    clear hl ho hf HL13
    go_wp2_with (fail)
    refine (is_any E 103 103 w14 (HS.out.below HL14.out.bel) (.inr (by decide))).mono ?_
    rintro x w15 ⟨rfl, hb⟩
    have HL15 := Shut.mk (HL14.out.quiet hb)
    clear hb HL14
    go_wp2_with (fail)
    refine (charge_l HL15.out HS.out (by decide) (by decide) 4 (-1)).mono ?_
    rintro x w16 ⟨rfl, hst⟩
    rw [w_nom1] at hst ⊢
    obtain ⟨HL16S, hl, ho, hf⟩ := hst
    have HL16 := Shut.mk hl
    clear hl ho hf HL15
    go_wp2_with (fail)
    refine (is_any E 103 103 w16 (HS.out.below HL16.out.bel) (.inr (by decide))).mono ?_
    rintro x w17 ⟨rfl, hb⟩
    have HL17 := Shut.mk (HL16.out.quiet hb)
    clear hb HL16
    go_wp2_with (fail)
    go_ret
    exact ⟨rfl, HL17.out.bel⟩
  · have hyx : ¬ (Y : Int) < (X : Int) := by omega
    have HCH := Shut.mk ((Below.refl wt.heap.size wt).alloc (Nat.le_refl _) (Obj.cells #[.int .i64 4, .int .i64 9] 3 (0, 0)))
    have HRW := Shut.mk (row_two wt 4 9 (by decide) (by decide))
    have HLW := Shut.mk (HL6.out.quiet HCH.out)
    have HNS := Shut.mk (show ¬ T6 wt.heap.size from fun e => by have h := HL6.out.there _ e; omega)
    obtain ⟨gw, hgw⟩ : ∃ gw, gw = wt.heap.size := ⟨_, rfl⟩
    have HGW := Shut.mk hgw
    rw [← hgw] at HRW HNS
    have HGL := Shut.mk (show gw < (wt.alloc (Obj.cells #[.int .i64 4, .int .i64 9] 3 (0, 0))).heap.size by rw [hgw]; simp)
    clear HCH HL6
    go_wp2_with (fail)
    obtain ⟨wu, hwu⟩ : ∃ wu, wu = (wt.alloc (Obj.cells #[.int .i64 4, .int .i64 9] 3 (0, 0))) := ⟨_, rfl⟩
    rw [← hwu] at HRW HLW HGL ⊢
    rw [← HGW.out]
    clear hwu hgw HGW
    refine (order_l HLW.out).mono ?_
    rintro x w7 ⟨A7, c7, rfl, hr, hp, T7, hl, ho, hf, hq⟩
    rw [w_ord1 hYX] at hr ⊢
    have HR7 := Shut.mk hr
    have HP7 := Shut.mk (show (∀ p, A7 = some p → p.block < w7.heap.size ∧ ¬ T7 p.block) from fun p hp' => ⟨by
      obtain ⟨b7, o7, e7, hel⟩ := hr.el 0 (by decide)
      have e8 := hp'
      rw [e7] at e8
      cases e8
      exact cell_lt' hel, hq p hp'⟩)
    have HW7 := Shut.mk (show RowB .i64 w7 (some ⟨gw, 0, none⟩) 2 [4, 9] ∧ gw < w7.heap.size ∧ ¬ T7 gw from ⟨HRW.out.only ho (fun p e => by cases e; exact HNS.out), Nat.lt_of_lt_of_le HGL.out ho.size, fun e => (hf gw e).elim HNS.out (fun h => absurd h (by have := HGL.out; omega))⟩)
    have HL7 := Shut.mk hl
    clear hr hp hl ho hf hq HRW HNS HGL HLW
    go_wp2_with (fail)
    refine (weigh_l HL7.out HS.out (by decide) (by decide) 4 (C : Int)).mono ?_
    rintro x w8 ⟨rfl, hst⟩
    rw [w_weigh HC.out] at hst ⊢
    obtain ⟨T8, hl, ho, hf⟩ := hst
    rw [errV_zero]
    have HL8 := Shut.mk hl
    have HR8 := Shut.mk (show RowB .i64 w8 A7 2 [4, 9] ∧ (∀ p, A7 = some p → p.block < w8.heap.size ∧ ¬ T8 p.block) from ⟨HR7.out.only ho (fun p e => (HP7.out p e).2), fun p e => ⟨Nat.lt_of_lt_of_le (HP7.out p e).1 ho.size, fun t => (hf _ t).elim (HP7.out p e).2 (fun h => absurd h (by have := (HP7.out p e).1; omega))⟩⟩)
    have HW8 := Shut.mk (show RowB .i64 w8 (some ⟨gw, 0, none⟩) 2 [4, 9] ∧ gw < w8.heap.size ∧ ¬ T8 gw from ⟨HW7.out.1.only ho (fun p e => by cases e; exact HW7.out.2.2), Nat.lt_of_lt_of_le HW7.out.2.1 ho.size, fun t => (hf _ t).elim HW7.out.2.2 (fun h => absurd h (by have := HW7.out.2.1; omega))⟩)
    clear hl ho hf HL7 HR7 HP7 HW7
    go_wp2_with (fail)
    refine (charge_l HL8.out HS.out (by decide) (by decide) 4 (n : Int)).mono ?_
    rintro x w9 ⟨rfl, hst⟩
    rw [w_ch1 HN.out HX.out.2 HZ.out] at hst ⊢
    obtain ⟨T9, hl, ho, hf⟩ := hst
    rw [errV_zero]
    have HL9 := Shut.mk hl
    have HR9 := Shut.mk (HR8.out.1.only ho (fun p e => (HR8.out.2 p e).2))
    have HW9 := Shut.mk (HW8.out.1.only ho (fun p e => by cases e; exact HW8.out.2.2))
    clear hl ho hf HL8 HR8 HW8
    go_wp2_with (fail)
    refine (time_l HL9.out 4).mono ?_
    rintro x w10 ⟨rfl, hl, hb⟩
    rw [w_time4]
    have HL10 := Shut.mk hl
    have HR10 := Shut.mk (HR9.out.below hb)
    have HW10 := Shut.mk (HW9.out.below hb)
    clear hl hb HL9 HR9 HW9
    have dx := HDX.out
    have dy := HDY.out
    have dz := HDZ.out
    go_wp2_with (fail)
    refine (sameInts_any A7 (some ⟨gw, 0, none⟩) 2 c7 2 2 [4, 9] [4, 9] _ HR10.out HW10.out).mono ?_
    rintro x w11 ⟨rfl, nn, rfl⟩
    rw [show sameB ([4, 9] : List Int) [4, 9] = true from rfl]
    have HL11 := Shut.mk (HL10.out.quiet (below_drewN (Below.refl _ _) nn))
    generalize World.drewN w10 nn = w11 at *
    clear HL10 HR10 HW10
    go_wp2_with (fail)
    refine (weigh_l HL11.out HS.out (by decide) (by decide) 5 1).mono ?_
    rintro x w12 ⟨rfl, hst⟩
    rw [w_no5] at hst ⊢
    obtain ⟨HL12S, hl, ho, hf⟩ := hst
    have HL12 := Shut.mk hl
    clear hl ho hf HL11
    go_wp2_with (fail)
    refine (is_any E 107 107 w12 (HS.out.below HL12.out.bel) (.inr (by decide))).mono ?_
    rintro x w13 ⟨rfl, hb⟩
    have HL13 := Shut.mk (HL12.out.quiet hb)
    clear hb HL12
    go_wp2_with (fail)
    refine (weigh_l HL13.out HS.out (by decide) (by decide) 4 101).mono ?_
    rintro x w14 ⟨rfl, hst⟩
    rw [w_no101] at hst ⊢
    obtain ⟨HL14S, hl, ho, hf⟩ := hst
    have HL14 := Shut.mk hl
    clear hl ho hf HL13
    go_wp2_with (fail)
    refine (is_any E 103 103 w14 (HS.out.below HL14.out.bel) (.inr (by decide))).mono ?_
    rintro x w15 ⟨rfl, hb⟩
    have HL15 := Shut.mk (HL14.out.quiet hb)
    clear hb HL14
    go_wp2_with (fail)
    refine (charge_l HL15.out HS.out (by decide) (by decide) 4 (-1)).mono ?_
    rintro x w16 ⟨rfl, hst⟩
    rw [w_nom1] at hst ⊢
    obtain ⟨HL16S, hl, ho, hf⟩ := hst
    have HL16 := Shut.mk hl
    clear hl ho hf HL15
    go_wp2_with (fail)
    refine (is_any E 103 103 w16 (HS.out.below HL16.out.bel) (.inr (by decide))).mono ?_
    rintro x w17 ⟨rfl, hb⟩
    have HL17 := Shut.mk (HL16.out.quiet hb)
    clear hb HL16
    go_wp2_with (fail)
    go_ret
    exact ⟨rfl, HL17.out.bel⟩

end Go.Proofs.YtkmblmnffnhpmaaDoor.schedWeights
