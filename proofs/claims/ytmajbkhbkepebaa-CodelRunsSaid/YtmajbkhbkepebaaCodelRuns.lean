/-
  muezzin/muezzinlaw11.CodelRuns returns true, for all arguments; no condition.
-/
import Derived.Test.YtmajbkhbkepebaaCodU
import Derived.Test.YtmajbkhbkepebaaOpenCd
import Derived.WalkKit
import Derived.ProofKit
import Derived.OpenShut
import Derived.ChangeOld
import Derived.Below
namespace Go.Proofs.Ytmajbkhbkepebaa.codelRuns
open Go.Deep Go.ChangeShapes Go.WideShapes Go.ChangeAt Go.RowKit
set_option linter.unusedVariables false
set_option linter.unusedSimpArgs false

theorem own : ownKnob Try.prog.godebug = none := by kernel_rfl
theorem laidOut : laidOutB Try.prog = true := by kernel_rfl

/-! ### THE WALK -/
set_option maxRecDepth 100000 in
set_option maxHeartbeats 8000000 in
theorem walk (a0 : Option Addr) (len0 cap0 : Nat) (l0 : List It) (a1 : Option Addr) (len1 cap1 : Nat) (z1 : List Int) (n2 : Int) (n3 : Int) (w : World) (w0 : RowS itC 2 it00 w a0 len0 l0 ∧ len0 ≤ cap0 ∧ ∀ u ∈ l0, okI u) (w1 : IsRow .i64 w a1 len1 cap1 z1) (w2 : (Lit.int .i64 n2).wf = true) (w3 : (Lit.int .i64 n3).wf = true) :
    Calls Try.prog 4 #[.slice a0 len0 cap0, .slice a1 len1 cap1, .int .i64 n2, .int .i64 n3] w fun e w' => e = .returned (.bool true) ∧ Below w.heap.size w w' := by
  have HL0 := Shut.mk w0.1
  have HO0 := Shut.mk w0.2.2
  have hm := w0.1.le
  have hmi : (len0 : Int) ≤ maxLen := by exact_mod_cast hm
  have HLE := Shut.mk w0.1.len
  have HZ0 := Shut.mk (RowB.of_row w1)
  have hm1 := HZ0.out.le
  have hmi1 : (len1 : Int) ≤ maxLen := by exact_mod_cast hm1
  generalize z1.take len1 = zs at *
  clear w0 w1 w2 w3
  go_enter Try.func4, Try.ntmps4
  go_wp2_with (fail)
  refine (first_any w).mono ?_
  rintro e w1 ⟨rfl, hB⟩
  have HB1 := Shut.mk hB
  have HL1 := Shut.mk (HL0.out.below hB)
  clear hB HL0
  by_cases g0 : (40 : Int) < (len0 : Int)
  · go_wp2
    go_ret
    exact ⟨rfl, HB1.out⟩
  by_cases g1 : (60 : Int) < (len1 : Int)
  · go_wp2
    go_ret
    exact ⟨rfl, HB1.out⟩
  by_cases g2 : n2 < 0
  · go_wp2
    go_ret
    exact ⟨rfl, HB1.out⟩
  by_cases g3 : 1073741824 < n2
  · go_wp2
    go_ret
    exact ⟨rfl, HB1.out⟩
  by_cases g4 : n3 < 0
  · go_wp2
    go_ret
    exact ⟨rfl, HB1.out⟩
  by_cases g5 : 1073741824 < n3
  · go_wp2
    go_ret
    exact ⟨rfl, HB1.out⟩
  go_wp2_with (fail)
  have RG : Shut (0 ≤ n2 ∧ n2 ≤ 1073741824 ∧ 0 ≤ n3 ∧ n3 ≤ 1073741824 ∧ len0 ≤ 40 ∧ len1 ≤ 60) := ⟨by omega⟩
  clear g0 g1 g2 g3 g4 g5
  go_loopw [10, 11, 12] (fun tn bt i wr => ∃ (k : Nat) (now : Int), i = .int .i64 (k : Nat) ∧ tn = .int .i64 now ∧ bt = .int .i64 (sumL (l0.take k)) ∧ wr = w1 ∧ k ≤ len0 ∧ 0 ≤ now ∧ now ≤ 1099511627776 ∧ (∀ x ∈ l0.take k, 0 ≤ x.at_ ∧ x.at_ ≤ now ∧ 0 ≤ x.len ∧ x.len ≤ 1048576)) (fun _ _ i _ => len0 - (intOf i).toNat)
  case atStart => exact ⟨0, 0, rfl, rfl, rfl, rfl, Nat.zero_le _, by omega, by omega, fun x hx => by rw [List.take_zero] at hx; cases hx⟩
  case round =>
    obtain ⟨k, now, rfl, rfl, rfl, rfl, hk, hn0, hn1, hC⟩ := hrel
    have HC := Shut.mk hC
    clear hC
    rcases Nat.lt_or_eq_of_le hk with hlt | hlt
    · obtain ⟨b0, off, rfl, hr⟩ := HL1.out.el k hlt
      have hkI : ((k : Nat) : Int) < (len0 : Int) := by exact_mod_cast hlt
      have y0 : IntKind.i64.wrap ((k : Int) + 1) = ((k + 1 : Nat) : Int) := by rw [IntWalk.i64_in _ ⟨by omega, by omega⟩]; omega
      have hkl : k < l0.length := by rw [HLE.out]; exact hlt
      have HTK : Shut (l0.take (k + 1) = l0.take k ++ [l0.getD k it00]) := ⟨by rw [List.take_succ_eq_append_getElem hkl, List.getD_eq_getElem?_getD, List.getElem?_eq_getElem hkl]; rfl⟩
      obtain ⟨x, hx⟩ : ∃ x, l0.getD k it00 = x := ⟨_, rfl⟩
      rw [hx] at hr HTK
      obtain ⟨xa, xl⟩ := x
      have c0 : wr.cell? ⟨b0, off + k * 2, none⟩ = some (.int .i64 xa) := by simpa using hr 0 _ rfl
      have c1 : wr.cell? ⟨b0, off + k * 2 + 1, none⟩ = some (.int .i64 xl) := by simpa using hr 1 _ rfl
      clear hr hx hkl
      by_cases g0 : xa < 0
      · go_wp2
        go_ret
        exact ⟨rfl, HB1.out⟩
      by_cases g1 : 1099511627776 < xa
      · go_wp2
        go_ret
        exact ⟨rfl, HB1.out⟩
      by_cases g2 : xl < 0
      · go_wp2
        go_ret
        exact ⟨rfl, HB1.out⟩
      by_cases g3 : 1048576 < xl
      · go_wp2
        go_ret
        exact ⟨rfl, HB1.out⟩
      obtain ⟨t2, ht2⟩ : ∃ t2 : Int, (if now < xa then xa else now) = t2 := ⟨_, rfl⟩
      have HT2 : Shut (now ≤ t2 ∧ xa ≤ t2 ∧ t2 ≤ 1099511627776) := ⟨by rw [← ht2]; split <;> omega⟩
      have hsb := sumL_in (l := l0.take k) (m := 1048576) (fun x hx => ⟨(HC.out x hx).2.2.1, (HC.out x hx).2.2.2⟩)
      have hlk : ((l0.take k).length : Int) ≤ 40 := by have := RG.out; rw [List.length_take]; omega
      obtain ⟨S, hS⟩ : ∃ S, sumL (l0.take k) = S := ⟨_, rfl⟩
      rw [hS] at hsb ⊢
      obtain ⟨S2, hS2⟩ : ∃ S2 : Int, S + xl = S2 := ⟨_, rfl⟩
      have y4 : IntKind.i64.wrap (S + xl) = S2 := by rw [hS2]; exact IntWalk.i64_in _ ⟨by omega, by omega⟩
      have HSX : Shut (sumL (l0.take (k + 1)) = S2) := ⟨by rw [HTK.out, sumL_snoc, hS]; exact hS2⟩
      have HN := Shut.mk hn0
      clear hS hS2 hsb hlk
      have HX : Shut (0 ≤ xa ∧ xa ≤ t2 ∧ 0 ≤ xl ∧ xl ≤ 1048576) := ⟨by have := HT2.out; omega⟩
      go_wp2
      go_roundw
      case rel => exact ⟨k + 1, t2, by go_num, rfl, by rw [HSX.out], by first | rfl | trivial, hlt, by have := HT2.out; have := HN.out; omega, HT2.out.2.2, fun x hx => by
        rw [HTK.out] at hx
        rcases List.mem_append.1 hx with h | h
        · have := HC.out x h
          have h2 := HT2.out
          exact ⟨this.1, by omega, this.2.2⟩
        · rw [List.mem_singleton.1 h]; exact HX.out⟩
      case measure => simp [intOf]; omega
    · obtain rfl : len0 = k := hlt.symm
      rw [List.take_of_length_le (by rw [HLE.out]; exact Nat.le_refl _)] at HC ⊢
      have H2 := Shut.mk (two_alloc wr (Obj.cells #[Value.int IntKind.i64 0, Value.int IntKind.i64 0, Value.int IntKind.u32 0, Value.int IntKind.u32 0, Value.bool false] 24 (0, 0)) (Obj.cells #[Value.int IntKind.i64 0, Value.int IntKind.i64 0, Value.int IntKind.u32 0, Value.int IntKind.u32 0, Value.bool false] 30 (0, 0)))
      have HBM := Shut.mk (HB1.out.trans (H2.out.1.mono HB1.out.size))
      have HLM := Shut.mk (HL1.out.below H2.out.1)
      have HGC := Shut.mk H2.out.2.1
      have HGX := Shut.mk H2.out.2.2.1
      go_upto_region 17 with fail
      generalize hw : (wr.alloc _).alloc _ = w3 at *
      clear hw
      have HW : Shut (w.heap.size ≤ wr.heap.size) := ⟨HB1.out.size⟩
      generalize hgx : wr.heap.size + 1 = gx at *
      generalize hgc : wr.heap.size = gc at *
      have HGG : Shut (gc ≠ gx ∧ w.heap.size ≤ gc ∧ w.heap.size ≤ gx) := ⟨by have := HW.out; omega⟩
      clear H2 hgx hgc HW
      go_wp2_with (refine app_fresh rfl (.tmp 103) (.tmp 104) rfl rfl a0 len0 cap0 l0 rfl HLM.out (by have := RG.out; omega) ?_)
      intro g0 cap w4 hg0 hr0 hcap hb
      have HB4 := Shut.mk (HBM.out.trans (hb.out.mono HBM.out.size))
      have HG0 : Shut (g0 ≠ gc ∧ g0 ≠ gx) := ⟨by have := lt_blk HGC.out; have := lt_blk HGX.out; have := hg0.out; omega⟩
      clear hg0
      have HC4 := Shut.mk ((hb.out.block gc (lt_blk HGC.out)).trans HGC.out)
      have HX4 := Shut.mk ((hb.out.block gx (lt_blk HGX.out)).trans HGX.out)
      have HI := Shut.mk (fun x hx => HC.out x hx)
      clear hb HBM HLM HGC HGX HB1 HL1 HC
      go_wp2_with (fail)
      go_loopw [10, 11, 15, 16] (fun tn bt rs i wq => ∃ (j m cap gr : Nat) (now f d : Int) (n la : Nat) (o : Bool) (xs : List It), i = .int .i64 (j : Nat) ∧ tn = .int .i64 now ∧ bt = .int .i64 (sumL xs) ∧ rs = .slice (some ⟨gr, 0, none⟩) m cap ∧ j ≤ len1 ∧ m ≤ 40 ∧ m ≤ cap ∧ RowS itC 2 it00 wq (some ⟨gr, 0, none⟩) m xs ∧ Below w.heap.size w wq ∧ (gr ≠ gc ∧ gr ≠ gx) ∧
          wq.heap[gc]? = some (Obj.cells #[Value.int IntKind.i64 f, Value.int IntKind.i64 d, Value.int IntKind.u32 (n : Nat), Value.int IntKind.u32 (la : Nat), Value.bool o] 24 (0, 0)) ∧ wq.heap[gx]? = some (Obj.cells #[Value.int IntKind.i64 f, Value.int IntKind.i64 d, Value.int IntKind.u32 (n : Nat), Value.int IntKind.u32 (la : Nat), Value.bool o] 30 (0, 0)) ∧ 0 ≤ now ∧ now ≤ 1099511627776 + 1048576 * (j : Int) ∧ (∀ x ∈ xs, 0 ≤ x.at_ ∧ x.at_ ≤ now ∧ 0 ≤ x.len ∧ x.len ≤ 1048576) ∧ Kept 4398046511104 ⟨f, d, n, la, o⟩) (fun _ _ _ i _ => len1 - (intOf i).toNat)
      case atStart => exact ⟨0, len0, cap, g0, now, 0, 0, 0, 0, false, l0, rfl, rfl, rfl, rfl, Nat.zero_le _, by have := RG.out; omega, hcap.out, hr0.out, HB4.out, HG0.out, HC4.out, HX4.out, hn0, by omega, HI.out, ⟨by decide, by decide, by decide, by decide⟩⟩
      case round =>
        obtain ⟨j, mm, cp, gr, tn, f, d, n, la, o, xs, rfl, rfl, rfl, rfl, hj, hm40, hmc, hR, hB, hgr, hC, hX, hn0', hn1', hI, hK⟩ := hrel
        clear hr0 HB4 HG0 HC4 HX4 HI hcap
        have HR := Shut.mk hR
        have HB := Shut.mk hB
        have HZ := Shut.mk (HZ0.out.below hB)
        have HGR := Shut.mk hgr
        have HC := Shut.mk hC
        have HX := Shut.mk hX
        have HI := Shut.mk hI
        have HK := Shut.mk hK
        have HXL := Shut.mk hR.len
        have HMC := Shut.mk hmc
        have HM4 := Shut.mk hm40
        clear hR hB hgr hC hX hI hK hmc hm40
        have hsb := sumL_in (l := xs) (m := 1048576) (fun x hx => ⟨(HI.out x hx).2.2.1, (HI.out x hx).2.2.2⟩)
        have hlk : (xs.length : Int) ≤ 40 := by have := HM4.out; rw [HXL.out]; omega
        obtain ⟨S, hS⟩ : ∃ S, sumL xs = S := ⟨_, rfl⟩
        have HSE := Shut.mk hS
        rw [hS] at hsb ⊢
        have HSB : Shut (0 ≤ S ∧ S ≤ 1099510579200) := ⟨by omega⟩
        clear hS hsb hlk
        rcases Nat.lt_or_eq_of_le hj with hlj | hlj
        rotate_left
        · have hjq : (len1 : Int) ≤ (j : Int) := by omega
          obtain rfl : len1 = j := hlj.symm
          go_wp2
          go_ret
          exact ⟨rfl, HB.out⟩
        obtain ⟨b1, o1, hae, hcell⟩ := HZ.out.el j hlj
        have hwf : (Lit.int .i64 (zs.getD j 0)).wf = true := by simpa [Lit.wf] using HZ.out.wf j hlj
        subst hae
        have hjI : ((j : Nat) : Int) < (len1 : Int) := by exact_mod_cast hlj
        have y0 : IntKind.i64.wrap ((j : Int) + 1) = ((j + 1 : Nat) : Int) := by rw [IntWalk.i64_in _ ⟨by omega, by omega⟩]; omega
        generalize zs.getD j 0 = gv at *
        go_wp2_with (fail)
        refine (number_any gv 1048576 _ (by exact hwf) (by decide) (by decide)).mono ?_
        rintro e w5 ⟨rfl, rfl⟩
        have l2 := nmod_lo gv 1048576 (by decide)
        have u2 := nmod_hi gv 1048576 (by decide)
        generalize nmod gv 1048576 = gp at *
        obtain ⟨t2, ht2⟩ : ∃ t2 : Int, tn + gp = t2 := ⟨_, rfl⟩
        have y1 : IntKind.i64.wrap (tn + gp) = t2 := by have := RG.out; rw [ht2]; exact IntWalk.i64_in _ ⟨by omega, by omega⟩
        have HT : Shut (0 ≤ t2 ∧ t2 ≤ 1099511627776 + 1048576 * ((j + 1 : Nat) : Int) ∧ tn ≤ t2 ∧ t2 ≤ 2199023255552) := ⟨by have := RG.out; push_cast; omega⟩
        have HTB : Shut (0 ≤ t2 ∧ t2 ≤ 4503599627370496) := ⟨by have := HT.out; omega⟩
        clear hwf ht2 l2 u2 hn0' hn1' hcell HZ
        obtain ⟨R, hRR⟩ : ∃ R, pullR ⟨t2, clampR n2 0 1073741824, clampR n3 0 1073741824⟩ ⟨f, d, n, la, o⟩ S xs = R := ⟨_, rfl⟩
        have HP := Shut.mk hRR
        have HPB := Shut.mk (pull_bound ⟨t2, clampR n2 0 1073741824, clampR n3 0 1073741824⟩ ⟨f, d, n, la, o⟩ S xs)
        have HPK := Shut.mk (pull_kept (q := ⟨t2, clampR n2 0 1073741824, clampR n3 0 1073741824⟩) (M := 4398046511104) HT.out.1 (by show t2 + _ ≤ _; have := HT.out; omega) HK.out S xs)
        rw [hRR] at HPB HPK
        rw [HXL.out] at HPB
        clear hRR
        obtain ⟨⟨xf, xd, xn, xl, xo⟩, xk, xi⟩ := R
        have HII : Shut (∀ x ∈ xs, 0 ≤ x.at_ ∧ x.at_ ≤ 4503599627370496 ∧ x.len ≤ 1048576) := ⟨fun x hx => by have := HI.out x hx; have := HT.out; exact ⟨by omega, by omega, by omega⟩⟩
        go_wp2_with (first
          | (refine wpList_load_row rfl 24 (.tmp 13) rfl gc rfl 24 #[Value.int IntKind.i64 f, Value.int IntKind.i64 d, Value.int IntKind.u32 (n : Nat), Value.int IntKind.u32 (la : Nat), Value.bool o] (0, 0) _ HC.out Try.underlying24 rfl size1 ?_))
        refine (pull_any t2 n2 n3 S f d n la o _ mm cp xs _ HR.out (by have := HM4.out; omega) HTB.out (by have := HSB.out; omega) HII.out HK.out.1 HK.out.2.1 ⟨HK.out.2.2.1, Int.le_trans HK.out.2.2.2 (by decide)⟩ _ HP.out).mono ?_
        rintro e w6 ⟨rfl, hB⟩
        have HBn := Shut.mk (HB.out.trans (hB.mono HB.out.size))
        have HCn := Shut.mk ((hB.block gc (lt_blk HC.out)).trans HC.out)
        have HXn := Shut.mk ((hB.block gx (lt_blk HX.out)).trans HX.out)
        replace HR := Shut.mk (HR.out.below hB)
        clear hB HB HC HX
        have HB := HBn
        have HC := HCn
        have HX := HXn
        clear HBn HCn HXn
        dsimp only
        go_upto_region 23 with fail
        have hB0 := Below.refl w6.heap.size w6
        have hz0 : w6.heap.size = w6.heap.size := by simp
        have hB1 := hB0.alloc (by rw [hz0]; omega) (Obj.cells #[Value.int IntKind.i64 xf, Value.int IntKind.i64 xd, Value.int IntKind.u32 (xn : Nat), Value.int IntKind.u32 (xl : Nat), Value.bool xo] 24 (0, 0))
        have HBn := Shut.mk (HB.out.trans (hB1.mono HB.out.size))
        have HCn := Shut.mk ((hB1.block gc (lt_blk HC.out)).trans HC.out)
        have HXn := Shut.mk ((hB1.block gx (lt_blk HX.out)).trans HX.out)
        have HDn : Shut ((w6.alloc (Obj.cells #[Value.int IntKind.i64 xf, Value.int IntKind.i64 xd, Value.int IntKind.u32 (xn : Nat), Value.int IntKind.u32 (xl : Nat), Value.bool xo] 24 (0, 0))).heap[w6.heap.size]? = some (Obj.cells #[Value.int IntKind.i64 xf, Value.int IntKind.i64 xd, Value.int IntKind.u32 (xn : Nat), Value.int IntKind.u32 (xl : Nat), Value.bool xo] 24 (0, 0))) := ⟨by rw [← hz0]; exact heap_alloc_last _ _⟩
        replace HR := Shut.mk (HR.out.below hB1)
        generalize hw : w6.alloc _ = w7 at *
        clear hw hB0 hB1 hz0
        generalize hg : w6.heap.size = g17 at *
        clear hg
        clear HB HC HX
        have HB := HBn
        have HC := HCn
        have HX := HXn
        have HD := HDn
        clear HBn HCn HXn HDn
        go_wp2_with (first
          | (refine wpList_load_row rfl 30 (.tmp 14) rfl gx rfl 30 #[Value.int IntKind.i64 f, Value.int IntKind.i64 d, Value.int IntKind.u32 (n : Nat), Value.int IntKind.u32 (la : Nat), Value.bool o] (0, 0) _ HX.out Try.underlying30 rfl sizeRc' ?_))
        refine (refpull_any t2 n2 n3 S f d n la o _ mm cp xs _ HR.out (by have := HM4.out; omega) HTB.out (by have := HSB.out; omega) HII.out HK.out.1 HK.out.2.1 ⟨HK.out.2.2.1, Int.le_trans HK.out.2.2.2 (by decide)⟩ _ HP.out).mono ?_
        rintro e w8 ⟨rfl, hB⟩
        have HBn := Shut.mk (HB.out.trans (hB.mono HB.out.size))
        have HCn := Shut.mk ((hB.block gc (lt_blk HC.out)).trans HC.out)
        have HXn := Shut.mk ((hB.block gx (lt_blk HX.out)).trans HX.out)
        have HDn := Shut.mk ((hB.block g17 (lt_blk HD.out)).trans HD.out)
        replace HR := Shut.mk (HR.out.below hB)
        clear hB HB HC HX HD
        have HB := HBn
        have HC := HCn
        have HX := HXn
        have HD := HDn
        clear HBn HCn HXn HDn
        dsimp only
        go_upto_region 24 with fail
        have HNE : Shut (gc < w8.heap.size ∧ gx < w8.heap.size) := ⟨lt_blk HC.out, lt_blk HX.out⟩
        have hB0 := Below.refl w8.heap.size w8
        have hz0 : w8.heap.size = w8.heap.size := by simp
        have hB1 := hB0.alloc (by rw [hz0]; omega) (Obj.cells #[Value.int IntKind.i64 xf, Value.int IntKind.i64 xd, Value.int IntKind.u32 (xn : Nat), Value.int IntKind.u32 (xl : Nat), Value.bool xo] 30 (0, 0))
        have HBn := Shut.mk (HB.out.trans (hB1.mono HB.out.size))
        have HCn := Shut.mk ((hB1.block gc (lt_blk HC.out)).trans HC.out)
        have HXn := Shut.mk ((hB1.block gx (lt_blk HX.out)).trans HX.out)
        have HDn := Shut.mk ((hB1.block g17 (lt_blk HD.out)).trans HD.out)
        have HEn : Shut ((w8.alloc (Obj.cells #[Value.int IntKind.i64 xf, Value.int IntKind.i64 xd, Value.int IntKind.u32 (xn : Nat), Value.int IntKind.u32 (xl : Nat), Value.bool xo] 30 (0, 0))).heap[w8.heap.size]? = some (Obj.cells #[Value.int IntKind.i64 xf, Value.int IntKind.i64 xd, Value.int IntKind.u32 (xn : Nat), Value.int IntKind.u32 (xl : Nat), Value.bool xo] 30 (0, 0))) := ⟨by rw [← hz0]; exact heap_alloc_last _ _⟩
        replace HR := Shut.mk (HR.out.below hB1)
        generalize hw : w8.alloc _ = w9 at *
        clear hw hB0 hB1 hz0
        generalize hg : w8.heap.size = g20 at *
        clear hg
        clear HB HC HX HD
        have HB := HBn
        have HC := HCn
        have HX := HXn
        have HD := HDn
        have HE := HEn
        clear HBn HCn HXn HDn HEn
        have d0 : w9.cell? ⟨g17, 0, none⟩ = some (.int .i64 xf) := by simpa using (block_range HD.out) 0 _ rfl
        have d1 : w9.cell? ⟨g17, 1, none⟩ = some (.int .i64 xd) := by simpa using (block_range HD.out) 1 _ rfl
        have d2 : w9.cell? ⟨g17, 2, none⟩ = some (.int .u32 (xn : Nat)) := by simpa using (block_range HD.out) 2 _ rfl
        have d3 : w9.cell? ⟨g17, 3, none⟩ = some (.int .u32 (xl : Nat)) := by simpa using (block_range HD.out) 3 _ rfl
        have d4 : w9.cell? ⟨g17, 4, none⟩ = some (.bool xo) := by simpa using (block_range HD.out) 4 _ rfl
        have e0 : w9.cell? ⟨g20, 0, none⟩ = some (.int .i64 xf) := by simpa using (block_range HE.out) 0 _ rfl
        have e1 : w9.cell? ⟨g20, 1, none⟩ = some (.int .i64 xd) := by simpa using (block_range HE.out) 1 _ rfl
        have e2 : w9.cell? ⟨g20, 2, none⟩ = some (.int .u32 (xn : Nat)) := by simpa using (block_range HE.out) 2 _ rfl
        have e3 : w9.cell? ⟨g20, 3, none⟩ = some (.int .u32 (xl : Nat)) := by simpa using (block_range HE.out) 3 _ rfl
        have e4 : w9.cell? ⟨g20, 4, none⟩ = some (.bool xo) := by simpa using (block_range HE.out) 4 _ rfl
        go_wp2_with (fail)
        refine (same_any xf xd xn xl xo w9).mono ?_
        rintro e w10 ⟨rfl, hB⟩
        have HBn := Shut.mk (HB.out.trans (hB.mono HB.out.size))
        have HCn := Shut.mk ((hB.block gc (lt_blk HC.out)).trans HC.out)
        have HXn := Shut.mk ((hB.block gx (lt_blk HX.out)).trans HX.out)
        have HDn := Shut.mk ((hB.block g17 (lt_blk HD.out)).trans HD.out)
        have HEn := Shut.mk ((hB.block g20 (lt_blk HE.out)).trans HE.out)
        replace HR := Shut.mk (HR.out.below hB)
        clear hB HB HC HX HD HE
        have HB := HBn
        have HC := HCn
        have HX := HXn
        have HD := HDn
        have HE := HEn
        clear HBn HCn HXn HDn HEn
        clear d0 d1 d2 d3 d4 e0 e1 e2 e3 e4
        obtain ⟨p1, p2, p3, -⟩ := HPB.out
        clear HPB
        have q1 : decide ((mm : Int) < (xk : Int)) = false := by simp only [decide_eq_false_iff_not]; omega
        have q1n : decide (mm < xk) = false := by simp only [decide_eq_false_iff_not]; omega
        have q1m : ¬ mm < xk := by omega
        have HC1 := Shut.mk (setRow_heap w10 gc _ #[Value.int IntKind.i64 xf, Value.int IntKind.i64 xd, Value.int IntKind.u32 (xn : Nat), Value.int IntKind.u32 (xl : Nat), Value.bool xo] _ (0, 0) HC.out)
        have HX1 := Shut.mk ((setRow_other w10 gc gx #[Value.int IntKind.i64 xf, Value.int IntKind.i64 xd, Value.int IntKind.u32 (xn : Nat), Value.int IntKind.u32 (xl : Nat), Value.bool xo] (by have := HGG.out.1; omega)).trans HX.out)
        have HE1 := Shut.mk ((setRow_other w10 gc g20 #[Value.int IntKind.i64 xf, Value.int IntKind.i64 xd, Value.int IntKind.u32 (xn : Nat), Value.int IntKind.u32 (xl : Nat), Value.bool xo] (by have := HNE.out; omega)).trans HE.out)
        have hO1 := (Only.refl (fun k => w.heap.size ≤ k ∧ k ≠ gr) w10).setRow (g := gc) (fun _ => ⟨HGG.out.2.1, fun e => HGR.out.1 e.symm⟩) #[Value.int IntKind.i64 xf, Value.int IntKind.i64 xd, Value.int IntKind.u32 (xn : Nat), Value.int IntKind.u32 (xl : Nat), Value.bool xo]
        have HC2 := Shut.mk ((setRow_other (w10.setRow gc #[Value.int IntKind.i64 xf, Value.int IntKind.i64 xd, Value.int IntKind.u32 (xn : Nat), Value.int IntKind.u32 (xl : Nat), Value.bool xo]) gx gc #[Value.int IntKind.i64 xf, Value.int IntKind.i64 xd, Value.int IntKind.u32 (xn : Nat), Value.int IntKind.u32 (xl : Nat), Value.bool xo] (by have := HGG.out.1; omega)).trans HC1.out)
        have HX2 := Shut.mk (setRow_heap (w10.setRow gc #[Value.int IntKind.i64 xf, Value.int IntKind.i64 xd, Value.int IntKind.u32 (xn : Nat), Value.int IntKind.u32 (xl : Nat), Value.bool xo]) gx _ #[Value.int IntKind.i64 xf, Value.int IntKind.i64 xd, Value.int IntKind.u32 (xn : Nat), Value.int IntKind.u32 (xl : Nat), Value.bool xo] _ (0, 0) HX1.out)
        have hO2 := hO1.setRow (g := gx) (fun _ => ⟨HGG.out.2.2, fun e => HGR.out.2 e.symm⟩) #[Value.int IntKind.i64 xf, Value.int IntKind.i64 xd, Value.int IntKind.u32 (xn : Nat), Value.int IntKind.u32 (xl : Nat), Value.bool xo]
        have HB2 := Shut.mk (HB.out.trans (hO2.below (B := w.heap.size) (fun i hi e => by have := e.1; omega) HB.out.size))
        have HR2 := Shut.mk (HR.out.only hO2 (fun p hp e => e.2 (by cases hp; rfl)))
        clear hO1 hO2
        go_upto_region 28 with (first
          | (refine wpList_load_row rfl 24 (.tmp 17) rfl g17 rfl 24 #[Value.int IntKind.i64 xf, Value.int IntKind.i64 xd, Value.int IntKind.u32 (xn : Nat), Value.int IntKind.u32 (xl : Nat), Value.bool xo] (0, 0) _ HD.out Try.underlying24 rfl size1 ?_)
          | (refine wpList_store_row rfl 24 (.tmp 13) (.tmp 161) rfl gc #[Value.int IntKind.i64 xf, Value.int IntKind.i64 xd, Value.int IntKind.u32 (xn : Nat), Value.int IntKind.u32 (xl : Nat), Value.bool xo] rfl rfl 24 _ HC.out size1 rfl (cd_one _ _ _ _ _) ?_)
          | (refine wpList_load_row rfl 30 (.tmp 20) rfl g20 rfl 30 #[Value.int IntKind.i64 xf, Value.int IntKind.i64 xd, Value.int IntKind.u32 (xn : Nat), Value.int IntKind.u32 (xl : Nat), Value.bool xo] (0, 0) _ HE1.out Try.underlying30 rfl sizeRc' ?_)
          | (refine wpList_store_row rfl 30 (.tmp 14) (.tmp 162) rfl gx #[Value.int IntKind.i64 xf, Value.int IntKind.i64 xd, Value.int IntKind.u32 (xn : Nat), Value.int IntKind.u32 (xl : Nat), Value.bool xo] rfl rfl 30 _ HX1.out sizeRc' rfl (cd_one _ _ _ _ _) ?_))
        clear HC1 HX1 HE1 HC HX HD HE HB HR q1 q1n q1m
        generalize hw : (w10.setRow gc _).setRow gx _ = w9 at *
        clear hw
        cases xi
        · have HNK : Shut (xk ≤ mm) := ⟨p1⟩
          obtain ⟨nk, hnk⟩ : ∃ nk, xk = nk := ⟨_, rfl⟩
          rw [hnk] at HNK ⊢
          clear p1 p2 p3
          go_wp2_with (fail)
          go_loopw [11, 23] (fun bt i wq => ∃ k : Nat, i = .int .i64 (k : Nat) ∧ bt = .int .i64 (sumL (xs.drop k)) ∧ k ≤ nk ∧ wq = w9) (fun _ i _ => nk - (intOf i).toNat)
          case atStart => exact ⟨0, rfl, by rw [List.drop_zero, HSE.out], Nat.zero_le _, rfl⟩
          case round =>
            obtain ⟨k, rfl, rfl, hk, rfl⟩ := hrel
            rcases Nat.lt_or_eq_of_le hk with hlt | hlt
            · have hkm : k < mm := by have := HNK.out; omega
              obtain ⟨b9, o9, e9, hr9⟩ := HR2.out.el k hkm
              cases e9
              have hkI : ((k : Nat) : Int) < (nk : Int) := by exact_mod_cast hlt
              have hkm' : ((k : Nat) : Int) < (mm : Int) := by exact_mod_cast hkm
              have y3 : IntKind.i64.wrap ((k : Int) + 1) = ((k + 1 : Nat) : Int) := by have := HM4.out; rw [IntWalk.i64_in _ ⟨by omega, by omega⟩]; omega
              have c1 : wr.cell? ⟨gr, 0 + k * 2 + 1, none⟩ = some (.int .i64 (xs.getD k it00).len) := by simpa using hr9 1 _ rfl
              rw [Nat.zero_add] at c1
              have HS1 := Shut.mk (sumL_drop (l := xs) (k := k) (by rw [HXL.out]; exact hkm))
              have hs1 := sumL_in (l := xs.drop k) (m := 1048576) (fun x hx => ⟨(HI.out x (List.drop_subset k xs hx)).2.2.1, (HI.out x (List.drop_subset k xs hx)).2.2.2⟩)
              have hs2 := sumL_in (l := xs.drop (k + 1)) (m := 1048576) (fun x hx => ⟨(HI.out x (List.drop_subset _ xs hx)).2.2.1, (HI.out x (List.drop_subset _ xs hx)).2.2.2⟩)
              rw [List.length_drop, HXL.out] at hs1 hs2
              obtain ⟨S1, hS1⟩ : ∃ S1, sumL (xs.drop k) = S1 := ⟨_, rfl⟩
              obtain ⟨S2, hS2⟩ : ∃ S2, sumL (xs.drop (k + 1)) = S2 := ⟨_, rfl⟩
              have HSD := Shut.mk hS2
              have hs3 := HS1.out
              rw [hS1] at hs1 hs3 ⊢
              rw [hS2] at hs2 hs3
              generalize (xs.getD k it00).len = xv at *
              have y4 : IntKind.i64.wrap (S1 - xv) = S2 := by have := HM4.out; rw [show S1 - xv = S2 by omega]; exact IntWalk.i64_in _ ⟨by omega, by omega⟩
              clear hr9 HS1 hs1 hs2 hs3 hS1 hS2
              go_wp2
              go_roundw
              case rel => exact ⟨k + 1, by go_num, by rw [HSD.out], hlt, by first | rfl | trivial⟩
              case measure => simp [intOf]; omega
            · obtain rfl : nk = k := hlt.symm
              have hnm : nk ≤ mm := HNK.out
              have hnmI : ((nk : Nat) : Int) ≤ (mm : Int) := by exact_mod_cast hnm
              have hcI : ((mm : Nat) : Int) ≤ (cp : Int) := by exact_mod_cast HMC.out
              have hncI : ((nk : Nat) : Int) ≤ (cp : Int) := by omega
              have HRK := Shut.mk (row_rest HR2.out nk hnm)
              by_cases hck : cp = nk
              · have hmn : mm - nk = 0 := by omega
                have HRKa : Shut (RowS itC 2 it00 wr (some ⟨gr, 0, none⟩) (mm - nk) (xs.drop nk)) := ⟨⟨by rw [List.length_drop, HXL.out], by rw [hmn]; exact Nat.zero_le _, fun e => by omega⟩⟩
                have HRKb : Shut (RowS itC 2 it00 wr (some ⟨gr, 0, none⟩) 0 (xs.drop nk)) := ⟨⟨by rw [List.length_drop, HXL.out]; exact hmn, Nat.zero_le _, fun e => by omega⟩⟩
                clear hmn
                go_wp2_with (refine app_fresh rfl (.tmp 178) (.tmp 181) rfl rfl _ _ _ (xs.drop nk) rfl (by first | exact HRKa.out | exact HRKb.out) (by have := HM4.out; omega) ?_)
                intro g9 cap9 w10 hg9 hr9 hcap9 hb9
                have HBX := Shut.mk (HB2.out.trans (hb9.out.mono HB2.out.size))
                have HCX := Shut.mk ((hb9.out.block gc (lt_blk HC2.out)).trans HC2.out)
                have HXX := Shut.mk ((hb9.out.block gx (lt_blk HX2.out)).trans HX2.out)
                have HG9 : Shut (g9 ≠ gc ∧ g9 ≠ gx) := ⟨by have := lt_blk HC2.out; have := lt_blk HX2.out; have := hg9.out; omega⟩
                clear hb9 hg9 HC2 HX2 HB2 HR2
                go_wp2
                go_roundw
                case rel => exact ⟨j + 1, _, cap9, g9, t2, xf, xd, xn, xl, xo, xs.drop nk, by go_num, rfl, rfl, rfl, hlj, by have := HM4.out; omega, by have := hcap9.out; omega, hr9.out, HBX.out, HG9.out, HCX.out, HXX.out, HT.out.1, HT.out.2.1, fun x hx => by
                  have h1 := HI.out x (List.drop_subset nk xs hx)
                  have h2 := HT.out
                  exact ⟨h1.1, by omega, h1.2.2⟩, HPK.out⟩
                case measure => simp [intOf]; omega
              · have HRK' : Shut (RowS itC 2 it00 wr (some ⟨gr, nk * 2, none⟩) (mm - nk) (xs.drop nk)) := ⟨by have := HRK.out; rw [Nat.zero_add] at this; exact this⟩
                go_wp2_with (refine app_fresh rfl (.tmp 178) (.tmp 181) rfl rfl (some ⟨gr, nk * 2, none⟩) (mm - nk) (cp - nk) (xs.drop nk) rfl HRK'.out (by have := HM4.out; omega) ?_)
                intro g9 cap9 w10 hg9 hr9 hcap9 hb9
                have HBX := Shut.mk (HB2.out.trans (hb9.out.mono HB2.out.size))
                have HCX := Shut.mk ((hb9.out.block gc (lt_blk HC2.out)).trans HC2.out)
                have HXX := Shut.mk ((hb9.out.block gx (lt_blk HX2.out)).trans HX2.out)
                have HG9 : Shut (g9 ≠ gc ∧ g9 ≠ gx) := ⟨by have := lt_blk HC2.out; have := lt_blk HX2.out; have := hg9.out; omega⟩
                clear hb9 hg9 HC2 HX2 HB2 HR2
                go_wp2
                go_roundw
                case rel => exact ⟨j + 1, (mm - nk), cap9, g9, t2, xf, xd, xn, xl, xo, xs.drop nk, by go_num, rfl, rfl, rfl, hlj, by have := HM4.out; omega, by have := hcap9.out; omega, hr9.out, HBX.out, HG9.out, HCX.out, HXX.out, HT.out.1, HT.out.2.1, fun x hx => by
                  have h1 := HI.out x (List.drop_subset nk xs hx)
                  have h2 := HT.out
                  exact ⟨h1.1, by omega, h1.2.2⟩, HPK.out⟩
                case measure => simp [intOf]; omega
        · have HNK : Shut (xk + 1 ≤ mm) := ⟨p2 rfl⟩
          obtain ⟨nk, hnk⟩ : ∃ nk, xk + 1 = nk := ⟨_, rfl⟩
          rw [hnk] at HNK
          have y9 : IntKind.i64.wrap ((xk : Int) + 1) = ((nk : Nat) : Int) := by have := HNK.out; have := HM4.out; rw [IntWalk.i64_in _ ⟨by omega, by omega⟩]; omega
          clear hnk p1 p2 p3
          go_wp2_with (fail)
          go_loopw [11, 23] (fun bt i wq => ∃ k : Nat, i = .int .i64 (k : Nat) ∧ bt = .int .i64 (sumL (xs.drop k)) ∧ k ≤ nk ∧ wq = w9) (fun _ i _ => nk - (intOf i).toNat)
          case atStart => exact ⟨0, rfl, by rw [List.drop_zero, HSE.out], Nat.zero_le _, rfl⟩
          case round =>
            obtain ⟨k, rfl, rfl, hk, rfl⟩ := hrel
            rcases Nat.lt_or_eq_of_le hk with hlt | hlt
            · have hkm : k < mm := by have := HNK.out; omega
              obtain ⟨b9, o9, e9, hr9⟩ := HR2.out.el k hkm
              cases e9
              have hkI : ((k : Nat) : Int) < (nk : Int) := by exact_mod_cast hlt
              have hkm' : ((k : Nat) : Int) < (mm : Int) := by exact_mod_cast hkm
              have y3 : IntKind.i64.wrap ((k : Int) + 1) = ((k + 1 : Nat) : Int) := by have := HM4.out; rw [IntWalk.i64_in _ ⟨by omega, by omega⟩]; omega
              have c1 : wr.cell? ⟨gr, 0 + k * 2 + 1, none⟩ = some (.int .i64 (xs.getD k it00).len) := by simpa using hr9 1 _ rfl
              rw [Nat.zero_add] at c1
              have HS1 := Shut.mk (sumL_drop (l := xs) (k := k) (by rw [HXL.out]; exact hkm))
              have hs1 := sumL_in (l := xs.drop k) (m := 1048576) (fun x hx => ⟨(HI.out x (List.drop_subset k xs hx)).2.2.1, (HI.out x (List.drop_subset k xs hx)).2.2.2⟩)
              have hs2 := sumL_in (l := xs.drop (k + 1)) (m := 1048576) (fun x hx => ⟨(HI.out x (List.drop_subset _ xs hx)).2.2.1, (HI.out x (List.drop_subset _ xs hx)).2.2.2⟩)
              rw [List.length_drop, HXL.out] at hs1 hs2
              obtain ⟨S1, hS1⟩ : ∃ S1, sumL (xs.drop k) = S1 := ⟨_, rfl⟩
              obtain ⟨S2, hS2⟩ : ∃ S2, sumL (xs.drop (k + 1)) = S2 := ⟨_, rfl⟩
              have HSD := Shut.mk hS2
              have hs3 := HS1.out
              rw [hS1] at hs1 hs3 ⊢
              rw [hS2] at hs2 hs3
              generalize (xs.getD k it00).len = xv at *
              have y4 : IntKind.i64.wrap (S1 - xv) = S2 := by have := HM4.out; rw [show S1 - xv = S2 by omega]; exact IntWalk.i64_in _ ⟨by omega, by omega⟩
              clear hr9 HS1 hs1 hs2 hs3 hS1 hS2
              go_wp2
              go_roundw
              case rel => exact ⟨k + 1, by go_num, by rw [HSD.out], hlt, by first | rfl | trivial⟩
              case measure => simp [intOf]; omega
            · obtain rfl : nk = k := hlt.symm
              have hnm : nk ≤ mm := HNK.out
              have hnmI : ((nk : Nat) : Int) ≤ (mm : Int) := by exact_mod_cast hnm
              have hcI : ((mm : Nat) : Int) ≤ (cp : Int) := by exact_mod_cast HMC.out
              have hncI : ((nk : Nat) : Int) ≤ (cp : Int) := by omega
              have HRK := Shut.mk (row_rest HR2.out nk hnm)
              by_cases hck : cp = nk
              · have hmn : mm - nk = 0 := by omega
                have HRKa : Shut (RowS itC 2 it00 wr (some ⟨gr, 0, none⟩) (mm - nk) (xs.drop nk)) := ⟨⟨by rw [List.length_drop, HXL.out], by rw [hmn]; exact Nat.zero_le _, fun e => by omega⟩⟩
                have HRKb : Shut (RowS itC 2 it00 wr (some ⟨gr, 0, none⟩) 0 (xs.drop nk)) := ⟨⟨by rw [List.length_drop, HXL.out]; exact hmn, Nat.zero_le _, fun e => by omega⟩⟩
                clear hmn
                go_wp2_with (refine app_fresh rfl (.tmp 178) (.tmp 181) rfl rfl _ _ _ (xs.drop nk) rfl (by first | exact HRKa.out | exact HRKb.out) (by have := HM4.out; omega) ?_)
                intro g9 cap9 w10 hg9 hr9 hcap9 hb9
                have HBX := Shut.mk (HB2.out.trans (hb9.out.mono HB2.out.size))
                have HCX := Shut.mk ((hb9.out.block gc (lt_blk HC2.out)).trans HC2.out)
                have HXX := Shut.mk ((hb9.out.block gx (lt_blk HX2.out)).trans HX2.out)
                have HG9 : Shut (g9 ≠ gc ∧ g9 ≠ gx) := ⟨by have := lt_blk HC2.out; have := lt_blk HX2.out; have := hg9.out; omega⟩
                clear hb9 hg9 HC2 HX2 HB2 HR2
                go_wp2
                go_roundw
                case rel => exact ⟨j + 1, _, cap9, g9, t2, xf, xd, xn, xl, xo, xs.drop nk, by go_num, rfl, rfl, rfl, hlj, by have := HM4.out; omega, by have := hcap9.out; omega, hr9.out, HBX.out, HG9.out, HCX.out, HXX.out, HT.out.1, HT.out.2.1, fun x hx => by
                  have h1 := HI.out x (List.drop_subset nk xs hx)
                  have h2 := HT.out
                  exact ⟨h1.1, by omega, h1.2.2⟩, HPK.out⟩
                case measure => simp [intOf]; omega
              · have HRK' : Shut (RowS itC 2 it00 wr (some ⟨gr, nk * 2, none⟩) (mm - nk) (xs.drop nk)) := ⟨by have := HRK.out; rw [Nat.zero_add] at this; exact this⟩
                go_wp2_with (refine app_fresh rfl (.tmp 178) (.tmp 181) rfl rfl (some ⟨gr, nk * 2, none⟩) (mm - nk) (cp - nk) (xs.drop nk) rfl HRK'.out (by have := HM4.out; omega) ?_)
                intro g9 cap9 w10 hg9 hr9 hcap9 hb9
                have HBX := Shut.mk (HB2.out.trans (hb9.out.mono HB2.out.size))
                have HCX := Shut.mk ((hb9.out.block gc (lt_blk HC2.out)).trans HC2.out)
                have HXX := Shut.mk ((hb9.out.block gx (lt_blk HX2.out)).trans HX2.out)
                have HG9 : Shut (g9 ≠ gc ∧ g9 ≠ gx) := ⟨by have := lt_blk HC2.out; have := lt_blk HX2.out; have := hg9.out; omega⟩
                clear hb9 hg9 HC2 HX2 HB2 HR2
                go_wp2
                go_roundw
                case rel => exact ⟨j + 1, (mm - nk), cap9, g9, t2, xf, xd, xn, xl, xo, xs.drop nk, by go_num, rfl, rfl, rfl, hlj, by have := HM4.out; omega, by have := hcap9.out; omega, hr9.out, HBX.out, HG9.out, HCX.out, HXX.out, HT.out.1, HT.out.2.1, fun x hx => by
                  have h1 := HI.out x (List.drop_subset nk xs hx)
                  have h2 := HT.out
                  exact ⟨h1.1, by omega, h1.2.2⟩, HPK.out⟩
                case measure => simp [intOf]; omega

/-! ### THE ROW -/
set_option maxRecDepth 100000 in
theorem lifted (os : Os) (started : os.Started) (H : Type) (enc : TypeId × Value → H) :
    ReturnsInHanded {} Try.checked os 4 .any (Rows.codelRunsSpec.pre6 enc Try.prog Try.f4 Rows.codelRunsRow.domain false) (Rows.codelRunsSpec.post enc Try.prog Try.f4 false true false false) := by
  refine returnsInHanded_of_change (C := Try.checked) own started (by kernel_rfl) Try.func4
    (ChangeSpec.witness6 (enc := enc) (C := Try.checked) false ⟨#[], #[.slice none 0 0, .slice none 0 0, .int .i64 0, .int .i64 0], []⟩ 8 (by kernel_rfl) (by kernel_rfl) (by kernel_rfl) (by kernel_rfl)) ?_
  intro W base args ds gs before hval0 hW hcnd _
  have hval : ∀ (j : Nat) t v, Try.f4.params[j]? = some t → args[j]? = some v → Value.okWide Try.prog W .any base t v := hval0
  have hW' := hW
  obtain ⟨p, q, hA0, hV, rfl, hfz, hnd⟩ := hW
  have hA : DataW.TrodAll enc Try.prog W 0 (fun _ => true) true Try.f4.params.toList args.toList ds p := hA0
  rw [Try.params4] at hA hval
  obtain ⟨v0, vs0, d0, ds0, p0, q0', hargs, rfl, rfl, h0, r0⟩ := trodAll_cons hA
  obtain ⟨v1, vs1, d1, ds1, p1, q1', rfl, rfl, rfl, h1, r1⟩ := trodAll_cons r0
  obtain ⟨v2, vs2, d2, ds2, p2, q2', rfl, rfl, rfl, h2, r2⟩ := trodAll_cons r1
  obtain ⟨v3, vs3, d3, ds3, p3, q3', rfl, rfl, rfl, h3, r3⟩ := trodAll_cons r2
  obtain ⟨rfl, rfl, rfl⟩ := trodAll_nil r3
  obtain rfl : args = #[v0, v1, v2, v3] := by cases args; simp_all
  obtain ⟨rfl, rfl⟩ := trodVars_none hV
  have k0 := h0
  have lt0 : ∀ x ∈ p0, x.block < W.heap.size := by obtain ⟨m, hm⟩ := k0; exact DataW.trod_lt m _ _ _ hm
  have k1 := h1
  have lt1 : ∀ x ∈ p1, x.block < W.heap.size := by obtain ⟨m, hm⟩ := k1; exact DataW.trod_lt m _ _ _ hm
  have k2 := h2
  have lt2 : ∀ x ∈ p2, x.block < W.heap.size := by obtain ⟨m, hm⟩ := k2; exact DataW.trod_lt m _ _ _ hm
  have k3 := h3
  have lt3 : ∀ x ∈ p3, x.block < W.heap.size := by obtain ⟨m, hm⟩ := k3; exact DataW.trod_lt m _ _ _ hm
  obtain ⟨a0, len0, cap0, rfl⟩ := okWide_slice Try.underlying25 (hval 0 25 v0 rfl rfl)
  obtain ⟨l0, w0⟩ : ∃ l : List It, RowS itC 2 it00 W a0 len0 l ∧ len0 ≤ cap0 ∧ ∀ u ∈ l, okI u := by
    obtain ⟨fuel, hf⟩ := h0
    obtain ⟨A, n, c, l, e, hr, hc, hl⟩ := open_pairs Try.underlying25 Try.underlying38 (by kernel_rfl) rfl rfl (by kernel_rfl) (by kernel_rfl) Try.underlying2 Try.underlying3 (fun a b => ⟨a, b⟩) itC (fun _ _ => rfl) it00 (v := .slice a0 len0 cap0) hf
    cases e
    exact ⟨l, hr, hc, hl⟩
  obtain ⟨a1, len1, cap1, rfl⟩ := okWide_slice Try.underlying36 (hval 1 36 v1 rfl rfl)
  obtain ⟨z1, w1⟩ : ∃ zs, IsRow .i64 W a1 len1 cap1 zs := by
    obtain ⟨fuel, hf⟩ := h1
    rcases open_ints Try.underlying36 Try.underlying3 (by kernel_rfl) hf with ⟨hcs, _⟩ | ⟨x, l, c, zs, hcs, _, hl, hm, hz, _, hcell, hwz⟩
    · simp [Value.cells] at hcs
      obtain ⟨rfl, rfl, rfl⟩ := hcs
      exact ⟨[], .inl ⟨rfl, rfl, rfl, rfl⟩⟩
    · simp [Value.cells] at hcs
      obtain ⟨rfl, rfl, rfl⟩ := hcs
      exact ⟨zs, .inr ⟨_, rfl, hl, hm, by simpa using hz, hcell, hwz⟩⟩
  obtain ⟨n2, rfl, rfl, rfl, w2⟩ := open_int Try.underlying2 (hval 2 2 v2 rfl rfl) h2
  obtain ⟨n3, rfl, rfl, rfl, w3⟩ := open_int Try.underlying2 (hval 3 2 v3 rfl rfl) h3
  clear hA0 hval0
  refine (walk a0 len0 cap0 l0 a1 len1 cap1 z1 n2 n3 W w0 w1 w2 w3).mono fun e W' ⟨he, bel⟩ => ?_
  subst he
  exact ⟨_, rfl, _, _, _, [], _, [], hW', trodAll_mk1 (shut_bool Try.underlying4 _), (trodAll_cons_mk (Below.trod laidOut (by kernel_rfl) (of_decide_eq_true (by kernel_rfl)) k0 bel lt0) (trodAll_cons_mk (Below.trod laidOut (by kernel_rfl) (of_decide_eq_true (by kernel_rfl)) k1 bel lt1) (trodAll_cons_mk (Below.trod laidOut (by kernel_rfl) (of_decide_eq_true (by kernel_rfl)) k2 bel lt2) (trodAll_cons_mk (Below.trod laidOut (by kernel_rfl) (of_decide_eq_true (by kernel_rfl)) k3 bel lt3) trodAll_mk0)))), rfl, bel.frame _, fun h => by cases h⟩

theorem over : Rows.codelRunsRow.holds Try.pinned (OpenSpec.ofChange Rows.codelRunsSpec) :=
  OpenClaim.holds_of_wide 4 Try.f4 rfl rfl rfl rfl rfl rfl rfl ⟨rfl, rfl, rfl, rfl, rfl⟩ rfl rfl rfl rfl rfl (by kernel_rfl) Try.func4 (by kernel_rfl)
    (of_decide_eq_true (by kernel_rfl)) (by unfold Func.isWrapper; first | (rw [if_pos (by decide +kernel)]; kernel_rfl) | (rw [if_neg (by decide +kernel)]; exact ⟨rfl, rfl⟩))
    (fun os started H enc _ => lifted os started H enc)
theorem proved : Rows.CodelRunsSaid := over
#print axioms proved
end Go.Proofs.Ytmajbkhbkepebaa.codelRuns
