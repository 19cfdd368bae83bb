/-
  The walk of muezzin/muezzinlaw5.ActTurned: the Go text returns true.
-/
import Derived.Test.YtjgingfcfmpfaaaDoorActX
import Derived.Test.YtjgingfcfmpfaaaDoorNum
import Derived.Test.YtjgingfcfmpfaaaDoorOpenA
import Derived.Test.YtjgingfcfmpfaaaDoorErr
import Derived.WalkKit
import Derived.ProofKit
import Derived.Below
namespace Go.Proofs.YtjgingfcfmpfaaaDoor.actTurned
open Go.ChangeShapes Go.WideShapes Go.ChangeAt Go.RowKit Go.Joins
set_option linter.unusedVariables false
set_option linter.unusedSimpArgs false

/-- a byte with a bit turned. -/
def tb (x : Int) (m : Nat) : Int := bits .xor .u8 x (2 ^ m % 256)
theorem tb_nat : ∀ n : Nat, n < 256 → ∀ m : Nat, m < 8 → tb (n : Int) m ≠ n ∧ 0 ≤ tb (n : Int) m ∧ tb (n : Int) m ≤ 255 := by decide +kernel
theorem tb_of (x : Int) (m : Nat) (h : 0 ≤ x ∧ x ≤ 255) (hm : m < 8) : tb x m ≠ x ∧ 0 ≤ tb x m ∧ tb x m ≤ 255 := by
  obtain ⟨n, rfl⟩ := Int.eq_ofNat_of_zero_le h.1
  exact tb_nat n (by omega) m hm
theorem set_wf {L : List Int} {n q : Nat} {v : Int} (hl : L.length = n) (h : ∀ i, i < n → 0 ≤ L.getD i 0 ∧ L.getD i 0 ≤ 255) (hv : 0 ≤ v ∧ v ≤ 255) : ∀ i, i < n → 0 ≤ (L.set q v).getD i 0 ∧ (L.set q v).getD i 0 ≤ 255 := by
  intro i hi
  by_cases e : q = i
  · subst e
    simpa [List.getD, List.getElem?_set, hl, hi] using hv
  · have := h i hi
    simpa [List.getD, List.getElem?_set, e] using this
/-- what is read of an Add's bytes with one of them turned is not the Add. -/
theorem not_same {L : List Int} {f : Adf} {q : Nat} {v : Int} (hL : L = encAdd f) (hl : L.length = 33) (hq : q < 33) (hne : v ≠ L.getD q 0)
    (hr : rdAdd (L.set q v) 33 = 0) : sameAd (outAdd (L.set q v) 33) f = false := by
  cases hs : sameAd (outAdd (L.set q v) 33) f with
  | false => rfl
  | true =>
    exfalso
    obtain ⟨-, -, h2, h3⟩ := rdAdd_fine hr
    have e1 := sameAd_eq hs
    rw [h3] at e1
    rw [e1, ← hL] at h2
    have e3 : (L.set q v).getD q 0 = v := by simp [List.getD, List.getElem?_set, hl, hq]
    rw [← h2] at e3
    exact hne e3.symm

/-! ### THE WALK -/
set_option maxRecDepth 100000 in
set_option maxHeartbeats 8000000 in
theorem walk (f0 : Adf) (n1 : Int) (n2 : Int) (w : World) (E : Nat → Addr) (hS : Sent w E [101, 102, 103, 104, 105, 106, 107, 108, 109, 110, 111, 112, 113, 114]) (w0 : IsAdd f0) (w1 : (Lit.int .i64 n1).wf = true) (w2 : (Lit.int .i64 n2).wf = true) :
    Calls Tryd.prog 5 #[f0.val, .int .i64 n1, .int .i64 n2] w fun e w' => e = .returned (.bool true) ∧ Below w.heap.size w w' := by
  have HS := Lib.hid hS
  have HWt := Lib.hid w0
  have W1 := Lib.hid w1
  have W2 := Lib.hid w2
  clear w0 w1 w2 hS
  have HB := Lib.hid ((Below.refl w.heap.size w).alloc (Nat.le_refl _) (.cells f0.cells 25))
  have HG := Lib.hid (heap_alloc_last w (.cells f0.cells 25))
  go_enter Tryd.func5, Tryd.ntmps5
  go_wp2_with (fail)
  generalize World.alloc w _ = w0 at *
  refine (first_any w0).mono ?_
  rintro e w1 ⟨rfl, hB⟩
  have T0 := Lib.hid (HB.out.trans (hB.mono HB.out.size))
  have T1 := Lib.hid ((hB.block _ (lt_blk HG.out)).trans HG.out)
  clear hB
  clear HB HG
  have HB := T0
  have HG := T1
  clear T0 T1
  go_wp2_with (refine wpList_load_row rfl 25 (.tmp 3) rfl w.heap.size rfl 25 f0.cells (0, 0) _ HG.out Tryd.underlying25 rfl sizeAdd ?_)
  cases hok : okAdd f0
  · refine (add_no f0 E w1 hok (HS.out.below HB.out).four).mono ?_
    rintro e w2 ⟨rfl, hB⟩
    have T0 := Lib.hid (HB.out.trans (hB.mono HB.out.size))
    clear hB
    clear HB
    have HB := T0
    clear T0
    go_wp2
    go_ret
    exact ⟨rfl, HB.out⟩
  have HB1s := Lib.hid HB.out.size
  have HB1l := Lib.hid (lt_blk HG.out)
  refine (add_yes f0 w1 hok).mono ?_
  rintro e w2 ⟨g, cap, rfl, hO, hB⟩
  have HLw := Lib.hid hB.size
  have T0 := Lib.hid (HB.out.trans (hB.mono HB.out.size))
  have T1 := Lib.hid ((hB.block _ (lt_blk HG.out)).trans HG.out)
  clear hB
  clear HB HG
  have HB := T0
  have HG := T1
  clear T0 T1
  have HLL := Lib.hid (encAdd_len f0)
  have HW := Lib.hid (all_wf HLL.out (encAdd_mem HWt.out.t HWt.out.f HWt.out.b hok))
  have HCUT := Lib.hid (fun k hk => cut_101 (k := k) f0 hk)
  have HL := Lib.hid (show ∃ L, L = encAdd f0 from ⟨_, rfl⟩)
  obtain ⟨L, hL⟩ := HL.out
  rw [← hL] at hO HLL HW HCUT
  have HLe := Lib.hid hL
  have HO := Lib.hid hO
  have HRW := Lib.hid (hO.row8 HW.out)
  have hcap := hO.cap_le
  clear hok hL hO HL
  go_wp2_with (fail)
  refine (number_any _ _ _ W2.out (by omega) (by omega)).mono ?_
  rintro e w' ⟨rfl, rfl⟩
  have c0 := nmod_lo n2 33 (by omega)
  have c1 := nmod_hi n2 33 (by omega)
  generalize nmod n2 33 = cc at *
  obtain ⟨kc, rfl⟩ := Int.eq_ofNat_of_zero_le c0
  have hkc : kc < 33 := by omega
  have hkcap : (kc : Int) ≤ (cap : Int) := by omega
  have HC1 := Lib.hid (HCUT.out kc hkc)
  have HRK := Lib.hid (HRW.out.first kc (by omega))
  have HKC := Lib.hid (show kc ≤ cap by omega)
  generalize hys : L.take kc = ys at *
  clear hys HCUT HRW
  go_wp2_with (fail)
  refine (readAdd_all (some ⟨g, 0, none⟩) kc cap ys E w2 HRK.out (HS.out.below HB.out).four HKC.out).mono ?_
  rintro e w3 ⟨rfl, hB⟩
  rw [HC1.out.1, HC1.out.2, show errV E 101 = errP (E 101) from rfl]
  have HOn := Lib.hid (HO.out.of_block (hB.block g HO.out.lt.2))
  have T0 := Lib.hid (HB.out.trans (hB.mono HB.out.size))
  have T1 := Lib.hid ((hB.block _ (lt_blk HG.out)).trans HG.out)
  clear hB
  clear HB HG
  have HB := T0
  have HG := T1
  clear T0 T1
  have T0 := Lib.hid (HB.out.alloc HB.out.size (.cells Go.Proofs.YtjgingfcfmpfaaaDoor.a0.cells 25))
  have T1 := Lib.hid (((Below.refl w3.heap.size w3).alloc (Nat.le_refl _) (.cells Go.Proofs.YtjgingfcfmpfaaaDoor.a0.cells 25)).block _ (lt_blk HG.out) |>.trans HG.out)
  have HO2 := Lib.hid (World.ownsRow.alloc HOn.out (.cells Go.Proofs.YtjgingfcfmpfaaaDoor.a0.cells 25))
  have HGz := Lib.hid (heap_alloc_last w3 (.cells Go.Proofs.YtjgingfcfmpfaaaDoor.a0.cells 25))
  clear HO HOn HRK HC1 HKC hkcap
  clear HB HG
  have HB := T0
  have HG := T1
  clear T0 T1
  go_wp2_with (refine wpList_store_row rfl 25 (.tmp 10) (.tmp 37) rfl w3.heap.size Go.Proofs.YtjgingfcfmpfaaaDoor.a0.cells rfl rfl 25 Go.Proofs.YtjgingfcfmpfaaaDoor.a0.cells (heap_alloc_last _ _) sizeAdd rfl (Adf.oneCell _) ?_; rw [setRow_same _ _ _ _ _ HGz.out]; generalize World.alloc w3 _ = w4 at *)
  clear HGz
  have HO2 := Lib.hid (show OwnB w4 w1.heap.size 5 .u8 g 33 cap L from HO2.out)
  refine (number_any _ _ _ W1.out (by omega) (by omega)).mono ?_
  rintro e w' ⟨rfl, rfl⟩
  have k0 := nmod_lo n1 264 (by omega)
  have k1 := nmod_hi n1 264 (by omega)
  generalize nmod n1 264 = kk at *
  obtain ⟨k, rfl⟩ := Int.eq_ofNat_of_zero_le k0
  obtain ⟨q, hq⟩ : ∃ q, q = k / 8 := ⟨_, rfl⟩
  obtain ⟨m, hm⟩ : ∃ m, m = k % 8 := ⟨_, rfl⟩
  have hq1 : (q : Int) < 33 := by omega
  have hm1 : m < 8 := by omega
  have hiq : (k : Int) / 8 = (q : Int) := by omega
  have him : (k : Int) % 8 = (m : Int) := by omega
  have hqn : q < 33 := by omega
  clear hq hm
  have hc := HO2.out.cell q (by omega)
  have hf := HO2.out.frozen q
  have HR := Lib.hid (HW.out q (by omega))
  have HT := Lib.hid (tb_of (L.getD q 0) m HR.out hm1)
  have HO3 := Lib.hid (HO2.out.set q (tb (L.getD q 0) m))
  have HNS := Lib.hid (fun hr => not_same HLe.out HLL.out hqn HT.out.1 hr)
  have HW3 := Lib.hid (set_wf (q := q) HLL.out HW.out HT.out.2)
  have hx : bits .xor .u8 (L.getD q 0) (2 ^ m % 256) = tb (L.getD q 0) m := rfl
  have HGl := Lib.hid (Nat.le_trans (show w.heap.size ≤ w1.heap.size from HB1s.out) HO2.out.lt.1)
  have HGn := Lib.hid (show w.heap.size ≠ g by have h1 := HO2.out.lt.1; have h2 := HB1l.out; omega)
  have T0 := Lib.hid (HB.out.setCell (p := ⟨g, q, none⟩) HGl.out (.int .u8 (tb (L.getD q 0) m)))
  have T1 := Lib.hid (show (w4.setCell ⟨g, q, none⟩ (.int .u8 (tb (L.getD q 0) m))).heap[w.heap.size]? = some (.cells f0.cells 25 (0, 0)) from (((Below.refl (w.heap.size + 1) w4).setCell (p := ⟨g, q, none⟩) (by have := HGl.out; have := HGn.out; show w.heap.size + 1 ≤ g; omega) (.int .u8 (tb (L.getD q 0) m))).block w.heap.size (Nat.lt_succ_self _)).trans HG.out)
  clear HB HG HGl HGn
  have HB := T0
  have HG := T1
  clear T0 T1
  generalize hL' : L.set q (tb (L.getD q 0) m) = L' at *
  generalize L.getD q 0 = x at *
  generalize tb x m = y at *
  clear HR HT hL' HO2
  go_wp2_with (fail)
  generalize hw5 : World.setCell w4 _ _ = w5 at *
  clear hw5 hc hf hx hiq him hq1
  have HC := Lib.hid (readAdd_all (some ⟨g, 0, none⟩) 33 cap L' E w5 (HO3.out.row8 HW3.out) (HS.out.below HB.out).four HO3.out.cap_le)
  by_cases hr : rdAdd L' 33 = 0
  case neg =>
    rw [errV_pos E hr] at HC
    refine HC.out.mono ?_
    rintro e w6 ⟨rfl, hB⟩
    have T0 := Lib.hid (HB.out.trans (hB.mono HB.out.size))
    clear hB
    clear HB
    have HB := T0
    clear T0
    generalize outAdd L' 33 = p at *
    have T0 := Lib.hid (HB.out.alloc HB.out.size (.cells p.cells 25))
    clear HB
    have HB := T0
    clear T0
    go_wp2_with (refine wpList_store_row rfl 25 (.tmp 13) (.tmp 58) rfl w6.heap.size p.cells rfl rfl 25 Go.Proofs.YtjgingfcfmpfaaaDoor.a0.cells (heap_alloc_last _ _) sizeAdd rfl (Adf.oneCell _) ?_; rw [World.setRow_alloc_new]; generalize World.alloc w6 _ = w7 at *)
    refine (is_err E 101 101 w7 (HS.out.below HB.out) (.inr (by decide))).mono ?_
    rintro e w8 ⟨rfl, hB⟩
    rw [show (((101 : Nat) : Int) == 101) = true by decide]
    have T0 := Lib.hid (HB.out.trans (hB.mono HB.out.size))
    clear hB
    clear HB
    have HB := T0
    clear T0
    go_wp2
    go_ret
    exact ⟨rfl, HB.out⟩
  have HNS2 := Lib.hid (HNS.out hr)
  rw [hr, errV_zero] at HC
  refine HC.out.mono ?_
  rintro e w6 ⟨rfl, hB⟩
  have T0 := Lib.hid (HB.out.trans (hB.mono HB.out.size))
  have T1 := Lib.hid ((hB.block _ (lt_blk HG.out)).trans HG.out)
  clear hB
  clear HB HG
  have HB := T0
  have HG := T1
  clear T0 T1
  clear HC HNS hr
  generalize outAdd L' 33 = p at *
  have T0 := Lib.hid (HB.out.alloc HB.out.size (.cells p.cells 25))
  have T1 := Lib.hid (((Below.refl w6.heap.size w6).alloc (Nat.le_refl _) (.cells p.cells 25)).block _ (lt_blk HG.out) |>.trans HG.out)
  have HGp := Lib.hid (heap_alloc_last w6 (.cells p.cells 25))
  clear HB HG
  have HB := T0
  have HG := T1
  clear T0 T1
  go_wp2_with (refine wpList_store_row rfl 25 (.tmp 13) (.tmp 58) rfl w6.heap.size p.cells rfl rfl 25 Go.Proofs.YtjgingfcfmpfaaaDoor.a0.cells (heap_alloc_last _ _) sizeAdd rfl (Adf.oneCell _) ?_; rw [World.setRow_alloc_new]; generalize World.alloc w6 _ = w7 at *; generalize w6.heap.size = gp at *)
  refine (is_err E 101 101 w7 (HS.out.below HB.out) (.inr (by decide))).mono ?_
  rintro e w8 ⟨rfl, hB⟩
  rw [show (((101 : Nat) : Int) == 101) = true by decide]
  have T0 := Lib.hid (HB.out.trans (hB.mono HB.out.size))
  have T1 := Lib.hid ((hB.block _ (lt_blk HG.out)).trans HG.out)
  have T2 := Lib.hid ((hB.block _ (lt_blk HGp.out)).trans HGp.out)
  clear hB
  clear HB HG HGp
  have HB := T0
  have HG := T1
  have HGp := T2
  clear T0 T1 T2
  go_wp2_with (first
    | (refine wpList_load_if (by rfl) 25 (.tmp 13) rfl gp rfl 25 p.cells (0, 0) _ HGp.out Tryd.underlying25 rfl sizeAdd ?_)
    | (refine wpList_load_if (by rfl) 25 (.tmp 3) rfl w.heap.size rfl 25 f0.cells (0, 0) _ HG.out Tryd.underlying25 rfl sizeAdd ?_))
  refine (sameAdd_any p f0 w8).mono ?_
  rintro e w9 ⟨rfl, hB⟩
  rw [HNS2.out]
  have T0 := Lib.hid (HB.out.trans (hB.mono HB.out.size))
  clear hB
  clear HB
  have HB := T0
  clear T0
  go_wp2
  go_ret
  exact ⟨rfl, HB.out⟩

end Go.Proofs.YtjgingfcfmpfaaaDoor.actTurned
