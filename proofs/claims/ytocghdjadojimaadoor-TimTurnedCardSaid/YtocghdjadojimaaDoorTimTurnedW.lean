/-
  The walk of muezzin/muezzinlaw6.TimTurned: the Go text returns true.
-/
import Derived.Test.YtocghdjadojimaaDoorTimX
import Derived.Test.YtocghdjadojimaaDoorTimN
import Derived.Test.YtocghdjadojimaaDoorOpenT
import Derived.WalkKit
import Derived.ProofKit
import Derived.Below
namespace Go.Proofs.YtocghdjadojimaaDoor.timTurned
open Go.ChangeShapes Go.WideShapes Go.ChangeAt Go.RowKit Go.Joins
set_option linter.unusedVariables false
set_option linter.unusedSimpArgs false

/-- a byte with a bit turned. -/
def tb (x : Int) (m : Nat) : Int := bits .xor .u8 x (2 ^ m % 256)
theorem tb_nat : ∀ n : Nat, n < 256 → ∀ m : Nat, m < 8 → tb (n : Int) m ≠ n ∧ 0 ≤ tb (n : Int) m ∧ tb (n : Int) m ≤ 255 := by decide +kernel
theorem tb_of (x : Int) (m : Nat) (h : 0 ≤ x ∧ x ≤ 255) (hm : m < 8) : tb x m ≠ x ∧ 0 ≤ tb x m ∧ tb x m ≤ 255 := by
  obtain ⟨n, rfl⟩ := Int.eq_ofNat_of_zero_le h.1
  exact tb_nat n (by omega) m hm
theorem pow_mod : ∀ m : Nat, m < 8 → IntKind.u8.wrap ((2 : Int) ^ m) = 2 ^ m % 256 := by decide
theorem set_wf {L : List Int} {n q : Nat} {v : Int} (hl : L.length = n) (h : ∀ i, i < n → 0 ≤ L.getD i 0 ∧ L.getD i 0 ≤ 255) (hv : 0 ≤ v ∧ v ≤ 255) : ∀ i, i < n → 0 ≤ (L.set q v).getD i 0 ∧ (L.set q v).getD i 0 ≤ 255 := by
  intro i hi
  by_cases e : q = i
  · subst e
    simpa [List.getD, List.getElem?_set, hl, hi] using hv
  · have := h i hi
    simpa [List.getD, List.getElem?_set, e] using this

/-! ### THE WALK -/
set_option maxRecDepth 100000 in
set_option maxHeartbeats 8000000 in
theorem walk (f0 : Tm) (a0 : Option Addr) (n0 k0 : Nat) (n1 : Int) (w : World) (E : Nat → Addr) (hS : Sent w E [101, 102, 103, 105]) (w0 : RowB .i64 w a0 n0 f0.l) (w1 : (Lit.int .i64 n1).wf = true) :
    Calls Tryd.prog 5 #[f0.val a0 n0 k0, .int .i64 n1] w fun e w' => e = .returned (.bool true) ∧ Below w.heap.size w w' := by
  have HS := Lib.hid (show Sent w E S4 from hS)
  have HR := Lib.hid w0
  have W1 := Lib.hid w1
  clear w0 w1 hS
  obtain ⟨qc, qp, qg, l⟩ := f0
  dsimp only at HR
  have HB := Lib.hid ((Below.refl w.heap.size w).alloc (Nat.le_refl _) (.cells ((Tm.mk qc qp qg l).cells a0 n0 k0) 24))
  have HG := Lib.hid (heap_alloc_last w (.cells ((Tm.mk qc qp qg l).cells a0 n0 k0) 24))
  go_enter Tryd.func5, Tryd.ntmps5
  go_wp2_with (fail)
  generalize World.alloc w _ = w0 at *
  refine (first_any w0).mono ?_
  rintro e w1 ⟨rfl, hB⟩
  have T0 := Lib.hid (HB.out.trans (hB.mono HB.out.size))
  have T1 := Lib.hid ((hB.block _ (lt_blk HG.out)).trans HG.out)
  clear hB HB HG
  have HB := T0
  have HG := T1
  clear T0 T1
  have d3 : w1.cell? ⟨w.heap.size, 3, none⟩ = some (.slice a0 n0 k0) := cell_of_row w1 _ 3 _ _ _ HG.out
  by_cases h60 : 60 < n0
  · have g1 : decide ((60 : Int) < (n0 : Int)) = true := by simp; omega
    have g2 : decide (60 < n0) = true := by simp; omega
    go_wp2
    go_ret
    exact ⟨rfl, HB.out⟩
  have g1 : decide ((60 : Int) < (n0 : Int)) = false := by simp; omega
  have g2 : decide (60 < n0) = false := by simp; omega
  go_wp2_with (refine wpList_load_row rfl 24 (.tmp 2) rfl w.heap.size rfl 24 ((Tm.mk qc qp qg l).cells a0 n0 k0) (0, 0) _ HG.out Tryd.underlying24 rfl sizeTim ?_)
  clear d3 g1 g2
  cases hok : okT ⟨qc, qp, qg, l⟩
  · refine (bytes_no ⟨qc, qp, qg, l⟩ a0 n0 k0 E w1 (HR.out.below HB.out) hok (HS.out.below HB.out)).mono ?_
    rintro e w2 ⟨rfl, hB⟩
    have T0 := Lib.hid (HB.out.trans (hB.mono HB.out.size))
    have T1 := Lib.hid ((hB.block _ (lt_blk HG.out)).trans HG.out)
    clear hB HB HG
    have HB := T0
    have HG := T1
    clear T0 T1
    go_wp2
    go_ret
    exact ⟨rfl, HB.out⟩
  obtain ⟨p1, p2, c1, c2, hr⟩ := okT_fine hok
  dsimp only at p1 p2 c1 c2 hr
  obtain ⟨f0, f1, f2, f3, f4, f5⟩ := fst_facts hr
  have HLEN := Lib.hid (encT_len ⟨qc, qp, qg, l⟩)
  have HWF := Lib.hid (all_wf (encT_len ⟨qc, qp, qg, l⟩) (encT_wf ⟨qc, qp, qg, l⟩ hok))
  have HOK := Lib.hid hok
  have HRI := Lib.hid hr
  have HLw := Lib.hid (lt_blk HG.out)
  refine (bytes_yes ⟨qc, qp, qg, l⟩ a0 n0 k0 w1 (HR.out.below HB.out) hok).mono ?_
  rintro e w2 ⟨g, cap, rfl, hO, hB⟩
  have HO := Lib.hid hO
  have hcap := hO.cap_le
  have HBs := Lib.hid HB.out.size
  dsimp only at HO hcap HLEN HWF
  clear hO hok hr p1 p2 c1 c2
  have T0 := Lib.hid (HB.out.trans (hB.mono HB.out.size))
  have T1 := Lib.hid ((hB.block _ (lt_blk HG.out)).trans HG.out)
  clear hB HB HG
  have HB := T0
  have HG := T1
  clear T0 T1
  clear f0 f1 f2 f3 f4
  have HLe := Lib.hid (show ∃ L, L = encT ⟨qc, qp, qg, l⟩ from ⟨_, rfl⟩)
  obtain ⟨L, hL⟩ := HLe.out
  rw [← hL] at HO HLEN HWF
  have HL := Lib.hid hL
  clear hL HLe
  generalize lenB l = m at *
  go_wp2_with (fail)
  refine (number_any _ _ _ W1.out (by omega) (by omega)).mono ?_
  rintro e w' ⟨rfl, rfl⟩
  have k1 := nmod_lo n1 (8 * ((m : Int) + 5)) (by omega)
  have k2 := nmod_hi n1 (8 * ((m : Int) + 5)) (by omega)
  generalize nmod n1 _ = kk at *
  obtain ⟨k, rfl⟩ := Int.eq_ofNat_of_zero_le k1
  obtain ⟨q, hq⟩ : ∃ q, q = k / 8 := ⟨_, rfl⟩
  obtain ⟨r, hr⟩ : ∃ r, r = k % 8 := ⟨_, rfl⟩
  have hq1 : (q : Int) < (m : Int) + 5 := by omega
  have hq2 : (q : Int) < ((m + 5 : Nat) : Int) := by omega
  have hr8 : r < 8 := by omega
  have hiq : (k : Int) / 8 = (q : Int) := by omega
  have him : (k : Int) % 8 = (r : Int) := by omega
  have hqn : q < m + 5 := by omega
  clear hq hr k1 k2
  have hc := HO.out.cell q hqn
  have hf := HO.out.frozen q
  have HT := Lib.hid (tb_of (L.getD q 0) r (HWF.out q hqn) hr8)
  have HNS := Lib.hid (fun h1 h2 => not_same (n := m + 5) HL.out (by rw [HLEN.out]; exact hqn) HT.out.1 h1 h2)
  have HW3 := Lib.hid (set_wf (q := q) HLEN.out HWF.out HT.out.2)
  have hx : bits .xor .u8 (L.getD q 0) (2 ^ r % 256) = tb (L.getD q 0) r := rfl
  have hx2 : bits .xor .u8 (L.getD q 0) (IntKind.u8.wrap (2 ^ r)) = tb (L.getD q 0) r := by rw [pow_mod r hr8]; rfl
  have HGl := Lib.hid (Nat.le_trans HBs.out HO.out.lt.1)
  have HGn := Lib.hid (show w.heap.size ≠ g by have h1 := HO.out.lt.1; have h2 := HLw.out; omega)
  generalize hL' : L.set q (tb (L.getD q 0) r) = L' at *
  have HSET := Lib.hid hL'
  generalize L.getD q 0 = x at *
  generalize tb x r = y at *
  clear HT hL'
  go_wp2_with (refine wpList_store_own rfl 5 (.tmp 50) (.tmp 49) rfl w1.heap.size 5 .u8 g q (m + 5) cap L L' y rfl rfl HO.out hqn sizeU8 HSET.out ?_; intro w5 hO hk hb; have HO3 := hO; have T0 := Lib.hid (hb.out _ _ HB.out HGl.out); have T1 := Lib.hid ((hk.out _ HGn.out).trans HG.out); clear HB HG HO hk hb hO hc hf; have HB := T0; have HG := T1; clear T0 T1)
  have HC := Lib.hid (read_all (some ⟨g, 0, none⟩) (m + 5) cap L' E w5 (HO3.out.row8 HW3.out) (HS.out.below HB.out) hcap)
  clear hx hx2 hiq him hq1 hq2 HW3
  by_cases hrd : rdT L' (m + 5) = 0
  case neg =>
    refine HC.out.mono ?_
    rintro e w6 ⟨A', k', rfl, hR, hB⟩
    rw [errV_pos E hrd]
    generalize outT L' (m + 5) = p at *
    obtain ⟨pc, pp, pg, pl⟩ := p
    dsimp only at *
    have T0 := Lib.hid (HB.out.trans (hB.mono HB.out.size))
    have T1 := Lib.hid ((hB.block _ (lt_blk HG.out)).trans HG.out)
    clear hB HB HG
    have HB := T0
    have HG := T1
    clear T0 T1
    have T0 := Lib.hid (HB.out.alloc HB.out.size (.cells ((Tm.mk pc pp pg pl).cells A' pl.length k') 24))
    clear HB
    have HB := T0
    go_wp2
    go_ret
    exact ⟨rfl, HB.out⟩
  have HNS2 := Lib.hid (HNS.out hrd)
  refine HC.out.mono ?_
  rintro e w6 ⟨A', k', rfl, hR, hB⟩
  rw [hrd, errV_zero]
  generalize outT L' (m + 5) = p at *
  have HSAME := Lib.hid (show sameT p ⟨qc, qp, qg, l⟩ = false by
    cases hs : sameT p ⟨qc, qp, qg, l⟩ with
    | false => rfl
    | true => exact absurd (sameT_eq hs) HNS2.out)
  clear HNS HNS2 HC hrd
  obtain ⟨pc, pp, pg, pl⟩ := p
  dsimp only at *
  have T0 := Lib.hid (HB.out.trans (hB.mono HB.out.size))
  have T1 := Lib.hid ((hB.block _ (lt_blk HG.out)).trans HG.out)
  clear hB HB HG
  have HB := T0
  have HG := T1
  clear T0 T1
  have T0 := Lib.hid (HB.out.alloc HB.out.size (.cells ((Tm.mk pc pp pg pl).cells A' pl.length k') 24))
  have T1 := Lib.hid (((Below.refl w6.heap.size w6).alloc (Nat.le_refl _) (.cells ((Tm.mk pc pp pg pl).cells A' pl.length k') 24)).block _ (lt_blk HG.out) |>.trans HG.out)
  have HGp := Lib.hid (heap_alloc_last w6 (.cells ((Tm.mk pc pp pg pl).cells A' pl.length k') 24))
  have HRP := Lib.hid (hR.below ((Below.refl w6.heap.size w6).alloc (Nat.le_refl _) (.cells ((Tm.mk pc pp pg pl).cells A' pl.length k') 24)))
  clear HB HG hR
  have HB := T0
  have HG := T1
  clear T0 T1
  go_wp2_with (first
    | (refine wpList_store_row rfl 24 (.tmp 9) (.tmp 54) rfl w6.heap.size ((Tm.mk pc pp pg pl).cells A' pl.length k') rfl rfl 24 t0c (heap_alloc_last _ _) sizeTim rfl (Tm.oneCell _ _ _ _) ?_; rw [World.setRow_alloc_new]; generalize World.alloc w6 _ = w7 at *; generalize w6.heap.size = gp at *)
    | (refine wpList_load_if (by rfl) 24 (.tmp 9) rfl gp rfl 24 ((Tm.mk pc pp pg pl).cells A' pl.length k') (0, 0) _ HGp.out Tryd.underlying24 rfl sizeTim ?_)
    | (refine wpList_load_if (by rfl) 24 (.tmp 2) rfl w.heap.size rfl 24 ((Tm.mk qc qp qg l).cells a0 n0 k0) (0, 0) _ HG.out Tryd.underlying24 rfl sizeTim ?_))
  refine (sameTim_any ⟨pc, pp, pg, pl⟩ ⟨qc, qp, qg, l⟩ A' pl.length k' a0 n0 k0 w7 HRP.out (HR.out.below HB.out)).mono ?_
  rintro e w9 ⟨rfl, hB⟩
  rw [HSAME.out]
  have T0 := Lib.hid (HB.out.trans (hB.mono HB.out.size))
  have T1 := Lib.hid ((hB.block _ (lt_blk HG.out)).trans HG.out)
  clear hB HB HG
  have HB := T0
  have HG := T1
  clear T0 T1
  go_wp2
  go_ret
  exact ⟨rfl, HB.out⟩
end Go.Proofs.YtocghdjadojimaaDoor.timTurned
