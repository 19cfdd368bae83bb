/-
  The walk of muezzin/muezzinlaw4.CtlTurned: the Go text returns true.
-/
import Derived.Test.YtpiiodnhiolfbaaDoorCtlU
import Derived.Test.YtpiiodnhiolfbaaDoorOpenC
import Derived.Test.YtpiiodnhiolfbaaDoorErr
import Derived.WalkKit
import Derived.ProofKit
import Derived.Below
namespace Go.Proofs.YtpiiodnhiolfbaaDoor.ctlTurned
open Go.ChangeShapes Go.WideShapes Go.ChangeAt Go.RowKit Go.Joins
set_option linter.unusedVariables false
set_option linter.unusedSimpArgs false

/-- a byte with a bit turned. -/
def tb (x : Int) (m : Nat) : Int := bits .xor .u8 x (2 ^ m % 256)
theorem tb_nat : ∀ n : Nat, n < 256 → ∀ m : Nat, m < 8 → tb (n : Int) m ≠ n ∧ 0 ≤ tb (n : Int) m ∧ tb (n : Int) m ≤ 255 := by decide +kernel
theorem tb_of (x : Int) (m : Nat) (h : 0 ≤ x ∧ x ≤ 255) (hm : m < 8) : tb x m ≠ x ∧ 0 ≤ tb x m ∧ tb x m ≤ 255 := by
  obtain ⟨n, rfl⟩ := Int.eq_ofNat_of_zero_le h.1
  exact tb_nat n (by omega) m hm
theorem set_wf {L : List Int} {n q : Nat} {v : Int} (hl : L.length = n) (h : ∀ i, i < n → 0 ≤ L.getD i 0 ∧ L.getD i 0 ≤ 255) (hv : 0 ≤ v ∧ v ≤ 255) : ∀ i, i < n → 0 ≤ (L.set q v).getD i 0 ∧ (L.set q v).getD i 0 ≤ 255 := by
  intro i hi
  by_cases e : q = i
  · subst e
    simpa [List.getD, List.getElem?_set, hl, hi] using hv
  · have := h i hi
    simpa [List.getD, List.getElem?_set, e] using this
/-- what is read of an Ack's bytes with one of them turned is not the Ack. -/
theorem not_same {L : List Int} {f : Akf} {q : Nat} {v : Int} (hL : L = encA f) (hl : L.length = 28) (hq : q < 28) (hne : v ≠ L.getD q 0) (hw : ∀ i, i < 28 → 0 ≤ (L.set q v).getD i 0 ∧ (L.set q v).getD i 0 ≤ 255)
    (hr : rdW (L.set q v) 28 148 28 = 0) : sameA (outA (L.set q v) 28) f = false := by
  cases hs : sameA (outA (L.set q v) 28) f with
  | false => rfl
  | true =>
    exfalso
    obtain ⟨h1, h2⟩ := rdW_fine hr
    have e1 := sameA_eq hs
    rw [outA, if_pos hr] at e1
    have e2 := encA_dec (L.set q v) (by simp [hl]) hw (begC_fine h1 (by omega)).2 h2
    rw [e1, ← hL] at e2
    have e3 : (L.set q v).getD q 0 = v := by simp [List.getD, List.getElem?_set, hl, hq]
    rw [← e2] at e3
    exact hne e3.symm

/-! ### THE WALK -/
set_option maxRecDepth 100000 in
set_option maxHeartbeats 8000000 in
theorem walk (f0 : Akf) (n1 : Int) (w : World) (E : Nat → Addr) (hS : Sent w E [101, 102, 103, 105]) (w0 : IsAck f0) (w1 : (Lit.int .i64 n1).wf = true) :
    Calls Tryd.prog 6 #[f0.val, .int .i64 n1] w fun e w' => e = .returned (.bool true) ∧ Below w.heap.size w w' := by
  have HS := Lib.hid hS
  have HWt := Lib.hid (And.intro w0.t w0.f)
  have W1 := Lib.hid w1
  clear w0 w1 hS
  have HB0 := Lib.hid ((Below.refl w.heap.size w).alloc (Nat.le_refl _) (.cells f0.cells 28))
  have HZ0 := Lib.hid (show w.heap.size < (w.alloc (.cells f0.cells 28)).heap.size by simp)
  have HG0 := Lib.hid (heap_alloc_last w (.cells f0.cells 28))
  go_enter Tryd.func6, Tryd.ntmps6
  go_wp2_with (fail)
  refine (first_any _).mono ?_
  rintro e w1 ⟨rfl, hB⟩
  have HB1 := Lib.hid hB
  clear hB
  have HG1 := Lib.hid ((HB1.out.block _ HZ0.out).trans HG0.out)
  have HS1 := Lib.hid (HS.out.below (HB0.out.trans (HB1.out.mono HB0.out.size)))
  go_wp2_with (refine wpList_load_row rfl 28 (.tmp 2) rfl w.heap.size rfl 28 f0.cells (0, 0) _ HG1.out Tryd.underlying28 rfl sizeAck ?_)
  cases hok : okTS f0.tid f0.seq
  · refine (ack_no f0 E w1 hok HS1.out).mono ?_
    rintro e w2 ⟨rfl, hB⟩
    have HB2 := Lib.hid (HB1.out.trans (hB.mono HB1.out.size))
    clear hB
    go_wp2
    go_ret
    exact ⟨rfl, HB0.out.trans (HB2.out.mono HB0.out.size)⟩
  refine (ack_yes f0 w1 hok).mono ?_
  rintro e w2 ⟨g, cap, rfl, hO, hB⟩
  have HW := Lib.hid (encA_wf f0 HWt.out.1 HWt.out.2 hok)
  have HLL := Lib.hid (encA_len f0)
  have HL := Lib.hid (show ∃ L, L = encA f0 from ⟨_, rfl⟩)
  obtain ⟨L, hL⟩ := HL.out
  rw [← hL] at hO HLL HW
  have HLe := Lib.hid hL
  have HO2 := Lib.hid hO
  have HB2 := Lib.hid (HB1.out.trans (hB.mono HB1.out.size))
  clear hok hL hO hB HL
  go_wp2_with (fail)
  refine (number_any _ _ _ W1.out (by omega) (by omega)).mono ?_
  rintro e w' ⟨rfl, rfl⟩
  have k0 := nmod_lo n1 224 (by omega)
  have k1 := nmod_hi n1 224 (by omega)
  generalize nmod n1 224 = kk at *
  obtain ⟨k, rfl⟩ := Int.eq_ofNat_of_zero_le k0
  obtain ⟨q, hq⟩ : ∃ q, q = k / 8 := ⟨_, rfl⟩
  obtain ⟨m, hm⟩ : ∃ m, m = k % 8 := ⟨_, rfl⟩
  have hq1 : (q : Int) < 28 := by omega
  have hm1 : m < 8 := by omega
  have hiq : (k : Int) / 8 = (q : Int) := by omega
  have him : (k : Int) % 8 = (m : Int) := by omega
  have hqn : q < 28 := by omega
  clear hq hm
  have hc := HO2.out.cell q (by omega)
  have hf := HO2.out.frozen q
  have HR := Lib.hid (HW.out q (by omega))
  have HT := Lib.hid (tb_of (L.getD q 0) m HR.out hm1)
  have HO3 := Lib.hid (HO2.out.set q (tb (L.getD q 0) m))
  have HNS := Lib.hid (fun hr => not_same HLe.out HLL.out hqn HT.out.1 (set_wf HLL.out HW.out HT.out.2) hr)
  have HW3 := Lib.hid (set_wf (q := q) HLL.out HW.out HT.out.2)
  have hx : bits .xor .u8 (L.getD q 0) (2 ^ m % 256) = tb (L.getD q 0) m := rfl
  have HB3 := Lib.hid (HB2.out.setCell (p := ⟨g, q, none⟩) (Nat.le_trans HB1.out.size HO2.out.lt.1) (.int .u8 (tb (L.getD q 0) m)))
  generalize hL' : L.set q (tb (L.getD q 0) m) = L' at *
  generalize L.getD q 0 = x at *
  generalize tb x m = y at *
  clear HR HT hL'
  go_wp2_with (fail)
  generalize hw3 : World.setCell w2 _ _ = w3 at *
  clear hw3 hc hf hx hiq him hq1
  have HG3 := Lib.hid ((HB3.out.block _ HZ0.out).trans HG0.out)
  have HS3 := Lib.hid (HS.out.below (HB0.out.trans (HB3.out.mono HB0.out.size)))
  have HC := Lib.hid (readAck_all (some ⟨g, 0, none⟩) 28 cap L' E w3 (HO3.out.row8 HW3.out) HS3.out HO3.out.cap_le)
  by_cases hr : rdW L' 28 148 28 = 0
  case neg =>
    rw [errV_pos E hr] at HC
    refine HC.out.mono ?_
    rintro e w4 ⟨rfl, hB⟩
    have HB4 := Lib.hid (HB3.out.trans (hB.mono HB3.out.size))
    clear hB
    generalize outA L' 28 = p at *
    go_wp2_with (refine wpList_store_row rfl 28 (.tmp 9) (.tmp 46) rfl w4.heap.size p.cells rfl rfl 28 Go.Proofs.YtpiiodnhiolfbaaDoor.a0.cells (heap_alloc_last _ _) sizeAck rfl (Akf.oneCell _) ?_; rw [World.setRow_alloc_new])
    go_ret
    exact ⟨rfl, (HB0.out.trans (HB4.out.mono HB0.out.size)).alloc (by have := HB0.out.size; have := HB4.out.size; omega) _⟩
  have HNS2 := Lib.hid (HNS.out hr)
  rw [hr, errV_zero] at HC
  refine HC.out.mono ?_
  rintro e w4 ⟨rfl, hB⟩
  have HB4 := Lib.hid (HB3.out.trans (hB.mono HB3.out.size))
  clear hB HC HNS hr
  generalize outA L' 28 = p at *
  have HG5 := Lib.hid (show (w4.alloc (.cells p.cells 28)).heap[w.heap.size]? = some (.cells f0.cells 28 (0, 0)) from (Below.heap_alloc w4 _ _ (by have := HZ0.out; have := HB4.out.size; omega)).trans ((HB4.out.block _ HZ0.out).trans HG0.out))
  go_wp2_with (first
    | (refine wpList_store_row rfl 28 (.tmp 9) (.tmp 46) rfl w4.heap.size p.cells rfl rfl 28 Go.Proofs.YtpiiodnhiolfbaaDoor.a0.cells (heap_alloc_last _ _) sizeAck rfl (Akf.oneCell _) ?_; rw [World.setRow_alloc_new])
    | (refine wpList_load_if (by rfl) 28 (.tmp 9) rfl w4.heap.size rfl 28 p.cells (0, 0) _ (heap_alloc_last w4 _) Tryd.underlying28 rfl sizeAck ?_)
    | (refine wpList_load_if (by rfl) 28 (.tmp 2) rfl w.heap.size rfl 28 f0.cells (0, 0) _ HG5.out Tryd.underlying28 rfl sizeAck ?_))
  have HBF := Lib.hid ((HB0.out.trans (HB4.out.mono HB0.out.size)).alloc (by have := HB0.out.size; have := HB4.out.size; omega) (.cells p.cells 28))
  refine (sameAck_any p f0 _).mono ?_
  rintro e w6 ⟨rfl, hB⟩
  rw [HNS2.out]
  have HB6 := Lib.hid (HBF.out.trans (hB.mono HBF.out.size))
  clear hB
  go_wp2
  go_ret
  exact ⟨rfl, HB6.out⟩

end Go.Proofs.YtpiiodnhiolfbaaDoor.ctlTurned
