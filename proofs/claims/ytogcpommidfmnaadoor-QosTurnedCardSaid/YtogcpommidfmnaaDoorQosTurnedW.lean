/-
  The walk of muezzin/muezzinlaw3.QosTurned: the Go text returns true.
-/
import Derived.Test.YtogcpommidfmnaaDoorQosF
import Derived.Test.YtogcpommidfmnaaDoorOpen
import Derived.Test.YtogcpommidfmnaaDoorErr
import Derived.WalkKit
import Derived.ProofKit
import Derived.Below
namespace Go.Proofs.YtogcpommidfmnaaDoor.qosTurned
open Go.ChangeShapes Go.WideShapes Go.ChangeAt Go.RowKit Go.Joins
set_option linter.unusedVariables false
set_option linter.unusedSimpArgs false

/-- a byte with a bit turned. -/
def tb (x : Int) (m : Nat) : Int := bits .xor .u8 x (2 ^ m % 256)
theorem tb_nat : ∀ n : Nat, n < 256 → ∀ m : Nat, m < 8 → tb (n : Int) m ≠ n ∧ 0 ≤ tb (n : Int) m ∧ tb (n : Int) m ≤ 255 := by decide +kernel
theorem tb_of (x : Int) (m : Nat) (h : 0 ≤ x ∧ x ≤ 255) (hm : m < 8) : tb x m ≠ x ∧ 0 ≤ tb x m ∧ tb x m ≤ 255 := by
  obtain ⟨n, rfl⟩ := Int.eq_ofNat_of_zero_le h.1
  exact tb_nat n (by omega) m hm
theorem set_wf {L : List Int} {n q : Nat} {v : Int} (hl : L.length = n) (h : ∀ i, i < n → 0 ≤ L.getD i 0 ∧ L.getD i 0 ≤ 255) (hv : 0 ≤ v ∧ v ≤ 255) : ∀ i, i < n → 0 ≤ (L.set q v).getD i 0 ∧ (L.set q v).getD i 0 ≤ 255 := by
  intro i hi
  by_cases e : q = i
  · subst e
    simpa [List.getD, List.getElem?_set, hl, hi] using hv
  · have := h i hi
    simpa [List.getD, List.getElem?_set, e] using this
/-- what is read of a head with a bit turned is not the frame. -/
theorem not_same {L : List Int} {xs : List Int} {f : Qf} {q n : Nat} {v : Int} (hL : L = encQ f xs) (hl : L.length = n) (hq : q < n) (hne : v ≠ L.getD q 0) (hw : ∀ i, i < n → 0 ≤ (L.set q v).getD i 0 ∧ (L.set q v).getD i 0 ≤ 255)
    (hr : rdB (L.set q v) n = 0) (A : Option Addr) (m c : Nat) : sameQ (decQ (L.set q v) A m c) f ((L.set q v).drop 26) xs = false := by
  obtain ⟨h1, h2, h3, h4⟩ := rd_fine hr
  cases hs : sameQ (decQ (L.set q v) A m c) f ((L.set q v).drop 26) xs with
  | false => rfl
  | true =>
    exfalso
    have e1 := enc_same hs
    have e2 := (enc_dec (L.set q v) (by simp; omega) (fun i hi => hw i (by omega)) h3 h4 A m c).1
    rw [e2, ← hL] at e1
    have e3 : (L.set q v).getD q 0 = v := by simp [List.getD, List.getElem?_set, hl, hq]
    rw [e1] at e3
    exact hne e3.symm

/-! ### THE WALK -/
set_option maxRecDepth 100000 in
set_option maxHeartbeats 8000000 in
theorem walk (f0 : Qf) (z0 : List Int) (n1 : Int) (w : World) (E : Nat → Addr) (hS : Sent w E [101, 102, 103, 105]) (w0 : IsQf w f0 z0) (w1 : (Lit.int .i64 n1).wf = true) :
    Calls Tryd.prog 6 #[f0.val, .int .i64 n1] w fun e w' => e = .returned (.bool true) ∧ Below w.heap.size w w' := by
  have HX := Lib.hid (RowB.of_row w0.row)
  have HN := Lib.hid w0.nil
  have HWt := Lib.hid (And.intro w0.t (And.intro w0.b w0.f))
  have HS := Lib.hid hS
  have HLC := Lib.hid w0.row.len_cap.1
  generalize z0.take f0.n = xs at HX
  clear w0 hS
  have HB0 := Lib.hid ((Below.refl w.heap.size w).alloc (Nat.le_refl _) (.cells f0.cells 26))
  have HZ0 := Lib.hid (show w.heap.size < (w.alloc (.cells f0.cells 26)).heap.size by simp)
  have HG0 := Lib.hid (heap_alloc_last w (.cells f0.cells 26))
  have W1 := Lib.hid w1
  clear w1
  by_cases h60 : (60 : Int) < (f0.n : Int)
  · go_enter Tryd.func6, Tryd.ntmps6
    go_wp2_with (fail)
    refine (first_any _).mono ?_
    rintro e w1 ⟨rfl, hB⟩
    have HB1 := Lib.hid hB
    have c23 := q_at hB HZ0.out 23
    dsimp only [Qf.cells] at c23
    clear hB
    go_wp2
    go_ret
    exact ⟨rfl, HB0.out.trans (HB1.out.mono HB0.out.size)⟩
  have hd60 : decide ((60 : Int) < (f0.n : Int)) = false := by simpa using h60
  have h60' : f0.n ≤ 60 := by omega
  clear h60
  go_enter Tryd.func6, Tryd.ntmps6
  go_wp2_with (fail)
  refine (first_any _).mono ?_
  rintro e w1 ⟨rfl, hB⟩
  have HB1 := Lib.hid hB
  have c23 := q_at hB HZ0.out 23
  dsimp only [Qf.cells] at c23
  clear hB
  have HG1 := Lib.hid ((HB1.out.block _ HZ0.out).trans HG0.out)
  have HS1 := Lib.hid (HS.out.below (HB0.out.trans (HB1.out.mono HB0.out.size)))
  have HX1 := Lib.hid (HX.out.below (HB0.out.trans (HB1.out.mono HB0.out.size)))
  go_wp2_with (refine wpList_load_row rfl 26 (.tmp 2) rfl w.heap.size rfl 26 f0.cells (0, 0) _ HG1.out Tryd.underlying26 rfl size26 ?_)
  clear hd60 c23
  by_cases hok : f0.okB = true
  case neg =>
    refine (bytes_no f0 E w1 (by simpa using hok) (HS1.out.at_ 103 (by decide))).mono ?_
    rintro e w2 ⟨rfl, hB⟩
    have HB2 := Lib.hid (HB1.out.trans (hB.mono HB1.out.size))
    clear hB
    go_wp2
    go_ret
    exact ⟨rfl, HB0.out.trans (HB2.out.mono HB0.out.size)⟩
  refine (bytes_yes f0 xs w1 hok HX1.out HN.out).mono ?_
  rintro e w2 ⟨g, cap, rfl, hO, hB⟩
  have HLX := Lib.hid (show 26 + xs.length = 26 + f0.n by rw [HX.out.len])
  have HLL := Lib.hid ((enc_len f0 xs).trans HLX.out)
  have HW := Lib.hid (show ∀ i, i < 26 + f0.n → 0 ≤ (encQ f0 xs).getD i 0 ∧ (encQ f0 xs).getD i 0 ≤ 255 from fun i hi => enc_wf f0 xs hok HWt.out.1 HWt.out.2.1 HWt.out.2.2 (fun i hi => HX.out.wf8 i (by rw [← HX.out.len]; exact hi)) i (by rw [HLX.out]; exact hi))
  have HL := Lib.hid (show ∃ L, L = encQ f0 xs from ⟨_, rfl⟩)
  obtain ⟨L, hL⟩ := HL.out
  rw [← hL] at hO HLL HW
  have HLe := Lib.hid hL
  have HO2 := Lib.hid hO
  have HB2 := Lib.hid (HB1.out.trans (hB.mono HB1.out.size))
  clear hok hL hO hB HL
  go_wp2_with (fail)
  refine (number_any _ _ _ W1.out (by omega) (by omega)).mono ?_
  rintro e w' ⟨rfl, rfl⟩
  have k0 := nmod_lo n1 208 (by omega)
  have k1 := nmod_hi n1 208 (by omega)
  generalize nmod n1 208 = kk at *
  obtain ⟨k, rfl⟩ := Int.eq_ofNat_of_zero_le k0
  obtain ⟨q, hq⟩ : ∃ q, q = k / 8 := ⟨_, rfl⟩
  obtain ⟨m, hm⟩ : ∃ m, m = k % 8 := ⟨_, rfl⟩
  have hq1 : (q : Int) < 26 + (f0.n : Int) := by omega
  have hq2 : (q : Int) < ((26 + f0.n : Nat) : Int) := by omega
  have hm1 : m < 8 := by omega
  have hiq : (k : Int) / 8 = (q : Int) := by omega
  have him : (k : Int) % 8 = (m : Int) := by omega
  have hqn : q < 26 := by omega
  clear hq hm
  have hc := HO2.out.cell q (by omega)
  have hf := HO2.out.frozen q
  have HR := Lib.hid (HW.out q (by omega))
  have HT := Lib.hid (tb_of (L.getD q 0) m HR.out hm1)
  have HO3 := Lib.hid (HO2.out.set q (tb (L.getD q 0) m))
  have HNS := Lib.hid (fun hr A mm c => not_same (A := A) (m := mm) (c := c) HLe.out HLL.out (show q < 26 + f0.n by omega) HT.out.1 (set_wf HLL.out HW.out HT.out.2) hr)
  have HW3 := Lib.hid (set_wf (q := q) HLL.out HW.out HT.out.2)
  have hx : bits .xor .u8 (L.getD q 0) (2 ^ m % 256) = tb (L.getD q 0) m := rfl
  have HB3 := Lib.hid (HB2.out.setCell (p := ⟨g, q, none⟩) (Nat.le_trans HB1.out.size HO2.out.lt.1) (.int .u8 (tb (L.getD q 0) m)))
  generalize hL' : L.set q (tb (L.getD q 0) m) = L' at *
  generalize L.getD q 0 = x at *
  generalize tb x m = y at *
  clear HR HT hL'
  go_wp2_with (fail)
  generalize hw3 : World.setCell w2 _ _ = w3 at *
  clear hw3 hc hf hx hiq him hq1 hq2
  have HG3 := Lib.hid ((HB3.out.block _ HZ0.out).trans HG0.out)
  have HS3 := Lib.hid (HS.out.below (HB0.out.trans (HB3.out.mono HB0.out.size)))
  have HX3 := Lib.hid (HX.out.below (HB0.out.trans (HB3.out.mono HB0.out.size)))
  by_cases hr : rdB L' (26 + f0.n) = 0
  case neg =>
    have HC := Lib.hid (rd_14 hr)
    refine (read_bad _ _ _ L' E w3 (HO3.out.row8 HW3.out) HS3.out hr).mono ?_
    rintro e w4 ⟨rfl, hB⟩
    have HB4 := Lib.hid (HB3.out.trans (hB.mono HB3.out.size))
    clear hB
    go_wp2_with (refine wpList_store_row rfl 26 (.tmp 9) (.tmp 51) rfl w4.heap.size Go.Proofs.YtogcpommidfmnaaDoor.q0.cells rfl rfl 26 Go.Proofs.YtogcpommidfmnaaDoor.q0.cells (heap_alloc_last _ _) size26 rfl (Qf.oneCell _) ?_; rw [World.setRow_alloc_new])
    go_ret
    exact ⟨rfl, (HB0.out.trans (HB4.out.mono HB0.out.size)).alloc (by have := HB0.out.size; have := HB4.out.size; omega) _⟩
  have HNS2 := Lib.hid (HNS.out hr)
  refine (read_good _ _ _ L' w3 (HO3.out.row8 HW3.out) HO3.out.cap_le hr).mono ?_
  rintro e w4 ⟨g4, cap4, rfl, hO, hB⟩
  have HB4 := Lib.hid (HB3.out.trans (hB.mono HB3.out.size))
  have HW4 := Lib.hid (fun i (hi : i < 26 + f0.n - 26) => show 0 ≤ (L'.drop 26).getD i 0 ∧ (L'.drop 26).getD i 0 ≤ 255 by rw [show (L'.drop 26).getD i 0 = L'.getD (26 + i) 0 by simp [List.getD]]; exact HW3.out _ (by omega))
  have HR4 := Lib.hid (hO.row8 HW4.out)
  generalize hp : decQ L' (some ⟨g4, 0, none⟩) (26 + f0.n - 26) cap4 = p at *
  have HP := Lib.hid hp
  clear hO hB hr hp
  have HG5 := Lib.hid (show (w4.alloc (.cells p.cells 26)).heap[w.heap.size]? = some (.cells f0.cells 26 (0, 0)) from (Below.heap_alloc w4 _ _ (by have := HZ0.out; have := HB4.out.size; omega)).trans ((HB4.out.block _ HZ0.out).trans HG0.out))
  go_wp2_with (first
    | (refine wpList_store_row rfl 26 (.tmp 9) (.tmp 51) rfl w4.heap.size p.cells rfl rfl 26 Go.Proofs.YtogcpommidfmnaaDoor.q0.cells (heap_alloc_last _ _) size26 rfl (Qf.oneCell _) ?_; rw [World.setRow_alloc_new])
    | (refine wpList_load_if (by rfl) 26 (.tmp 9) rfl w4.heap.size rfl 26 p.cells (0, 0) _ (heap_alloc_last w4 _) Tryd.underlying26 rfl size26 ?_)
    | (refine wpList_load_if (by rfl) 26 (.tmp 2) rfl w.heap.size rfl 26 f0.cells (0, 0) _ HG5.out Tryd.underlying26 rfl size26 ?_))
  have HX5 := Lib.hid ((HX.out.below (HB0.out.trans (HB4.out.mono HB0.out.size))).below ((Below.refl w4.heap.size w4).alloc (Nat.le_refl _) (.cells p.cells 26)))
  have HR5 := Lib.hid (HR4.out.below ((Below.refl w4.heap.size w4).alloc (Nat.le_refl _) (.cells p.cells 26)))
  have HBF := Lib.hid ((HB0.out.trans (HB4.out.mono HB0.out.size)).alloc (by have := HB0.out.size; have := HB4.out.size; omega) (.cells p.cells 26))
  have HPA := Lib.hid (show p.A = some ⟨g4, 0, none⟩ ∧ p.n = 26 + f0.n - 26 by rw [← HP.out]; exact ⟨rfl, rfl⟩)
  refine (sameQ_any p f0 (L'.drop 26) xs _ (by rw [HPA.out.1, HPA.out.2]; exact HR5.out) HX5.out).mono ?_
  rintro e w6 ⟨rfl, hB⟩
  rw [show sameQ p f0 (L'.drop 26) xs = false by rw [← HP.out]; exact HNS2.out _ _ _]
  have HB6 := Lib.hid (HBF.out.trans (hB.mono HBF.out.size))
  clear hB
  go_wp2
  go_ret
  exact ⟨rfl, HB6.out⟩

end Go.Proofs.YtogcpommidfmnaaDoor.qosTurned
