/-
  CONTRACTS of package qos's reading: flagsFit, trafficFits, headFits, bytes.Clone, Read.
-/
import Derived.Test.YtogcpommidfmnaaDoorFr
import Derived.Test.YtogcpommidfmnaaDoorErr
import Derived.Deep.MidRow
import Derived.Lib.SliceRun
import Derived.Laws.CopyOwn
import Derived.Deep.RegionLaw
import Derived.ChangeAlike
import Derived.Stop.LaidErr
namespace Go.Proofs.YtogcpommidfmnaaDoor
open Go.ChangeShapes Go.WideShapes Go.ChangeAt Go.RowKit
set_option linter.unusedVariables false

def ffB (v : Int) : Bool := v == 2 || v == 10 || v == 34 || v == 42
def tfB (v : Int) : Bool := decide (v < 8) || (decide (16 ≤ v) && decide (v < 24))

theorem u8all {p : Int → Prop} (h : ∀ n : Nat, n < 256 → p (n : Int)) (v : Int) (h0 : 0 ≤ v) (h1 : v ≤ 255) : p v := by
  obtain ⟨m, rfl⟩ := Int.eq_ofNat_of_zero_le h0
  exact h m (by omega)
theorem ff_nat : ∀ n : Nat, n < 256 → (bits .and .u8 (n : Int) 2 != 0 && bits .andNot .u8 (n : Int) 42 == 0) = ffB n := by decide +kernel
theorem tf_nat : ∀ n : Nat, n < 256 → decide (bits .andNot .u8 (n : Int) 16 < 8) = tfB n := by decide +kernel

set_option maxRecDepth 100000 in
set_option maxHeartbeats 4000000 in
theorem flagsFit_any (v : Int) (w : World) (h0 : 0 ≤ v) (h1 : v ≤ 255) :
    Calls Tryd.prog 33 #[.int .u8 v] w fun e w' => e = .returned (.bool (ffB v)) ∧ w = w' := by
  have HF := Lib.hid (u8all (p := fun v => (bits .and .u8 v 2 != 0 && bits .andNot .u8 v 42 == 0) = ffB v) ff_nat v h0 h1)
  cases hx : (bits .and .u8 v 2 != 0)
  · rw [hx] at HF
    have hy : (bits .and .u8 v 2 == 0) = true := by simpa using hx
    go_enter Tryd.func33, Tryd.ntmps33
    go_wp2
    go_ret
    exact ⟨ret_b (by rw [← HF.out]; simp), rfl⟩
  · rw [hx, Bool.true_and] at HF
    have hy : (bits .and .u8 v 2 == 0) = false := by simpa using hx
    go_enter Tryd.func33, Tryd.ntmps33
    go_wp2
    go_ret
    exact ⟨ret_b HF.out.symm, rfl⟩
set_option maxRecDepth 100000 in
set_option maxHeartbeats 4000000 in
theorem trafficFits_any (v : Int) (w : World) (h0 : 0 ≤ v) (h1 : v ≤ 255) :
    Calls Tryd.prog 34 #[.int .u8 v] w fun e w' => e = .returned (.bool (tfB v)) ∧ w = w' := by
  have HF := Lib.hid (u8all (p := fun v => decide (bits .andNot .u8 v 16 < 8) = tfB v) tf_nat v h0 h1)
  go_enter Tryd.func34, Tryd.ntmps34
  go_wp2
  go_ret
  exact ⟨ret_b HF.out.symm, rfl⟩

/-- nothing in the head that may not be, its kind left aside. -/
def hfB (xs : List Int) : Bool := ffB (xs.getD 1 0) && xs.getD 2 0 == 0 && xs.getD 3 0 == 0 && xs.getD 22 0 % 16 == 0 && tfB (xs.getD 24 0) && xs.getD 25 0 == 0

set_option maxRecDepth 100000 in
set_option maxHeartbeats 8000000 in
theorem headFits_any (A : Option Addr) (n c : Nat) (xs : List Int) (w : World) (h : RowB .u8 w A n xs) (hn : 26 ≤ n) :
    Calls Tryd.prog 22 #[.slice A n c] w fun e w' => e = .returned (.bool (hfB xs)) ∧ w = w' := by
  have hle := h.le
  unfold maxLen at hle
  obtain ⟨b, off, rfl, hc⟩ := h.cells (by omega)
  have c1 := hc 1 (by omega)
  have c2 := hc 2 (by omega)
  have c3 := hc 3 (by omega)
  have c22 := hc 22 (by omega)
  have c24 := hc 24 (by omega)
  have c25 := hc 25 (by omega)
  obtain ⟨l1, u1⟩ := h.wf8 1 (by omega)
  obtain ⟨l22, u22⟩ := h.wf8 22 (by omega)
  obtain ⟨l24, u24⟩ := h.wf8 24 (by omega)
  have hn' : (26 : Int) ≤ (n : Int) := by omega
  have HU := Lib.hid (show hfB xs = (ffB (xs.getD 1 0) && xs.getD 2 0 == 0 && xs.getD 3 0 == 0 && xs.getD 22 0 % 16 == 0 && tfB (xs.getD 24 0) && xs.getD 25 0 == 0) from rfl)
  clear hc h
  generalize hfB xs = res at *
  generalize xs.getD 1 0 = v1 at *
  generalize xs.getD 2 0 = v2 at *
  generalize xs.getD 3 0 = v3 at *
  generalize xs.getD 22 0 = v22 at *
  generalize xs.getD 24 0 = v24 at *
  generalize xs.getD 25 0 = v25 at *
  have H1 := Lib.hid (flagsFit_any v1 w l1 u1)
  have H2 := Lib.hid (trafficFits_any v24 w l24 u24)
  generalize ffB v1 = s1 at *
  generalize tfB v24 = s24 at *
  cases s1
  · have HV := Lib.hid (show res = false by rw [HU.out]; simp)
    go_enter Tryd.func22, Tryd.ntmps22
    go_wp2_with (go_at_call 33; refine H1.out.mono ?_; rintro e w' ⟨rfl, rfl⟩)
    go_ret
    exact ⟨ret_b HV.out, rfl⟩
  cases h2 : (v2 == 0)
  · have HV := Lib.hid (show res = false by rw [HU.out, h2]; simp)
    go_enter Tryd.func22, Tryd.ntmps22
    go_wp2_with (go_at_call 33; refine H1.out.mono ?_; rintro e w' ⟨rfl, rfl⟩)
    go_ret
    exact ⟨ret_b HV.out, rfl⟩
  cases h3 : (v3 == 0)
  · have HV := Lib.hid (show res = false by rw [HU.out, h3]; simp)
    go_enter Tryd.func22, Tryd.ntmps22
    go_wp2_with (go_at_call 33; refine H1.out.mono ?_; rintro e w' ⟨rfl, rfl⟩)
    go_ret
    exact ⟨ret_b HV.out, rfl⟩
  cases h22 : (v22 % 16 == 0)
  · have HV := Lib.hid (show res = false by rw [HU.out, h22]; simp)
    go_enter Tryd.func22, Tryd.ntmps22
    go_wp2_with (go_at_call 33; refine H1.out.mono ?_; rintro e w' ⟨rfl, rfl⟩)
    go_ret
    exact ⟨ret_b HV.out, rfl⟩
  cases s24
  · have HV := Lib.hid (show res = false by rw [HU.out]; simp)
    go_enter Tryd.func22, Tryd.ntmps22
    go_wp2_with (first | (go_at_call 33; refine H1.out.mono ?_; rintro e w' ⟨rfl, rfl⟩) | (go_at_call 34; refine H2.out.mono ?_; rintro e w' ⟨rfl, rfl⟩))
    go_ret
    exact ⟨ret_b HV.out, rfl⟩
  · have HV := Lib.hid (show res = (v25 == 0) by rw [HU.out, h2, h3, h22]; simp)
    go_enter Tryd.func22, Tryd.ntmps22
    go_wp2_with (first | (go_at_call 33; refine H1.out.mono ?_; rintro e w' ⟨rfl, rfl⟩) | (go_at_call 34; refine H2.out.mono ?_; rintro e w' ⟨rfl, rfl⟩))
    go_ret
    exact ⟨ret_b HV.out, rfl⟩

set_option maxRecDepth 100000 in
set_option maxHeartbeats 4000000 in
theorem clone_any (b off n c : Nat) (xs : List Int) (w : World) (h : RowB .u8 w (some ⟨b, off, none⟩) n xs) (hn : n ≤ 1000000000) :
    Calls Tryd.prog 23 #[.slice (some ⟨b, off, none⟩) n c] w fun e w' => ∃ g cap, e = .returned (.slice (some ⟨g, 0, none⟩) n cap) ∧ OwnB w' w.heap.size 5 .u8 g n cap xs ∧ Below w.heap.size w w' := by
  obtain ⟨i0, hi0, hz0, hz1, hz2⟩ := info_parts byte_info
  have HR := Lib.hid h
  have HN := Lib.hid (show ∀ j u, (xs.map (Value.int .u8))[j]? = some u → (w.alloc (.cells #[] 5)).cell? ((⟨b, off, none⟩ : Addr).add j) = some u from fun j u hu => by
    simp only [List.getElem?_map, Option.map_eq_some_iff] at hu
    obtain ⟨x, hx, rfl⟩ := hu
    have hj : j < n := by have := (List.getElem?_eq_some_iff.1 hx).1; have := h.len; omega
    obtain ⟨b', off', e, hc⟩ := h.el j hj
    cases e
    rw [show (⟨b, off, none⟩ : Addr).add j = ⟨b, off + j, none⟩ from Addr.add_mid b off j]
    have hx' : xs.getD j 0 = x := by simp [List.getD, hx]
    rw [hx'] at hc
    exact cell?_alloc_old _ hc)
  have HO := Lib.hid (show OwnB (w.alloc (.cells #[] 5)) w.heap.size 5 .u8 w.heap.size 0 0 [] from World.ownsRow_lit w #[] 0 (Nat.le_refl _) (by unfold maxLen; omega) rfl)
  have HB := Lib.hid ((Below.refl w.heap.size w).alloc (Nat.le_refl _) (.cells #[] 5))
  have hq := Lib.run_eql_slice_nil (P := Tryd.prog) w 24 5 (some ⟨b, off, none⟩) n c 0 0 Tryd.underlying24
  simp only [Option.isNone_some] at hq
  clear h
  go_enter Tryd.func23, Tryd.ntmps23
  go_wp2_with (at_builtin; refine wpList_append_own _ rfl (.tmp 5) (.tmp 6) 24 rfl w.heap.size 5 i0 _ 1 1 Tryd.underlying24 hi0 hz0 hz1 hz2 rfl (by omega) (.slice (some ⟨w.heap.size, 0, none⟩) 0 0) 0 [] rfl HO.out ⟨b, off, none⟩ n c (xs.map (Value.int .u8)) rfl (by simp [HR.out.len]) HN.out (by intro u hu; simp at hu; obtain ⟨x, _, rfl⟩ := hu; rfl) (by unfold maxLen; omega) (by omega) (by simp) ?_; intro v' w2 hown' hgrow' hnil)
  have HB3 := Lib.hid (HB.out.grown hgrow' (by simp) (by intro q hq; simp [Value.ownBlock] at hq; omega))
  rcases hown'.2 with ⟨hv, _⟩ | ⟨g, cap, cur, hv, _⟩
  · exact absurd (hnil.1 hv).1 (by simp)
  subst hv
  have HO3 := Lib.hid (show OwnB w2 w.heap.size 5 .u8 g n cap xs by have := hown'; simpa [OwnB] using this)
  clear hown' hgrow' hnil
  rw [Nat.zero_add]
  go_wp2
  go_ret
  exact ⟨g, cap, rfl, HO3.out, HB3.out⟩

end Go.Proofs.YtogcpommidfmnaaDoor
