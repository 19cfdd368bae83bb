/-
  THE REFERENCE's POOL: there, Has, Len, Bytes.
-/
import Derived.Test.YtndkmgcmegcieaaGreatDoorRpA
import Derived.Test.YtndkmgcmegcieaaGreatDoorFqRe
import Derived.Test.YtndkmgcmegcieaaGreatDoorPoolD
namespace Go.Proofs.YtndkmgcmegcieaaGreatDoor
open Go.ChangeShapes Go.WideShapes Go.ChangeAt Go.RowKit Go.Deep
set_option linter.unusedVariables false
set_option linter.unusedSimpArgs false
def FullR (X : Nat → Option Qs) : Prop := ∀ k, k < 136 → ∃ s, X k = some s
def mR (X : Nat → Option Qs) (k : Nat) : Qu := mOf X (8 + k)
theorem FewC.fewQ {q : Qu} (h : FewC q) : FewQ q := ⟨fun b hb => by have := h.len b hb; omega, fun b hb p hp => (h.el b hb p hp).2.2⟩
theorem bytesTo_all (q : Qu) : ∀ n, bytesTo q n = bytesF (allTo q n)
 | 0 => rfl
 | n + 1 => by rw [bytesTo_succ, allTo_succ, bytesF_app, bytesTo_all q n]
theorem mR_some {X : Nat → Option Qs} {a t : Nat} {s : Qs} (h : X ((a + 1) * 8 + t) = some s) : mR X (8 * a + t) = s.q := by
 unfold mR
 rw [show 8 + (8 * a + t) = (a + 1) * 8 + t by omega]
 exact mOf_some h
theorem rpl_few {T : Nat → Prop} {w : World} {g : Nat} {h : Hd} {X : Nat → Option Qs} (hp : IsRpl T w g h X) {k : Nat} (hk : k < 128) : FewC (mR X k) := by
 unfold mR
 cases hx : X (8 + k) with
 | none => rw [mOf_none hx]; exact few_quZ
 | some s => rw [mOf_some hx]; exact (hp.qs (8 + k) (by omega) s hx).few
theorem all_len (M : Nat → Qu) (hF : ∀ k, k < 128 → FewC (M k)) : ∀ n, n ≤ 128 → (allP M n).length ≤ 16000 * n ∧ 0 ≤ bytesF (allP M n) ∧ bytesF (allP M n) ≤ 16000000000 * (n : Int)
 | 0, _ => ⟨Nat.le_refl _, Int.le_refl _, Int.le_refl _⟩
 | n + 1, hn => by
  obtain ⟨h1, h2, h3⟩ := all_len M hF n (by omega)
  have h4 := (hF n (by omega)).all
  have h5 := (hF n (by omega)).byt
  rw [allP_succ, List.length_append, bytesF_app]
  omega
set_option maxRecDepth 100000 in
set_option maxHeartbeats 8000000 in
theorem there_any (aid tid : Int) (w : World) (b : Bool) (hb : b = true ↔ knownP aid tid) :
 Calls Tryz.prog 36 #[.int .i64 aid, .int .i64 tid] w fun e w' => e = .returned (.bool b) ∧ w = w' := by
 unfold knownP at hb
 rcases Int.lt_or_le aid 1 with h1 | h1
 ·have HB := Shut.mk (show b = false by cases b with | false => rfl | true => have := hb.1 rfl; omega)
  clear hb
  go_enter Tryz.func36, Tryz.ntmps36
  go_wp2
  go_ret
  exact ⟨by rw [HB.out]; rfl, rfl⟩
 rcases Int.lt_or_le 16 aid with h2 | h2
 ·have HB := Shut.mk (show b = false by cases b with | false => rfl | true => have := hb.1 rfl; omega)
  clear hb
  go_enter Tryz.func36, Tryz.ntmps36
  go_wp2
  go_ret
  exact ⟨by rw [HB.out]; rfl, rfl⟩
 rcases Int.lt_or_le tid 0 with h3 | h3
 ·have HB := Shut.mk (show b = false by cases b with | false => rfl | true => have := hb.1 rfl; omega)
  clear hb
  go_enter Tryz.func36, Tryz.ntmps36
  go_wp2
  go_ret
  exact ⟨by rw [HB.out]; rfl, rfl⟩
 rcases Int.lt_or_le tid 8 with h4 | h4
 ·have HB := Shut.mk (show b = true from hb.2 ⟨⟨h1, h2⟩, h3, h4⟩)
  clear hb
  go_enter Tryz.func36, Tryz.ntmps36
  go_wp2
  go_ret
  exact ⟨by rw [HB.out]; rfl, rfl⟩
 ·have HB := Shut.mk (show b = false by cases b with | false => rfl | true => have := hb.1 rfl; omega)
  clear hb
  go_enter Tryz.func36, Tryz.ntmps36
  go_wp2
  go_ret
  exact ⟨by rw [HB.out]; show Ending.returned (Value.bool (decide (tid < 8))) = _; rw [decide_eq_false (by omega)], rfl⟩
section
variable {T : Nat → Prop} {w : World} {g : Nat} {h : Hd} {X : Nat → Option Qs}
theorem IsRpl.at_ (hp : IsRpl T w g h X) {a t : Nat} (ha : a < 17) (ht : t < 8) {s : Qs} (hs : X (a * 8 + t) = some s) : w.cell? ⟨g, 5 + a * 8 + t, none⟩ = some (.pointer (some ⟨s.x.g, 0, none⟩)) := by
 have e := hp.cell (k := a * 8 + t) (by omega)
 rw [hs] at e
 rw [show 5 + a * 8 + t = 5 + (a * 8 + t) by omega]
 exact e
set_option maxRecDepth 100000 in
set_option maxHeartbeats 8000000 in
theorem refhas_p_any (hp : IsRpl T w g h X) (hf : FullR X) (aid tid : Int) (b : Bool) (hb : b = true ↔ knownP aid tid ∧ allQ (mR X (8 * (aid - 1).toNat + tid.toNat)) ≠ []) :
 Calls Tryz.prog 23 #[.pointer (some ⟨g, 0, none⟩), .int .i64 aid, .int .i64 tid] w fun e w' => e = .returned (.bool b) ∧ Below w.heap.size w w' := by
 have HP := Shut.mk hp
 have HB := Shut.mk hb
 have HF := Shut.mk hf
 clear hp hb hf
 by_cases hk : knownP aid tid
 ·obtain ⟨a, t, ha, ht, rfl, rfl⟩ := knownP_in hk
  have hb := HB.out
  rw [show 8 * ((a : Int) + 1 - 1).toNat + (t : Int).toNat = 8 * a + t by omega] at hb
  obtain ⟨s, hx⟩ := HF.out ((a + 1) * 8 + t) (by omega)
  rw [mR_some hx] at hb
  have hq := HP.out.qs _ (by omega) s hx
  have HC := Shut.mk (reflen_any T w s.x s.V s.q hq.is hq.few.len)
  have hcell := HP.out.at_ (by omega) ht hx
  have hll := hq.few.all
  obtain ⟨n, hn⟩ : ∃ n, n = (allQ s.q).length := ⟨_, rfl⟩
  have HB3 := Shut.mk (show b = decide (0 < n) by
   cases b with
   | false =>
    symm
    rw [decide_eq_false_iff_not]
    intro h0
    have : (false : Bool) = true := hb.2 ⟨hk, fun e => by rw [e] at hn; simp at hn; omega⟩
    cases this
   | true =>
    symm
    rw [decide_eq_true_iff]
    have h2 := (hb.1 rfl).2
    rcases Nat.eq_zero_or_pos n with h0 | h0
    ·rw [h0] at hn; exact absurd (List.eq_nil_of_length_eq_zero hn.symm) h2
    ·exact h0)
  have HKT := Shut.mk (there_any ((a : Int) + 1) (t : Int) w true ⟨fun _ => hk, fun _ => rfl⟩)
  rw [← hn] at hll
  have HN := Shut.mk hn
  have hai : (a : Int) + 1 < 17 := by omega
  have hti : (t : Int) < 8 := by omega
  obtain ⟨a1, ha1⟩ : ∃ a1 : Nat, a1 = a + 1 := ⟨_, rfl⟩
  have e1 : (a : Int) + 1 = (a1 : Int) := by omega
  rw [e1] at hai HKT
  rw [← ha1] at hcell
  rw [e1]
  clear hb hn hk hq HB hx e1 ha1 HF HP
  go_enter Tryz.func23, Tryz.ntmps23
  go_wp2_with (fail)
  refine HKT.out.mono ?_
  rintro e wn ⟨rfl, rfl⟩
  go_wp2_with (fail)
  refine HC.out.mono ?_
  rintro e w2 ⟨rfl, hb2⟩
  have HB2 := Shut.mk hb2
  clear hb2
  rw [← HN.out]
  go_wp2_with (fail)
  go_ret
  exact ⟨by rw [HB3.out]; simp, HB2.out⟩
 ·have HB3 := Shut.mk (show b = false by
   cases b with
   | false => rfl
   | true => exact absurd (HB.out.1 rfl).1 hk)
  have HKT := Shut.mk (there_any aid tid w false ⟨fun e => (by cases e), fun e => absurd e hk⟩)
  clear hk
  go_enter Tryz.func23, Tryz.ntmps23
  go_wp2_with (fail)
  refine HKT.out.mono ?_
  rintro e wn ⟨rfl, rfl⟩
  go_wp2
  go_ret
  exact ⟨by rw [HB3.out]; rfl, Below.refl _ _⟩
set_option maxRecDepth 100000 in
set_option maxHeartbeats 8000000 in
theorem reflen_p_any (hp : IsRpl T w g h X) (hf : FullR X) :
 Calls Tryz.prog 19 #[.pointer (some ⟨g, 0, none⟩)] w fun e w' => e = .returned (.int .i64 ((((allP (mR X) 128).length : Nat) : Int))) ∧ Below w.heap.size w w' := by
 have HP := Shut.mk hp
 have HF := Shut.mk hf
 have HAL := Shut.mk (all_len (mR X) fun k hk => rpl_few hp hk)
 clear hp hf
 go_enter Tryz.func19, Tryz.ntmps19
 go_wp2_with (fail)
 go_loopw [3, 4] (fun nv av wr => ∃ a : Nat, a ≤ 16 ∧ av = .int .i64 (((a + 1 : Nat)) : Int) ∧ nv = .int .i64 ((((allP (mR X) (8 * a)).length : Nat) : Int)) ∧ Below w.heap.size w wr) (fun _ av _ => 17 - (intOf av).toNat)
 case atStart => exact ⟨0, by omega, rfl, rfl, Below.refl _ _⟩
 case round =>
  obtain ⟨a, ha, rfl, hv, hb⟩ := hrel
  have HV := Shut.mk hv
  have HB := Shut.mk hb
  clear hv hb
  obtain ⟨a1, ha1⟩ : ∃ a1 : Nat, a1 = a + 1 := ⟨_, rfl⟩
  have HA1 := Shut.mk ha1
  rw [← ha1]
  by_cases hlt : a < 16
  ·have hai : (a1 : Int) ≤ 16 := by omega
   have hai7 : (a1 : Int) < 17 := by omega
   clear ha1
   go_wp2_with (fail)
   go_loopw [3, 5] (fun nv tv wr => ∃ t : Nat, t ≤ 8 ∧ tv = .int .i64 (t : Int) ∧ nv = .int .i64 ((((allP (mR X) (8 * a + t)).length : Nat) : Int)) ∧ Below w.heap.size w wr) (fun _ tv _ => 8 - (intOf tv).toNat)
   case atStart => exact ⟨0, by omega, rfl, HV.out, HB.out⟩
   case round =>
    clear HB HV
    obtain ⟨t, ht, rfl, rfl, hb⟩ := hrel
    have HB := Shut.mk hb
    clear hb
    by_cases htl : t < 8
    ·have hti : (t : Int) < 8 := by omega
     have HPr := HP.out.quiet HB.out
     obtain ⟨s, hx⟩ := HF.out ((a + 1) * 8 + t) (by omega)
     have hq := HPr.qs _ (by omega) s hx
     have HC := Shut.mk (reflen_any T wr s.x s.V s.q hq.is hq.few.len)
     have hcell := HPr.at_ (by omega) htl hx
     have HNX := Shut.mk (show (((allP (mR X) (8 * a + (t + 1))).length : Nat) : Int) = (((allP (mR X) (8 * a + t)).length : Nat) : Int) + (((allQ s.q).length : Nat) : Int) from by
      rw [show 8 * a + (t + 1) = 8 * a + t + 1 by omega, allP_succ, mR_some hx]
      rw [List.length_append]; omega)
     have hbd := HAL.out (8 * a + t) (by omega)
     obtain ⟨u, hu⟩ : ∃ u, u = (allP (mR X) (8 * a + t)).length := ⟨_, rfl⟩
     obtain ⟨l, hl⟩ : ∃ l, l = (allQ s.q).length := ⟨_, rfl⟩
     have hl2 := hq.few.all
     rw [← hu] at hbd HNX ⊢
     rw [← hl] at hl2 HNX HC
     have hul : u ≤ 2048000 := by omega
     clear hbd hu hl
     rw [← HA1.out] at hcell
     clear HPr hq hx
     go_wp2_with (fail)
     refine HC.out.mono ?_
     rintro e w2 ⟨rfl, hb2⟩
     have HB2 := Shut.mk (show Below w.heap.size w w2 from HB.out.trans (hb2.mono HB.out.size))
     clear hb2 HC
     go_wp2_with (fail)
     go_roundw
     case rel => exact ⟨t + 1, by omega, by go_num, by rw [HNX.out], HB2.out⟩
     case measure => simp [intOf]; omega
    ·obtain rfl : t = 8 := by omega
     have HV := Shut.mk (show (((allP (mR X) (8 * a + 8)).length : Nat) : Int) = (((allP (mR X) (8 * (a + 1))).length : Nat) : Int) from rfl)
     go_wp2_with (fail)
     go_roundw
     case rel => exact ⟨a + 1, by omega, by have := HA1.out; subst this; go_num, by rw [HV.out], HB.out⟩
     case measure => have := HA1.out; subst this; simp [intOf]; omega
  ·obtain rfl : a = 16 := by omega
   have := HA1.out
   subst this
   obtain rfl := HV.out
   go_wp2_with (fail)
   go_ret
   exact ⟨rfl, HB.out⟩
set_option maxRecDepth 100000 in
set_option maxHeartbeats 8000000 in
theorem refbyt_p_any (hp : IsRpl T w g h X) (hf : FullR X) :
 Calls Tryz.prog 21 #[.pointer (some ⟨g, 0, none⟩)] w fun e w' => e = .returned (.int .i64 (bytesF (allP (mR X) 128))) ∧ Below w.heap.size w w' := by
 have HP := Shut.mk hp
 have HF := Shut.mk hf
 have HAL := Shut.mk (all_len (mR X) fun k hk => rpl_few hp hk)
 clear hp hf
 go_enter Tryz.func21, Tryz.ntmps21
 go_wp2_with (fail)
 go_loopw [3, 4] (fun nv av wr => ∃ a : Nat, a ≤ 16 ∧ av = .int .i64 (((a + 1 : Nat)) : Int) ∧ nv = .int .i64 (bytesF (allP (mR X) (8 * a))) ∧ Below w.heap.size w wr) (fun _ av _ => 17 - (intOf av).toNat)
 case atStart => exact ⟨0, by omega, rfl, rfl, Below.refl _ _⟩
 case round =>
  obtain ⟨a, ha, rfl, hv, hb⟩ := hrel
  have HV := Shut.mk hv
  have HB := Shut.mk hb
  clear hv hb
  obtain ⟨a1, ha1⟩ : ∃ a1 : Nat, a1 = a + 1 := ⟨_, rfl⟩
  have HA1 := Shut.mk ha1
  rw [← ha1]
  by_cases hlt : a < 16
  ·have hai : (a1 : Int) ≤ 16 := by omega
   have hai7 : (a1 : Int) < 17 := by omega
   clear ha1
   go_wp2_with (fail)
   go_loopw [3, 5] (fun nv tv wr => ∃ t : Nat, t ≤ 8 ∧ tv = .int .i64 (t : Int) ∧ nv = .int .i64 (bytesF (allP (mR X) (8 * a + t))) ∧ Below w.heap.size w wr) (fun _ tv _ => 8 - (intOf tv).toNat)
   case atStart => exact ⟨0, by omega, rfl, HV.out, HB.out⟩
   case round =>
    clear HB HV
    obtain ⟨t, ht, rfl, rfl, hb⟩ := hrel
    have HB := Shut.mk hb
    clear hb
    by_cases htl : t < 8
    ·have hti : (t : Int) < 8 := by omega
     have HPr := HP.out.quiet HB.out
     obtain ⟨s, hx⟩ := HF.out ((a + 1) * 8 + t) (by omega)
     have hq := HPr.qs _ (by omega) s hx
     have HC := Shut.mk (show Calls Tryz.prog 48 #[.pointer (some ⟨s.x.g, 0, none⟩)] wr fun e w2 => e = .returned (.int .i64 (bytesF (allQ s.q))) ∧ Below wr.heap.size wr w2 from (refbytes_any T wr s.x s.V s.q hq.is hq.few.fewQ).mono (by rintro e w2 ⟨rfl, rfl⟩; exact ⟨by rw [bytesTo_all]; rfl, Below.refl _ _⟩))
     have hcell := HPr.at_ (by omega) htl hx
     have HNX := Shut.mk (show bytesF (allP (mR X) (8 * a + (t + 1))) = bytesF (allP (mR X) (8 * a + t)) + bytesF (allQ s.q) from by
      rw [show 8 * a + (t + 1) = 8 * a + t + 1 by omega, allP_succ, mR_some hx]
      rw [bytesF_app])
     have hbd := HAL.out (8 * a + t) (by omega)
     obtain ⟨u, hu⟩ : ∃ u, u = bytesF (allP (mR X) (8 * a + t)) := ⟨_, rfl⟩
     obtain ⟨l, hl⟩ : ∃ l, l = bytesF (allQ s.q) := ⟨_, rfl⟩
     have hl2 := hq.few.byt
     rw [← hu] at hbd HNX ⊢
     rw [← hl] at hl2 HNX HC
     have hul : 0 ≤ u ∧ u ≤ 2048000000000 := by omega
     clear hbd hu hl
     rw [← HA1.out] at hcell
     clear HPr hq hx
     go_wp2_with (fail)
     refine HC.out.mono ?_
     rintro e w2 ⟨rfl, hb2⟩
     have HB2 := Shut.mk (show Below w.heap.size w w2 from HB.out.trans (hb2.mono HB.out.size))
     clear hb2 HC
     go_wp2_with (fail)
     go_roundw
     case rel => exact ⟨t + 1, by omega, by go_num, by rw [HNX.out], HB2.out⟩
     case measure => simp [intOf]; omega
    ·obtain rfl : t = 8 := by omega
     have HV := Shut.mk (show bytesF (allP (mR X) (8 * a + 8)) = bytesF (allP (mR X) (8 * (a + 1))) from rfl)
     go_wp2_with (fail)
     go_roundw
     case rel => exact ⟨a + 1, by omega, by have := HA1.out; subst this; go_num, by rw [HV.out], HB.out⟩
     case measure => have := HA1.out; subst this; simp [intOf]; omega
  ·obtain rfl : a = 16 := by omega
   have := HA1.out
   subst this
   obtain rfl := HV.out
   go_wp2_with (fail)
   go_ret
   exact ⟨rfl, HB.out⟩
end
end Go.Proofs.YtndkmgcmegcieaaGreatDoor
