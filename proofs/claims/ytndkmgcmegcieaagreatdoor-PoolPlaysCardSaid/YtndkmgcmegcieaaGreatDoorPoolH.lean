/-
  POOL: the chapter's examples.
-/
import Derived.Test.YtndkmgcmegcieaaGreatDoorPoolG
namespace Go.Proofs.YtndkmgcmegcieaaGreatDoor
open Go.ChangeShapes Go.WideShapes Go.ChangeAt Go.RowKit Go.Deep
set_option linter.unusedVariables false
set_option linter.unusedSimpArgs false
def hd1 : Hd := ⟨1#32, 5, 100, 2, 100⟩
theorem has_in {T : Nat → Prop} {w : World} {g : Nat} {h : Hd} {X : Nat → Option Qs} (hp : IsPool T w g h X) (a t : Nat) (ha : a < 16) (ht : t < 8) (aid tid : Int) (hai : aid = (a : Int) + 1) (hti : tid = (t : Nat)) (b : Bool) (hb : b = true ↔ allQ (mOf X (8 * a + t)) ≠ []) :
 Calls Tryz.prog 22 #[.pointer (some ⟨g, 0, none⟩), .int .i64 aid, .int .i64 tid] w fun e w' => e = .returned (.bool b) ∧ w = w' := by
 subst hai
 subst hti
 refine has_p_any hp _ _ b ?_
 rw [show 8 * ((a : Int) + 1 - 1).toNat + (t : Int).toNat = 8 * a + t by omega, hb]
 exact ⟨fun h => ⟨⟨⟨by omega, by omega⟩, by omega, by omega⟩, h⟩, fun h => h.2⟩
theorem shr_one {mp mb : Int} {sd : BitVec 32} {k : Nat} {p : Pk} {ds : List Pk} {M' : Nat → Qu} (hk : k < 128) (hm : 1 ≤ mp) (hb : (p.body.length : Int) ≤ mb) (h : Shr mp mb (updF (mOf X0) k (putQ (bkQ sd) (mOf X0 k) p)) ds M') :
 ds = [] ∧ (allP M' 128).length = 1 ∧ allQ (M' k) ≠ [] := by
 have hp := allP_put (bkQ_lt sd) (mOf X0) hk p
 have e0 : allP (mOf X0) 128 = [] := allP_M0 128
 rw [e0] at hp
 have h1 := hp.length_eq
 have h2 := bytesF_perm hp
 rw [bytesF_cons] at h2
 have h3 : bytesF [] = 0 := rfl
 obtain ⟨rfl, rfl⟩ := shr_none h (by rw [h1]; simp; omega) (by rw [h2]; omega)
 refine ⟨rfl, h1, fun e => ?_⟩
 rw [updF_same] at e
 have h4 := (all_put (bkQ_lt sd) (mOf X0 k) p).length_eq
 rw [e] at h4
 simp at h4
set_option maxRecDepth 100000 in
set_option maxHeartbeats 8000000 in
theorem first_p_any (w : World) : Calls Tryz.prog 4 #[] w fun e w' => e = .returned (.bool true) ∧ Below w.heap.size w w' := by
 go_enter Tryz.func4, Tryz.ntmps4
 go_wp2_with (fail)
 refine (new_p_any hd1 w ⟨by decide, by decide⟩ ⟨by decide, by decide⟩).mono ?_
 rintro e w1 ⟨rfl, hP, hB⟩
 have hpw := PW.start (Below.refl w.heap.size w) rfl hP hB
 obtain ⟨g, hg⟩ : ∃ g, g = w.heap.size := ⟨_, rfl⟩
 rw [← hg] at hpw ⊢
 have HP := Shut.mk hpw
 clear hP hB hpw hg
 go_wp2_with (fail)
 refine (has_in HP.out.is 0 0 (by decide) (by decide) 1 0 rfl rfl false ⟨(fun e => by cases e), fun e => absurd allQ_Z e⟩).mono ?_
 rintro e wn ⟨rfl, rfl⟩
 go_wp2_with (fail)
 refine (pput HP.out ⟨by decide, by decide⟩ 0 0 (by decide) (by decide) 1 0 rfl rfl 3 0 0 [] none 0 0 RowB.nil (by omega) ⟨by decide, by decide⟩ ⟨by decide, by decide⟩ (by rw [mOf_X0, allP_M0]; exact Nat.zero_le _) (fun h => by omega)).mono ?_
 rintro e w2 ⟨u, T', T2, X', ds, rfl, hPW, -, hO, -, -, hR⟩
 obtain ⟨rfl, hlen, hne⟩ := shr_one (by decide) (by decide) (by decide) hR
 obtain ⟨l', hl1, -⟩ := hO
 obtain ⟨A, c, hl, -⟩ := owns_form hl1.1
 rw [List.length_nil] at hl
 subst hl
 have HP2 := Shut.mk hPW
 have HLE := Shut.mk hlen
 have HHA := Shut.mk (show allQ (mOf X' 0) ≠ [] from hne)
 clear hPW hR hlen hne hl1
 have h00 : ((0 : Int) == 0) = true := rfl
 go_wp2_with (fail)
 refine (len_p_any HP2.out.is).mono ?_
 rintro e w3 ⟨rfl, hB3⟩
 rw [HLE.out]
 have HP3 := Shut.mk (HP2.out.quiet hB3)
 clear hB3
 have h11 : ((1 : Int) == 1) = true := rfl
 go_wp2_with (fail)
 refine (has_in HP3.out.is 0 0 (by decide) (by decide) 1 0 rfl rfl true ⟨fun _ => HHA.out, fun _ => rfl⟩).mono ?_
 rintro e wn ⟨rfl, rfl⟩
 go_wp2_with (fail)
 go_ret
 exact ⟨rfl, HP3.out.bel⟩
end Go.Proofs.YtndkmgcmegcieaaGreatDoor
