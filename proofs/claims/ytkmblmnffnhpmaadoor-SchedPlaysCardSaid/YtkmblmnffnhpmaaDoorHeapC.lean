/-
  CONTRACTS of container/heap over whatever object has the five methods (HObj): up, down, Push, Pop, Remove, Fix. The methods' own contracts are asked for, not given.
-/
import Derived.Test.YtkmblmnffnhpmaaDoorHeapM
import Derived.Test.YtkmblmnffnhpmaaDoorRowN
import Derived.Test.YtkmblmnffnhpmaaDoorShutA
import Derived.LoopTactic
namespace Go.Proofs.YtkmblmnffnhpmaaDoor
open Go.ChangeShapes Go.WideShapes Go.ChangeAt Go.RowKit Go.Deep
set_option linter.unusedVariables false
set_option linter.unusedSimpArgs false

/-- a method by its name, of that receiver, entered with those arguments. -/
def Meth (T : TypeId) (rv : Value) (name : String) (f : Nat) (args : List Value) (w : World) (Q : Ending → World → Prop) : Prop :=
  (∀ (args : Array Value) (w : World), (callFunc f args).run Tryd.prog w = .ok (.enter f args) w) ∧
  ∃ r, (∀ n, Sem.run Tryd.prog (method (n + 100) T rv name) w = .ok (f, r) w) ∧ Calls Tryd.prog f (r :: args).toArray w Q
/-- an object that container/heap may be handed: Is w l: it holds the list l; Q: what its methods may turn. -/
structure HObj {α : Type} (T : TypeId) (rv : Value) (lt : α → α → Prop) [DecidableRel lt] (d : α) (Is : World → List α → Prop) (Q : World → World → Prop) : Prop where
  ord : Slo lt
  refl : ∀ w, Q w w
  trans : ∀ a b c, Q a b → Q b c → Q a c
  few : ∀ w l, Is w l → l.length ≤ 1099511627776
  len : ∀ w l, Is w l → ∃ f, Meth T rv "Len" f [] w fun r w' => r = .returned (.int .i64 (l.length : Nat)) ∧ Is w' l ∧ Q w w'
  less : ∀ w l i j, Is w l → i < l.length → j < l.length → ∃ f, Meth T rv "Less" f [.int .i64 (i : Nat), .int .i64 (j : Nat)] w fun r w' => r = .returned (.bool (decide (lt (l.getD i d) (l.getD j d)))) ∧ Is w' l ∧ Q w w'
  swap : ∀ w l i j, Is w l → i < l.length → j < l.length → ∃ f, Meth T rv "Swap" f [.int .i64 (i : Nat), .int .i64 (j : Nat)] w fun r w' => r = .returned (.tuple #[]) ∧ Is w' (swapL d l i j) ∧ Q w w'
section
variable {α : Type} {T : TypeId} {rv : Value} {lt : α → α → Prop} [DecidableRel lt] {d : α} {Is : World → List α → Prop} {Q : World → World → Prop}
/-- what up and down keep: the same ones, those from n on where they stood. -/
structure Kept (d : α) (n : Nat) (l l' : List α) : Prop where
  perm : l'.Perm l
  past : ∀ k, n ≤ k → l'.getD k d = l.getD k d
theorem Kept.refl (d : α) (n : Nat) (l : List α) : Kept d n l l := ⟨List.Perm.refl _, fun _ _ => rfl⟩
theorem Kept.swap {d : α} {n : Nat} {l0 l : List α} (h : Kept d n l0 l) {i j : Nat} (hi : i < l.length) (hj : j < l.length) (hi2 : i < n) (hj2 : j < n) : Kept d n l0 (swapL d l i j) :=
  ⟨(swapL_perm d l hi hj).trans h.perm, fun k hk => ((swapL_swapped d l hi hj).else_ k (by omega) (by omega)).trans (h.past k hk)⟩
set_option maxRecDepth 100000 in
set_option maxHeartbeats 8000000 in
theorem up_any (H : HObj T rv lt d Is Q) (l0 : List α) (n j : Nat) (w : World) (h : Is w l0) (hj : j < n) (hn : n ≤ l0.length) (hU : UpF lt (fun k => l0.getD k d) n j) :
    Calls Tryd.prog 53 #[.iface T rv, .int .i64 (j : Nat)] w fun r w' => r = .returned (.tuple #[]) ∧ (∃ l, Is w' l ∧ Kept d n l0 l ∧ HeapF lt (fun k => l.getD k d) n) ∧ Q w w' := by
  have HH := Shut.mk H
  have HF := Shut.mk (show j ≤ 1099511627776 by have := H.few w l0 h; omega)
  have HP := Shut.mk (show Is w l0 ∧ Kept d n l0 l0 ∧ UpF lt (fun k => l0.getD k d) n j ∧ Q w w ∧ l0.length = l0.length from ⟨h, Kept.refl _ _ _, hU, H.refl w, rfl⟩)
  have HN := Shut.mk (show j < n ∧ n ≤ l0.length from ⟨hj, hn⟩)
  clear H h hj hn hU
  go_enter Tryd.func53, Tryd.ntmps53
  go_wp2_with (fail)
  go_loopw [1] (fun s1 wr => ∃ (k : Nat) (l : List α), k ≤ j ∧ s1 = .int .i64 (k : Int) ∧ Shut (Is wr l ∧ Kept d n l0 l ∧ UpF lt (fun k => l.getD k d) n k ∧ Q w wr ∧ l.length = l0.length)) (fun s1 _ => (intOf s1).toNat)
  case atStart => exact ⟨j, l0, Nat.le_refl _, rfl, Shut.mk ⟨HP.out.1, HP.out.2.1, HP.out.2.2.1, HP.out.2.2.2.1, rfl⟩⟩
  case round =>
    clear HP
    obtain ⟨k, l, hk, rfl, HP⟩ := hrel
    by_cases hk0 : k = 0
    · subst hk0
      have HR := Shut.mk (show HeapF lt (fun k => l.getD k d) n from up_stop HP.out.2.2.1 (.inl rfl))
      clear hk
      go_wp2_with (fail)
      refine bodyPost_end (results_none (fn := Tryd.f53) rfl _ _ _) rfl ?_
      exact ⟨rfl, ⟨l, HP.out.1, HP.out.2.1, HR.out⟩, HP.out.2.2.2.1⟩
    obtain ⟨i, hi⟩ : ∃ i, i = (k - 1) / 2 := ⟨_, rfl⟩
    have y1 : IntKind.i64.wrap ((k : Int) - 1) = (k : Int) - 1 := by have := HF.out; exact IntWalk.i64_in _ ⟨by omega, by omega⟩
    have y2 : ((k : Int) - 1).tdiv 2 = (i : Int) := by
      rw [Int.tdiv_eq_ediv_of_nonneg (by omega)]
      omega
    have y3 : ((i : Int) == (k : Int)) = false := by simp; omega
    have y4 : wrap64 (i : Int) = (i : Int) := by have := HF.out; unfold wrap64; omega
    have HK := Shut.mk (show 0 < k ∧ k ≤ j ∧ i < k from ⟨by omega, hk, by omega⟩)
    have HI := Shut.mk hi
    have HIL := Shut.mk (show i < l.length ∧ k < l.length by have h1 := HN.out; have h2 := HP.out.2.2.2.2; omega)
    obtain ⟨fl, eL, rl, mL, cL⟩ := HH.out.less wr l k i HP.out.1 HIL.out.2 HIL.out.1
    have HCL := Shut.mk cL
    clear hk0 hi cL hk
    go_wp2_with (simp only [mL, eL])
    refine HCL.out.mono ?_
    rintro x w2 ⟨rfl, hI, hQ⟩
    clear mL eL HCL
    have HP2 := Shut.mk (show Is w2 l ∧ Q w w2 from ⟨hI, HH.out.trans _ _ _ HP.out.2.2.2.1 hQ⟩)
    clear hI hQ
    by_cases hlt : lt (l.getD k d) (l.getD i d)
    · rw [show decide (lt (l.getD k d) (l.getD i d)) = true by simpa using hlt]
      have HG := Shut.mk (swapL_swapped d l HIL.out.1 HIL.out.2)
      have HU := Shut.mk (show UpF lt (fun k => (swapL d l i k).getD k d) n i ∨ True from .inr trivial)
      have HUP := Shut.mk (show UpF lt (fun m => (swapL d l i k).getD m d) n i from by
        have h2 := up_step HH.out.ord HP.out.2.2.1 HK.out.1 (by have h1 := HK.out; have h2 := HN.out; omega) (by rw [← HI.out]; exact hlt) (by rw [← HI.out]; exact HG.out)
        rw [← HI.out] at h2
        exact h2)
      have HKP := Shut.mk (HP.out.2.1.swap HIL.out.1 HIL.out.2 (by have h1 := HK.out; have h2 := HN.out; omega) (by have h1 := HK.out; have h2 := HN.out; omega))
      obtain ⟨fs, eS, rs, mS, cS⟩ := HH.out.swap w2 l i k HP2.out.1 HIL.out.1 HIL.out.2
      have HCS := Shut.mk cS
      clear hlt HU HG cS
      go_wp2_with (simp only [mS, eS])
      refine HCS.out.mono ?_
      rintro x w3 ⟨rfl, hI, hQ⟩
      have HP3 := Shut.mk (show Is w3 (swapL d l i k) ∧ Q w w3 from ⟨hI, HH.out.trans _ _ _ HP2.out.2 hQ⟩)
      have HLEN := Shut.mk (show (swapL d l i k).length = l0.length by rw [swapL_len]; exact HP.out.2.2.2.2)
      generalize swapL d l i k = l2 at *
      clear hI hQ mS eS HCS
      go_wp2_with (fail)
      go_roundw
      case rel => exact ⟨i, l2, by have := HK.out; omega, rfl, Shut.mk ⟨HP3.out.1, HKP.out, HUP.out, HP3.out.2, HLEN.out⟩⟩
      case measure => have := HK.out; simp [intOf]; omega
    · rw [show decide (lt (l.getD k d) (l.getD i d)) = false by simpa using hlt]
      have HR := Shut.mk (show HeapF lt (fun k => l.getD k d) n from up_stop HP.out.2.2.1 (.inr (by rw [← HI.out]; exact hlt)))
      clear hlt
      go_wp2_with (fail)
      refine bodyPost_end (results_none (fn := Tryd.f53) rfl _ _ _) rfl ?_
      exact ⟨rfl, ⟨l, HP2.out.1, HP.out.2.1, HR.out⟩, HP2.out.2⟩
/-- what down answers: whether it moved; if so a heap stands, else it may be less than what is above it. -/
structure DownE {α : Type} (lt : α → α → Prop) (d : α) (Is : World → List α → Prop) (Q : World → World → Prop) (l0 : List α) (n i0 : Nat) (w : World) (r : Ending) (w' : World) : Prop where
  out : ∃ b : Bool, r = .returned (.bool b) ∧ (∃ l, Is w' l ∧ Kept d n l0 l ∧ (b = true → HeapF lt (fun k => l.getD k d) n) ∧ (b = false → UpF lt (fun k => l.getD k d) n i0 ∧ l = l0)) ∧ Q w w'
set_option maxRecDepth 100000 in
set_option maxHeartbeats 8000000 in
theorem down_any (H : HObj T rv lt d Is Q) (l0 : List α) (n i0 : Nat) (w : World) (h : Is w l0) (hn : n ≤ l0.length) (hi : i0 ≤ n) (hO : OddF lt (fun k => l0.getD k d) n i0) :
    Calls Tryd.prog 42 #[.iface T rv, .int .i64 (i0 : Nat), .int .i64 (n : Nat)] w fun r w' => DownE lt d Is Q l0 n i0 w r w' := by
  have HH := Shut.mk H
  have HF := Shut.mk (show n ≤ 1099511627776 by have := H.few w l0 h; omega)
  have HP := Shut.mk (show Is w l0 ∧ Kept d n l0 l0 from ⟨h, Kept.refl _ _ _⟩)
  have HQ0 := Shut.mk (H.refl w)
  have HST := Shut.mk (show OddF lt (fun k => l0.getD k d) n i0 from hO)
  have HN := Shut.mk hn
  have HI0 := Shut.mk hi
  clear H h hn hO hi
  go_enter Tryd.func42, Tryd.ntmps42
  go_wp2_with (fail)
  go_loopw [7, 8, 9, 10] (fun s7 _ _ _ wr => ∃ (k : Nat) (l : List α), k ≤ n ∧ s7 = .int .i64 (k : Int) ∧ Shut (Is wr l ∧ Kept d n l0 l ∧ l.length = l0.length) ∧ Shut (Q w wr) ∧ Shut ((k = i0 ∧ l = l0 ∧ OddF lt (fun m => l.getD m d) n k) ∨ (i0 < k ∧ DownF lt (fun m => l.getD m d) n k))) (fun s7 _ _ _ _ => n - (intOf s7).toNat)
  case atStart => exact ⟨i0, l0, HI0.out, rfl, Shut.mk ⟨HP.out.1, HP.out.2, rfl⟩, HQ0, Shut.mk (.inl ⟨rfl, rfl, HST.out⟩)⟩
  case round =>
    clear HP HQ0 HST
    obtain ⟨k, l, hk, rfl, HP, HQW, HST⟩ := hrel
    have y1 : IntKind.i64.wrap (2 * (k : Int)) = 2 * (k : Int) := by have := HF.out; exact IntWalk.i64_in _ ⟨by omega, by omega⟩
    have y2 : IntKind.i64.wrap (2 * (k : Int) + 1) = 2 * (k : Int) + 1 := by have := HF.out; exact IntWalk.i64_in _ ⟨by omega, by omega⟩
    have HIQ := Shut.mk (show Is wr l ∧ Q w wr from ⟨HP.out.1, HQW.out⟩)
    by_cases h1 : n ≤ 2 * k + 1
    · have z1 : (n : Int) ≤ 2 * (k : Int) + 1 := by omega
      have HNN := Shut.mk h1
      clear h1 hk
      rcases HST.out with ⟨rfl, rfl, hO⟩ | ⟨hlt0, hD⟩
      · have HR := Shut.mk (odd_up_none hO HNN.out)
        clear hO
        go_wp2_with (fail)
        go_ret
        exact ⟨false, by simp, ⟨l, HIQ.out.1, HP.out.2.1, fun h => (by cases h), fun _ => ⟨HR.out, rfl⟩⟩, HIQ.out.2⟩
      · have HR := Shut.mk (down_none hD HNN.out)
        have hgt : (i0 : Int) < (k : Int) := by omega
        clear hD hlt0
        go_wp2_with (fail)
        go_ret
        exact ⟨true, by simp, ⟨l, HIQ.out.1, HP.out.2.1, fun _ => HR.out, fun h => (by cases h)⟩, HIQ.out.2⟩
    have z1 : ¬ (n : Int) ≤ 2 * (k : Int) + 1 := by omega
    have z2 : ¬ 2 * (k : Int) + 1 < 0 := by omega
    have HKN := Shut.mk (show k < n by omega)
    have y3 : IntKind.i64.wrap (2 * (k : Int) + 1 + 1) = 2 * (k : Int) + 2 := by have := HF.out; rw [IntWalk.i64_in _ ⟨by omega, by omega⟩]; omega
    by_cases h2 : n ≤ 2 * k + 2
    · have z3 : ¬ 2 * (k : Int) + 2 < (n : Int) := by omega
      obtain ⟨j, hj⟩ : ∃ j, j = 2 * k + 1 := ⟨_, rfl⟩
      have HJ := Shut.mk (show 2 * (k : Int) + 1 = (j : Int) by omega)
      have HLE := Shut.mk (show Least lt (fun m => l.getD m d) n k j by rw [hj]; exact least_one HH.out.ord (by omega) h2)
      clear h1 h2 hk hj
      have y5 : IntKind.i64.wrap (2 * (k : Int) + 1) = (j : Int) := y2.trans HJ.out
      rw [HJ.out] at y3 z1 z2
      clear y2
      have HJL := Shut.mk (show j < l.length ∧ k < l.length by have h1 := HN.out; have h2 := HP.out.2.2; have h3 := HLE.out.lt_n; have h4 := HKN.out; omega)
      obtain ⟨f2, e2L, r2, m2L, c2L⟩ := HH.out.less wr l j k HIQ.out.1 HJL.out.1 HJL.out.2
      have HC2 := Shut.mk c2L
      clear c2L
      go_wp2_with (simp only [m2L, e2L])
      refine HC2.out.mono ?_
      rintro x wb ⟨rfl, hI, hQ⟩
      have HPB := Shut.mk (show Is wb l ∧ Q w wb from ⟨hI, HH.out.trans _ _ _ HIQ.out.2 hQ⟩)
      clear hI hQ m2L e2L HC2
      by_cases hlt : lt (l.getD j d) (l.getD k d)
      · rw [show decide (lt (l.getD j d) (l.getD k d)) = true by simpa using hlt]
        have HG := Shut.mk (swapL_swapped d l HJL.out.2 HJL.out.1)
        have HDN := Shut.mk (show DownF lt (fun m => (swapL d l k j).getD m d) n j from by
          rcases HST.out with ⟨h1, h2, hO⟩ | ⟨h1, hD⟩
          · subst h1
            exact down_step HH.out.ord (odd_down HH.out.ord hO HLE.out hlt) HLE.out hlt HG.out
          · exact down_step HH.out.ord hD HLE.out hlt HG.out)
        have HKP := Shut.mk (HP.out.2.1.swap HJL.out.2 HJL.out.1 HKN.out HLE.out.lt_n)
        obtain ⟨fs, eS, rs, mS, cS⟩ := HH.out.swap wb l k j HPB.out.1 HJL.out.2 HJL.out.1
        have HCS := Shut.mk cS
        have HJK := Shut.mk (show i0 < j ∧ k < j ∧ j < n from by
          have h3 := HLE.out.lt_n
          have h4 := HLE.out.child
          rcases HST.out with ⟨h1, h2, hO⟩ | ⟨h1, hD⟩ <;> omega)
        clear hlt HG cS
        go_wp2_with (simp only [mS, eS])
        refine HCS.out.mono ?_
        rintro x wc ⟨rfl, hI, hQ⟩
        have HP3 := Shut.mk (show Is wc (swapL d l k j) ∧ Q w wc from ⟨hI, HH.out.trans _ _ _ HPB.out.2 hQ⟩)
        have HLEN := Shut.mk (show (swapL d l k j).length = l0.length by rw [swapL_len]; exact HP.out.2.2)
        generalize swapL d l k j = l2 at *
        clear hI hQ mS eS HCS
        go_wp2_with (fail)
        go_roundw
        case rel => exact ⟨j, l2, Nat.le_of_lt HJK.out.2.2, rfl, Shut.mk ⟨HP3.out.1, HKP.out, HLEN.out⟩, Shut.mk HP3.out.2, Shut.mk (.inr ⟨HJK.out.1, HDN.out⟩)⟩
        case measure => have := HJK.out; simp [intOf]; omega
      · rw [show decide (lt (l.getD j d) (l.getD k d)) = false by simpa using hlt]
        have HSTOP := Shut.mk (show (∀ h : OddF lt (fun m => l.getD m d) n k, UpF lt (fun m => l.getD m d) n k) ∧ (∀ h : DownF lt (fun m => l.getD m d) n k, HeapF lt (fun m => l.getD m d) n) from ⟨fun h => odd_up HH.out.ord h HLE.out hlt, fun h => down_stop HH.out.ord h HLE.out hlt⟩)
        clear hlt
        rcases HST.out with ⟨rfl, rfl, hO⟩ | ⟨hlt0, hD⟩
        · have HR := Shut.mk (HSTOP.out.1 hO)
          clear hO
          go_wp2_with (fail)
          go_ret
          exact ⟨false, by simp, ⟨l, HPB.out.1, HP.out.2.1, fun h => (by cases h), fun _ => ⟨HR.out, rfl⟩⟩, HPB.out.2⟩
        · have HR := Shut.mk (HSTOP.out.2 hD)
          have hgt : (i0 : Int) < (k : Int) := by omega
          clear hD hlt0
          go_wp2_with (fail)
          go_ret
          exact ⟨true, by simp, ⟨l, HPB.out.1, HP.out.2.1, fun _ => HR.out, fun h => (by cases h)⟩, HPB.out.2⟩
    have z3 : 2 * (k : Int) + 2 < (n : Int) := by omega
    obtain ⟨j1, hj1⟩ : ∃ j, j = 2 * k + 1 := ⟨_, rfl⟩
    obtain ⟨j2, hj2⟩ : ∃ j, j = 2 * k + 2 := ⟨_, rfl⟩
    have HJ1 := Shut.mk (show 2 * (k : Int) + 1 = (j1 : Int) by omega)
    have HJ2 := Shut.mk (show 2 * (k : Int) + 2 = (j2 : Int) by omega)
    have HJK2 := Shut.mk (show j1 = 2 * k + 1 ∧ j2 = 2 * k + 2 ∧ 2 * k + 2 < n ∧ j1 < l.length ∧ j2 < l.length by have h3 := HN.out; have h4 := HP.out.2.2; omega)
    obtain ⟨f1, e1L, r1, m1L, c1L⟩ := HH.out.less wr l j2 j1 HIQ.out.1 HJK2.out.2.2.2.2 HJK2.out.2.2.2.1
    have HC1 := Shut.mk c1L
    clear h1 h2 hk hj1 hj2 c1L
    have y5 : IntKind.i64.wrap (2 * (k : Int) + 1) = (j1 : Int) := y2.trans HJ1.out
    rw [HJ1.out] at y3 z1 z2
    rw [HJ2.out] at y3 z3
    clear y2
    go_wp2_with (simp only [m1L, e1L])
    refine HC1.out.mono ?_
    rintro x wa ⟨rfl, hI, hQ⟩
    have HPA := Shut.mk (show Is wa l ∧ Q w wa from ⟨hI, HH.out.trans _ _ _ HIQ.out.2 hQ⟩)
    clear hI hQ m1L e1L HC1
    by_cases hc : lt (l.getD j2 d) (l.getD j1 d)
    · rw [show decide (lt (l.getD j2 d) (l.getD j1 d)) = true by simpa using hc]
      have HLE := Shut.mk (show Least lt (fun m => l.getD m d) n k j2 by
        have h3 := HJK2.out
        rw [h3.2.1]
        exact least_right HH.out.ord h3.2.2.1 (by rw [← h3.1, ← h3.2.1]; exact hc))
      clear hc
      have HJL := Shut.mk (show j2 < l.length ∧ k < l.length by have h1 := HN.out; have h2 := HP.out.2.2; have h3 := HLE.out.lt_n; have h4 := HKN.out; omega)
      obtain ⟨f2, e2L, r2, m2L, c2L⟩ := HH.out.less wa l j2 k HPA.out.1 HJL.out.1 HJL.out.2
      have HC2 := Shut.mk c2L
      clear c2L
      go_wp2_with (simp only [m2L, e2L])
      refine HC2.out.mono ?_
      rintro x wb ⟨rfl, hI, hQ⟩
      have HPB := Shut.mk (show Is wb l ∧ Q w wb from ⟨hI, HH.out.trans _ _ _ HPA.out.2 hQ⟩)
      clear hI hQ m2L e2L HC2
      by_cases hlt : lt (l.getD j2 d) (l.getD k d)
      · rw [show decide (lt (l.getD j2 d) (l.getD k d)) = true by simpa using hlt]
        have HG := Shut.mk (swapL_swapped d l HJL.out.2 HJL.out.1)
        have HDN := Shut.mk (show DownF lt (fun m => (swapL d l k j2).getD m d) n j2 from by
          rcases HST.out with ⟨h1, h2, hO⟩ | ⟨h1, hD⟩
          · subst h1
            exact down_step HH.out.ord (odd_down HH.out.ord hO HLE.out hlt) HLE.out hlt HG.out
          · exact down_step HH.out.ord hD HLE.out hlt HG.out)
        have HKP := Shut.mk (HP.out.2.1.swap HJL.out.2 HJL.out.1 HKN.out HLE.out.lt_n)
        obtain ⟨fs, eS, rs, mS, cS⟩ := HH.out.swap wb l k j2 HPB.out.1 HJL.out.2 HJL.out.1
        have HCS := Shut.mk cS
        have HJK := Shut.mk (show i0 < j2 ∧ k < j2 ∧ j2 < n from by
          have h3 := HLE.out.lt_n
          have h4 := HLE.out.child
          rcases HST.out with ⟨h1, h2, hO⟩ | ⟨h1, hD⟩ <;> omega)
        clear hlt HG cS
        go_wp2_with (simp only [mS, eS])
        refine HCS.out.mono ?_
        rintro x wc ⟨rfl, hI, hQ⟩
        have HP3 := Shut.mk (show Is wc (swapL d l k j2) ∧ Q w wc from ⟨hI, HH.out.trans _ _ _ HPB.out.2 hQ⟩)
        have HLEN := Shut.mk (show (swapL d l k j2).length = l0.length by rw [swapL_len]; exact HP.out.2.2)
        generalize swapL d l k j2 = l2 at *
        clear hI hQ mS eS HCS
        go_wp2_with (fail)
        go_roundw
        case rel => exact ⟨j2, l2, Nat.le_of_lt HJK.out.2.2, rfl, Shut.mk ⟨HP3.out.1, HKP.out, HLEN.out⟩, Shut.mk HP3.out.2, Shut.mk (.inr ⟨HJK.out.1, HDN.out⟩)⟩
        case measure => have := HJK.out; simp [intOf]; omega
      · rw [show decide (lt (l.getD j2 d) (l.getD k d)) = false by simpa using hlt]
        have HSTOP := Shut.mk (show (∀ h : OddF lt (fun m => l.getD m d) n k, UpF lt (fun m => l.getD m d) n k) ∧ (∀ h : DownF lt (fun m => l.getD m d) n k, HeapF lt (fun m => l.getD m d) n) from ⟨fun h => odd_up HH.out.ord h HLE.out hlt, fun h => down_stop HH.out.ord h HLE.out hlt⟩)
        clear hlt
        rcases HST.out with ⟨rfl, rfl, hO⟩ | ⟨hlt0, hD⟩
        · have HR := Shut.mk (HSTOP.out.1 hO)
          clear hO
          go_wp2_with (fail)
          go_ret
          exact ⟨false, by simp, ⟨l, HPB.out.1, HP.out.2.1, fun h => (by cases h), fun _ => ⟨HR.out, rfl⟩⟩, HPB.out.2⟩
        · have HR := Shut.mk (HSTOP.out.2 hD)
          have hgt : (i0 : Int) < (k : Int) := by omega
          clear hD hlt0
          go_wp2_with (fail)
          go_ret
          exact ⟨true, by simp, ⟨l, HPB.out.1, HP.out.2.1, fun _ => HR.out, fun h => (by cases h)⟩, HPB.out.2⟩
    · rw [show decide (lt (l.getD j2 d) (l.getD j1 d)) = false by simpa using hc]
      have HLE := Shut.mk (show Least lt (fun m => l.getD m d) n k j1 by
        have h3 := HJK2.out
        rw [h3.1]
        exact least_left HH.out.ord h3.2.2.1 (by rw [← h3.1, ← h3.2.1]; exact hc))
      clear hc
      have HJL := Shut.mk (show j1 < l.length ∧ k < l.length by have h1 := HN.out; have h2 := HP.out.2.2; have h3 := HLE.out.lt_n; have h4 := HKN.out; omega)
      obtain ⟨f2, e2L, r2, m2L, c2L⟩ := HH.out.less wa l j1 k HPA.out.1 HJL.out.1 HJL.out.2
      have HC2 := Shut.mk c2L
      clear c2L
      go_wp2_with (simp only [m2L, e2L])
      refine HC2.out.mono ?_
      rintro x wb ⟨rfl, hI, hQ⟩
      have HPB := Shut.mk (show Is wb l ∧ Q w wb from ⟨hI, HH.out.trans _ _ _ HPA.out.2 hQ⟩)
      clear hI hQ m2L e2L HC2
      by_cases hlt : lt (l.getD j1 d) (l.getD k d)
      · rw [show decide (lt (l.getD j1 d) (l.getD k d)) = true by simpa using hlt]
        have HG := Shut.mk (swapL_swapped d l HJL.out.2 HJL.out.1)
        have HDN := Shut.mk (show DownF lt (fun m => (swapL d l k j1).getD m d) n j1 from by
          rcases HST.out with ⟨h1, h2, hO⟩ | ⟨h1, hD⟩
          · subst h1
            exact down_step HH.out.ord (odd_down HH.out.ord hO HLE.out hlt) HLE.out hlt HG.out
          · exact down_step HH.out.ord hD HLE.out hlt HG.out)
        have HKP := Shut.mk (HP.out.2.1.swap HJL.out.2 HJL.out.1 HKN.out HLE.out.lt_n)
        obtain ⟨fs, eS, rs, mS, cS⟩ := HH.out.swap wb l k j1 HPB.out.1 HJL.out.2 HJL.out.1
        have HCS := Shut.mk cS
        have HJK := Shut.mk (show i0 < j1 ∧ k < j1 ∧ j1 < n from by
          have h3 := HLE.out.lt_n
          have h4 := HLE.out.child
          rcases HST.out with ⟨h1, h2, hO⟩ | ⟨h1, hD⟩ <;> omega)
        clear hlt HG cS
        go_wp2_with (simp only [mS, eS])
        refine HCS.out.mono ?_
        rintro x wc ⟨rfl, hI, hQ⟩
        have HP3 := Shut.mk (show Is wc (swapL d l k j1) ∧ Q w wc from ⟨hI, HH.out.trans _ _ _ HPB.out.2 hQ⟩)
        have HLEN := Shut.mk (show (swapL d l k j1).length = l0.length by rw [swapL_len]; exact HP.out.2.2)
        generalize swapL d l k j1 = l2 at *
        clear hI hQ mS eS HCS
        go_wp2_with (fail)
        go_roundw
        case rel => exact ⟨j1, l2, Nat.le_of_lt HJK.out.2.2, rfl, Shut.mk ⟨HP3.out.1, HKP.out, HLEN.out⟩, Shut.mk HP3.out.2, Shut.mk (.inr ⟨HJK.out.1, HDN.out⟩)⟩
        case measure => have := HJK.out; simp [intOf]; omega
      · rw [show decide (lt (l.getD j1 d) (l.getD k d)) = false by simpa using hlt]
        have HSTOP := Shut.mk (show (∀ h : OddF lt (fun m => l.getD m d) n k, UpF lt (fun m => l.getD m d) n k) ∧ (∀ h : DownF lt (fun m => l.getD m d) n k, HeapF lt (fun m => l.getD m d) n) from ⟨fun h => odd_up HH.out.ord h HLE.out hlt, fun h => down_stop HH.out.ord h HLE.out hlt⟩)
        clear hlt
        rcases HST.out with ⟨rfl, rfl, hO⟩ | ⟨hlt0, hD⟩
        · have HR := Shut.mk (HSTOP.out.1 hO)
          clear hO
          go_wp2_with (fail)
          go_ret
          exact ⟨false, by simp, ⟨l, HPB.out.1, HP.out.2.1, fun h => (by cases h), fun _ => ⟨HR.out, rfl⟩⟩, HPB.out.2⟩
        · have HR := Shut.mk (HSTOP.out.2 hD)
          have hgt : (i0 : Int) < (k : Int) := by omega
          clear hD hlt0
          go_wp2_with (fail)
          go_ret
          exact ⟨true, by simp, ⟨l, HPB.out.1, HP.out.2.1, fun _ => HR.out, fun h => (by cases h)⟩, HPB.out.2⟩
omit [DecidableRel lt] in
theorem odd_of_down {f : Nat → α} {n i : Nat} (h : DownF lt f n i) : OddF lt f n i := ⟨fun k h0 h1 _ h3 => h.1 k h0 h1 h3, h.2⟩
theorem Kept.trans {d : α} {n : Nat} {a b c : List α} (h1 : Kept d n a b) (h2 : Kept d n b c) : Kept d n a c := ⟨h2.perm.trans h1.perm, fun k hk => (h2.past k hk).trans (h1.past k hk)⟩
theorem Kept.len {d : α} {n : Nat} {a b : List α} (h : Kept d n a b) : b.length = a.length := h.perm.length_eq
theorem split_last (d : α) (l : List α) {n : Nat} (h : l.length = n + 1) : l = l.take n ++ [l.getD n d] := by
  have e : l.getD n d = l[n] := by simp [List.getD, h]
  have e2 : l.drop n = [l[n]] := by rw [List.drop_eq_getElem_cons (by omega), List.drop_of_length_le (by omega)]
  rw [e, ← e2, List.take_append_drop]
omit [DecidableRel lt] in
theorem heap_take {l : List α} {n : Nat} (h : HeapF lt (fun k => l.getD k d) n) (hl : n ≤ l.length) : HeapL lt d (l.take n) := by
  have hn : (l.take n).length = n := by rw [List.length_take]; omega
  unfold HeapL
  rw [hn]
  refine h.congr fun k hk => ?_
  show (l.take n).getD k d = l.getD k d
  simp [List.getD, List.getElem?_take, hk]
set_option maxRecDepth 100000 in
set_option maxHeartbeats 8000000 in
theorem fix_any (H : HObj T rv lt d Is Q) (l0 : List α) (i : Nat) (w : World) (h : Is w l0) (hi : i < l0.length) (hO : OddF lt (fun k => l0.getD k d) l0.length i) :
    Calls Tryd.prog 48 #[.iface T rv, .int .i64 (i : Nat)] w fun r w' => r = .returned (.tuple #[]) ∧ (∃ l, Is w' l ∧ l.Perm l0 ∧ HeapL lt d l) ∧ Q w w' := by
  have HH := Shut.mk H
  obtain ⟨f1, e1, r1, m1, c1⟩ := H.len w l0 h
  have HC1 := Shut.mk c1
  obtain ⟨n, hn⟩ : ∃ n, n = l0.length := ⟨_, rfl⟩
  rw [← hn] at HC1 hi hO
  have HN := Shut.mk hn
  have HI := Shut.mk hi
  have HO := Shut.mk hO
  clear c1 hn hi hO H h
  go_enter Tryd.func48, Tryd.ntmps48
  go_wp2_with (simp only [m1, e1])
  refine HC1.out.mono ?_
  rintro x w1 ⟨rfl, hI, hQ⟩
  have HP1 := Shut.mk (show Is w1 l0 ∧ Q w w1 from ⟨hI, hQ⟩)
  clear hI hQ m1 e1 HC1
  go_wp2_with (fail)
  refine (down_any HH.out l0 n i w1 HP1.out.1 (Nat.le_of_eq HN.out) (Nat.le_of_lt HI.out) HO.out).mono ?_
  rintro x w2 ⟨b, rfl, hE, hQ⟩
  have HE := Shut.mk hE
  have HQ2 := Shut.mk (HH.out.trans _ _ _ HP1.out.2 hQ)
  clear hE hQ
  cases b with
  | true =>
    have HX := Shut.mk (show ∃ l, Is w2 l ∧ Kept d n l0 l ∧ HeapF lt (fun k => l.getD k d) n by
      obtain ⟨l, h1, h2, h3, -⟩ := HE.out
      exact ⟨l, h1, h2, h3 rfl⟩)
    clear HE
    go_wp2_with (fail)
    refine bodyPost_end (results_none (fn := Tryd.f48) rfl _ _ _) rfl ?_
    obtain ⟨l, h1, h2, h3⟩ := HX.out
    exact ⟨rfl, ⟨l, h1, h2.perm, by unfold HeapL; rw [h2.len, ← HN.out]; exact h3⟩, HQ2.out⟩
  | false =>
    have HU := Shut.mk (show Is w2 l0 ∧ UpF lt (fun k => l0.getD k d) n i by
      obtain ⟨l, h1, h2, -, h4⟩ := HE.out
      obtain ⟨h5, h6⟩ := h4 rfl
      subst h6
      exact ⟨h1, h5⟩)
    go_wp2_with (fail)
    refine (up_any HH.out l0 n i w2 HU.out.1 HI.out (Nat.le_of_eq HN.out) HU.out.2).mono ?_
    rintro x w3 ⟨rfl, hE2, hQ⟩
    have HE2 := Shut.mk hE2
    have HQ3 := Shut.mk (HH.out.trans _ _ _ HQ2.out hQ)
    clear hE2 hQ
    go_wp2_with (fail)
    refine bodyPost_end (results_none (fn := Tryd.f48) rfl _ _ _) rfl ?_
    obtain ⟨l, h1, h2, h3⟩ := HE2.out
    exact ⟨rfl, ⟨l, h1, h2.perm, by unfold HeapL; rw [h2.len, ← HN.out]; exact h3⟩, HQ3.out⟩
set_option maxRecDepth 100000 in
set_option maxHeartbeats 8000000 in
theorem push_any (H : HObj T rv lt d Is Q) (l0 : List α) (y : α) (v : Value) (w : World) (hp : ∃ f, Meth T rv "Push" f [v] w fun r w' => r = .returned (.tuple #[]) ∧ Is w' (l0 ++ [y]) ∧ Q w w') (hh : HeapL lt d l0) :
    Calls Tryd.prog 47 #[.iface T rv, v] w fun r w' => r = .returned (.tuple #[]) ∧ (∃ l, Is w' l ∧ l.Perm (l0 ++ [y]) ∧ HeapL lt d l) ∧ Q w w' := by
  have HH := Shut.mk H
  obtain ⟨f1, e1, r1, m1, c1⟩ := hp
  have HC1 := Shut.mk c1
  obtain ⟨l1, hl1⟩ : ∃ l1, l1 = l0 ++ [y] := ⟨_, rfl⟩
  obtain ⟨n, hn⟩ : ∃ n, n = l0.length := ⟨_, rfl⟩
  have HN := Shut.mk (show l1.length = n + 1 by rw [hl1, hn]; simp)
  have HU := Shut.mk (show UpF lt (fun k => l1.getD k d) (n + 1) n by
    unfold HeapL at hh
    rw [← hn] at hh
    refine up_push hh fun k hk => ?_
    rw [hl1]
    simp [List.getD, List.getElem?_append_left (show k < l0.length by omega)])
  rw [← hl1] at HC1 ⊢
  clear c1 hn hl1 H hh
  go_enter Tryd.func47, Tryd.ntmps47
  go_wp2_with (simp only [m1, e1])
  refine HC1.out.mono ?_
  rintro x w1 ⟨rfl, hI, hQ⟩
  have HP1 := Shut.mk (show Is w1 l1 ∧ Q w w1 from ⟨hI, hQ⟩)
  have HF := Shut.mk (show n + 1 ≤ 1099511627776 by have := HH.out.few w1 l1 hI; have := HN.out; omega)
  obtain ⟨f2, e2, r2, m2, c2⟩ := HH.out.len w1 l1 hI
  have HC2 := Shut.mk c2
  rw [HN.out] at HC2
  have y1 : IntKind.i64.wrap (((n + 1 : Nat) : Int) - 1) = (n : Int) := by have := HF.out; rw [IntWalk.i64_in _ ⟨by omega, by omega⟩]; omega
  obtain ⟨n1, hn1⟩ : ∃ n1, n1 = n + 1 := ⟨_, rfl⟩
  rw [← hn1] at y1 HC2
  have HN1 := Shut.mk hn1
  clear hI hQ m1 e1 HC1 c2 hn1
  go_wp2_with (simp only [m2, e2])
  refine HC2.out.mono ?_
  rintro x w2 ⟨rfl, hI, hQ⟩
  have HP2 := Shut.mk (show Is w2 l1 ∧ Q w w2 from ⟨hI, HH.out.trans _ _ _ HP1.out.2 hQ⟩)
  clear hI hQ m2 e2 HC2
  go_wp2_with (fail)
  refine (up_any HH.out l1 (n + 1) n w2 HP2.out.1 (Nat.lt_succ_self n) (Nat.le_of_eq HN.out.symm) HU.out).mono ?_
  rintro x w3 ⟨rfl, hE, hQ⟩
  have HE := Shut.mk hE
  have HQ3 := Shut.mk (HH.out.trans _ _ _ HP2.out.2 hQ)
  clear hE hQ
  go_wp2_with (fail)
  refine bodyPost_end (results_none (fn := Tryd.f47) rfl _ _ _) rfl ?_
  obtain ⟨l, h1, h2, h3⟩ := HE.out
  exact ⟨rfl, ⟨l, h1, h2.perm, by unfold HeapL; rw [h2.len, HN.out]; exact h3⟩, HQ3.out⟩
set_option maxRecDepth 100000 in
set_option maxHeartbeats 8000000 in
theorem pop_any (H : HObj T rv lt d Is Q) (l0 : List α) (w : World) (PP : Ending → World → Prop) (h : Is w l0) (hne : 0 < l0.length) (hh : HeapL lt d l0)
    (hpop : ∀ w1 l, Is w1 (l ++ [l0.getD 0 d]) → (l ++ [l0.getD 0 d]).Perm l0 → HeapL lt d l → Q w w1 → ∃ f, Meth T rv "Pop" f [] w1 fun r w' => (∃ v, r = .returned v) ∧ PP r w') :
    Calls Tryd.prog 31 #[.iface T rv] w PP := by
  have HH := Shut.mk H
  have HPOP := Shut.mk hpop
  obtain ⟨f1, e1, r1, m1, c1⟩ := H.len w l0 h
  obtain ⟨n, hn⟩ : ∃ n, n + 1 = l0.length := ⟨l0.length - 1, by omega⟩
  have HC1 := Shut.mk c1
  rw [← hn] at HC1
  have HN := Shut.mk hn
  have HF := Shut.mk (show n + 1 ≤ 1099511627776 by have := H.few w l0 h; omega)
  have y1 : IntKind.i64.wrap (((n + 1 : Nat) : Int) - 1) = (n : Int) := by have := HF.out; rw [IntWalk.i64_in _ ⟨by omega, by omega⟩]; omega
  obtain ⟨n1, hn1⟩ : ∃ n1, n1 = n + 1 := ⟨_, rfl⟩
  rw [← hn1] at y1 HC1
  have HHE := Shut.mk hh
  clear c1 hn H h hh hne hpop hn1
  go_enter Tryd.func31, Tryd.ntmps31
  go_wp2_with (simp only [m1, e1])
  refine HC1.out.mono ?_
  rintro x w1 ⟨rfl, hI, hQ⟩
  have HP1 := Shut.mk (show Is w1 l0 ∧ Q w w1 from ⟨hI, hQ⟩)
  obtain ⟨f2, e2, r2, m2, c2⟩ := HH.out.swap w1 l0 0 n hI (by have := HN.out; omega) (by have := HN.out; omega)
  have HC2 := Shut.mk (show Calls Tryd.prog f2 #[r2, .int .i64 0, .int .i64 (n : Nat)] w1 fun r w' => r = .returned (.tuple #[]) ∧ Is w' (swapL d l0 0 n) ∧ Q w1 w' from c2)
  clear hI hQ m1 e1 HC1 c2
  go_wp2_with (simp only [m2, e2])
  refine HC2.out.mono ?_
  rintro x w2 ⟨rfl, hI, hQ⟩
  have HG := Shut.mk (swapL_swapped d l0 (show 0 < l0.length by have := HN.out; omega) (show n < l0.length by have := HN.out; omega))
  have HPM := Shut.mk (swapL_perm d l0 (show 0 < l0.length by have := HN.out; omega) (show n < l0.length by have := HN.out; omega))
  obtain ⟨l1, hl1⟩ : ∃ l1, l1 = swapL d l0 0 n := ⟨_, rfl⟩
  rw [← hl1] at hI HG HPM
  have HL1 := Shut.mk (show l1.length = n + 1 by rw [HPM.out.length_eq, HN.out])
  have HLA := Shut.mk (show l1.getD n d = l0.getD 0 d from HG.out.at_j)
  have HO := Shut.mk (show OddF lt (fun k => l1.getD k d) n 0 from odd_of_down (down_pop (by have h := HHE.out; unfold HeapL at h; rw [← HN.out] at h; exact h) fun k h0 hk => HG.out.else_ k (by omega) (by omega)))
  have HP2 := Shut.mk (show Is w2 l1 ∧ Q w w2 from ⟨hI, HH.out.trans _ _ _ HP1.out.2 hQ⟩)
  clear hI hQ m2 e2 HC2 hl1 HG
  go_wp2_with (fail)
  refine (show Calls Tryd.prog 42 #[.iface T rv, .int .i64 0, .int .i64 (n : Nat)] w2 _ from down_any HH.out l1 n 0 w2 HP2.out.1 (by have := HL1.out; omega) (Nat.zero_le _) HO.out).mono ?_
  rintro x w3 ⟨b, rfl, hE, hQ⟩
  have HX := Shut.mk (show ∃ l, Is w3 l ∧ Kept d n l1 l ∧ HeapF lt (fun k => l.getD k d) n by
    obtain ⟨l, h1, h2, h3, h4⟩ := hE
    refine ⟨l, h1, h2, ?_⟩
    cases b with
    | true => exact h3 rfl
    | false =>
      exact up_stop (h4 rfl).1 (.inl rfl))
  have HQ3 := Shut.mk (HH.out.trans _ _ _ HP2.out.2 hQ)
  obtain ⟨l, h1, h2, h3⟩ := HX.out
  have hll : l.length = n + 1 := by rw [h2.len, HL1.out]
  have hsp := split_last d l hll
  rw [h2.past n (Nat.le_refl n), HLA.out] at hsp
  obtain ⟨f4, e4, r4, m4, c4⟩ := HPOP.out w3 (l.take n) (by rw [← hsp]; exact h1) (by rw [← hsp]; exact h2.perm.trans HPM.out) (heap_take h3 (by omega)) HQ3.out
  have HC4 := Shut.mk c4
  clear hE hQ h1 h2 h3 hll hsp c4 HX
  go_wp2_with (simp only [m4, e4])
  refine HC4.out.mono ?_
  rintro x w4 ⟨⟨v, rfl⟩, hPP⟩
  have HPP := Shut.mk hPP
  clear hPP m4 e4 HC4
  go_wp2_with (fail)
  exact HPP.out
set_option maxRecDepth 100000 in
set_option maxHeartbeats 8000000 in
theorem remove_any (H : HObj T rv lt d Is Q) (l0 : List α) (i : Nat) (w : World) (PP : Ending → World → Prop) (h : Is w l0) (hi : i < l0.length) (hh : HeapL lt d l0)
    (hpop : ∀ w1 l, Is w1 (l ++ [l0.getD i d]) → (l ++ [l0.getD i d]).Perm l0 → HeapL lt d l → Q w w1 → ∃ f, Meth T rv "Pop" f [] w1 fun r w' => (∃ v, r = .returned v) ∧ PP r w') :
    Calls Tryd.prog 46 #[.iface T rv, .int .i64 (i : Nat)] w PP := by
  have HH := Shut.mk H
  have HPOP := Shut.mk hpop
  obtain ⟨f1, e1, r1, m1, c1⟩ := H.len w l0 h
  obtain ⟨n, hn⟩ : ∃ n, n + 1 = l0.length := ⟨l0.length - 1, by omega⟩
  have HC1 := Shut.mk c1
  rw [← hn] at HC1
  have HN := Shut.mk hn
  have HI := Shut.mk (show i ≤ n by omega)
  have HF := Shut.mk (show n + 1 ≤ 1099511627776 by have := H.few w l0 h; omega)
  have y1 : IntKind.i64.wrap (((n + 1 : Nat) : Int) - 1) = (n : Int) := by have := HF.out; rw [IntWalk.i64_in _ ⟨by omega, by omega⟩]; omega
  obtain ⟨n1, hn1⟩ : ∃ n1, n1 = n + 1 := ⟨_, rfl⟩
  rw [← hn1] at y1 HC1
  have HHE := Shut.mk (show HeapF lt (fun k => l0.getD k d) (n + 1) by have h := hh; unfold HeapL at h; rw [← hn] at h; exact h)
  clear c1 hn H h hh hi hpop hn1
  go_enter Tryd.func46, Tryd.ntmps46
  go_wp2_with (simp only [m1, e1])
  refine HC1.out.mono ?_
  rintro x w1 ⟨rfl, hI, hQ⟩
  have HP1 := Shut.mk (show Is w1 l0 ∧ Q w w1 from ⟨hI, hQ⟩)
  clear hI hQ m1 e1 HC1
  by_cases hin : i = n
  · have HIN := Shut.mk hin
    have hne : ((n : Int) == (i : Int)) = true := by simp; omega
    have hne2 : (n : Int) = (i : Int) := by omega
    have hsp := split_last d l0 HN.out.symm
    obtain ⟨f4, e4, r4, m4, c4⟩ := HPOP.out w1 (l0.take n) (by rw [HIN.out, ← hsp]; exact HP1.out.1) (by rw [HIN.out, ← hsp]) (heap_take (HHE.out.le (Nat.le_succ n)) (by have := HN.out; omega)) HP1.out.2
    have HC4 := Shut.mk c4
    clear hin hsp c4
    go_wp2_with (simp only [m4, e4])
    refine HC4.out.mono ?_
    rintro x w4 ⟨⟨v, rfl⟩, hPP⟩
    have HPP := Shut.mk hPP
    clear hPP m4 e4 HC4
    go_wp2_with (fail)
    exact HPP.out
  have hne : ((n : Int) == (i : Int)) = false := by simp; omega
  have hne2 : ¬ (n : Int) = (i : Int) := by omega
  have HIN := Shut.mk (show i < n by have := HI.out; omega)
  have hil : i < l0.length := by have := HN.out; have := HIN.out; omega
  have hnl : n < l0.length := by have := HN.out; omega
  obtain ⟨f2, e2, r2, m2, c2⟩ := HH.out.swap w1 l0 i n HP1.out.1 hil hnl
  have HC2 := Shut.mk c2
  have HG := Shut.mk (swapL_swapped d l0 hil hnl)
  have HPM := Shut.mk (swapL_perm d l0 hil hnl)
  clear hin hil hnl c2
  go_wp2_with (simp only [m2, e2])
  refine HC2.out.mono ?_
  rintro x w2 ⟨rfl, hI, hQ⟩
  obtain ⟨l1, hl1⟩ : ∃ l1, l1 = swapL d l0 i n := ⟨_, rfl⟩
  rw [← hl1] at hI HG HPM
  have HL1 := Shut.mk (show l1.length = n + 1 by rw [HPM.out.length_eq, HN.out])
  have HLA := Shut.mk (show l1.getD n d = l0.getD i d from HG.out.at_j)
  have HO := Shut.mk (show OddF lt (fun k => l1.getD k d) n i from odd_remove HH.out.ord HHE.out HIN.out fun k hk hki => HG.out.else_ k hki (by omega))
  have HP2 := Shut.mk (show Is w2 l1 ∧ Q w w2 from ⟨hI, HH.out.trans _ _ _ HP1.out.2 hQ⟩)
  clear hI hQ m2 e2 HC2 hl1 HG hne hne2
  go_wp2_with (fail)
  refine (down_any HH.out l1 n i w2 HP2.out.1 (by have := HL1.out; omega) (Nat.le_of_lt HIN.out) HO.out).mono ?_
  rintro x w3 ⟨b, rfl, hE, hQ⟩
  have HE := Shut.mk hE
  have HQ3 := Shut.mk (HH.out.trans _ _ _ HP2.out.2 hQ)
  clear hE hQ
  cases b with
  | true =>
    obtain ⟨l, h1, h2, h3, -⟩ := HE.out
    have hll : l.length = n + 1 := by rw [h2.len, HL1.out]
    have hsp := split_last d l hll
    rw [h2.past n (Nat.le_refl n), HLA.out] at hsp
    obtain ⟨f4, e4, r4, m4, c4⟩ := HPOP.out w3 (l.take n) (by rw [← hsp]; exact h1) (by rw [← hsp]; exact h2.perm.trans HPM.out) (heap_take (h3 rfl) (by omega)) HQ3.out
    have HC4 := Shut.mk c4
    clear h1 h2 h3 hll hsp c4
    go_wp2_with (simp only [m4, e4])
    refine HC4.out.mono ?_
    rintro x w4 ⟨⟨v, rfl⟩, hPP⟩
    have HPP := Shut.mk hPP
    clear hPP m4 e4 HC4
    go_wp2_with (fail)
    exact HPP.out
  | false =>
    have HU := Shut.mk (show Is w3 l1 ∧ UpF lt (fun k => l1.getD k d) n i by
      obtain ⟨l, h1, h2, -, h4⟩ := HE.out
      obtain ⟨h5, h6⟩ := h4 rfl
      subst h6
      exact ⟨h1, h5⟩)
    go_wp2_with (fail)
    refine (up_any HH.out l1 n i w3 HU.out.1 HIN.out (by have := HL1.out; omega) HU.out.2).mono ?_
    rintro x w4 ⟨rfl, hE2, hQ⟩
    have HQ4 := Shut.mk (HH.out.trans _ _ _ HQ3.out hQ)
    obtain ⟨l, h1, h2, h3⟩ := hE2
    have hll : l.length = n + 1 := by rw [h2.len, HL1.out]
    have hsp := split_last d l hll
    rw [h2.past n (Nat.le_refl n), HLA.out] at hsp
    obtain ⟨f4, e4, r4, m4, c4⟩ := HPOP.out w4 (l.take n) (by rw [← hsp]; exact h1) (by rw [← hsp]; exact h2.perm.trans HPM.out) (heap_take h3 (by omega)) HQ4.out
    have HC4 := Shut.mk c4
    clear h1 h2 h3 hll hsp c4 hQ
    go_wp2_with (simp only [m4, e4])
    refine HC4.out.mono ?_
    rintro x w5 ⟨⟨v, rfl⟩, hPP⟩
    have HPP := Shut.mk hPP
    clear hPP m4 e4 HC4
    go_wp2_with (fail)
    exact HPP.out
end
end Go.Proofs.YtkmblmnffnhpmaaDoor
