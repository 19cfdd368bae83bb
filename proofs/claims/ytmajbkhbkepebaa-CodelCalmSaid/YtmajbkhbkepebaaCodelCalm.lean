/-
  muezzin/muezzinlaw11.CodelCalm returns true, for all arguments; no condition.
-/
import Derived.Test.YtmajbkhbkepebaaCodT
import Derived.Test.YtmajbkhbkepebaaOpenCd
import Derived.WalkKit
import Derived.ProofKit
import Derived.OpenShut
import Derived.ChangeOld
import Derived.Below
namespace Go.Proofs.Ytmajbkhbkepebaa.codelCalm
open Go.Deep Go.ChangeShapes Go.WideShapes Go.ChangeAt Go.RowKit
set_option linter.unusedVariables false
set_option linter.unusedSimpArgs false

theorem own : ownKnob Try.prog.godebug = none := by kernel_rfl
theorem laidOut : laidOutB Try.prog = true := by kernel_rfl

/-! ### THE WALK -/
set_option maxRecDepth 100000 in
set_option maxHeartbeats 8000000 in
theorem walk (a0 : Option Addr) (len0 cap0 : Nat) (l0 : List It) (n1 : Int) (n2 : Int) (b3 : Bool) (w : World) (w0 : RowS itC 2 it00 w a0 len0 l0 ∧ len0 ≤ cap0 ∧ ∀ u ∈ l0, okI u) (w1 : (Lit.int .i64 n1).wf = true) (w2 : (Lit.int .i64 n2).wf = true) :
    Calls Try.prog 5 #[.slice a0 len0 cap0, .int .i64 n1, .int .i64 n2, .bool b3] w fun e w' => e = .returned (.bool true) ∧ Below w.heap.size w w' := by
  have HL0 := Shut.mk w0.1
  have HO0 := Shut.mk w0.2.2
  have hm := w0.1.le
  have hmi : (len0 : Int) ≤ maxLen := by exact_mod_cast hm
  have HLE := Shut.mk w0.1.len
  clear w0 w1 w2
  go_enter Try.func5, Try.ntmps5
  go_wp2_with (fail)
  refine (first_any w).mono ?_
  rintro e w1 ⟨rfl, hB⟩
  have HB1 := Shut.mk hB
  have HL1 := Shut.mk (HL0.out.below hB)
  clear hB HL0
  by_cases g0 : n2 < 1
  · go_wp2
    go_ret
    exact ⟨rfl, HB1.out⟩
  by_cases g1 : 1073741824 < n2
  · go_wp2
    go_ret
    exact ⟨rfl, HB1.out⟩
  by_cases g2 : n1 < n2
  · go_wp2
    go_ret
    exact ⟨rfl, HB1.out⟩
  by_cases g3 : 1125899906842624 < n1
  · go_wp2
    go_ret
    exact ⟨rfl, HB1.out⟩
  by_cases g4 : (40 : Int) < (len0 : Int)
  · go_wp2
    go_ret
    exact ⟨rfl, HB1.out⟩
  go_wp2_with (fail)
  have RG : Shut (1 ≤ n2 ∧ n2 ≤ 1073741824 ∧ n2 ≤ n1 ∧ n1 ≤ 1125899906842624 ∧ len0 ≤ 40) := ⟨by omega⟩
  clear g0 g1 g2 g3 g4
  go_loopw [10, 11, 12] (fun q bt i wr => ∃ (k : Nat) (xs : List It), i = .int .i64 (k : Nat) ∧ bt = .int .i64 (sumL xs) ∧ OwnI wr w1.heap.size q k xs ∧ Below w1.heap.size w1 wr ∧ k ≤ len0 ∧ (∀ x ∈ xs, CalmX b3 n1 n2 x)) (fun _ _ i _ => len0 - (intOf i).toNat)
  case atStart => exact ⟨0, [], rfl, rfl, OwnS.nil _ _ _, Below.refl _ _, Nat.zero_le _, fun x hx => by cases hx⟩
  case round =>
    obtain ⟨k, xs, rfl, rfl, hq, hB, hk, hC⟩ := hrel
    have HQ := Shut.mk hq
    have HB := Shut.mk hB
    have HC := Shut.mk hC
    have HL := Shut.mk (HL1.out.below hB)
    clear hq hB hC
    rcases Nat.lt_or_eq_of_le hk with hlt | hlt
    · obtain ⟨b0, off, rfl, hr⟩ := HL.out.el k hlt
      have hkI : ((k : Nat) : Int) < (len0 : Int) := by exact_mod_cast hlt
      have y0 : IntKind.i64.wrap ((k : Int) + 1) = ((k + 1 : Nat) : Int) := by rw [IntWalk.i64_in _ ⟨by omega, by omega⟩]; omega
      have hkl : k < l0.length := by rw [HLE.out]; exact hlt
      obtain ⟨xa, xl, hxe, -, hwx⟩ := HO0.out (l0.getD k it00) (by rw [List.getD_eq_getElem?_getD, List.getElem?_eq_getElem hkl]; exact List.getElem_mem hkl)
      rw [hxe] at hr
      have c1 : wr.cell? ⟨b0, off + k * 2 + 1, none⟩ = some (.int .i64 xl) := by simpa using hr 1 _ rfl
      have HW := Shut.mk hwx
      clear hr hxe hwx hkl
      obtain ⟨e1, he1⟩ : ∃ x : Int, n1 - n2 = x := ⟨_, rfl⟩
      obtain ⟨aa, haa⟩ : ∃ x : Int, e1 + 1 = x := ⟨_, rfl⟩
      have y1 : IntKind.i64.wrap (n1 - n2) = e1 := by have := RG.out; rw [he1]; exact IntWalk.i64_in _ ⟨by omega, by omega⟩
      have y2 : IntKind.i64.wrap (e1 + 1) = aa := by have := RG.out; rw [haa]; exact IntWalk.i64_in _ ⟨by omega, by omega⟩
      have HQA : Shut (u10.ownBlock ≠ some wr.heap.size) := ⟨HQ.out.apart (Nat.le_refl _)⟩
      have HAA : Shut (n1 - n2 + 1 = aa) := ⟨by omega⟩
      clear he1 haa
      go_wp2_with (fail)
      refine (number_any xl 3000 _ HW.out (by decide) (by decide)).mono ?_
      rintro e w2 ⟨rfl, rfl⟩
      have l2 := nmod_lo xl 3000 (by decide)
      have u2 := nmod_hi xl 3000 (by decide)
      generalize nmod xl 3000 = m at *
      have HMM : Shut (0 ≤ m ∧ m < 3000 ∧ n1 - n2 + 1 = aa) := ⟨l2, u2, HAA.out⟩
      clear HAA l2 u2 c1
      cases b3
      · have HX : Shut (CalmX false n1 n2 ⟨aa, m⟩) := ⟨by have := RG.out; have := HMM.out; exact ⟨by dsimp only; omega, by dsimp only; omega, by dsimp only; omega, by dsimp only; omega, (fun _ => by dsimp only; omega), (fun e => by cases e)⟩⟩
        have H2 := Shut.mk (two_alloc wr (Obj.cells #[Value.int IntKind.i64 aa, Value.int IntKind.i64 m] 38 (0, 0)) (Obj.cells #[Value.int IntKind.i64 aa, Value.int IntKind.i64 m] 38 (0, 0)))
        have HS2 : Shut (OwnI ((wr.alloc (Obj.cells #[Value.int IntKind.i64 aa, Value.int IntKind.i64 m] 38 (0, 0))).alloc (Obj.cells #[Value.int IntKind.i64 aa, Value.int IntKind.i64 m] 38 (0, 0))) w1.heap.size u10 k xs) := ⟨HQ.out.below' H2.out.1⟩
        have HBS := Shut.mk (HB.out.trans (H2.out.1.mono HB.out.size))
        clear HQ
        go_wp2_with (refine app_i rfl (.tmp 65) (.tmp 67) rfl w1.heap.size k u10 xs rfl HS2.out ⟨aa, m⟩ ⟨wr.heap.size + 1, 0, none⟩ 1 rfl (fun j v hv => by rw [Addr.add_mid]; exact block_range H2.out.2.2.1 j v hv) (by have := RG.out; omega) (HBS.out.size) ?_)
        intro v w' ho hb hk1
        have HNX := Shut.mk (hk1.out wr.heap.size _ H2.out.2.1 (HQA.out))
        have HB' := Shut.mk (HBS.out.trans hb.out)
        clear H2 HS2 HBS hk1 hb
        have c1 : w'.cell? ⟨wr.heap.size, 1, none⟩ = some (.int .i64 m) := by simpa using (block_range HNX.out) 1 _ rfl
        have hsx := sumL_snoc ⟨aa, m⟩ xs
        obtain ⟨S, hS⟩ : ∃ S, sumL xs = S := ⟨_, rfl⟩
        have hsb := sumL_in (l := xs) (m := 3000) (fun x hx => ⟨(HC.out x hx).2.2.1, (HC.out x hx).2.2.2.1⟩)
        rw [hS] at hsb hsx ⊢
        have hlx : xs.length = k := ho.out.2 |> fun h => by simpa using h
        dsimp only at hsx
        obtain ⟨S2, hS2⟩ : ∃ S2, S + m = S2 := ⟨_, rfl⟩
        have y4 : IntKind.i64.wrap (S + m) = S2 := by rw [hS2]; have := RG.out; have := HMM.out; exact IntWalk.i64_in _ ⟨by omega, by omega⟩
        rw [hS2] at hsx
        have HSX := Shut.mk hsx
        clear hsx hS hsb hlx hS2
        go_wp2
        go_roundw
        case rel => exact ⟨k + 1, xs ++ [⟨aa, m⟩], by go_num, by rw [HSX.out], ho.out, HB'.out, hlt, fun x hx => by
          rcases List.mem_append.1 hx with h | h
          · exact HC.out x h
          · rw [List.mem_singleton.1 h]; exact HX.out⟩
        case measure => simp [intOf]; omega
      · have HX : Shut (CalmX true n1 n2 ⟨0, 30⟩) := ⟨by have := RG.out; have := HMM.out; exact ⟨by dsimp only; omega, by dsimp only; omega, by dsimp only; omega, by dsimp only; omega, (fun e => by cases e), (fun _ => rfl)⟩⟩
        have H2 := Shut.mk (two_alloc wr (Obj.cells #[Value.int IntKind.i64 0, Value.int IntKind.i64 30] 38 (0, 0)) (Obj.cells #[Value.int IntKind.i64 0, Value.int IntKind.i64 30] 38 (0, 0)))
        have HS2 : Shut (OwnI ((wr.alloc (Obj.cells #[Value.int IntKind.i64 0, Value.int IntKind.i64 30] 38 (0, 0))).alloc (Obj.cells #[Value.int IntKind.i64 0, Value.int IntKind.i64 30] 38 (0, 0))) w1.heap.size u10 k xs) := ⟨HQ.out.below' H2.out.1⟩
        have HBS := Shut.mk (HB.out.trans (H2.out.1.mono HB.out.size))
        clear HQ
        go_wp2_with (refine app_i rfl (.tmp 65) (.tmp 67) rfl w1.heap.size k u10 xs rfl HS2.out ⟨0, 30⟩ ⟨wr.heap.size + 1, 0, none⟩ 1 rfl (fun j v hv => by rw [Addr.add_mid]; exact block_range H2.out.2.2.1 j v hv) (by have := RG.out; omega) (HBS.out.size) ?_)
        intro v w' ho hb hk1
        have HNX := Shut.mk (hk1.out wr.heap.size _ H2.out.2.1 (HQA.out))
        have HB' := Shut.mk (HBS.out.trans hb.out)
        clear H2 HS2 HBS hk1 hb
        have c1 : w'.cell? ⟨wr.heap.size, 1, none⟩ = some (.int .i64 30) := by simpa using (block_range HNX.out) 1 _ rfl
        have hsx := sumL_snoc ⟨0, 30⟩ xs
        obtain ⟨S, hS⟩ : ∃ S, sumL xs = S := ⟨_, rfl⟩
        have hsb := sumL_in (l := xs) (m := 3000) (fun x hx => ⟨(HC.out x hx).2.2.1, (HC.out x hx).2.2.2.1⟩)
        rw [hS] at hsb hsx ⊢
        have hlx : xs.length = k := ho.out.2 |> fun h => by simpa using h
        dsimp only at hsx
        obtain ⟨S2, hS2⟩ : ∃ S2, S + 30 = S2 := ⟨_, rfl⟩
        have y4 : IntKind.i64.wrap (S + 30) = S2 := by rw [hS2]; have := RG.out; have := HMM.out; exact IntWalk.i64_in _ ⟨by omega, by omega⟩
        rw [hS2] at hsx
        have HSX := Shut.mk hsx
        clear hsx hS hsb hlx hS2
        go_wp2
        go_roundw
        case rel => exact ⟨k + 1, xs ++ [⟨0, 30⟩], by go_num, by rw [HSX.out], ho.out, HB'.out, hlt, fun x hx => by
          rcases List.mem_append.1 hx with h | h
          · exact HC.out x h
          · rw [List.mem_singleton.1 h]; exact HX.out⟩
        case measure => simp [intOf]; omega
    · obtain rfl : len0 = k := hlt.symm
      obtain ⟨A, c, rfl, hrow, hcap⟩ := HQ.out.row' hm
      have HQA : Shut (∀ p, A = some p → ¬ p.block = wr.heap.size) := ⟨fun p e h => HQ.out.apart (Nat.le_refl _) (by rw [e]; show some p.block = _; rw [h])⟩
      have hB0 := (Below.refl wr.heap.size wr).alloc (Nat.le_refl _) (Obj.cells #[Value.int IntKind.i64 0, Value.int IntKind.i64 0, Value.int IntKind.u32 0, Value.int IntKind.u32 0, Value.bool false] 24 (0, 0))
      have HB5 := Shut.mk ((HB1.out.trans (HB.out.mono HB1.out.size)).trans (hB0.mono (Nat.le_trans HB1.out.size HB.out.size)))
      have HR5 := Shut.mk (hrow.below hB0)
      have HC5 : Shut ((wr.alloc (Obj.cells #[Value.int IntKind.i64 0, Value.int IntKind.i64 0, Value.int IntKind.u32 0, Value.int IntKind.u32 0, Value.bool false] 24 (0, 0))).heap[wr.heap.size]? = some (Obj.cells #[Value.int IntKind.i64 0, Value.int IntKind.i64 0, Value.int IntKind.u32 0, Value.int IntKind.u32 0, Value.bool false] 24 (0, 0))) := ⟨heap_alloc_last _ _⟩
      have HXL := Shut.mk hrow.len
      have HCAP := Shut.mk hcap
      have HG14 : Shut (w.heap.size ≤ wr.heap.size) := ⟨Nat.le_trans HB1.out.size HB.out.size⟩
      clear hB0 hrow HB HL HQ hlt hcap
      go_wp2_with (fail)
      generalize hw : wr.alloc _ = w5 at *
      clear hw
      generalize hg : wr.heap.size = g14 at *
      clear hg
      go_loopw [11, 15] (fun bt i wq => ∃ k : Nat, i = .int .i64 (k : Nat) ∧ bt = .int .i64 (sumL (xs.drop k)) ∧ k ≤ len0 ∧ Below w.heap.size w wq ∧ RowS itC 2 it00 wq A len0 xs ∧ wq.heap[g14]? = some (Obj.cells #[Value.int IntKind.i64 0, Value.int IntKind.i64 0, Value.int IntKind.u32 0, Value.int IntKind.u32 0, Value.bool false] 24 (0, 0))) (fun _ i _ => len0 - (intOf i).toNat)
      case atStart => exact ⟨0, rfl, by rw [List.drop_zero], Nat.zero_le _, HB5.out, HR5.out, HC5.out⟩
      case round =>
        clear HB5 HR5 HC5
        obtain ⟨k, rfl, rfl, hk, hB, hR, hC14⟩ := hrel
        have HB := Shut.mk hB
        have HRW := Shut.mk hR
        have HC14 := Shut.mk hC14
        clear hB hR hC14
        rcases Nat.lt_or_eq_of_le hk with hlt | hlt
        · obtain ⟨b1, o1, rfl, hr⟩ := HRW.out.el k hlt
          have hkI : ((k : Nat) : Int) < (len0 : Int) := by exact_mod_cast hlt
          have y0 : IntKind.i64.wrap ((k : Int) + 1) = ((k + 1 : Nat) : Int) := by rw [IntWalk.i64_in _ ⟨by omega, by omega⟩]; omega
          have hcI : (len0 : Int) ≤ (c : Int) := by exact_mod_cast HCAP.out
          have hkc : ((k : Nat) : Int) ≤ (c : Int) := by omega
          have hck : ¬ c = k := by have := HCAP.out; omega
          go_wp2
          refine wp_region_held_drew (S := fun w' => Below wr.heap.size wr w') (by kernel_rfl) (Below.refl _ _).drew (fun hHeld => ?_)
          refine wpAnyH_take (i := 0) (v := .agg #[Value.int IntKind.i64 0, Value.int IntKind.i64 0, Value.int IntKind.u32 0, Value.int IntKind.u32 0, Value.bool false]) rfl (by kernel_rfl) (by kernel_rfl) (by kernel_rfl) (fun _ _ _ h => h) (yieldsIf_load_mid (by rfl) 24 (.tmp 14) rfl g14 (0) rfl (#[Value.int IntKind.i64 0, Value.int IntKind.i64 0, Value.int IntKind.u32 0, Value.int IntKind.u32 0, Value.bool false]).toList _ (fun w' hw' => range_below (B := 0) (block_range HC14.out) hw') Try.underlying24 rfl size1) (by assumption) ?_
          try simp only [Act.put, List.getElem_toArray, List.getElem_cons_zero, List.getElem_cons_succ, List.setIfInBounds_toArray, List.set_cons_zero, List.set_cons_succ]
          refine wpAnyH_take (i := 1) (v := ?_) rfl (by kernel_rfl) (by kernel_rfl) (by kernel_rfl) (fun _ _ _ h => h) (Or.inl ⟨by rfl, ?_⟩) (by assumption) ?_
          rotate_left
          · intro w hSw
            clear hSw
            go_simp
            try with_reducible rfl
          try simp only [Act.put, List.getElem_toArray, List.getElem_cons_zero, List.getElem_cons_succ, List.setIfInBounds_toArray, List.set_cons_zero, List.set_cons_succ]
          refine wpAnyH_take (i := 2) (v := ?_) rfl (by kernel_rfl) (by kernel_rfl) (by kernel_rfl) (fun _ _ _ h => h) (Or.inl ⟨by rfl, ?_⟩) (by assumption) ?_
          rotate_left
          · intro w hSw
            clear hSw
            go_simp
            try with_reducible rfl
          try simp only [Act.put, List.getElem_toArray, List.getElem_cons_zero, List.getElem_cons_succ, List.setIfInBounds_toArray, List.set_cons_zero, List.set_cons_succ]
          refine wpAnyH_take (i := 3) (v := ?_) rfl (by kernel_rfl) (by kernel_rfl) (by kernel_rfl) (fun _ _ _ h => h) (Or.inl ⟨by rfl, ?_⟩) (by assumption) ?_
          rotate_left
          · intro w hSw
            clear hSw
            go_simp
            try with_reducible rfl
          try simp only [Act.put, List.getElem_toArray, List.getElem_cons_zero, List.getElem_cons_succ, List.setIfInBounds_toArray, List.set_cons_zero, List.set_cons_succ]
          refine wpAnyH_take (i := 4) (v := ?_) rfl (by kernel_rfl) (by kernel_rfl) (by kernel_rfl) (fun _ _ _ h => h) (Or.inl ⟨by rfl, ?_⟩) (by assumption) ?_
          rotate_left
          · intro w hSw
            clear hSw
            go_simp
            try with_reducible rfl
          try simp only [Act.put, List.getElem_toArray, List.getElem_cons_zero, List.getElem_cons_succ, List.setIfInBounds_toArray, List.set_cons_zero, List.set_cons_succ]
          refine wpAnyH_take (i := 5) (v := ?_) rfl (by kernel_rfl) (by kernel_rfl) (by kernel_rfl) (fun _ _ _ h => h) (Or.inl ⟨by rfl, ?_⟩) (by assumption) ?_
          rotate_left
          · intro w hSw
            clear hSw
            go_simp
            try with_reducible rfl
          try simp only [Act.put, List.getElem_toArray, List.getElem_cons_zero, List.getElem_cons_succ, List.setIfInBounds_toArray, List.set_cons_zero, List.set_cons_succ]
          refine wpAnyH_take (i := 6) (v := ?_) rfl (by kernel_rfl) (by kernel_rfl) (by kernel_rfl) (fun _ _ _ h => h) (Or.inl ⟨by rfl, ?_⟩) (by assumption) ?_
          rotate_left
          · intro w hSw
            clear hSw
            go_simp
            try with_reducible rfl
          try simp only [Act.put, List.getElem_toArray, List.getElem_cons_zero, List.getElem_cons_succ, List.setIfInBounds_toArray, List.set_cons_zero, List.set_cons_succ]
          clear hHeld
          have hxk := HRW.out
          have HS1 := Shut.mk (sumL_drop (l := xs) (k := k) (by rw [HXL.out]; exact hlt))
          have hsb := sumL_in (l := xs.drop k) (m := 3000) (fun x hx => ⟨(HC.out x (List.drop_subset k xs hx)).2.2.1, (HC.out x (List.drop_subset k xs hx)).2.2.2.1⟩)
          have hsb2 := sumL_in (l := xs.drop (k + 1)) (m := 3000) (fun x hx => ⟨(HC.out x (List.drop_subset _ xs hx)).2.2.1, (HC.out x (List.drop_subset _ xs hx)).2.2.2.1⟩)
          rw [List.length_drop, HXL.out] at hsb hsb2
          obtain ⟨S, hS⟩ : ∃ S, sumL (xs.drop k) = S := ⟨_, rfl⟩
          obtain ⟨S2, hS2⟩ : ∃ S2, sumL (xs.drop (k + 1)) = S2 := ⟨_, rfl⟩
          rw [hS] at hsb ⊢
          have HSE : Shut (S = (xs.getD k it00).len + S2) := ⟨by rw [← hS, ← hS2]; exact HS1.out⟩
          have HSD := Shut.mk hS2
          rw [hS2] at hsb2
          have HS : Shut (0 ≤ S ∧ S ≤ 1099511627776) := ⟨by have := RG.out; omega⟩
          have HSB : Shut (0 ≤ S2 ∧ S2 ≤ 1000000) := ⟨by have := RG.out; omega⟩
          have HP : Shut (pullR ⟨n1, clampR n2 0 1073741824, clampR 100 0 1073741824⟩ ⟨0, 0, 0, 0, false⟩ S (xs.drop k) = (⟨0, 0, 0, 0, false⟩, 0, true)) := ⟨by
            have := RG.out
            rw [clamp_id (show 0 ≤ n2 by omega) (show n2 ≤ 1073741824 by omega), ← hS]
            exact calm_pull HC.out (by rw [HXL.out]; omega) (by rw [HXL.out]; exact hlt)⟩
          have HXI : Shut (∀ x ∈ xs.drop k, 0 ≤ x.at_ ∧ x.at_ ≤ 4503599627370496 ∧ x.len ≤ 1048576) := ⟨fun x hx => by
            have := HC.out x (List.drop_subset k xs hx)
            exact ⟨this.1, by have := this.2.1; omega, by have := this.2.2.2.1; omega⟩⟩
          have HRK := Shut.mk (row_rest HRW.out k hk)
          clear hS hS2 hsb hsb2 hxk HS1
          have HD0 : Shut (Below wr.heap.size wr wr.drew) := ⟨(Below.refl _ _).drew⟩
          refine wpAnyH_ready (rs := [7, 12]) (by kernel_rfl) (by simp) ?_
          refine AllReadyH.cons rfl (fun K hK => ?_) (AllReadyH.cons rfl (fun K hK => ?_) AllReadyH.nil)
          · have HRD := Shut.mk (HRK.out.below HD0.out)
            generalize wr.drew = w5 at *
            go_simp
            refine (pull_any n1 n2 100 S 0 0 0 0 false _ _ _ (xs.drop k) _ HRD.out (by have := RG.out; omega) (by have := RG.out; omega) HS.out HXI.out (by omega) (by omega) (by omega) _ HP.out).mono ?_
            rintro e w6 ⟨rfl, hB6⟩
            have HB6 := Shut.mk (HD0.out.trans (hB6.mono HD0.out.size))
            dsimp only
            refine hK.out _ _ HB6.out (fun hHeld => ?_)
            clear hK K hB6 HRD
            try simp only [Act.put, List.getElem_toArray, List.getElem_cons_zero, List.getElem_cons_succ, List.setIfInBounds_toArray, List.set_cons_zero, List.set_cons_succ]
            refine wpAnyH_take (i := 8) (v := ?_) rfl (by kernel_rfl) (by kernel_rfl) (by kernel_rfl) (fun _ _ _ h => h) (Or.inl ⟨by rfl, ?_⟩) (by assumption) ?_
            rotate_left
            · intro w hSw
              clear hSw
              go_simp
              try with_reducible rfl
            try simp only [Act.put, List.getElem_toArray, List.getElem_cons_zero, List.getElem_cons_succ, List.setIfInBounds_toArray, List.set_cons_zero, List.set_cons_succ]
            refine wpAnyH_take (i := 9) (v := ?_) rfl (by kernel_rfl) (by kernel_rfl) (by kernel_rfl) (fun _ _ _ h => h) (Or.inl ⟨by rfl, ?_⟩) (by assumption) ?_
            rotate_left
            · intro w hSw
              clear hSw
              go_simp
              try with_reducible rfl
            try simp only [Act.put, List.getElem_toArray, List.getElem_cons_zero, List.getElem_cons_succ, List.setIfInBounds_toArray, List.set_cons_zero, List.set_cons_succ]
            refine wpAnyH_take (i := 10) (v := ?_) rfl (by kernel_rfl) (by kernel_rfl) (by kernel_rfl) (fun _ _ _ h => h) (Or.inl ⟨by rfl, ?_⟩) (by assumption) ?_
            rotate_left
            · intro w hSw
              clear hSw
              go_simp
              try with_reducible rfl
            try simp only [Act.put, List.getElem_toArray, List.getElem_cons_zero, List.getElem_cons_succ, List.setIfInBounds_toArray, List.set_cons_zero, List.set_cons_succ]
            refine wpAnyH_take (i := 11) (v := ?_) rfl (by kernel_rfl) (by kernel_rfl) (by kernel_rfl) (fun _ _ _ h => h) (Or.inl ⟨by rfl, ?_⟩) (by assumption) ?_
            rotate_left
            · intro w hSw
              clear hSw
              go_simp
              try with_reducible rfl
            try simp only [Act.put, List.getElem_toArray, List.getElem_cons_zero, List.getElem_cons_succ, List.setIfInBounds_toArray, List.set_cons_zero, List.set_cons_succ]
            refine wpAnyH_ready (rs := [12]) (by kernel_rfl) (by simp) ?_
            refine AllReadyH.cons rfl (fun K hK => ?_) AllReadyH.nil
            have hb7 := HB6.out.alloc HB6.out.size (Obj.cells #[Value.int IntKind.i64 0, Value.int IntKind.i64 0, Value.int IntKind.u32 0, Value.int IntKind.u32 0, Value.bool false] 24 (0, 0))
            have HD7 := Shut.mk (heap_alloc_last w6 (Obj.cells #[Value.int IntKind.i64 0, Value.int IntKind.i64 0, Value.int IntKind.u32 0, Value.int IntKind.u32 0, Value.bool false] 24 (0, 0)))
            have HC7 := Shut.mk ((hb7.block g14 (lt_blk HC14.out)).trans HC14.out)
            have HB7 := Shut.mk hb7
            have HG16 : Shut (wr.heap.size ≤ w6.heap.size) := ⟨HB6.out.size⟩
            go_simp
            refine hK.out _ _ hb7 (fun hHeld => ?_)
            clear hK K hb7
            generalize hw : w6.alloc _ = w7 at *
            clear hw
            generalize hg : w6.heap.size = g16 at *
            clear hg HB6
            try simp only [Act.put, List.getElem_toArray, List.getElem_cons_zero, List.getElem_cons_succ, List.setIfInBounds_toArray, List.set_cons_zero, List.set_cons_succ]
            refine wpAnyH_ready (rs := [13]) (by kernel_rfl) (by simp) ?_
            refine AllReadyH.cons rfl (fun K hK => ?_) AllReadyH.nil
            rw [if_pos (by rfl)]
            refine wp_store_row 24 (.tmp 16) (.tmp 88) rfl g16 #[Value.int IntKind.i64 0, Value.int IntKind.i64 0, Value.int IntKind.u32 0, Value.int IntKind.u32 0, Value.bool false] rfl rfl 24 _ HD7.out size1 rfl (cd_one _ _ _ _ _) ?_
            have HD9 := Shut.mk (setRow_heap w7 g16 _ #[Value.int IntKind.i64 0, Value.int IntKind.i64 0, Value.int IntKind.u32 0, Value.int IntKind.u32 0, Value.bool false] _ (0, 0) HD7.out)
            have HC9 := Shut.mk ((setRow_other w7 g16 g14 #[Value.int IntKind.i64 0, Value.int IntKind.i64 0, Value.int IntKind.u32 0, Value.int IntKind.u32 0, Value.bool false] (by have := HG16.out; have := lt_blk HC14.out; omega)).trans HC7.out)
            have hb := below_setRow HB7.out HG16.out #[Value.int IntKind.i64 0, Value.int IntKind.i64 0, Value.int IntKind.u32 0, Value.int IntKind.u32 0, Value.bool false]
            have HB9 := Shut.mk (HB.out.trans (hb.mono HB.out.size))
            have HR9 := Shut.mk (HRW.out.below hb)
            refine hK.out _ _ hb (fun hHeld => ?_)
            clear hK K hb HB7 HC7 HD7
            generalize hw : w7.setRow g16 _ = w9 at *
            clear hw
            try simp only [Act.put, List.getElem_toArray, List.getElem_cons_zero, List.getElem_cons_succ, List.setIfInBounds_toArray, List.set_cons_zero, List.set_cons_succ]
            refine wpAnyH_take (i := 14) (v := ?_) rfl (by kernel_rfl) (by kernel_rfl) (by kernel_rfl) (fun _ _ _ h => h) (Or.inl ⟨by rfl, ?_⟩) (by assumption) ?_
            rotate_left
            · intro w hSw
              clear hSw
              go_simp
              try with_reducible rfl
            try simp only [Act.put, List.getElem_toArray, List.getElem_cons_zero, List.getElem_cons_succ, List.setIfInBounds_toArray, List.set_cons_zero, List.set_cons_succ]
            refine wpAnyH_take (i := 15) (v := ?_) rfl (by kernel_rfl) (by kernel_rfl) (by kernel_rfl) (fun _ _ _ h => h) (Or.inl ⟨by rfl, ?_⟩) (by assumption) ?_
            rotate_left
            · intro w hSw
              clear hSw
              go_simp
              try with_reducible rfl
            try simp only [Act.put, List.getElem_toArray, List.getElem_cons_zero, List.getElem_cons_succ, List.setIfInBounds_toArray, List.set_cons_zero, List.set_cons_succ]
            refine wpAnyH_done (by kernel_rfl) ?_ _
            try simp only [Act.put, List.getElem_toArray, List.getElem_cons_zero, List.getElem_cons_succ, List.setIfInBounds_toArray, List.set_cons_zero, List.set_cons_succ]
            clear hHeld
            have e0 : w9.cell? ⟨g16, 0, none⟩ = some (.int .i64 0) := (block_range HD9.out) 0 _ rfl
            have e4 : w9.cell? ⟨g16, 4, none⟩ = some (.bool false) := by simpa using (block_range HD9.out) 4 _ rfl
            obtain ⟨b9, o9, e9, hr9⟩ := HR9.out.el k hlt
            cases e9
            have c1 : w9.cell? ⟨b1, o1 + k * 2 + 1, none⟩ = some (.int .i64 (xs.getD k it00).len) := by simpa using hr9 1 _ rfl
            clear hr9
            generalize (xs.getD k it00).len = xl at *
            have y4 : IntKind.i64.wrap (S - xl) = S2 := by have := HSB.out; rw [show S - xl = S2 by have := HSE.out; omega]; exact IntWalk.i64_in _ ⟨by omega, by omega⟩
            have HGW := Shut.mk HB9.out
            go_wp2_with (first
              | (refine wpList_load_row rfl 24 (.tmp 16) rfl g16 rfl 24 #[Value.int IntKind.i64 0, Value.int IntKind.i64 0, Value.int IntKind.u32 0, Value.int IntKind.u32 0, Value.bool false] (0, 0) _ HD9.out Try.underlying24 rfl size1 ?_)
              | (refine wpList_store_row rfl 24 (.tmp 14) (.tmp 113) rfl g14 #[Value.int IntKind.i64 0, Value.int IntKind.i64 0, Value.int IntKind.u32 0, Value.int IntKind.u32 0, Value.bool false] rfl rfl 24 _ HC9.out size1 rfl (cd_one _ _ _ _ _) ?_))
            have HC8 := Shut.mk (setRow_heap w9 g14 _ #[Value.int IntKind.i64 0, Value.int IntKind.i64 0, Value.int IntKind.u32 0, Value.int IntKind.u32 0, Value.bool false] _ (0, 0) HC9.out)
            have hO := (Only.refl (· = g14) w9).setRow (g := g14) (fun _ => rfl) #[Value.int IntKind.i64 0, Value.int IntKind.i64 0, Value.int IntKind.u32 0, Value.int IntKind.u32 0, Value.bool false]
            have HR8 := Shut.mk (HR9.out.only hO (fun p hp => HQA.out p hp))
            have HB8 := Shut.mk (HB9.out.trans (hO.below (B := w.heap.size) (fun i hi => by show ¬ i = g14; have := HG14.out; omega) HB9.out.size))
            go_roundw
            case rel => exact ⟨k + 1, by go_num, by rw [HSD.out], hlt, HB8.out, HR8.out, HC8.out⟩
            case measure => simp [intOf]; omega
          · generalize wr.drew = w5 at *
            have hb7 := HD0.out.alloc HD0.out.size (Obj.cells #[Value.int IntKind.i64 0, Value.int IntKind.i64 0, Value.int IntKind.u32 0, Value.int IntKind.u32 0, Value.bool false] 24 (0, 0))
            have HD6 := Shut.mk (heap_alloc_last w5 (Obj.cells #[Value.int IntKind.i64 0, Value.int IntKind.i64 0, Value.int IntKind.u32 0, Value.int IntKind.u32 0, Value.bool false] 24 (0, 0)))
            have HC6 := Shut.mk ((hb7.block g14 (lt_blk HC14.out)).trans HC14.out)
            have HB6 := Shut.mk hb7
            have HR6 := Shut.mk (HRK.out.below hb7)
            have HG16 : Shut (wr.heap.size ≤ w5.heap.size) := ⟨HD0.out.size⟩
            go_simp
            refine hK.out _ _ hb7 (fun hHeld => ?_)
            clear hK K hb7
            generalize hw : w5.alloc _ = w6 at *
            clear hw
            generalize hg : w5.heap.size = g16 at *
            clear hg HD0
            try simp only [Act.put, List.getElem_toArray, List.getElem_cons_zero, List.getElem_cons_succ, List.setIfInBounds_toArray, List.set_cons_zero, List.set_cons_succ]
            refine wpAnyH_ready (rs := [7]) (by kernel_rfl) (by simp) ?_
            refine AllReadyH.cons rfl (fun K hK => ?_) AllReadyH.nil
            go_simp
            refine (pull_any n1 n2 100 S 0 0 0 0 false _ _ _ (xs.drop k) _ HR6.out (by have := RG.out; omega) (by have := RG.out; omega) HS.out HXI.out (by omega) (by omega) (by omega) _ HP.out).mono ?_
            rintro e w7 ⟨rfl, hB6⟩
            have HB7 := Shut.mk (HB6.out.trans (hB6.mono HB6.out.size))
            have HD7 := Shut.mk ((hB6.block g16 (lt_blk HD6.out)).trans HD6.out)
            have HC7 := Shut.mk ((hB6.block g14 (lt_blk HC6.out)).trans HC6.out)
            dsimp only
            refine hK.out _ _ HB7.out (fun hHeld => ?_)
            clear hK K hB6 HD6 HC6 HB6 HR6
            try simp only [Act.put, List.getElem_toArray, List.getElem_cons_zero, List.getElem_cons_succ, List.setIfInBounds_toArray, List.set_cons_zero, List.set_cons_succ]
            refine wpAnyH_take (i := 8) (v := ?_) rfl (by kernel_rfl) (by kernel_rfl) (by kernel_rfl) (fun _ _ _ h => h) (Or.inl ⟨by rfl, ?_⟩) (by assumption) ?_
            rotate_left
            · intro w hSw
              clear hSw
              go_simp
              try with_reducible rfl
            try simp only [Act.put, List.getElem_toArray, List.getElem_cons_zero, List.getElem_cons_succ, List.setIfInBounds_toArray, List.set_cons_zero, List.set_cons_succ]
            refine wpAnyH_take (i := 9) (v := ?_) rfl (by kernel_rfl) (by kernel_rfl) (by kernel_rfl) (fun _ _ _ h => h) (Or.inl ⟨by rfl, ?_⟩) (by assumption) ?_
            rotate_left
            · intro w hSw
              clear hSw
              go_simp
              try with_reducible rfl
            try simp only [Act.put, List.getElem_toArray, List.getElem_cons_zero, List.getElem_cons_succ, List.setIfInBounds_toArray, List.set_cons_zero, List.set_cons_succ]
            refine wpAnyH_take (i := 10) (v := ?_) rfl (by kernel_rfl) (by kernel_rfl) (by kernel_rfl) (fun _ _ _ h => h) (Or.inl ⟨by rfl, ?_⟩) (by assumption) ?_
            rotate_left
            · intro w hSw
              clear hSw
              go_simp
              try with_reducible rfl
            try simp only [Act.put, List.getElem_toArray, List.getElem_cons_zero, List.getElem_cons_succ, List.setIfInBounds_toArray, List.set_cons_zero, List.set_cons_succ]
            refine wpAnyH_take (i := 11) (v := ?_) rfl (by kernel_rfl) (by kernel_rfl) (by kernel_rfl) (fun _ _ _ h => h) (Or.inl ⟨by rfl, ?_⟩) (by assumption) ?_
            rotate_left
            · intro w hSw
              clear hSw
              go_simp
              try with_reducible rfl
            try simp only [Act.put, List.getElem_toArray, List.getElem_cons_zero, List.getElem_cons_succ, List.setIfInBounds_toArray, List.set_cons_zero, List.set_cons_succ]
            refine wpAnyH_ready (rs := [13]) (by kernel_rfl) (by simp) ?_
            refine AllReadyH.cons rfl (fun K hK => ?_) AllReadyH.nil
            rw [if_pos (by rfl)]
            refine wp_store_row 24 (.tmp 16) (.tmp 88) rfl g16 #[Value.int IntKind.i64 0, Value.int IntKind.i64 0, Value.int IntKind.u32 0, Value.int IntKind.u32 0, Value.bool false] rfl rfl 24 _ HD7.out size1 rfl (cd_one _ _ _ _ _) ?_
            have HD9 := Shut.mk (setRow_heap w7 g16 _ #[Value.int IntKind.i64 0, Value.int IntKind.i64 0, Value.int IntKind.u32 0, Value.int IntKind.u32 0, Value.bool false] _ (0, 0) HD7.out)
            have HC9 := Shut.mk ((setRow_other w7 g16 g14 #[Value.int IntKind.i64 0, Value.int IntKind.i64 0, Value.int IntKind.u32 0, Value.int IntKind.u32 0, Value.bool false] (by have := HG16.out; have := lt_blk HC14.out; omega)).trans HC7.out)
            have hb := below_setRow HB7.out HG16.out #[Value.int IntKind.i64 0, Value.int IntKind.i64 0, Value.int IntKind.u32 0, Value.int IntKind.u32 0, Value.bool false]
            have HB9 := Shut.mk (HB.out.trans (hb.mono HB.out.size))
            have HR9 := Shut.mk (HRW.out.below hb)
            refine hK.out _ _ hb (fun hHeld => ?_)
            clear hK K hb HB7 HC7 HD7
            generalize hw : w7.setRow g16 _ = w9 at *
            clear hw
            try simp only [Act.put, List.getElem_toArray, List.getElem_cons_zero, List.getElem_cons_succ, List.setIfInBounds_toArray, List.set_cons_zero, List.set_cons_succ]
            refine wpAnyH_take (i := 14) (v := ?_) rfl (by kernel_rfl) (by kernel_rfl) (by kernel_rfl) (fun _ _ _ h => h) (Or.inl ⟨by rfl, ?_⟩) (by assumption) ?_
            rotate_left
            · intro w hSw
              clear hSw
              go_simp
              try with_reducible rfl
            try simp only [Act.put, List.getElem_toArray, List.getElem_cons_zero, List.getElem_cons_succ, List.setIfInBounds_toArray, List.set_cons_zero, List.set_cons_succ]
            refine wpAnyH_take (i := 15) (v := ?_) rfl (by kernel_rfl) (by kernel_rfl) (by kernel_rfl) (fun _ _ _ h => h) (Or.inl ⟨by rfl, ?_⟩) (by assumption) ?_
            rotate_left
            · intro w hSw
              clear hSw
              go_simp
              try with_reducible rfl
            try simp only [Act.put, List.getElem_toArray, List.getElem_cons_zero, List.getElem_cons_succ, List.setIfInBounds_toArray, List.set_cons_zero, List.set_cons_succ]
            refine wpAnyH_done (by kernel_rfl) ?_ _
            try simp only [Act.put, List.getElem_toArray, List.getElem_cons_zero, List.getElem_cons_succ, List.setIfInBounds_toArray, List.set_cons_zero, List.set_cons_succ]
            clear hHeld
            have e0 : w9.cell? ⟨g16, 0, none⟩ = some (.int .i64 0) := (block_range HD9.out) 0 _ rfl
            have e4 : w9.cell? ⟨g16, 4, none⟩ = some (.bool false) := by simpa using (block_range HD9.out) 4 _ rfl
            obtain ⟨b9, o9, e9, hr9⟩ := HR9.out.el k hlt
            cases e9
            have c1 : w9.cell? ⟨b1, o1 + k * 2 + 1, none⟩ = some (.int .i64 (xs.getD k it00).len) := by simpa using hr9 1 _ rfl
            clear hr9
            generalize (xs.getD k it00).len = xl at *
            have y4 : IntKind.i64.wrap (S - xl) = S2 := by have := HSB.out; rw [show S - xl = S2 by have := HSE.out; omega]; exact IntWalk.i64_in _ ⟨by omega, by omega⟩
            have HGW := Shut.mk HB9.out
            go_wp2_with (first
              | (refine wpList_load_row rfl 24 (.tmp 16) rfl g16 rfl 24 #[Value.int IntKind.i64 0, Value.int IntKind.i64 0, Value.int IntKind.u32 0, Value.int IntKind.u32 0, Value.bool false] (0, 0) _ HD9.out Try.underlying24 rfl size1 ?_)
              | (refine wpList_store_row rfl 24 (.tmp 14) (.tmp 113) rfl g14 #[Value.int IntKind.i64 0, Value.int IntKind.i64 0, Value.int IntKind.u32 0, Value.int IntKind.u32 0, Value.bool false] rfl rfl 24 _ HC9.out size1 rfl (cd_one _ _ _ _ _) ?_))
            have HC8 := Shut.mk (setRow_heap w9 g14 _ #[Value.int IntKind.i64 0, Value.int IntKind.i64 0, Value.int IntKind.u32 0, Value.int IntKind.u32 0, Value.bool false] _ (0, 0) HC9.out)
            have hO := (Only.refl (· = g14) w9).setRow (g := g14) (fun _ => rfl) #[Value.int IntKind.i64 0, Value.int IntKind.i64 0, Value.int IntKind.u32 0, Value.int IntKind.u32 0, Value.bool false]
            have HR8 := Shut.mk (HR9.out.only hO (fun p hp => HQA.out p hp))
            have HB8 := Shut.mk (HB9.out.trans (hO.below (B := w.heap.size) (fun i hi => by show ¬ i = g14; have := HG14.out; omega) HB9.out.size))
            go_roundw
            case rel => exact ⟨k + 1, by go_num, by rw [HSD.out], hlt, HB8.out, HR8.out, HC8.out⟩
            case measure => simp [intOf]; omega
        · obtain rfl : len0 = k := hlt.symm
          have HP : Shut (pullR ⟨n1, clampR n2 0 1073741824, clampR 100 0 1073741824⟩ ⟨0, 0, 0, 0, false⟩ 0 [] = (⟨0, 0, 0, 0, false⟩, 0, false)) := ⟨rfl⟩
          go_wp2_with (first
            | (refine wpList_load_row rfl 24 (.tmp 14) rfl g14 rfl 24 #[Value.int IntKind.i64 0, Value.int IntKind.i64 0, Value.int IntKind.u32 0, Value.int IntKind.u32 0, Value.bool false] (0, 0) _ HC14.out Try.underlying24 rfl size1 ?_))
          refine (pull_any n1 n2 100 0 0 0 0 0 false none 0 0 [] _ RowS.nil (by omega) (by have := RG.out; omega) (by omega) (fun x hx => by cases hx) (by omega) (by omega) (by omega) _ HP.out).mono ?_
          rintro e w6 ⟨rfl, hB6⟩
          dsimp only
          have HB6 := Shut.mk (HB.out.trans (hB6.mono HB.out.size))
          have HB7 := Shut.mk (HB6.out.alloc HB6.out.size (Obj.cells #[Value.int IntKind.i64 0, Value.int IntKind.i64 0, Value.int IntKind.u32 0, Value.int IntKind.u32 0, Value.bool false] 24 (0, 0)))
          clear hB6
          go_wp2
          go_ret
          exact ⟨rfl, HB7.out⟩

/-! ### THE ROW -/
set_option maxRecDepth 100000 in
theorem lifted (os : Os) (started : os.Started) (H : Type) (enc : TypeId × Value → H) :
    ReturnsInHanded {} Try.checked os 5 .any (Rows.codelCalmSpec.pre6 enc Try.prog Try.f5 Rows.codelCalmRow.domain false) (Rows.codelCalmSpec.post enc Try.prog Try.f5 false true false false) := by
  refine returnsInHanded_of_change (C := Try.checked) own started (by kernel_rfl) Try.func5
    (ChangeSpec.witness6 (enc := enc) (C := Try.checked) false ⟨#[], #[.slice none 0 0, .int .i64 0, .int .i64 0, .bool false], []⟩ 8 (by kernel_rfl) (by kernel_rfl) (by kernel_rfl) (by kernel_rfl)) ?_
  intro W base args ds gs before hval0 hW hcnd _
  have hval : ∀ (j : Nat) t v, Try.f5.params[j]? = some t → args[j]? = some v → Value.okWide Try.prog W .any base t v := hval0
  have hW' := hW
  obtain ⟨p, q, hA0, hV, rfl, hfz, hnd⟩ := hW
  have hA : DataW.TrodAll enc Try.prog W 0 (fun _ => true) true Try.f5.params.toList args.toList ds p := hA0
  rw [Try.params5] at hA hval
  obtain ⟨v0, vs0, d0, ds0, p0, q0', hargs, rfl, rfl, h0, r0⟩ := trodAll_cons hA
  obtain ⟨v1, vs1, d1, ds1, p1, q1', rfl, rfl, rfl, h1, r1⟩ := trodAll_cons r0
  obtain ⟨v2, vs2, d2, ds2, p2, q2', rfl, rfl, rfl, h2, r2⟩ := trodAll_cons r1
  obtain ⟨v3, vs3, d3, ds3, p3, q3', rfl, rfl, rfl, h3, r3⟩ := trodAll_cons r2
  obtain ⟨rfl, rfl, rfl⟩ := trodAll_nil r3
  obtain rfl : args = #[v0, v1, v2, v3] := by cases args; simp_all
  obtain ⟨rfl, rfl⟩ := trodVars_none hV
  have k0 := h0
  have lt0 : ∀ x ∈ p0, x.block < W.heap.size := by obtain ⟨m, hm⟩ := k0; exact DataW.trod_lt m _ _ _ hm
  have k1 := h1
  have lt1 : ∀ x ∈ p1, x.block < W.heap.size := by obtain ⟨m, hm⟩ := k1; exact DataW.trod_lt m _ _ _ hm
  have k2 := h2
  have lt2 : ∀ x ∈ p2, x.block < W.heap.size := by obtain ⟨m, hm⟩ := k2; exact DataW.trod_lt m _ _ _ hm
  have k3 := h3
  have lt3 : ∀ x ∈ p3, x.block < W.heap.size := by obtain ⟨m, hm⟩ := k3; exact DataW.trod_lt m _ _ _ hm
  obtain ⟨a0, len0, cap0, rfl⟩ := okWide_slice Try.underlying25 (hval 0 25 v0 rfl rfl)
  obtain ⟨l0, w0⟩ : ∃ l : List It, RowS itC 2 it00 W a0 len0 l ∧ len0 ≤ cap0 ∧ ∀ u ∈ l, okI u := by
    obtain ⟨fuel, hf⟩ := h0
    obtain ⟨A, n, c, l, e, hr, hc, hl⟩ := open_pairs Try.underlying25 Try.underlying38 (by kernel_rfl) rfl rfl (by kernel_rfl) (by kernel_rfl) Try.underlying2 Try.underlying3 (fun a b => ⟨a, b⟩) itC (fun _ _ => rfl) it00 (v := .slice a0 len0 cap0) hf
    cases e
    exact ⟨l, hr, hc, hl⟩
  obtain ⟨n1, rfl, rfl, rfl, w1⟩ := open_int Try.underlying2 (hval 1 2 v1 rfl rfl) h1
  obtain ⟨n2, rfl, rfl, rfl, w2⟩ := open_int Try.underlying2 (hval 2 2 v2 rfl rfl) h2
  obtain ⟨b3, rfl, rfl, rfl⟩ := open_bool Try.underlying4 (hval 3 4 v3 rfl rfl) h3
  clear hA0 hval0
  refine (walk a0 len0 cap0 l0 n1 n2 b3 W w0 w1 w2).mono fun e W' ⟨he, bel⟩ => ?_
  subst he
  exact ⟨_, rfl, _, _, _, [], _, [], hW', trodAll_mk1 (shut_bool Try.underlying4 _), (trodAll_cons_mk (Below.trod laidOut (by kernel_rfl) (of_decide_eq_true (by kernel_rfl)) k0 bel lt0) (trodAll_cons_mk (Below.trod laidOut (by kernel_rfl) (of_decide_eq_true (by kernel_rfl)) k1 bel lt1) (trodAll_cons_mk (Below.trod laidOut (by kernel_rfl) (of_decide_eq_true (by kernel_rfl)) k2 bel lt2) (trodAll_cons_mk (Below.trod laidOut (by kernel_rfl) (of_decide_eq_true (by kernel_rfl)) k3 bel lt3) trodAll_mk0)))), rfl, bel.frame _, fun h => by cases h⟩

theorem over : Rows.codelCalmRow.holds Try.pinned (OpenSpec.ofChange Rows.codelCalmSpec) :=
  OpenClaim.holds_of_wide 5 Try.f5 rfl rfl rfl rfl rfl rfl rfl ⟨rfl, rfl, rfl, rfl, rfl⟩ rfl rfl rfl rfl rfl (by kernel_rfl) Try.func5 (by kernel_rfl)
    (of_decide_eq_true (by kernel_rfl)) (by unfold Func.isWrapper; first | (rw [if_pos (by decide +kernel)]; kernel_rfl) | (rw [if_neg (by decide +kernel)]; exact ⟨rfl, rfl⟩))
    (fun os started H enc _ => lifted os started H enc)
theorem proved : Rows.CodelCalmSaid := over
#print axioms proved
end Go.Proofs.Ytmajbkhbkepebaa.codelCalm
