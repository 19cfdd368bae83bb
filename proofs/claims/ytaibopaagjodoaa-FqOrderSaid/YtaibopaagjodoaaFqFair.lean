/-
  muezzin/muezzinlaw13.FqFair returns true, for all arguments; no condition.
-/
import Derived.Test.YtaibopaagjodoaaFqW
import Derived.WalkKit
import Derived.ProofKit
import Derived.OpenShut
import Derived.ChangeOld
import Derived.Below
namespace Go.Proofs.Ytaibopaagjodoaa.fqFair
open Go.ChangeShapes Go.WideShapes Go.ChangeAt Go.RowKit Go.Deep
set_option linter.unusedVariables false
set_option linter.unusedSimpArgs false

theorem own : ownKnob Try.prog.godebug = none := by kernel_rfl
theorem laidOut : laidOutB Try.prog = true := by kernel_rfl


open Go.Proofs.Ytaibopaagjodoaa
theorem QW.only {bk : Int → Nat} {w0 w w' : World} {x : Rq} {T S : Nat → Prop} {V : Nat → Value} {q : Qu} (h : QW bk w0 x T w V q) (ho : Only S w w') (hf : ∀ k, FootC x V k → ¬ S k) (ht : ∀ k, T k → ¬ S k) (hs : ∀ k, k < w0.heap.size → ¬ S k) : QW bk w0 x T w' V q :=
  ⟨h.is.only ho hf ht, h.inv, h.few, h.bel.trans (ho.below hs h.bel.size), h.new⟩
theorem size1i : (Try.prog.info? 3).map (·.size) = some 1 := by kernel_rfl
/-- what each flow was given. -/
def tookL (n : Nat) (T : Nat → Int) : List Int := (List.range n).map fun j => T (bF j)
theorem tookL_len (n : Nat) (T : Nat → Int) : (tookL n T).length = n := by simp [tookL]
theorem tookL_getD {n : Nat} (T : Nat → Int) {j : Nat} (h : j < n) : (tookL n T).getD j 0 = T (bF j) := by simp [tookL, List.getD, h]
theorem tookL_zero (n : Nat) : List.replicate n (0 : Int) = tookL n fun _ => 0 := by
  unfold tookL
  apply List.ext_getElem <;> simp
theorem tookL_set {n : Nat} (hn : n ≤ 6) (T : Nat → Int) {j : Nat} (h : j < n) (s : Int) : (tookL n T).set j ((tookL n T).getD j 0 + s) = tookL n fun b => if b = bF j then T (bF j) + s else T b := by
  rw [tookL_getD T h]
  apply List.ext_getElem
  · simp [tookL]
  · intro i h1 h2
    have hi : i < n := by simpa [tookL] using h2
    rw [List.getElem_set]
    by_cases e : j = i
    · subst e; simp [tookL]
    · have e2 : ¬ bF i = bF j := fun e3 => e (bF_inj (by omega) (by omega) e3).symm
      simp [tookL, e, e2]

/-! ### THE WALK -/
set_option maxRecDepth 100000 in
set_option maxHeartbeats 8000000 in
theorem walk (n0 : Int) (a1 : Option Addr) (len1 cap1 : Nat) (z1 : List Int) (n2 : Int) (w : World) (w0 : (Lit.int .i64 n0).wf = true) (w1 : IsRow .i64 w a1 len1 cap1 z1) (w2 : (Lit.int .i64 n2).wf = true) :
    Calls Try.prog 5 #[.int .i64 n0, .slice a1 len1 cap1, .int .i64 n2] w fun e w' => e = .returned (.bool true) ∧ Below w.heap.size w w' := by
  have HN0 := Shut.mk (nmod_lo n0 5 (by decide))
  have HN1 := Shut.mk (nmod_hi n0 5 (by decide))
  have HT0 := Shut.mk (nmod_lo n2 100 (by decide))
  have HT1 := Shut.mk (nmod_hi n2 100 (by decide))
  have W0 := Shut.mk w0
  have W2 := Shut.mk w2
  obtain ⟨z, hz⟩ : ∃ z, z = z1.take len1 := ⟨_, rfl⟩
  have HZ := Shut.mk (show RowB .i64 w a1 len1 z by rw [hz]; exact RowB.of_row w1)
  obtain ⟨ib, hib, hzb, hyb, hxb⟩ := info_parts' byte_info
  obtain ⟨ii, hii, hzi, hyi, hxi⟩ := info_parts' int_info
  have hmf : ∀ (fn : Fn) (first cap : Array Value) (w : World), (Instr.makeFunc fn first cap).run Try.prog w = .ok (.func fn first cap) w := fun _ _ _ _ => rfl
  have HAX := Shut.mk ((Below.refl w.heap.size w).alloc (Nat.le_refl _) (Obj.cells #[Value.slice a1 len1 cap1] 50 (0, 0)))
  have HBX := Shut.mk (MapKept.heap_alloc w (Obj.cells #[Value.slice a1 len1 cap1] 50 (0, 0))).1
  clear w0 w1 w2 hz
  go_enter Try.func5, Try.ntmps5
  go_wp2_with (fail)
  obtain ⟨sB, hsB⟩ : ∃ s, s = w.heap.size := ⟨_, rfl⟩
  rw [← hsB] at HBX ⊢
  have HSB := Shut.mk hsB
  clear hsB
  generalize World.alloc w _ = wx at *
  have HZX := Shut.mk (HZ.out.below HAX.out)
  refine (first_any wx).mono ?_
  rintro e wa ⟨rfl, hBa⟩
  have HBa := Shut.mk hBa
  clear hBa HZ
  go_wp2_with (fail)
  refine (number_any n0 5 wa W0.out (by decide) (by decide)).mono ?_
  rintro e wn ⟨rfl, rfl⟩
  have hm0 := HN0.out
  have hm1 := HN1.out
  obtain ⟨m, hm⟩ := Int.eq_ofNat_of_zero_le hm0
  rw [hm] at hm1 ⊢
  clear hm0 hm HN0 HN1
  have hm5 : m < 5 := by omega
  go_wp2_with (fail)
  refine (number_any n2 100 wa W2.out (by decide) (by decide)).mono ?_
  rintro e wn ⟨rfl, rfl⟩
  have ht0 := HT0.out
  have ht1 := HT1.out
  obtain ⟨tn, htn⟩ := Int.eq_ofNat_of_zero_le ht0
  rw [htn] at ht1 ⊢
  clear ht0 htn HT0 HT1
  have htn : tn < 100 := by omega
  obtain ⟨n, hn⟩ : ∃ n : Nat, n = m + 2 := ⟨_, rfl⟩
  have hni : (m : Int) + 2 = (n : Int) := by omega
  have hn6 : 2 ≤ n ∧ n ≤ 6 := by omega
  rw [hni]
  clear hni ht1 hm1 hm5 hn W0 W2
  go_wp2_with (fail)
  refine (new_any (uv 0#32) 1073741824 1073741824 wa).mono ?_
  rintro e wb ⟨rfl, hQ, hB⟩
  have hQW := QW.start (bk := bkZ) (w0 := wx) (sd := 0#32) HBa.out hQ hB
  obtain ⟨x, hx⟩ : ∃ x : Rq, x = ⟨wa.heap.size, uv 0#32, 1073741824, 1073741824⟩ := ⟨_, rfl⟩
  rw [← hx] at hQW
  have HQ1 := Shut.mk hQW
  have HSD := Shut.mk (show x.seed = uv 0#32 by rw [hx])
  have HPP := Shut.mk (show (⟨0, clampR x.tg 0 1073741824, clampR x.iv 0 1073741824⟩ : Pl) = PZ by rw [hx]; rfl)
  rw [show wa.heap.size = x.g by rw [hx]]
  clear hQ hB hQW hx
  go_wp2_with (fail)
  go_loopw [9, 10, 11] (fun u v f wr => ∃ k : Nat, k ≤ n ∧ f = .int .u32 k ∧ OwnU wr wb.heap.size u (natsI (List.range k)) ∧ OwnN wr wb.heap.size v (natsI ((List.range k).map bF)) ∧ (∀ g, u.ownBlock = some g → v.ownBlock ≠ some g) ∧ Below wb.heap.size wb wr) (fun _ _ f _ => n - (intOf f).toNat)
  case atStart => exact ⟨0, Nat.zero_le _, rfl, OwnU.nil _ _, OwnN.nil _ _, (fun g h => by cases h), Below.refl _ _⟩
  case round =>
    obtain ⟨k, hk, rfl, hu, hv, hap, hbel⟩ := hrel
    have HU := Shut.mk hu
    have HV := Shut.mk hv
    have HAP := Shut.mk hap
    have HBL := Shut.mk hbel
    obtain ⟨Au, cu, eu, -⟩ := owns_form hu.1
    rw [natsI_len, List.length_range] at eu
    clear hu hv hap hbel
    by_cases hlt : k < n
    · have hk6 : k < 6 := by omega
      have hki : (k : Int) < (n : Int) := by omega
      have hk1 : (k : Int) < 1000 := by omega
      have HBK := Shut.mk (show refbucket_any (BitVec.ofNat 32 k) 0#32 wr = refbucket_any (BitVec.ofNat 32 k) 0#32 wr from rfl)
      have hbk := refbucket_any (BitVec.ofNat 32 k) 0#32 wr
      rw [uv_nat hk6] at hbk
      have HBB := Shut.mk hbk
      have HRV := Shut.mk (HV.out.row (by rw [natsI_len]; simp; unfold maxLen; omega) (natsI_in fun b hb => by obtain ⟨j, -, rfl⟩ := List.mem_map.1 hb; exact bF_lt j))
      obtain ⟨Av, cv, ev, hrv, -⟩ := HRV.out
      have HRV2 := Shut.mk hrv
      have HNM := Shut.mk (show decide ((bF k : Int) ∈ natsI ((List.range k).map bF)) = false from decide_eq_false fun h => by
        obtain ⟨j, hj, e⟩ := List.mem_map.1 (natsI_mem.1 h)
        have := List.mem_range.1 hj
        have := bF_inj (by omega) hk6 e
        omega)
      have HSU := Shut.mk (show natsI (List.range (k + 1)) = natsI (List.range k) ++ [(k : Int)] by rw [List.range_succ, natsI_snoc])
      have HSV := Shut.mk (show natsI ((List.range (k + 1)).map bF) = natsI ((List.range k).map bF) ++ [(bF k : Int)] by rw [List.range_succ, List.map_append, List.map_singleton, natsI_snoc])
      clear hbk hrv HBK HRV
      subst eu
      subst ev
      go_wp2_with (fail)
      refine HBB.out.mono ?_
      rintro e wn ⟨rfl, rfl⟩
      rw [show bkt (BitVec.ofNat 32 k) 0#32 = bF k from rfl]
      go_wp2_with (fail)
      refine (has_any _ _ _ _ (bF k : Int) _ HRV2.out).mono ?_
      rintro e wn ⟨rfl, rfl⟩
      rw [HNM.out]
      have HA1 := Shut.mk ((Below.refl wr.heap.size wr).alloc (Nat.le_refl _) (.cells #[.int .u32 (k : Nat)] 22 (0, 0)))
      have HC1 := Shut.mk (show (wr.alloc (.cells #[.int .u32 (k : Nat)] 22 (0, 0))).cell? ⟨wr.heap.size, 0, none⟩ = some (.int .u32 (k : Nat)) by have := cell_one_new wr (.int .u32 (k : Nat)) 22 0 _ rfl; rwa [Addr.add_mid] at this)
      go_wp2_with (first
        | (refine app_u rfl (.tmp 51) (.tmp 53) rfl wb.heap.size _ _ rfl (HU.out.below HA1.out) (k : Nat) ⟨wr.heap.size, 0, none⟩ 1 rfl HC1.out (by rw [natsI_len, List.length_range]; omega) (Nat.le_trans HBL.out.size HA1.out.size) ?_
           intro vu w2 HU2 HBU HYU HZU
           have HV2 := Shut.mk (show OwnN w2 wb.heap.size _ (natsI ((List.range k).map bF)) from ⟨owns_only (owns_below HV.out.1 HA1.out) HYU.out (fun g hg e => HAP.out g e hg), HV.out.2⟩)
           have HA2 := Shut.mk ((Below.refl w2.heap.size w2).alloc (Nat.le_refl _) (.cells #[.int .i64 (bF k : Nat)] 3 (0, 0)))
           have HC2 := Shut.mk (show (w2.alloc (.cells #[.int .i64 (bF k : Nat)] 3 (0, 0))).cell? ⟨w2.heap.size, 0, none⟩ = some (.int .i64 (bF k : Nat)) by have := cell_one_new w2 (.int .i64 (bF k : Nat)) 3 0 _ rfl; rwa [Addr.add_mid] at this)
           have HZ2 := Shut.mk (show wb.heap.size ≤ w2.heap.size from Nat.le_trans (Nat.le_trans HBL.out.size HA1.out.size) HYU.out.size))
        | (refine app_n rfl (.tmp 55) (.tmp 57) rfl wb.heap.size _ _ rfl (OwnS.below HV2.out HA2.out) (bF k : Nat) ⟨w2.heap.size, 0, none⟩ 1 rfl HC2.out (by rw [natsI_len]; simp; omega) (Nat.le_trans HZ2.out HA2.out.size) ?_
           intro vv w3 HV3 HBV HYV HZV))
      have hvu : ∀ g, vu.ownBlock = some g → ¬ (Value.slice Av (natsI ((List.range k).map bF)).length cv).ownBlock = some g := fun g hg e => by
        rcases HZU.out g hg with h1 | h1
        · exact HAP.out g h1 e
        · have := (World.ownsRow.lt HV.out.1 g e).2
          have := HA1.out.size
          omega
      go_roundw
      case rel =>
        refine ⟨k + 1, by omega, by go_num, ?_, by rw [HSV.out]; exact HV3.out, fun g hg e => ?_, (HBL.out.trans (HA1.out.mono HBL.out.size)).trans ((HBU.out).trans ((HA2.out.mono HZ2.out).trans HBV.out))⟩
        · rw [HSU.out]
          exact ⟨owns_only (owns_below HU2.out.1 HA2.out) HYV.out (fun g hg e => hvu g hg e), HU2.out.2⟩
        · rcases HZV.out g e with h1 | h1
          · exact hvu g hg h1
          · have := (World.ownsRow.lt HU2.out.1 g hg).2
            have := HA2.out.size
            omega
      case measure => simp [intOf]; omega
    · have hk' : n = k := by omega
      subst hk'
      have HQL := Shut.mk (HQ1.out.quiet HBL.out)
      obtain ⟨gF, cF, eF, hFB⟩ : ∃ gF cF, u9 = .slice (some ⟨gF, 0, none⟩) n cF ∧ wb.heap.size ≤ gF := by
        have hown : wr.ownsRow wb.heap.size 22 1 u9 n ((natsI (List.range n)).flatMap uC) := by have := HU.out.1; rw [natsI_len, List.length_range] at this; exact this
        obtain ⟨g, cap, e, h1, h2⟩ := World.ownsRow.form hown (by omega)
        exact ⟨g, cap, e, h1⟩
      subst eF
      have HUF := Shut.mk (show wr.ownsRow wb.heap.size 22 1 (.slice (some ⟨gF, 0, none⟩) n cF) n ((natsI (List.range n)).flatMap uC) from by have := HU.out.1; rw [natsI_len, List.length_range] at this; exact this)
      have HFL := Shut.mk (show ∀ (w' : World) (i : Nat), w'.ownsRow wb.heap.size 22 1 (.slice (some ⟨gF, 0, none⟩) n cF) n ((natsI (List.range n)).flatMap uC) → i < n → w'.cell? ⟨gF, i, none⟩ = some (.int .u32 (i : Nat)) from fun w' i h hi => by
        have h1 := World.ownsRow.cells h rfl i (.int .u32 (i : Nat)) (by
          have : (natsI (List.range n)).flatMap uC = (List.range n).map fun j => Value.int .u32 (j : Nat) := by
            unfold natsI uC
            rw [List.flatMap_map]
            exact List.map_eq_flatMap.symm
          rw [this]
          simp [hi])
        rw [Addr.add_mid, Nat.zero_add] at h1
        exact h1)
      have HNEW := Shut.mk (show ∀ j, FootC x VZ j → j ≠ gF from fun j hj e => by
        have h1 := HQ1.out.is.lts hj
        omega)
      have HXW := Shut.mk HQL.out.bel
      clear HU HV HAP HBL eu
      go_wp2_with (fail)
      go_loopw [14, 15] (fun fi fk wr => ∃ (i : Nat) (T : Nat → Prop) (V : Nat → Value) (q : Qu), i ≤ n ∧ fi = .int .i64 i ∧ QW bkZ wx x T wr V q ∧ PutI (szF z) i 0 q ∧ wr.ownsRow wb.heap.size 22 1 (.slice (some ⟨gF, 0, none⟩) n cF) n ((natsI (List.range n)).flatMap uC) ∧ ∀ j, FootC x V j → j ≠ gF) (fun fi _ _ => n - (intOf fi).toNat)
      case atStart => exact ⟨0, _, _, _, Nat.zero_le _, rfl, HQL.out, put_zero _, HUF.out, HNEW.out⟩
      case round =>
        obtain ⟨i, T, V, q, hi, rfl, hq, hpi, huf, hap⟩ := hrel
        have HQ := Shut.mk hq
        have HPI := Shut.mk hpi
        have HU := Shut.mk huf
        have HAP := Shut.mk hap
        clear hq hpi huf hap HQL HUF HNEW HXW
        by_cases hin : i < n
        · have hi6 : i < 6 := by omega
          have hii2 : (i : Int) < (n : Int) := by omega
          go_wp2_with (fail)
          go_loopw [15] (fun fk wr => ∃ (k : Nat) (T : Nat → Prop) (V : Nat → Value) (q : Qu), k ≤ 110 ∧ fk = .int .i64 k ∧ QW bkZ wx x T wr V q ∧ PutI (szF z) i k q ∧ wr.ownsRow wb.heap.size 22 1 (.slice (some ⟨gF, 0, none⟩) n cF) n ((natsI (List.range n)).flatMap uC) ∧ ∀ j, FootC x V j → j ≠ gF) (fun fk _ => 110 - (intOf fk).toNat)
          case atStart => exact ⟨0, _, _, _, by omega, rfl, HQ.out, HPI.out, HU.out, HAP.out⟩
          case round =>
            clear HQ HPI HU HAP
            obtain ⟨k, T, V, q, hk, rfl, hq, hpi, huf, hap⟩ := hrel
            have HQ := Shut.mk hq
            have HPI := Shut.mk hpi
            have HU := Shut.mk huf
            have HAP := Shut.mk hap
            clear hq hpi huf hap
            by_cases hkt : k < 110
            · have hkk : (k : Int) < 110 := by omega
              have HBoxr := Shut.mk (show wr.cell? ⟨sB, 0, none⟩ = some (.slice a1 len1 cap1) from below_at HQ.out.bel (by have := block_range HBX.out 0 _ rfl; simpa using this))
              have HZr := Shut.mk (HZX.out.below HQ.out.bel)
              have HFi := Shut.mk (HFL.out wr i HU.out hin)
              obtain ⟨w5, hw5⟩ : ∃ wq, wq = World.drew wr := ⟨_, rfl⟩
              have HWw5 := Shut.mk hw5
              have HDw5 := Shut.mk (show Below wr.heap.size wr w5 by rw [hw5]; exact (Below.refl _ _).drew)
              clear hw5
              go_wp2_with (fail)
              refine wp_region_D (fun w' => Below w5.heap.size w5 w') 10 (by kernel_rfl) (show Below w5.heap.size w5 (World.drew wr) by rw [HWw5.out]; exact Below.refl _ _) (fun hHeld hC => ?_)
              rw [← HWw5.out] at hHeld ⊢
              refine wpAnyD_pure (i := 0) (v := ?_) rfl hC (by kernel_rfl) (by kernel_rfl) (by kernel_rfl) (by decide) (fun _ _ _ h => h) (Or.inl ⟨by rfl, ?_⟩) (fun _ => hHeld) ?_
              rotate_left
              · intro w hSw
                clear hSw
                go_simp
                try with_reducible rfl
              try simp only [Act.put, List.getElem_toArray, List.getElem_cons_zero, List.getElem_cons_succ, List.setIfInBounds_toArray, List.set_cons_zero, List.set_cons_succ]
              clear hC
              intro hC
              refine wpAnyD_pure (i := 1) (v := ?_) rfl hC (by kernel_rfl) (by kernel_rfl) (by kernel_rfl) (by decide) (fun _ _ _ h => h) (Or.inl ⟨by rfl, ?_⟩) (fun _ => hHeld) ?_
              rotate_left
              · intro w hSw
                clear hSw
                go_simp
                try with_reducible rfl
              try simp only [Act.put, List.getElem_toArray, List.getElem_cons_zero, List.getElem_cons_succ, List.setIfInBounds_toArray, List.set_cons_zero, List.set_cons_succ]
              clear hC
              intro hC
              refine wpAnyD_pure (i := 2) (v := ?_) rfl hC (by kernel_rfl) (by kernel_rfl) (by kernel_rfl) (by decide) (fun _ _ _ h => h) (Or.inl ⟨by rfl, ?_⟩) (fun _ => hHeld) ?_
              rotate_left
              · intro w hSw
                clear hSw
                go_simp
                try with_reducible rfl
              try simp only [Act.put, List.getElem_toArray, List.getElem_cons_zero, List.getElem_cons_succ, List.setIfInBounds_toArray, List.set_cons_zero, List.set_cons_succ]
              clear hC
              intro hC
              refine wpAnyD_pure (i := 3) (v := ?_) rfl hC (by kernel_rfl) (by kernel_rfl) (by kernel_rfl) (by decide) (fun _ _ _ h => h) (Or.inl ⟨by rfl, ?_⟩) (fun _ => hHeld) ?_
              rotate_left
              · intro w hSw
                clear hSw
                go_simp
                try with_reducible rfl
              try simp only [Act.put, List.getElem_toArray, List.getElem_cons_zero, List.getElem_cons_succ, List.setIfInBounds_toArray, List.set_cons_zero, List.set_cons_succ]
              clear hC
              intro hC
              refine wpAnyD_take (i := 4) (v := ?_) 40 rfl (by kernel_rfl) hC (by kernel_rfl) (by kernel_rfl) (by kernel_rfl) (by decide) (fun _ _ _ h => h) (Or.inl ⟨by rfl, ?_⟩) (fun _ => hHeld) ?_
              rotate_left
              · intro w hSw
                have hz := (show w.cell? ⟨gF, i, none⟩ = some (.int .u32 (i : Nat)) from below_at (hSw) (below_at HDw5.out HFi.out))
                clear hSw
                go_simp
                try with_reducible rfl
              try simp only [Act.put, List.getElem_toArray, List.getElem_cons_zero, List.getElem_cons_succ, List.setIfInBounds_toArray, List.set_cons_zero, List.set_cons_succ]
              clear hC
              intro hC
              refine wpAnyD_pure (i := 5) (v := ?_) rfl hC (by kernel_rfl) (by kernel_rfl) (by kernel_rfl) (by decide) (fun _ _ _ h => h) (Or.inl ⟨by rfl, ?_⟩) (fun _ => hHeld) ?_
              rotate_left
              · intro w hSw
                clear hSw
                go_simp
                try with_reducible rfl
              try simp only [Act.put, List.getElem_toArray, List.getElem_cons_zero, List.getElem_cons_succ, List.setIfInBounds_toArray, List.set_cons_zero, List.set_cons_succ]
              clear hC
              intro hC
              refine wpAnyD_pure (i := 6) (v := ?_) rfl hC (by kernel_rfl) (by kernel_rfl) (by kernel_rfl) (by decide) (fun _ _ _ h => h) (Or.inl ⟨by rfl, ?_⟩) (fun _ => hHeld) ?_
              rotate_left
              · intro w hSw
                clear hSw
                go_simp
                try with_reducible rfl
              try simp only [Act.put, List.getElem_toArray, List.getElem_cons_zero, List.getElem_cons_succ, List.setIfInBounds_toArray, List.set_cons_zero, List.set_cons_succ]
              clear hC
              intro hC
              refine wpAnyD_one (i := 7) (by kernel_rfl) rfl hC (fun K hK => ?_)
              clear hC
              go_simp
              refine (size_any sB a1 len1 cap1 z i w5 (below_at HDw5.out HBoxr.out) (HZr.out.below HDw5.out) (by omega)).mono ?_
              rintro e' wn ⟨rfl, rfl⟩
              have hHeld2 := hHeld
              clear hHeld
              have hHeld := hHeld2
              clear hHeld2
              refine hK.out _ _ (fun _ => hHeld) (fun hC => ?_)
              clear hK K
              try simp only [Act.put, List.getElem_toArray, List.getElem_cons_zero, List.getElem_cons_succ, List.setIfInBounds_toArray, List.set_cons_zero, List.set_cons_succ]
              refine wpAnyD_one (i := 8) (by kernel_rfl) rfl hC (fun K hK => ?_)
              clear hC
              refine step_make_full rfl (.tmp 76) (.tmp 76) 30 rfl w5.heap.size 5 ib (.int .u8 0) 1 Try.underlying30 hib hzb hyb _ _ _ _ (szF z i) rfl rfl rfl rfl (by rw [hxb]; have := (szF_in z i).2; omega) (by unfold maxLen; have := (szF_in z i).2; omega) (Nat.le_refl _) ?_
              intro wv1 hown1 hgrow1
              have HBM := Shut.mk ((Below.refl w5.heap.size w5).grown hgrow1 (Nat.le_refl _) (by simp))
              have HRM := Shut.mk (zer_row hown1)
              have hHeld2 := hHeld.trans (HBM.out.mono hHeld.size)
              clear hown1 hgrow1
              clear hHeld
              have hHeld := hHeld2
              clear hHeld2
              refine hK.out _ _ (fun _ => hHeld) (fun hC => ?_)
              clear hK K
              try simp only [Act.put, List.getElem_toArray, List.getElem_cons_zero, List.getElem_cons_succ, List.setIfInBounds_toArray, List.set_cons_zero, List.set_cons_succ]
              refine wpAnyD_pure (i := 9) (v := ?_) rfl hC (by kernel_rfl) (by kernel_rfl) (by kernel_rfl) (by decide) (fun _ _ _ h => h) (Or.inl ⟨by rfl, ?_⟩) (fun _ => hHeld) ?_
              rotate_left
              · intro w hSw
                clear hSw
                go_simp
                try with_reducible rfl
              try simp only [Act.put, List.getElem_toArray, List.getElem_cons_zero, List.getElem_cons_succ, List.setIfInBounds_toArray, List.set_cons_zero, List.set_cons_succ]
              clear hC
              intro hC
              refine wpAnyD_one (i := 10) (by kernel_rfl) rfl hC (fun K hK => ?_)
              clear hC
              go_simp
              refine (qput (((HQ.out.quiet HDw5.out).quiet hHeld)) HSD.out (pkZ (szF z) i) _ (szF z i) (szF z i) HRM.out (by have := (szF_in z i).2; omega) ⟨Int.natCast_nonneg _, by show (i : Int) ≤ 4294967295; omega⟩ ⟨Int.le_refl _, by show (0 : Int) ≤ 4503599627370496; omega⟩ (put_len hi6 HPI.out hkt)).mono ?_
              rintro e' wv2 ⟨rfl, T', V', hQ', hC'⟩
              have HQ' := Shut.mk hQ'
              have HC' := Shut.mk hC'
              have HHB := Shut.mk hHeld
              clear hQ' hC'
              refine hK.out _ _ (past (by kernel_rfl)) (fun hC => ?_)
              clear hK K
              try simp only [Act.put, List.getElem_toArray, List.getElem_cons_zero, List.getElem_cons_succ, List.setIfInBounds_toArray, List.set_cons_zero, List.set_cons_succ]
              refine wpAnyD_done (by kernel_rfl) ?_ _
              try simp only [Act.put, List.getElem_toArray, List.getElem_cons_zero, List.getElem_cons_succ, List.setIfInBounds_toArray, List.set_cons_zero, List.set_cons_succ]
              clear hHeld hC HBoxr HZr HFi HWw5
              have HBN := Shut.mk (HDw5.out.trans (HHB.out.mono HDw5.out.size))
              go_wp2_with (fail)
              go_roundw
              case rel =>
                refine ⟨k + 1, T', V', _, by omega, by go_num, HQ'.out, put_one hi6 HPI.out, owns_only (owns_below HU.out HBN.out) HC'.out.only (fun g hg e => by cases hg; exact HAP.out _ e rfl), fun j hj e => ?_⟩
                rcases HC'.out.fresh j hj with h1 | h1
                · exact HAP.out j h1 e
                · have h2 := (World.ownsRow.lt HU.out gF rfl).2
                  have h3 := HBN.out.size
                  omega
              case measure => simp [intOf]; omega
            · have hk' : k = 110 := by omega
              subst hk'
              go_wp2_with (fail)
              go_roundw
              case rel => exact ⟨i + 1, T, V, q, by omega, by go_num, HQ.out, put_next HPI.out, HU.out, HAP.out⟩
              case measure => simp [intOf]; omega
        · have hi' : n = i := by omega
          subst hi'
          have HTZ := Shut.mk (turn_zero hn6.2 (fun j => (szF_in z j).1) HPI.out)
          clear HPI
          go_wp2_with (at_make; refine wpList_make_full _ rfl _ _ 50 rfl wr.heap.size 3 ii (.int .i64 0) 1 Try.underlying50 hii hzi hyi _ _ _ _ n rfl rfl (by omega) (by omega) (by rw [hxi]; omega) (by unfold maxLen; omega) (Nat.le_refl _) ?_; intro w4 hown1 hgrow1)
          obtain ⟨gT, hgT⟩ : ∃ g, g = wr.heap.size := ⟨_, rfl⟩
          have HGT := Shut.mk hgT
          have HL0 := Shut.mk (show w4.heap[gT]? = some (.cells (rowC (tookL n fun _ => 0)) 3 (0, 0)) by rw [hgT, ← tookL_zero]; exact made_rowC hown1)
          rw [← hgT]
          clear hgT hown1
          have HB4 := Shut.mk ((Below.refl wr.heap.size wr).grown hgrow1 (Nat.le_refl _) (by simp))
          clear hgrow1
          have HQ4 := Shut.mk (HQ.out.quiet HB4.out)
          have HU4 := Shut.mk (owns_below HU.out HB4.out)
          have HAT := Shut.mk (show ∀ j, FootC x V j → j ≠ gF ∧ j ≠ gT from fun j hj => ⟨HAP.out j hj, fun e => by have := HQ.out.is.lts hj; have := HGT.out; omega⟩)
          have HTT := Shut.mk (show ∀ j, T j → ¬ j = gT from fun j hj e => by have := HQ.out.is.there j hj; have := HGT.out; omega)
          have HFT := Shut.mk (show gF ≠ gT from fun e => by have := (World.ownsRow.lt HU.out gF rfl).2; have := HGT.out; omega)
          have HTW := Shut.mk (show ∀ k, k < wx.heap.size → ¬ k = gT from fun k hk e => by have := HQ.out.bel.size; have := HGT.out; omega)
          clear HQ HU HAP HGT HB4
          go_wp2_with (fail)
          go_loopw [17, 18, 19, 20, 21] (fun ft _ _ _ _ wr => ∃ (t : Nat) (V : Nat → Value) (q : Qu) (TT : Nat → Int), t ≤ tn ∧ ft = .int .i64 t ∧ QW bkZ wx x T wr V q ∧ TurnI (szF z) n t TT q ∧ wr.heap[gT]? = some (.cells (rowC (tookL n TT)) 3 (0, 0)) ∧ wr.ownsRow wb.heap.size 22 1 (.slice (some ⟨gF, 0, none⟩) n cF) n ((natsI (List.range n)).flatMap uC) ∧ ∀ j, FootC x V j → j ≠ gF ∧ j ≠ gT) (fun ft _ _ _ _ _ => tn - (intOf ft).toNat)
          case atStart => exact ⟨0, _, _, _, Nat.zero_le _, rfl, HQ4.out, HTZ.out, HL0.out, HU4.out, HAT.out⟩
          case round =>
            clear HQ4 HTZ HL0 HU4 HAT
            obtain ⟨t, V, q, TT, ht, rfl, hq, hti, hl, huf, hap⟩ := hrel
            have HQ := Shut.mk hq
            have HTI := Shut.mk hti
            have HL := Shut.mk hl
            have HU := Shut.mk huf
            have HAP := Shut.mk hap
            clear hq hti hl huf hap
            by_cases htt : t < tn
            · have htt2 : (t : Int) < (tn : Int) := by omega
              obtain ⟨j0, q3, hj0, hT, hTI⟩ := turn_take ⟨by omega, hn6.2⟩ (fun j => szF_in z j) (by omega) HQ.out.inv HTI.out
              rw [← HPP.out] at hT
              have HT := Shut.mk hT
              obtain ⟨T2, hT2⟩ : ∃ T2 : Nat → Int, T2 = fun b => if b = bF j0 then TT (bF j0) + (szF z j0 : Int) else TT b := ⟨_, rfl⟩
              rw [← hT2] at hTI
              have HTI3 := Shut.mk hTI
              have HSET := Shut.mk (show (tookL n TT).set j0 ((tookL n TT).getD j0 0 + (szF z j0 : Nat)) = tookL n T2 by rw [hT2]; exact tookL_set hn6.2 TT hj0 _)
              have HWR := Shut.mk (show IntKind.i64.wrap ((tookL n TT).getD j0 0 + (szF z j0 : Nat)) = (tookL n TT).getD j0 0 + (szF z j0 : Nat) from IntWalk.i64_in _ (by
                rw [tookL_getD TT hj0]
                have := HTI.out.tot j0 hj0
                have := szF_in z j0
                exact ⟨by omega, by omega⟩))
              clear hT hTI hT2 HTI
              go_wp2_with (fail)
              refine (qtake (bkQ_lt 0#32) HQ.out 0 (by decide) (by decide) _ _ _ HT.out).mono ?_
              rintro e w2 ⟨V3, late, T3, v, hQ3, hC3, -, -, -, -, hE⟩
              obtain ⟨A, c, rfl, rfl, -⟩ := hE.some_
              have HQ3 := Shut.mk hQ3
              have HC3 := Shut.mk hC3
              clear hQ3 hC3 hE
              rw [show (pkZ (szF z) j0).body.length = szF z j0 from zer_len _]
              unfold pkV pkZ
              dsimp only
              obtain ⟨s18, hs18⟩ : ∃ s, s = w2.heap.size := ⟨_, rfl⟩
              have HSs18 := Shut.mk hs18
              have HAw3 := Shut.mk ((Below.refl w2.heap.size w2).alloc (Nat.le_refl _) (Obj.cells #[Value.int .i64 0, .int .u32 0, .int .i64 0, .int .i64 0, Value.slice none 0 0] 32 (0, 0)))
              have HXw3 := Shut.mk (show (w2.alloc (Obj.cells #[Value.int .i64 0, .int .u32 0, .int .i64 0, .int .i64 0, Value.slice none 0 0] 32 (0, 0))).heap[s18]? = some (Obj.cells #[Value.int .i64 0, .int .u32 0, .int .i64 0, .int .i64 0, Value.slice none 0 0] 32 (0, 0)) by rw [hs18]; exact (MapKept.heap_alloc w2 (Obj.cells #[Value.int .i64 0, .int .u32 0, .int .i64 0, .int .i64 0, Value.slice none 0 0] 32 (0, 0))).1)
              obtain ⟨w3, hw3⟩ : ∃ w4, w4 = (w2.alloc (Obj.cells #[Value.int .i64 0, .int .u32 0, .int .i64 0, .int .i64 0, Value.slice none 0 0] 32 (0, 0))).setRow s18 #[Value.int .i64 0, .int .u32 (j0 : Nat), .int .i64 0, .int .i64 0, Value.slice A (szF z j0) c] := ⟨_, rfl⟩
              have HYw3 := Shut.mk (show w3.heap[s18]? = some (Obj.cells #[Value.int .i64 0, .int .u32 (j0 : Nat), .int .i64 0, .int .i64 0, Value.slice A (szF z j0) c] 32 (0, 0)) by rw [hw3]; exact setRow_heap _ s18 _ #[Value.int .i64 0, .int .u32 (j0 : Nat), .int .i64 0, .int .i64 0, Value.slice A (szF z j0) c] _ (0, 0) HXw3.out)
              have HBw3 := Shut.mk (show Below w2.heap.size w2 w3 by rw [hw3]; exact below_setRow HAw3.out (by omega) _)
              have HWw3 := Shut.mk hw3
              clear hw3 hs18
              have HL3 := Shut.mk (show w3.heap[gT]? = some (.cells (rowC (tookL n TT)) 3 (0, 0)) from by
                have h1 := HC3.out.only.at_ HL.out (fun e => (HAP.out gT e).2 rfl)
                exact (HBw3.out.block _ (lt_blk h1)).trans h1)
              have HU3 := Shut.mk (owns_below (owns_only HU.out HC3.out.only (fun g hg e => by cases hg; exact (HAP.out _ e).1 rfl)) HBw3.out)
              have HAP3 := Shut.mk (show ∀ j, FootC x V3 j → j ≠ gF ∧ j ≠ gT from fun j hj => by
                rcases HC3.out.fresh j hj with h1 | h1
                · exact HAP.out j h1
                · have h2 := (World.ownsRow.lt HU.out gF rfl).2
                  have h3 := lt_blk HL.out
                  exact ⟨by omega, by omega⟩)
              have HN18 := Shut.mk (show ¬ s18 = gT from fun e => by
                have h1 := HSs18.out
                have h2 := HC3.out.only.size
                have h3 := lt_blk HL.out
                omega)
              have HQ3w := Shut.mk (HQ3.out.quiet HBw3.out)
              clear HQ HL HU HAP HC3 HQ3 HT
              go_wp2_with (first
                | (refine wpList_store_row rfl 32 (.tmp 18) (.tmp 90) rfl s18 #[Value.int .i64 0, .int .u32 (j0 : Nat), .int .i64 0, .int .i64 0, Value.slice A (szF z j0) c] (by show Value.pointer (some ⟨w2.heap.size, 0, none⟩) = _; rw [HSs18.out]) rfl 32 _ HXw3.out size5 rfl (pkt_one _ _ _ _ _ _ _) ?_
                   rw [show World.setRow (World.alloc w2 _) s18 _ = w3 from HWw3.out.symm, ← HSs18.out]))
              clear HWw3 HSs18 HBw3 HAw3 HXw3
              go_wp2_with (fail)
              go_loopw [21] (fun fi wr => ∃ (i : Nat) (l : List Int), i ≤ n ∧ fi = .int .i64 i ∧ Only (· = gT) w3 wr ∧ ((i ≤ j0 ∧ l = tookL n TT) ∨ (j0 < i ∧ l = tookL n T2)) ∧ wr.heap[gT]? = some (.cells (rowC l) 3 (0, 0))) (fun fi _ => n - (intOf fi).toNat)
              case atStart => exact ⟨0, _, Nat.zero_le _, rfl, Only.refl _ _, .inl ⟨Nat.zero_le _, rfl⟩, HL3.out⟩
              case round =>
                obtain ⟨i, l, hi, rfl, ho, hor, hl⟩ := hrel
                have HO := Shut.mk ho
                have HOR := Shut.mk hor
                have HL := Shut.mk hl
                clear ho hor hl
                by_cases hin : i < n
                · have hin2 : (i : Int) < (n : Int) := by omega
                  obtain ⟨w5, hw5⟩ : ∃ wq, wq = World.drew wr := ⟨_, rfl⟩
                  have HWw5 := Shut.mk hw5
                  have HDw5 := Shut.mk (show Below wr.heap.size wr w5 by rw [hw5]; exact (Below.refl _ _).drew)
                  clear hw5
                  have HO5 := Shut.mk (HO.out.then_quiet HDw5.out)
                  have HX5 := Shut.mk (HO5.out.at_ HYw3.out HN18.out)
                  have HL5 := Shut.mk ((HDw5.out.block _ (lt_blk HL.out)).trans HL.out)
                  have HFi := Shut.mk (HFL.out w5 i (owns_only HU3.out HO5.out (fun g hg e => by cases hg; exact HFT.out e)) hin)
                  by_cases hji : j0 = i
                  · have hlj : l = tookL n TT := by
                      rcases HOR.out with h1 | h1
                      · exact h1.2
                      · omega
                    have HFj := Shut.mk (show w5.cell? ⟨gF, i, none⟩ = some (.int .u32 (j0 : Nat)) by rw [hji]; exact HFi.out)
                    obtain ⟨v0, hv0⟩ : ∃ v0, v0 = l.getD i 0 := ⟨_, rfl⟩
                    have HV0 := Shut.mk hv0
                    have hset : l.set i (v0 + (szF z j0 : Nat)) = tookL n T2 := by rw [hv0, hlj, ← hji]; exact HSET.out
                    have hwrp : IntKind.i64.wrap (v0 + (szF z j0 : Nat)) = v0 + (szF z j0 : Nat) := by rw [hv0, hlj, ← hji]; exact HWR.out
                    have HSEI := Shut.mk hset
                    have HWRI := Shut.mk hwrp
                    have HLN := Shut.mk (show l.length = n by rw [hlj]; exact tookL_len _ _)
                    have HJI := Shut.mk hji
                    clear hset hwrp hlj hv0 hji
                    go_wp2_with (fail)
                    refine wp_region_D (fun w' => w5 = w') 6 (by kernel_rfl) HWw5.out (fun hHeld hC => ?_)
                    rw [← HWw5.out] at hHeld ⊢
                    refine wpAnyD_pure (i := 0) (v := ?_) rfl hC (by kernel_rfl) (by kernel_rfl) (by kernel_rfl) (by decide) (fun _ _ _ h => h) (Or.inl ⟨by rfl, ?_⟩) (fun _ => hHeld) ?_
                    rotate_left
                    · intro w hSw
                      clear hSw
                      go_simp
                      try with_reducible rfl
                    try simp only [Act.put, List.getElem_toArray, List.getElem_cons_zero, List.getElem_cons_succ, List.setIfInBounds_toArray, List.set_cons_zero, List.set_cons_succ]
                    clear hC
                    intro hC
                    refine wpAnyD_take (i := 1) (v := ?_) 40 rfl (by kernel_rfl) hC (by kernel_rfl) (by kernel_rfl) (by kernel_rfl) (by decide) (fun _ _ _ h => h) (Or.inl ⟨by rfl, ?_⟩) (fun _ => hHeld) ?_
                    rotate_left
                    · intro w hSw
                      have hz := (show w.cell? ⟨s18, 1, none⟩ = some (.int .u32 (j0 : Nat)) from by rw [← hSw]; have := block_range HX5.out 1 _ rfl; simpa using this)
                      clear hSw
                      go_simp
                      try with_reducible rfl
                    try simp only [Act.put, List.getElem_toArray, List.getElem_cons_zero, List.getElem_cons_succ, List.setIfInBounds_toArray, List.set_cons_zero, List.set_cons_succ]
                    clear hC
                    intro hC
                    refine wpAnyD_pure (i := 2) (v := ?_) rfl hC (by kernel_rfl) (by kernel_rfl) (by kernel_rfl) (by decide) (fun _ _ _ h => h) (Or.inl ⟨by rfl, ?_⟩) (fun _ => hHeld) ?_
                    rotate_left
                    · intro w hSw
                      clear hSw
                      go_simp
                      try with_reducible rfl
                    try simp only [Act.put, List.getElem_toArray, List.getElem_cons_zero, List.getElem_cons_succ, List.setIfInBounds_toArray, List.set_cons_zero, List.set_cons_succ]
                    clear hC
                    intro hC
                    refine wpAnyD_pure (i := 3) (v := ?_) rfl hC (by kernel_rfl) (by kernel_rfl) (by kernel_rfl) (by decide) (fun _ _ _ h => h) (Or.inl ⟨by rfl, ?_⟩) (fun _ => hHeld) ?_
                    rotate_left
                    · intro w hSw
                      clear hSw
                      go_simp
                      try with_reducible rfl
                    try simp only [Act.put, List.getElem_toArray, List.getElem_cons_zero, List.getElem_cons_succ, List.setIfInBounds_toArray, List.set_cons_zero, List.set_cons_succ]
                    clear hC
                    intro hC
                    refine wpAnyD_pure (i := 4) (v := ?_) rfl hC (by kernel_rfl) (by kernel_rfl) (by kernel_rfl) (by decide) (fun _ _ _ h => h) (Or.inl ⟨by rfl, ?_⟩) (fun _ => hHeld) ?_
                    rotate_left
                    · intro w hSw
                      clear hSw
                      go_simp
                      try with_reducible rfl
                    try simp only [Act.put, List.getElem_toArray, List.getElem_cons_zero, List.getElem_cons_succ, List.setIfInBounds_toArray, List.set_cons_zero, List.set_cons_succ]
                    clear hC
                    intro hC
                    refine wpAnyD_take (i := 5) (v := ?_) 40 rfl (by kernel_rfl) hC (by kernel_rfl) (by kernel_rfl) (by kernel_rfl) (by decide) (fun _ _ _ h => h) (Or.inl ⟨by rfl, ?_⟩) (fun _ => hHeld) ?_
                    rotate_left
                    · intro w hSw
                      have hz := (show w.cell? ⟨gF, i, none⟩ = some (.int .u32 (j0 : Nat)) from by rw [← hSw]; exact HFj.out)
                      clear hSw
                      go_simp
                      try with_reducible rfl
                    try simp only [Act.put, List.getElem_toArray, List.getElem_cons_zero, List.getElem_cons_succ, List.setIfInBounds_toArray, List.set_cons_zero, List.set_cons_succ]
                    clear hC
                    intro hC
                    refine wpAnyD_one (i := 6) (by kernel_rfl) rfl hC (fun K hK => ?_)
                    clear hC
                    go_simp
                    refine hK.out _ _ (past (by kernel_rfl)) (fun hC => ?_)
                    clear hK K
                    try simp only [Act.put, List.getElem_toArray, List.getElem_cons_zero, List.getElem_cons_succ, List.setIfInBounds_toArray, List.set_cons_zero, List.set_cons_succ]
                    refine wpAnyD_done (by kernel_rfl) ?_ _
                    try simp only [Act.put, List.getElem_toArray, List.getElem_cons_zero, List.getElem_cons_succ, List.setIfInBounds_toArray, List.set_cons_zero, List.set_cons_succ]
                    clear hHeld hC
                    obtain ⟨w7, hw7⟩ : ∃ wq, wq = World.drew w5 := ⟨_, rfl⟩
                    have HWw7 := Shut.mk hw7
                    have HDw7 := Shut.mk (show Below w5.heap.size w5 w7 by rw [hw7]; exact (Below.refl _ _).drew)
                    clear hw7
                    have HO7 := Shut.mk (HO5.out.then_quiet HDw7.out)
                    have HX7 := Shut.mk (HO7.out.at_ HYw3.out HN18.out)
                    have HL7 := Shut.mk ((HDw7.out.block _ (lt_blk HL5.out)).trans HL5.out)
                    go_wp2_with (fail)
                    refine wp_region_D (fun w' => w7 = w') 11 (by kernel_rfl) HWw7.out (fun hHeld hC => ?_)
                    rw [← HWw7.out] at hHeld ⊢
                    refine wpAnyD_pure (i := 0) (v := ?_) rfl hC (by kernel_rfl) (by kernel_rfl) (by kernel_rfl) (by decide) (fun _ _ _ h => h) (Or.inl ⟨by rfl, ?_⟩) (fun _ => hHeld) ?_
                    rotate_left
                    · intro w hSw
                      clear hSw
                      go_simp
                      try with_reducible rfl
                    try simp only [Act.put, List.getElem_toArray, List.getElem_cons_zero, List.getElem_cons_succ, List.setIfInBounds_toArray, List.set_cons_zero, List.set_cons_succ]
                    clear hC
                    intro hC
                    refine wpAnyD_pure (i := 1) (v := ?_) rfl hC (by kernel_rfl) (by kernel_rfl) (by kernel_rfl) (by decide) (fun _ _ _ h => h) (Or.inl ⟨by rfl, ?_⟩) (fun _ => hHeld) ?_
                    rotate_left
                    · intro w hSw
                      clear hSw
                      go_simp
                      try with_reducible rfl
                    try simp only [Act.put, List.getElem_toArray, List.getElem_cons_zero, List.getElem_cons_succ, List.setIfInBounds_toArray, List.set_cons_zero, List.set_cons_succ]
                    clear hC
                    intro hC
                    refine wpAnyD_pure (i := 2) (v := ?_) rfl hC (by kernel_rfl) (by kernel_rfl) (by kernel_rfl) (by decide) (fun _ _ _ h => h) (Or.inl ⟨by rfl, ?_⟩) (fun _ => hHeld) ?_
                    rotate_left
                    · intro w hSw
                      clear hSw
                      go_simp
                      try with_reducible rfl
                    try simp only [Act.put, List.getElem_toArray, List.getElem_cons_zero, List.getElem_cons_succ, List.setIfInBounds_toArray, List.set_cons_zero, List.set_cons_succ]
                    clear hC
                    intro hC
                    refine wpAnyD_pure (i := 3) (v := ?_) rfl hC (by kernel_rfl) (by kernel_rfl) (by kernel_rfl) (by decide) (fun _ _ _ h => h) (Or.inl ⟨by rfl, ?_⟩) (fun _ => hHeld) ?_
                    rotate_left
                    · intro w hSw
                      clear hSw
                      go_simp
                      try with_reducible rfl
                    try simp only [Act.put, List.getElem_toArray, List.getElem_cons_zero, List.getElem_cons_succ, List.setIfInBounds_toArray, List.set_cons_zero, List.set_cons_succ]
                    clear hC
                    intro hC
                    refine wpAnyD_pure (i := 4) (v := ?_) rfl hC (by kernel_rfl) (by kernel_rfl) (by kernel_rfl) (by decide) (fun _ _ _ h => h) (Or.inl ⟨by rfl, ?_⟩) (fun _ => hHeld) ?_
                    rotate_left
                    · intro w hSw
                      clear hSw
                      go_simp
                      try with_reducible rfl
                    try simp only [Act.put, List.getElem_toArray, List.getElem_cons_zero, List.getElem_cons_succ, List.setIfInBounds_toArray, List.set_cons_zero, List.set_cons_succ]
                    clear hC
                    intro hC
                    refine wpAnyD_take (i := 5) (v := ?_) 40 rfl (by kernel_rfl) hC (by kernel_rfl) (by kernel_rfl) (by kernel_rfl) (by decide) (fun _ _ _ h => h) (Or.inl ⟨by rfl, ?_⟩) (fun _ => hHeld) ?_
                    rotate_left
                    · intro w hSw
                      have hz := (show w.cell? ⟨gT, i, none⟩ = some (.int .i64 v0) from by rw [← hSw, HV0.out]; exact rowC_cell HL7.out i (by rw [HLN.out]; exact hin))
                      clear hSw
                      go_simp
                      try with_reducible rfl
                    try simp only [Act.put, List.getElem_toArray, List.getElem_cons_zero, List.getElem_cons_succ, List.setIfInBounds_toArray, List.set_cons_zero, List.set_cons_succ]
                    clear hC
                    intro hC
                    refine wpAnyD_pure (i := 6) (v := ?_) rfl hC (by kernel_rfl) (by kernel_rfl) (by kernel_rfl) (by decide) (fun _ _ _ h => h) (Or.inl ⟨by rfl, ?_⟩) (fun _ => hHeld) ?_
                    rotate_left
                    · intro w hSw
                      clear hSw
                      go_simp
                      try with_reducible rfl
                    try simp only [Act.put, List.getElem_toArray, List.getElem_cons_zero, List.getElem_cons_succ, List.setIfInBounds_toArray, List.set_cons_zero, List.set_cons_succ]
                    clear hC
                    intro hC
                    refine wpAnyD_take (i := 7) (v := ?_) 40 rfl (by kernel_rfl) hC (by kernel_rfl) (by kernel_rfl) (by kernel_rfl) (by decide) (fun _ _ _ h => h) (Or.inl ⟨by rfl, ?_⟩) (fun _ => hHeld) ?_
                    rotate_left
                    · intro w hSw
                      have hz := (show w.cell? ⟨s18, 4, none⟩ = some (.slice A (szF z j0) c) from by rw [← hSw]; have := block_range HX7.out 4 _ rfl; simpa using this)
                      clear hSw
                      go_simp
                      try with_reducible rfl
                    try simp only [Act.put, List.getElem_toArray, List.getElem_cons_zero, List.getElem_cons_succ, List.setIfInBounds_toArray, List.set_cons_zero, List.set_cons_succ]
                    clear hC
                    intro hC
                    refine wpAnyD_pure (i := 8) (v := ?_) rfl hC (by kernel_rfl) (by kernel_rfl) (by kernel_rfl) (by decide) (fun _ _ _ h => h) (Or.inl ⟨by rfl, ?_⟩) (fun _ => hHeld) ?_
                    rotate_left
                    · intro w hSw
                      clear hSw
                      go_simp
                      try with_reducible rfl
                    try simp only [Act.put, List.getElem_toArray, List.getElem_cons_zero, List.getElem_cons_succ, List.setIfInBounds_toArray, List.set_cons_zero, List.set_cons_succ]
                    clear hC
                    intro hC
                    refine wpAnyD_pure (i := 9) (v := ?_) rfl hC (by kernel_rfl) (by kernel_rfl) (by kernel_rfl) (by decide) (fun _ _ _ h => h) (Or.inl ⟨by rfl, ?_⟩) (fun _ => hHeld) ?_
                    rotate_left
                    · intro w hSw
                      have hwr := HWRI.out
                      clear hSw
                      go_simp
                      try with_reducible rfl
                    try simp only [Act.put, List.getElem_toArray, List.getElem_cons_zero, List.getElem_cons_succ, List.setIfInBounds_toArray, List.set_cons_zero, List.set_cons_succ]
                    clear hC
                    intro hC
                    refine wpAnyD_pure (i := 10) (v := ?_) rfl hC (by kernel_rfl) (by kernel_rfl) (by kernel_rfl) (by decide) (fun _ _ _ h => h) (Or.inl ⟨by rfl, ?_⟩) (fun _ => hHeld) ?_
                    rotate_left
                    · intro w hSw
                      clear hSw
                      go_simp
                      try with_reducible rfl
                    try simp only [Act.put, List.getElem_toArray, List.getElem_cons_zero, List.getElem_cons_succ, List.setIfInBounds_toArray, List.set_cons_zero, List.set_cons_succ]
                    clear hC
                    intro hC
                    refine wpAnyD_one (i := 11) (by kernel_rfl) rfl hC (fun K hK => ?_)
                    clear hC
                    refine step_store_into rfl 3 (.tmp 117) (.tmp 116) rfl gT i (.int .i64 (v0 + (szF z j0 : Nat))) rfl rfl rfl 3 (rowC l) (rowC (tookL n T2)) HL7.out size1i (by rw [rowC_size, HLN.out]; exact hin) (by rw [rowC_set, HSEI.out]) ?_
                    have HLZ := Shut.mk (setRow_heap w7 gT _ (rowC (tookL n T2)) _ (0, 0) HL7.out)
                    have HOZ := Shut.mk (only_setRow w7 gT (rowC (tookL n T2)))
                    generalize hq : World.setRow w7 gT _ = wZ at *
                    clear hq
                    refine hK.out _ _ (past (by kernel_rfl)) (fun hC => ?_)
                    clear hK K
                    try simp only [Act.put, List.getElem_toArray, List.getElem_cons_zero, List.getElem_cons_succ, List.setIfInBounds_toArray, List.set_cons_zero, List.set_cons_succ]
                    refine wpAnyD_done (by kernel_rfl) ?_ _
                    try simp only [Act.put, List.getElem_toArray, List.getElem_cons_zero, List.getElem_cons_succ, List.setIfInBounds_toArray, List.set_cons_zero, List.set_cons_succ]
                    clear hHeld hC
                    go_wp2_with (fail)
                    go_roundw
                    case rel => exact ⟨i + 1, tookL n T2, by omega, by go_num, HO7.out.trans HOZ.out (fun k _ e => e), .inr ⟨by have := HJI.out; omega, rfl⟩, HLZ.out⟩
                    case measure => simp [intOf]; omega
                  · have hji2 : ((j0 : Int) == (i : Int)) = false := by simp; omega
                    go_wp2_with (fail)
                    refine wp_region_D (fun w' => w5 = w') 6 (by kernel_rfl) HWw5.out (fun hHeld hC => ?_)
                    rw [← HWw5.out] at hHeld ⊢
                    refine wpAnyD_pure (i := 0) (v := ?_) rfl hC (by kernel_rfl) (by kernel_rfl) (by kernel_rfl) (by decide) (fun _ _ _ h => h) (Or.inl ⟨by rfl, ?_⟩) (fun _ => hHeld) ?_
                    rotate_left
                    · intro w hSw
                      clear hSw
                      go_simp
                      try with_reducible rfl
                    try simp only [Act.put, List.getElem_toArray, List.getElem_cons_zero, List.getElem_cons_succ, List.setIfInBounds_toArray, List.set_cons_zero, List.set_cons_succ]
                    clear hC
                    intro hC
                    refine wpAnyD_take (i := 1) (v := ?_) 40 rfl (by kernel_rfl) hC (by kernel_rfl) (by kernel_rfl) (by kernel_rfl) (by decide) (fun _ _ _ h => h) (Or.inl ⟨by rfl, ?_⟩) (fun _ => hHeld) ?_
                    rotate_left
                    · intro w hSw
                      have hz := (show w.cell? ⟨s18, 1, none⟩ = some (.int .u32 (j0 : Nat)) from by rw [← hSw]; have := block_range HX5.out 1 _ rfl; simpa using this)
                      clear hSw
                      go_simp
                      try with_reducible rfl
                    try simp only [Act.put, List.getElem_toArray, List.getElem_cons_zero, List.getElem_cons_succ, List.setIfInBounds_toArray, List.set_cons_zero, List.set_cons_succ]
                    clear hC
                    intro hC
                    refine wpAnyD_pure (i := 2) (v := ?_) rfl hC (by kernel_rfl) (by kernel_rfl) (by kernel_rfl) (by decide) (fun _ _ _ h => h) (Or.inl ⟨by rfl, ?_⟩) (fun _ => hHeld) ?_
                    rotate_left
                    · intro w hSw
                      clear hSw
                      go_simp
                      try with_reducible rfl
                    try simp only [Act.put, List.getElem_toArray, List.getElem_cons_zero, List.getElem_cons_succ, List.setIfInBounds_toArray, List.set_cons_zero, List.set_cons_succ]
                    clear hC
                    intro hC
                    refine wpAnyD_pure (i := 3) (v := ?_) rfl hC (by kernel_rfl) (by kernel_rfl) (by kernel_rfl) (by decide) (fun _ _ _ h => h) (Or.inl ⟨by rfl, ?_⟩) (fun _ => hHeld) ?_
                    rotate_left
                    · intro w hSw
                      clear hSw
                      go_simp
                      try with_reducible rfl
                    try simp only [Act.put, List.getElem_toArray, List.getElem_cons_zero, List.getElem_cons_succ, List.setIfInBounds_toArray, List.set_cons_zero, List.set_cons_succ]
                    clear hC
                    intro hC
                    refine wpAnyD_pure (i := 4) (v := ?_) rfl hC (by kernel_rfl) (by kernel_rfl) (by kernel_rfl) (by decide) (fun _ _ _ h => h) (Or.inl ⟨by rfl, ?_⟩) (fun _ => hHeld) ?_
                    rotate_left
                    · intro w hSw
                      clear hSw
                      go_simp
                      try with_reducible rfl
                    try simp only [Act.put, List.getElem_toArray, List.getElem_cons_zero, List.getElem_cons_succ, List.setIfInBounds_toArray, List.set_cons_zero, List.set_cons_succ]
                    clear hC
                    intro hC
                    refine wpAnyD_take (i := 5) (v := ?_) 40 rfl (by kernel_rfl) hC (by kernel_rfl) (by kernel_rfl) (by kernel_rfl) (by decide) (fun _ _ _ h => h) (Or.inl ⟨by rfl, ?_⟩) (fun _ => hHeld) ?_
                    rotate_left
                    · intro w hSw
                      have hz := (show w.cell? ⟨gF, i, none⟩ = some (.int .u32 (i : Nat)) from by rw [← hSw]; exact HFi.out)
                      clear hSw
                      go_simp
                      try with_reducible rfl
                    try simp only [Act.put, List.getElem_toArray, List.getElem_cons_zero, List.getElem_cons_succ, List.setIfInBounds_toArray, List.set_cons_zero, List.set_cons_succ]
                    clear hC
                    intro hC
                    refine wpAnyD_one (i := 6) (by kernel_rfl) rfl hC (fun K hK => ?_)
                    clear hC
                    go_simp
                    refine hK.out _ _ (past (by kernel_rfl)) (fun hC => ?_)
                    clear hK K
                    try simp only [Act.put, List.getElem_toArray, List.getElem_cons_zero, List.getElem_cons_succ, List.setIfInBounds_toArray, List.set_cons_zero, List.set_cons_succ]
                    refine wpAnyD_done (by kernel_rfl) ?_ _
                    try simp only [Act.put, List.getElem_toArray, List.getElem_cons_zero, List.getElem_cons_succ, List.setIfInBounds_toArray, List.set_cons_zero, List.set_cons_succ]
                    clear hHeld hC
                    go_wp2_with (fail)
                    go_roundw
                    case rel =>
                      refine ⟨i + 1, l, by omega, by go_num, HO5.out, ?_, HL5.out⟩
                      rcases HOR.out with h1 | h1
                      · exact .inl ⟨by omega, h1.2⟩
                      · exact .inr ⟨by omega, h1.2⟩
                    case measure => simp [intOf]; omega
                · have hi' : n = i := by omega
                  subst hi'
                  have hlj : l = tookL n T2 := by
                    rcases HOR.out with h1 | h1
                    · omega
                    · exact h1.2
                  subst hlj
                  go_wp2_with (fail)
                  go_roundw
                  case rel => exact ⟨t + 1, V3, q3, T2, by omega, by go_num, QW.only HQ3w.out HO.out (fun k hk => (HAP3.out k hk).2) HTT.out HTW.out, HTI3.out, HL.out, owns_only HU3.out HO.out (fun g hg e => by cases hg; exact HFT.out e), HAP3.out⟩
                  case measure => simp [intOf]; omega
            · have ht' : tn = t := by omega
              subst ht'
              have HBD := Shut.mk (show ∀ i k, i < n → k < n → TT (bF i) - TT (bF k) ≤ 600 + (szF z i : Nat) from fun i k hi hk => by
                have h1 := fair_bound HTI.out.fair ((HTI.out.mem _).2 ⟨i, hi, rfl⟩) ((HTI.out.mem _).2 ⟨k, hk, rfl⟩)
                rw [szB_of (szF z) (show i < 6 by omega)] at h1
                omega)
              have HTO := Shut.mk (show ∀ i, i < n → 0 ≤ TT (bF i) ∧ TT (bF i) ≤ 80000 from fun i hi => by
                have h1 := HTI.out.tot i hi
                exact ⟨h1.1, by omega⟩)
              have HWX := Shut.mk HQ.out.bel
              clear HQ HTI HU HAP
              obtain ⟨ws, hws⟩ : ∃ ws, ws = wr := ⟨_, rfl⟩
              rw [← hws] at HL HWX ⊢
              clear hws
              go_wp2_with (fail)
              go_loopw [22, 23] (fun fi _ wr => ∃ (i : Nat), i ≤ n ∧ fi = .int .i64 i ∧ Below ws.heap.size ws wr) (fun fi _ _ => n - (intOf fi).toNat)
              case atStart => exact ⟨0, Nat.zero_le _, rfl, Below.refl _ _⟩
              case round =>
                obtain ⟨i, hi, rfl, hb⟩ := hrel
                have HB := Shut.mk hb
                clear hb
                by_cases hin : i < n
                · have hin2 : (i : Int) < (n : Int) := by omega
                  go_wp2_with (fail)
                  go_loopw [23] (fun fk wr => ∃ (k : Nat), k ≤ n ∧ fk = .int .i64 k ∧ Below ws.heap.size ws wr) (fun fk _ => n - (intOf fk).toNat)
                  case atStart => exact ⟨0, Nat.zero_le _, rfl, HB.out⟩
                  case round =>
                    clear HB
                    obtain ⟨k, hk, rfl, hb⟩ := hrel
                    have HB := Shut.mk hb
                    clear hb
                    by_cases hkn : k < n
                    · have hkn2 : (k : Int) < (n : Int) := by omega
                      obtain ⟨w5, hw5⟩ : ∃ wq, wq = World.drew wr := ⟨_, rfl⟩
                      have HWw5 := Shut.mk hw5
                      have HDw5 := Shut.mk (show Below wr.heap.size wr w5 by rw [hw5]; exact (Below.refl _ _).drew)
                      clear hw5
                      have HB5 := Shut.mk (HB.out.trans (HDw5.out.mono HB.out.size))
                      have HBX5 := Shut.mk (show w5.cell? ⟨sB, 0, none⟩ = some (.slice a1 len1 cap1) from below_at HB5.out (below_at HWX.out (by have := block_range HBX.out 0 _ rfl; simpa using this)))
                      have HZ5 := Shut.mk ((HZX.out.below HWX.out).below HB5.out)
                      have HLS := Shut.mk ((HB5.out.block _ (lt_blk HL.out)).trans HL.out)
                      obtain ⟨ti, hti⟩ : ∃ ti, ti = TT (bF i) := ⟨_, rfl⟩
                      obtain ⟨tk, htk⟩ : ∃ tk, tk = TT (bF k) := ⟨_, rfl⟩
                      have HTi := Shut.mk (show w5.cell? ⟨gT, i, none⟩ = some (.int .i64 ti) by rw [hti, ← tookL_getD TT hin]; exact rowC_cell HLS.out i (by rw [tookL_len]; exact hin))
                      have HTk := Shut.mk (show w5.cell? ⟨gT, k, none⟩ = some (.int .i64 tk) by rw [htk, ← tookL_getD TT hkn]; exact rowC_cell HLS.out k (by rw [tookL_len]; exact hkn))
                      have hd : ti - tk ≤ 600 + (szF z i : Nat) := by rw [hti, htk]; exact HBD.out i k hin hkn
                      have ha : 0 ≤ ti ∧ ti ≤ 80000 := by rw [hti]; exact HTO.out i hin
                      have hb : 0 ≤ tk ∧ tk ≤ 80000 := by rw [htk]; exact HTO.out k hkn
                      have hs1 := szF_in z i
                      have hs2 := szF_in z k
                      have HWR := Shut.mk (show IntKind.i64.wrap (ti - tk) = ti - tk from IntWalk.i64_in _ ⟨by omega, by omega⟩)
                      have HWR2 := Shut.mk (show IntKind.i64.wrap (600 + (szF z i : Nat)) = 600 + (szF z i : Nat) from IntWalk.i64_in _ ⟨by omega, by omega⟩)
                      have HWR3 := Shut.mk (show IntKind.i64.wrap (600 + (szF z i : Nat) + (szF z k : Nat)) = 600 + (szF z i : Nat) + (szF z k : Nat) from IntWalk.i64_in _ ⟨by omega, by omega⟩)
                      have hng : ¬ 600 + (szF z i : Int) + (szF z k : Int) < ti - tk := by omega
                      have hng2 : ¬ ti - tk > 600 + (szF z i : Int) + (szF z k : Int) := by omega
                      clear ha hb hs1 hs2 hd hti htk
                      go_wp2_with (fail)
                      refine wp_region_D (fun w' => w5 = w') 17 (by kernel_rfl) HWw5.out (fun hHeld hC => ?_)
                      rw [← HWw5.out] at hHeld ⊢
                      refine wpAnyD_pure (i := 0) (v := ?_) rfl hC (by kernel_rfl) (by kernel_rfl) (by kernel_rfl) (by decide) (fun _ _ _ h => h) (Or.inl ⟨by rfl, ?_⟩) (fun _ => hHeld) ?_
                      rotate_left
                      · intro w hSw
                        clear hSw
                        go_simp
                        try with_reducible rfl
                      try simp only [Act.put, List.getElem_toArray, List.getElem_cons_zero, List.getElem_cons_succ, List.setIfInBounds_toArray, List.set_cons_zero, List.set_cons_succ]
                      clear hC
                      intro hC
                      refine wpAnyD_pure (i := 1) (v := ?_) rfl hC (by kernel_rfl) (by kernel_rfl) (by kernel_rfl) (by decide) (fun _ _ _ h => h) (Or.inl ⟨by rfl, ?_⟩) (fun _ => hHeld) ?_
                      rotate_left
                      · intro w hSw
                        clear hSw
                        go_simp
                        try with_reducible rfl
                      try simp only [Act.put, List.getElem_toArray, List.getElem_cons_zero, List.getElem_cons_succ, List.setIfInBounds_toArray, List.set_cons_zero, List.set_cons_succ]
                      clear hC
                      intro hC
                      refine wpAnyD_pure (i := 2) (v := ?_) rfl hC (by kernel_rfl) (by kernel_rfl) (by kernel_rfl) (by decide) (fun _ _ _ h => h) (Or.inl ⟨by rfl, ?_⟩) (fun _ => hHeld) ?_
                      rotate_left
                      · intro w hSw
                        clear hSw
                        go_simp
                        try with_reducible rfl
                      try simp only [Act.put, List.getElem_toArray, List.getElem_cons_zero, List.getElem_cons_succ, List.setIfInBounds_toArray, List.set_cons_zero, List.set_cons_succ]
                      clear hC
                      intro hC
                      refine wpAnyD_take (i := 3) (v := ?_) 40 rfl (by kernel_rfl) hC (by kernel_rfl) (by kernel_rfl) (by kernel_rfl) (by decide) (fun _ _ _ h => h) (Or.inl ⟨by rfl, ?_⟩) (fun _ => hHeld) ?_
                      rotate_left
                      · intro w hSw
                        have hz := (show w.cell? ⟨gT, i, none⟩ = some (.int .i64 ti) from by rw [← hSw]; exact HTi.out)
                        clear hSw
                        go_simp
                        try with_reducible rfl
                      try simp only [Act.put, List.getElem_toArray, List.getElem_cons_zero, List.getElem_cons_succ, List.setIfInBounds_toArray, List.set_cons_zero, List.set_cons_succ]
                      clear hC
                      intro hC
                      refine wpAnyD_pure (i := 4) (v := ?_) rfl hC (by kernel_rfl) (by kernel_rfl) (by kernel_rfl) (by decide) (fun _ _ _ h => h) (Or.inl ⟨by rfl, ?_⟩) (fun _ => hHeld) ?_
                      rotate_left
                      · intro w hSw
                        clear hSw
                        go_simp
                        try with_reducible rfl
                      try simp only [Act.put, List.getElem_toArray, List.getElem_cons_zero, List.getElem_cons_succ, List.setIfInBounds_toArray, List.set_cons_zero, List.set_cons_succ]
                      clear hC
                      intro hC
                      refine wpAnyD_pure (i := 5) (v := ?_) rfl hC (by kernel_rfl) (by kernel_rfl) (by kernel_rfl) (by decide) (fun _ _ _ h => h) (Or.inl ⟨by rfl, ?_⟩) (fun _ => hHeld) ?_
                      rotate_left
                      · intro w hSw
                        clear hSw
                        go_simp
                        try with_reducible rfl
                      try simp only [Act.put, List.getElem_toArray, List.getElem_cons_zero, List.getElem_cons_succ, List.setIfInBounds_toArray, List.set_cons_zero, List.set_cons_succ]
                      clear hC
                      intro hC
                      refine wpAnyD_pure (i := 6) (v := ?_) rfl hC (by kernel_rfl) (by kernel_rfl) (by kernel_rfl) (by decide) (fun _ _ _ h => h) (Or.inl ⟨by rfl, ?_⟩) (fun _ => hHeld) ?_
                      rotate_left
                      · intro w hSw
                        clear hSw
                        go_simp
                        try with_reducible rfl
                      try simp only [Act.put, List.getElem_toArray, List.getElem_cons_zero, List.getElem_cons_succ, List.setIfInBounds_toArray, List.set_cons_zero, List.set_cons_succ]
                      clear hC
                      intro hC
                      refine wpAnyD_take (i := 7) (v := ?_) 40 rfl (by kernel_rfl) hC (by kernel_rfl) (by kernel_rfl) (by kernel_rfl) (by decide) (fun _ _ _ h => h) (Or.inl ⟨by rfl, ?_⟩) (fun _ => hHeld) ?_
                      rotate_left
                      · intro w hSw
                        have hz := (show w.cell? ⟨gT, k, none⟩ = some (.int .i64 tk) from by rw [← hSw]; exact HTk.out)
                        clear hSw
                        go_simp
                        try with_reducible rfl
                      try simp only [Act.put, List.getElem_toArray, List.getElem_cons_zero, List.getElem_cons_succ, List.setIfInBounds_toArray, List.set_cons_zero, List.set_cons_succ]
                      clear hC
                      intro hC
                      refine wpAnyD_pure (i := 8) (v := ?_) rfl hC (by kernel_rfl) (by kernel_rfl) (by kernel_rfl) (by decide) (fun _ _ _ h => h) (Or.inl ⟨by rfl, ?_⟩) (fun _ => hHeld) ?_
                      rotate_left
                      · intro w hSw
                        have hwr := HWR.out
                        clear hSw
                        go_simp
                        try with_reducible rfl
                      try simp only [Act.put, List.getElem_toArray, List.getElem_cons_zero, List.getElem_cons_succ, List.setIfInBounds_toArray, List.set_cons_zero, List.set_cons_succ]
                      clear hC
                      intro hC
                      refine wpAnyD_pure (i := 9) (v := ?_) rfl hC (by kernel_rfl) (by kernel_rfl) (by kernel_rfl) (by decide) (fun _ _ _ h => h) (Or.inl ⟨by rfl, ?_⟩) (fun _ => hHeld) ?_
                      rotate_left
                      · intro w hSw
                        clear hSw
                        go_simp
                        try with_reducible rfl
                      try simp only [Act.put, List.getElem_toArray, List.getElem_cons_zero, List.getElem_cons_succ, List.setIfInBounds_toArray, List.set_cons_zero, List.set_cons_succ]
                      clear hC
                      intro hC
                      refine wpAnyD_pure (i := 10) (v := ?_) rfl hC (by kernel_rfl) (by kernel_rfl) (by kernel_rfl) (by decide) (fun _ _ _ h => h) (Or.inl ⟨by rfl, ?_⟩) (fun _ => hHeld) ?_
                      rotate_left
                      · intro w hSw
                        clear hSw
                        go_simp
                        try with_reducible rfl
                      try simp only [Act.put, List.getElem_toArray, List.getElem_cons_zero, List.getElem_cons_succ, List.setIfInBounds_toArray, List.set_cons_zero, List.set_cons_succ]
                      clear hC
                      intro hC
                      refine wpAnyD_pure (i := 13) (v := ?_) rfl hC (by kernel_rfl) (by kernel_rfl) (by kernel_rfl) (by decide) (fun _ _ _ h => h) (Or.inl ⟨by rfl, ?_⟩) (fun _ => hHeld) ?_
                      rotate_left
                      · intro w hSw
                        clear hSw
                        go_simp
                        try with_reducible rfl
                      try simp only [Act.put, List.getElem_toArray, List.getElem_cons_zero, List.getElem_cons_succ, List.setIfInBounds_toArray, List.set_cons_zero, List.set_cons_succ]
                      clear hC
                      intro hC
                      refine wpAnyD_pure (i := 14) (v := ?_) rfl hC (by kernel_rfl) (by kernel_rfl) (by kernel_rfl) (by decide) (fun _ _ _ h => h) (Or.inl ⟨by rfl, ?_⟩) (fun _ => hHeld) ?_
                      rotate_left
                      · intro w hSw
                        clear hSw
                        go_simp
                        try with_reducible rfl
                      try simp only [Act.put, List.getElem_toArray, List.getElem_cons_zero, List.getElem_cons_succ, List.setIfInBounds_toArray, List.set_cons_zero, List.set_cons_succ]
                      clear hC
                      intro hC
                      refine wpAnyD_one (i := 11) (by kernel_rfl) rfl hC (fun K hK => ?_)
                      clear hC
                      go_simp
                      refine (size_any sB a1 len1 cap1 z i w5 HBX5.out HZ5.out (by omega)).mono ?_
                      rintro e' wn ⟨rfl, rfl⟩
                      have hHeld2 := hHeld
                      clear hHeld
                      have hHeld := hHeld2
                      clear hHeld2
                      refine hK.out _ _ (fun _ => hHeld) (fun hC => ?_)
                      clear hK K
                      try simp only [Act.put, List.getElem_toArray, List.getElem_cons_zero, List.getElem_cons_succ, List.setIfInBounds_toArray, List.set_cons_zero, List.set_cons_succ]
                      refine wpAnyD_pure (i := 12) (v := ?_) rfl hC (by kernel_rfl) (by kernel_rfl) (by kernel_rfl) (by decide) (fun _ _ _ h => h) (Or.inl ⟨by rfl, ?_⟩) (fun _ => hHeld) ?_
                      rotate_left
                      · intro w hSw
                        have hwr := HWR2.out
                        clear hSw
                        go_simp
                        try with_reducible rfl
                      try simp only [Act.put, List.getElem_toArray, List.getElem_cons_zero, List.getElem_cons_succ, List.setIfInBounds_toArray, List.set_cons_zero, List.set_cons_succ]
                      clear hC
                      intro hC
                      refine wpAnyD_one (i := 15) (by kernel_rfl) rfl hC (fun K hK => ?_)
                      clear hC
                      go_simp
                      refine (size_any sB a1 len1 cap1 z k w5 HBX5.out HZ5.out (by omega)).mono ?_
                      rintro e' wn ⟨rfl, rfl⟩
                      have hHeld2 := hHeld
                      clear hHeld
                      have hHeld := hHeld2
                      clear hHeld2
                      refine hK.out _ _ (fun _ => hHeld) (fun hC => ?_)
                      clear hK K
                      try simp only [Act.put, List.getElem_toArray, List.getElem_cons_zero, List.getElem_cons_succ, List.setIfInBounds_toArray, List.set_cons_zero, List.set_cons_succ]
                      refine wpAnyD_pure (i := 16) (v := ?_) rfl hC (by kernel_rfl) (by kernel_rfl) (by kernel_rfl) (by decide) (fun _ _ _ h => h) (Or.inl ⟨by rfl, ?_⟩) (fun _ => hHeld) ?_
                      rotate_left
                      · intro w hSw
                        have hwr := HWR3.out
                        clear hSw
                        go_simp
                        try with_reducible rfl
                      try simp only [Act.put, List.getElem_toArray, List.getElem_cons_zero, List.getElem_cons_succ, List.setIfInBounds_toArray, List.set_cons_zero, List.set_cons_succ]
                      clear hC
                      intro hC
                      refine wpAnyD_one (i := 17) (by kernel_rfl) rfl hC (fun K hK => ?_)
                      clear hC
                      go_simp
                      refine hK.out _ _ (past (by kernel_rfl)) (fun hC => ?_)
                      clear hK K
                      try simp only [Act.put, List.getElem_toArray, List.getElem_cons_zero, List.getElem_cons_succ, List.setIfInBounds_toArray, List.set_cons_zero, List.set_cons_succ]
                      refine wpAnyD_done (by kernel_rfl) ?_ _
                      try simp only [Act.put, List.getElem_toArray, List.getElem_cons_zero, List.getElem_cons_succ, List.setIfInBounds_toArray, List.set_cons_zero, List.set_cons_succ]
                      clear hHeld hC
                      go_wp2_with (fail)
                      go_roundw
                      case rel => exact ⟨k + 1, by omega, by go_num, HB5.out⟩
                      case measure => simp [intOf]; omega
                    · have hk' : n = k := by omega
                      subst hk'
                      go_wp2_with (fail)
                      go_roundw
                      case rel => exact ⟨i + 1, by omega, by go_num, HB.out⟩
                      case measure => simp [intOf]; omega
                · have hi' : n = i := by omega
                  subst hi'
                  go_wp2_with (fail)
                  go_ret
                  exact ⟨rfl, (HAX.out.trans (HWX.out.mono HAX.out.size)).trans (HB.out.mono (Nat.le_trans HAX.out.size HWX.out.size))⟩

/-! ### THE ROW -/
set_option maxRecDepth 100000 in
theorem lifted (os : Os) (started : os.Started) (H : Type) (enc : TypeId × Value → H) :
    ReturnsInHanded {} Try.checked os 5 .any (Rows.fqFairSpec.pre6 enc Try.prog Try.f5 Rows.fqFairRow.domain false) (Rows.fqFairSpec.post enc Try.prog Try.f5 false true false false) := by
  refine returnsInHanded_of_change (C := Try.checked) own started (by kernel_rfl) Try.func5
    (ChangeSpec.witness6 (enc := enc) (C := Try.checked) false ⟨#[], #[.int .i64 0, .slice none 0 0, .int .i64 0], []⟩ 8 (by kernel_rfl) (by kernel_rfl) (by kernel_rfl) (by kernel_rfl)) ?_
  intro W base args ds gs before hval0 hW hcnd _
  have hval : ∀ (j : Nat) t v, Try.f5.params[j]? = some t → args[j]? = some v → Value.okWide Try.prog W .any base t v := hval0
  have hW' := hW
  obtain ⟨p, q, hA0, hV, rfl, hfz, hnd⟩ := hW
  have hA : DataW.TrodAll enc Try.prog W 0 (fun _ => true) true Try.f5.params.toList args.toList ds p := hA0
  rw [Try.params5] at hA hval
  obtain ⟨v0, vs0, d0, ds0, p0, q0', hargs, rfl, rfl, h0, r0⟩ := trodAll_cons hA
  obtain ⟨v1, vs1, d1, ds1, p1, q1', rfl, rfl, rfl, h1, r1⟩ := trodAll_cons r0
  obtain ⟨v2, vs2, d2, ds2, p2, q2', rfl, rfl, rfl, h2, r2⟩ := trodAll_cons r1
  obtain ⟨rfl, rfl, rfl⟩ := trodAll_nil r2
  obtain rfl : args = #[v0, v1, v2] := by cases args; simp_all
  obtain ⟨rfl, rfl⟩ := trodVars_none hV
  have k0 := h0
  have lt0 : ∀ x ∈ p0, x.block < W.heap.size := by obtain ⟨m, hm⟩ := k0; exact DataW.trod_lt m _ _ _ hm
  have k1 := h1
  have lt1 : ∀ x ∈ p1, x.block < W.heap.size := by obtain ⟨m, hm⟩ := k1; exact DataW.trod_lt m _ _ _ hm
  have k2 := h2
  have lt2 : ∀ x ∈ p2, x.block < W.heap.size := by obtain ⟨m, hm⟩ := k2; exact DataW.trod_lt m _ _ _ hm
  obtain ⟨n0, rfl, rfl, rfl, w0⟩ := open_int Try.underlying3 (hval 0 3 v0 rfl rfl) h0
  obtain ⟨a1, len1, cap1, rfl⟩ := okWide_slice Try.underlying50 (hval 1 50 v1 rfl rfl)
  obtain ⟨z1, w1⟩ : ∃ zs, IsRow .i64 W a1 len1 cap1 zs := by
    obtain ⟨fuel, hf⟩ := h1
    rcases open_ints Try.underlying50 Try.underlying3 (by kernel_rfl) hf with ⟨hcs, _⟩ | ⟨x, l, c, zs, hcs, _, hl, hm, hz, _, hcell, hwz⟩
    · simp [Value.cells] at hcs
      obtain ⟨rfl, rfl, rfl⟩ := hcs
      exact ⟨[], .inl ⟨rfl, rfl, rfl, rfl⟩⟩
    · simp [Value.cells] at hcs
      obtain ⟨rfl, rfl, rfl⟩ := hcs
      exact ⟨zs, .inr ⟨_, rfl, hl, hm, by simpa using hz, hcell, hwz⟩⟩
  obtain ⟨n2, rfl, rfl, rfl, w2⟩ := open_int Try.underlying3 (hval 2 3 v2 rfl rfl) h2
  clear hA0 hval0
  refine (walk n0 a1 len1 cap1 z1 n2 W w0 w1 w2).mono fun e W' ⟨he, bel⟩ => ?_
  subst he
  exact ⟨_, rfl, _, _, _, [], _, [], hW', trodAll_mk1 (shut_bool Try.underlying4 _), (trodAll_cons_mk (Below.trod laidOut (by kernel_rfl) (of_decide_eq_true (by kernel_rfl)) k0 bel lt0) (trodAll_cons_mk (Below.trod laidOut (by kernel_rfl) (of_decide_eq_true (by kernel_rfl)) k1 bel lt1) (trodAll_cons_mk (Below.trod laidOut (by kernel_rfl) (of_decide_eq_true (by kernel_rfl)) k2 bel lt2) trodAll_mk0))), rfl, bel.frame _, fun h => by cases h⟩

theorem over : Rows.fqFairRow.holds Try.pinned (OpenSpec.ofChange Rows.fqFairSpec) :=
  OpenClaim.holds_of_wide 5 Try.f5 rfl rfl rfl rfl rfl rfl rfl ⟨rfl, rfl, rfl, rfl, rfl⟩ rfl rfl rfl rfl rfl (by kernel_rfl) Try.func5 (by kernel_rfl)
    (of_decide_eq_true (by kernel_rfl)) (by unfold Func.isWrapper; first | (rw [if_pos (by decide +kernel)]; kernel_rfl) | (rw [if_neg (by decide +kernel)]; exact ⟨rfl, rfl⟩))
    (fun os started H enc _ => lifted os started H enc)
theorem proved : Rows.FqFairSaid := over
#print axioms proved
end Go.Proofs.Ytaibopaagjodoaa.fqFair
