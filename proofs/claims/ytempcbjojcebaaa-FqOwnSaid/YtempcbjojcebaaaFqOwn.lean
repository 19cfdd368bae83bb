/-
  muezzin/muezzinlaw13.FqOwn returns true, for all arguments; no condition.
-/
import Derived.Test.YtempcbjojcebaaaFqOm
import Derived.Test.YtempcbjojcebaaaOpenK
import Derived.WalkKit
import Derived.ProofKit
import Derived.OpenShut
import Derived.ChangeOld
import Derived.Below
namespace Go.Proofs.Ytempcbjojcebaaa.fqOwn
open Go.ChangeShapes Go.WideShapes Go.ChangeAt Go.RowKit
set_option linter.unusedVariables false
set_option linter.unusedSimpArgs false

theorem own : ownKnob Try.prog.godebug = none := by kernel_rfl
theorem laidOut : laidOutB Try.prog = true := by kernel_rfl


/-- what a queue writes is none of the bodies. -/
theorem foot_not {T : Nat → Prop} {w : World} {x : Rq} {V : Nat → Value} {q : Qu} (h : IsCq T w x V q) {k : Nat} (hk : FootC x V k) : ¬ T k := by
  rcases hk with rfl | ⟨j, hj, e⟩
  · exact h.apt
  · exact (h.apart j hj k e).2
/-! ### THE WALK -/
set_option maxRecDepth 100000 in
set_option maxHeartbeats 8000000 in
theorem walk (a0 : Option Addr) (cap0 : Nat) (l0 : List Pk) (n1 : Int) (w : World) (w0 : RowP (fun k => k < w.heap.size) w a0 l0 ∧ l0.length ≤ cap0 ∧ ∀ p ∈ l0, okPk p) (w1 : (Lit.int .i64 n1).wf = true) :
    Calls Try.prog 4 #[.slice a0 l0.length cap0, .int .i64 n1] w fun e w' => e = .returned (.bool true) ∧ Below w.heap.size w w' := by
  obtain ⟨hr2, hc2, hok⟩ := w0
  obtain ⟨n, hn⟩ : ∃ n : Nat, n = l0.length := ⟨_, rfl⟩
  have HN := Shut.mk hn
  have HOK := Shut.mk hok
  have HR := Shut.mk hr2
  have HW1 := Shut.mk w1
  obtain ⟨sd, hsd⟩ := uv_of (v := 9) (by omega) (by omega)
  have HS9 := Shut.mk hsd
  rw [← hn]
  clear w1 hr2 hc2 hok hn hsd
  go_enter Try.func4, Try.ntmps4
  go_wp2_with (fail)
  refine (first_any w).mono ?_
  rintro e wa ⟨rfl, hBa⟩
  have HBa := Shut.mk hBa
  clear hBa
  rcases Nat.lt_or_ge 20 n with hN | hN
  · have hN' : (20 : Int) < (n : Int) := by omega
    go_wp2_with (fail)
    go_ret
    exact ⟨rfl, HBa.out⟩
  have hN1 : ¬ (20 : Int) < (n : Int) := by omega
  have hN2 : ¬ 20 < n := by omega
  go_wp2_with (fail)
  have hnew := new_any (uv sd) 1073741824 1073741824 wa
  rw [HS9.out] at hnew
  refine hnew.mono ?_
  rintro e wb ⟨rfl, hQ, hB⟩
  rw [← HS9.out] at hQ
  have hQW := QW.start (bk := bkQ sd) (w0 := w) (sd := sd) HBa.out hQ hB
  obtain ⟨x, hx⟩ : ∃ x : Rq, x = ⟨wa.heap.size, uv sd, 1073741824, 1073741824⟩ := ⟨_, rfl⟩
  rw [← hx] at hQW
  have HQ1 := Shut.mk hQW
  have HSD := Shut.mk (show x.seed = uv sd by rw [hx])
  have HPT := Shut.mk (show (0 : Int) < clampR x.tg 0 1073741824 by rw [show x.tg = 1073741824 by rw [hx]]; decide)
  rw [show wa.heap.size = x.g by rw [hx]]
  clear hQ hB hQW hx hN1 hN2 hnew HS9
  have HI1 := Shut.mk (show OwI (bkQ sd) ⟨0, clampR x.tg 0 1073741824, clampR x.iv 0 1073741824⟩ l0 0 quZ from ⟨List.Perm.of_eq (by rw [allQ_Z]; rfl), fun b => ⟨rfl, fun p hp => by cases hp⟩⟩)
  go_wp2_with (fail)
  go_loopw [7, 8, 9] (fun fi _ _ wr => ∃ (i : Nat) (T : Nat → Prop) (V : Nat → Value) (q : Qu), i ≤ n ∧ fi = .int .i64 i ∧ QW (bkQ sd) w x T wr V q ∧ OwI (bkQ sd) ⟨0, clampR x.tg 0 1073741824, clampR x.iv 0 1073741824⟩ l0 i q) (fun fi _ _ _ => n - (intOf fi).toNat)
  case atStart => exact ⟨0, _, _, _, Nat.zero_le _, rfl, HQ1.out, HI1.out⟩
  case round =>
    clear HQ1 HI1
    obtain ⟨i, T, V, q, hi, rfl, hq, hoi⟩ := hrel
    have HQ := Shut.mk hq
    have HOI := Shut.mk hoi
    clear hq hoi
    by_cases hin : i < n
    · have hin2 : (i : Int) < (n : Int) := by omega
      obtain ⟨b, off, aa, m, cc, rfl, hrg, hrb, hmc, -⟩ := RowK.el (RowK.below HR.out HQ.out.bel) i (by rw [← HN.out]; exact hin)
      have hpm : l0.getD i pk00.1 ∈ l0 := by
        have e : l0.getD i pk00.1 = l0[i]'(by rw [← HN.out]; exact hin) := by simp [List.getD, show i < l0.length by rw [← HN.out]; exact hin]
        rw [e]; exact List.getElem_mem _
      have hok := HOK.out _ hpm
      have HOIP := Shut.mk (HOI.out.put (bkQ_lt sd) HPT.out)
      obtain ⟨p, hp⟩ : ∃ p, p = l0.getD i pk00.1 := ⟨_, rfl⟩
      rw [← hp] at hrg hrb hok HOIP
      have HRB := Shut.mk hrb
      have HC1 := Shut.mk (show wr.cell? ⟨b, off + i * 5 + 1, none⟩ = some (.int .u32 p.flow) from hrg 1 _ rfl)
      have hc4 : wr.cell? ⟨b, off + i * 5 + 4, none⟩ = some (.slice aa m cc) := hrg 4 _ rfl
      have HFL := Shut.mk (show 0 ≤ p.flow ∧ p.flow ≤ 4294967295 from by have := hok.2.1; simpa [Lit.wf, IntKind.min, IntKind.max, IntKind.signed, IntKind.bits] using this)
      have HLN := Shut.mk (show (q.fl (bkQ sd (owP i p).flow)).pk.length < 1000 by
        have h1 := bucket_le q (b := bkQ sd (owP i p).flow) 16 (bkQ_lt sd _)
        have h2 : (allTo q 16).length = i := by rw [show allTo q 16 = allQ q from rfl, HOI.out.all.length_eq, owN_len]
        omega)
      clear hrg hrb hmc hok hp hpm
      rcases Nat.lt_or_ge 100 m with hm | hm
      · have hm' : (100 : Int) < (m : Int) := by omega
        go_wp2_with (fail)
        go_ret
        exact ⟨rfl, HQ.out.bel⟩
      · have hm' : ¬ (100 : Int) < (m : Int) := by omega
        have HM := Shut.mk hm
        go_wp2_with (fail)
        refine (bytes_any aa m cc p.body wr HRB.out (by omega)).mono ?_
        rintro e w2 ⟨gB, cB, rfl, hO, hB⟩
        have HO := Shut.mk hO
        have HB := Shut.mk hB
        have HQ2 := Shut.mk (HQ.out.quiet hB)
        have HNB := Shut.mk (show ∀ j, FootC x V j ∨ T j → j ≠ gB from fun j hj => by
          have h1 := hO.lt
          rcases hj with hj | hj
          · have := HQ.out.is.lts hj; omega
          · have := HQ.out.is.there j hj; omega)
        have HRB2 := Shut.mk (show RowB .u8 w2 (some ⟨gB, 0, none⟩) m p.body from hO.row fun k hk => HRB.out.wf k hk)
        have hc1 := below_at hB HC1.out
        clear hO hB hc4 hm'
        go_wp2_with (fail)
        refine (qput HQ2.out HSD.out (owP i p) (some ⟨gB, 0, none⟩) m cB HRB2.out (by have := HM.out; omega) HFL.out ⟨Int.le_refl _, by show (0 : Int) ≤ 4503599627370496; omega⟩ HLN.out).mono ?_
        rintro e w3 ⟨rfl, T', V', hQ', hC'⟩
        have HQ3 := Shut.mk hQ'
        have HO3 := Shut.mk (show OwnB w3 wr.heap.size 5 .u8 gB m cB p.body from owns_only HO.out hC'.only fun g hg e => HNB.out g (.inl e) (by simpa [Value.ownBlock] using hg.symm))
        have HNB3 := Shut.mk (show ∀ j, FootC x V' j ∨ T' j → j ≠ gB from fun j hj => by
          have h1 := HO.out.lt
          rcases hj with hj | hj
          · rcases hC'.fresh j hj with h2 | h2
            · exact HNB.out j (.inl h2)
            · omega
          · rcases hC'.ft j hj with h2 | h2
            · exact HNB.out j (.inr h2)
            · omega)
        have HGW := Shut.mk (show w.heap.size ≤ gB from by have h1 := HO.out.lt; have h2 := HQ.out.bel.size; omega)
        clear hQ' hC' HO HRB2 HQ2 HNB hc1
        have HB8 := Shut.mk (show bkQ sd (owP i p).flow < 16 from bkQ_lt sd _)
        generalize bkQ sd (owP i p).flow = bq
        obtain ⟨B0, hB0⟩ : ∃ B0, B0 = wr.heap.size := ⟨_, rfl⟩
        rw [← hB0] at HO3
        clear hB0
        go_wp2_with (fail)
        go_loopw [9] (fun fk wq => ∃ (k : Nat) (ys : List Int), k ≤ m ∧ fk = .int .i64 k ∧ OwnB wq B0 5 .u8 gB m cB ys ∧ Only (· = gB) w3 wq) (fun fk _ => m - (intOf fk).toNat)
        case atStart => exact ⟨0, p.body, by omega, rfl, HO3.out, Only.refl _ _⟩
        case round =>
          clear HO3
          obtain ⟨k, ys, hk, rfl, hO, hon⟩ := hrel
          have HO := Shut.mk hO
          have HON := Shut.mk hon
          clear hO hon
          have hmm := HM.out
          by_cases hkm : k < m
          · have hkm2 : (k : Int) < (m : Int) := by omega
            have hcc := HO.out.cell k hkm
            go_wp2_with (refine wpList_store_only rfl 5 (.tmp 72) (.tmp 71) rfl B0 5 .u8 gB k m cB ys _ _ rfl rfl HO.out hkm sizeU8 rfl ?_; intro w5 HO5 HON5)
            go_roundw
            case rel => exact ⟨k + 1, _, by omega, by go_num, HO5.out, HON.out.trans HON5.out (fun _ _ e => e)⟩
            case measure => simp [intOf]; omega
          · have hk' : m = k := by omega
            have HQ4 := Shut.mk (show QW (bkQ sd) w x T' wr V' (putQ (bkQ sd) q (owP i p)) from QW.only0 HQ3.out HON.out (fun j hj e => HNB3.out j (.inl hj) e) (fun j hj e => HNB3.out j (.inr hj) e) (fun j hj e => by have h1 := HGW.out; have h2 : j = gB := e; omega))
            subst hk'
            go_wp2_with (fail)
            go_roundw
            case rel => exact ⟨i + 1, T', V', _, by omega, by go_num, HQ4.out, HOIP.out⟩
            case measure => simp [intOf]; omega
    · have hi' : n = i := by omega
      subst hi'
      have HLF := Shut.mk HOI.out.left
      clear HOI
      go_wp2_with (fail)
      refine (all_apart_any T wr x V q HQ.out.is HQ.out.few).mono ?_
      rintro e w2 ⟨u, T2, la, rfl, hA, hla, ht2, hB⟩
      have hll : la.length = n := by
        have e0 : (la.map Prod.fst).length = la.length := List.length_map _
        rw [← e0, hla, HLF.out.len]
      have HLL := Shut.mk hll
      have hmem : ∀ j, j < n → la.getD j pk00 ∈ la := fun j hj => by
        have e : la.getD j pk00 = la[j]'(by omega) := by simp [List.getD, show j < la.length by omega]
        rw [e]; exact List.getElem_mem _
      have HLM := Shut.mk (show ∀ j, j < n → ∃ i, i < n ∧ (la.getD j pk00).1 = owP i (l0.getD i pk00.1) from fun j hj => HLF.out.all _ (by rw [← hla]; exact List.mem_map_of_mem (hmem j hj)))
      obtain ⟨A, c, ev, hrs, -⟩ := hA.own.row (d := pk00) (fun p => rfl) (by unfold maxLen; omega)
      subst ev
      have HRS := Shut.mk hrs
      have HOV := Shut.mk (show ∀ j, 0 ≤ j → j < n → OwnV w2 wr.heap.size (la.getD j pk00).2 (la.getD j pk00).1.body from fun j _ hj => hA.ov _ (hmem j hj))
      have HTT := Shut.mk (show ∀ j, j < n → ∀ g, (la.getD j pk00).2.ownBlock = some g → T2 g from fun j hj => hA.tt _ (hmem j hj))
      have HAP := Shut.mk (show ∀ i, i < n → ∀ j, j < n → i < j → ∀ g, (la.getD i pk00).2.ownBlock = some g → (la.getD j pk00).2.ownBlock ≠ some g from fun i hi j hj hij => by
        have h1 := List.pairwise_iff_getElem.1 hA.ap i j (by omega) (by omega) hij
        simpa [List.getD, show i < la.length by omega, show j < la.length by omega] using h1)
      have HAO := Shut.mk (show ∀ p, A = some p → ¬ T2 p.block from fun p hp => by
        by_cases h0 : 0 < n
        · obtain ⟨b, off, e, -⟩ := hrs.el 0 (by omega)
          rw [hp] at e
          cases e
          rcases hA.own.1.2 with ⟨h1, -⟩ | ⟨g, cap, cur, h1, -⟩
          · rw [hp] at h1; cases h1
          · rw [hp] at h1
            simp only [Value.slice.injEq, Option.some.injEq, Addr.mk.injEq] at h1
            obtain ⟨⟨rfl, rfl, -⟩, -, -⟩ := h1
            exact hA.out _ (by rw [hp]; rfl)
        · rcases hA.own.1.2 with ⟨h1, -⟩ | ⟨g, cap, cur, h1, -⟩
          · rw [hp] at h1; cases h1
          · simp only [Value.slice.injEq] at h1
            rw [hp] at h1
            simp only [Option.some.injEq] at h1
            obtain ⟨rfl, -, -⟩ := h1
            exact hA.out _ (by rw [hp]; rfl))
      have HT2 := Shut.mk (show ∀ k, T2 k → wr.heap.size ≤ k from fun k hk => (ht2 k hk).1)
      have HFB := Shut.mk (show ∀ j, FootC x V j ∨ T j → j < wr.heap.size from fun j hj => by
        rcases hj with hj | hj
        · exact HQ.out.is.lts hj
        · exact HQ.out.is.there j hj)
      have HQ2 := Shut.mk (HQ.out.quiet hB)
      have HWB := Shut.mk (show w.heap.size ≤ wr.heap.size from HQ.out.bel.size)
      obtain ⟨B0, hB0⟩ : ∃ B0, B0 = wr.heap.size := ⟨_, rfl⟩
      rw [← hB0] at HOV HT2 HFB HWB
      rw [hll] at HRS ⊢
      clear hA hla ht2 hB hll hmem hrs hB0 HQ
      go_wp2_with (fail)
      go_loopw [11, 12] (fun fi _ wr => ∃ (i : Nat), i ≤ n ∧ fi = .int .i64 i ∧ Only T2 w2 wr ∧ ∀ j, i ≤ j → j < n → OwnV wr B0 (la.getD j pk00).2 (la.getD j pk00).1.body) (fun fi _ _ => n - (intOf fi).toNat)
      case atStart => exact ⟨0, Nat.zero_le _, rfl, Only.refl _ _, HOV.out⟩
      case round =>
        clear HOV
        obtain ⟨i, hi, rfl, hon, hov⟩ := hrel
        have HON := Shut.mk hon
        have HOV := Shut.mk hov
        have HQr := Shut.mk (QW.only0 HQ2.out hon (fun j hj e => by have h1 := HFB.out j (.inl hj); have h2 := HT2.out j e; omega) (fun j hj e => by have h1 := HFB.out j (.inr hj); have h2 := HT2.out j e; omega) (fun j hj e => by have h1 := HWB.out; have h2 := HT2.out j e; omega))
        clear hon hov
        by_cases hin : i < n
        · have hin2 : (i : Int) < (n : Int) := by omega
          obtain ⟨b1, off1, rfl, hrg⟩ := (HRS.out.only HON.out HAO.out).el i hin
          obtain ⟨id, hid, hpe⟩ := HLM.out i hin
          have hovi := HOV.out i (Nat.le_refl _) hin
          obtain ⟨a1, c1, hy, -⟩ := owns_form hovi
          have htt := HTT.out i hin
          have hap := HAP.out i hin
          obtain ⟨P0, hP0⟩ : ∃ P0, P0 = la.getD i pk00 := ⟨_, rfl⟩
          rw [← hP0] at hrg hpe hovi hy htt hap
          clear hP0
          obtain ⟨pp, y⟩ := P0
          dsimp only at hpe hy hovi htt hap
          subst hy
          subst hpe
          obtain ⟨b4, off4, a4, m4, c4, rfl, hrg4, hrb4, hmc4, -⟩ := RowK.el (RowK.below HR.out HQr.out.bel) id (by rw [← HN.out]; exact hid)
          have hC0 : wr.cell? ⟨b1, off1 + i * 5, none⟩ = some (.int .i64 (id : Nat)) := hrg 0 _ rfl
          have hC4 : wr.cell? ⟨b1, off1 + i * 5 + 4, none⟩ = some (.slice a1 (owP id (l0.getD id pk00.1)).body.length c1) := hrg 4 _ rfl
          have hb1 : ¬ T2 b1 := HAO.out _ rfl
          have hD4 : wr.cell? ⟨b4, off4 + id * 5 + 4, none⟩ = some (.slice a4 m4 c4) := hrg4 4 _ rfl
          obtain ⟨pb, hpb⟩ : ∃ pb, pb = (l0.getD id pk00.1).body := ⟨_, rfl⟩
          have hpb2 : (owP id (l0.getD id pk00.1)).body = pb := hpb.symm
          rw [hpb2] at hovi htt hap hC4
          rw [← hpb] at hrb4
          obtain ⟨m, hm⟩ : ∃ m, m = pb.length := ⟨_, rfl⟩
          rw [← hm] at htt hap hC4
          have hmm : m = m4 := by rw [hm]; exact hrb4.len
          have hmx : m ≤ maxLen := by rw [hmm]; exact hrb4.le
          have hov2 : OwnV wr B0 (.slice a1 m c1) pb := by rw [hm]; exact hovi
          obtain ⟨a', m', c', e1, hrb1, -⟩ := OwnV.el (T := fun _ => True) hov2 (by rw [← hm]; exact hmx) (fun j hj => hrb4.wf j (by rw [← hmm, hm]; exact hj)) (fun _ _ => trivial)
          cases e1
          have HC0 := Shut.mk hC0
          have HC4 := Shut.mk hC4
          have HD4 := Shut.mk hD4
          have HRB1 := Shut.mk hrb1
          have HRB4 := Shut.mk hrb4
          have HOVI := Shut.mk hov2
          have HTI := Shut.mk htt
          have HAI := Shut.mk hap
          have HB1 := Shut.mk hb1
          have HPM := Shut.mk hm
          have HMX := Shut.mk hmx
          have HSB := Shut.mk (show sameB pb pb = true by simp [sameB])
          have hid2 : (id : Int) < (n : Int) := by omega
          have hid3 : ¬ (n : Int) ≤ (id : Int) := by omega
          have hid4 : ¬ (id : Int) < 0 := by omega
          have hid5 : decide ((n : Int) ≤ (id : Int)) = false := by simp; omega
          have hid6 : decide (n ≤ id) = false := by simp; omega
          have hid7 : decide ((id : Int) < 0) = false := by simp
          clear hrg hovi hrg4 hC0 hC4 hD4 hb1 hpb hpb2 hov2 hrb1 hrb4 htt hap hmm hm hmx hmc4
          obtain ⟨w5, hw5⟩ : ∃ wq, wq = World.drew wr := ⟨_, rfl⟩
          have HWw5 := Shut.mk hw5
          have HDw5 := Shut.mk (show Below wr.heap.size wr w5 by rw [hw5]; exact (Below.refl _ _).drew)
          clear hw5
          have HRB1w := Shut.mk (HRB1.out.below HDw5.out)
          have HRB4w := Shut.mk (HRB4.out.below HDw5.out)
          go_wp2_with (fail)
          refine wp_region_D (fun w' => Below w5.heap.size w5 w') 33 (by kernel_rfl) (show Below w5.heap.size w5 (World.drew wr) by rw [HWw5.out]; exact Below.refl _ _) (fun hHeld hC => ?_)
          rw [← HWw5.out] at hHeld ⊢
          refine wpAnyD_pure (i := 0) (v := ?_) rfl hC (by kernel_rfl) (by kernel_rfl) (by kernel_rfl) (by decide) (fun _ _ _ h => h) (Or.inl ⟨by rfl, ?_⟩) (fun _ => hHeld) ?_
          rotate_left
          · intro w hSw
            clear hSw
            go_simp
            try with_reducible rfl
          try simp only [Act.put, List.getElem_toArray, List.getElem_cons_zero, List.getElem_cons_succ, List.setIfInBounds_toArray, List.set_cons_zero, List.set_cons_succ]
          clear hC
          intro hC
          refine wpAnyD_pure (i := 1) (v := ?_) rfl hC (by kernel_rfl) (by kernel_rfl) (by kernel_rfl) (by decide) (fun _ _ _ h => h) (Or.inl ⟨by rfl, ?_⟩) (fun _ => hHeld) ?_
          rotate_left
          · intro w hSw
            clear hSw
            go_simp
            try with_reducible rfl
          try simp only [Act.put, List.getElem_toArray, List.getElem_cons_zero, List.getElem_cons_succ, List.setIfInBounds_toArray, List.set_cons_zero, List.set_cons_succ]
          clear hC
          intro hC
          refine wpAnyD_pure (i := 2) (v := ?_) rfl hC (by kernel_rfl) (by kernel_rfl) (by kernel_rfl) (by decide) (fun _ _ _ h => h) (Or.inl ⟨by rfl, ?_⟩) (fun _ => hHeld) ?_
          rotate_left
          · intro w hSw
            clear hSw
            go_simp
            try with_reducible rfl
          try simp only [Act.put, List.getElem_toArray, List.getElem_cons_zero, List.getElem_cons_succ, List.setIfInBounds_toArray, List.set_cons_zero, List.set_cons_succ]
          clear hC
          intro hC
          refine wpAnyD_pure (i := 3) (v := ?_) rfl hC (by kernel_rfl) (by kernel_rfl) (by kernel_rfl) (by decide) (fun _ _ _ h => h) (Or.inl ⟨by rfl, ?_⟩) (fun _ => hHeld) ?_
          rotate_left
          · intro w hSw
            clear hSw
            go_simp
            try with_reducible rfl
          try simp only [Act.put, List.getElem_toArray, List.getElem_cons_zero, List.getElem_cons_succ, List.setIfInBounds_toArray, List.set_cons_zero, List.set_cons_succ]
          clear hC
          intro hC
          refine wpAnyD_take (i := 4) (v := ?_) 40 rfl (by kernel_rfl) hC (by kernel_rfl) (by kernel_rfl) (by kernel_rfl) (by decide) (fun _ _ _ h => h) (Or.inl ⟨by rfl, ?_⟩) (fun _ => hHeld) ?_
          rotate_left
          · intro w hSw
            have hz := (show w.cell? ⟨b1, off1 + i * 5, none⟩ = some (.int .i64 (id : Nat)) from below_at hSw (below_at HDw5.out HC0.out))
            clear hSw
            go_simp
            try with_reducible rfl
          try simp only [Act.put, List.getElem_toArray, List.getElem_cons_zero, List.getElem_cons_succ, List.setIfInBounds_toArray, List.set_cons_zero, List.set_cons_succ]
          clear hC
          intro hC
          refine wpAnyD_pure (i := 5) (v := ?_) rfl hC (by kernel_rfl) (by kernel_rfl) (by kernel_rfl) (by decide) (fun _ _ _ h => h) (Or.inl ⟨by rfl, ?_⟩) (fun _ => hHeld) ?_
          rotate_left
          · intro w hSw
            clear hSw
            go_simp
            try with_reducible rfl
          try simp only [Act.put, List.getElem_toArray, List.getElem_cons_zero, List.getElem_cons_succ, List.setIfInBounds_toArray, List.set_cons_zero, List.set_cons_succ]
          clear hC
          intro hC
          refine wpAnyD_pure (i := 6) (v := ?_) rfl hC (by kernel_rfl) (by kernel_rfl) (by kernel_rfl) (by decide) (fun _ _ _ h => h) (Or.inl ⟨by rfl, ?_⟩) (fun _ => hHeld) ?_
          rotate_left
          · intro w hSw
            clear hSw
            go_simp
            try with_reducible rfl
          try simp only [Act.put, List.getElem_toArray, List.getElem_cons_zero, List.getElem_cons_succ, List.setIfInBounds_toArray, List.set_cons_zero, List.set_cons_succ]
          clear hC
          intro hC
          refine wpAnyD_pure (i := 7) (v := ?_) rfl hC (by kernel_rfl) (by kernel_rfl) (by kernel_rfl) (by decide) (fun _ _ _ h => h) (Or.inl ⟨by rfl, ?_⟩) (fun _ => hHeld) ?_
          rotate_left
          · intro w hSw
            clear hSw
            go_simp
            try with_reducible rfl
          try simp only [Act.put, List.getElem_toArray, List.getElem_cons_zero, List.getElem_cons_succ, List.setIfInBounds_toArray, List.set_cons_zero, List.set_cons_succ]
          clear hC
          intro hC
          refine wpAnyD_pure (i := 8) (v := ?_) rfl hC (by kernel_rfl) (by kernel_rfl) (by kernel_rfl) (by decide) (fun _ _ _ h => h) (Or.inl ⟨by rfl, ?_⟩) (fun _ => hHeld) ?_
          rotate_left
          · intro w hSw
            clear hSw
            go_simp
            try with_reducible rfl
          try simp only [Act.put, List.getElem_toArray, List.getElem_cons_zero, List.getElem_cons_succ, List.setIfInBounds_toArray, List.set_cons_zero, List.set_cons_succ]
          clear hC
          intro hC
          refine wpAnyD_pure (i := 9) (v := ?_) rfl hC (by kernel_rfl) (by kernel_rfl) (by kernel_rfl) (by decide) (fun _ _ _ h => h) (Or.inl ⟨by rfl, ?_⟩) (fun _ => hHeld) ?_
          rotate_left
          · intro w hSw
            clear hSw
            go_simp
            try with_reducible rfl
          try simp only [Act.put, List.getElem_toArray, List.getElem_cons_zero, List.getElem_cons_succ, List.setIfInBounds_toArray, List.set_cons_zero, List.set_cons_succ]
          clear hC
          intro hC
          refine wpAnyD_pure (i := 10) (v := ?_) rfl hC (by kernel_rfl) (by kernel_rfl) (by kernel_rfl) (by decide) (fun _ _ _ h => h) (Or.inl ⟨by rfl, ?_⟩) (fun _ => hHeld) ?_
          rotate_left
          · intro w hSw
            clear hSw
            go_simp
            try with_reducible rfl
          try simp only [Act.put, List.getElem_toArray, List.getElem_cons_zero, List.getElem_cons_succ, List.setIfInBounds_toArray, List.set_cons_zero, List.set_cons_succ]
          clear hC
          intro hC
          refine wpAnyD_take (i := 11) (v := ?_) 40 rfl (by kernel_rfl) hC (by kernel_rfl) (by kernel_rfl) (by kernel_rfl) (by decide) (fun _ _ _ h => h) (Or.inl ⟨by rfl, ?_⟩) (fun _ => hHeld) ?_
          rotate_left
          · intro w hSw
            have hz := (show w.cell? ⟨b1, off1 + i * 5, none⟩ = some (.int .i64 (id : Nat)) from below_at hSw (below_at HDw5.out HC0.out))
            clear hSw
            go_simp
            try with_reducible rfl
          try simp only [Act.put, List.getElem_toArray, List.getElem_cons_zero, List.getElem_cons_succ, List.setIfInBounds_toArray, List.set_cons_zero, List.set_cons_succ]
          clear hC
          intro hC
          refine wpAnyD_pure (i := 12) (v := ?_) rfl hC (by kernel_rfl) (by kernel_rfl) (by kernel_rfl) (by decide) (fun _ _ _ h => h) (Or.inl ⟨by rfl, ?_⟩) (fun _ => hHeld) ?_
          rotate_left
          · intro w hSw
            clear hSw
            go_simp
            try with_reducible rfl
          try simp only [Act.put, List.getElem_toArray, List.getElem_cons_zero, List.getElem_cons_succ, List.setIfInBounds_toArray, List.set_cons_zero, List.set_cons_succ]
          clear hC
          intro hC
          refine wpAnyD_pure (i := 13) (v := ?_) rfl hC (by kernel_rfl) (by kernel_rfl) (by kernel_rfl) (by decide) (fun _ _ _ h => h) (Or.inl ⟨by rfl, ?_⟩) (fun _ => hHeld) ?_
          rotate_left
          · intro w hSw
            clear hSw
            go_simp
            try with_reducible rfl
          try simp only [Act.put, List.getElem_toArray, List.getElem_cons_zero, List.getElem_cons_succ, List.setIfInBounds_toArray, List.set_cons_zero, List.set_cons_succ]
          clear hC
          intro hC
          refine wpAnyD_pure (i := 14) (v := ?_) rfl hC (by kernel_rfl) (by kernel_rfl) (by kernel_rfl) (by decide) (fun _ _ _ h => h) (Or.inl ⟨by rfl, ?_⟩) (fun _ => hHeld) ?_
          rotate_left
          · intro w hSw
            clear hSw
            go_simp
            try with_reducible rfl
          try simp only [Act.put, List.getElem_toArray, List.getElem_cons_zero, List.getElem_cons_succ, List.setIfInBounds_toArray, List.set_cons_zero, List.set_cons_succ]
          clear hC
          intro hC
          refine wpAnyD_pure (i := 15) (v := ?_) rfl hC (by kernel_rfl) (by kernel_rfl) (by kernel_rfl) (by decide) (fun _ _ _ h => h) (Or.inl ⟨by rfl, ?_⟩) (fun _ => hHeld) ?_
          rotate_left
          · intro w hSw
            clear hSw
            go_simp
            try with_reducible rfl
          try simp only [Act.put, List.getElem_toArray, List.getElem_cons_zero, List.getElem_cons_succ, List.setIfInBounds_toArray, List.set_cons_zero, List.set_cons_succ]
          clear hC
          intro hC
          refine wpAnyD_pure (i := 16) (v := ?_) rfl hC (by kernel_rfl) (by kernel_rfl) (by kernel_rfl) (by decide) (fun _ _ _ h => h) (Or.inl ⟨by rfl, ?_⟩) (fun _ => hHeld) ?_
          rotate_left
          · intro w hSw
            clear hSw
            go_simp
            try with_reducible rfl
          try simp only [Act.put, List.getElem_toArray, List.getElem_cons_zero, List.getElem_cons_succ, List.setIfInBounds_toArray, List.set_cons_zero, List.set_cons_succ]
          clear hC
          intro hC
          refine wpAnyD_pure (i := 17) (v := ?_) rfl hC (by kernel_rfl) (by kernel_rfl) (by kernel_rfl) (by decide) (fun _ _ _ h => h) (Or.inl ⟨by rfl, ?_⟩) (fun _ => hHeld) ?_
          rotate_left
          · intro w hSw
            clear hSw
            go_simp
            try with_reducible rfl
          try simp only [Act.put, List.getElem_toArray, List.getElem_cons_zero, List.getElem_cons_succ, List.setIfInBounds_toArray, List.set_cons_zero, List.set_cons_succ]
          clear hC
          intro hC
          refine wpAnyD_pure (i := 18) (v := ?_) rfl hC (by kernel_rfl) (by kernel_rfl) (by kernel_rfl) (by decide) (fun _ _ _ h => h) (Or.inl ⟨by rfl, ?_⟩) (fun _ => hHeld) ?_
          rotate_left
          · intro w hSw
            clear hSw
            go_simp
            try with_reducible rfl
          try simp only [Act.put, List.getElem_toArray, List.getElem_cons_zero, List.getElem_cons_succ, List.setIfInBounds_toArray, List.set_cons_zero, List.set_cons_succ]
          clear hC
          intro hC
          refine wpAnyD_pure (i := 19) (v := ?_) rfl hC (by kernel_rfl) (by kernel_rfl) (by kernel_rfl) (by decide) (fun _ _ _ h => h) (Or.inl ⟨by rfl, ?_⟩) (fun _ => hHeld) ?_
          rotate_left
          · intro w hSw
            clear hSw
            go_simp
            try with_reducible rfl
          try simp only [Act.put, List.getElem_toArray, List.getElem_cons_zero, List.getElem_cons_succ, List.setIfInBounds_toArray, List.set_cons_zero, List.set_cons_succ]
          clear hC
          intro hC
          refine wpAnyD_pure (i := 20) (v := ?_) rfl hC (by kernel_rfl) (by kernel_rfl) (by kernel_rfl) (by decide) (fun _ _ _ h => h) (Or.inl ⟨by rfl, ?_⟩) (fun _ => hHeld) ?_
          rotate_left
          · intro w hSw
            clear hSw
            go_simp
            try with_reducible rfl
          try simp only [Act.put, List.getElem_toArray, List.getElem_cons_zero, List.getElem_cons_succ, List.setIfInBounds_toArray, List.set_cons_zero, List.set_cons_succ]
          clear hC
          intro hC
          refine wpAnyD_take (i := 21) (v := ?_) 40 rfl (by kernel_rfl) hC (by kernel_rfl) (by kernel_rfl) (by kernel_rfl) (by decide) (fun _ _ _ h => h) (Or.inl ⟨by rfl, ?_⟩) (fun _ => hHeld) ?_
          rotate_left
          · intro w hSw
            have hz := (show w.cell? ⟨b1, off1 + i * 5 + 4, none⟩ = some (.slice a1 m c1) from below_at hSw (below_at HDw5.out HC4.out))
            clear hSw
            go_simp
            try with_reducible rfl
          try simp only [Act.put, List.getElem_toArray, List.getElem_cons_zero, List.getElem_cons_succ, List.setIfInBounds_toArray, List.set_cons_zero, List.set_cons_succ]
          clear hC
          intro hC
          refine wpAnyD_pure (i := 22) (v := ?_) rfl hC (by kernel_rfl) (by kernel_rfl) (by kernel_rfl) (by decide) (fun _ _ _ h => h) (Or.inl ⟨by rfl, ?_⟩) (fun _ => hHeld) ?_
          rotate_left
          · intro w hSw
            clear hSw
            go_simp
            try with_reducible rfl
          try simp only [Act.put, List.getElem_toArray, List.getElem_cons_zero, List.getElem_cons_succ, List.setIfInBounds_toArray, List.set_cons_zero, List.set_cons_succ]
          clear hC
          intro hC
          refine wpAnyD_pure (i := 23) (v := ?_) rfl hC (by kernel_rfl) (by kernel_rfl) (by kernel_rfl) (by decide) (fun _ _ _ h => h) (Or.inl ⟨by rfl, ?_⟩) (fun _ => hHeld) ?_
          rotate_left
          · intro w hSw
            clear hSw
            go_simp
            try with_reducible rfl
          try simp only [Act.put, List.getElem_toArray, List.getElem_cons_zero, List.getElem_cons_succ, List.setIfInBounds_toArray, List.set_cons_zero, List.set_cons_succ]
          clear hC
          intro hC
          refine wpAnyD_pure (i := 24) (v := ?_) rfl hC (by kernel_rfl) (by kernel_rfl) (by kernel_rfl) (by decide) (fun _ _ _ h => h) (Or.inl ⟨by rfl, ?_⟩) (fun _ => hHeld) ?_
          rotate_left
          · intro w hSw
            clear hSw
            go_simp
            try with_reducible rfl
          try simp only [Act.put, List.getElem_toArray, List.getElem_cons_zero, List.getElem_cons_succ, List.setIfInBounds_toArray, List.set_cons_zero, List.set_cons_succ]
          clear hC
          intro hC
          refine wpAnyD_pure (i := 25) (v := ?_) rfl hC (by kernel_rfl) (by kernel_rfl) (by kernel_rfl) (by decide) (fun _ _ _ h => h) (Or.inl ⟨by rfl, ?_⟩) (fun _ => hHeld) ?_
          rotate_left
          · intro w hSw
            clear hSw
            go_simp
            try with_reducible rfl
          try simp only [Act.put, List.getElem_toArray, List.getElem_cons_zero, List.getElem_cons_succ, List.setIfInBounds_toArray, List.set_cons_zero, List.set_cons_succ]
          clear hC
          intro hC
          refine wpAnyD_pure (i := 26) (v := ?_) rfl hC (by kernel_rfl) (by kernel_rfl) (by kernel_rfl) (by decide) (fun _ _ _ h => h) (Or.inl ⟨by rfl, ?_⟩) (fun _ => hHeld) ?_
          rotate_left
          · intro w hSw
            clear hSw
            go_simp
            try with_reducible rfl
          try simp only [Act.put, List.getElem_toArray, List.getElem_cons_zero, List.getElem_cons_succ, List.setIfInBounds_toArray, List.set_cons_zero, List.set_cons_succ]
          clear hC
          intro hC
          refine wpAnyD_take (i := 27) (v := ?_) 40 rfl (by kernel_rfl) hC (by kernel_rfl) (by kernel_rfl) (by kernel_rfl) (by decide) (fun _ _ _ h => h) (Or.inl ⟨by rfl, ?_⟩) (fun _ => hHeld) ?_
          rotate_left
          · intro w hSw
            have hz := (show w.cell? ⟨b1, off1 + i * 5, none⟩ = some (.int .i64 (id : Nat)) from below_at hSw (below_at HDw5.out HC0.out))
            clear hSw
            go_simp
            try with_reducible rfl
          try simp only [Act.put, List.getElem_toArray, List.getElem_cons_zero, List.getElem_cons_succ, List.setIfInBounds_toArray, List.set_cons_zero, List.set_cons_succ]
          clear hC
          intro hC
          refine wpAnyD_pure (i := 28) (v := ?_) rfl hC (by kernel_rfl) (by kernel_rfl) (by kernel_rfl) (by decide) (fun _ _ _ h => h) (Or.inl ⟨by rfl, ?_⟩) (fun _ => hHeld) ?_
          rotate_left
          · intro w hSw
            clear hSw
            go_simp
            try with_reducible rfl
          try simp only [Act.put, List.getElem_toArray, List.getElem_cons_zero, List.getElem_cons_succ, List.setIfInBounds_toArray, List.set_cons_zero, List.set_cons_succ]
          clear hC
          intro hC
          refine wpAnyD_pure (i := 29) (v := ?_) rfl hC (by kernel_rfl) (by kernel_rfl) (by kernel_rfl) (by decide) (fun _ _ _ h => h) (Or.inl ⟨by rfl, ?_⟩) (fun _ => hHeld) ?_
          rotate_left
          · intro w hSw
            clear hSw
            go_simp
            try with_reducible rfl
          try simp only [Act.put, List.getElem_toArray, List.getElem_cons_zero, List.getElem_cons_succ, List.setIfInBounds_toArray, List.set_cons_zero, List.set_cons_succ]
          clear hC
          intro hC
          refine wpAnyD_take (i := 30) (v := ?_) 40 rfl (by kernel_rfl) hC (by kernel_rfl) (by kernel_rfl) (by kernel_rfl) (by decide) (fun _ _ _ h => h) (Or.inl ⟨by rfl, ?_⟩) (fun _ => hHeld) ?_
          rotate_left
          · intro w hSw
            have hz := (show w.cell? ⟨b4, off4 + id * 5 + 4, none⟩ = some (.slice a4 m4 c4) from below_at hSw (below_at HDw5.out HD4.out))
            clear hSw
            go_simp
            try with_reducible rfl
          try simp only [Act.put, List.getElem_toArray, List.getElem_cons_zero, List.getElem_cons_succ, List.setIfInBounds_toArray, List.set_cons_zero, List.set_cons_succ]
          clear hC
          intro hC
          refine wpAnyD_one (i := 31) (by kernel_rfl) rfl hC (fun K hK => ?_)
          clear hC
          go_simp
          refine (same_any a1 a4 m c1 m4 c4 pb pb w5 (HRB1w.out.below hHeld) (HRB4w.out.below hHeld)).mono ?_
          rintro e' wv1 ⟨rfl, kd, hkd⟩
          rw [HSB.out]
          have HKD := Shut.mk (show Below w5.heap.size w5 wv1 by rw [hkd]; exact below_drewN (Below.refl _ _) _)
          clear hkd
          have hHeld2 := hHeld.trans (HKD.out.mono hHeld.size)
          clear hHeld
          have hHeld := hHeld2
          clear hHeld2
          refine hK.out _ _ (fun _ => hHeld) (fun hC => ?_)
          clear hK K
          try simp only [Act.put, List.getElem_toArray, List.getElem_cons_zero, List.getElem_cons_succ, List.setIfInBounds_toArray, List.set_cons_zero, List.set_cons_succ]
          refine wpAnyD_pure (i := 32) (v := ?_) rfl hC (by kernel_rfl) (by kernel_rfl) (by kernel_rfl) (by decide) (fun _ _ _ h => h) (Or.inl ⟨by rfl, ?_⟩) (fun _ => hHeld) ?_
          rotate_left
          · intro w hSw
            clear hSw
            go_simp
            try with_reducible rfl
          try simp only [Act.put, List.getElem_toArray, List.getElem_cons_zero, List.getElem_cons_succ, List.setIfInBounds_toArray, List.set_cons_zero, List.set_cons_succ]
          clear hC
          intro hC
          refine wpAnyD_one (i := 33) (by kernel_rfl) rfl hC (fun K hK => ?_)
          clear hC
          go_simp
          refine hK.out _ _ (past (by kernel_rfl)) (fun hC => ?_)
          clear hK K
          try simp only [Act.put, List.getElem_toArray, List.getElem_cons_zero, List.getElem_cons_succ, List.setIfInBounds_toArray, List.set_cons_zero, List.set_cons_succ]
          refine wpAnyD_done (by kernel_rfl) ?_ _
          try simp only [Act.put, List.getElem_toArray, List.getElem_cons_zero, List.getElem_cons_succ, List.setIfInBounds_toArray, List.set_cons_zero, List.set_cons_succ]
          have HBV := Shut.mk (HDw5.out.trans (hHeld.mono HDw5.out.size))
          clear hHeld hC
          obtain ⟨wv, hwv⟩ : ∃ wv, wv = wv1 := ⟨_, rfl⟩
          rw [← hwv] at HBV ⊢
          clear hwv HRB1w HRB4w
          have HOW := Shut.mk (show wv.ownsRow B0 5 1 (.slice a1 m c1) m (pb.map (Value.int .u8)) by
            have h1 := owns_below HOVI.out HBV.out
            rw [← HPM.out] at h1
            exact h1)
          have HOJ := Shut.mk (show ∀ j, i + 1 ≤ j → j < n → OwnV wv B0 (la.getD j pk00).2 (la.getD j pk00).1.body from fun j hj hjn => owns_below (HOV.out j (by omega) hjn) HBV.out)
          have HONV := Shut.mk (HON.out.then_quiet HBV.out)
          have HC4v := Shut.mk (below_at HBV.out HC4.out)
          have HM100 := Shut.mk (show m ≤ maxLen from HMX.out)
          clear HOV HQr HON HC0 HC4 HD4 HRB1 HRB4 HOVI HDw5 HWw5 hid2 hid3 hid4 hid5 hid6 hid7
          have hc4v := HC4v.out
          go_wp2_with (fail)
          go_loopw [12] (fun fk wq => ∃ (k : Nat) (ys : List Int), k ≤ m ∧ fk = .int .i64 k ∧ wq.ownsRow B0 5 1 (.slice a1 m c1) m (ys.map (Value.int .u8)) ∧ Only T2 w2 wq ∧ wq.cell? ⟨b1, off1 + i * 5 + 4, none⟩ = some (.slice a1 m c1) ∧ (∀ j, i + 1 ≤ j → j < n → OwnV wq B0 (la.getD j pk00).2 (la.getD j pk00).1.body)) (fun fk _ => m - (intOf fk).toNat)
          case atStart => exact ⟨0, pb, Nat.zero_le _, rfl, HOW.out, HONV.out, HC4v.out, HOJ.out⟩
          case round =>
            clear HOW HOJ HONV HC4v hc4v
            obtain ⟨k, ys, hk, rfl, how, hon, hc4v, hoj⟩ := hrel
            have HOW := Shut.mk how
            have HONV := Shut.mk hon
            have HOJ := Shut.mk hoj
            have HC4w := Shut.mk hc4v
            clear how hon hoj
            by_cases hkm : k < m
            · have hkm2 : (k : Int) < (m : Int) := by omega
              have hkl : (k : Int) < 9223372036854775807 := by have h1 := HM100.out; unfold maxLen at h1; omega
              obtain ⟨g, hg⟩ : ∃ g, a1 = some ⟨g, 0, none⟩ := by
                rcases HOW.out.2 with ⟨h1, h2⟩ | ⟨g, cap, cur, h1, -⟩
                · omega
                · simp only [Value.slice.injEq] at h1
                  exact ⟨g, h1.1⟩
              subst hg
              have hO : OwnB wr B0 5 .u8 g m c1 ys := HOW.out
              have hcc := hO.cell k hkm
              have HO := Shut.mk hO
              have hgt : T2 g := HTI.out g rfl
              have HGB := Shut.mk (show ¬ b1 = g from fun e => HB1.out (by rw [e]; exact hgt))
              have HGT2 := Shut.mk hgt
              clear hO hgt
              go_wp2_with (refine wpList_store_only rfl 5 (.tmp 134) (.tmp 133) rfl B0 5 .u8 g k m c1 ys _ _ rfl rfl HO.out hkm sizeU8 rfl ?_; intro w5 HO5 HON5)
              go_roundw
              case rel => exact ⟨k + 1, _, by omega, by go_num, HO5.out, HONV.out.trans HON5.out (fun _ _ e => by rw [e]; exact HGT2.out), HON5.out.cell HC4w.out HGB.out, fun j hj hjn => owns_only (HOJ.out j hj hjn) HON5.out (fun g' hg' e => HAI.out j hjn (by omega) g rfl (by rw [hg', e]))⟩
              case measure => simp [intOf]; omega
            · go_wp2_with (fail)
              go_roundw
              case rel => exact ⟨i + 1, by omega, by go_num, HONV.out, HOJ.out⟩
              case measure => simp [intOf]; omega
        · have hi' : n = i := by omega
          subst hi'
          have HFL := Shut.mk (show q.fresh.length ≤ 1000 ∧ q.elder.length ≤ 1000 by have h1 := lists_len HQr.out.inv; rw [List.length_append] at h1; omega)
          clear HOV HON
          go_wp2_with (fail)
          refine (clone_q_any T wr x V q HQr.out.is HQr.out.few HFL.out).mono ?_
          rintro e w3 ⟨U, rfl, hQc, hB, hFU⟩
          obtain ⟨xc, hxc⟩ : ∃ xc : Rq, xc = ⟨wr.heap.size, x.seed, x.tg, x.iv⟩ := ⟨_, rfl⟩
          rw [← hxc] at hQc hFU
          have HXC := Shut.mk (show xc.tg = x.tg ∧ xc.iv = x.iv by rw [hxc]; exact ⟨rfl, rfl⟩)
          rw [show wr.heap.size = xc.g by rw [hxc]]
          have HQA := Shut.mk (HQr.out.quiet hB)
          have HQC := Shut.mk (show QW (bkQ sd) w xc T w3 U q from ⟨hQc, HQr.out.inv, HQr.out.few, HQr.out.bel.trans (hB.mono HQr.out.bel.size), fun k hk => Nat.le_trans HQr.out.bel.size (hFU k hk)⟩)
          have HAC := Shut.mk (show ∀ k, FootC x V k → ¬ FootC xc U k from fun k hk hk2 => by have h1 := HQr.out.is.lts hk; have h2 := hFU k hk2; omega)
          clear hQc hB hFU hxc
          go_wp2_with (fail)
          have hn20 : n ≤ 20 := hN
          refine (number_any n1 ((n : Int) + 1) _ HW1.out (by omega) (by omega)).mono ?_
          rintro e wn ⟨rfl, rfl⟩
          have hm0 := nmod_lo n1 ((n : Int) + 1) (by omega)
          have hm1 := nmod_hi n1 ((n : Int) + 1) (by omega)
          obtain ⟨ct, hnm⟩ := Int.eq_ofNat_of_zero_le hm0
          rw [hnm] at hm1 ⊢
          clear hm0 hnm
          have hcn : ct ≤ n := by omega
          have HCN := Shut.mk hcn
          clear hm1 hcn
          go_wp2_with (fail)
          go_loopw [14, 15, 16, 17, 18, 19, 20] (fun fi _ _ _ _ _ _ wr => ∃ (i : Nat) (V U : Nat → Value) (q : Qu), i ≤ ct ∧ fi = .int .i64 i ∧ QW (bkQ sd) w x T wr V q ∧ QW (bkQ sd) w xc T wr U q ∧ (∀ k, FootC x V k → ¬ FootC xc U k) ∧ LeftI ⟨0, clampR x.tg 0 1073741824, clampR x.iv 0 1073741824⟩ l0 n (n - i) q) (fun fi _ _ _ _ _ _ _ => ct - (intOf fi).toNat)
          case atStart => exact ⟨0, V, U, q, Nat.zero_le _, rfl, HQA.out, HQC.out, HAC.out, HLF.out⟩
          case round =>
            clear HQA HQC HAC HLF HQr HQ2 HFL HFB HRS HLM HTT HAP HAO HT2
            obtain ⟨i, V, U, q, hi, rfl, hq, hqc, hac, hlf⟩ := hrel
            have HQ := Shut.mk hq
            have HQC := Shut.mk hqc
            have HAC := Shut.mk hac
            have HLF := Shut.mk hlf
            clear hq hqc hac hlf
            by_cases hin : i < ct
            · have hin2 : (i : Int) < (ct : Int) := by omega
              have hi20 : (i : Int) < 20 := by have := HCN.out; omega
              obtain ⟨r, ds, q2, hT⟩ := takes_is ⟨0, clampR x.tg 0 1073741824, clampR x.iv 0 1073741824⟩ (mu q + 1) q [] (by omega) HQ.out.inv
              obtain ⟨k', hk'⟩ : ∃ k', n - i = k' + 1 := ⟨n - i - 1, by have := HCN.out; omega⟩
              have hl1 := HLF.out
              rw [hk'] at hl1
              obtain ⟨hds, hl2, id, hid, hr⟩ := LeftI.take (bkQ_lt sd) hl1 HQ.out.inv hT
              subst hds
              subst hr
              have HL2 := Shut.mk (show LeftI ⟨0, clampR x.tg 0 1073741824, clampR x.iv 0 1073741824⟩ l0 n (n - (i + 1)) q2 by rw [show n - (i + 1) = k' by omega]; exact hl2)
              have HTc := Shut.mk (show Takes ⟨0, clampR xc.tg 0 1073741824, clampR xc.iv 0 1073741824⟩ q [] (some (owP id (l0.getD id pk00.1))) [] q2 by rw [HXC.out.1, HXC.out.2]; exact hT)
              have HT := Shut.mk hT
              have HID := Shut.mk hid
              clear hk' hl1 hl2 hT hid
              go_wp2_with (fail)
              refine (qtake (bkQ_lt sd) HQ.out 0 (by omega) (by omega) _ _ _ HT.out).mono ?_
              rintro e wk ⟨V2, late, T3, v, hQ3, hC3, hO3, hT3, hap3, hvo3, hE⟩
              obtain ⟨A1, c1, rfl, rfl, ho1⟩ := hE.some_
              have HQ4 := Shut.mk hQ3
              have HOV4 := Shut.mk ho1
              have HQC4 := Shut.mk (show QW (bkQ sd) w xc T wk U q from QW.only0 HQC.out hC3.only (fun k hk e => HAC.out k e hk) (fun k hk e => foot_not HQ.out.is e hk) (fun k hk e => by have := HQ.out.new k e; omega))
              have HAC4 := Shut.mk (show ∀ k, FootC x V2 k → ¬ FootC xc U k from fun k hk hk2 => by
                rcases hC3.fresh k hk with h1 | h1
                · exact HAC.out k h1 hk2
                · have := HQC.out.is.lts hk2; omega)
              have HSZ4 := Shut.mk hC3.only.size
              have HBW := Shut.mk (show ∀ k, FootC xc U k → k < wr.heap.size from fun k hk => HQC.out.is.lts hk)
              obtain ⟨B1, hB1⟩ : ∃ B1, B1 = wr.heap.size := ⟨_, rfl⟩
              rw [← hB1] at HOV4 HBW HSZ4
              obtain ⟨l', hl9, -⟩ := hO3
              obtain ⟨Ad, cd, hld, -⟩ := owns_form hl9.1
              rw [List.length_nil] at hld
              subst hld
              clear hE hQ3 hC3 hT3 hap3 hvo3 ho1 hl9 HQ HQC HAC HLF hB1
              obtain ⟨pp, hpp⟩ : ∃ pp, pp = owP id (l0.getD id pk00.1) := ⟨_, rfl⟩
              rw [← hpp] at HTc HOV4 ⊢
              have HPI := Shut.mk (show pp.id = (id : Int) by rw [hpp]; rfl)
              have HPB := Shut.mk (show pp.body = (l0.getD id pk00.1).body by rw [hpp]; rfl)
              clear hpp HT
              obtain ⟨pi, pf, pt, pa, pb⟩ := pp
              dsimp only at HPI HPB HOV4
              have hpi := HPI.out
              subst hpi
              clear HPI
              dsimp only
              unfold pkV
              dsimp only
              obtain ⟨s15, hs15⟩ : ∃ s, s = wk.heap.size := ⟨_, rfl⟩
              have HSs15 := Shut.mk hs15
              have HAw5 := Shut.mk ((Below.refl wk.heap.size wk).alloc (Nat.le_refl _) (Obj.cells #[Value.int .i64 0, .int .u32 0, .int .i64 0, .int .i64 0, Value.slice none 0 0] 32 (0, 0)))
              have HXw5 := Shut.mk (show (wk.alloc (Obj.cells #[Value.int .i64 0, .int .u32 0, .int .i64 0, .int .i64 0, Value.slice none 0 0] 32 (0, 0))).heap[s15]? = some (Obj.cells #[Value.int .i64 0, .int .u32 0, .int .i64 0, .int .i64 0, Value.slice none 0 0] 32 (0, 0)) by rw [hs15]; exact (MapKept.heap_alloc wk (Obj.cells #[Value.int .i64 0, .int .u32 0, .int .i64 0, .int .i64 0, Value.slice none 0 0] 32 (0, 0))).1)
              obtain ⟨w5, hw5⟩ : ∃ w4, w4 = (wk.alloc (Obj.cells #[Value.int .i64 0, .int .u32 0, .int .i64 0, .int .i64 0, Value.slice none 0 0] 32 (0, 0))).setRow s15 #[Value.int .i64 (id : Nat), .int .u32 pf, .int .i64 pt, .int .i64 pa, Value.slice A1 pb.length c1] := ⟨_, rfl⟩
              have HYw5 := Shut.mk (show w5.heap[s15]? = some (Obj.cells #[Value.int .i64 (id : Nat), .int .u32 pf, .int .i64 pt, .int .i64 pa, Value.slice A1 pb.length c1] 32 (0, 0)) by rw [hw5]; exact setRow_heap _ s15 _ #[Value.int .i64 (id : Nat), .int .u32 pf, .int .i64 pt, .int .i64 pa, Value.slice A1 pb.length c1] _ (0, 0) HXw5.out)
              have HBw5 := Shut.mk (show Below wk.heap.size wk w5 by rw [hw5]; exact below_setRow HAw5.out (by omega) _)
              have HWw5 := Shut.mk hw5
              clear hw5 hs15
              have HQ5 := Shut.mk (HQ4.out.quiet HBw5.out)
              have HQC5 := Shut.mk (HQC4.out.quiet HBw5.out)
              have HOV5 := Shut.mk (owns_below HOV4.out HBw5.out)
              have HS15 := Shut.mk (show B1 ≤ s15 by rw [HSs15.out]; exact HSZ4.out)
              have HSZ5 := Shut.mk (Nat.le_trans HSZ4.out HBw5.out.size)
              go_wp2_with (refine wpList_store_row rfl 32 (.tmp 15) (.tmp 150) rfl s15 #[Value.int .i64 (id : Nat), .int .u32 pf, .int .i64 pt, .int .i64 pa, Value.slice A1 pb.length c1] (by show Value.pointer (some ⟨wk.heap.size, 0, none⟩) = _; rw [HSs15.out]) rfl 32 _ HXw5.out size5 rfl (pkt_one _ _ _ _ _ _ _) ?_; rw [show World.setRow (World.alloc wk _) s15 _ = w5 from HWw5.out.symm, ← HSs15.out])
              refine (qtake (bkQ_lt sd) HQC5.out 0 (by omega) (by omega) _ _ _ HTc.out).mono ?_
              rintro e w6 ⟨U2, late, T3, v, hQ3, hC3, hO3, hT3, hap3, hvo3, hE⟩
              obtain ⟨A2, c2, rfl, rfl, ho2⟩ := hE.some_
              have HQC6 := Shut.mk hQ3
              have HOW6 := Shut.mk ho2
              have HQ6 := Shut.mk (show QW (bkQ sd) w x T w6 V2 q2 from QW.only0 HQ5.out hC3.only (fun k hk e => HAC4.out k hk e) (fun k hk e => foot_not HQC5.out.is e hk) (fun k hk e => by have := HQC5.out.new k e; omega))
              have HAC6 := Shut.mk (show ∀ k, FootC x V2 k → ¬ FootC xc U2 k from fun k hk hk2 => by
                rcases hC3.fresh k hk2 with h1 | h1
                · exact HAC4.out k hk h1
                · have := HQ5.out.is.lts hk; omega)
              have HOV6 := Shut.mk (owns_only HOV5.out hC3.only (fun g hg e => by have h1 := (World.ownsRow.lt HOV5.out g hg).1; have h2 := HBW.out g e; omega))
              have HY6 := Shut.mk (hC3.only.at_ HYw5.out (fun e => by have h1 := HS15.out; have h2 := HBW.out _ e; omega))
              obtain ⟨l', hl9, -⟩ := hO3
              obtain ⟨Ad2, cd2, hld, -⟩ := owns_form hl9.1
              rw [List.length_nil] at hld
              subst hld
              clear hE hQ3 hC3 hT3 hap3 hvo3 ho2 hl9 HQ4 HQC4 HQ5 HQC5 HAC4 HOV4 HOV5 HTc
              unfold pkV
              dsimp only at HOW6 ⊢
              obtain ⟨s18, hs18⟩ : ∃ s, s = w6.heap.size := ⟨_, rfl⟩
              have HSs18 := Shut.mk hs18
              have HAw7 := Shut.mk ((Below.refl w6.heap.size w6).alloc (Nat.le_refl _) (Obj.cells #[Value.int .i64 0, .int .u32 0, .int .i64 0, .int .i64 0, Value.slice none 0 0] 32 (0, 0)))
              have HXw7 := Shut.mk (show (w6.alloc (Obj.cells #[Value.int .i64 0, .int .u32 0, .int .i64 0, .int .i64 0, Value.slice none 0 0] 32 (0, 0))).heap[s18]? = some (Obj.cells #[Value.int .i64 0, .int .u32 0, .int .i64 0, .int .i64 0, Value.slice none 0 0] 32 (0, 0)) by rw [hs18]; exact (MapKept.heap_alloc w6 (Obj.cells #[Value.int .i64 0, .int .u32 0, .int .i64 0, .int .i64 0, Value.slice none 0 0] 32 (0, 0))).1)
              obtain ⟨w7, hw7⟩ : ∃ w4, w4 = (w6.alloc (Obj.cells #[Value.int .i64 0, .int .u32 0, .int .i64 0, .int .i64 0, Value.slice none 0 0] 32 (0, 0))).setRow s18 #[Value.int .i64 (id : Nat), .int .u32 pf, .int .i64 pt, .int .i64 pa, Value.slice A2 pb.length c2] := ⟨_, rfl⟩
              have HYw7 := Shut.mk (show w7.heap[s18]? = some (Obj.cells #[Value.int .i64 (id : Nat), .int .u32 pf, .int .i64 pt, .int .i64 pa, Value.slice A2 pb.length c2] 32 (0, 0)) by rw [hw7]; exact setRow_heap _ s18 _ #[Value.int .i64 (id : Nat), .int .u32 pf, .int .i64 pt, .int .i64 pa, Value.slice A2 pb.length c2] _ (0, 0) HXw7.out)
              have HBw7 := Shut.mk (show Below w6.heap.size w6 w7 by rw [hw7]; exact below_setRow HAw7.out (by omega) _)
              have HWw7 := Shut.mk hw7
              clear hw7 hs18
              have HQ7 := Shut.mk (HQ6.out.quiet HBw7.out)
              have HQC7 := Shut.mk (HQC6.out.quiet HBw7.out)
              have HOV7 := Shut.mk (owns_below HOV6.out HBw7.out)
              have HOW7 := Shut.mk (owns_below HOW6.out HBw7.out)
              have HY7 := Shut.mk ((HBw7.out.block _ (lt_blk HY6.out)).trans HY6.out)
              go_wp2_with (refine wpList_store_row rfl 32 (.tmp 18) (.tmp 156) rfl s18 #[Value.int .i64 (id : Nat), .int .u32 pf, .int .i64 pt, .int .i64 pa, Value.slice A2 pb.length c2] (by show Value.pointer (some ⟨w6.heap.size, 0, none⟩) = _; rw [HSs18.out]) rfl 32 _ HXw7.out size5 rfl (pkt_one _ _ _ _ _ _ _) ?_; rw [show World.setRow (World.alloc w6 _) s18 _ = w7 from HWw7.out.symm, ← HSs18.out])
              obtain ⟨b4, off4, a4, m4, c4, rfl, hrg4, hrb4, hmc4, -⟩ := RowK.el (RowK.below HR.out HQ7.out.bel) id (by rw [← HN.out]; exact HID.out)
              have hrbp : RowB .u8 w7 a4 m4 (l0.getD id pk00.1).body := hrb4
              rw [← HPB.out] at hrbp
              have hpl : pb.length = m4 := hrbp.len
              have hpm : pb.length ≤ maxLen := by rw [hpl]; exact hrbp.le
              have hpw : ∀ j, j < pb.length → IntKind.u8.min ≤ pb.getD j 0 ∧ pb.getD j 0 ≤ IntKind.u8.max := fun j hj => hrbp.wf j (by rw [← hpl]; exact hj)
              obtain ⟨a', m', c', e1, hra, -⟩ := OwnV.el (T := fun _ => True) HOV7.out hpm hpw (fun _ _ => trivial)
              cases e1
              obtain ⟨a', m', c', e1, hrb, -⟩ := OwnV.el (T := fun _ => True) HOW7.out hpm hpw (fun _ _ => trivial)
              cases e1
              have hd4 : w7.cell? ⟨b4, off4 + id * 5 + 4, none⟩ = some (.slice a4 m4 c4) := hrg4 4 _ rfl
              obtain ⟨w8, hw8⟩ : ∃ wq, wq = World.drew w7 := ⟨_, rfl⟩
              have HWw8 := Shut.mk hw8
              have HDw8 := Shut.mk (show Below w7.heap.size w7 w8 by rw [hw8]; exact (Below.refl _ _).drew)
              have HRA8 := Shut.mk (hra.below HDw8.out)
              have HRB8 := Shut.mk (hrb.below HDw8.out)
              have HRL8 := Shut.mk (hrbp.below HDw8.out)
              have HDL := Shut.mk (below_at HDw8.out hd4)
              have HYA := Shut.mk ((HDw8.out.block _ (lt_blk HY7.out)).trans HY7.out)
              have HYB := Shut.mk ((HDw8.out.block _ (lt_blk HYw7.out)).trans HYw7.out)
              have HSB := Shut.mk (show sameB pb pb = true by simp [sameB])
              have HQ8 := Shut.mk (HQ7.out.quiet HDw8.out)
              have HQC8 := Shut.mk (HQC7.out.quiet HDw8.out)
              have hid2 : (id : Int) < (n : Int) := by have := HID.out; omega
              have hid4 : ¬ (id : Int) < 0 := by omega
              clear hw8 hrg4 hrb4 hmc4 hrbp hpl hpm hpw hra hrb hd4
              go_upto_region 37 with (fail)
              refine wp_region_D (fun w' => Below w8.heap.size w8 w') 23 (by kernel_rfl) (show Below w8.heap.size w8 (World.drew w7) by rw [HWw8.out]; exact Below.refl _ _) (fun hHeld hC => ?_)
              rw [← HWw8.out] at hHeld ⊢
              refine wpAnyD_pure (i := 0) (v := ?_) rfl hC (by kernel_rfl) (by kernel_rfl) (by kernel_rfl) (by decide) (fun _ _ _ h => h) (Or.inl ⟨by rfl, ?_⟩) (fun _ => hHeld) ?_
              rotate_left
              · intro w hSw
                clear hSw
                go_simp
                try with_reducible rfl
              try simp only [Act.put, List.getElem_toArray, List.getElem_cons_zero, List.getElem_cons_succ, List.setIfInBounds_toArray, List.set_cons_zero, List.set_cons_succ]
              clear hC
              intro hC
              refine wpAnyD_pure (i := 1) (v := ?_) rfl hC (by kernel_rfl) (by kernel_rfl) (by kernel_rfl) (by decide) (fun _ _ _ h => h) (Or.inl ⟨by rfl, ?_⟩) (fun _ => hHeld) ?_
              rotate_left
              · intro w hSw
                clear hSw
                go_simp
                try with_reducible rfl
              try simp only [Act.put, List.getElem_toArray, List.getElem_cons_zero, List.getElem_cons_succ, List.setIfInBounds_toArray, List.set_cons_zero, List.set_cons_succ]
              clear hC
              intro hC
              refine wpAnyD_pure (i := 2) (v := ?_) rfl hC (by kernel_rfl) (by kernel_rfl) (by kernel_rfl) (by decide) (fun _ _ _ h => h) (Or.inl ⟨by rfl, ?_⟩) (fun _ => hHeld) ?_
              rotate_left
              · intro w hSw
                clear hSw
                go_simp
                try with_reducible rfl
              try simp only [Act.put, List.getElem_toArray, List.getElem_cons_zero, List.getElem_cons_succ, List.setIfInBounds_toArray, List.set_cons_zero, List.set_cons_succ]
              clear hC
              intro hC
              refine wpAnyD_pure (i := 3) (v := ?_) rfl hC (by kernel_rfl) (by kernel_rfl) (by kernel_rfl) (by decide) (fun _ _ _ h => h) (Or.inl ⟨by rfl, ?_⟩) (fun _ => hHeld) ?_
              rotate_left
              · intro w hSw
                clear hSw
                go_simp
                try with_reducible rfl
              try simp only [Act.put, List.getElem_toArray, List.getElem_cons_zero, List.getElem_cons_succ, List.setIfInBounds_toArray, List.set_cons_zero, List.set_cons_succ]
              clear hC
              intro hC
              refine wpAnyD_pure (i := 4) (v := ?_) rfl hC (by kernel_rfl) (by kernel_rfl) (by kernel_rfl) (by decide) (fun _ _ _ h => h) (Or.inl ⟨by rfl, ?_⟩) (fun _ => hHeld) ?_
              rotate_left
              · intro w hSw
                clear hSw
                go_simp
                try with_reducible rfl
              try simp only [Act.put, List.getElem_toArray, List.getElem_cons_zero, List.getElem_cons_succ, List.setIfInBounds_toArray, List.set_cons_zero, List.set_cons_succ]
              clear hC
              intro hC
              refine wpAnyD_pure (i := 5) (v := ?_) rfl hC (by kernel_rfl) (by kernel_rfl) (by kernel_rfl) (by decide) (fun _ _ _ h => h) (Or.inl ⟨by rfl, ?_⟩) (fun _ => hHeld) ?_
              rotate_left
              · intro w hSw
                clear hSw
                go_simp
                try with_reducible rfl
              try simp only [Act.put, List.getElem_toArray, List.getElem_cons_zero, List.getElem_cons_succ, List.setIfInBounds_toArray, List.set_cons_zero, List.set_cons_succ]
              clear hC
              intro hC
              refine wpAnyD_pure (i := 6) (v := ?_) rfl hC (by kernel_rfl) (by kernel_rfl) (by kernel_rfl) (by decide) (fun _ _ _ h => h) (Or.inl ⟨by rfl, ?_⟩) (fun _ => hHeld) ?_
              rotate_left
              · intro w hSw
                clear hSw
                go_simp
                try with_reducible rfl
              try simp only [Act.put, List.getElem_toArray, List.getElem_cons_zero, List.getElem_cons_succ, List.setIfInBounds_toArray, List.set_cons_zero, List.set_cons_succ]
              clear hC
              intro hC
              refine wpAnyD_take (i := 7) (v := .agg ([Value.int .i64 (id : Nat), .int .u32 pf, .int .i64 pt, .int .i64 pa, Value.slice A1 pb.length c1]).toArray) 40 rfl (by kernel_rfl) hC (by kernel_rfl) (by kernel_rfl) (by kernel_rfl) (by decide) (fun _ _ _ h => h) (yieldsIf_load_mid (by rfl) 32 (.tmp 15) rfl s15 (0) rfl ([Value.int .i64 (id : Nat), .int .u32 pf, .int .i64 pt, .int .i64 pa, Value.slice A1 pb.length c1]) _ (fun w' hSw => (block_range ((hSw.block _ (lt_blk HYA.out)).trans HYA.out))) Try.underlying32 rfl size5) (fun _ => hHeld) ?_
              try simp only [Act.put, List.getElem_toArray, List.getElem_cons_zero, List.getElem_cons_succ, List.setIfInBounds_toArray, List.set_cons_zero, List.set_cons_succ]
              clear hC
              intro hC
              refine wpAnyD_take (i := 8) (v := .agg ([Value.int .i64 (id : Nat), .int .u32 pf, .int .i64 pt, .int .i64 pa, Value.slice A2 pb.length c2]).toArray) 40 rfl (by kernel_rfl) hC (by kernel_rfl) (by kernel_rfl) (by kernel_rfl) (by decide) (fun _ _ _ h => h) (yieldsIf_load_mid (by rfl) 32 (.tmp 18) rfl s18 (0) rfl ([Value.int .i64 (id : Nat), .int .u32 pf, .int .i64 pt, .int .i64 pa, Value.slice A2 pb.length c2]) _ (fun w' hSw => (block_range ((hSw.block _ (lt_blk HYB.out)).trans HYB.out))) Try.underlying32 rfl size5) (fun _ => hHeld) ?_
              try simp only [Act.put, List.getElem_toArray, List.getElem_cons_zero, List.getElem_cons_succ, List.setIfInBounds_toArray, List.set_cons_zero, List.set_cons_succ]
              clear hC
              intro hC
              refine wpAnyD_one (i := 9) (by kernel_rfl) rfl hC (fun K hK => ?_)
              clear hC
              go_simp
              refine (samepkt_any ⟨(id : Nat), pf, pt, pa, pb⟩ A1 A2 pb.length c1 pb.length c2 w8 (HRA8.out.below hHeld) (HRB8.out.below hHeld)).mono ?_
              rintro e' wy1 ⟨rfl, hkd⟩
              have HKD := Shut.mk hkd
              clear hkd
              have hHeld2 := hHeld.trans (HKD.out.mono hHeld.size)
              clear hHeld
              have hHeld := hHeld2
              clear hHeld2
              refine hK.out _ _ (fun _ => hHeld) (fun hC => ?_)
              clear hK K
              try simp only [Act.put, List.getElem_toArray, List.getElem_cons_zero, List.getElem_cons_succ, List.setIfInBounds_toArray, List.set_cons_zero, List.set_cons_succ]
              refine wpAnyD_pure (i := 10) (v := ?_) rfl hC (by kernel_rfl) (by kernel_rfl) (by kernel_rfl) (by decide) (fun _ _ _ h => h) (Or.inl ⟨by rfl, ?_⟩) (fun _ => hHeld) ?_
              rotate_left
              · intro w hSw
                clear hSw
                go_simp
                try with_reducible rfl
              try simp only [Act.put, List.getElem_toArray, List.getElem_cons_zero, List.getElem_cons_succ, List.setIfInBounds_toArray, List.set_cons_zero, List.set_cons_succ]
              clear hC
              intro hC
              refine wpAnyD_pure (i := 11) (v := ?_) rfl hC (by kernel_rfl) (by kernel_rfl) (by kernel_rfl) (by decide) (fun _ _ _ h => h) (Or.inl ⟨by rfl, ?_⟩) (fun _ => hHeld) ?_
              rotate_left
              · intro w hSw
                clear hSw
                go_simp
                try with_reducible rfl
              try simp only [Act.put, List.getElem_toArray, List.getElem_cons_zero, List.getElem_cons_succ, List.setIfInBounds_toArray, List.set_cons_zero, List.set_cons_succ]
              clear hC
              intro hC
              refine wpAnyD_pure (i := 12) (v := ?_) rfl hC (by kernel_rfl) (by kernel_rfl) (by kernel_rfl) (by decide) (fun _ _ _ h => h) (Or.inl ⟨by rfl, ?_⟩) (fun _ => hHeld) ?_
              rotate_left
              · intro w hSw
                clear hSw
                go_simp
                try with_reducible rfl
              try simp only [Act.put, List.getElem_toArray, List.getElem_cons_zero, List.getElem_cons_succ, List.setIfInBounds_toArray, List.set_cons_zero, List.set_cons_succ]
              clear hC
              intro hC
              refine wpAnyD_pure (i := 13) (v := ?_) rfl hC (by kernel_rfl) (by kernel_rfl) (by kernel_rfl) (by decide) (fun _ _ _ h => h) (Or.inl ⟨by rfl, ?_⟩) (fun _ => hHeld) ?_
              rotate_left
              · intro w hSw
                clear hSw
                go_simp
                try with_reducible rfl
              try simp only [Act.put, List.getElem_toArray, List.getElem_cons_zero, List.getElem_cons_succ, List.setIfInBounds_toArray, List.set_cons_zero, List.set_cons_succ]
              clear hC
              intro hC
              refine wpAnyD_take (i := 14) (v := ?_) 40 rfl (by kernel_rfl) hC (by kernel_rfl) (by kernel_rfl) (by kernel_rfl) (by decide) (fun _ _ _ h => h) (Or.inl ⟨by rfl, ?_⟩) (fun _ => hHeld) ?_
              rotate_left
              · intro w hSw
                have hz := (show w.cell? ⟨s15, 4, none⟩ = some (Value.slice A1 pb.length c1) from by simpa using (block_range ((hSw.block _ (lt_blk HYA.out)).trans HYA.out)) 4 _ rfl)
                clear hSw
                go_simp
                try with_reducible rfl
              try simp only [Act.put, List.getElem_toArray, List.getElem_cons_zero, List.getElem_cons_succ, List.setIfInBounds_toArray, List.set_cons_zero, List.set_cons_succ]
              clear hC
              intro hC
              refine wpAnyD_pure (i := 15) (v := ?_) rfl hC (by kernel_rfl) (by kernel_rfl) (by kernel_rfl) (by decide) (fun _ _ _ h => h) (Or.inl ⟨by rfl, ?_⟩) (fun _ => hHeld) ?_
              rotate_left
              · intro w hSw
                clear hSw
                go_simp
                try with_reducible rfl
              try simp only [Act.put, List.getElem_toArray, List.getElem_cons_zero, List.getElem_cons_succ, List.setIfInBounds_toArray, List.set_cons_zero, List.set_cons_succ]
              clear hC
              intro hC
              refine wpAnyD_pure (i := 16) (v := ?_) rfl hC (by kernel_rfl) (by kernel_rfl) (by kernel_rfl) (by decide) (fun _ _ _ h => h) (Or.inl ⟨by rfl, ?_⟩) (fun _ => hHeld) ?_
              rotate_left
              · intro w hSw
                clear hSw
                go_simp
                try with_reducible rfl
              try simp only [Act.put, List.getElem_toArray, List.getElem_cons_zero, List.getElem_cons_succ, List.setIfInBounds_toArray, List.set_cons_zero, List.set_cons_succ]
              clear hC
              intro hC
              refine wpAnyD_take (i := 17) (v := ?_) 40 rfl (by kernel_rfl) hC (by kernel_rfl) (by kernel_rfl) (by kernel_rfl) (by decide) (fun _ _ _ h => h) (Or.inl ⟨by rfl, ?_⟩) (fun _ => hHeld) ?_
              rotate_left
              · intro w hSw
                have hz := (show w.cell? ⟨s15, 0, none⟩ = some (Value.int .i64 (id : Nat)) from by simpa using (block_range ((hSw.block _ (lt_blk HYA.out)).trans HYA.out)) 0 _ rfl)
                clear hSw
                go_simp
                try with_reducible rfl
              try simp only [Act.put, List.getElem_toArray, List.getElem_cons_zero, List.getElem_cons_succ, List.setIfInBounds_toArray, List.set_cons_zero, List.set_cons_succ]
              clear hC
              intro hC
              refine wpAnyD_pure (i := 18) (v := ?_) rfl hC (by kernel_rfl) (by kernel_rfl) (by kernel_rfl) (by decide) (fun _ _ _ h => h) (Or.inl ⟨by rfl, ?_⟩) (fun _ => hHeld) ?_
              rotate_left
              · intro w hSw
                clear hSw
                go_simp
                try with_reducible rfl
              try simp only [Act.put, List.getElem_toArray, List.getElem_cons_zero, List.getElem_cons_succ, List.setIfInBounds_toArray, List.set_cons_zero, List.set_cons_succ]
              clear hC
              intro hC
              refine wpAnyD_pure (i := 19) (v := ?_) rfl hC (by kernel_rfl) (by kernel_rfl) (by kernel_rfl) (by decide) (fun _ _ _ h => h) (Or.inl ⟨by rfl, ?_⟩) (fun _ => hHeld) ?_
              rotate_left
              · intro w hSw
                clear hSw
                go_simp
                try with_reducible rfl
              try simp only [Act.put, List.getElem_toArray, List.getElem_cons_zero, List.getElem_cons_succ, List.setIfInBounds_toArray, List.set_cons_zero, List.set_cons_succ]
              clear hC
              intro hC
              refine wpAnyD_take (i := 20) (v := ?_) 40 rfl (by kernel_rfl) hC (by kernel_rfl) (by kernel_rfl) (by kernel_rfl) (by decide) (fun _ _ _ h => h) (Or.inl ⟨by rfl, ?_⟩) (fun _ => hHeld) ?_
              rotate_left
              · intro w hSw
                have hz := (show w.cell? ⟨b4, off4 + id * 5 + 4, none⟩ = some (.slice a4 m4 c4) from below_at hSw HDL.out)
                clear hSw
                go_simp
                try with_reducible rfl
              try simp only [Act.put, List.getElem_toArray, List.getElem_cons_zero, List.getElem_cons_succ, List.setIfInBounds_toArray, List.set_cons_zero, List.set_cons_succ]
              clear hC
              intro hC
              refine wpAnyD_one (i := 21) (by kernel_rfl) rfl hC (fun K hK => ?_)
              clear hC
              go_simp
              refine (same_any A1 a4 pb.length c1 m4 c4 pb pb wy1 (HRA8.out.below hHeld) (HRL8.out.below hHeld)).mono ?_
              rintro e' wy2 ⟨rfl, kd, hkd⟩
              rw [HSB.out]
              have HKD := Shut.mk (show Below wy1.heap.size wy1 wy2 by rw [hkd]; exact below_drewN (Below.refl _ _) _)
              clear hkd
              have hHeld2 := hHeld.trans (HKD.out.mono hHeld.size)
              clear hHeld
              have hHeld := hHeld2
              clear hHeld2
              refine hK.out _ _ (fun _ => hHeld) (fun hC => ?_)
              clear hK K
              try simp only [Act.put, List.getElem_toArray, List.getElem_cons_zero, List.getElem_cons_succ, List.setIfInBounds_toArray, List.set_cons_zero, List.set_cons_succ]
              refine wpAnyD_pure (i := 22) (v := ?_) rfl hC (by kernel_rfl) (by kernel_rfl) (by kernel_rfl) (by decide) (fun _ _ _ h => h) (Or.inl ⟨by rfl, ?_⟩) (fun _ => hHeld) ?_
              rotate_left
              · intro w hSw
                clear hSw
                go_simp
                try with_reducible rfl
              try simp only [Act.put, List.getElem_toArray, List.getElem_cons_zero, List.getElem_cons_succ, List.setIfInBounds_toArray, List.set_cons_zero, List.set_cons_succ]
              clear hC
              intro hC
              refine wpAnyD_one (i := 23) (by kernel_rfl) rfl hC (fun K hK => ?_)
              clear hC
              go_simp
              refine hK.out _ _ (past (by kernel_rfl)) (fun hC => ?_)
              clear hK K
              try simp only [Act.put, List.getElem_toArray, List.getElem_cons_zero, List.getElem_cons_succ, List.setIfInBounds_toArray, List.set_cons_zero, List.set_cons_succ]
              refine wpAnyD_done (by kernel_rfl) ?_ _
              try simp only [Act.put, List.getElem_toArray, List.getElem_cons_zero, List.getElem_cons_succ, List.setIfInBounds_toArray, List.set_cons_zero, List.set_cons_succ]
              have HQ9 := Shut.mk (HQ8.out.quiet hHeld)
              have HQC9 := Shut.mk (HQC8.out.quiet hHeld)
              clear hHeld hC
              go_wp2_with (fail)
              go_roundw
              case rel => exact ⟨i + 1, V2, U2, q2, by omega, by go_num, HQ9.out, HQC9.out, HAC6.out, HL2.out⟩
              case measure => simp [intOf]; omega
            · have hi' : ct = i := by omega
              subst hi'
              have hfew : ∀ b, b < 16 → (q.fl b).pk.length ≤ 10000 := fun b hb => by have := HQ.out.few.len b hb; omega
              have hl0 : lenTo q 16 = n - ct := by rw [lenTo_all]; exact HLF.out.len
              have HLA := Shut.mk (len_any T wr x V q HQ.out.is hfew)
              have HLC := Shut.mk (len_any T wr xc U q HQC.out.is hfew)
              rw [hl0] at HLA HLC
              have hsub : (n : Int) - (ct : Int) = ((n - ct : Nat) : Int) := by have := HCN.out; omega
              obtain ⟨rm, hrm⟩ : ∃ rm, rm = n - ct := ⟨_, rfl⟩
              rw [← hrm] at HLA HLC hsub
              clear hfew hl0 hrm
              go_wp2_with (fail)
              refine HLA.out.mono ?_
              rintro e wn ⟨rfl, rfl⟩
              have hct9 : (ct : Int) ≤ (n : Int) := by have := HCN.out; omega
              go_wp2_with (fail)
              refine HLC.out.mono ?_
              rintro e wn ⟨rfl, rfl⟩
              go_wp2_with (fail)
              go_ret
              exact ⟨rfl, HQ.out.bel⟩

/-! ### THE ROW -/
set_option maxRecDepth 100000 in
theorem lifted (os : Os) (started : os.Started) (H : Type) (enc : TypeId × Value → H) :
    ReturnsInHanded {} Try.checked os 4 .any (Rows.fqOwnSpec.pre6 enc Try.prog Try.f4 Rows.fqOwnRow.domain false) (Rows.fqOwnSpec.post enc Try.prog Try.f4 false true false false) := by
  refine returnsInHanded_of_change (C := Try.checked) own started (by kernel_rfl) Try.func4
    (ChangeSpec.witness6 (enc := enc) (C := Try.checked) false ⟨#[], #[.slice none 0 0, .int .i64 0], []⟩ 8 (by kernel_rfl) (by kernel_rfl) (by kernel_rfl) (by kernel_rfl)) ?_
  intro W base args ds gs before hval0 hW hcnd _
  have hval : ∀ (j : Nat) t v, Try.f4.params[j]? = some t → args[j]? = some v → Value.okWide Try.prog W .any base t v := hval0
  have hW' := hW
  obtain ⟨p, q, hA0, hV, rfl, hfz, hnd⟩ := hW
  have hA : DataW.TrodAll enc Try.prog W 0 (fun _ => true) true Try.f4.params.toList args.toList ds p := hA0
  rw [Try.params4] at hA hval
  obtain ⟨v0, vs0, d0, ds0, p0, q0', hargs, rfl, rfl, h0, r0⟩ := trodAll_cons hA
  obtain ⟨v1, vs1, d1, ds1, p1, q1', rfl, rfl, rfl, h1, r1⟩ := trodAll_cons r0
  obtain ⟨rfl, rfl, rfl⟩ := trodAll_nil r1
  obtain rfl : args = #[v0, v1] := by cases args; simp_all
  obtain ⟨rfl, rfl⟩ := trodVars_none hV
  have k0 := h0
  have lt0 : ∀ x ∈ p0, x.block < W.heap.size := by obtain ⟨m, hm⟩ := k0; exact DataW.trod_lt m _ _ _ hm
  have k1 := h1
  have lt1 : ∀ x ∈ p1, x.block < W.heap.size := by obtain ⟨m, hm⟩ := k1; exact DataW.trod_lt m _ _ _ hm
  obtain ⟨a0, len0, cap0, rfl⟩ := okWide_slice Try.underlying39 (hval 0 39 v0 rfl rfl)
  obtain ⟨l0, rfl, w0⟩ : ∃ l : List Pk, len0 = l.length ∧ RowP (fun k => k < W.heap.size) W a0 l ∧ l.length ≤ cap0 ∧ ∀ p ∈ l, okPk p := by
    obtain ⟨fuel, hf⟩ := h0
    obtain ⟨A, c, l, e, hr⟩ := open_pkts (v := .slice a0 len0 cap0) hf
    cases e
    exact ⟨l, rfl, hr⟩
  obtain ⟨n1, rfl, rfl, rfl, w1⟩ := open_int Try.underlying3 (hval 1 3 v1 rfl rfl) h1
  clear hA0 hval0
  refine (walk a0 cap0 l0 n1 W w0 w1).mono fun e W' ⟨he, bel⟩ => ?_
  subst he
  exact ⟨_, rfl, _, _, _, [], _, [], hW', trodAll_mk1 (shut_bool Try.underlying4 _), (trodAll_cons_mk (Below.trod laidOut (by kernel_rfl) (of_decide_eq_true (by kernel_rfl)) k0 bel lt0) (trodAll_cons_mk (Below.trod laidOut (by kernel_rfl) (of_decide_eq_true (by kernel_rfl)) k1 bel lt1) trodAll_mk0)), rfl, bel.frame _, fun h => by cases h⟩

theorem over : Rows.fqOwnRow.holds Try.pinned (OpenSpec.ofChange Rows.fqOwnSpec) :=
  OpenClaim.holds_of_wide 4 Try.f4 rfl rfl rfl rfl rfl rfl rfl ⟨rfl, rfl, rfl, rfl, rfl⟩ rfl rfl rfl rfl rfl (by kernel_rfl) Try.func4 (by kernel_rfl)
    (of_decide_eq_true (by kernel_rfl)) (by unfold Func.isWrapper; first | (rw [if_pos (by decide +kernel)]; kernel_rfl) | (rw [if_neg (by decide +kernel)]; exact ⟨rfl, rfl⟩))
    (fun os started H enc _ => lifted os started H enc)
theorem proved : Rows.FqOwnSaid := over
#print axioms proved
end Go.Proofs.Ytempcbjojcebaaa.fqOwn
