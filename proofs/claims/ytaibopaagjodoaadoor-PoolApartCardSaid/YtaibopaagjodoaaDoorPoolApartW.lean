/-
  The walk of muezzin/muezzinlaw14.PoolApart: the Go text returns true.
-/
import Derived.Test.YtaibopaagjodoaaDoorPoolZ
import Derived.Test.YtaibopaagjodoaaDoorOpenDo
import Derived.Test.YtaibopaagjodoaaDoorPoolH
import Derived.Test.YtaibopaagjodoaaDoorErrP
import Derived.BigQuiet
import Derived.WalkKit
import Derived.ProofKit
import Derived.Below
namespace Go.Proofs.YtaibopaagjodoaaDoor.poolApart
open Go.ChangeShapes Go.WideShapes Go.ChangeAt Go.RowKit Go.Deep
set_option linter.unusedVariables false
set_option linter.unusedSimpArgs false


open Go.Proofs.YtaibopaagjodoaaDoor
def hdA : Hd := ⟨5#32, 1073741824, 1073741824, 512, 1048576⟩
def PA : Pl := ⟨0, 1073741824, 1073741824⟩
theorem hPA : (⟨0, clampR hdA.tg 0 1073741824, clampR hdA.iv 0 1073741824⟩ : Pl) = PA := rfl
theorem step_store_into {P : Program} {ops : Array Oper} {o : Oper} {a : Act} {w : World} {K : Act → World → Prop} {Q : Exit → Act → World → Prop} {E : Prop} (hgd : Region.wanted o (yielded ops a.tmps) = true) (ty : TypeId) (x y : Operand) (ho : o.op = .store ty x y)
    (g i : Nat) (v : Value) (hx : a.eval x = .pointer (some ⟨g, i, none⟩)) (hy : a.eval y = v) (h1 : v.oneCell' = true)
    (t : TypeId) (cur new : Array Value) (hg : w.heap[g]? = some (.cells cur t (0, 0))) (hi : (P.info? ty).map (·.size) = some 1) (hlt : i < cur.size) (hnew : cur.setIfInBounds i v = new)
    (h : K (a.put o.dst undef) (w.setRow g new)) : if Region.wanted o (yielded ops a.tmps) = true then Oper.wp P o a w K Q else E := by
  rw [if_pos hgd]
  unfold Oper.wp execOp
  simp only [ho, hx, hy, Sem.run_bind, Sem.run_pure, Result.andThen_ok, run_storeAt_into w g i t ty cur new v hg hi hlt h1 hnew]
  exact h
set_option maxRecDepth 100000 in
set_option maxHeartbeats 8000000 in
theorem put_no_any (aid tid : Int) (hk : ¬ knownP aid tid) (g : Nat) (w : World) (E : Nat → Addr) (hS : Sent w E S14) (pi pf pa : Int) (A : Option Addr) (m c : Nat) :
    Calls Tryd.prog 9 #[.pointer (some ⟨g, 0, none⟩), .int .i64 aid, .agg #[.int .i64 pi, .int .u32 pf, .int .i64 tid, .int .i64 pa, .slice A m c]] w fun e w' => e = .returned (.tuple #[.slice none 0 0, errV E 103]) ∧ Below w.heap.size w w' := by
  have HB1 := Shut.mk ((Below.refl w.heap.size w).alloc (Nat.le_refl _) (Obj.cells #[Value.int .i64 pi, .int .u32 pf, .int .i64 tid, .int .i64 pa, Value.slice A m c] 34 (0, 0)))
  have he : (w.alloc (Obj.cells #[Value.int .i64 pi, .int .u32 pf, .int .i64 tid, .int .i64 pa, Value.slice A m c] 34 (0, 0))).cell? ⟨0, 0, none⟩ = some (errP (E 103)) := (hS.below HB1.out).at_ 103 (by decide)
  have HE := Shut.mk he
  have HX1 := Shut.mk (MapKept.heap_alloc w (Obj.cells #[Value.int .i64 pi, .int .u32 pf, .int .i64 tid, .int .i64 pa, Value.slice A m c] 34 (0, 0))).1
  have HK := Shut.mk hk
  clear hS he hk
  obtain ⟨s5, hs5⟩ : ∃ s, s = w.heap.size := ⟨_, rfl⟩
  rw [← hs5] at HX1
  have HS5 := Shut.mk hs5
  go_enter Tryd.func9, Tryd.ntmps9
  go_wp2_with (fail)
  rw [← hs5]
  clear hs5
  generalize World.alloc w _ = w1 at *
  refine (known_no HK.out w1).mono ?_
  rintro e wn ⟨rfl, rfl⟩
  have he := HE.out
  go_wp2_with (fail)
  go_quiet (fail)
  go_wp2_with (fail)
  go_ret2
  exact ⟨rfl, below_drewN HB1.out _⟩

/-! ### THE WALK -/
set_option maxRecDepth 100000 in
set_option maxHeartbeats 8000000 in
theorem walk (a0 : Option Addr) (cap0 : Nat) (l0 : List Dop) (n1 : Int) (w : World) (E : Nat → Addr) (hS : Sent w E [101, 102, 103, 104, 105, 106, 107, 108, 109, 110, 111, 112, 113, 114]) (w0 : RowDo (fun k => k < w.heap.size) w a0 l0.length l0 ∧ l0.length ≤ cap0 ∧ ∀ d ∈ l0, okDo d) (w1 : (Lit.int .i64 n1).wf = true) :
    Calls Tryd.prog 5 #[.slice a0 l0.length cap0, .int .i64 n1] w fun e w' => e = .returned (.bool true) ∧ Below w.heap.size w w' := by
  obtain ⟨hr0, hc0, hok⟩ := w0
  obtain ⟨n, hn⟩ : ∃ n : Nat, n = l0.length := ⟨_, rfl⟩
  have HN := Shut.mk hn
  have HOK := Shut.mk hok
  have HR := Shut.mk hr0
  have W1 := Shut.mk w1
  have HS := Shut.mk (show Sent w E S14 from hS)
  rw [← hn]
  clear w1 hr0 hc0 hok hn hS
  go_enter Tryd.func5, Tryd.ntmps5
  go_wp2_with (fail)
  refine (first_p_any w).mono ?_
  rintro e wa ⟨rfl, hBa⟩
  have HBa := Shut.mk hBa
  clear hBa
  rcases Nat.lt_or_ge 30 n with hN | hN
  · have hN' : (30 : Int) < (n : Int) := by omega
    go_wp2_with (fail)
    go_ret
    exact ⟨rfl, HBa.out⟩
  have hN1 : ¬ (30 : Int) < (n : Int) := by omega
  have hN2 : ¬ 30 < n := by omega
  go_wp2_with (fail)
  refine (new_p_any hdA wa ⟨by decide, by decide⟩ ⟨by decide, by decide⟩).mono ?_
  rintro e wb ⟨rfl, hP, hB⟩
  have hpw := PW.start HBa.out rfl hP hB
  obtain ⟨g, hg⟩ : ∃ g, g = wa.heap.size := ⟨_, rfl⟩
  rw [← hg] at hpw ⊢
  have HP1 := Shut.mk hpw
  have HMP := Shut.mk (show 1 ≤ hdA.mp ∧ 1 ≤ hdA.mb from ⟨by decide, by decide⟩)
  clear hP hB hpw hg hN1 hN2
  go_wp2_with (fail)
  generalize hq : World.alloc wb _ = w4
  have HH0 := Shut.mk (show w4.heap[wb.heap.size]? = some (.cells (rowI (List.replicate 136 0)) 47 (0, 0)) by rw [← hq]; exact (MapKept.heap_alloc wb _).1)
  have HB4 := Shut.mk (show Below wb.heap.size wb w4 by rw [← hq]; exact (Below.refl _ _).alloc (Nat.le_refl _) _)
  clear hq
  have HGF := Shut.mk (show ∀ j, FootP g X0 j ∨ False → j ≠ wb.heap.size from fun j hj e => by
    rcases hj with hj | hj
    · have := HP1.out.is.lts hj; omega
    · exact hj)
  have HGW := Shut.mk (show w.heap.size ≤ wb.heap.size from HP1.out.bel.size)
  have HP4 := Shut.mk (HP1.out.quiet HB4.out)
  obtain ⟨gH, hgH⟩ : ∃ s, s = wb.heap.size := ⟨_, rfl⟩
  rw [← hgH] at HH0 HGF HGW ⊢
  clear hgH HP1 HB4
  go_loopw [9] (fun fi wr => ∃ (i : Nat) (T : Nat → Prop) (X : Nat → Option Qs) (c : Nat → Nat) (S : List Int), i ≤ n ∧ fi = .int .i64 i ∧ PW w g hdA T wr X ∧ ApI PA c (mOf X) ∧ HaveI c S ∧ wr.heap[gH]? = some (.cells (rowI S) 47 (0, 0)) ∧ (∀ j, FootP g X j ∨ T j → j ≠ gH) ∧ (allP (mOf X) 128).length ≤ i ∧ bytesF (allP (mOf X) 128) ≤ 100 * (i : Int) ∧ ∀ k, k < 128 → c k ≤ i) (fun fi _ => n - (intOf fi).toNat)
  case atStart => exact ⟨0, _, X0, _, _, Nat.zero_le _, rfl, HP4.out, ap_zero PA, have_zero, HH0.out, HGF.out, by rw [mOf_X0, allP_M0]; exact Nat.le_refl _, by rw [mOf_X0, allP_M0]; exact Int.le_refl _, fun _ _ => Nat.le_refl _⟩
  case round =>
    clear HP4 HH0 HGF
    obtain ⟨i, T, X, c, S, hi, rfl, hp, hap, hhv, hh, hng, hln, hby, hcb⟩ := hrel
    have HP := Shut.mk hp
    have HAP := Shut.mk hap
    have HV := Shut.mk hhv
    have HH := Shut.mk hh
    have HNG := Shut.mk hng
    have HLN := Shut.mk hln
    have HBY := Shut.mk hby
    have HCB := Shut.mk hcb
    have HLEN := Shut.mk (show (allP (mOf X) 128).length ≤ 900 by omega)
    clear hp hap hhv hh hng hln hby hcb
    by_cases hin : i < n
    · have hin2 : (i : Int) < (n : Int) := by omega
      obtain ⟨b, off, aa, m, cc, rfl, hrg, hrb, hmc, htb⟩ := RowK.el (RowK.below HR.out HP.out.bel) i (by rw [← HN.out]; exact hin)
      have hdm : l0.getD i do00.1 ∈ l0 := by
        have e : l0.getD i do00.1 = l0[i]'(by rw [← HN.out]; exact hin) := by simp [List.getD, show i < l0.length by rw [← HN.out]; exact hin]
        rw [e]; exact List.getElem_mem _
      have hok := HOK.out _ hdm
      obtain ⟨dd, hdd⟩ : ∃ d, d = l0.getD i do00.1 := ⟨_, rfl⟩
      rw [← hdd] at hrg hrb hok
      obtain ⟨⟨-, oka, okb, -⟩, okp⟩ := hok
      have HC1 := Shut.mk (show wr.cell? ⟨b, off + i * 9 + 4 + 1, none⟩ = some (.int .u32 dd.p.flow) from hrg 5 _ rfl)
      have hc2 : wr.cell? ⟨b, off + i * 9 + 2, none⟩ = some (.int .i64 dd.b) := hrg 2 _ rfl
      have hc3 : wr.cell? ⟨b, off + i * 9 + 1, none⟩ = some (.int .i64 dd.a) := hrg 1 _ rfl
      have hc4 : wr.cell? ⟨b, off + i * 9 + 4 + 4, none⟩ = some (.slice aa m cc) := hrg 8 _ rfl
      have HC4 := Shut.mk hc4
      have HRB := Shut.mk (show RowB .u8 wr aa m dd.p.body from hrb)
      have HDA := Shut.mk oka
      have HDB := Shut.mk okb
      have HFL := Shut.mk (show 0 ≤ dd.p.flow ∧ dd.p.flow ≤ 4294967295 from by have := okp.2.1; simpa [Lit.wf, IntKind.min, IntKind.max, IntKind.signed, IntKind.bits] using this)
      have HNBB := Shut.mk (show 0 < m → ∀ p, aa = some p → ¬ FootP g X p.block from fun hm p hp e => by
        have h1 := HP.out.new _ e
        obtain ⟨b', off', aa', m', cc', e1, hrg', hrb', hmc', ht'⟩ := RowK.el HR.out i (by rw [← HN.out]; exact hin)
        have h8 : w.cell? ⟨b', off' + i * 9 + 8, none⟩ = some (.slice aa' m' cc') := hrg' 8 _ rfl
        have h9 := below_at HP.out.bel h8
        have h10 : wr.cell? ⟨b, off + i * 9 + 8, none⟩ = some (.slice aa m cc) := hc4
        simp only [Option.some.injEq, Addr.mk.injEq, and_true] at e1
        obtain ⟨rfl, rfl⟩ := e1
        rw [h9] at h10
        simp only [Option.some.injEq, Value.slice.injEq] at h10
        obtain ⟨rfl, rfl, rfl⟩ := h10
        have := ht' hm p hp
        omega)
      obtain ⟨p, hpp⟩ : ∃ p, p = dd.p := ⟨_, rfl⟩
      obtain ⟨da, hda⟩ : ∃ d, d = dd.a := ⟨_, rfl⟩
      obtain ⟨db, hdb⟩ : ∃ d, d = dd.b := ⟨_, rfl⟩
      rw [← hpp] at HC1 HRB HFL
      rw [← hda] at hc3 HDA
      rw [← hdb] at hc2 HDB
      clear hrg hrb hmc htb hdm hdd oka okb okp hpp hda hdb
      go_wp2_with (fail)
      refine (number_any da 16 wr HDA.out (by decide) (by decide)).mono ?_
      rintro e wn ⟨rfl, rfl⟩
      have hm0 := nmod_lo da 16 (by decide)
      have hm1 := nmod_hi da 16 (by decide)
      obtain ⟨a, hnm⟩ := Int.eq_ofNat_of_zero_le hm0
      rw [hnm] at hm1 ⊢
      clear hm0 hnm
      have ha : a < 16 := by omega
      clear hm1
      go_wp2_with (fail)
      obtain ⟨a1, ha1⟩ : ∃ a1 : Nat, a1 = a + 1 := ⟨_, rfl⟩
      rw [show (a : Int) + 1 = (a1 : Int) by omega]
      have HA1 := Shut.mk (show (a1 : Int) = (a : Int) + 1 by omega)
      have hab : 1 ≤ a1 ∧ a1 ≤ 16 := by omega
      clear ha1
      refine (number_any db 8 wr HDB.out (by decide) (by decide)).mono ?_
      rintro e wn ⟨rfl, rfl⟩
      have hm0 := nmod_lo db 8 (by decide)
      have hm1 := nmod_hi db 8 (by decide)
      obtain ⟨t, hnm⟩ := Int.eq_ofNat_of_zero_le hm0
      rw [hnm] at hm1 ⊢
      clear hm0 hnm
      have ht : t < 8 := by omega
      clear hm1
      rcases Nat.lt_or_ge 100 m with hm | hm
      · have hm' : (100 : Int) < (m : Int) := by omega
        go_wp2_with (fail)
        go_ret
        exact ⟨rfl, HP.out.bel⟩
      · have hm' : ¬ (100 : Int) < (m : Int) := by omega
        have HM := Shut.mk (show m ≤ 1000000 by omega)
        obtain ⟨v1, hv1⟩ : ∃ v : Int, v = 100 * (a1 : Int) := ⟨_, rfl⟩
        obtain ⟨iv, hiv⟩ : ∃ v : Int, v = v1 + (t : Int) := ⟨_, rfl⟩
        have HM1 := Shut.mk (show IntKind.i64.wrap (100 * (a1 : Int)) = v1 by rw [IntWalk.i64_in _ ⟨by omega, by omega⟩, hv1])
        have HM2 := Shut.mk (show IntKind.i64.wrap (v1 + (t : Int)) = iv by rw [IntWalk.i64_in _ ⟨by omega, by omega⟩, hiv])
        have HID := Shut.mk (show iv = idK (8 * a + t) by unfold idK; rw [show (8 * a + t) / 8 = a by omega, show (8 * a + t) % 8 = t by omega, hiv, hv1, HA1.out])
        have HKX := Shut.mk (show 8 * a + t < 128 ∧ 8 + (8 * a + t) = a1 * 8 + t by have h9 := HA1.out; omega)
        have HM3 := Shut.mk (show m ≤ 100 by omega)
        clear hv1 hiv
        obtain ⟨w5, hw5⟩ : ∃ wD, wD = World.drew wr := ⟨_, rfl⟩
        have HWw5 := Shut.mk hw5
        have HDw5 := Shut.mk (show Below wr.heap.size wr w5 by rw [hw5]; exact (Below.refl _ _).drew)
        clear hw5
        have HP5 := Shut.mk (HP.out.quiet HDw5.out)
        have HRB5 := Shut.mk (HRB.out.below HDw5.out)
        have HH5 := Shut.mk ((HDw5.out.block _ (lt_blk HH.out)).trans HH.out)
        go_wp2_with (fail)
        clear hc2 hc3 hc4 hm'
        refine wp_region_D (fun w' => w5 = w') 20 (by kernel_rfl) HWw5.out (fun hHeld hC => ?_)
        rw [← HWw5.out] at hHeld ⊢
        refine wpAnyD_pure (i := 0) (v := ?_) rfl hC (by kernel_rfl) (by kernel_rfl) (by kernel_rfl) (by decide) (fun _ _ _ h => h) (Or.inl ⟨by rfl, ?_⟩) (fun _ => hHeld) ?_
        rotate_left
        · intro w hSw
          clear hSw
          go_simp
          try with_reducible rfl
        try simp only [Act.put, List.getElem_toArray, List.getElem_cons_zero, List.getElem_cons_succ, List.setIfInBounds_toArray, List.set_cons_zero, List.set_cons_succ]
        clear hC
        intro hC
        refine wpAnyD_pure (i := 1) (v := ?_) rfl hC (by kernel_rfl) (by kernel_rfl) (by kernel_rfl) (by decide) (fun _ _ _ h => h) (Or.inl ⟨by rfl, ?_⟩) (fun _ => hHeld) ?_
        rotate_left
        · intro w hSw
          clear hSw
          go_simp
          try with_reducible rfl
        try simp only [Act.put, List.getElem_toArray, List.getElem_cons_zero, List.getElem_cons_succ, List.setIfInBounds_toArray, List.set_cons_zero, List.set_cons_succ]
        clear hC
        intro hC
        refine wpAnyD_pure (i := 2) (v := ?_) rfl hC (by kernel_rfl) (by kernel_rfl) (by kernel_rfl) (by decide) (fun _ _ _ h => h) (Or.inl ⟨by rfl, ?_⟩) (fun _ => hHeld) ?_
        rotate_left
        · intro w hSw
          clear hSw
          go_simp
          try with_reducible rfl
        try simp only [Act.put, List.getElem_toArray, List.getElem_cons_zero, List.getElem_cons_succ, List.setIfInBounds_toArray, List.set_cons_zero, List.set_cons_succ]
        clear hC
        intro hC
        refine wpAnyD_pure (i := 3) (v := ?_) rfl hC (by kernel_rfl) (by kernel_rfl) (by kernel_rfl) (by decide) (fun _ _ _ h => h) (Or.inl ⟨by rfl, ?_⟩) (fun _ => hHeld) ?_
        rotate_left
        · intro w hSw
          have hwr := HM1.out
          clear hSw
          go_simp
          try with_reducible rfl
        try simp only [Act.put, List.getElem_toArray, List.getElem_cons_zero, List.getElem_cons_succ, List.setIfInBounds_toArray, List.set_cons_zero, List.set_cons_succ]
        clear hC
        intro hC
        refine wpAnyD_pure (i := 4) (v := ?_) rfl hC (by kernel_rfl) (by kernel_rfl) (by kernel_rfl) (by decide) (fun _ _ _ h => h) (Or.inl ⟨by rfl, ?_⟩) (fun _ => hHeld) ?_
        rotate_left
        · intro w hSw
          clear hSw
          go_simp
          try with_reducible rfl
        try simp only [Act.put, List.getElem_toArray, List.getElem_cons_zero, List.getElem_cons_succ, List.setIfInBounds_toArray, List.set_cons_zero, List.set_cons_succ]
        clear hC
        intro hC
        refine wpAnyD_pure (i := 5) (v := ?_) rfl hC (by kernel_rfl) (by kernel_rfl) (by kernel_rfl) (by decide) (fun _ _ _ h => h) (Or.inl ⟨by rfl, ?_⟩) (fun _ => hHeld) ?_
        rotate_left
        · intro w hSw
          have hwr := HM2.out
          clear hSw
          go_simp
          try with_reducible rfl
        try simp only [Act.put, List.getElem_toArray, List.getElem_cons_zero, List.getElem_cons_succ, List.setIfInBounds_toArray, List.set_cons_zero, List.set_cons_succ]
        clear hC
        intro hC
        refine wpAnyD_pure (i := 6) (v := ?_) rfl hC (by kernel_rfl) (by kernel_rfl) (by kernel_rfl) (by decide) (fun _ _ _ h => h) (Or.inl ⟨by rfl, ?_⟩) (fun _ => hHeld) ?_
        rotate_left
        · intro w hSw
          clear hSw
          go_simp
          try with_reducible rfl
        try simp only [Act.put, List.getElem_toArray, List.getElem_cons_zero, List.getElem_cons_succ, List.setIfInBounds_toArray, List.set_cons_zero, List.set_cons_succ]
        clear hC
        intro hC
        refine wpAnyD_pure (i := 7) (v := ?_) rfl hC (by kernel_rfl) (by kernel_rfl) (by kernel_rfl) (by decide) (fun _ _ _ h => h) (Or.inl ⟨by rfl, ?_⟩) (fun _ => hHeld) ?_
        rotate_left
        · intro w hSw
          clear hSw
          go_simp
          try with_reducible rfl
        try simp only [Act.put, List.getElem_toArray, List.getElem_cons_zero, List.getElem_cons_succ, List.setIfInBounds_toArray, List.set_cons_zero, List.set_cons_succ]
        clear hC
        intro hC
        refine wpAnyD_pure (i := 8) (v := ?_) rfl hC (by kernel_rfl) (by kernel_rfl) (by kernel_rfl) (by decide) (fun _ _ _ h => h) (Or.inl ⟨by rfl, ?_⟩) (fun _ => hHeld) ?_
        rotate_left
        · intro w hSw
          clear hSw
          go_simp
          try with_reducible rfl
        try simp only [Act.put, List.getElem_toArray, List.getElem_cons_zero, List.getElem_cons_succ, List.setIfInBounds_toArray, List.set_cons_zero, List.set_cons_succ]
        clear hC
        intro hC
        refine wpAnyD_pure (i := 9) (v := ?_) rfl hC (by kernel_rfl) (by kernel_rfl) (by kernel_rfl) (by decide) (fun _ _ _ h => h) (Or.inl ⟨by rfl, ?_⟩) (fun _ => hHeld) ?_
        rotate_left
        · intro w hSw
          clear hSw
          go_simp
          try with_reducible rfl
        try simp only [Act.put, List.getElem_toArray, List.getElem_cons_zero, List.getElem_cons_succ, List.setIfInBounds_toArray, List.set_cons_zero, List.set_cons_succ]
        clear hC
        intro hC
        refine wpAnyD_pure (i := 10) (v := ?_) rfl hC (by kernel_rfl) (by kernel_rfl) (by kernel_rfl) (by decide) (fun _ _ _ h => h) (Or.inl ⟨by rfl, ?_⟩) (fun _ => hHeld) ?_
        rotate_left
        · intro w hSw
          clear hSw
          go_simp
          try with_reducible rfl
        try simp only [Act.put, List.getElem_toArray, List.getElem_cons_zero, List.getElem_cons_succ, List.setIfInBounds_toArray, List.set_cons_zero, List.set_cons_succ]
        clear hC
        intro hC
        refine wpAnyD_pure (i := 11) (v := ?_) rfl hC (by kernel_rfl) (by kernel_rfl) (by kernel_rfl) (by decide) (fun _ _ _ h => h) (Or.inl ⟨by rfl, ?_⟩) (fun _ => hHeld) ?_
        rotate_left
        · intro w hSw
          clear hSw
          go_simp
          try with_reducible rfl
        try simp only [Act.put, List.getElem_toArray, List.getElem_cons_zero, List.getElem_cons_succ, List.setIfInBounds_toArray, List.set_cons_zero, List.set_cons_succ]
        clear hC
        intro hC
        refine wpAnyD_take (i := 12) (v := ?_) 40 rfl (by kernel_rfl) hC (by kernel_rfl) (by kernel_rfl) (by kernel_rfl) (by decide) (fun _ _ _ h => h) (Or.inl ⟨by rfl, ?_⟩) (fun _ => hHeld) ?_
        rotate_left
        · intro w hSw
          have hz := (show w.cell? ⟨b, off + i * 9 + 4 + 1, none⟩ = some (.int .u32 p.flow) from by rw [← hSw]; exact below_at HDw5.out HC1.out)
          clear hSw
          go_simp
          try with_reducible rfl
        try simp only [Act.put, List.getElem_toArray, List.getElem_cons_zero, List.getElem_cons_succ, List.setIfInBounds_toArray, List.set_cons_zero, List.set_cons_succ]
        clear hC
        intro hC
        refine wpAnyD_pure (i := 13) (v := ?_) rfl hC (by kernel_rfl) (by kernel_rfl) (by kernel_rfl) (by decide) (fun _ _ _ h => h) (Or.inl ⟨by rfl, ?_⟩) (fun _ => hHeld) ?_
        rotate_left
        · intro w hSw
          clear hSw
          go_simp
          try with_reducible rfl
        try simp only [Act.put, List.getElem_toArray, List.getElem_cons_zero, List.getElem_cons_succ, List.setIfInBounds_toArray, List.set_cons_zero, List.set_cons_succ]
        clear hC
        intro hC
        refine wpAnyD_pure (i := 14) (v := ?_) rfl hC (by kernel_rfl) (by kernel_rfl) (by kernel_rfl) (by decide) (fun _ _ _ h => h) (Or.inl ⟨by rfl, ?_⟩) (fun _ => hHeld) ?_
        rotate_left
        · intro w hSw
          clear hSw
          go_simp
          try with_reducible rfl
        try simp only [Act.put, List.getElem_toArray, List.getElem_cons_zero, List.getElem_cons_succ, List.setIfInBounds_toArray, List.set_cons_zero, List.set_cons_succ]
        clear hC
        intro hC
        refine wpAnyD_pure (i := 15) (v := ?_) rfl hC (by kernel_rfl) (by kernel_rfl) (by kernel_rfl) (by decide) (fun _ _ _ h => h) (Or.inl ⟨by rfl, ?_⟩) (fun _ => hHeld) ?_
        rotate_left
        · intro w hSw
          clear hSw
          go_simp
          try with_reducible rfl
        try simp only [Act.put, List.getElem_toArray, List.getElem_cons_zero, List.getElem_cons_succ, List.setIfInBounds_toArray, List.set_cons_zero, List.set_cons_succ]
        clear hC
        intro hC
        refine wpAnyD_pure (i := 16) (v := ?_) rfl hC (by kernel_rfl) (by kernel_rfl) (by kernel_rfl) (by decide) (fun _ _ _ h => h) (Or.inl ⟨by rfl, ?_⟩) (fun _ => hHeld) ?_
        rotate_left
        · intro w hSw
          clear hSw
          go_simp
          try with_reducible rfl
        try simp only [Act.put, List.getElem_toArray, List.getElem_cons_zero, List.getElem_cons_succ, List.setIfInBounds_toArray, List.set_cons_zero, List.set_cons_succ]
        clear hC
        intro hC
        refine wpAnyD_pure (i := 17) (v := ?_) rfl hC (by kernel_rfl) (by kernel_rfl) (by kernel_rfl) (by decide) (fun _ _ _ h => h) (Or.inl ⟨by rfl, ?_⟩) (fun _ => hHeld) ?_
        rotate_left
        · intro w hSw
          clear hSw
          go_simp
          try with_reducible rfl
        try simp only [Act.put, List.getElem_toArray, List.getElem_cons_zero, List.getElem_cons_succ, List.setIfInBounds_toArray, List.set_cons_zero, List.set_cons_succ]
        clear hC
        intro hC
        refine wpAnyD_take (i := 18) (v := ?_) 40 rfl (by kernel_rfl) hC (by kernel_rfl) (by kernel_rfl) (by kernel_rfl) (by decide) (fun _ _ _ h => h) (Or.inl ⟨by rfl, ?_⟩) (fun _ => hHeld) ?_
        rotate_left
        · intro w hSw
          have hz := (show w.cell? ⟨b, off + i * 9 + 4 + 4, none⟩ = some (.slice aa m cc) from by rw [← hSw]; exact below_at HDw5.out HC4.out)
          clear hSw
          go_simp
          try with_reducible rfl
        try simp only [Act.put, List.getElem_toArray, List.getElem_cons_zero, List.getElem_cons_succ, List.setIfInBounds_toArray, List.set_cons_zero, List.set_cons_succ]
        clear hC
        intro hC
        refine wpAnyD_pure (i := 19) (v := ?_) rfl hC (by kernel_rfl) (by kernel_rfl) (by kernel_rfl) (by decide) (fun _ _ _ h => h) (Or.inl ⟨by rfl, ?_⟩) (fun _ => hHeld) ?_
        rotate_left
        · intro w hSw
          clear hSw
          go_simp
          try with_reducible rfl
        try simp only [Act.put, List.getElem_toArray, List.getElem_cons_zero, List.getElem_cons_succ, List.setIfInBounds_toArray, List.set_cons_zero, List.set_cons_succ]
        clear hC
        intro hC
        refine wpAnyD_one (i := 20) (by kernel_rfl) rfl hC (fun K hK => ?_)
        clear hC
        go_simp
        rw [← hHeld]
        refine (pput HP5.out HMP.out a t ha ht _ _ HA1.out rfl iv p.flow 0 p.body aa m cc HRB5.out HM.out HFL.out ⟨by decide, by decide⟩ HLEN.out HNBB.out).mono ?_
        rintro e' wx1 ⟨u, T3, T4, X2, ds, rfl, hPW, hPS, hO, hT, hA, hR⟩
        have HP9 := Shut.mk hPW
        have HS9 := Shut.mk hPS
        have HO9 := Shut.mk hO
        have HR9 := Shut.mk hR
        clear hPW hPS hO hT hA hR
        refine hK.out _ _ (past (by kernel_rfl)) (fun hC => ?_)
        clear hK K
        try simp only [Act.put, List.getElem_toArray, List.getElem_cons_zero, List.getElem_cons_succ, List.setIfInBounds_toArray, List.set_cons_zero, List.set_cons_succ]
        refine wpAnyD_pure (i := 21) (v := ?_) rfl hC (by kernel_rfl) (by kernel_rfl) (by kernel_rfl) (by decide) (fun _ _ _ h => h) (Or.inl ⟨by rfl, ?_⟩) (past (by kernel_rfl)) ?_
        rotate_left
        · intro w hSw
          clear hSw
          go_simp
          try with_reducible rfl
        try simp only [Act.put, List.getElem_toArray, List.getElem_cons_zero, List.getElem_cons_succ, List.setIfInBounds_toArray, List.set_cons_zero, List.set_cons_succ]
        clear hC
        intro hC
        refine wpAnyD_pure (i := 22) (v := ?_) rfl hC (by kernel_rfl) (by kernel_rfl) (by kernel_rfl) (by decide) (fun _ _ _ h => h) (Or.inl ⟨by rfl, ?_⟩) (past (by kernel_rfl)) ?_
        rotate_left
        · intro w hSw
          clear hSw
          go_simp
          try with_reducible rfl
        try simp only [Act.put, List.getElem_toArray, List.getElem_cons_zero, List.getElem_cons_succ, List.setIfInBounds_toArray, List.set_cons_zero, List.set_cons_succ]
        clear hC
        intro hC
        refine wpAnyD_pure (i := 23) (v := ?_) rfl hC (by kernel_rfl) (by kernel_rfl) (by kernel_rfl) (by decide) (fun _ _ _ h => h) (Or.inl ⟨by rfl, ?_⟩) (past (by kernel_rfl)) ?_
        rotate_left
        · intro w hSw
          clear hSw
          go_simp
          try with_reducible rfl
        try simp only [Act.put, List.getElem_toArray, List.getElem_cons_zero, List.getElem_cons_succ, List.setIfInBounds_toArray, List.set_cons_zero, List.set_cons_succ]
        clear hC
        intro hC
        refine wpAnyD_pure (i := 24) (v := ?_) rfl hC (by kernel_rfl) (by kernel_rfl) (by kernel_rfl) (by decide) (fun _ _ _ h => h) (Or.inl ⟨by rfl, ?_⟩) (past (by kernel_rfl)) ?_
        rotate_left
        · intro w hSw
          clear hSw
          go_simp
          try with_reducible rfl
        try simp only [Act.put, List.getElem_toArray, List.getElem_cons_zero, List.getElem_cons_succ, List.setIfInBounds_toArray, List.set_cons_zero, List.set_cons_succ]
        clear hC
        intro hC
        refine wpAnyD_pure (i := 25) (v := ?_) rfl hC (by kernel_rfl) (by kernel_rfl) (by kernel_rfl) (by decide) (fun _ _ _ h => h) (Or.inl ⟨by rfl, ?_⟩) (past (by kernel_rfl)) ?_
        rotate_left
        · intro w hSw
          clear hSw
          go_simp
          try with_reducible rfl
        try simp only [Act.put, List.getElem_toArray, List.getElem_cons_zero, List.getElem_cons_succ, List.setIfInBounds_toArray, List.set_cons_zero, List.set_cons_succ]
        clear hC
        intro hC
        refine wpAnyD_done (by kernel_rfl) ?_ _
        try simp only [Act.put, List.getElem_toArray, List.getElem_cons_zero, List.getElem_cons_succ, List.setIfInBounds_toArray, List.set_cons_zero, List.set_cons_succ]
        obtain ⟨wq, hwq⟩ : ∃ wq, wq = wx1 := ⟨_, rfl⟩
        rw [← hwq] at HP9 HS9 HO9 ⊢
        clear hwq hC
        have hpm := allP_put (bkQ_lt hdA.seed) (mOf X) HKX.out.1 ⟨iv, p.flow, ((t : Nat) : Int), 0, p.body⟩
        have hl1 := hpm.length_eq
        have hb1 := bytesF_perm hpm
        rw [bytesF_cons] at hb1
        have hpl : (p.body.length : Int) ≤ 100 := by have h1 : p.body.length = m := HRB.out.len; have h2 := HM3.out; omega
        have hln := HLN.out
        have hby := HBY.out
        obtain ⟨rfl, hM2⟩ := shr_none HR9.out (by show _ ≤ (512 : Int); rw [hl1, List.length_cons]; omega) (by show _ ≤ (1048576 : Int); rw [hb1]; have h3 : (((⟨iv, p.flow, ((t : Nat) : Int), 0, p.body⟩ : Pk).body.length : Nat) : Int) ≤ 100 := hpl; omega)
        have HLN2 := Shut.mk (show (allP (mOf X2) 128).length ≤ i + 1 by rw [hM2, hl1, List.length_cons]; omega)
        have HBY2 := Shut.mk (show bytesF (allP (mOf X2) 128) ≤ 100 * ((i + 1 : Nat) : Int) by rw [hM2, hb1]; have h3 : (((⟨iv, p.flow, ((t : Nat) : Int), 0, p.body⟩ : Pk).body.length : Nat) : Int) ≤ 100 := hpl; omega)
        have HAP2 := Shut.mk (show ApI PA (updF c (8 * a + t) (c (8 * a + t) + 1)) (mOf X2) by rw [hM2]; exact ap_put (bkQ_lt hdA.seed) HAP.out HKX.out.1 HID.out (show (0 : Int) - 0 < 1073741824 by decide))
        obtain ⟨l', hl9, -⟩ := HO9.out
        obtain ⟨Ad, cd, hld, -⟩ := owns_form hl9.1
        rw [List.length_nil] at hld
        subst hld
        have hgh := lt_blk HH5.out
        have HHq := Shut.mk (show wq.heap[gH]? = some (.cells (rowI S) 47 (0, 0)) from HS9.out.only.at_ HH5.out (fun e => HNG.out gH (.inl e) rfl))
        have HNQ := Shut.mk (show ∀ j, FootP g X2 j ∨ T3 j → j ≠ gH from fun j hj e => by
          rcases hj with hj | hj
          · rcases HS9.out.fresh j hj with h1 | h1
            · exact HNG.out j (.inl h1) e
            · omega
          · rcases HS9.out.ft j hj with h1 | h1
            · exact HNG.out j (.inr h1) e
            · omega)
        have hcb := HCB.out (8 * a + t) HKX.out.1
        obtain ⟨cn, hcn⟩ : ∃ n, n = c (8 * a + t) := ⟨_, rfl⟩
        rw [← hcn] at hcb HAP2
        obtain ⟨cv, hcv⟩ : ∃ v : Int, v = (cn : Int) := ⟨_, rfl⟩
        have HCB2 := Shut.mk (show ∀ k, k < 128 → updF c (8 * a + t) (cn + 1) k ≤ i + 1 from fun k hk => by
          by_cases e : k = 8 * a + t
          · rw [e, updF_same]; omega
          · rw [updF_other _ _ e]; have := HCB.out k hk; omega)
        have HV2 := Shut.mk (show HaveI (updF c (8 * a + t) (cn + 1)) (S.set (a1 * 8 + t) (cv + 1)) by
          have h1 := HV.out.set HKX.out.1 (cn + 1)
          rw [HKX.out.2] at h1
          rw [hcv]; exact h1)
        obtain ⟨w8, hw8⟩ : ∃ wD, wD = World.drew wq := ⟨_, rfl⟩
        have HWw8 := Shut.mk hw8
        have HDw8 := Shut.mk (show Below wq.heap.size wq w8 by rw [hw8]; exact (Below.refl _ _).drew)
        clear hw8
        have HHV := Shut.mk ((HDw8.out.block _ (lt_blk HHq.out)).trans HHq.out)
        have HLT := Shut.mk (show a1 * 8 + t < S.length by rw [HV.out.len]; omega)
        have HCV := Shut.mk (show w8.cell? ⟨gH, a1 * 8 + t, none⟩ = some (.int .i64 cv) by
          have h1 := rowI_cell HHV.out (a1 * 8 + t) HLT.out
          have h2 := HV.out.at_ (8 * a + t) HKX.out.1
          rw [HKX.out.2, ← hcn] at h2
          rw [h2] at h1
          rw [hcv]; exact h1)
        have H17 := Shut.mk (show (a1 : Int) < 17 by omega)
        have H8 := Shut.mk (show (t : Int) < 8 by omega)
        have HWR := Shut.mk (show IntKind.i64.wrap (cv + 1) = cv + 1 from IntWalk.i64_in _ ⟨by omega, by omega⟩)
        have HWE0 := Shut.mk (show Only (· = gH) w8 (w8.setRow gH (rowI (S.set (a1 * 8 + t) (cv + 1)))) from only_setRow _ _ _)
        have HHE0 := Shut.mk (setRow_heap w8 gH _ (rowI (S.set (a1 * 8 + t) (cv + 1))) _ (0, 0) HHV.out)
        obtain ⟨wE, hwE⟩ : ∃ wE, wE = w8.setRow gH (rowI (S.set (a1 * 8 + t) (cv + 1))) := ⟨_, rfl⟩
        rw [← hwE] at HWE0 HHE0
        have HWE := Shut.mk hwE.symm
        clear hwE
        have HPE := Shut.mk ((HP9.out.quiet HDw8.out).only HWE0.out (fun j hj e => HNQ.out j (.inl hj) e) (fun j hj e => HNQ.out j (.inr hj) e) (fun j e => by rw [e]; exact HGW.out))
        clear hpm hl1 hb1 hpl hln hby hM2 hl9 hgh hcb hcn hcv
        have h00 : ((0 : Int) == 0) = true := rfl
        go_wp2_with (fail)
        refine wp_region_D (fun w' => w8 = w') 8 (by kernel_rfl) HWw8.out (fun hHeld hC => ?_)
        rw [← HWw8.out] at hHeld ⊢
        refine wpAnyD_pure (i := 0) (v := ?_) rfl hC (by kernel_rfl) (by kernel_rfl) (by kernel_rfl) (by decide) (fun _ _ _ h => h) (Or.inl ⟨by rfl, ?_⟩) (fun _ => hHeld) ?_
        rotate_left
        · intro w hSw
          clear hSw
          go_simp
          try with_reducible rfl
        try simp only [Act.put, List.getElem_toArray, List.getElem_cons_zero, List.getElem_cons_succ, List.setIfInBounds_toArray, List.set_cons_zero, List.set_cons_succ]
        clear hC
        intro hC
        refine wpAnyD_pure (i := 1) (v := ?_) rfl hC (by kernel_rfl) (by kernel_rfl) (by kernel_rfl) (by decide) (fun _ _ _ h => h) (Or.inl ⟨by rfl, ?_⟩) (fun _ => hHeld) ?_
        rotate_left
        · intro w hSw
          clear hSw
          go_simp
          try with_reducible rfl
        try simp only [Act.put, List.getElem_toArray, List.getElem_cons_zero, List.getElem_cons_succ, List.setIfInBounds_toArray, List.set_cons_zero, List.set_cons_succ]
        clear hC
        intro hC
        refine wpAnyD_pure (i := 2) (v := ?_) rfl hC (by kernel_rfl) (by kernel_rfl) (by kernel_rfl) (by decide) (fun _ _ _ h => h) (Or.inl ⟨by rfl, ?_⟩) (fun _ => hHeld) ?_
        rotate_left
        · intro w hSw
          have h17 := H17.out
          clear hSw
          go_simp
          try with_reducible rfl
        try simp only [Act.put, List.getElem_toArray, List.getElem_cons_zero, List.getElem_cons_succ, List.setIfInBounds_toArray, List.set_cons_zero, List.set_cons_succ]
        clear hC
        intro hC
        refine wpAnyD_pure (i := 3) (v := ?_) rfl hC (by kernel_rfl) (by kernel_rfl) (by kernel_rfl) (by decide) (fun _ _ _ h => h) (Or.inl ⟨by rfl, ?_⟩) (fun _ => hHeld) ?_
        rotate_left
        · intro w hSw
          have h8 := H8.out
          clear hSw
          go_simp
          try with_reducible rfl
        try simp only [Act.put, List.getElem_toArray, List.getElem_cons_zero, List.getElem_cons_succ, List.setIfInBounds_toArray, List.set_cons_zero, List.set_cons_succ]
        clear hC
        intro hC
        refine wpAnyD_take (i := 4) (v := ?_) 40 rfl (by kernel_rfl) hC (by kernel_rfl) (by kernel_rfl) (by kernel_rfl) (by decide) (fun _ _ _ h => h) (Or.inl ⟨by rfl, ?_⟩) (fun _ => hHeld) ?_
        rotate_left
        · intro w hSw
          have hz := (show w.cell? ⟨gH, a1 * 8 + t, none⟩ = some (.int .i64 cv) from by rw [← hSw]; exact HCV.out)
          clear hSw
          go_simp
          try with_reducible rfl
        try simp only [Act.put, List.getElem_toArray, List.getElem_cons_zero, List.getElem_cons_succ, List.setIfInBounds_toArray, List.set_cons_zero, List.set_cons_succ]
        clear hC
        intro hC
        refine wpAnyD_pure (i := 5) (v := ?_) rfl hC (by kernel_rfl) (by kernel_rfl) (by kernel_rfl) (by decide) (fun _ _ _ h => h) (Or.inl ⟨by rfl, ?_⟩) (fun _ => hHeld) ?_
        rotate_left
        · intro w hSw
          have hwr := HWR.out
          clear hSw
          go_simp
          try with_reducible rfl
        try simp only [Act.put, List.getElem_toArray, List.getElem_cons_zero, List.getElem_cons_succ, List.setIfInBounds_toArray, List.set_cons_zero, List.set_cons_succ]
        clear hC
        intro hC
        refine wpAnyD_pure (i := 6) (v := ?_) rfl hC (by kernel_rfl) (by kernel_rfl) (by kernel_rfl) (by decide) (fun _ _ _ h => h) (Or.inl ⟨by rfl, ?_⟩) (fun _ => hHeld) ?_
        rotate_left
        · intro w hSw
          have h17 := H17.out
          clear hSw
          go_simp
          try with_reducible rfl
        try simp only [Act.put, List.getElem_toArray, List.getElem_cons_zero, List.getElem_cons_succ, List.setIfInBounds_toArray, List.set_cons_zero, List.set_cons_succ]
        clear hC
        intro hC
        refine wpAnyD_pure (i := 7) (v := ?_) rfl hC (by kernel_rfl) (by kernel_rfl) (by kernel_rfl) (by decide) (fun _ _ _ h => h) (Or.inl ⟨by rfl, ?_⟩) (fun _ => hHeld) ?_
        rotate_left
        · intro w hSw
          have h8 := H8.out
          clear hSw
          go_simp
          try with_reducible rfl
        try simp only [Act.put, List.getElem_toArray, List.getElem_cons_zero, List.getElem_cons_succ, List.setIfInBounds_toArray, List.set_cons_zero, List.set_cons_succ]
        clear hC
        intro hC
        refine wpAnyD_one (i := 8) (by kernel_rfl) rfl hC (fun K hK => ?_)
        clear hC
        rw [← hHeld]
        refine step_store_into rfl 3 (.tmp 114) (.tmp 112) rfl gH (a1 * 8 + t) (.int .i64 (cv + 1)) rfl rfl rfl 47 (rowI S) (rowI (S.set (a1 * 8 + t) (cv + 1))) HHV.out size1i (by rw [rowI_size]; exact HLT.out) (rowI_set _ _ _) ?_
        rw [show World.setRow w8 gH _ = wE from HWE.out]
        refine hK.out _ _ (past (by kernel_rfl)) (fun hC => ?_)
        clear hK K
        try simp only [Act.put, List.getElem_toArray, List.getElem_cons_zero, List.getElem_cons_succ, List.setIfInBounds_toArray, List.set_cons_zero, List.set_cons_succ]
        refine wpAnyD_done (by kernel_rfl) ?_ _
        try simp only [Act.put, List.getElem_toArray, List.getElem_cons_zero, List.getElem_cons_succ, List.setIfInBounds_toArray, List.set_cons_zero, List.set_cons_succ]
        clear hHeld hC
        go_wp2_with (fail)
        go_roundw
        case rel => exact ⟨i + 1, T3, X2, _, _, by omega, by go_num, HPE.out, HAP2.out, HV2.out, HHE0.out, HNQ.out, HLN2.out, HBY2.out, HCB2.out⟩
        case measure => simp [intOf]; omega
    · have hi' : i = n := by omega
      subst hi'
      go_wp2_with (fail)
      refine (number_any n1 16 wr W1.out (by decide) (by decide)).mono ?_
      rintro e wn ⟨rfl, rfl⟩
      have hm0 := nmod_lo n1 16 (by decide)
      have hm1 := nmod_hi n1 16 (by decide)
      obtain ⟨o, hnm⟩ := Int.eq_ofNat_of_zero_le hm0
      rw [hnm] at hm1 ⊢
      clear hm0 hnm
      have ho : o < 16 := by omega
      clear hm1
      go_wp2_with (fail)
      refine (drop_p_any HP.out.is o ho (by have := HLEN.out; omega)).mono ?_
      rintro e wq ⟨u, T2, rfl, hL⟩
      have HPQ := Shut.mk (HP.out.call hL.is hL.st)
      have HAP2 := Shut.mk (show ApI PA (clrC c o 8) (mOf (clrX X o 8)) by rw [mOf_clrX]; exact ap_clr HAP.out o)
      have HHq := Shut.mk (show wq.heap[gH]? = some (.cells (rowI S) 47 (0, 0)) from hL.st.only.at_ HH.out (fun e => HNG.out gH (.inl e) rfl))
      have HNQ := Shut.mk (show ∀ j, FootP g (clrX X o 8) j ∨ T j → j ≠ gH from fun j hj e => by
        rcases hj with hj | hj
        · exact HNG.out j (.inl (foot_clr hj)) e
        · exact HNG.out j (.inr hj) e)
      have hdl := (all_drops (mOf X) ho 8 (Nat.le_refl _)).length_eq
      rw [List.length_append] at hdl
      have hlen := HLEN.out
      obtain ⟨Aq, cq, rfl, -, -⟩ := OwnK.row (d := pk00) hL.own (fun _ _ => rfl) (by unfold maxLen; omega)
      obtain ⟨nD, hnD⟩ : ∃ nD, nD = (dropA (mOf X) o 8).length := ⟨_, rfl⟩
      have HND := Shut.mk hnD
      rw [← hnD]
      obtain ⟨o1, ho1⟩ : ∃ o1 : Nat, o1 = o + 1 := ⟨_, rfl⟩
      rw [show (o : Int) + 1 = (o1 : Int) by omega]
      have HO1 := Shut.mk ho1
      have hob : 1 ≤ o1 ∧ o1 ≤ 16 := by omega
      have H17 : (o1 : Int) < 17 := by omega
      have HDB := Shut.mk (show ∀ k, k ≤ 8 → (dropA (mOf X) o k).length ≤ 900 from fun k hk => by
        have := (all_drops (mOf X) ho k hk).length_eq
        rw [List.length_append] at this
        have := HLEN.out
        omega)
      have HCL := Shut.mk (show ∀ k, k < 128 → clrC c o 8 k ≤ i from fun k hk => by
        unfold clrC
        split
        · omega
        · exact HCB.out k hk)
      clear hL hdl hlen hnD ho1
      go_wp2_with (fail)
      go_loopw [15, 16] (fun fn ft wr => ∃ (t : Nat) (S : List Int), t ≤ 8 ∧ ft = .int .i64 t ∧ fn = .int .i64 ((dropA (mOf X) o t).length : Nat) ∧ HaveI (clrC c o t) S ∧ Only (· = gH) wq wr ∧ wr.heap[gH]? = some (.cells (rowI S) 47 (0, 0))) (fun _ ft _ => 8 - (intOf ft).toNat)
      case atStart => exact ⟨0, S, Nat.zero_le _, rfl, rfl, by rw [clrC_zero]; exact HV.out, Only.refl _ _, HHq.out⟩
      case round =>
        clear HHq HV HH
        obtain ⟨t, S, ht, rfl, rfl, hhv, hoy, hh⟩ := hrel
        have HV := Shut.mk hhv
        have HO := Shut.mk hoy
        have HH := Shut.mk hh
        clear hhv hoy hh
        by_cases htl : t < 8
        · have htl2 : (t : Int) < 8 := by omega
          have HKX := Shut.mk (show 8 * o + t < 128 ∧ 8 + (8 * o + t) = o1 * 8 + t by have h9 := HO1.out; omega)
          have HLT := Shut.mk (show o1 * 8 + t < S.length by rw [HV.out.len]; omega)
          have HSU := Shut.mk (ap_drops HAP.out ho htl)
          have hbt := HDB.out (t + 1) (by omega)
          rw [HSU.out] at hbt
          have hcell : wr.cell? ⟨gH, o1 * 8 + t, none⟩ = some (.int .i64 (c (8 * o + t) : Nat)) := by
            have h1 := rowI_cell HH.out (o1 * 8 + t) HLT.out
            have h2 := HV.out.at_ (8 * o + t) HKX.out.1
            rw [HKX.out.2, clrC_at] at h2
            rw [h2] at h1
            exact h1
          have HV2 := Shut.mk (show HaveI (clrC c o (t + 1)) (S.set (o1 * 8 + t) 0) by
            have h1 := HV.out.set HKX.out.1 0
            rw [clrC_succ, HKX.out.2] at h1
            exact h1)
          obtain ⟨cv, hcv⟩ : ∃ v, v = c (8 * o + t) := ⟨_, rfl⟩
          obtain ⟨dl, hdl⟩ : ∃ v, v = (dropA (mOf X) o t).length := ⟨_, rfl⟩
          rw [← hcv] at hcell
          rw [← hcv, ← hdl] at hbt HSU
          rw [← hdl]
          have hwr : IntKind.i64.wrap ((dl : Int) + (cv : Int)) = (dl : Int) + (cv : Int) := IntWalk.i64_in _ ⟨by omega, by omega⟩
          have HHE := Shut.mk (setRow_heap wr gH _ (rowI (S.set (o1 * 8 + t) 0)) _ (0, 0) HH.out)
          have HOE := Shut.mk (HO.out.trans (only_setRow wr gH (rowI (S.set (o1 * 8 + t) 0))) fun _ _ e => e)
          clear hcv hdl hbt
          go_wp2_with (first
            | (refine wpList_store_into rfl 3 (.tmp 135) _ rfl gH (o1 * 8 + t) (.int .i64 0) rfl rfl rfl 47 (rowI S) (rowI (S.set (o1 * 8 + t) 0)) HH.out size1i (by rw [rowI_size]; exact HLT.out) (rowI_set _ _ _) ?_))
          go_roundw
          case rel => exact ⟨t + 1, _, by omega, by go_num, by rw [HSU.out]; push_cast; rfl, HV2.out, HOE.out, HHE.out⟩
          case measure => simp [intOf]; omega
        · have ht' : t = 8 := by omega
          subst ht'
          have HPr := Shut.mk (HPQ.out.only HO.out (fun j hj e => HNQ.out j (.inl hj) e) (fun j hj e => HNQ.out j (.inr hj) e) (fun j e => by rw [e]; exact HGW.out))
          rw [← HND.out]
          have hnn : ((nD : Int) == (nD : Int)) = true := by simp
          have HCI := Shut.mk (show ∀ k, k < 128 → clrC c o 8 k ≤ 30 from fun k hk => by have := HCL.out k hk; omega)
          go_wp2_with (fail)
          go_loopw [17] (fun fa wr => ∃ (a : Nat) (T : Nat → Prop) (X : Nat → Option Qs) (c : Nat → Nat) (S : List Int), a ≤ 16 ∧ fa = .int .i64 ((a : Int) + 1) ∧ PW w g hdA T wr X ∧ ApI PA c (mOf X) ∧ HaveI c S ∧ wr.heap[gH]? = some (.cells (rowI S) 47 (0, 0)) ∧ (∀ j, FootP g X j ∨ T j → j ≠ gH) ∧ (∀ k, k < 128 → c k ≤ 30) ∧ (∀ k, k < 8 * a → c k = 0)) (fun fa _ => 17 - (intOf fa).toNat)
          case atStart => exact ⟨0, T, _, _, S, Nat.zero_le _, rfl, HPr.out, HAP2.out, HV.out, HH.out, HNQ.out, HCI.out, fun k hk => by omega⟩
          case round =>
            clear HPr HAP2 HV HH HNQ HCI HPQ HO HCB HCL HAP HND HDB
            obtain ⟨a, T, X, c, S, ha, rfl, hp, hap, hhv, hh, hng, hcb, hz⟩ := hrel
            have HP := Shut.mk hp
            have HAP := Shut.mk hap
            have HV := Shut.mk hhv
            have HH := Shut.mk hh
            have HNG := Shut.mk hng
            have HCB := Shut.mk hcb
            have HZ := Shut.mk hz
            clear hp hap hhv hh hng hcb hz
            by_cases hal : a < 16
            · have hal1 : (a : Int) + 1 ≤ 16 := by omega
              have hal2 : (a : Int) < 16 := by omega
              have ha16 : a < 16 := hal
              obtain ⟨a1, ha1⟩ : ∃ a1 : Nat, a1 = a + 1 := ⟨_, rfl⟩
              have HA1 := Shut.mk (show (a1 : Int) = (a : Int) + 1 by omega)
              have hab : 1 ≤ a1 ∧ a1 ≤ 16 := by omega
              go_wp2_with (fail)
              rw [show (a : Int) + 1 = (a1 : Int) by omega]
              clear ha1
              go_loopw [18] (fun ft wr => ∃ (t : Nat) (T : Nat → Prop) (X : Nat → Option Qs) (c : Nat → Nat) (S : List Int), t ≤ 8 ∧ ft = .int .i64 t ∧ PW w g hdA T wr X ∧ ApI PA c (mOf X) ∧ HaveI c S ∧ wr.heap[gH]? = some (.cells (rowI S) 47 (0, 0)) ∧ (∀ j, FootP g X j ∨ T j → j ≠ gH) ∧ (∀ k, k < 128 → c k ≤ 30) ∧ (∀ k, k < 8 * a + t → c k = 0)) (fun ft _ => 8 - (intOf ft).toNat)
              case atStart => exact ⟨0, T, X, c, S, Nat.zero_le _, rfl, HP.out, HAP.out, HV.out, HH.out, HNG.out, HCB.out, HZ.out⟩
              case round =>
                clear HP HAP HV HH HNG HCB HZ
                obtain ⟨t, T, X, c, S, ht, rfl, hp, hap, hhv, hh, hng, hcb, hz⟩ := hrel
                have HP := Shut.mk hp
                have HAP := Shut.mk hap
                have HV := Shut.mk hhv
                have HH := Shut.mk hh
                have HNG := Shut.mk hng
                have HCB := Shut.mk hcb
                have HZ := Shut.mk hz
                clear hp hap hhv hh hng hcb hz
                by_cases htl : t < 8
                · have htl2 : (t : Int) < 8 := by omega
                  have HKX := Shut.mk (show 8 * a + t < 128 ∧ 8 + (8 * a + t) = a1 * 8 + t by have h9 := HA1.out; omega)
                  obtain ⟨v1, hv1⟩ : ∃ v : Int, v = 100 * (a1 : Int) := ⟨_, rfl⟩
                  obtain ⟨iv, hiv⟩ : ∃ v : Int, v = v1 + (t : Int) := ⟨_, rfl⟩
                  have HM1 := Shut.mk (show IntKind.i64.wrap (100 * (a1 : Int)) = v1 by rw [IntWalk.i64_in _ ⟨by omega, by omega⟩, hv1])
                  have HM2 := Shut.mk (show IntKind.i64.wrap (v1 + (t : Int)) = iv by rw [IntWalk.i64_in _ ⟨by omega, by omega⟩, hiv])
                  have HID := Shut.mk (show iv = idK (8 * a + t) by unfold idK; rw [show (8 * a + t) / 8 = a by omega, show (8 * a + t) % 8 = t by omega, hiv, hv1, HA1.out])
                  clear hv1 hiv
                  have h17 : (a1 : Int) < 17 := by omega
                  have HC31 := Shut.mk (show c (8 * a + t) < 31 by have := HCB.out _ HKX.out.1; omega)
                  go_wp2_with (fail)
                  go_loopg [] 31 (fun m wr => ∃ (T : Nat → Prop) (X : Nat → Option Qs) (c : Nat → Nat) (S : List Int), PW w g hdA T wr X ∧ ApI PA c (mOf X) ∧ HaveI c S ∧ wr.heap[gH]? = some (.cells (rowI S) 47 (0, 0)) ∧ (∀ j, FootP g X j ∨ T j → j ≠ gH) ∧ (∀ k, k < 128 → c k ≤ 30) ∧ (∀ k, k < 8 * a + t → c k = 0) ∧ c (8 * a + t) < m)
                  case atStart => exact ⟨T, X, c, S, HP.out, HAP.out, HV.out, HH.out, HNG.out, HCB.out, HZ.out, HC31.out⟩
                  case round =>
                    clear HP HAP HV HH HNG HCB HZ HC31
                    obtain ⟨T, X, c, S, hp, hap, hhv, hh, hng, hcb, hz, hck⟩ := hrel
                    have HP := Shut.mk hp
                    have HAP := Shut.mk hap
                    have HV := Shut.mk hhv
                    have HH := Shut.mk hh
                    have HNG := Shut.mk hng
                    have HCB := Shut.mk hcb
                    have HZ := Shut.mk hz
                    clear hp hap hhv hh hng hcb hz
                    have HCK := Shut.mk hck
                    clear hck
                    have HCC := Shut.mk (show wr.cell? ⟨gH, a1 * 8 + t, none⟩ = some (.int .i64 (c (8 * a + t) : Nat)) by
                      have h1 := rowI_cell HH.out (a1 * 8 + t) (by rw [HV.out.len]; omega)
                      have h2 := HV.out.at_ (8 * a + t) HKX.out.1
                      rw [HKX.out.2] at h2
                      rw [h2] at h1
                      exact h1)
                    by_cases hcz : c (8 * a + t) = 0
                    · have hcell : wr.cell? ⟨gH, a1 * 8 + t, none⟩ = some (.int .i64 0) := by
                        have h1 := HCC.out
                        rw [hcz] at h1
                        exact h1
                      obtain ⟨r, ds, q', hT⟩ := takes_is PA (mu (mOf X (8 * a + t)) + 1) (mOf X (8 * a + t)) [] (by omega) (pool_inv HP.out.is HKX.out.1)
                      obtain ⟨rfl, hcase⟩ := ap_take (bkQ_lt hdA.seed) HAP.out HKX.out.1 hT (pool_inv HP.out.is HKX.out.1)
                      rcases hcase with ⟨-, rfl, hap2⟩ | ⟨p, n', h1, -⟩
                      · have HT := Shut.mk hT
                        have HAP2 := Shut.mk hap2
                        have HCZ := Shut.mk hcz
                        clear hT hap2 hcz
                        go_wp2_with (fail)
                        refine (take_in_any HP.out.is a t ha16 htl _ _ HA1.out rfl 0 (by decide) (by decide) none [] q' HT.out).mono ?_
                        rintro e w2 ⟨X', late, T2, v, hP, hS, hM, -, -, hE, -, -⟩
                        have hee : e = .returned (.tuple #[pkV pk00.1 (.slice none 0 0), late, .bool false]) := by
                          rcases hE with ⟨-, hv, he⟩ | ⟨p, h0, -⟩
                          · rw [← hv]; exact he
                          · cases h0
                        subst hee
                        have HPP := Shut.mk (HP.out.call hP hS)
                        have hgh := lt_blk HH.out
                        have HHq := Shut.mk (show w2.heap[gH]? = some (.cells (rowI S) 47 (0, 0)) from hS.only.at_ HH.out (fun e => HNG.out gH (.inl e) rfl))
                        have HNQ := Shut.mk (show ∀ j, FootP g X' j ∨ T j → j ≠ gH from fun j hj e => by
                          rcases hj with hj | hj
                          · rcases hS.fresh j hj with h1 | h1
                            · exact HNG.out j (.inl h1) e
                            · omega
                          · exact HNG.out j (.inr hj) e)
                        have HAP3 := Shut.mk (show ApI PA c (mOf X') by rw [hM]; exact HAP2.out)
                        have HEM := Shut.mk (show allQ (mOf X' (8 * a + t)) = [] from List.eq_nil_of_length_eq_zero (by rw [HAP3.out.cnt _ HKX.out.1]; exact HCZ.out))
                        have HA3 := Shut.mk ((Below.refl w2.heap.size w2).alloc (Nat.le_refl _) (Obj.cells #[Value.int .i64 0, .int .u32 0, .int .i64 0, .int .i64 0, Value.slice none 0 0] 34 (0, 0)))
                        have HP3 := Shut.mk (HPP.out.quiet HA3.out)
                        have HH3 := Shut.mk ((HA3.out.block _ (lt_blk HHq.out)).trans HHq.out)
                        unfold pkV pk00
                        dsimp only
                        clear hP hS hM hE hgh hcell
                        go_wp2_with (fail)
                        refine (has_in HP3.out.is a t ha16 htl _ _ HA1.out rfl false ⟨(fun e => by cases e), fun e => absurd HEM.out e⟩).mono ?_
                        rintro e wn ⟨rfl, rfl⟩
                        generalize World.alloc w2 _ = w3 at *
                        have HZ2 := Shut.mk (show ∀ k, k < 8 * a + (t + 1) → c k = 0 from fun k hk => by
                          by_cases e : k = 8 * a + t
                          · rw [e]; exact HCZ.out
                          · exact HZ.out k (by omega))
                        go_wp2_with (fail)
                        go_roundw
                        case rel => (repeat apply Exists.intro); refine ⟨?_, rfl⟩; exact ⟨t + 1, T, X', c, S, by omega, by go_num, HP3.out, HAP3.out, HV.out, HH3.out, HNQ.out, HCB.out, HZ2.out⟩
                        case measure => simp [intOf]; omega
                      · omega
                    · obtain ⟨cn, hcn⟩ : ∃ n, c (8 * a + t) = n + 1 := ⟨c (8 * a + t) - 1, by omega⟩
                      obtain ⟨cv, hcv⟩ : ∃ v : Int, v = (cn : Int) + 1 := ⟨_, rfl⟩
                      have hcv0 : 0 < cv := by omega
                      have hcell : wr.cell? ⟨gH, a1 * 8 + t, none⟩ = some (.int .i64 cv) := by
                        have h1 := HCC.out
                        rw [hcn] at h1
                        rw [h1, hcv]; rfl
                      have hc30 := HCB.out _ HKX.out.1
                      obtain ⟨r, ds, q', hT⟩ := takes_is PA (mu (mOf X (8 * a + t)) + 1) (mOf X (8 * a + t)) [] (by omega) (pool_inv HP.out.is HKX.out.1)
                      obtain ⟨rfl, hcase⟩ := ap_take (bkQ_lt hdA.seed) HAP.out HKX.out.1 hT (pool_inv HP.out.is HKX.out.1)
                      rcases hcase with ⟨h0, -⟩ | ⟨p, n', h1, rfl, hid, hap2⟩
                      · omega
                      · obtain rfl : n' = cn := by omega
                        have HT := Shut.mk hT
                        have HAP2 := Shut.mk hap2
                        have HCN := Shut.mk hcn
                        have HCVN := Shut.mk hcv
                        have HCM := Shut.mk (show n' + 1 < gk by have := HCK.out; omega)
                        have HCB2 := Shut.mk (show ∀ k, k < 128 → updF c (8 * a + t) n' k ≤ 30 from fun k hk => by
                          by_cases e : k = 8 * a + t
                          · rw [e, updF_same]; omega
                          · rw [updF_other _ _ e]; exact HCB.out k hk)
                        have HZ2 := Shut.mk (show ∀ k, k < 8 * a + t → updF c (8 * a + t) n' k = 0 from fun k hk => by rw [updF_other _ _ (by omega)]; exact HZ.out k hk)
                        have HCV1 := Shut.mk (show cv - 1 = ((n' : Nat) : Int) by omega)
                        have hcvb : cv ≤ 31 := by omega
                        clear hT hap2 hcz hcn hc30 h1 hcv
                        go_wp2_with (fail)
                        refine (take_in_any HP.out.is a t ha16 htl _ _ HA1.out rfl 0 (by decide) (by decide) (some p) [] q' HT.out).mono ?_
                        rintro e w2 ⟨X', late, T2, v, hP, hS, hM, -, -, hE, -, -⟩
                        obtain ⟨A0, c0, rfl, rfl, -⟩ := hE.some_
                        have HPP := Shut.mk (HP.out.call hP hS)
                        have hgh := lt_blk HH.out
                        have HHq := Shut.mk (show w2.heap[gH]? = some (.cells (rowI S) 47 (0, 0)) from hS.only.at_ HH.out (fun e => HNG.out gH (.inl e) rfl))
                        have HNQ := Shut.mk (show ∀ j, FootP g X' j ∨ T j → j ≠ gH from fun j hj e => by
                          rcases hj with hj | hj
                          · rcases hS.fresh j hj with h1 | h1
                            · exact HNG.out j (.inl h1) e
                            · omega
                          · exact HNG.out j (.inr hj) e)
                        have HAP3 := Shut.mk (show ApI PA (updF c (8 * a + t) n') (mOf X') by rw [hM]; exact HAP2.out)
                        obtain ⟨pi, pf, pt, pa, pb⟩ := p
                        have hid2 : pi = iv := by
                          have h1 : pi = idK (8 * a + t) := hid
                          rw [h1, ← HID.out]
                        subst hid2
                        unfold pkV
                        dsimp only
                        have HA3 := Shut.mk ((Below.refl w2.heap.size w2).alloc (Nat.le_refl _) (Obj.cells #[Value.int .i64 pi, .int .u32 pf, .int .i64 pt, .int .i64 pa, Value.slice A0 pb.length c0] 34 (0, 0)))
                        have HP3 := Shut.mk (HPP.out.quiet HA3.out)
                        have HH3 := Shut.mk ((HA3.out.block _ (lt_blk HHq.out)).trans HHq.out)
                        have hwr1 := HM1.out
                        have hwr2 := HM2.out
                        have hii : (pi == pi) = true := by simp
                        clear hP hS hM hE hgh hcell hid
                        go_wp2_with (fail)
                        generalize World.alloc w2 _ = w3 at *
                        obtain ⟨w8, hw8⟩ : ∃ wD, wD = World.drew w3 := ⟨_, rfl⟩
                        have HWw8 := Shut.mk hw8
                        have HDw8 := Shut.mk (show Below w3.heap.size w3 w8 by rw [hw8]; exact (Below.refl _ _).drew)
                        clear hw8
                        have HHV := Shut.mk ((HDw8.out.block _ (lt_blk HH3.out)).trans HH3.out)
                        have HLT := Shut.mk (show a1 * 8 + t < S.length by rw [HV.out.len]; omega)
                        have HCV := Shut.mk (show w8.cell? ⟨gH, a1 * 8 + t, none⟩ = some (.int .i64 cv) by
                          have h1 := rowI_cell HHV.out (a1 * 8 + t) HLT.out
                          have h2 := HV.out.at_ (8 * a + t) HKX.out.1
                          rw [HKX.out.2, HCN.out] at h2
                          rw [h2] at h1
                          rw [h1, HCVN.out]; rfl)
                        have HV2 := Shut.mk (show HaveI (updF c (8 * a + t) n') (S.set (a1 * 8 + t) (cv - 1)) by
                          have h1 := HV.out.set HKX.out.1 n'
                          rw [HKX.out.2] at h1
                          rw [HCV1.out]; exact h1)
                        have H17 := Shut.mk (show (a1 : Int) < 17 by omega)
                        have H8 := Shut.mk (show (t : Int) < 8 by omega)
                        have HWR := Shut.mk (show IntKind.i64.wrap (cv - 1) = cv - 1 from IntWalk.i64_in _ ⟨by omega, by omega⟩)
                        have HWE0 := Shut.mk (show Only (· = gH) w8 (w8.setRow gH (rowI (S.set (a1 * 8 + t) (cv - 1)))) from only_setRow _ _ _)
                        have HHE0 := Shut.mk (setRow_heap w8 gH _ (rowI (S.set (a1 * 8 + t) (cv - 1))) _ (0, 0) HHV.out)
                        obtain ⟨wE, hwE⟩ : ∃ wE, wE = w8.setRow gH (rowI (S.set (a1 * 8 + t) (cv - 1))) := ⟨_, rfl⟩
                        rw [← hwE] at HWE0 HHE0
                        have HWE := Shut.mk hwE.symm
                        clear hwE
                        have HPE := Shut.mk ((HP3.out.quiet HDw8.out).only HWE0.out (fun j hj e => HNQ.out j (.inl hj) e) (fun j hj e => HNQ.out j (.inr hj) e) (fun j e => by rw [e]; exact HGW.out))
                        clear hwr1 hwr2
                        go_wp2_with (fail)
                        refine wp_region_D (fun w' => w8 = w') 8 (by kernel_rfl) HWw8.out (fun hHeld hC => ?_)
                        rw [← HWw8.out] at hHeld ⊢
                        refine wpAnyD_pure (i := 0) (v := ?_) rfl hC (by kernel_rfl) (by kernel_rfl) (by kernel_rfl) (by decide) (fun _ _ _ h => h) (Or.inl ⟨by rfl, ?_⟩) (fun _ => hHeld) ?_
                        rotate_left
                        · intro w hSw
                          clear hSw
                          go_simp
                          try with_reducible rfl
                        try simp only [Act.put, List.getElem_toArray, List.getElem_cons_zero, List.getElem_cons_succ, List.setIfInBounds_toArray, List.set_cons_zero, List.set_cons_succ]
                        clear hC
                        intro hC
                        refine wpAnyD_pure (i := 1) (v := ?_) rfl hC (by kernel_rfl) (by kernel_rfl) (by kernel_rfl) (by decide) (fun _ _ _ h => h) (Or.inl ⟨by rfl, ?_⟩) (fun _ => hHeld) ?_
                        rotate_left
                        · intro w hSw
                          clear hSw
                          go_simp
                          try with_reducible rfl
                        try simp only [Act.put, List.getElem_toArray, List.getElem_cons_zero, List.getElem_cons_succ, List.setIfInBounds_toArray, List.set_cons_zero, List.set_cons_succ]
                        clear hC
                        intro hC
                        refine wpAnyD_pure (i := 2) (v := ?_) rfl hC (by kernel_rfl) (by kernel_rfl) (by kernel_rfl) (by decide) (fun _ _ _ h => h) (Or.inl ⟨by rfl, ?_⟩) (fun _ => hHeld) ?_
                        rotate_left
                        · intro w hSw
                          have h17 := H17.out
                          clear hSw
                          go_simp
                          try with_reducible rfl
                        try simp only [Act.put, List.getElem_toArray, List.getElem_cons_zero, List.getElem_cons_succ, List.setIfInBounds_toArray, List.set_cons_zero, List.set_cons_succ]
                        clear hC
                        intro hC
                        refine wpAnyD_pure (i := 3) (v := ?_) rfl hC (by kernel_rfl) (by kernel_rfl) (by kernel_rfl) (by decide) (fun _ _ _ h => h) (Or.inl ⟨by rfl, ?_⟩) (fun _ => hHeld) ?_
                        rotate_left
                        · intro w hSw
                          have h8 := H8.out
                          clear hSw
                          go_simp
                          try with_reducible rfl
                        try simp only [Act.put, List.getElem_toArray, List.getElem_cons_zero, List.getElem_cons_succ, List.setIfInBounds_toArray, List.set_cons_zero, List.set_cons_succ]
                        clear hC
                        intro hC
                        refine wpAnyD_take (i := 4) (v := ?_) 40 rfl (by kernel_rfl) hC (by kernel_rfl) (by kernel_rfl) (by kernel_rfl) (by decide) (fun _ _ _ h => h) (Or.inl ⟨by rfl, ?_⟩) (fun _ => hHeld) ?_
                        rotate_left
                        · intro w hSw
                          have hz := (show w.cell? ⟨gH, a1 * 8 + t, none⟩ = some (.int .i64 cv) from by rw [← hSw]; exact HCV.out)
                          clear hSw
                          go_simp
                          try with_reducible rfl
                        try simp only [Act.put, List.getElem_toArray, List.getElem_cons_zero, List.getElem_cons_succ, List.setIfInBounds_toArray, List.set_cons_zero, List.set_cons_succ]
                        clear hC
                        intro hC
                        refine wpAnyD_pure (i := 5) (v := ?_) rfl hC (by kernel_rfl) (by kernel_rfl) (by kernel_rfl) (by decide) (fun _ _ _ h => h) (Or.inl ⟨by rfl, ?_⟩) (fun _ => hHeld) ?_
                        rotate_left
                        · intro w hSw
                          have hwr := HWR.out
                          clear hSw
                          go_simp
                          try with_reducible rfl
                        try simp only [Act.put, List.getElem_toArray, List.getElem_cons_zero, List.getElem_cons_succ, List.setIfInBounds_toArray, List.set_cons_zero, List.set_cons_succ]
                        clear hC
                        intro hC
                        refine wpAnyD_pure (i := 6) (v := ?_) rfl hC (by kernel_rfl) (by kernel_rfl) (by kernel_rfl) (by decide) (fun _ _ _ h => h) (Or.inl ⟨by rfl, ?_⟩) (fun _ => hHeld) ?_
                        rotate_left
                        · intro w hSw
                          have h17 := H17.out
                          clear hSw
                          go_simp
                          try with_reducible rfl
                        try simp only [Act.put, List.getElem_toArray, List.getElem_cons_zero, List.getElem_cons_succ, List.setIfInBounds_toArray, List.set_cons_zero, List.set_cons_succ]
                        clear hC
                        intro hC
                        refine wpAnyD_pure (i := 7) (v := ?_) rfl hC (by kernel_rfl) (by kernel_rfl) (by kernel_rfl) (by decide) (fun _ _ _ h => h) (Or.inl ⟨by rfl, ?_⟩) (fun _ => hHeld) ?_
                        rotate_left
                        · intro w hSw
                          have h8 := H8.out
                          clear hSw
                          go_simp
                          try with_reducible rfl
                        try simp only [Act.put, List.getElem_toArray, List.getElem_cons_zero, List.getElem_cons_succ, List.setIfInBounds_toArray, List.set_cons_zero, List.set_cons_succ]
                        clear hC
                        intro hC
                        refine wpAnyD_one (i := 8) (by kernel_rfl) rfl hC (fun K hK => ?_)
                        clear hC
                        rw [← hHeld]
                        refine step_store_into rfl 3 (.tmp 180) (.tmp 178) rfl gH (a1 * 8 + t) (.int .i64 (cv - 1)) rfl rfl rfl 47 (rowI S) (rowI (S.set (a1 * 8 + t) (cv - 1))) HHV.out size1i (by rw [rowI_size]; exact HLT.out) (rowI_set _ _ _) ?_
                        rw [show World.setRow w8 gH _ = wE from HWE.out]
                        refine hK.out _ _ (past (by kernel_rfl)) (fun hC => ?_)
                        clear hK K
                        try simp only [Act.put, List.getElem_toArray, List.getElem_cons_zero, List.getElem_cons_succ, List.setIfInBounds_toArray, List.set_cons_zero, List.set_cons_succ]
                        refine wpAnyD_done (by kernel_rfl) ?_ _
                        try simp only [Act.put, List.getElem_toArray, List.getElem_cons_zero, List.getElem_cons_succ, List.setIfInBounds_toArray, List.set_cons_zero, List.set_cons_succ]
                        clear hHeld hC
                        go_wp2_with (fail)
                        go_roundg (n' + 1)
                        case measure => exact HCM.out
                        case rel => exact ⟨T, X', updF c (8 * a + t) n', _, HPE.out, HAP3.out, HV2.out, HHE0.out, HNQ.out, HCB2.out, HZ2.out, by rw [updF_same]; omega⟩
                · have ht' : t = 8 := by omega
                  subst ht'
                  have HZ2 := Shut.mk (show ∀ k, k < 8 * (a + 1) → c k = 0 from fun k hk => HZ.out k (by omega))
                  have HA2 := Shut.mk (show (a1 : Int) + 1 = ((a + 1 : Nat) : Int) + 1 by have := HA1.out; omega)
                  go_wp2_with (fail)
                  go_roundw
                  case rel => exact ⟨a + 1, T, X, c, S, by omega, by rw [← HA2.out], HP.out, HAP.out, HV.out, HH.out, HNG.out, HCB.out, HZ2.out⟩
                  case measure => have := HA1.out; simp [intOf]; omega
            · have ha' : a = 16 := by omega
              subst ha'
              have hal := ap_empty HAP.out HZ.out
              have HAL := Shut.mk hal
              have h00 : ((0 : Int) == 0) = true := rfl
              have h13 : (((103 : Nat) : Int) == 103) = true := rfl
              clear hal
              have hS0 := HS.out.below HP.out.bel
              have HS0 := Shut.mk hS0
              clear hS0
              go_wp2_with (fail)
              refine (put_no_any 0 0 (fun h => by have := h.1; omega) g wr E HS0.out 0 0 0 none 0 0).mono ?_
              rintro e wa1 ⟨rfl, hB1⟩
              have HPa := Shut.mk (HP.out.quiet hB1)
              have HSa := Shut.mk (HS0.out.below hB1)
              clear hB1
              go_wp2_with (fail)
              refine (put_no_any 17 0 (fun h => by have := h.1; omega) g wa1 E HSa.out 0 0 0 none 0 0).mono ?_
              rintro e wa2 ⟨rfl, hB1⟩
              have HPb := Shut.mk (HPa.out.quiet hB1)
              have HSb := Shut.mk (HSa.out.below hB1)
              clear hB1
              go_wp2_with (fail)
              refine (put_no_any 1 8 (fun h => by have := h.2; omega) g wa2 E HSb.out 0 0 0 none 0 0).mono ?_
              rintro e wa3 ⟨rfl, hB1⟩
              have HPc := Shut.mk (HPb.out.quiet hB1)
              have HSc := Shut.mk (HSb.out.below hB1)
              clear hB1
              obtain ⟨ev, hev⟩ : ∃ v, v = errV E 103 := ⟨_, rfl⟩
              have HEV := Shut.mk hev
              rw [← hev]
              clear hev
              go_wp2_with (fail)
              refine (len_p_any HPc.out.is).mono ?_
              rintro e wa4 ⟨rfl, hB1⟩
              rw [HAL.out]
              have HPd := Shut.mk (HPc.out.quiet hB1)
              have HSd := Shut.mk (HSc.out.below hB1)
              clear hB1
              go_wp2_with (fail)
              rw [HEV.out]
              refine (is_any E 103 103 wa4 HSd.out (.inr (by decide))).mono ?_
              rintro e wa5 ⟨rfl, hB1⟩
              rw [h13]
              have HPe := Shut.mk (HPd.out.quiet hB1)
              have HSe := Shut.mk (HSd.out.below hB1)
              clear hB1
              go_wp2_with (fail)
              try rw [HEV.out]
              refine (is_any E 103 103 wa5 HSe.out (.inr (by decide))).mono ?_
              rintro e wa6 ⟨rfl, hB1⟩
              rw [h13]
              have HPf := Shut.mk (HPe.out.quiet hB1)
              have HSf := Shut.mk (HSe.out.below hB1)
              clear hB1
              go_wp2_with (fail)
              try rw [HEV.out]
              refine (is_any E 103 103 wa6 HSf.out (.inr (by decide))).mono ?_
              rintro e wa7 ⟨rfl, hB1⟩
              rw [h13]
              have HPg := Shut.mk (HPf.out.quiet hB1)
              clear hB1
              go_wp2_with (fail)
              go_ret
              exact ⟨rfl, HPg.out.bel⟩

end Go.Proofs.YtaibopaagjodoaaDoor.poolApart
