/-
  CONTRACTS of ba's land, Went.
-/
import Derived.Test.YtlbfioknkagboaaDoorSeF
namespace Go.Proofs.YtlbfioknkagboaaDoor
open Go.ChangeShapes Go.WideShapes Go.ChangeAt Go.RowKit Go.Deep
set_option linter.unusedVariables false
set_option linter.unusedSimpArgs false

/-! ### one cell of a row of structs -/
theorem run_storeAt_cell {P : Program} (w : World) (g j : Nat) (ty : TypeId) (v0 v : Value) (hcell : w.cell? ⟨g, j, none⟩ = some v0) (hfro : w.frozen? ⟨g, j, none⟩ = false) (hi : (P.info? ty).map (·.size) = some 1) (h1 : v.oneCell' = true) :
    (Instr.storeAt ty (.pointer (some ⟨g, j, none⟩)) v).run P w = .ok () (w.setCell ⟨g, j, none⟩ v) := by
  have hc : v.cells = #[v] := by cases v <;> first | rfl | cases h1
  have hst : (store ⟨g, j, none⟩ v).run P w = .ok () (w.setCell ⟨g, j, none⟩ v) := by
    rw [run_store P w _ v _ h1, hcell]
    simp [hfro]
  have hadd : (⟨g, j, none⟩ : Addr).add 0 = ⟨g, j, none⟩ := by unfold Addr.add; split <;> simp_all
  cases hq : P.info? ty with
  | none => simp [hq] at hi
  | some inf =>
    have hs : inf.size = 1 := by simpa [hq] using hi
    simp [Instr.storeAt, Instr.sureAddr, storeVar, sizeOf, typeInfo, hq, hc, hs, storeCells, hadd, hst, Result.andThen]
theorem flat_set {α : Type} {F : α → List Value} {sz : Nat} {d : α} (hF : ∀ a, (F a).length = sz) : ∀ (l : List α) (i j : Nat) (b : α) (v : Value), i < l.length → j < sz → F b = (F (l.getD i d)).set j v → (l.flatMap F).set (i * sz + j) v = (l.set i b).flatMap F
  | [], i, j, b, v, hi, hj, hb => by simp at hi
  | a :: r, 0, j, b, v, hi, hj, hb => by
    have hb' : F b = (F a).set j v := hb
    rw [List.flatMap_cons, Nat.zero_mul, Nat.zero_add, List.set_append_left _ _ (by rw [hF]; exact hj), List.set_cons_zero, List.flatMap_cons, hb']
  | a :: r, i + 1, j, b, v, hi, hj, hb => by
    have h1 := flat_set hF r i j b v (by simpa using hi) hj hb
    rw [List.flatMap_cons, List.set_append_right _ _ (by rw [hF, Nat.succ_mul]; omega), hF, show (i + 1) * sz + j - sz = i * sz + j by rw [Nat.succ_mul]; omega, h1, List.set_cons_succ, List.flatMap_cons]
theorem wpList_store_fr {P : Program} {ops : Array Oper} {rest : List Oper} {o : Oper} {a : Act} {w : World} {Q : Exit → Act → World → Prop} (hgd : Region.wanted o (yielded ops a.tmps) = true) (ty : TypeId) (x y : Operand) (ho : o.op = .store ty x y)
    (B : Nat) (T : TypeId) (g k j n cap off : Nat) (l : List Fm) (f' : Fm) (v : Value) (hx : a.eval x = .pointer (some ⟨g, off, none⟩)) (hoff : off = k * 9 + j) (hy : a.eval y = v) (h1 : v.oneCell' = true) (hO : OwnS frC 9 w B T (.slice (some ⟨g, 0, none⟩) n cap) n l) (hk : k < n) (hj : j < 9) (hi : (P.info? ty).map (·.size) = some 1) (hf : frC f' = (frC (l.getD k fm0)).set j v)
    (h : ∀ w', Shut (OwnS frC 9 w' B T (.slice (some ⟨g, 0, none⟩) n cap) n (l.set k f')) → Shut (Only (· = g) w w') → wpList P ops Q rest (a.put o.dst undef) w') : wpList P ops Q (o :: rest) a w :=
  wpList_step fun _ hK => by
    subst hoff
    have hll : l.length = n := hO.2
    have hlt : k * 9 + j < n * 9 := by omega
    have hfl : (l.flatMap frC).length = n * 9 := hO.1.1
    have hcell : w.cell? ⟨g, k * 9 + j, none⟩ = some ((l.flatMap frC)[k * 9 + j]'(by omega)) := by rw [World.ownsRow.cellAt hO.1 _ hlt]; simp [show k * 9 + j < (l.flatMap frC).length by omega]
    rw [if_pos hgd]
    unfold Oper.wp execOp
    simp only [ho, hx, hy, Sem.run_bind, Sem.run_pure, Result.andThen_ok, run_storeAt_cell w g (k * 9 + j) ty _ v hcell (World.ownsRow.frozenAt hO.1 _) hi h1]
    have hs := World.ownsRow.stored hO.1 (k * 9 + j) v
    refine hK _ _ (h _ ⟨⟨?_, by rw [List.length_set]; exact hll⟩⟩ ⟨(Only.refl (· = g) w).setCell (p := ⟨g, k * 9 + j, none⟩) (fun _ => rfl) v⟩)
    rw [← flat_set (d := fm0) frC_len l k j f' v (by omega) hj hf]
    exact hs.1
theorem set_map {u : Fm → Fm} {l : List Fm} {k : Nat} (h : k < l.length) : ((l.take k).map u ++ l.drop k).set k (u (l.getD k fm0)) = (l.take (k + 1)).map u ++ l.drop (k + 1) := by
  rw [drop_fm h, take_fm h, List.map_append, List.set_append_right _ _ (by simp; omega), List.length_map, List.length_take, show k - min k l.length = 0 by omega, List.set_cons_zero, List.append_assoc]
  rfl
theorem get_mid {u : Fm → Fm} {l : List Fm} {k : Nat} (h : k < l.length) : ((l.take k).map u ++ l.drop k).getD k fm0 = l.getD k fm0 := by
  rw [List.getD, List.getElem?_append_right (by simp; omega), List.length_map, List.length_take, show k - min k l.length = 0 by omega, drop_fm h]
  rfl
theorem set_get {l : List Fm} {i : Nat} {f : Fm} (h : i < l.length) : (l.set i f).getD i fm0 = f := by rw [List.getD, List.getElem?_set]; simp [h]
theorem mid_len {u : Fm → Fm} {l : List Fm} {k : Nat} (h : k ≤ l.length) : ((l.take k).map u ++ l.drop k).length = l.length := by simp; omega
theorem slice_at {w : World} {B : Nat} {p : Sp} {s : Sb} (h : IsSe B w p s) (hp : 0 < s.l.length) : ∃ g cap, p.v = .slice (some ⟨g, 0, none⟩) s.l.length cap := by
  obtain ⟨g, cap, e, -⟩ := World.ownsRow.form h.row.1 hp
  exact ⟨g, cap, e⟩
/-- its row turned. -/
theorem IsSe.row_ {w w' : World} {B : Nat} {p : Sp} {s : Sb} {g cap n : Nat} {l' : List Fm} (h : IsSe B w p s) (hv : p.v = .slice (some ⟨g, 0, none⟩) n cap) (hr : OwnS frC 9 w' B 85 p.v l'.length l') (ho : Only (· = g) w w') : IsSe B w' p { s with l := l' } := by
  have hg := h.ng g (by rw [hv]; rfl)
  exact ⟨ho.at_ h.blk (fun e => hg.1 e.symm), h.win.only ho (fun e => hg.2 e.symm), hr, h.ne, h.ng, h.lo⟩
section
variable {B : Nat} {w : World} {p : Sp} {s : Sb}

/-! ### land -/
set_option maxRecDepth 100000 in
set_option maxHeartbeats 8000000 in
theorem land_any (h : IsSe B w p s) (hn : s.l.length ≤ 64) :
    Calls Tryd.prog 51 #[.pointer (some ⟨p.g, 0, none⟩)] w fun e w' => e = .returned (.tuple #[]) ∧ IsSe B w' p { s with l := lostL s.l } ∧ Only (FootS p) w w' := by
  obtain ⟨A, cp, hv, -⟩ := owns_form h.row.1
  obtain ⟨-, -, -, -, -, -, c6, -⟩ := h.cells
  rw [hv] at c6
  have HSE := Shut.mk h
  have HV := Shut.mk hv
  obtain ⟨l, hl⟩ : ∃ l, l = s.l := ⟨_, rfl⟩
  have HLS := Shut.mk hl
  rw [← hl] at c6 hn HV
  obtain ⟨n, hnn⟩ : ∃ n, n = l.length := ⟨_, rfl⟩
  rw [← hnn] at c6 hn HV
  have HL := Shut.mk hnn.symm
  clear h hv hl hnn
  go_enter Tryd.func51, Tryd.ntmps51
  go_wp2_with (fail)
  go_loopw [8] (fun i wr => ∃ k : Nat, k ≤ n ∧ i = .int .i64 k ∧ IsSe B wr p { s with l := (l.take k).map (fun f => (f.1, false)) ++ l.drop k } ∧ Only (FootS p) w wr) (fun i _ => n - (intOf i).toNat)
  case atStart => exact ⟨0, by omega, rfl, by rw [HLS.out]; exact HSE.out, Only.refl _ _⟩
  case round =>
    obtain ⟨k, hk, rfl, hs, ho⟩ := hrel
    have HS := Shut.mk hs
    have HO := Shut.mk ho
    clear hs ho c6
    by_cases hlt : k < n
    · have hi : (k : Int) < (n : Int) := by omega
      have HKL := Shut.mk (show k < l.length by rw [HL.out]; exact hlt)
      obtain ⟨-, -, -, -, -, -, c6, -⟩ := HS.out.cells
      have HML := Shut.mk (mid_len (u := fun f => (f.1, false)) (Nat.le_of_lt HKL.out))
      obtain ⟨g, cap, e⟩ := slice_at HS.out (by show 0 < ((l.take k).map (fun f => (f.1, false)) ++ l.drop k).length; rw [HML.out]; have := HKL.out; omega)
      have e' : p.v = .slice (some ⟨g, 0, none⟩) n cap := by rw [e]; show Value.slice _ ((l.take k).map (fun f => (f.1, false)) ++ l.drop k).length _ = _; rw [HML.out, HL.out]
      rw [e'] at c6
      have HE := Shut.mk e'
      have HROW := Shut.mk (show OwnS frC 9 wr B 85 (.slice (some ⟨g, 0, none⟩) n cap) n ((l.take k).map (fun f => (f.1, false)) ++ l.drop k) by
        have h1 := HS.out.row
        rw [e'] at h1
        have h2 : ((l.take k).map (fun f : Fm => (f.1, false)) ++ l.drop k).length = n := by rw [HML.out, HL.out]
        exact ⟨by have h3 := h1.1; rw [show Sb.l { s with l := (l.take k).map (fun f : Fm => (f.1, false)) ++ l.drop k } = (l.take k).map (fun f : Fm => (f.1, false)) ++ l.drop k from rfl, h2] at h3; exact h3, h2⟩)
      have HGM := Shut.mk (get_mid (u := fun f => (f.1, false)) HKL.out)
      have HSM := Shut.mk (set_map (u := fun f => (f.1, false)) HKL.out)
      clear e e'
      go_wp2_with (first
        | (refine wpList_store_fr rfl 4 (.tmp 17) (.const (.bool false)) rfl B 85 g k 8 n cap _ _ ((l.getD k fm0).1, false) (.bool false) rfl rfl rfl rfl HROW.out hlt (by omega) sizeB1 (by rw [HGM.out]; rfl) ?_
           intro w6 HO6 HB6))
      rw [HSM.out] at HO6
      have HS6 := Shut.mk (show IsSe B w6 p { s with l := (l.take (k + 1)).map (fun f => (f.1, false)) ++ l.drop (k + 1) } from HS.out.row_ HE.out (by
        have h2 : ((l.take (k + 1)).map (fun f : Fm => (f.1, false)) ++ l.drop (k + 1)).length = n := by rw [mid_len (by have := HKL.out; omega), HL.out]
        rw [HE.out, h2]; exact HO6.out) HB6.out)
      have HOE := Shut.mk (HO.out.trans HB6.out fun i hi e => by subst e; exact .inr (.inr (by rw [HE.out]; rfl)))
      go_roundw
      case rel => exact ⟨k + 1, by omega, by go_num, HS6.out, HOE.out⟩
      case measure => simp [intOf]; omega
    · have hk' : k = n := by omega
      subst hk'
      have HEQ := Shut.mk (show (l.take k).map (fun f : Fm => (f.1, false)) ++ l.drop k = lostL s.l by rw [← HLS.out, List.take_of_length_le (by rw [HL.out]; omega), List.drop_eq_nil_of_le (by rw [HL.out]; omega), List.append_nil]; rfl)
      rw [HEQ.out] at HS
      go_wp2_with (fail)
      go_end0
      exact ⟨rfl, HS.out, HO.out⟩

/-! ### Went -/
def fineAt (l : List Fm) (xs : List Int) (k : Nat) : Bool := l.any (dueP (xs.getD k 0)) && !decide (xs.getD k 0 ∈ xs.take k)
def fineB (l : List Fm) (xs : List Int) : Bool := (List.range xs.length).all (fineAt l xs)
def wentC (l : List Fm) (xs : List Int) : Nat := if fineB l xs = false then 107 else if l.any flyP = true then 110 else 0
def goI (xs : List Int) (f : Fm) : Fm := if ((f.1.seq : Nat) : Int) ∈ xs then ({ f.1 with sent := f.1.sent + 1 }, true) else f
def wentT (l : List Fm) (xs : List Int) : List Fm := if wentC l xs = 0 then l.map (goI xs) else l
theorem wentT_0 {l : List Fm} {xs : List Int} (h : wentC l xs = 0) : wentT l xs = l.map (goI xs) := if_pos h
theorem wentT_n {l : List Fm} {xs : List Int} {n : Nat} (h : wentC l xs = n + 1) : wentT l xs = l := if_neg (by rw [h]; omega)
theorem fine_yes {l : List Fm} {xs : List Int} (h : ∀ k, k < xs.length → fineAt l xs k = true) : fineB l xs = true := by
  unfold fineB; rw [List.all_eq_true]; exact fun k hk => h k (List.mem_range.1 hk)
theorem fine_no {l : List Fm} {xs : List Int} {k : Nat} (hk : k < xs.length) (h : fineAt l xs k = false) : fineB l xs = false := by
  unfold fineB; rw [List.all_eq_false]; exact ⟨k, List.mem_range.2 hk, by rw [h]; simp⟩
set_option maxRecDepth 100000 in
set_option maxHeartbeats 8000000 in
theorem went_any (h : IsSe B w p s) (hi : InvB s) (E : Nat → Addr) (hE : Sent w E [107, 110]) (A : Option Addr) (m c : Nat) (xs : List Int) (hx : RowB .i64 w A m xs) (hmc : m ≤ c) (hap : ∀ a, A = some a → ¬ FootS p a.block) (hsn : ∀ f ∈ s.l, f.1.sent ≤ 1000000) :
    Calls Tryd.prog 20 #[.pointer (some ⟨p.g, 0, none⟩), .slice A m c] w fun e w' => e = .returned (errV E (wentC s.l xs)) ∧ IsSe B w' p { s with l := wentT s.l xs } ∧ Only (FootS p) w w' := by
  have HSE := Shut.mk h
  have HI := Shut.mk hi
  have HE := Shut.mk hE
  have HX := Shut.mk hx
  have HAP := Shut.mk hap
  have HSN := Shut.mk hsn
  have HXL := Shut.mk hx.len
  have hle := hx.le
  unfold maxLen at hle
  have HMC := Shut.mk hmc
  clear h hi hE hx hap hsn hmc
  go_enter Tryd.func20, Tryd.ntmps20
  go_wp2_with (fail)
  go_loopw [11] (fun i wr => ∃ k : Nat, k ≤ m ∧ i = .int .i64 k ∧ (∀ j, j < k → fineAt s.l xs j = true) ∧ Below w.heap.size w wr) (fun i _ => m - (intOf i).toNat)
  case atStart => exact ⟨0, by omega, rfl, (fun j hj => by omega), Below.refl _ _⟩
  case round =>
    obtain ⟨k, hk, rfl, hf, hb⟩ := hrel
    have HF := Shut.mk hf
    have HB := Shut.mk hb
    have HX2 := Shut.mk (HX.out.below HB.out)
    have HS2 := Shut.mk (HSE.out.below HB.out)
    have HOB := Shut.mk (show Only (FootS p) w wr from Only.of_quiet hb)
    clear hf hb
    by_cases hlt : k < m
    · obtain ⟨b, off, rfl, hc⟩ := HX2.out.el k hlt
      have hi : (k : Int) < (m : Int) := by omega
      have hkc : (k : Int) ≤ (c : Int) := by have := HMC.out; omega
      have HXI := Shut.mk (HX2.out.first k (Nat.le_of_lt hlt))
      have hwf := HX2.out.wf k hlt
      obtain ⟨v, hv⟩ : ∃ v, v = xs.getD k 0 := ⟨_, rfl⟩
      have HFA := Shut.mk (show fineAt s.l xs k = (s.l.any (dueP v) && !decide (v ∈ xs.take k)) by rw [hv]; rfl)
      have HNO := Shut.mk (fine_no (l := s.l) (xs := xs) (k := k) (by rw [HXL.out]; exact hlt))
      rw [← hv] at hc hwf
      clear hv
      go_wp2_with (fail)
      refine (isdue_any HS2.out HI.out v).mono ?_
      rintro e w2 ⟨rfl, hb2⟩
      have HB2 := Shut.mk (HB.out.trans (hb2.mono HB.out.size))
      have HXI2 := Shut.mk (HXI.out.below hb2)
      clear hb2 hc
      cases hd : s.l.any (dueP v) with
      | false =>
        have HC := Shut.mk (show wentC s.l xs = 107 by unfold wentC; rw [if_pos (HNO.out (by rw [HFA.out, hd]; rfl))])
        have hg := HE.out.below HB2.out
        have hgc : w2.cell? ⟨3, 0, none⟩ = some (errP (E 107)) := hg.at_ 107 (by decide)
        obtain ⟨er, her⟩ : ∃ er, er = errP (E 107) := ⟨_, rfl⟩
        rw [← her] at hgc
        have HER := Shut.mk (show er = errV E 107 from her)
        have hoc : er.oneCell' = true := by rw [her]; rfl
        clear her
        clear hg
        go_wp2_with (fail)
        go_ret
        rw [HC.out, wentT_n HC.out]
        exact ⟨ret_vv HER.out.symm, HSE.out.below HB2.out, Only.of_quiet HB2.out⟩
      | true =>
        go_wp2_with (fail)
        refine (contains_any (some ⟨b, off, none⟩) k c (xs.take k) v w2 HXI2.out).mono ?_
        rintro e w3 ⟨rfl, rfl⟩
        by_cases hm : v ∈ xs.take k
        · have HC := Shut.mk (show wentC s.l xs = 107 by unfold wentC; rw [if_pos (HNO.out (by rw [HFA.out, decide_eq_true hm]; simp))])
          have hg := HE.out.below HB2.out
          have hgc : w2.cell? ⟨3, 0, none⟩ = some (errP (E 107)) := hg.at_ 107 (by decide)
          obtain ⟨er, her⟩ : ∃ er, er = errP (E 107) := ⟨_, rfl⟩
          rw [← her] at hgc
          have HER := Shut.mk (show er = errV E 107 from her)
          have hoc : er.oneCell' = true := by rw [her]; rfl
          clear her
          rw [decide_eq_true hm]
          clear hg hm
          go_wp2_with (fail)
          go_ret
          rw [HC.out, wentT_n HC.out]
          exact ⟨ret_vv HER.out.symm, HSE.out.below HB2.out, Only.of_quiet HB2.out⟩
        · have HFK := Shut.mk (show fineAt s.l xs k = true by rw [HFA.out, hd, decide_eq_false hm]; rfl)
          rw [decide_eq_false hm]
          clear hm
          go_wp2_with (fail)
          go_roundw
          case rel => exact ⟨k + 1, by omega, by go_num, (fun j hj => by
            rcases Nat.lt_or_ge j k with h1 | h1
            · exact HF.out j h1
            · rw [show j = k by omega]; exact HFK.out), HB2.out⟩
          case measure => simp [intOf]; omega
    · have hk' : k = m := by omega
      subst hk'
      have HFY := Shut.mk (fine_yes (l := s.l) (xs := xs) fun j hj => HF.out j (by rw [HXL.out] at hj; exact hj))
      go_wp2_with (fail)
      refine (somefly_any HS2.out HI.out).mono ?_
      rintro e w2 ⟨rfl, hb2⟩
      have HB2 := Shut.mk (HB.out.trans (hb2.mono HB.out.size))
      clear hb2
      cases hfl : s.l.any flyP with
      | true =>
        have HC := Shut.mk (show wentC s.l xs = 110 by unfold wentC; rw [HFY.out, hfl]; rfl)
        have hg := HE.out.below HB2.out
        have hgc : w2.cell? ⟨1, 0, none⟩ = some (errP (E 110)) := hg.at_ 110 (by decide)
        obtain ⟨er, her⟩ : ∃ er, er = errP (E 110) := ⟨_, rfl⟩
        rw [← her] at hgc
        have HER := Shut.mk (show er = errV E 110 from her)
        have hoc : er.oneCell' = true := by rw [her]; rfl
        clear her
        clear hg hfl
        go_wp2_with (fail)
        go_ret
        rw [HC.out, wentT_n HC.out]
        exact ⟨ret_vv HER.out.symm, HSE.out.below HB2.out, Only.of_quiet HB2.out⟩
      | false =>
        have HC := Shut.mk (show wentC s.l xs = 0 by unfold wentC; rw [HFY.out, hfl]; rfl)
        have HS3 := Shut.mk (HSE.out.below HB2.out)
        have HX3 := Shut.mk (HX.out.below HB2.out)
        have HO3 := Shut.mk (show Only (FootS p) w w2 from Only.of_quiet HB2.out)
        obtain ⟨l, hl⟩ : ∃ l, l = s.l := ⟨_, rfl⟩
        have HLS := Shut.mk hl
        obtain ⟨n, hnn⟩ : ∃ n, n = l.length := ⟨_, rfl⟩
        have HL := Shut.mk hnn.symm
        have hn64 : n ≤ 64 := by rw [hnn, hl]; exact HI.out.len
        obtain ⟨A5, cp5, hv5, -⟩ := owns_form HS3.out.row.1
        obtain ⟨-, -, -, -, -, -, c6, -⟩ := HS3.out.cells
        rw [hv5, ← hl, ← hnn] at c6
        clear hfl hl hnn hv5
        go_wp2_with (fail)
        go_loopw [37] (fun i wr => ∃ k : Nat, k ≤ n ∧ i = .int .i64 k ∧ IsSe B wr p { s with l := (l.take k).map (goI xs) ++ l.drop k } ∧ Only (FootS p) w wr) (fun i _ => n - (intOf i).toNat)
        case atStart => exact ⟨0, by omega, rfl, by rw [HLS.out]; exact HS3.out, HO3.out⟩
        case round =>
          clear HS3 HO3
          obtain ⟨i, hi, rfl, hs, ho⟩ := hrel
          have HS := Shut.mk hs
          have HO := Shut.mk ho
          clear hs ho c6
          by_cases hlt : i < n
          · have hin : (i : Int) < (n : Int) := by omega
            have HKL := Shut.mk (show i < l.length by rw [HL.out]; exact hlt)
            obtain ⟨-, -, -, -, -, -, c6, -⟩ := HS.out.cells
            have HML := Shut.mk (mid_len (u := goI xs) (Nat.le_of_lt HKL.out))
            obtain ⟨g, cap, e⟩ := slice_at HS.out (by show 0 < ((l.take i).map (goI xs) ++ l.drop i).length; rw [HML.out]; have := HKL.out; omega)
            have e' : p.v = .slice (some ⟨g, 0, none⟩) n cap := by rw [e]; show Value.slice _ ((l.take i).map (goI xs) ++ l.drop i).length _ = _; rw [HML.out, HL.out]
            rw [e'] at c6
            have HEV := Shut.mk e'
            have HROW := Shut.mk (show OwnS frC 9 wr B 85 (.slice (some ⟨g, 0, none⟩) n cap) n ((l.take i).map (goI xs) ++ l.drop i) by
              have h1 := HS.out.row
              rw [e'] at h1
              have h2 : ((l.take i).map (goI xs) ++ l.drop i).length = n := by rw [HML.out, HL.out]
              exact ⟨by have h3 := h1.1; rw [show Sb.l { s with l := (l.take i).map (goI xs) ++ l.drop i } = (l.take i).map (goI xs) ++ l.drop i from rfl, h2] at h3; exact h3, h2⟩)
            have HGM := Shut.mk (get_mid (u := goI xs) HKL.out)
            have HSM := Shut.mk (set_map (u := goI xs) HKL.out)
            have HX4 := Shut.mk (HX.out.only HO.out HAP.out)
            obtain ⟨A9, c9, hA9, hrow9, -⟩ := HROW.out.row frC_len (d := fm0) (by unfold maxLen; omega)
            cases hA9
            obtain ⟨b9, o9, hb9, hrg⟩ := hrow9.el i hlt
            cases hb9
            rw [HGM.out, Nat.zero_add] at hrg
            have HSN2 := Shut.mk (HSN.out (l.getD i fm0) (by rw [← HLS.out]; exact mem_fm HKL.out))
            clear e e' hrow9
            obtain ⟨f, hf⟩ : ∃ f, f = l.getD i fm0 := ⟨_, rfl⟩
            rw [← hf] at HGM HSM hrg HSN2
            clear hf
            obtain ⟨⟨⟨pi, pf, pt, pa, pb⟩, sq, sn, tl⟩, fb⟩ := f
            have hrg' : wr.rangeAt g (i * 9) [.int .i64 pi, .int .u32 pf, .int .i64 pt, .int .i64 pa, .slice none 0 0, .int .i64 ((sq : Nat) : Int), .int .i64 ((sn : Nat) : Int), .int .i64 tl, .bool fb] := hrg
            have d5 : wr.cell? ⟨g, i * 9 + 5, none⟩ = some (.int .i64 ((sq : Nat) : Int)) := hrg' 5 _ rfl
            have hsn1 : sn ≤ 1000000 := HSN2.out
            clear hrg hrg'
            go_wp2_with (fail)
            refine (contains_any A k c xs ((sq : Nat) : Int) wr HX4.out).mono ?_
            rintro e w4 ⟨rfl, rfl⟩
            by_cases hm : ((sq : Nat) : Int) ∈ xs
            · have HGO := Shut.mk (show goI xs (⟨⟨pi, pf, pt, pa, pb⟩, sq, sn, tl⟩, fb) = (⟨⟨pi, pf, pt, pa, pb⟩, sq, sn + 1, tl⟩, true) by unfold goI; rw [if_pos hm])
              rw [decide_eq_true hm]
              clear hm
              rw [HGO.out] at HSM
              go_wp2_with (first
                | (refine wpList_store_fr rfl 4 (.tmp 55) (.const (.bool true)) rfl B 85 g i 8 n cap _ _ (⟨⟨pi, pf, pt, pa, pb⟩, sq, sn, tl⟩, true) (.bool true) rfl rfl rfl rfl HROW.out hlt (by omega) sizeB1 (by rw [HGM.out]; rfl) ?_
                   intro w6 HO6 HB6
                   have HGM6 := Shut.mk (show (((l.take i).map (goI xs) ++ l.drop i).set i (⟨⟨pi, pf, pt, pa, pb⟩, sq, sn, tl⟩, true)).getD i fm0 = (⟨⟨pi, pf, pt, pa, pb⟩, sq, sn, tl⟩, true) from set_get (by rw [HML.out]; exact HKL.out))
                   have d6 : w6.cell? ⟨g, i * 9 + 6, none⟩ = some (.int .i64 ((sn : Nat) : Int)) := by
                     obtain ⟨A9, c9, hA9, hrow9, -⟩ := HO6.out.row frC_len (d := fm0) (by unfold maxLen; omega)
                     cases hA9
                     obtain ⟨b9, o9, hb9, hrg⟩ := hrow9.el i hlt
                     cases hb9
                     rw [HGM6.out, Nat.zero_add] at hrg
                     exact hrg 6 _ rfl)
                | (refine wpList_store_fr rfl 3 (.tmp 64) (.tmp 61) rfl B 85 g i 6 n cap _ _ (⟨⟨pi, pf, pt, pa, pb⟩, sq, sn + 1, tl⟩, true) (.int .i64 (((sn + 1 : Nat)) : Int)) rfl rfl rfl rfl HO6.out hlt (by omega) size1i (by rw [HGM6.out]; rfl) ?_
                   intro w7 HO7 HB7))
              rw [List.set_set, HSM.out] at HO7
              have HO67 := Shut.mk (HB6.out.trans HB7.out fun i hi e => e)
              have HS6 := Shut.mk (show IsSe B w7 p { s with l := (l.take (i + 1)).map (goI xs) ++ l.drop (i + 1) } from HS.out.row_ HEV.out (by
                have h2 : ((l.take (i + 1)).map (goI xs) ++ l.drop (i + 1)).length = n := by rw [mid_len (by have := HKL.out; omega), HL.out]
                rw [HEV.out, h2]; exact HO7.out) HO67.out)
              have HOE := Shut.mk (HO.out.trans HO67.out fun i hi e => by subst e; exact .inr (.inr (by rw [HEV.out]; rfl)))
              go_roundw
              case rel => exact ⟨i + 1, by omega, by go_num, HS6.out, HOE.out⟩
              case measure => simp [intOf]; omega
            · have HGO := Shut.mk (show goI xs (⟨⟨pi, pf, pt, pa, pb⟩, sq, sn, tl⟩, fb) = (⟨⟨pi, pf, pt, pa, pb⟩, sq, sn, tl⟩, fb) by unfold goI; rw [if_neg hm])
              rw [decide_eq_false hm]
              clear hm
              have HSE2 := Shut.mk (show (l.take (i + 1)).map (goI xs) ++ l.drop (i + 1) = (l.take i).map (goI xs) ++ l.drop i by
                rw [← HSM.out, HGO.out]
                have h2 : i < ((l.take i).map (goI xs) ++ l.drop i).length := by rw [HML.out]; exact HKL.out
                have h3 := HGM.out
                rw [List.getD, List.getElem?_eq_getElem h2] at h3
                have h4 : ((l.take i).map (goI xs) ++ l.drop i)[i] = (⟨⟨pi, pf, pt, pa, pb⟩, sq, sn, tl⟩, fb) := h3
                rw [← h4, List.set_getElem_self])
              go_wp2_with (fail)
              go_roundw
              case rel => exact ⟨i + 1, by omega, by go_num, by rw [HSE2.out]; exact HS.out, HO.out⟩
              case measure => simp [intOf]; omega
          · have hi' : i = n := by omega
            subst hi'
            have HEQ := Shut.mk (show (l.take i).map (goI xs) ++ l.drop i = s.l.map (goI xs) by rw [← HLS.out, List.take_of_length_le (by rw [HL.out]; omega), List.drop_eq_nil_of_le (by rw [HL.out]; omega), List.append_nil])
            rw [HEQ.out] at HS
            go_wp2_with (fail)
            go_ret
            rw [HC.out, wentT_0 HC.out]
            exact ⟨rfl, HS.out, HO.out⟩
end
end Go.Proofs.YtlbfioknkagboaaDoor
