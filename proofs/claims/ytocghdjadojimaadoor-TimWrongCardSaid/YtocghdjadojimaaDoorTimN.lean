/-
  CONTRACTS: muezzinref.SameTim, the reference's TimBytes.
-/
import Derived.Test.YtocghdjadojimaaDoorTimE
namespace Go.Proofs.YtocghdjadojimaaDoor
open Go.ChangeShapes Go.WideShapes Go.ChangeAt Go.RowKit
set_option linter.unusedVariables false
set_option linter.unusedSimpArgs false

def sameT (p q : Tm) : Bool := p.c == q.c && p.p == q.p && p.g == q.g && sameB p.l q.l
theorem sameT_eq {p q : Tm} (h : sameT p q = true) : p = q := by
  unfold sameT at h
  simp only [Bool.and_eq_true, beq_iff_eq] at h
  obtain ⟨pc, pp, pg, pl⟩ := p
  obtain ⟨qc, qp, qg, ql⟩ := q
  obtain ⟨⟨⟨h1, h2⟩, h3⟩, h4⟩ := h
  have := sameB_eq h4
  dsimp only at *
  subst h1 h2 h3 this
  rfl
theorem sameT_refl (p : Tm) : sameT p p = true := by unfold sameT; simp [sameB_refl]
set_option maxRecDepth 100000 in
set_option maxHeartbeats 8000000 in
theorem sameTim_any (p q : Tm) (A : Option Addr) (n k : Nat) (B : Option Addr) (m j : Nat) (w : World) (hp : RowB .i64 w A n p.l) (hq : RowB .i64 w B m q.l) :
    Calls Tryd.prog 15 #[p.val A n k, q.val B m j] w fun e w' => e = .returned (.bool (sameT p q)) ∧ Below w.heap.size w w' := by
  obtain ⟨pc, pp, pg, pl⟩ := p
  obtain ⟨qc, qp, qg, ql⟩ := q
  dsimp only at *
  have HB := Lib.hid (((Below.refl w.heap.size w).alloc (Nat.le_refl _) (.cells ((Tm.mk pc pp pg pl).cells A n k) 24)).alloc (by simp) (.cells ((Tm.mk qc qp qg ql).cells B m j) 24))
  have HC := Lib.hid (sameInts_any A B n k m j pl ql _ (hp.below HB.out) (hq.below HB.out))
  have HE := Lib.hid (show sameT ⟨pc, pp, pg, pl⟩ ⟨qc, qp, qg, ql⟩ = (pc == qc && pp == qp && pg == qg && sameB pl ql) from rfl)
  generalize sameT ⟨pc, pp, pg, pl⟩ ⟨qc, qp, qg, ql⟩ = r at *
  clear hp hq
  cases e1 : (pc == qc)
  case false =>
    have HV := Lib.hid (show r = false by rw [HE.out, e1]; simp)
    go_enter Tryd.func15, Tryd.ntmps15
    go_wp2
    go_ret
    exact ⟨ret_b HV.out, HB.out⟩
  cases e2 : (pp == qp)
  case false =>
    have HV := Lib.hid (show r = false by rw [HE.out, e2]; simp)
    go_enter Tryd.func15, Tryd.ntmps15
    go_wp2
    go_ret
    exact ⟨ret_b HV.out, HB.out⟩
  cases e3 : (pg == qg)
  case false =>
    have HV := Lib.hid (show r = false by rw [HE.out, e3]; simp)
    go_enter Tryd.func15, Tryd.ntmps15
    go_wp2
    go_ret
    exact ⟨ret_b HV.out, HB.out⟩
  have HV := Lib.hid (show r = sameB pl ql by rw [HE.out, e1, e2, e3]; simp)
  go_enter Tryd.func15, Tryd.ntmps15
  go_wp2_with (fail)
  refine HC.out.mono ?_
  rintro e w' ⟨rfl, mm, rfl⟩
  go_wp2
  go_ret
  exact ⟨ret_b HV.out, below_drewN HB.out _⟩
set_option maxRecDepth 100000 in
set_option maxHeartbeats 8000000 in
theorem ref_no (q : Tm) (A : Option Addr) (n k : Nat) (w : World) (h : RowB .i64 w A n q.l) (hok : okT q = false) :
    Calls Tryd.prog 10 #[q.val A n k] w fun e w' => e = .returned (.tuple #[.slice none 0 0, .int .i64 103]) ∧ Below w.heap.size w w' := by
  obtain ⟨qc, qp, qg, l⟩ := q
  dsimp only at *
  have HB := Lib.hid ((Below.refl w.heap.size w).alloc (Nat.le_refl _) (.cells ((Tm.mk qc qp qg l).cells A n k) 24))
  have HC := Lib.hid (rising_any A n k l _ (h.below HB.out))
  clear h
  cases e1 : decide (qp < 1)
  case true =>
    have e1' : decide (qp ≤ 0) = true := by simp at e1 ⊢; omega
    go_enter Tryd.func10, Tryd.ntmps10
    go_wp2
    go_ret2
    exact ⟨rfl, HB.out⟩
  have e1' : decide (qp ≤ 0) = false := by simp at e1 ⊢; omega
  cases e2 : decide (255 < qp)
  case true =>
    go_enter Tryd.func10, Tryd.ntmps10
    go_wp2
    go_ret2
    exact ⟨rfl, HB.out⟩
  cases e3 : decide (qc < 0)
  case true =>
    go_enter Tryd.func10, Tryd.ntmps10
    go_wp2
    go_ret2
    exact ⟨rfl, HB.out⟩
  cases e4 : decide (qp ≤ qc)
  case true =>
    go_enter Tryd.func10, Tryd.ntmps10
    go_wp2
    go_ret2
    exact ⟨rfl, HB.out⟩
  rw [okT_head _ (by simp at e1; show 1 ≤ qp; omega) (by simpa using e2) (by simpa using e3) (by simpa using e4)] at hok
  dsimp only at hok
  rw [hok] at HC
  clear hok
  go_enter Tryd.func10, Tryd.ntmps10
  go_wp2_with (fail)
  refine HC.out.mono ?_
  rintro e w' ⟨rfl, rfl⟩
  go_wp2
  go_ret2
  exact ⟨rfl, HB.out⟩
theorem flag_still (b : Bool) (v : Int) (w : World) : Calls Tryd.prog 22 #[.bool b, .int .i64 v] w fun e w' => e = .returned (.int .i64 (if b = true then v else 0)) ∧ w' = w :=
  (flag_any b v w).mono fun _ _ ⟨h, e⟩ => ⟨h, e.symm⟩
set_option maxRecDepth 100000 in
set_option maxHeartbeats 8000000 in
theorem ref_yes (q : Tm) (A : Option Addr) (n c : Nat) (w : World) (h : RowB .i64 w A n q.l) (hok : okT q = true) :
    Calls Tryd.prog 10 #[q.val A n c] w fun e w' => ∃ g cap, e = .returned (.tuple #[.slice (some ⟨g, 0, none⟩) (5 + lenB q.l) cap, .int .i64 0]) ∧ OwnB w' w.heap.size 5 .u8 g (5 + lenB q.l) cap (encT q) ∧ Below w.heap.size w w' := by
  obtain ⟨i0, hi0, hz0, hz1, hz2⟩ := info_parts byte_info
  have byte_sz : (Tryd.prog.info? 5).map (·.size) = some 1 := sizeU8
  have HENC := Lib.hid (show encT q = [5, 3 + (lenB q.l : Int), q.c, q.p, fstB q.l + (if q.g = true then 1 else 0)] ++ partB q.l from rfl)
  have HPW := Lib.hid (partB_wf q.l)
  have HALL := Lib.hid (fun k h => mapT_all q.l k h)
  obtain ⟨p1, p2, c1, c2, hr⟩ := okT_fine hok
  obtain ⟨f0, f1, f2, f3, f4, f5⟩ := fst_facts hr
  obtain ⟨y0, y1, y2⟩ := ends_le hr
  have HIN := Lib.hid (fun a ha => in_part hr (a := a) ha)
  have HFD := Lib.hid (show fstB q.l = q.l.getD 0 0 / 16 * 2 from rfl)
  have HLD := Lib.hid (show lstB q.l = q.l.getD (q.l.length - 1) 0 / 8 from rfl)
  have HB := Lib.hid ((Below.refl w.heap.size w).alloc (Nat.le_refl _) (.cells (q.cells A n c) 24))
  have HG := Lib.hid (heap_alloc_last w (.cells (q.cells A n c) 24))
  have HC := Lib.hid (rising_any A n c q.l (w.alloc (.cells (q.cells A n c) 24)) (h.below HB.out))
  rw [hr] at HC
  have HR := Lib.hid h
  have HL := Lib.hid h.len
  have hle := h.le
  unfold maxLen at hle
  obtain ⟨qc, qp, qg, l⟩ := q
  dsimp only at *
  have e1 : decide (qp < 1) = false := by simp; omega
  have e1' : decide (qp ≤ 0) = false := by simp; omega
  have e2 : decide (255 < qp) = false := by simp; omega
  have e3 : decide (qc < 0) = false := by simp; omega
  have e4 : decide (qp ≤ qc) = false := by simp; omega
  generalize hET : encT _ = ET at *
  clear h hok hr hET
  generalize fstB l = f at *
  generalize lstB l = t at *
  generalize lenB l = m at *
  have HFG := Lib.hid (fun w' => flag_still qg 1 w')
  have hgv : (if qg = true then (1 : Int) else 0) = 0 ∨ (if qg = true then (1 : Int) else 0) = 1 := by cases qg <;> simp
  generalize (if qg = true then (1 : Int) else 0) = gv at *
  have HL0 := Lib.hid (fun (hp : 0 < n) => (HR.out.cells hp))
  rcases Nat.eq_zero_or_pos n with h0 | hp
  · have hl0 : l = [] := List.eq_nil_of_length_eq_zero (HL.out.trans h0)
    have hne : decide ((0 : Int) < (n : Int)) = false := by simp; omega
    have hne' : decide (0 < n) = false := by simp; omega
    have F0 : f = 0 := by have := HFD.out; rw [hl0] at this; simpa using this
    have T0 : t = 0 := by have := HLD.out; rw [hl0] at this; simpa using this
    have HN0 := Lib.hid h0
    clear hl0 y0 y1 y2 HL0 h0
    go_enter Tryd.func10, Tryd.ntmps10
    go_wp2_with (fail)
    refine HC.out.mono ?_
    rintro e w' ⟨rfl, rfl⟩
    generalize World.alloc w _ = w3 at *
    subst F0
    subst T0
    clear HC
    have d0 : w3.cell? ⟨w.heap.size, 0, none⟩ = some (.int .i64 qc) := cell_of_row w3 _ 0 _ _ _ HG.out
    have d1 : w3.cell? ⟨w.heap.size, 1, none⟩ = some (.int .i64 qp) := cell_of_row w3 _ 1 _ _ _ HG.out
    have d2 : w3.cell? ⟨w.heap.size, 2, none⟩ = some (.bool qg) := cell_of_row w3 _ 2 _ _ _ HG.out
    have d3 : w3.cell? ⟨w.heap.size, 3, none⟩ = some (.slice A n c) := cell_of_row w3 _ 3 _ _ _ HG.out
    go_wp2_with (at_make; refine wpList_make_full _ rfl _ _ 25 rfl w.heap.size 5 i0 (.int .u8 0) 1 Tryd.underlying25 hi0 hz0 hz1 _ _ _ _ m rfl rfl (by omega) (by omega) (by rw [hz2]; omega) (by unfold maxLen; omega) HB.out.size ?_; intro w4 hown1 hgrow1)
    rw [zeros] at hown1
    have HO := Lib.hid (show OwnB w4 w.heap.size 5 .u8 w3.heap.size m m (List.replicate m 0) from hown1)
    have T0 := Lib.hid (HB.out.grown hgrow1 HB.out.size (by simp))
    have T1 := Lib.hid ((((Below.refl w3.heap.size w3).grown hgrow1 (Nat.le_refl _) (by simp)).block _ (lt_blk HG.out)).trans HG.out)
    have HGB := Lib.hid HB.out.size
    have HNE := Lib.hid (Nat.ne_of_lt (lt_blk HG.out))
    clear HB HG hown1 hgrow1 d0 d1 d2 d3
    have HB := T0
    have HG := T1
    clear T0 T1
    generalize w3.heap.size = gb at *
    rw [← mapT_zero l (0 : Int) m] at HO
    have HF3 := Lib.hid f3
    clear f3
    go_wp2
    go_loopw [7] (fun i wr => ∃ k : Nat, k ≤ n ∧ i = .int .i64 k ∧ OwnB wr w.heap.size 5 .u8 gb m m (mapT l k (0 : Int) m) ∧ Below w.heap.size w wr ∧ wr.heap[w.heap.size]? = some (.cells ((Tm.mk qc qp qg l).cells A n c) 24 (0, 0))) (fun i _ => n - (intOf i).toNat)
    case atStart => exact ⟨0, by omega, rfl, HO.out, HB.out, HG.out⟩
    case round =>
      obtain ⟨k, hk, rfl, hown, hbel, hblk⟩ := hrel
      have HO2 := Lib.hid hown
      have HB2 := Lib.hid hbel
      have HG2 := Lib.hid hblk
      clear hown hbel hblk HO HB HG
      have d0 : wr.cell? ⟨w.heap.size, 0, none⟩ = some (.int .i64 qc) := cell_of_row wr _ 0 _ _ _ HG2.out
      have d1 : wr.cell? ⟨w.heap.size, 1, none⟩ = some (.int .i64 qp) := cell_of_row wr _ 1 _ _ _ HG2.out
      have d2 : wr.cell? ⟨w.heap.size, 2, none⟩ = some (.bool qg) := cell_of_row wr _ 2 _ _ _ HG2.out
      have d3 : wr.cell? ⟨w.heap.size, 3, none⟩ = some (.slice A n c) := cell_of_row wr _ 3 _ _ _ HG2.out
      by_cases hlt : k < n
      · exfalso
        have := HN0.out
        omega
      · have hk' : k = n := by omega
        subst hk'
        have HS := Lib.hid (HALL.out k (by rw [HL.out]; omega))
        rw [HS.out] at HO2
        have HRW := Lib.hid (HO2.out.row8 (all_wf HO2.out.len HPW.out))
        clear HO2
        have HF4 := HF3.out
        have z1 : IntKind.i64.wrap (3 + (m : Int)) = 3 + (m : Int) := IntWalk.i64_in _ ⟨by omega, by omega⟩
        have z2 : IntKind.u8.wrap (3 + (m : Int)) = 3 + (m : Int) := IntWalk.u8_in _ ⟨by omega, by omega⟩
        have z3 : IntKind.u8.wrap qc = qc := IntWalk.u8_in _ ⟨by omega, by omega⟩
        have z4 : IntKind.u8.wrap qp = qp := IntWalk.u8_in _ ⟨by omega, by omega⟩
        have z5 : IntKind.i64.wrap (gv) = gv := IntWalk.i64_in _ ⟨by omega, by omega⟩
        have z6 : IntKind.u8.wrap (gv) = gv := IntWalk.u8_in _ ⟨by omega, by omega⟩
        have HV := Lib.hid (show ET = [5, 3 + (m : Int), qc, qp, gv] ++ partB l by rw [HENC.out]; simp [Int.add_comm])
        clear HENC HF4 HS
        generalize partB l = PB at *
        go_wp2
        go_still_tail 16, (by kernel_rfl)
        still_call (HFG.out _)
        repeat still_step
        refine wpStill_nil ?_
        change wpList _ _ _ _ _ wr.drew
        have HB3 := Lib.hid HB2.out.drew
        have HRW3 := Lib.hid (show RowB .u8 wr.drew (some ⟨gb, 0, none⟩) m PB from HRW.out.drewN 1)
        clear HB2 HG2 HRW d0 d1 d2 d3
        generalize wr.drew = w5 at *
        have HB6 := Lib.hid (HB3.out.alloc HB3.out.size (.cells (([5, 3 + (m : Int), qc, qp, gv] : List Int).map (Value.int .u8)).toArray 5))
        have HO6 := Lib.hid (OwnB.of_whole (base := w.heap.size) (n := 5) (k := .u8) (heap_alloc_last w5 (.cells (([5, 3 + (m : Int), qc, qp, gv] : List Int).map (Value.int .u8)).toArray 5)) HB3.out.size rfl (by unfold maxLen; omega))
        have HRW6 := Lib.hid (HRW3.out.below ((Below.refl w5.heap.size w5).alloc (Nat.le_refl _) (.cells (([5, 3 + (m : Int), qc, qp, gv] : List Int).map (Value.int .u8)).toArray 5)))
        go_wp2_with (at_builtin; refine app_row rfl (.tmp 113) (.tmp 114) rfl w.heap.size w5.heap.size 5 5 [5, 3 + (m : Int), qc, qp, gv] rfl HO6.out (some ⟨gb, 0, none⟩) m m PB rfl HRW6.out (by intro h; cases h) (by omega) HB6.out.size ?_; intro g' cap' w7 HO7 HB7)
        go_ret2
        exact ⟨g', cap', rfl, by rw [HV.out]; exact HO7.out, HB6.out.trans HB7.out⟩
  · obtain ⟨b, off, rfl, -⟩ := HL0.out hp
    obtain ⟨x, hlx⟩ : ∃ x, x = l.getD 0 0 := ⟨_, rfl⟩
    obtain ⟨y, hly⟩ : ∃ y, y = l.getD (n - 1) 0 := ⟨_, rfl⟩
    rw [HL.out, ← hly] at y1 y2
    rw [← hlx] at y0 y1
    have hfx : x / 16 * 2 = f := by rw [hlx]; exact HFD.out.symm
    have hty : y / 8 = t := by rw [hly, ← HL.out]; exact HLD.out.symm
    have hne : decide ((0 : Int) < (n : Int)) = true := by simp; omega
    have b0 : (0 : Int) < (n : Int) := by omega
    have b1 : (0 : Int) ≤ (n : Int) - 1 := by omega
    have b2 : (n : Int) - 1 < (n : Int) := by omega
    have b3 : ((n : Int) - 1).toNat = n - 1 := by omega
    have q1 : IntKind.i64.wrap (x.tdiv 16) = x / 16 := by rw [Int.tdiv_eq_ediv_of_nonneg (by omega)]; exact IntWalk.i64_in _ ⟨by omega, by omega⟩
    have q2 : IntKind.i64.wrap (y.tdiv 8) = y / 8 := by rw [Int.tdiv_eq_ediv_of_nonneg (by omega)]; exact IntWalk.i64_in _ ⟨by omega, by omega⟩
    clear HL0
    go_enter Tryd.func10, Tryd.ntmps10
    go_wp2_with (fail)
    refine HC.out.mono ?_
    rintro e w' ⟨rfl, rfl⟩
    generalize World.alloc w _ = w3 at *
    clear HC
    have d0 : w3.cell? ⟨w.heap.size, 0, none⟩ = some (.int .i64 qc) := cell_of_row w3 _ 0 _ _ _ HG.out
    have d1 : w3.cell? ⟨w.heap.size, 1, none⟩ = some (.int .i64 qp) := cell_of_row w3 _ 1 _ _ _ HG.out
    have d2 : w3.cell? ⟨w.heap.size, 2, none⟩ = some (.bool qg) := cell_of_row w3 _ 2 _ _ _ HG.out
    have d3 : w3.cell? ⟨w.heap.size, 3, none⟩ = some (.slice (some ⟨b, off, none⟩) n c) := cell_of_row w3 _ 3 _ _ _ HG.out
    have x0 := (HR.out.below HB.out).at_ 0 hp
    rw [Nat.add_zero] at x0
    have xn := (HR.out.below HB.out).at_ (n - 1) (by omega)
    rw [← hlx] at x0
    rw [← hly] at xn
    clear hlx hly
    go_wp2_with (at_make; refine wpList_make_full _ rfl _ _ 25 rfl w.heap.size 5 i0 (.int .u8 0) 1 Tryd.underlying25 hi0 hz0 hz1 _ _ _ _ m rfl rfl (by omega) (by omega) (by rw [hz2]; omega) (by unfold maxLen; omega) HB.out.size ?_; intro w4 hown1 hgrow1)
    rw [zeros] at hown1
    have HO := Lib.hid (show OwnB w4 w.heap.size 5 .u8 w3.heap.size m m (List.replicate m 0) from hown1)
    have T0 := Lib.hid (HB.out.grown hgrow1 HB.out.size (by simp))
    have T1 := Lib.hid ((((Below.refl w3.heap.size w3).grown hgrow1 (Nat.le_refl _) (by simp)).block _ (lt_blk HG.out)).trans HG.out)
    have HGB := Lib.hid HB.out.size
    have HNE := Lib.hid (Nat.ne_of_lt (lt_blk HG.out))
    clear HB HG hown1 hgrow1 d0 d1 d2 d3
    have HB := T0
    have HG := T1
    clear T0 T1
    generalize w3.heap.size = gb at *
    rw [← mapT_zero l f m] at HO
    have HF3 := Lib.hid f3
    clear f3
    go_wp2
    go_loopw [7] (fun i wr => ∃ k : Nat, k ≤ n ∧ i = .int .i64 k ∧ OwnB wr w.heap.size 5 .u8 gb m m (mapT l k f m) ∧ Below w.heap.size w wr ∧ wr.heap[w.heap.size]? = some (.cells ((Tm.mk qc qp qg l).cells (some ⟨b, off, none⟩) n c) 24 (0, 0))) (fun i _ => n - (intOf i).toNat)
    case atStart => exact ⟨0, by omega, rfl, HO.out, HB.out, HG.out⟩
    case round =>
      obtain ⟨k, hk, rfl, hown, hbel, hblk⟩ := hrel
      have HO2 := Lib.hid hown
      have HB2 := Lib.hid hbel
      have HG2 := Lib.hid hblk
      clear hown hbel hblk HO HB HG
      have d0 : wr.cell? ⟨w.heap.size, 0, none⟩ = some (.int .i64 qc) := cell_of_row wr _ 0 _ _ _ HG2.out
      have d1 : wr.cell? ⟨w.heap.size, 1, none⟩ = some (.int .i64 qp) := cell_of_row wr _ 1 _ _ _ HG2.out
      have d2 : wr.cell? ⟨w.heap.size, 2, none⟩ = some (.bool qg) := cell_of_row wr _ 2 _ _ _ HG2.out
      have d3 : wr.cell? ⟨w.heap.size, 3, none⟩ = some (.slice (some ⟨b, off, none⟩) n c) := cell_of_row wr _ 3 _ _ _ HG2.out
      by_cases hlt : k < n
      · have hc := (HR.out.below HB2.out).at_ k hlt
        have hi : (k : Int) < (n : Int) := by omega
        have hkl : k < l.length := by rw [HL.out]; exact hlt
        obtain ⟨x0, x1, x2, x3⟩ := HIN.out (l.getD k 0) (getD_mem hkl)
        obtain ⟨X, hX⟩ := Int.eq_ofNat_of_zero_le (show 0 ≤ l.getD k 0 by omega)
        obtain ⟨Q, hq⟩ : ∃ Q : Nat, (X : Int) / 8 = (Q : Int) := ⟨X / 8, by omega⟩
        obtain ⟨r, hr⟩ : ∃ r : Nat, (X : Int) % 8 = (r : Int) := ⟨X % 8, by omega⟩
        obtain ⟨d, hd⟩ : ∃ d : Nat, f + (d : Int) = (Q : Int) := ⟨((Q : Int) - f).toNat, by have := HFD.out; omega⟩
        have hdm : d < m := by have := HLD.out; have := HF3.out; omega
        have hr8 : r < 8 := by omega
        have HS := Lib.hid (mapT_succ l k f m X d hkl hX hdm (by omega))
        rw [show X % 8 = r by omega] at HS
        have hold := HO2.out.cell d hdm
        rw [mapT_get l k f m d hdm] at hold
        have hfz := HO2.out.frozen d
        obtain ⟨o0, o1⟩ := byteAt_wf (l.take k) (f + d)
        have hpw := pow8 r hr8
        rw [hX] at hc
        rw [← hpw] at HS
        clear hX x0 x1 x2 x3 hkl hpw
        generalize byteAt (l.take k) (f + d) = old at *
        have q1 : IntKind.i64.wrap ((X : Int).tdiv 8) = (Q : Int) := by rw [Int.tdiv_eq_ediv_of_nonneg (by omega), hq]; exact IntWalk.i64_in _ ⟨by omega, by omega⟩
        have q2 : (X : Int).tmod 8 = (r : Int) := by rw [Int.tmod_eq_emod_of_nonneg (by omega), hr]
        have z0 : IntKind.i64.wrap (Q : Int) = (Q : Int) := IntWalk.i64_in _ ⟨by omega, by omega⟩
        have z2 : IntKind.i64.wrap ((Q : Int) - f) = (d : Int) := by rw [show (Q : Int) - f = (d : Int) by omega]; exact IntWalk.i64_in _ ⟨by omega, by omega⟩
        have z3 : IntKind.i64.wrap (r : Int) = (r : Int) := IntWalk.i64_in _ ⟨by omega, by omega⟩
        have z4 : IntKind.u64.wrap (r : Int) = (r : Int) := IntWalk.u64_in _ ⟨by omega, by omega⟩
        have b1 : (d : Int) < (m : Int) := by omega
        have HD2 := Lib.hid hd
        clear hd
        go_wp2
        go_still_tail 30, (by kernel_rfl)
        change wpList _ _ _ _ _ wr.drew
        have HO3 := Lib.hid (show OwnB wr.drew w.heap.size 5 .u8 gb m m (mapT l k f m) from HO2.out)
        have HB3 := Lib.hid HB2.out.drew
        have HG3 := Lib.hid (show wr.drew.heap[w.heap.size]? = some (.cells ((Tm.mk qc qp qg l).cells (some ⟨b, off, none⟩) n c) 24 (0, 0)) from HG2.out)
        clear HO2 HB2 HG2 hold hfz hc d0 d1 d2 d3
        generalize wr.drew = ws at *
        go_wp2_with (refine wpList_store_own rfl 5 (.tmp 95) (.tmp 94) rfl w.heap.size 5 .u8 gb d m m _ _ _ rfl rfl HO3.out hdm byte_sz rfl ?_; intro wt hO hk2 hb; have HO4 := hO; have HB4 := Lib.hid (hb.out _ _ HB3.out HGB.out); have HG4 := Lib.hid ((hk2.out w.heap.size HNE.out).trans HG3.out); clear hO hk2 hb HO3 HB3 HG3)
        rw [HS.out] at HO4
        go_roundw
        case rel => exact ⟨k + 1, by omega, by go_num, HO4.out, HB4.out, HG4.out⟩
        case measure => simp [intOf]; omega
      · have hk' : k = n := by omega
        subst hk'
        have HS := Lib.hid (HALL.out k (by rw [HL.out]; omega))
        rw [HS.out] at HO2
        have HRW := Lib.hid (HO2.out.row8 (all_wf HO2.out.len HPW.out))
        clear HO2
        have HF4 := HF3.out
        have z1 : IntKind.i64.wrap (3 + (m : Int)) = 3 + (m : Int) := IntWalk.i64_in _ ⟨by omega, by omega⟩
        have z2 : IntKind.u8.wrap (3 + (m : Int)) = 3 + (m : Int) := IntWalk.u8_in _ ⟨by omega, by omega⟩
        have z3 : IntKind.u8.wrap qc = qc := IntWalk.u8_in _ ⟨by omega, by omega⟩
        have z4 : IntKind.u8.wrap qp = qp := IntWalk.u8_in _ ⟨by omega, by omega⟩
        have z5 : IntKind.i64.wrap (gv + f) = gv + f := IntWalk.i64_in _ ⟨by omega, by omega⟩
        have z6 : IntKind.u8.wrap (gv + f) = gv + f := IntWalk.u8_in _ ⟨by omega, by omega⟩
        have HV := Lib.hid (show ET = [5, 3 + (m : Int), qc, qp, gv + f] ++ partB l by rw [HENC.out]; simp [Int.add_comm])
        clear HENC HF4 HS
        generalize partB l = PB at *
        go_wp2
        go_still_tail 16, (by kernel_rfl)
        still_call (HFG.out _)
        repeat still_step
        refine wpStill_nil ?_
        change wpList _ _ _ _ _ wr.drew
        have HB3 := Lib.hid HB2.out.drew
        have HRW3 := Lib.hid (show RowB .u8 wr.drew (some ⟨gb, 0, none⟩) m PB from HRW.out.drewN 1)
        clear HB2 HG2 HRW d0 d1 d2 d3
        generalize wr.drew = w5 at *
        have HB6 := Lib.hid (HB3.out.alloc HB3.out.size (.cells (([5, 3 + (m : Int), qc, qp, gv + f] : List Int).map (Value.int .u8)).toArray 5))
        have HO6 := Lib.hid (OwnB.of_whole (base := w.heap.size) (n := 5) (k := .u8) (heap_alloc_last w5 (.cells (([5, 3 + (m : Int), qc, qp, gv + f] : List Int).map (Value.int .u8)).toArray 5)) HB3.out.size rfl (by unfold maxLen; omega))
        have HRW6 := Lib.hid (HRW3.out.below ((Below.refl w5.heap.size w5).alloc (Nat.le_refl _) (.cells (([5, 3 + (m : Int), qc, qp, gv + f] : List Int).map (Value.int .u8)).toArray 5)))
        go_wp2_with (at_builtin; refine app_row rfl (.tmp 113) (.tmp 114) rfl w.heap.size w5.heap.size 5 5 [5, 3 + (m : Int), qc, qp, gv + f] rfl HO6.out (some ⟨gb, 0, none⟩) m m PB rfl HRW6.out (by intro h; cases h) (by omega) HB6.out.size ?_; intro g' cap' w7 HO7 HB7)
        go_ret2
        exact ⟨g', cap', rfl, by rw [HV.out]; exact HO7.out, HB6.out.trans HB7.out⟩
end Go.Proofs.YtocghdjadojimaaDoor
