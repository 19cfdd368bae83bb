/-
  CONTRACT of tim.Bytes.
-/
import Derived.Test.YtocghdjadojimaaDoorTimB
import Derived.Test.YtocghdjadojimaaDoorStoreO
import Derived.StillTailTactics
namespace Go.Proofs.YtocghdjadojimaaDoor
open Go.ChangeShapes Go.WideShapes Go.ChangeAt Go.RowKit
set_option linter.unusedVariables false
set_option linter.unusedSimpArgs false

/-- the bytes of a Tim. -/
def encT (q : Tm) : List Int := [5, 3 + (lenB q.l : Int), q.c, q.p, fstB q.l + (if q.g = true then 1 else 0)] ++ partB q.l
theorem encT_len (q : Tm) : (encT q).length = lenB q.l + 5 := by
  simp only [encT, List.length_append, partB_len, List.length_cons, List.length_nil]; omega
theorem encT_wf (q : Tm) (h : okT q = true) : ∀ v ∈ encT q, 0 ≤ v ∧ v ≤ 255 := by
  obtain ⟨p1, p2, c1, c2, hr⟩ := okT_fine h
  obtain ⟨f0, f1, f2, f3, f4, f5⟩ := fst_facts hr
  intro v hv
  simp only [encT, List.mem_append, List.mem_cons, List.not_mem_nil, or_false] at hv
  rcases hv with (rfl | rfl | rfl | rfl | rfl) | hv
  · omega
  · omega
  · omega
  · omega
  · split <;> omega
  · exact partB_wf _ v hv
/-- the part of the bitmap behind k numbers. -/
def mapT (l : List Int) (k : Nat) (f : Int) (m : Nat) : List Int := (List.range m).map fun i : Nat => byteAt (l.take k) (f + (i : Int))
theorem mapT_zero (l : List Int) (f : Int) (m : Nat) : mapT l 0 f m = List.replicate m 0 := by
  apply List.ext_getElem
  · simp [mapT]
  · intro i h1 h2
    simp [mapT, byteAt_nil]
theorem mapT_all (l : List Int) (k : Nat) (h : l.length ≤ k) : mapT l k (fstB l) (lenB l) = partB l := by
  unfold mapT partB
  rw [List.take_of_length_le h]
theorem mapT_len (l : List Int) (k : Nat) (f : Int) (m : Nat) : (mapT l k f m).length = m := by simp [mapT]
theorem mapT_get (l : List Int) (k : Nat) (f : Int) (m i : Nat) (h : i < m) : (mapT l k f m).getD i 0 = byteAt (l.take k) (f + i) := by simp [mapT, List.getD, h]
/-- one number more. -/
theorem mapT_succ (l : List Int) (k : Nat) (f : Int) (m X d : Nat) (hk : k < l.length) (hx : l.getD k 0 = (X : Int)) (hd : d < m) (he : f + (d : Int) = (X : Int) / 8) :
    (mapT l k f m).set d (bits .or .u8 (byteAt (l.take k) (f + d)) (2 ^ (X % 8))) = mapT l (k + 1) f m := by
  have ht : l.take (k + 1) = l.take k ++ [(X : Int)] := by rw [take_snoc hk, hx]
  refine map_range_set _ _ m d _ hd ?_ ?_
  · show byteAt (l.take (k + 1)) (f + d) = _
    rw [ht, byteAt_snoc, if_pos he]
  · intro i hi hne
    show byteAt (l.take (k + 1)) (f + i) = _
    rw [ht, byteAt_snoc, if_neg (by omega)]
theorem byteAt_wf (l : List Int) (j : Int) : 0 ≤ byteAt l j ∧ byteAt l j ≤ 255 := byte8_wf _
theorem pow8 : ∀ r : Nat, r < 8 → IntKind.u8.wrap ((2 : Int) ^ r) = 2 ^ r := by decide

set_option maxRecDepth 100000 in
set_option maxHeartbeats 8000000 in
theorem bytes_no (q : Tm) (A : Option Addr) (n c : Nat) (E : Nat → Addr) (w : World) (h : RowB .i64 w A n q.l) (hok : okT q = false) (hS : Sent w E S4) :
    Calls Tryd.prog 9 #[q.val A n c] w fun e w' => e = .returned (.tuple #[.slice none 0 0, errP (E 103)]) ∧ Below w.heap.size w w' := by
  have HB := Lib.hid ((Below.refl w.heap.size w).alloc (Nat.le_refl _) (.cells (q.cells A n c) 24))
  have he := hS.at_ 103 (by decide)
  simp only [gOf] at he
  generalize E 103 = a at *
  have HE := Lib.hid he
  have HC := Lib.hid (mayBe_any q A n c (w.alloc (.cells (q.cells A n c) 24)) (h.below HB.out))
  rw [hok] at HC
  clear h hok hS he
  go_enter Tryd.func9, Tryd.ntmps9
  go_wp2_with (fail)
  refine HC.out.mono ?_
  rintro e w2 ⟨rfl, hB⟩
  have HB2 := Lib.hid (HB.out.trans (hB.mono HB.out.size))
  have he2 := below_at HB2.out HE.out
  clear hB HB
  go_wp2
  go_quiet (fail)
  go_wp2
  go_ret2
  exact ⟨rfl, below_drewN HB2.out _⟩

-- WALK (timc.py)
set_option maxRecDepth 100000 in
set_option maxHeartbeats 8000000 in
theorem bytes_yes (q : Tm) (A : Option Addr) (n c : Nat) (w : World) (h : RowB .i64 w A n q.l) (hok : okT q = true) :
    Calls Tryd.prog 9 #[q.val A n c] w fun e w' => ∃ g cap, e = .returned (.tuple #[.slice (some ⟨g, 0, none⟩) (lenB q.l + 5) cap, .nilIface]) ∧ OwnB w' w.heap.size 5 .u8 g (lenB q.l + 5) cap (encT q) ∧ Below w.heap.size w w' := by
  obtain ⟨i0, hi0, hz0, hz1, hz2⟩ := info_parts byte_info
  have byte_sz : (Tryd.prog.info? 5).map (·.size) = some 1 := sizeU8
  have HENC := Lib.hid (show encT q = [5, 3 + (lenB q.l : Int), q.c, q.p, fstB q.l + (if q.g = true then 1 else 0)] ++ partB q.l from rfl)
  have HALL := Lib.hid (fun k h => mapT_all q.l k h)
  obtain ⟨p1, p2, c1, c2, hr⟩ := okT_fine hok
  obtain ⟨f0, f1, f2, f3, f4, f5⟩ := fst_facts hr
  have HIN := Lib.hid (fun a ha => in_part hr (a := a) ha)
  have HFD := Lib.hid (show fstB q.l = q.l.getD 0 0 / 16 * 2 from rfl)
  have HLD := Lib.hid (show lstB q.l = q.l.getD (q.l.length - 1) 0 / 8 from rfl)
  have HB := Lib.hid ((Below.refl w.heap.size w).alloc (Nat.le_refl _) (.cells (q.cells A n c) 24))
  have HG := Lib.hid (heap_alloc_last w (.cells (q.cells A n c) 24))
  have HC := Lib.hid (mayBe_any q A n c (w.alloc (.cells (q.cells A n c) 24)) (h.below HB.out))
  have HP := Lib.hid (fun (w' : World) (hb : Below w.heap.size w w') => part_any A n c q.l w' (h.below hb) hr)
  rw [hok] at HC
  have HR := Lib.hid h
  have HL := Lib.hid h.len
  have hle := h.le
  unfold maxLen at hle
  obtain ⟨qc, qp, qg, l⟩ := q
  dsimp only at *
  generalize hET : encT _ = ET at *
  clear h hok hr hET
  generalize fstB l = f at *
  generalize lstB l = t at *
  generalize lenB l = m at *
  cases qg
  · go_enter Tryd.func9, Tryd.ntmps9
    go_wp2_with (fail)
    refine HC.out.mono ?_
    rintro e w2 ⟨rfl, hB⟩
    have T0 := Lib.hid (HB.out.trans (hB.mono HB.out.size))
    have T1 := Lib.hid ((hB.block _ (lt_blk HG.out)).trans HG.out)
    clear hB HB HG HC
    have HB := T0
    have HG := T1
    clear T0 T1
    have d3 : w2.cell? ⟨w.heap.size, 3, none⟩ = some (.slice A n c) := cell_of_row w2 _ 3 _ _ _ HG.out
    go_wp2_with (fail)
    refine (HP.out w2 HB.out).mono ?_
    rintro e w' ⟨rfl, mm, rfl⟩
    have T0 := Lib.hid (below_drewN HB.out mm)
    have T1 := Lib.hid (show (w2.drewN mm).heap[w.heap.size]? = _ from HG.out)
    clear HB HG d3
    have HB := T0
    have HG := T1
    clear T0 T1 HP
    generalize w2.drewN mm = w3 at *
    go_wp2_with (first | (at_make; refine wpList_make_full _ rfl _ _ 25 rfl w.heap.size 5 i0 (.int .u8 0) 1 Tryd.underlying25 hi0 hz0 hz1 _ _ _ _ (m + 5) rfl rfl (by omega) (by omega) (by rw [hz2]; omega) (by unfold maxLen; omega) HB.out.size ?_; intro w4 hown1 hgrow1; rw [zeros] at hown1; have HO := Lib.hid (show OwnB w4 w.heap.size 5 .u8 w3.heap.size (m + 5) (m + 5) (0 :: 0 :: 0 :: 0 :: 0 :: List.replicate m 0) from hown1); have T0 := Lib.hid (HB.out.grown hgrow1 HB.out.size (by simp)); have T1 := Lib.hid ((((Below.refl w3.heap.size w3).grown hgrow1 (Nat.le_refl _) (by simp)).block _ (lt_blk HG.out)).trans HG.out); have HGB := Lib.hid HB.out.size; have HNE := Lib.hid (Nat.ne_of_lt (lt_blk HG.out)); clear HB HG hown1 hgrow1; have HB := T0; have HG := T1; clear T0 T1; have d0 : w4.cell? ⟨w.heap.size, 0, none⟩ = some (.int .i64 qc) := cell_of_row w4 _ 0 _ _ _ HG.out; have d1 : w4.cell? ⟨w.heap.size, 1, none⟩ = some (.int .i64 qp) := cell_of_row w4 _ 1 _ _ _ HG.out; have d2 : w4.cell? ⟨w.heap.size, 2, none⟩ = some (.bool false) := cell_of_row w4 _ 2 _ _ _ HG.out; have d3 : w4.cell? ⟨w.heap.size, 3, none⟩ = some (.slice A n c) := cell_of_row w4 _ 3 _ _ _ HG.out; generalize w3.heap.size = gb at *) | (refine wpList_store_own rfl 5 (.tmp 26) (.const (.int .u8 5)) rfl w.heap.size 5 .u8 gb 0 (m + 5) (m + 5) _ _ _ rfl rfl HO.out (by omega) byte_sz rfl ?_; intro w5 hO hk hb; have T0 := Lib.hid (hb.out _ _ HB.out HGB.out); have T1 := Lib.hid ((hk.out w.heap.size HNE.out).trans HG.out); have T2 := hO; clear HB HG HO hk hb hO d0 d1 d2 d3; have HB := T0; have HG := T1; have HO := T2; clear T0 T1 T2; have d0 : w5.cell? ⟨w.heap.size, 0, none⟩ = some (.int .i64 qc) := cell_of_row w5 _ 0 _ _ _ HG.out; have d1 : w5.cell? ⟨w.heap.size, 1, none⟩ = some (.int .i64 qp) := cell_of_row w5 _ 1 _ _ _ HG.out; have d2 : w5.cell? ⟨w.heap.size, 2, none⟩ = some (.bool false) := cell_of_row w5 _ 2 _ _ _ HG.out; have d3 : w5.cell? ⟨w.heap.size, 3, none⟩ = some (.slice A n c) := cell_of_row w5 _ 3 _ _ _ HG.out; simp only [List.set_cons_zero, List.set_cons_succ] at HO) | (refine wpList_store_own rfl 5 (.tmp 32) (.tmp 31) rfl w.heap.size 5 .u8 gb 1 (m + 5) (m + 5) _ _ _ rfl rfl HO.out (by omega) byte_sz rfl ?_; intro w6 hO hk hb; have T0 := Lib.hid (hb.out _ _ HB.out HGB.out); have T1 := Lib.hid ((hk.out w.heap.size HNE.out).trans HG.out); have T2 := hO; clear HB HG HO hk hb hO d0 d1 d2 d3; have HB := T0; have HG := T1; have HO := T2; clear T0 T1 T2; have d0 : w6.cell? ⟨w.heap.size, 0, none⟩ = some (.int .i64 qc) := cell_of_row w6 _ 0 _ _ _ HG.out; have d1 : w6.cell? ⟨w.heap.size, 1, none⟩ = some (.int .i64 qp) := cell_of_row w6 _ 1 _ _ _ HG.out; have d2 : w6.cell? ⟨w.heap.size, 2, none⟩ = some (.bool false) := cell_of_row w6 _ 2 _ _ _ HG.out; have d3 : w6.cell? ⟨w.heap.size, 3, none⟩ = some (.slice A n c) := cell_of_row w6 _ 3 _ _ _ HG.out; simp only [List.set_cons_zero, List.set_cons_succ] at HO) | (refine wpList_store_own rfl 5 (.tmp 37) (.tmp 36) rfl w.heap.size 5 .u8 gb 2 (m + 5) (m + 5) _ _ _ rfl rfl HO.out (by omega) byte_sz rfl ?_; intro w7 hO hk hb; have T0 := Lib.hid (hb.out _ _ HB.out HGB.out); have T1 := Lib.hid ((hk.out w.heap.size HNE.out).trans HG.out); have T2 := hO; clear HB HG HO hk hb hO d0 d1 d2 d3; have HB := T0; have HG := T1; have HO := T2; clear T0 T1 T2; have d0 : w7.cell? ⟨w.heap.size, 0, none⟩ = some (.int .i64 qc) := cell_of_row w7 _ 0 _ _ _ HG.out; have d1 : w7.cell? ⟨w.heap.size, 1, none⟩ = some (.int .i64 qp) := cell_of_row w7 _ 1 _ _ _ HG.out; have d2 : w7.cell? ⟨w.heap.size, 2, none⟩ = some (.bool false) := cell_of_row w7 _ 2 _ _ _ HG.out; have d3 : w7.cell? ⟨w.heap.size, 3, none⟩ = some (.slice A n c) := cell_of_row w7 _ 3 _ _ _ HG.out; simp only [List.set_cons_zero, List.set_cons_succ] at HO) | (refine wpList_store_own rfl 5 (.tmp 42) (.tmp 41) rfl w.heap.size 5 .u8 gb 3 (m + 5) (m + 5) _ _ _ rfl rfl HO.out (by omega) byte_sz rfl ?_; intro w8 hO hk hb; have T0 := Lib.hid (hb.out _ _ HB.out HGB.out); have T1 := Lib.hid ((hk.out w.heap.size HNE.out).trans HG.out); have T2 := hO; clear HB HG HO hk hb hO d0 d1 d2 d3; have HB := T0; have HG := T1; have HO := T2; clear T0 T1 T2; have d0 : w8.cell? ⟨w.heap.size, 0, none⟩ = some (.int .i64 qc) := cell_of_row w8 _ 0 _ _ _ HG.out; have d1 : w8.cell? ⟨w.heap.size, 1, none⟩ = some (.int .i64 qp) := cell_of_row w8 _ 1 _ _ _ HG.out; have d2 : w8.cell? ⟨w.heap.size, 2, none⟩ = some (.bool false) := cell_of_row w8 _ 2 _ _ _ HG.out; have d3 : w8.cell? ⟨w.heap.size, 3, none⟩ = some (.slice A n c) := cell_of_row w8 _ 3 _ _ _ HG.out; simp only [List.set_cons_zero, List.set_cons_succ] at HO) | (refine wpList_store_own rfl 5 (.tmp 46) (.tmp 45) rfl w.heap.size 5 .u8 gb 4 (m + 5) (m + 5) _ _ _ rfl rfl HO.out (by omega) byte_sz rfl ?_; intro w9 hO hk hb; have T0 := Lib.hid (hb.out _ _ HB.out HGB.out); have T1 := Lib.hid ((hk.out w.heap.size HNE.out).trans HG.out); have T2 := hO; clear HB HG HO hk hb hO d0 d1 d2 d3; have HB := T0; have HG := T1; have HO := T2; clear T0 T1 T2; have d0 : w9.cell? ⟨w.heap.size, 0, none⟩ = some (.int .i64 qc) := cell_of_row w9 _ 0 _ _ _ HG.out; have d1 : w9.cell? ⟨w.heap.size, 1, none⟩ = some (.int .i64 qp) := cell_of_row w9 _ 1 _ _ _ HG.out; have d2 : w9.cell? ⟨w.heap.size, 2, none⟩ = some (.bool false) := cell_of_row w9 _ 2 _ _ _ HG.out; have d3 : w9.cell? ⟨w.heap.size, 3, none⟩ = some (.slice A n c) := cell_of_row w9 _ 3 _ _ _ HG.out; have d4 := HO.out.cell 4 (by omega); have d5 := HO.out.frozen 4; simp only [List.set_cons_zero, List.set_cons_succ] at HO) | (refine wpList_store_own rfl 5 (.tmp 53) (.tmp 52) rfl w.heap.size 5 .u8 gb 4 (m + 5) (m + 5) _ _ _ rfl rfl HO.out (by omega) byte_sz rfl ?_; intro w10 hO hk hb; have T0 := Lib.hid (hb.out _ _ HB.out HGB.out); have T1 := Lib.hid ((hk.out w.heap.size HNE.out).trans HG.out); have T2 := hO; clear HB HG HO hk hb hO d0 d1 d2 d3; have HB := T0; have HG := T1; have HO := T2; clear T0 T1 T2; have d0 : w10.cell? ⟨w.heap.size, 0, none⟩ = some (.int .i64 qc) := cell_of_row w10 _ 0 _ _ _ HG.out; have d1 : w10.cell? ⟨w.heap.size, 1, none⟩ = some (.int .i64 qp) := cell_of_row w10 _ 1 _ _ _ HG.out; have d2 : w10.cell? ⟨w.heap.size, 2, none⟩ = some (.bool false) := cell_of_row w10 _ 2 _ _ _ HG.out; have d3 : w10.cell? ⟨w.heap.size, 3, none⟩ = some (.slice A n c) := cell_of_row w10 _ 3 _ _ _ HG.out; simp only [List.set_cons_zero, List.set_cons_succ] at HO))
    have HE1 := Lib.hid (show 3 + (m : Int) = t - f + 1 + 5 - 2 by omega)
    have HV := Lib.hid (show ET = 5 :: (t - f + 1 + 5 - 2) :: qc :: qp :: f :: partB l by rw [HENC.out, HE1.out]; simp)
    clear HENC HE1 d0 d1 d2 d3 d4 d5 HG
    rw [← mapT_zero l f m] at HO
    generalize t - f + 1 + 5 - 2 = e1 at *
    have HF3 := Lib.hid f3
    clear f3
    go_loopw [57] (fun i wr => ∃ k : Nat, k ≤ n ∧ i = .int .i64 k ∧ OwnB wr w.heap.size 5 .u8 gb (m + 5) (m + 5) (5 :: e1 :: qc :: qp :: f :: mapT l k f m) ∧ Below w.heap.size w wr) (fun i _ => n - (intOf i).toNat)
    case atStart => exact ⟨0, by omega, rfl, HO.out, HB.out⟩
    case round =>
      obtain ⟨k, hk, rfl, hown, hbel⟩ := hrel
      have HO2 := Lib.hid hown
      have HB2 := Lib.hid hbel
      clear hown hbel HO HB
      by_cases hlt : k < n
      · obtain ⟨b, off, rfl, hc⟩ := (HR.out.below HB2.out).el k hlt
        have hi : (k : Int) < (n : Int) := by omega
        have hkl : k < l.length := by rw [HL.out]; exact hlt
        obtain ⟨x0, x1, x2, x3⟩ := HIN.out (l.getD k 0) (getD_mem hkl)
        obtain ⟨X, hX⟩ := Int.eq_ofNat_of_zero_le (show 0 ≤ l.getD k 0 by omega)
        obtain ⟨Q, hq⟩ : ∃ Q : Nat, (X : Int) / 8 = (Q : Int) := ⟨X / 8, by omega⟩
        obtain ⟨r, hr⟩ : ∃ r : Nat, (X : Int) % 8 = (r : Int) := ⟨X % 8, by omega⟩
        obtain ⟨d, hd⟩ : ∃ d : Nat, f + (d : Int) = (Q : Int) := ⟨((Q : Int) - f).toNat, by have := HFD.out; omega⟩
        obtain ⟨j, hj⟩ : ∃ j, j = d + 5 := ⟨_, rfl⟩
        have hdm : d < m := by have := HLD.out; have := HF3.out; omega
        have hr8 : r < 8 := by omega
        have HS := Lib.hid (mapT_succ l k f m X d hkl hX hdm (by omega))
        rw [show X % 8 = r by omega] at HS
        have hold := HO2.out.cell (d + 5) (by omega)
        rw [show (5 :: e1 :: qc :: qp :: f :: mapT l k f m).getD (d + 5) 0 = byteAt (l.take k) (f + d) from mapT_get l k f m d hdm] at hold
        have hfz := HO2.out.frozen (d + 5)
        rw [← hj] at hold hfz
        obtain ⟨o0, o1⟩ := byteAt_wf (l.take k) (f + d)
        have hpw := pow8 r hr8
        rw [hX] at hc
        rw [← hpw] at HS
        clear hX x0 x1 x2 x3 hkl hpw
        generalize byteAt (l.take k) (f + d) = old at *
        have q1 : IntKind.i64.wrap ((X : Int).tdiv 8) = (Q : Int) := by rw [Int.tdiv_eq_ediv_of_nonneg (by omega), hq]; exact IntWalk.i64_in _ ⟨by omega, by omega⟩
        have q2 : (X : Int).tmod 8 = (r : Int) := by rw [Int.tmod_eq_emod_of_nonneg (by omega), hr]
        have y0 : IntKind.i64.wrap (Q : Int) = (Q : Int) := IntWalk.i64_in _ ⟨by omega, by omega⟩
        have y1 : IntKind.i64.wrap (5 + (Q : Int)) = 5 + (Q : Int) := IntWalk.i64_in _ ⟨by omega, by omega⟩
        have y2 : IntKind.i64.wrap (5 + (Q : Int) - f) = (j : Int) := by rw [show 5 + (Q : Int) - f = (j : Int) by omega]; exact IntWalk.i64_in _ ⟨by omega, by omega⟩
        have y3 : IntKind.i64.wrap (r : Int) = (r : Int) := IntWalk.i64_in _ ⟨by omega, by omega⟩
        have b1 : (j : Int) < (m : Int) + 5 := by omega
        have b2 : (j : Int) < ((m + 5 : Nat) : Int) := by omega
        have hjm : j < m + 5 := by omega
        have HJ := Lib.hid hj
        clear hj
        go_wp2
        go_still_tail 13, (by kernel_rfl)
        change wpList _ _ _ _ _ wr.drew
        have HO3 := Lib.hid (show OwnB wr.drew w.heap.size 5 .u8 gb (m + 5) (m + 5) (5 :: e1 :: qc :: qp :: f :: mapT l k f m) from HO2.out)
        have HB3 := Lib.hid HB2.out.drew
        clear HO2 HB2 hold hfz hc
        generalize wr.drew = ws at *
        go_wp2_with (refine wpList_store_own rfl 5 (.tmp 73) (.tmp 72) rfl w.heap.size 5 .u8 gb j (m + 5) (m + 5) _ _ _ rfl rfl HO3.out hjm byte_sz rfl ?_; intro wt hO hk2 hb; rw [HJ.out] at hO; simp only [List.set_cons_succ] at hO; have HO4 := hO; have HB4 := Lib.hid (hb.out _ _ HB3.out HGB.out); clear hO hk2 hb HO3 HB3)
        rw [HS.out] at HO4
        go_roundw
        case rel => exact ⟨k + 1, by omega, by go_num, HO4.out, HB4.out⟩
        case measure => simp [intOf]; omega
      · have hk' : k = n := by omega
        subst hk'
        have HS := Lib.hid (HALL.out k (by rw [HL.out]; omega))
        rw [HS.out, ← HV.out] at HO2
        go_wp2
        go_ret2
        exact ⟨gb, m + 5, rfl, HO2.out, HB2.out⟩
  · go_enter Tryd.func9, Tryd.ntmps9
    go_wp2_with (fail)
    refine HC.out.mono ?_
    rintro e w2 ⟨rfl, hB⟩
    have T0 := Lib.hid (HB.out.trans (hB.mono HB.out.size))
    have T1 := Lib.hid ((hB.block _ (lt_blk HG.out)).trans HG.out)
    clear hB HB HG HC
    have HB := T0
    have HG := T1
    clear T0 T1
    have d3 : w2.cell? ⟨w.heap.size, 3, none⟩ = some (.slice A n c) := cell_of_row w2 _ 3 _ _ _ HG.out
    go_wp2_with (fail)
    refine (HP.out w2 HB.out).mono ?_
    rintro e w' ⟨rfl, mm, rfl⟩
    have T0 := Lib.hid (below_drewN HB.out mm)
    have T1 := Lib.hid (show (w2.drewN mm).heap[w.heap.size]? = _ from HG.out)
    clear HB HG d3
    have HB := T0
    have HG := T1
    clear T0 T1 HP
    generalize w2.drewN mm = w3 at *
    go_wp2_with (first | (at_make; refine wpList_make_full _ rfl _ _ 25 rfl w.heap.size 5 i0 (.int .u8 0) 1 Tryd.underlying25 hi0 hz0 hz1 _ _ _ _ (m + 5) rfl rfl (by omega) (by omega) (by rw [hz2]; omega) (by unfold maxLen; omega) HB.out.size ?_; intro w4 hown1 hgrow1; rw [zeros] at hown1; have HO := Lib.hid (show OwnB w4 w.heap.size 5 .u8 w3.heap.size (m + 5) (m + 5) (0 :: 0 :: 0 :: 0 :: 0 :: List.replicate m 0) from hown1); have T0 := Lib.hid (HB.out.grown hgrow1 HB.out.size (by simp)); have T1 := Lib.hid ((((Below.refl w3.heap.size w3).grown hgrow1 (Nat.le_refl _) (by simp)).block _ (lt_blk HG.out)).trans HG.out); have HGB := Lib.hid HB.out.size; have HNE := Lib.hid (Nat.ne_of_lt (lt_blk HG.out)); clear HB HG hown1 hgrow1; have HB := T0; have HG := T1; clear T0 T1; have d0 : w4.cell? ⟨w.heap.size, 0, none⟩ = some (.int .i64 qc) := cell_of_row w4 _ 0 _ _ _ HG.out; have d1 : w4.cell? ⟨w.heap.size, 1, none⟩ = some (.int .i64 qp) := cell_of_row w4 _ 1 _ _ _ HG.out; have d2 : w4.cell? ⟨w.heap.size, 2, none⟩ = some (.bool true) := cell_of_row w4 _ 2 _ _ _ HG.out; have d3 : w4.cell? ⟨w.heap.size, 3, none⟩ = some (.slice A n c) := cell_of_row w4 _ 3 _ _ _ HG.out; generalize w3.heap.size = gb at *) | (refine wpList_store_own rfl 5 (.tmp 26) (.const (.int .u8 5)) rfl w.heap.size 5 .u8 gb 0 (m + 5) (m + 5) _ _ _ rfl rfl HO.out (by omega) byte_sz rfl ?_; intro w5 hO hk hb; have T0 := Lib.hid (hb.out _ _ HB.out HGB.out); have T1 := Lib.hid ((hk.out w.heap.size HNE.out).trans HG.out); have T2 := hO; clear HB HG HO hk hb hO d0 d1 d2 d3; have HB := T0; have HG := T1; have HO := T2; clear T0 T1 T2; have d0 : w5.cell? ⟨w.heap.size, 0, none⟩ = some (.int .i64 qc) := cell_of_row w5 _ 0 _ _ _ HG.out; have d1 : w5.cell? ⟨w.heap.size, 1, none⟩ = some (.int .i64 qp) := cell_of_row w5 _ 1 _ _ _ HG.out; have d2 : w5.cell? ⟨w.heap.size, 2, none⟩ = some (.bool true) := cell_of_row w5 _ 2 _ _ _ HG.out; have d3 : w5.cell? ⟨w.heap.size, 3, none⟩ = some (.slice A n c) := cell_of_row w5 _ 3 _ _ _ HG.out; simp only [List.set_cons_zero, List.set_cons_succ] at HO) | (refine wpList_store_own rfl 5 (.tmp 32) (.tmp 31) rfl w.heap.size 5 .u8 gb 1 (m + 5) (m + 5) _ _ _ rfl rfl HO.out (by omega) byte_sz rfl ?_; intro w6 hO hk hb; have T0 := Lib.hid (hb.out _ _ HB.out HGB.out); have T1 := Lib.hid ((hk.out w.heap.size HNE.out).trans HG.out); have T2 := hO; clear HB HG HO hk hb hO d0 d1 d2 d3; have HB := T0; have HG := T1; have HO := T2; clear T0 T1 T2; have d0 : w6.cell? ⟨w.heap.size, 0, none⟩ = some (.int .i64 qc) := cell_of_row w6 _ 0 _ _ _ HG.out; have d1 : w6.cell? ⟨w.heap.size, 1, none⟩ = some (.int .i64 qp) := cell_of_row w6 _ 1 _ _ _ HG.out; have d2 : w6.cell? ⟨w.heap.size, 2, none⟩ = some (.bool true) := cell_of_row w6 _ 2 _ _ _ HG.out; have d3 : w6.cell? ⟨w.heap.size, 3, none⟩ = some (.slice A n c) := cell_of_row w6 _ 3 _ _ _ HG.out; simp only [List.set_cons_zero, List.set_cons_succ] at HO) | (refine wpList_store_own rfl 5 (.tmp 37) (.tmp 36) rfl w.heap.size 5 .u8 gb 2 (m + 5) (m + 5) _ _ _ rfl rfl HO.out (by omega) byte_sz rfl ?_; intro w7 hO hk hb; have T0 := Lib.hid (hb.out _ _ HB.out HGB.out); have T1 := Lib.hid ((hk.out w.heap.size HNE.out).trans HG.out); have T2 := hO; clear HB HG HO hk hb hO d0 d1 d2 d3; have HB := T0; have HG := T1; have HO := T2; clear T0 T1 T2; have d0 : w7.cell? ⟨w.heap.size, 0, none⟩ = some (.int .i64 qc) := cell_of_row w7 _ 0 _ _ _ HG.out; have d1 : w7.cell? ⟨w.heap.size, 1, none⟩ = some (.int .i64 qp) := cell_of_row w7 _ 1 _ _ _ HG.out; have d2 : w7.cell? ⟨w.heap.size, 2, none⟩ = some (.bool true) := cell_of_row w7 _ 2 _ _ _ HG.out; have d3 : w7.cell? ⟨w.heap.size, 3, none⟩ = some (.slice A n c) := cell_of_row w7 _ 3 _ _ _ HG.out; simp only [List.set_cons_zero, List.set_cons_succ] at HO) | (refine wpList_store_own rfl 5 (.tmp 42) (.tmp 41) rfl w.heap.size 5 .u8 gb 3 (m + 5) (m + 5) _ _ _ rfl rfl HO.out (by omega) byte_sz rfl ?_; intro w8 hO hk hb; have T0 := Lib.hid (hb.out _ _ HB.out HGB.out); have T1 := Lib.hid ((hk.out w.heap.size HNE.out).trans HG.out); have T2 := hO; clear HB HG HO hk hb hO d0 d1 d2 d3; have HB := T0; have HG := T1; have HO := T2; clear T0 T1 T2; have d0 : w8.cell? ⟨w.heap.size, 0, none⟩ = some (.int .i64 qc) := cell_of_row w8 _ 0 _ _ _ HG.out; have d1 : w8.cell? ⟨w.heap.size, 1, none⟩ = some (.int .i64 qp) := cell_of_row w8 _ 1 _ _ _ HG.out; have d2 : w8.cell? ⟨w.heap.size, 2, none⟩ = some (.bool true) := cell_of_row w8 _ 2 _ _ _ HG.out; have d3 : w8.cell? ⟨w.heap.size, 3, none⟩ = some (.slice A n c) := cell_of_row w8 _ 3 _ _ _ HG.out; simp only [List.set_cons_zero, List.set_cons_succ] at HO) | (refine wpList_store_own rfl 5 (.tmp 46) (.tmp 45) rfl w.heap.size 5 .u8 gb 4 (m + 5) (m + 5) _ _ _ rfl rfl HO.out (by omega) byte_sz rfl ?_; intro w9 hO hk hb; have T0 := Lib.hid (hb.out _ _ HB.out HGB.out); have T1 := Lib.hid ((hk.out w.heap.size HNE.out).trans HG.out); have T2 := hO; clear HB HG HO hk hb hO d0 d1 d2 d3; have HB := T0; have HG := T1; have HO := T2; clear T0 T1 T2; have d0 : w9.cell? ⟨w.heap.size, 0, none⟩ = some (.int .i64 qc) := cell_of_row w9 _ 0 _ _ _ HG.out; have d1 : w9.cell? ⟨w.heap.size, 1, none⟩ = some (.int .i64 qp) := cell_of_row w9 _ 1 _ _ _ HG.out; have d2 : w9.cell? ⟨w.heap.size, 2, none⟩ = some (.bool true) := cell_of_row w9 _ 2 _ _ _ HG.out; have d3 : w9.cell? ⟨w.heap.size, 3, none⟩ = some (.slice A n c) := cell_of_row w9 _ 3 _ _ _ HG.out; have d4 := HO.out.cell 4 (by omega); have d5 := HO.out.frozen 4; simp only [List.set_cons_zero, List.set_cons_succ] at HO) | (refine wpList_store_own rfl 5 (.tmp 53) (.tmp 52) rfl w.heap.size 5 .u8 gb 4 (m + 5) (m + 5) _ _ _ rfl rfl HO.out (by omega) byte_sz rfl ?_; intro w10 hO hk hb; have T0 := Lib.hid (hb.out _ _ HB.out HGB.out); have T1 := Lib.hid ((hk.out w.heap.size HNE.out).trans HG.out); have T2 := hO; clear HB HG HO hk hb hO d0 d1 d2 d3; have HB := T0; have HG := T1; have HO := T2; clear T0 T1 T2; have d0 : w10.cell? ⟨w.heap.size, 0, none⟩ = some (.int .i64 qc) := cell_of_row w10 _ 0 _ _ _ HG.out; have d1 : w10.cell? ⟨w.heap.size, 1, none⟩ = some (.int .i64 qp) := cell_of_row w10 _ 1 _ _ _ HG.out; have d2 : w10.cell? ⟨w.heap.size, 2, none⟩ = some (.bool true) := cell_of_row w10 _ 2 _ _ _ HG.out; have d3 : w10.cell? ⟨w.heap.size, 3, none⟩ = some (.slice A n c) := cell_of_row w10 _ 3 _ _ _ HG.out; simp only [List.set_cons_zero, List.set_cons_succ] at HO))
    have HE1 := Lib.hid (show 3 + (m : Int) = t - f + 1 + 5 - 2 by omega)
    have HV := Lib.hid (show ET = 5 :: (t - f + 1 + 5 - 2) :: qc :: qp :: (f + 1) :: partB l by rw [HENC.out, HE1.out]; simp)
    clear HENC HE1 d0 d1 d2 d3 d4 d5 HG
    rw [← mapT_zero l f m] at HO
    generalize t - f + 1 + 5 - 2 = e1 at *
    have HF3 := Lib.hid f3
    clear f3
    go_loopw [57] (fun i wr => ∃ k : Nat, k ≤ n ∧ i = .int .i64 k ∧ OwnB wr w.heap.size 5 .u8 gb (m + 5) (m + 5) (5 :: e1 :: qc :: qp :: (f + 1) :: mapT l k f m) ∧ Below w.heap.size w wr) (fun i _ => n - (intOf i).toNat)
    case atStart => exact ⟨0, by omega, rfl, HO.out, HB.out⟩
    case round =>
      obtain ⟨k, hk, rfl, hown, hbel⟩ := hrel
      have HO2 := Lib.hid hown
      have HB2 := Lib.hid hbel
      clear hown hbel HO HB
      by_cases hlt : k < n
      · obtain ⟨b, off, rfl, hc⟩ := (HR.out.below HB2.out).el k hlt
        have hi : (k : Int) < (n : Int) := by omega
        have hkl : k < l.length := by rw [HL.out]; exact hlt
        obtain ⟨x0, x1, x2, x3⟩ := HIN.out (l.getD k 0) (getD_mem hkl)
        obtain ⟨X, hX⟩ := Int.eq_ofNat_of_zero_le (show 0 ≤ l.getD k 0 by omega)
        obtain ⟨Q, hq⟩ : ∃ Q : Nat, (X : Int) / 8 = (Q : Int) := ⟨X / 8, by omega⟩
        obtain ⟨r, hr⟩ : ∃ r : Nat, (X : Int) % 8 = (r : Int) := ⟨X % 8, by omega⟩
        obtain ⟨d, hd⟩ : ∃ d : Nat, f + (d : Int) = (Q : Int) := ⟨((Q : Int) - f).toNat, by have := HFD.out; omega⟩
        obtain ⟨j, hj⟩ : ∃ j, j = d + 5 := ⟨_, rfl⟩
        have hdm : d < m := by have := HLD.out; have := HF3.out; omega
        have hr8 : r < 8 := by omega
        have HS := Lib.hid (mapT_succ l k f m X d hkl hX hdm (by omega))
        rw [show X % 8 = r by omega] at HS
        have hold := HO2.out.cell (d + 5) (by omega)
        rw [show (5 :: e1 :: qc :: qp :: (f + 1) :: mapT l k f m).getD (d + 5) 0 = byteAt (l.take k) (f + d) from mapT_get l k f m d hdm] at hold
        have hfz := HO2.out.frozen (d + 5)
        rw [← hj] at hold hfz
        obtain ⟨o0, o1⟩ := byteAt_wf (l.take k) (f + d)
        have hpw := pow8 r hr8
        rw [hX] at hc
        rw [← hpw] at HS
        clear hX x0 x1 x2 x3 hkl hpw
        generalize byteAt (l.take k) (f + d) = old at *
        have q1 : IntKind.i64.wrap ((X : Int).tdiv 8) = (Q : Int) := by rw [Int.tdiv_eq_ediv_of_nonneg (by omega), hq]; exact IntWalk.i64_in _ ⟨by omega, by omega⟩
        have q2 : (X : Int).tmod 8 = (r : Int) := by rw [Int.tmod_eq_emod_of_nonneg (by omega), hr]
        have y0 : IntKind.i64.wrap (Q : Int) = (Q : Int) := IntWalk.i64_in _ ⟨by omega, by omega⟩
        have y1 : IntKind.i64.wrap (5 + (Q : Int)) = 5 + (Q : Int) := IntWalk.i64_in _ ⟨by omega, by omega⟩
        have y2 : IntKind.i64.wrap (5 + (Q : Int) - f) = (j : Int) := by rw [show 5 + (Q : Int) - f = (j : Int) by omega]; exact IntWalk.i64_in _ ⟨by omega, by omega⟩
        have y3 : IntKind.i64.wrap (r : Int) = (r : Int) := IntWalk.i64_in _ ⟨by omega, by omega⟩
        have b1 : (j : Int) < (m : Int) + 5 := by omega
        have b2 : (j : Int) < ((m + 5 : Nat) : Int) := by omega
        have hjm : j < m + 5 := by omega
        have HJ := Lib.hid hj
        clear hj
        go_wp2
        go_still_tail 13, (by kernel_rfl)
        change wpList _ _ _ _ _ wr.drew
        have HO3 := Lib.hid (show OwnB wr.drew w.heap.size 5 .u8 gb (m + 5) (m + 5) (5 :: e1 :: qc :: qp :: (f + 1) :: mapT l k f m) from HO2.out)
        have HB3 := Lib.hid HB2.out.drew
        clear HO2 HB2 hold hfz hc
        generalize wr.drew = ws at *
        go_wp2_with (refine wpList_store_own rfl 5 (.tmp 73) (.tmp 72) rfl w.heap.size 5 .u8 gb j (m + 5) (m + 5) _ _ _ rfl rfl HO3.out hjm byte_sz rfl ?_; intro wt hO hk2 hb; rw [HJ.out] at hO; simp only [List.set_cons_succ] at hO; have HO4 := hO; have HB4 := Lib.hid (hb.out _ _ HB3.out HGB.out); clear hO hk2 hb HO3 HB3)
        rw [HS.out] at HO4
        go_roundw
        case rel => exact ⟨k + 1, by omega, by go_num, HO4.out, HB4.out⟩
        case measure => simp [intOf]; omega
      · have hk' : k = n := by omega
        subst hk'
        have HS := Lib.hid (HALL.out k (by rw [HL.out]; omega))
        rw [HS.out, ← HV.out] at HO2
        go_wp2
        go_ret2
        exact ⟨gb, m + 5, rfl, HO2.out, HB2.out⟩
end Go.Proofs.YtocghdjadojimaaDoor
