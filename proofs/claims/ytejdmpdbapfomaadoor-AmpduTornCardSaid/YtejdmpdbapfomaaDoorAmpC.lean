/-
  CONTRACTS of package ampdu: delimiter, Pack.
-/
import Derived.Test.YtejdmpdbapfomaaDoorAmpB
import Derived.Test.YtejdmpdbapfomaaDoorCrcG
import Derived.Test.YtejdmpdbapfomaaDoorZeros
namespace Go.Proofs.YtejdmpdbapfomaaDoor
open Go.ChangeShapes Go.WideShapes Go.ChangeAt Go.RowKit
set_option linter.unusedVariables false
set_option linter.unusedSimpArgs false

/-! ### append of no zeros, or of some -/
theorem run_zeros_none (w : World) (g n cap : Nat) (ty : TypeId) (hnc : n ≤ cap) : (Builtin.append_ #[23, 3] ty #[.slice (some ⟨g, 0, none⟩) n cap, .int .i64 (0 : Nat)]).run Tryd.prog w = .ok (.slice (some ⟨g, 0, none⟩) n cap) w := by
  obtain ⟨i0, hi0, hz0, hz1, hz2⟩ := info_parts byte_info
  simp [Builtin.append_, run_underlying Tryd.underlying23, run_underlying intT, sizeOf, typeInfo, zeroValue, hi0, hz0, hz1, hz2, asInt, asIntOf, IntKind.wrap_i64, hnc, storeCells]
theorem app_zeros0 {w : World} {ops : Array Oper} {rest : List Oper} {o : Oper} {a : Act} {Q : Exit → Act → World → Prop} (hgd : o.guard = none) (s x : Operand)
    (ho : o.op = .call { callee := .builtin .append, args := #[s, x], argTypes := #[23, 3] }) (B g n cap k : Nat) (xs : List Int)
    (hs : a.eval s = .slice (some ⟨g, 0, none⟩) n cap) (hO : OwnB w B 5 .u8 g n cap xs) (hx : a.eval x = .int .i64 k) (hm : n + k ≤ 1000000000) (hB : B ≤ w.heap.size)
    (h : ∀ g' cap' w', Hid (OwnB w' B 5 .u8 g' (n + k) cap' (xs ++ List.replicate k 0)) → Hid (Below B w w') → wpList Tryd.prog ops Q rest (a.put o.dst (.slice (some ⟨g', 0, none⟩) (n + k) cap')) w') : wpList Tryd.prog ops Q (o :: rest) a w := by
  rcases Nat.eq_zero_or_pos k with h0 | h0
  · subst h0
    exact Lib.wpList_append_run w hgd s x _ _ ho _ _ hs hx _ _ (run_zeros_none w g n cap o.type hO.cap_le) (h g cap w (Lib.hid (by simpa using hO)) (Lib.hid (Below.refl B w)))
  · exact app_zeros hgd s x ho B g n cap k xs hs hO hx h0 hm hB h

/-! ### delimiter -/
theorem dlm_wf (n : Nat) (hn : n ≤ 4095) : ∀ i, i < 4 → 0 ≤ (dlm n).getD i 0 ∧ (dlm n).getD i 0 ≤ 255 := by
  have hs := sum_range [(n : Int) * 16 % 256, (n : Int) * 16 / 256]
  refine all_wf rfl ?_
  intro v hv
  simp only [dlm, List.mem_cons, List.not_mem_nil, or_false] at hv
  rcases hv with rfl | rfl | rfl | rfl <;> omega
set_option maxRecDepth 100000 in
set_option maxHeartbeats 8000000 in
theorem delim_any (n : Nat) (w : World) (hn : n ≤ 4095) :
    Calls Tryd.prog 27 #[.int .i64 n] w fun e w' => ∃ g cap, e = .returned (.slice (some ⟨g, 0, none⟩) 4 cap) ∧ OwnB w' w.heap.size 5 .u8 g 4 cap (dlm n) ∧ Below w.heap.size w w' := by
  have x1 : IntKind.u8.wrap ((n : Int) * 16) = (n : Int) * 16 % 256 := by rw [IntKind.wrap_u8]
  have x2 : IntKind.u8.wrap ((n : Int) * 16 / 256) = (n : Int) * 16 / 256 := IntWalk.u8_in _ ⟨by omega, by omega⟩
  have HD := Lib.hid (show [(n : Int) * 16 % 256, (n : Int) * 16 / 256] ++ [sum [(n : Int) * 16 % 256, (n : Int) * 16 / 256]] ++ [78] = dlm n from rfl)
  have HR := Lib.hid (lit_row w [(n : Int) * 16 % 256, (n : Int) * 16 / 256] 5 (by intro v hv; simp at hv; omega) (by simp; unfold maxLen; omega))
  have HB := Lib.hid ((Below.refl w.heap.size w).alloc (Nat.le_refl _) (.cells #[.int .u8 ((n : Int) * 16 % 256), .int .u8 ((n : Int) * 16 / 256)] 5))
  go_enter Tryd.func27, Tryd.ntmps27
  go_wp2_with (fail)
  refine (seal_any _ 2 _ [(n : Int) * 16 % 256, (n : Int) * 16 / 256] _ HR.out (by omega)).mono ?_
  rintro e w1 ⟨he, hO, hB⟩
  rw [World.size_alloc] at he hO
  subst he
  have HO1 := Lib.hid (hO.base (base' := w.heap.size) (Nat.le_succ _))
  have HB1 := Lib.hid ((HB.out).trans (hB.mono (HB.out).size))
  clear hO hB HB HR
  generalize w.heap.size + 1 = g1 at *
  go_wp2_with (refine app_own rfl (.tmp 11) (.tmp 12) rfl w.heap.size g1 3 3 _ rfl (World.ownsRow.alloc HO1.out _) ⟨w1.heap.size, 0, none⟩ 1 1 [78] rfl rfl (World.news_of_block (cs := #[.int .u8 78]) (t := 5) (fr := (0, 0)) (heap_alloc_new w1 _)) (by omega) (by have := HB1.out.size; simp; omega) ?_; intro g' cap' w' hO' hb'; rw [HD.out] at hO'; have HB2 := Lib.hid ((HB1.out.alloc HB1.out.size _).trans hb'.out); clear hb')
  go_ret
  exact ⟨g', cap', rfl, hO'.out, HB2.out⟩

/-! ### Pack -/
theorem inR_lens (l : List (List Int)) : inR (lensI l) = (decide (0 < l.length) && l.all okP) := by
  unfold inR
  rw [lensI_len]
  congr 1
  unfold lensI
  rw [List.all_map]
  congr 1
  funext p
  unfold okP
  simp only [Function.comp]
  rw [Bool.eq_iff_iff]
  simp only [Bool.and_eq_true, decide_eq_true_eq]
  omega
theorem codeP_range {l : List (List Int)} (h : inR (lensI l) = false) : codeP l = 103 := by
  rw [inR_lens, Bool.and_eq_false_iff] at h
  refine codeP_bad ?_
  rcases h with h | h
  · refine .inl (List.eq_nil_of_length_eq_zero ?_)
    simpa using h
  · rw [List.all_eq_false] at h
    obtain ⟨p, hp, h⟩ := h
    exact .inr ⟨p, hp, by simpa using h⟩
theorem inR_ok {l : List (List Int)} (h : inR (lensI l) = true) : l ≠ [] ∧ ∀ p ∈ l, okP p = true := by
  rw [inR_lens, Bool.and_eq_true] at h
  refine ⟨fun e => ?_, List.all_eq_true.1 h.2⟩
  rw [e] at h
  simp at h
theorem pack_lens (l : List (List Int)) : aggLen (lensI l) = ((packB l).length : Int) := packB_len l
theorem full_le {l : List (List Int)} (h : ∀ p ∈ l, p.length ≤ 4095) : (full l).length ≤ l.length * 4104 := by
  induction l with
  | nil => simp [full]
  | cons p r ih =>
    have h1 := ih (fun q hq => h q (List.mem_cons_of_mem _ hq))
    have h2 := h p List.mem_cons_self
    rw [full, List.length_append, unit_len, List.length_cons, Nat.succ_mul]
    have : pad p.length ≤ 3 := by unfold pad; omega
    omega
theorem pack_le {l : List (List Int)} (h : ∀ p ∈ l, p.length ≤ 4095) : (packB l).length ≤ l.length * 4104 := by
  have h1 := full_le h
  have h2 := full_of_pack l
  omega
theorem many_code {l : List (List Int)} (h : inR (lensI l) = true) : codeP l = if manyB (l.length : Int) ((packB l).length : Int) = true then 104 else 0 := by
  obtain ⟨h0, h1⟩ := inR_ok h
  have hm : manyB (l.length : Int) ((packB l).length : Int) = true ↔ (64 < l.length ∨ 65535 < (packB l).length) := by
    unfold manyB
    simp only [Bool.or_eq_true, decide_eq_true_eq]
    omega
  by_cases hq : 64 < l.length ∨ 65535 < (packB l).length
  · rw [if_pos (hm.2 hq)]; exact codeP_many h0 h1 hq
  · rw [if_neg (fun h => hq (hm.1 h))]; exact codeP_is h0 h1 (by omega) (by omega)
/-- what Pack hands back: of what may be, a row of its own; else nothing, and why. -/
def OutP (l : List (List Int)) (E : Nat → Addr) (w : World) (e : Ending) (w' : World) : Prop := ∃ v, e = .returned (.tuple #[v, errV E (codeP l)]) ∧ (codeP l = 0 → ∃ g cap, v = .slice (some ⟨g, 0, none⟩) (packB l).length cap ∧ OwnB w' w.heap.size 5 .u8 g (packB l).length cap (packB l)) ∧ (codeP l ≠ 0 → v = .slice none 0 0) ∧ Below w.heap.size w w'
theorem OutP.bad {l : List (List Int)} {E : Nat → Addr} {w w' : World} {c : Nat} (hc : codeP l = c) (h0 : c ≠ 0) (hb : Below w.heap.size w w') : OutP l E w (.returned (.tuple #[.slice none 0 0, errP (E c)])) w' :=
  ⟨_, by rw [hc, errV_pos E h0], fun h => absurd (hc.symm.trans h) h0, fun _ => rfl, hb⟩
theorem OutP.good {l : List (List Int)} {E : Nat → Addr} {w w' : World} (hc : codeP l = 0) {g cap m : Nat} (hm : (packB l).length = m) (hO : OwnB w' w.heap.size 5 .u8 g m cap (packB l)) (hb : Below w.heap.size w w') : OutP l E w (.returned (.tuple #[.slice (some ⟨g, 0, none⟩) m cap, .nilIface])) w' :=
  ⟨_, by rw [hc, errV_zero], fun _ => ⟨g, cap, by rw [hm], by rw [hm]; exact hO⟩, fun h => absurd hc h, hb⟩

theorem take_getP {l : List (List Int)} {k : Nat} (hk : k < l.length) : l.take (k + 1) = l.take k ++ [l.getD k []] := by
  rw [List.take_succ_eq_append_getElem hk]; simp [List.getD, hk]
set_option maxRecDepth 100000 in
set_option maxHeartbeats 8000000 in
theorem pack_any (A : Option Addr) (n c : Nat) (l : List (List Int)) (E : Nat → Addr) (w : World) (h : RowP w A n l) (hn : n ≤ 100000) (hS : Sent w E S5) :
    Calls Tryd.prog 10 #[.slice A n c] w fun e w' => OutP l E w e w' := by
  obtain ⟨i0, hi0, hz0, hz1, hz2⟩ := info_parts byte_info
  have HR := Lib.hid h
  have HLL := Lib.hid h.len
  have HS := Lib.hid hS
  clear h hS
  go_enter Tryd.func10, Tryd.ntmps10
  go_wp2_with (go_at_call 23; refine (lengths_any A n c l w HR.out (by omega)).mono ?_; rintro e w1 ⟨gl, rfl, hO, hB⟩)
  have HI := Lib.hid (hO.row (k := .i64) (by
    intro i hi
    rw [lensI_at l i (by rw [HLL.out]; exact hi)]
    have := HR.out.lens _ (mem_getP (show i < l.length by rw [HLL.out]; exact hi))
    unfold maxLen at this
    generalize (l.getD i []).length = q at *
    simp [IntKind.min, IntKind.max, IntKind.signed, IntKind.bits]
    omega))
  have HB := Lib.hid hB
  clear hO hB
  go_wp2_with (fail)
  refine (inRange_any (some ⟨gl, 0, none⟩) n n (lensI l) w1 HI.out).mono ?_
  rintro e w' ⟨rfl, rfl⟩
  cases hin : inR (lensI l)
  · have HC := Lib.hid (codeP_range hin)
    have he0 := (HS.out.below HB.out).at_ 103 (by decide)
    simp only [gOf] at he0
    clear hin
    go_wp2
    go_quiet (fail)
    go_wp2
    go_ret2
    exact OutP.bad HC.out (by decide) (below_drewN HB.out _)
  obtain ⟨hne, hok⟩ := inR_ok hin
  have HOK := Lib.hid hok
  have h4095 : ∀ p ∈ l, p.length ≤ 4095 := fun p hp => (okP_iff.1 (hok p hp)).2
  have HLE := Lib.hid h4095
  have HPL := Lib.hid (pack_lens l)
  have HMC := Lib.hid (many_code hin)
  have HM := Lib.hid (pack_le h4095)
  rw [HLL.out] at HM HMC
  clear hin hne hok
  go_wp2_with (fail)
  refine (len_any (some ⟨gl, 0, none⟩) n n (lensI l) w1 HI.out (by
    intro x hx
    unfold lensI at hx
    simp only [List.mem_map] at hx
    obtain ⟨p, hp, rfl⟩ := hx
    have := h4095 p hp
    omega) (by omega)).mono ?_
  rintro e w' ⟨rfl, rfl⟩
  rw [HPL.out]
  clear HPL HI h4095
  obtain ⟨M, hM⟩ : ∃ M, M = (packB l).length := ⟨_, rfl⟩
  rw [← hM] at HM HMC
  rw [← hM]
  have HMM := Lib.hid hM.symm
  clear hM
  have hMb := HM.out
  go_wp2_with (fail)
  refine (many_any (n : Int) (M : Int) w1).mono ?_
  rintro e w' ⟨rfl, rfl⟩
  cases hmy : manyB (n : Int) (M : Int)
  case true =>
    have HC := Lib.hid (show codeP l = 104 by rw [HMC.out, hmy]; rfl)
    have he0 := (HS.out.below HB.out).at_ 104 (by decide)
    simp only [gOf] at he0
    clear hmy
    go_wp2
    go_quiet (fail)
    go_wp2
    go_ret2
    exact OutP.bad HC.out (by decide) (below_drewN HB.out _)
  have HC := Lib.hid (show codeP l = 0 by rw [HMC.out, hmy]; rfl)
  clear hmy HMC HS
  go_wp2_with (at_make; refine wpList_make_own _ rfl _ _ 23 rfl w.heap.size 5 i0 (.int .u8 0) 1 Tryd.underlying23 hi0 hz0 hz1 _ _ _ M rfl rfl (by omega) (by rw [hz2]; omega) (by unfold maxLen; omega) HB.out.size ?_; intro w2 hown1 hgrow1; have HO := Lib.hid (show OwnB w2 w.heap.size 5 .u8 w1.heap.size (packB (l.take 0)).length M (packB (l.take 0)) from hown1); have HB2 := Lib.hid (HB.out.grown hgrow1 HB.out.size (by simp)); clear hown1 hgrow1 HB)
  go_loopw [6, 26] (fun v i wr => ∃ k g cap m : Nat, k ≤ n ∧ i = .int .i64 k ∧ v = .slice (some ⟨g, 0, none⟩) m cap ∧ (packB (l.take k)).length = m ∧ OwnB wr w.heap.size 5 .u8 g m cap (packB (l.take k)) ∧ Below w.heap.size w wr) (fun _ i _ => n - (intOf i).toNat)
  case atStart => exact ⟨0, _, _, _, by omega, rfl, rfl, rfl, HO.out, HB2.out⟩
  case round =>
    obtain ⟨k, g, cap, m, hk, rfl, rfl, hm, hown, hbel⟩ := hrel
    clear HO HB2
    have HO := Lib.hid hown
    have HB := Lib.hid hbel
    have HMK := Lib.hid hm
    clear hown hbel hm
    by_cases hlt : k < n
    · have hkl : k < l.length := by rw [HLL.out]; exact hlt
      obtain ⟨b, off, a, len, ca, rfl, hc0, hr0, hlc⟩ := HR.out.el k hlt
      have hc := (HB.out.cell (cell_lt' hc0)).trans hc0
      have hb1 : m ≤ k * 4104 := by
        have := pack_le (l := l.take k) (fun p hp => HLE.out p (List.mem_of_mem_take hp))
        rw [HMK.out, List.length_take, Nat.min_eq_left (by omega)] at this
        exact this
      have hb2 : m ≤ 410400000 := by omega
      have hl1 := okP_iff.1 (HOK.out _ (mem_getP hkl))
      rw [hr0.len] at hl1
      obtain ⟨b3, o3, rfl, -⟩ := hr0.cells (by omega)
      have hp3 : pad m ≤ 3 := by unfold pad; omega
      have HF := Lib.hid (show packB (l.take k) ++ List.replicate (pad m) 0 = full (l.take k) by rw [← HMK.out]; exact pack_full _)
      have HN := Lib.hid (show full (l.take k) ++ dlm len ++ l.getD k [] = packB (l.take (k + 1)) by
        rw [take_getP hkl, packB_snoc]; unfold bare; rw [hr0.len, List.append_assoc])
      have HNL := Lib.hid (show (packB (l.take (k + 1))).length = m + pad m + 4 + len by
        rw [← HN.out, List.length_append, List.length_append, hr0.len, ← HF.out, List.length_append, HMK.out, List.length_replicate]; rfl)
      have HRr := Lib.hid (fun (w' : World) (hB : Below w.heap.size w w') => hr0.below hB)
      have HDW := Lib.hid (dlm_wf len hl1.2)
      have HDL := Lib.hid (show (dlm len).length = 4 from rfl)
      have HPL := Lib.hid hr0.len
      clear hr0 hc0 hb1
      generalize l.getD k [] = p at *
      generalize packB (l.take k) = pk at *
      generalize full (l.take k) = fk at *
      go_wp2_with (fail)
      refine (fill_any m _ (by omega)).mono ?_
      rintro e w' ⟨rfl, rfl⟩
      generalize pad m = q at *
      go_wp2_with (refine app_zeros0 rfl (.tmp 30) (.tmp 33) rfl w.heap.size g m cap q pk rfl HO.out rfl (by omega) HB.out.size ?_; intro g2 cap2 w2 hO2 hb2'; rw [HF.out] at hO2; have HO2 := hO2; have HB2 := Lib.hid (HB.out.trans hb2'.out); clear HO HB hb2' hc hO2)
      refine (delim_any len w2 (by omega)).mono ?_
      rintro e w3 ⟨g3, cap3, rfl, hO3, hB3⟩
      generalize dlm len = dl at *
      have HO4 := Lib.hid (HO2.out.below hB3 HO2.out.lt.2)
      have HB4 := Lib.hid (HB2.out.trans (hB3.mono HB2.out.size))
      have HD4 := Lib.hid ((hO3.row8 HDW.out).src g3 0 rfl)
      clear hO3 hB3 HO2 HB2
      go_wp2_with (first
        | (refine app_own rfl (.tmp 35) (.tmp 38) rfl w.heap.size g2 (m + q) cap2 fk rfl HO4.out ⟨g3, 0, none⟩ 4 cap3 dl rfl HDL.out HD4.out (by omega) HB4.out.size ?_; intro g5 cap5 w5 hO5 hb5; have HO5 := hO5; have HB5 := Lib.hid (HB4.out.trans hb5.out); have HR5 := Lib.hid ((HRr.out w5 HB5.out).src b3 o3 rfl); clear hb5 hO5 HO4 HB4 HD4)
        | (refine app_own rfl (.tmp 40) (.tmp 41) rfl w.heap.size g5 (m + q + 4) cap5 (fk ++ dl) rfl HO5.out ⟨b3, o3, none⟩ len ca p rfl HPL.out HR5.out (by omega) HB5.out.size ?_; intro g6 cap6 w6 hO6 hb6; rw [HN.out] at hO6; have HO6 := hO6; have HB6 := Lib.hid (HB5.out.trans hb6.out); clear hb6 hO6 HO5 HB5 HR5))
      go_roundw
      case rel => exact ⟨k + 1, g6, cap6, m + q + 4 + len, by omega, by go_num, rfl, HNL.out, HO6.out, HB6.out⟩
      case measure => simp [intOf]; omega
    · have hk' : k = n := by omega
      subst hk'
      have HE := Lib.hid (show l.take k = l from List.take_of_length_le (by rw [HLL.out]; omega))
      rw [HE.out] at HO HMK
      go_wp2
      go_ret2
      exact OutP.good HC.out HMK.out HO.out HB.out
end Go.Proofs.YtejdmpdbapfomaaDoor
