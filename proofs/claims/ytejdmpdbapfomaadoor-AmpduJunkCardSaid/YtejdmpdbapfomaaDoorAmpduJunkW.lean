/-
  The walk of muezzin/muezzinlaw7.AmpduJunk: the Go text returns true.
-/
import Derived.Test.YtejdmpdbapfomaaDoorAmpJ
import Derived.Test.YtejdmpdbapfomaaDoorOpenP
import Derived.WalkKit
import Derived.ProofKit
import Derived.Below
namespace Go.Proofs.YtejdmpdbapfomaaDoor.ampduJunk
open Go.ChangeShapes Go.WideShapes Go.ChangeAt Go.RowKit Go.Joins Go.Deep
set_option linter.unusedVariables false
set_option linter.unusedSimpArgs false

/-- append onto a row of bytes of the call's own, nil let in, under a guard that says yes. -/
theorem app_v_if {w : World} {ops : Array Oper} {rest : List Oper} {o : Oper} {a : Act} {Q : Exit → Act → World → Prop} (hgd : Region.wanted o (yielded ops a.tmps) = true) (s x : Operand)
    (ho : o.op = .call { callee := .builtin .append, args := #[s, x], argTypes := #[23, 23] }) (B n : Nat) (v : Value) (xs : List Int)
    (hs : a.eval s = v) (hO : w.ownsRow B 5 1 v n (xs.map (Value.int .u8))) (ad : Addr) (m c : Nat) (ys : List Int) (hx : a.eval x = .slice (some ad) m c) (hl : ys.length = m) (hp : 0 < m)
    (hsrc : ∀ j u, (ys.map (Value.int .u8))[j]? = some u → w.cell? (ad.add j) = some u) (hm : n + m ≤ 1000000000) (hB : B ≤ w.heap.size)
    (h : ∀ g' cap' w', Hid (OwnB w' B 5 .u8 g' (n + m) cap' (xs ++ ys)) → Hid (Below B w w') → wpList Tryd.prog ops Q rest (a.put o.dst (.slice (some ⟨g', 0, none⟩) (n + m) cap')) w') : wpList Tryd.prog ops Q (o :: rest) a w := by
  obtain ⟨i0, hi0, hz0, hz1, hz2⟩ := info_parts byte_info
  refine wpList_append_if hgd s x 23 ho B 5 i0 _ 1 1 Tryd.underlying23 hi0 hz0 hz1 hz2 rfl (by omega) v n _ hs hO ad m c (ys.map (Value.int .u8)) hx (by simp [hl]) hsrc (by intro u hu; simp at hu; obtain ⟨v, _, rfl⟩ := hu; rfl) (by unfold maxLen; omega) (by omega) hB ?_
  intro v' w' hown hgrow hnil
  obtain ⟨g', cap', rfl, -⟩ := World.ownsRow.form hown (by omega)
  exact h g' cap' w' (show OwnB _ _ _ _ _ _ _ _ by unfold OwnB; rw [List.map_append]; exact hown) ((Below.refl B w).grown hgrow hB (by intro q hq; exact (World.ownsRow.lt hO q hq).1))
/-- junk, word by word: its bytes, none of a word's last one a mark. -/
def jb (xs : List Int) (i : Nat) : Int := if i % 4 = 3 ∧ xs.getD i 0 = 78 then 0 else xs.getD i 0
def cutJ (xs : List Int) (k : Nat) : List Int := (List.range k).map (jb xs)
theorem cutJ_len (xs : List Int) (k : Nat) : (cutJ xs k).length = k := by simp [cutJ]
theorem cutJ_step (xs : List Int) (k : Nat) : cutJ xs (k + 1) = cutJ xs k ++ [jb xs k] := by simp [cutJ, List.range_succ]
theorem cutJ_at (xs : List Int) (k i : Nat) (hi : i < k) : (cutJ xs k).getD i 0 = jb xs i := by simp [cutJ, List.getD, hi]
theorem cutJ_78 (xs : List Int) (k : Nat) : ∀ i, i < (cutJ xs k).length → i % 4 = 3 → (cutJ xs k).getD i 0 ≠ 78 := by
  intro i hi h3
  rw [cutJ_len] at hi
  rw [cutJ_at xs k i hi]
  unfold jb
  split
  · decide
  · rename_i h; exact fun e => h ⟨h3, e⟩
theorem jb_wf {w : World} {A : Option Addr} {n : Nat} {xs : List Int} (h : RowB .u8 w A n xs) (i : Nat) (hi : i < n) : 0 ≤ jb xs i ∧ jb xs i ≤ 255 := by
  have := h.wf8 i hi
  unfold jb
  split
  · decide
  · exact this
theorem cutJ_wf {w : World} {A : Option Addr} {n : Nat} {xs : List Int} (h : RowB .u8 w A n xs) (k : Nat) (hk : k ≤ n) : ∀ v ∈ cutJ xs k, 0 ≤ v ∧ v ≤ 255 := by
  intro v hv
  simp only [cutJ, List.mem_map, List.mem_range] at hv
  obtain ⟨i, hi, rfl⟩ := hv
  exact jb_wf h i (by omega)

/-! ### THE WALK -/
set_option maxRecDepth 100000 in
set_option maxHeartbeats 8000000 in
theorem walk (a0 : Option Addr) (len0 cap0 : Nat) (z0 : List Int) (n1 : Int) (n2 : Int) (w : World) (E : Nat → Addr) (hS : Sent w E [101, 102, 103, 104, 106]) (w0 : IsRow .u8 w a0 len0 cap0 z0) (w1 : (Lit.int .i64 n1).wf = true) (w2 : (Lit.int .i64 n2).wf = true) :
    Calls Tryd.prog 7 #[.slice a0 len0 cap0, .int .i64 n1, .int .i64 n2] w fun e w' => e = .returned (.bool true) ∧ Below w.heap.size w w' := by
  have HS := Lib.hid (show Sent w E S5 from hS)
  clear hS
  have HX := Lib.hid (RowB.of_row w0)
  have W1 := Lib.hid w1
  have W2 := Lib.hid w2
  generalize z0.take len0 = xs at *
  clear w0 w1 w2
  obtain ⟨i0, hi0, hz0, hz1, hz2⟩ := info_parts byte_info
  go_enter Tryd.func7, Tryd.ntmps7
  go_wp2_with (fail)
  refine (first_any E w HS.out).mono ?_
  rintro e w1 ⟨rfl, hB⟩
  have HB := Lib.hid hB
  clear hB
  by_cases hbig : 40 < len0
  · have d1 : decide ((40 : Int) < (len0 : Int)) = true := by simp; omega
    have d2 : decide (40 < len0) = true := by simp; omega
    go_wp2
    go_ret
    exact ⟨rfl, HB.out⟩
  have d1 : decide ((40 : Int) < (len0 : Int)) = false := by simp; omega
  have d2 : decide (40 < len0) = false := by simp; omega
  go_wp2_with (fail)
  refine (number_any n1 10 w1 W1.out (by omega) (by omega)).mono ?_
  rintro e w' ⟨rfl, rfl⟩
  have k1 := nmod_lo n1 10 (by omega)
  have k2 := nmod_hi n1 10 (by omega)
  generalize nmod n1 10 = x1 at *
  obtain ⟨nn, hnn⟩ : ∃ nn : Nat, x1 + 1 = (nn : Int) := ⟨(x1 + 1).toNat, by omega⟩
  have hnna : 1 ≤ nn := by omega
  have hnnb : nn < 1 + 10 := by omega
  clear k1 k2
  go_wp2_with (fail)
  refine (number_any n2 60 w1 W2.out (by omega) (by omega)).mono ?_
  rintro e w' ⟨rfl, rfl⟩
  have k1 := nmod_lo n2 60 (by omega)
  have k2 := nmod_hi n2 60 (by omega)
  generalize nmod n2 60 = x2 at *
  obtain ⟨ss, hss⟩ : ∃ ss : Nat, x2 + 1 = (ss : Int) := ⟨(x2 + 1).toNat, by omega⟩
  have hssa : 1 ≤ ss := by omega
  have hssb : ss < 1 + 60 := by omega
  clear k1 k2
  obtain ⟨P, hP⟩ : ∃ P, P = List.replicate ss (0 : Int) := ⟨_, rfl⟩
  have HPZ := Lib.hid hP
  have HPLn := Lib.hid (show P.length = ss by rw [hP]; simp)
  have HPM := Lib.hid (show ∀ v ∈ P, v = 0 from fun v hv => by rw [hP] at hv; exact (List.mem_replicate.1 hv).2)
  have HPW := Lib.hid (show ∀ i, i < ss → 0 ≤ P.getD i 0 ∧ P.getD i 0 ≤ 255 from all_wf HPLn.out (fun v hv => by rw [HPM.out v hv]; decide))
  clear hP
  clear d1 d2
  go_wp2
  go_loopw [8, 9] (fun v i wr => ∃ k : Nat, k ≤ nn ∧ i = .int .i64 k ∧ OwnP wr w.heap.size 23 v k (List.replicate k P) ∧ Below w.heap.size w wr) (fun _ i _ => nn - (intOf i).toNat)
  case atStart => exact ⟨0, by omega, rfl, OwnP.nil _ _ _, HB.out⟩
  case round =>
    obtain ⟨k, hk, rfl, hown, hbel⟩ := hrel
    clear HB
    have HP := Lib.hid hown
    have HB := Lib.hid hbel
    clear hown hbel
    by_cases hlt : k < nn
    case pos =>
      have HS := Lib.hid (show List.replicate k P ++ [P] = List.replicate (k + 1) P from List.replicate_succ'.symm)
      have hd : decide ((k : Int) < (nn : Int)) = true := by simp; omega
      have hd2 : decide (k < nn) = true := by simp; omega
      go_wp2_with (first
        | (at_make; refine wpList_make_full _ rfl _ _ 23 rfl wr.heap.size 5 i0 (.int .u8 0) 1 Tryd.underlying23 hi0 hz0 hz1 _ _ _ _ ss rfl rfl (by omega) (by omega) (by rw [hz2]; omega) (by unfold maxLen; omega) (Nat.le_refl _) ?_; intro w4 hown1 hgrow1; rw [zeros, ← HPZ.out] at hown1; have HE := Lib.hid (ElP.of_own HP.out (show OwnB w4 wr.heap.size 5 .u8 wr.heap.size ss ss P from hown1) HPW.out); have HB4 := Lib.hid (HB.out.grown hgrow1 HB.out.size (by simp)); have HP4 := Lib.hid (HP.out.below ((Below.refl wr.heap.size wr).grown hgrow1 (Nat.le_refl _) (by simp))); clear hown1 hgrow1 HP HB)
        | (refine app_part rfl (.tmp 33) (.tmp 36) rfl w.heap.size k u8 (List.replicate k P) rfl (HP4.out.below ((Below.refl w4.heap.size w4).alloc (Nat.le_refl _) _)) (.slice (some ⟨wr.heap.size, 0, none⟩) ss ss) P (HE.out.keep (fun k _ hk => ((Below.refl w4.heap.size w4).alloc (Nat.le_refl _) _).block k hk)) ⟨w4.heap.size, 0, none⟩ 1 rfl (cell_one_new _ _ _ 0 _ rfl) (by omega) (by have := HB4.out.size; simp; omega) ?_; intro g5 cap5 w5 hP5 hb5; rw [HS.out] at hP5; have HP5 := hP5; have HB5 := Lib.hid ((HB4.out.alloc HB4.out.size _).trans hb5.out); clear hP5 hb5 HP4 HB4 HE))
      go_roundw
      case rel => exact ⟨k + 1, by omega, by go_num, HP5.out, HB5.out⟩
      case measure => simp [intOf]; omega
    have hk' : k = nn := by omega
    subst hk'
    have hd : decide ((k : Int) < (k : Int)) = false := by simp
    obtain ⟨A5, c5, hv5, hrow5, hc5⟩ := HP.out.row (by unfold maxLen; omega)
    subst hv5
    have HR5 := Lib.hid hrow5
    clear hrow5 HP hk hlt
    have HOK := Lib.hid (show ∀ p ∈ List.replicate k P, okP p = true from rep_ok k P (okP_iff.2 (by rw [HPLn.out]; omega)))
    have HCP := Lib.hid (show codeP (List.replicate k P) = 0 by
      obtain ⟨m, rfl⟩ : ∃ m, k = m + 1 := ⟨k - 1, by omega⟩
      refine codeP_is (by simp [List.replicate_succ]) HOK.out (by simp; omega) ?_
      rw [pack_rep_len, unit_len, HPLn.out]
      have h1 : m * (4 + ss + pad ss) ≤ 10 * 67 := Nat.mul_le_mul (by omega) (by unfold pad; omega)
      omega)
    have HMB := Lib.hid (show (packB (List.replicate k P)).length ≤ 65535 ∧ 0 < (packB (List.replicate k P)).length by
      refine ⟨(codeP_ok HCP.out).2.2.2, ?_⟩
      obtain ⟨m, hm⟩ : ∃ m, k = m + 1 := ⟨k - 1, by omega⟩
      rw [hm, pack_rep_len]; omega)
    generalize hLL : List.replicate k P = L at *
    have HUJ := Lib.hid (fun s h1 h2 => unpack_junk s L h1 h2 HOK.out)
    have HWP := Lib.hid (codeP_wf HCP.out HR5.out.wf8)
    clear HPZ HPLn HPM HPW hLL
    go_wp2_with (fail)
    refine (pack_any A5 k c5 L E wr HR5.out (by omega) (HS.out.below HB.out)).mono ?_
    rintro e w6 ⟨v, rfl, hg, -, hB⟩
    obtain ⟨g, cap, rfl, hO⟩ := hg HCP.out
    rw [HCP.out, errV_zero]
    obtain ⟨M, hM⟩ : ∃ M, M = (packB L).length := ⟨_, rfl⟩
    rw [← hM] at hO HWP HMB
    rw [← hM]
    have HPK := Lib.hid (hO.row8 HWP.out)
    have hcapM := hO.cap_le
    have HML := Lib.hid hM.symm
    clear hg hM
    have T0 := Lib.hid (HB.out.trans (hB.mono HB.out.size))
    have T1 := Lib.hid (HR5.out.below hB)
    clear HB HR5
    have HB := T0
    have HR5 := T1
    clear T0 T1
    clear hB hO
    obtain ⟨hM1, hM2⟩ := HMB.out
    obtain ⟨b9, o9, e9, -⟩ := HPK.out.cells hM2
    cases e9
    obtain ⟨md, hmd⟩ : ∃ md : Nat, (len0 : Int) / 4 = (md : Int) := ⟨len0 / 4, by omega⟩
    obtain ⟨mj, hmj⟩ : ∃ mj : Nat, (md : Int) * 4 = (mj : Int) := ⟨md * 4, by omega⟩
    have hmj2 : mj ≤ len0 := by omega
    have HM4 := Lib.hid (show mj % 4 = 0 by omega)
    go_wp2
    go_loopw [12, 13] (fun v i wr2 => ∃ (j : Nat) (A2 : Option Addr) (cp2 : Nat), j ≤ mj ∧ i = .int .i64 j ∧ v = .slice A2 j cp2 ∧ wr2.ownsRow w6.heap.size 5 1 (.slice A2 j cp2) j ((cutJ xs j).map (Value.int .u8)) ∧ Below w6.heap.size w6 wr2) (fun _ i _ => mj - (intOf i).toNat)
    case atStart => exact ⟨0, none, 0, by omega, rfl, rfl, World.ownsRow_nil _ _ _ _, Below.refl _ _⟩
    case round =>
      obtain ⟨j, A2, cp2, hj, rfl, rfl, hown, hbel⟩ := hrel
      have HO := Lib.hid hown
      have HB6 := Lib.hid hbel
      clear hown hbel
      by_cases hjt : j < mj
      case pos =>
        have hd : decide ((j : Int) < (mj : Int)) = true := by simp; omega
        have hd2 : decide (j < mj) = true := by simp; omega
        have hjl : (j : Int) < (len0 : Int) := by omega
        obtain ⟨b1, o1, rfl, hc0⟩ := (HX.out.below (HB.out.trans (HB6.out.mono HB.out.size))).el j (by omega)
        have HST := Lib.hid (cutJ_step xs j)
        have HJ0 := Lib.hid (show j % 4 = 3 ∧ xs.getD j 0 = 78 → jb xs j = 0 from fun h => by unfold jb; rw [if_pos h])
        have HJ1 := Lib.hid (show ¬ (j % 4 = 3 ∧ xs.getD j 0 = 78) → jb xs j = xs.getD j 0 from fun h => by unfold jb; rw [if_neg h])
        have hv := HX.out.wf8 j (by omega)
        generalize xs.getD j 0 = x at *
        cases e3 : ((j : Int) % 4 == 3)
        case false =>
          have HJ := Lib.hid (HJ1.out (fun h => by have := h.1; simp at e3; omega))
          have HSS := Lib.hid (show cutJ xs (j + 1) = cutJ xs j ++ [x] by rw [HST.out, HJ.out])
          clear HST HJ HJ0 HJ1
          go_wp2_with (first
            | (refine app_v rfl (.tmp 64) (.tmp 66) rfl w6.heap.size j (.slice A2 j cp2) (cutJ xs j) rfl (HO.out.alloc _) ⟨wr.heap.size, 0, none⟩ 1 1 [x] rfl rfl (by omega) (World.news_of_block (cs := #[.int .u8 x]) (t := 5) (fr := (0, 0)) (heap_alloc_new wr _)) (by omega) (by have := HB6.out.size; simp; omega) ?_; intro g4 cap4 w4 hO4 hb4; rw [← HSS.out] at hO4; have HO4 := hO4; have HB4 := Lib.hid ((HB6.out.alloc HB6.out.size _).trans hb4.out); clear hO4 hb4 HO HB6))
          go_roundw
          case rel => exact ⟨j + 1, some ⟨g4, 0, none⟩, cap4, by omega, by go_num, rfl, HO4.out, HB4.out⟩
          case measure => simp [intOf]; omega
        cases e8 : (x == 78)
        case false =>
          have HJ := Lib.hid (HJ1.out (fun h => by have := h.2; simp at e8; omega))
          have HSS := Lib.hid (show cutJ xs (j + 1) = cutJ xs j ++ [x] by rw [HST.out, HJ.out])
          clear HST HJ HJ0 HJ1
          go_wp2_with (first
            | (refine app_v rfl (.tmp 64) (.tmp 66) rfl w6.heap.size j (.slice A2 j cp2) (cutJ xs j) rfl (HO.out.alloc _) ⟨wr.heap.size, 0, none⟩ 1 1 [x] rfl rfl (by omega) (World.news_of_block (cs := #[.int .u8 x]) (t := 5) (fr := (0, 0)) (heap_alloc_new wr _)) (by omega) (by have := HB6.out.size; simp; omega) ?_; intro g4 cap4 w4 hO4 hb4; rw [← HSS.out] at hO4; have HO4 := hO4; have HB4 := Lib.hid ((HB6.out.alloc HB6.out.size _).trans hb4.out); clear hO4 hb4 HO HB6))
          go_roundw
          case rel => exact ⟨j + 1, some ⟨g4, 0, none⟩, cap4, by omega, by go_num, rfl, HO4.out, HB4.out⟩
          case measure => simp [intOf]; omega
        have HJ := Lib.hid (HJ0.out ⟨by simp at e3; omega, by simpa using e8⟩)
        have HSS := Lib.hid (show cutJ xs (j + 1) = cutJ xs j ++ [0] by rw [HST.out, HJ.out])
        clear HST HJ HJ0 HJ1
        go_wp2_with (first
          | (refine app_v rfl (.tmp 64) (.tmp 66) rfl w6.heap.size j (.slice A2 j cp2) (cutJ xs j) rfl (HO.out.alloc _) ⟨wr.heap.size, 0, none⟩ 1 1 [0] rfl rfl (by omega) (World.news_of_block (cs := #[.int .u8 0]) (t := 5) (fr := (0, 0)) (heap_alloc_new wr _)) (by omega) (by have := HB6.out.size; simp; omega) ?_; intro g4 cap4 w4 hO4 hb4; rw [← HSS.out] at hO4; have HO4 := hO4; have HB4 := Lib.hid ((HB6.out.alloc HB6.out.size _).trans hb4.out); clear hO4 hb4 HO HB6))
        go_roundw
        case rel => exact ⟨j + 1, some ⟨g4, 0, none⟩, cap4, by omega, by go_num, rfl, HO4.out, HB4.out⟩
        case measure => simp [intOf]; omega
      have hj' : j = mj := by omega
      subst hj'
      have hd : decide ((j : Int) < (j : Int)) = false := by simp
      have HR6 := Lib.hid (HR5.out.below HB6.out)
      have HPK6 := Lib.hid ((HPK.out.below HB6.out).src g 0 rfl)
      have HPL6 := Lib.hid (HPK.out.below HB6.out).len
      have HS6 := Lib.hid (HS.out.below (HB.out.trans (HB6.out.mono HB.out.size)))
      have HB7 := Lib.hid (HB.out.trans (HB6.out.mono HB.out.size))
      have HU := Lib.hid (HUJ.out (cutJ xs j) (by rw [cutJ_len]; exact HM4.out) (cutJ_78 xs j))
      have HWW := Lib.hid (show ∀ i, i < j + M → 0 ≤ (cutJ xs j ++ packB L).getD i 0 ∧ (cutJ xs j ++ packB L).getD i 0 ≤ 255 from all_wf (by rw [List.length_append, cutJ_len, HML.out]) (fun v hv => by
        rcases List.mem_append.1 hv with h | h
        · exact cutJ_wf HX.out j (by omega) v h
        · exact HPK.out.mem8 v h))
      have hB6s := HB6.out.size
      have HBw := Lib.hid HB.out.size
      clear HUJ HX HML HWP
      go_wp2_with (first
        | (refine app_v_if (by rfl) (.tmp 70) (.tmp 71) rfl w6.heap.size j (.slice A2 j cp2) (cutJ xs j) rfl HO.out ⟨g, 0, none⟩ M cap (packB L) rfl HPL6.out hM2 HPK6.out (by omega) hB6s ?_; intro g7 cap7 w7 hO7 hb7; have HO7 := Lib.hid (hO7.out.row8 HWW.out); have hc7 := hO7.out.cap_le; have HR7 := Lib.hid (HR5.out.below (HB6.out.trans hb7.out)); have HB8 := Lib.hid (HB7.out.trans (hb7.out.mono HBw.out)); clear hO7 hb7 HO HPK6 HR6 HB6 HB7 HB)
        | fail)
      refine (unpack_any (some ⟨g7, 0, none⟩) (j + M) cap7 (cutJ xs j ++ packB L) E w7 HO7.out hc7 (by omega) (HS.out.below HB8.out)).mono ?_
      rintro e w8 ⟨A8, m8, c8, rfl, hr, -, hB⟩
      rw [HU.out] at hr
      have HR8 := Lib.hid hr
      have HR9 := Lib.hid (HR7.out.below hB)
      have HB9 := Lib.hid (HB8.out.trans (hB.mono HB8.out.size))
      clear hr hB HO7 HR7 HB8 HWW HU
      go_wp2_with (fail)
      refine (sameParts_any A8 A5 m8 c8 k c5 _ _ w8 HR8.out HR9.out).mono ?_
      rintro e w9 ⟨rfl, m, rfl⟩
      rw [sameP_refl]
      have HBA := Lib.hid (below_drewN HB9.out m)
      go_wp2
      go_ret
      exact ⟨rfl, HBA.out⟩
end Go.Proofs.YtejdmpdbapfomaaDoor.ampduJunk
