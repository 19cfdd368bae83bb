/-
  CONTRACTS of the reference's two (onto nil), num, Pack.
-/
import Derived.Test.YtejdmpdbapfomaaDoorAmpF
import Derived.Deep.RegionHeld3
namespace Go.Proofs.YtejdmpdbapfomaaDoor
open Go.ChangeShapes Go.WideShapes Go.ChangeAt Go.RowKit Go.Deep
set_option linter.unusedVariables false
set_option linter.unusedSimpArgs false

/-! ### append onto a row of bytes of the call's own, nil let in -/
theorem app_v {w : World} {ops : Array Oper} {rest : List Oper} {o : Oper} {a : Act} {Q : Exit → Act → World → Prop} (hgd : o.guard = none) (s x : Operand)
    (ho : o.op = .call { callee := .builtin .append, args := #[s, x], argTypes := #[23, 23] }) (B n : Nat) (v : Value) (xs : List Int)
    (hs : a.eval s = v) (hO : w.ownsRow B 5 1 v n (xs.map (Value.int .u8))) (ad : Addr) (m c : Nat) (ys : List Int) (hx : a.eval x = .slice (some ad) m c) (hl : ys.length = m) (hp : 0 < m)
    (hsrc : ∀ j u, (ys.map (Value.int .u8))[j]? = some u → w.cell? (ad.add j) = some u) (hm : n + m ≤ 1000000000) (hB : B ≤ w.heap.size)
    (h : ∀ g' cap' w', Hid (OwnB w' B 5 .u8 g' (n + m) cap' (xs ++ ys)) → Hid (Below B w w') → wpList Tryd.prog ops Q rest (a.put o.dst (.slice (some ⟨g', 0, none⟩) (n + m) cap')) w') : wpList Tryd.prog ops Q (o :: rest) a w := by
  obtain ⟨i0, hi0, hz0, hz1, hz2⟩ := info_parts byte_info
  refine wpList_append_lies w hgd s x 23 ho B 5 i0 _ 1 1 Tryd.underlying23 hi0 hz0 hz1 hz2 rfl (by omega) v n _ hs hO ad m c (ys.map (Value.int .u8)) hx (by simp [hl]) hsrc (by intro u hu; simp at hu; obtain ⟨v, _, rfl⟩ := hu; rfl) hp (by unfold maxLen; omega) (by omega) hB w.heap.size rfl ?_
  intro g' cap' w' hown hgrow _ _
  exact h g' cap' w' (show OwnB _ _ _ _ _ _ _ _ by unfold OwnB; rw [List.map_append]; exact hown) ((Below.refl B w).grown hgrow hB (by intro q hq; exact (World.ownsRow.lt hO q hq).1))
theorem owns_below {w w' : World} {base : Nat} {e : TypeId} {size n : Nat} {v : Value} {xs : List Value} (h : w.ownsRow base e size v n xs) (hb : Below w.heap.size w w') : w'.ownsRow base e size v n xs := by
  refine ⟨h.1, ?_⟩
  rcases h.2 with hn | ⟨g, cap, cur, hv, hb', hg, rest⟩
  · exact .inl hn
  · exact .inr ⟨g, cap, cur, hv, hb', (hb.block g (lt_blk hg)).trans hg, rest⟩
theorem step_app_v {w : World} {ops : Array Oper} {o : Oper} {a : Act} {K : Act → World → Prop} {Q : Exit → Act → World → Prop} {E : Prop} (hgd : o.guard = none) (s x : Operand)
    (ho : o.op = .call { callee := .builtin .append, args := #[s, x], argTypes := #[23, 23] }) (B n : Nat) (v : Value) (xs : List Int)
    (hs : a.eval s = v) (hO : w.ownsRow B 5 1 v n (xs.map (Value.int .u8))) (ad : Addr) (m c : Nat) (ys : List Int) (hx : a.eval x = .slice (some ad) m c) (hl : ys.length = m) (hp : 0 < m)
    (hsrc : ∀ j u, (ys.map (Value.int .u8))[j]? = some u → w.cell? (ad.add j) = some u) (hm : n + m ≤ 1000000000) (hB : B ≤ w.heap.size)
    (h : ∀ g' cap' w', Hid (OwnB w' B 5 .u8 g' (n + m) cap' (xs ++ ys)) → Hid (Below B w w') → Hid (∀ k, k < w.heap.size → some k ≠ v.ownBlock → w'.heap[k]? = w.heap[k]?) → K (a.put o.dst (.slice (some ⟨g', 0, none⟩) (n + m) cap')) w') :
    if Region.wanted o (yielded ops a.tmps) = true then Oper.wp Tryd.prog o a w K Q else E := by
  obtain ⟨i0, hi0, hz0, hz1, hz2⟩ := info_parts byte_info
  refine step_append_lies _ hgd s x 23 ho B 5 i0 _ 1 1 Tryd.underlying23 hi0 hz0 hz1 hz2 rfl (by omega) v n _ hs hO ad m c (ys.map (Value.int .u8)) hx (by simp [hl]) hsrc (by intro u hu; simp at hu; obtain ⟨v, _, rfl⟩ := hu; rfl) hp (by unfold maxLen; omega) (by omega) hB w.heap.size rfl ?_
  intro g' cap' w' hown hgrow _ _
  exact h g' cap' w' (show OwnB _ _ _ _ _ _ _ _ by unfold OwnB; rw [List.map_append]; exact hown) ((Below.refl B w).grown hgrow hB (by intro q hq; exact (World.ownsRow.lt hO q hq).1)) (fun k hk hne => hgrow.block k hk hne)
set_option maxRecDepth 100000 in
set_option maxHeartbeats 4000000 in
theorem two_nil (v : Int) (w : World) (h0 : 0 ≤ v) (h1 : v < 65536) :
    Calls Tryd.prog 29 #[.slice none 0 0, .int .i64 v] w fun e w' => ∃ g' cap', e = .returned (.slice (some ⟨g', 0, none⟩) 2 cap') ∧ OwnB w' w.heap.size 5 .u8 g' 2 cap' [v % 256, v / 256] ∧ Below w.heap.size w w' := by
  have x1 : IntKind.u8.wrap v = v % 256 := by rw [IntKind.wrap_u8]
  have x2 : IntKind.u8.wrap (v / 256) = v / 256 := IntWalk.u8_in _ ⟨by omega, by omega⟩
  go_enter Tryd.func29, Tryd.ntmps29
  go_wp2_with (refine app_v rfl (.tmp 5) (.tmp 11) rfl w.heap.size 0 (.slice none 0 0) [] rfl (World.ownsRow_nil _ _ _ _) ⟨w.heap.size, 0, none⟩ 2 2 [v % 256, v / 256] rfl rfl (by omega) (World.news_of_block (cs := #[.int .u8 (v % 256), .int .u8 (v / 256)]) (t := 5) (fr := (0, 0)) (heap_alloc_new w _)) (by omega) (by simp) ?_; intro g' cap' w' hO' hb')
  rw [Nat.zero_add] at *
  go_wp2
  go_ret
  exact ⟨g', cap', rfl, hO'.out, ((Below.refl w.heap.size w).alloc (Nat.le_refl _) _).trans hb'.out⟩

/-! ### num -/
theorem or_two_nat (a b : Nat) (ha : a < 256) (hb : b < 256) : bits .or .i64 (a : Int) ((b * 256 : Nat) : Int) = ((a + b * 256 : Nat) : Int) := by
  have hx : a ||| b * 256 = a + b * 256 := by
    have := Nat.shiftLeft_add_eq_or_of_lt (show a < 2 ^ 8 by omega) b
    rw [Nat.shiftLeft_eq] at this
    rw [Nat.or_comm, ← this]; omega
  have e : ∀ n : Nat, n < 65536 → (BitVec.ofInt 64 (n : Int)).toNat = n := fun n hn => by simp [BitVec.toNat_ofInt]; omega
  show IntKind.i64.wrap ((BitVec.ofInt 64 (a : Int) ||| BitVec.ofInt 64 ((b * 256 : Nat) : Int)).toNat : Int) = _
  rw [BitVec.toNat_or, e a (by omega), e (b * 256) (by omega), hx]
  exact IntWalk.i64_in _ ⟨by omega, by omega⟩
theorem or_two (a b : Int) (a0 : 0 ≤ a) (a1 : a ≤ 255) (b0 : 0 ≤ b) (b1 : b ≤ 255) : bits .or .i64 a (b * 256) = a + b * 256 := by
  obtain ⟨A, rfl⟩ := Int.eq_ofNat_of_zero_le a0
  obtain ⟨B, rfl⟩ := Int.eq_ofNat_of_zero_le b0
  have := or_two_nat A B (by omega) (by omega)
  simpa using this

set_option maxRecDepth 100000 in
set_option maxHeartbeats 4000000 in
theorem num_any (b off n c : Nat) (xs : List Int) (w : World) (h : RowB .u8 w (some ⟨b, off, none⟩) n xs) (hn : 2 ≤ n) :
    Calls Tryd.prog 34 #[.slice (some ⟨b, off, none⟩) n c] w fun e w' => e = .returned (.int .i64 (xs.getD 0 0 + xs.getD 1 0 * 256)) ∧ ∃ m, w' = w.drewN m := by
  obtain ⟨b', off', e, hc⟩ := h.cells (by omega)
  cases e
  have c0 := hc 0 (by omega)
  rw [Nat.add_zero] at c0
  have c1 := hc 1 (by omega)
  obtain ⟨l0, u0⟩ := h.wf8 0 (by omega)
  obtain ⟨l1, u1⟩ := h.wf8 1 (by omega)
  have HV := Lib.hid (or_two _ _ l0 u0 l1 u1)
  clear hc h
  generalize xs.getD 0 0 = v0 at *
  generalize xs.getD 1 0 = v1 at *
  have b0 : (0 : Int) < (n : Int) := by omega
  have b1 : (1 : Int) < (n : Int) := by omega
  have x0 := IntWalk.i64_in v0 ⟨by omega, by omega⟩
  have x1 := IntWalk.i64_in v1 ⟨by omega, by omega⟩
  have x2 := IntWalk.i64_in (v1 * 256) ⟨by omega, by omega⟩
  go_enter Tryd.func34, Tryd.ntmps34
  go_wp2
  go_quiet (fail)
  go_wp2
  go_ret
  exact ⟨by rw [← HV.out]; rfl, _, rfl⟩


/-! ### Pack -/
def lenV : Value → Nat
  | .slice _ n _ => n
  | _ => 0
def OutQ (l : List (List Int)) (w : World) (e : Ending) (w' : World) : Prop := ∃ A m c, e = .returned (.tuple #[.slice A m c, .int .i64 (codeP l : Nat)]) ∧ RowB .u8 w' A m (if codeP l = 0 then packB l else []) ∧ m ≤ c ∧ Below w.heap.size w w'
theorem OutQ.bad {l : List (List Int)} {w w' : World} {c : Nat} (hc : codeP l = c) (h0 : c ≠ 0) (hb : Below w.heap.size w w') : OutQ l w (.returned (.tuple #[.slice none 0 0, .int .i64 c])) w' :=
  ⟨none, 0, 0, by rw [hc], by rw [hc, if_neg h0]; exact RowB.nil, Nat.le_refl _, hb⟩
theorem OutQ.good {l : List (List Int)} {w w' : World} (hc : codeP l = 0) {g cap m B : Nat} (hO : OwnB w' B 5 .u8 g m cap (packB l)) (hw : ∀ i, i < m → 0 ≤ (packB l).getD i 0 ∧ (packB l).getD i 0 ≤ 255) (hb : Below w.heap.size w w') : OutQ l w (.returned (.tuple #[.slice (some ⟨g, 0, none⟩) m cap, .int .i64 0])) w' :=
  ⟨_, _, _, by rw [hc]; rfl, by rw [hc, if_pos rfl]; exact hO.row8 hw, hO.cap_le, hb⟩
theorem bare_wf {p : List Int} (h : p.length ≤ 4095) (hp : ∀ v ∈ p, 0 ≤ v ∧ v ≤ 255) : ∀ v ∈ bare p, 0 ≤ v ∧ v ≤ 255 := by
  intro v hv
  rw [bare, List.mem_append] at hv
  rcases hv with hv | hv
  · obtain ⟨i, hi, rfl⟩ := List.getElem_of_mem hv
    have hi4 : i < 4 := hi
    have := dlm_wf _ h i hi4
    have e : (dlm p.length).getD i 0 = (dlm p.length)[i] := by rw [List.getD_eq_getElem?_getD, List.getElem?_eq_getElem hi]; rfl
    rwa [e] at this
  · exact hp v hv
theorem full_wf {l : List (List Int)} (h : ∀ p ∈ l, p.length ≤ 4095) (hp : ∀ p ∈ l, ∀ v ∈ p, 0 ≤ v ∧ v ≤ 255) : ∀ v ∈ full l, 0 ≤ v ∧ v ≤ 255 := by
  induction l with
  | nil => intro v hv; exact absurd hv List.not_mem_nil
  | cons p r ih =>
    intro v hv
    rw [full, List.mem_append, unitP, List.mem_append] at hv
    rcases hv with (hv | hv) | hv
    · exact bare_wf (h p List.mem_cons_self) (hp p List.mem_cons_self) v hv
    · rw [(List.mem_replicate.1 hv).2]; decide
    · exact ih (fun q hq => h q (List.mem_cons_of_mem _ hq)) (fun q hq => hp q (List.mem_cons_of_mem _ hq)) v hv
theorem pack_wf {l : List (List Int)} (h : ∀ p ∈ l, p.length ≤ 4095) (hp : ∀ p ∈ l, ∀ v ∈ p, 0 ≤ v ∧ v ≤ 255) : ∀ i, i < (packB l).length → 0 ≤ (packB l).getD i 0 ∧ (packB l).getD i 0 ≤ 255 := by
  refine all_wf rfl fun v hv => full_wf h hp v ?_
  rw [← pack_full l]
  exact List.mem_append_left _ hv
theorem RowP.wf8 {w : World} {A : Option Addr} {n : Nat} {l : List (List Int)} (h : RowP w A n l) : ∀ p ∈ l, ∀ v ∈ p, 0 ≤ v ∧ v ≤ 255 := by
  intro p hp
  obtain ⟨i, hi, rfl⟩ := List.getElem_of_mem hp
  obtain ⟨b, off, a, m, c, -, -, hr, -⟩ := h.el i (by have := h.len; omega)
  have e : l.getD i [] = l[i] := by simp [List.getD, hi]
  rw [e] at hr
  exact hr.mem8
set_option maxRecDepth 100000 in
set_option maxHeartbeats 8000000 in
theorem refpack_any (A : Option Addr) (n c : Nat) (l : List (List Int)) (w : World) (h : RowP w A n l) (hn : n ≤ 100000) :
    Calls Tryd.prog 11 #[.slice A n c] w fun e w' => OutQ l w e w' := by
  have HR := Lib.hid h
  have HLL := Lib.hid h.len
  have HWF := Lib.hid h.wf8
  clear h
  rcases Nat.eq_zero_or_pos n with h0 | hp
  · subst h0
    have HC := Lib.hid (codeP_bad (l := l) (.inl (List.eq_nil_of_length_eq_zero HLL.out)))
    go_enter Tryd.func11, Tryd.ntmps11
    go_wp2
    go_ret2
    exact OutQ.bad HC.out (by decide) (Below.refl _ _)
  have hn0 : ((n : Int) == 0) = false := by simp; omega
  go_enter Tryd.func11, Tryd.ntmps11
  go_wp2
  go_loop [4] (fun i => ∃ k : Nat, k ≤ n ∧ i = .int .i64 k ∧ ∀ i, i < k → okP (l.getD i []) = true) (fun i => n - (intOf i).toNat)
  case atStart => exact ⟨0, by omega, rfl, fun i hi => by omega⟩
  case round =>
    obtain ⟨k, hk, rfl, hall⟩ := hrel
    have HA := Lib.hid hall
    clear hall
    by_cases hlt : k < n
    · have hkl : k < l.length := by rw [HLL.out]; exact hlt
      obtain ⟨b, off, a, len, ca, rfl, hc, hr, -⟩ := HR.out.el k hlt
      have hml := hr.le
      unfold maxLen at hml
      have HN := Lib.hid (show okP (l.getD k []) = true → ∀ i, i < k + 1 → okP (l.getD i []) = true from fun h i hi => by
        rcases Nat.lt_or_ge i k with h1 | h1
        · exact HA.out i h1
        · rw [show i = k by omega]; exact h)
      have HV := Lib.hid (show ¬ (1 ≤ len ∧ len ≤ 4095) → codeP l = 103 from fun h => codeP_bad (.inr ⟨_, mem_getP hkl, by
        rw [Bool.eq_false_iff]
        intro e
        have := okP_iff.1 e
        rw [hr.len] at this
        exact h this⟩))
      have HG := Lib.hid (show 1 ≤ len ∧ len ≤ 4095 → okP (l.getD k []) = true from fun h => okP_iff.2 (by rw [hr.len]; exact h))
      clear hr
      cases e1 : decide ((len : Int) < 1)
      · have e1' : decide (len = 0) = false := by simp at e1 ⊢; omega
        cases e2 : decide ((4095 : Int) < (len : Int))
        · have e2' : decide (4095 < len) = false := by simp at e2 ⊢; omega
          have HN2 := Lib.hid (HN.out (HG.out (by simp at e1 e2; omega)))
          go_wp2
          go_round
          case rel => exact ⟨k + 1, by omega, by go_num, HN2.out⟩
          case measure => simp [intOf]; omega
        · have e2' : decide (4095 < len) = true := by simp at e2 ⊢; omega
          have HC := Lib.hid (HV.out (by simp at e2; omega))
          go_wp2
          go_ret2
          exact OutQ.bad HC.out (by decide) (Below.refl _ _)
      · have e1' : decide (len = 0) = true := by simp at e1 ⊢; omega
        have HC := Lib.hid (HV.out (by simp at e1; omega))
        go_wp2
        go_ret2
        exact OutQ.bad HC.out (by decide) (Below.refl _ _)
    · have hk' : k = n := by omega
      subst hk'
      have HOK := Lib.hid (show ∀ p ∈ l, okP p = true from fun p hp => by
        obtain ⟨i, hi, rfl⟩ := List.getElem_of_mem hp
        have := HA.out i (by rw [← HLL.out]; exact hi)
        simpa [List.getD, hi] using this)
      have HLE := Lib.hid (show ∀ p ∈ l, p.length ≤ 4095 from fun p hp => (okP_iff.1 (HOK.out p hp)).2)
      have HNN := Lib.hid (show l ≠ [] from fun e => by have := HLL.out; rw [e] at this; simp at this; omega)
      have HPW := Lib.hid (pack_wf HLE.out HWF.out)
      have HPL := Lib.hid (pack_lens l)
      clear HA
      cases e6 : decide ((64 : Int) < (k : Int))
      case true =>
        have e6' : decide (64 < k) = true := by simp at e6 ⊢; omega
        have HC := Lib.hid (codeP_many HNN.out HOK.out (.inl (by rw [HLL.out]; simp at e6; omega)))
        go_wp2
        go_ret2
        exact OutQ.bad HC.out (by decide) (Below.refl _ _)
      have e6' : decide (64 < k) = false := by simp at e6 ⊢; omega
      have hk64 : k ≤ 64 := by simp at e6; omega
      go_wp2_with (fail)
      refine (reflens_any A k c l w HR.out (by omega)).mono ?_
      rintro e w1 ⟨B1, k1, rfl, hI, hB⟩
      have HI := Lib.hid hI
      have HB := Lib.hid hB
      clear hI hB
      go_wp2_with (fail)
      refine (agglen_any B1 k k1 (lensI l) w1 HI.out (by
        intro x hx
        unfold lensI at hx
        simp only [List.mem_map] at hx
        obtain ⟨p, hp, rfl⟩ := hx
        have := HLE.out p hp
        omega) (by omega)).mono ?_
      rintro e w' ⟨rfl, rfl⟩
      rw [HPL.out]
      obtain ⟨M, hM⟩ : ∃ M, M = (packB l).length := ⟨_, rfl⟩
      have HM := Lib.hid hM.symm
      rw [← hM]
      clear hM HPL HI
      cases e7 : decide ((65535 : Int) < (M : Int))
      case true =>
        have e7' : decide (65535 < M) = true := by simp at e7 ⊢; omega
        have HC := Lib.hid (codeP_many HNN.out HOK.out (.inr (by rw [HM.out]; simp at e7; omega)))
        go_wp2
        go_ret2
        exact OutQ.bad HC.out (by decide) HB.out
      have e7' : decide (65535 < M) = false := by simp at e7 ⊢; omega
      have HC := Lib.hid (codeP_is HNN.out HOK.out (by rw [HLL.out]; exact hk64) (by rw [HM.out]; simp at e7; omega))
      go_wp2
      go_loopw [5, 6] (fun v i wr => ∃ (j : Nat) (A2 : Option Addr) (m cap : Nat), j ≤ k ∧ i = .int .i64 j ∧ v = .slice A2 m cap ∧ (packB (l.take j)).length = m ∧ wr.ownsRow w.heap.size 5 1 (.slice A2 m cap) m ((packB (l.take j)).map (Value.int .u8)) ∧ (m = 0 ∨ ∃ g, A2 = some ⟨g, 0, none⟩) ∧ Below w.heap.size w wr) (fun _ i _ => k - (intOf i).toNat)
      case atStart => exact ⟨0, none, 0, 0, by omega, rfl, rfl, rfl, World.ownsRow_nil _ _ _ _, .inl rfl, HB.out⟩
      case round =>
        obtain ⟨j, A2, m, cap, hj, rfl, rfl, hm, hown, hform, hbel⟩ := hrel
        clear HB
        have HO := Lib.hid hown
        have HB := Lib.hid hbel
        have HMK := Lib.hid hm
        have HFM := Lib.hid hform
        clear hown hbel hm hform
        by_cases hjt : j < k
        case neg =>
          have hj' : j = k := by omega
          subst hj'
          have HE := Lib.hid (show l.take j = l from List.take_of_length_le (by rw [HLL.out]; omega))
          rw [HE.out] at HO HMK
          have hm0 : m ≠ 0 := fun e => by
            have h1 := pack_lens l
            obtain ⟨p, r, e2⟩ := List.exists_cons_of_ne_nil HNN.out
            have h2 := HMK.out
            rw [e2] at h2
            have h3 : 4 ≤ (packB (p :: r)).length := by
              cases r with
              | nil => simp [packB, bare_len]
              | cons q r => rw [packB_cons _ _ (by simp), List.length_append, unit_len]; omega
            omega
          obtain ⟨g, rfl⟩ := HFM.out.resolve_left hm0
          have hPW := HPW.out
          rw [HMK.out] at hPW
          have HPW2 := Lib.hid hPW
          clear hPW
          go_wp2
          go_ret2
          exact OutQ.good HC.out (B := w.heap.size) HO.out HPW2.out HB.out
        have hkl : j < l.length := by rw [HLL.out]; exact hjt
        obtain ⟨b, off, a, len, ca, rfl, hc0, hr0, hlc⟩ := HR.out.el j hjt
        have hb1 : m ≤ j * 4104 := by
          have := pack_le (l := l.take j) (fun p hp => HLE.out p (List.mem_of_mem_take hp))
          rw [HMK.out, List.length_take, Nat.min_eq_left (by omega)] at this
          exact this
        have hb2 : m ≤ 410400000 := by omega
        have hl1 := okP_iff.1 (HOK.out _ (mem_getP hkl))
        rw [hr0.len] at hl1
        obtain ⟨b3, o3, rfl, -⟩ := hr0.cells (by omega)
        obtain ⟨q, hq⟩ : ∃ q, q = pad m := ⟨_, rfl⟩
        have hq3 : q ≤ 3 := by unfold pad at hq; omega
        have hq4 : (m + q) % 4 = 0 := by unfold pad at hq; omega
        have hqm : ∀ x, m ≤ x → x ≤ m + q → x % 4 = 0 → x = m + q := fun x h1 h2 h3 => by unfold pad at hq; omega
        have HQM := Lib.hid hqm
        clear hqm
        have HF := Lib.hid (show packB (l.take j) ++ List.replicate q 0 = full (l.take j) by rw [hq, ← HMK.out]; exact pack_full _)
        have HN := Lib.hid (show full (l.take j) ++ dlm len ++ l.getD j [] = packB (l.take (j + 1)) by
          rw [take_getP hkl, packB_snoc]; unfold bare; rw [hr0.len, List.append_assoc])
        have HNL := Lib.hid (show (packB (l.take (j + 1))).length = m + q + 4 + len by
          rw [← HN.out, List.length_append, List.length_append, hr0.len, ← HF.out, List.length_append, HMK.out, List.length_replicate]; rfl)
        have HRr := Lib.hid (fun (w' : World) (hB : Below w.heap.size w w') => hr0.below hB)
        have HCC := Lib.hid (fun (w' : World) (hB : Below w.heap.size w w') => (hB.cell (cell_lt' hc0)).trans hc0)
        have HDW := Lib.hid (dlm_wf len hl1.2)
        have HPLn := Lib.hid hr0.len
        clear hr0 hc0 hb1 hq
        generalize l.getD j [] = p at *
        generalize packB (l.take j) = pk at *
        generalize full (l.take j) = fk at *
        go_wp2
        go_loopw [5] (fun v wr => ∃ (A3 : Option Addr) (M3 cap3 : Nat), v = .slice A3 M3 cap3 ∧ m ≤ M3 ∧ M3 ≤ m + q ∧ wr.ownsRow w.heap.size 5 1 (.slice A3 M3 cap3) M3 ((pk ++ List.replicate (M3 - m) 0).map (Value.int .u8)) ∧ Below w.heap.size w wr) (fun v _ => m + q - lenV v)
        case atStart => exact ⟨A2, m, cap, rfl, by omega, by omega, by simpa using HO.out, HB.out⟩
        case round =>
          obtain ⟨A3, M3, cap3, rfl, hM1, hM2, hown, hbel⟩ := hrel
          clear HO HB
          have HO := Lib.hid hown
          have HB := Lib.hid hbel
          clear hown hbel
          by_cases hz : M3 % 4 = 0
          case neg =>
            have dz : ((M3 : Int) % 4 != 0) = true := by simp; omega
            have hM3 : M3 < m + q := by
              rcases Nat.lt_or_ge M3 (m + q) with h1 | h1
              · exact h1
              · exact absurd (show M3 % 4 = 0 by rw [show M3 = m + q by omega]; exact hq4) hz
            have HS := Lib.hid (show pk ++ List.replicate (M3 - m) 0 ++ [0] = pk ++ List.replicate (M3 + 1 - m) (0 : Int) by
              rw [List.append_assoc, show M3 + 1 - m = (M3 - m) + 1 by omega, List.replicate_succ'])
            clear hz
            go_wp2_with (refine app_v rfl (.tmp 50) (.tmp 51) rfl w.heap.size M3 (.slice A3 M3 cap3) (pk ++ List.replicate (M3 - m) 0) rfl (HO.out.alloc _) ⟨wr.heap.size, 0, none⟩ 1 1 [0] rfl rfl (by omega) (World.news_of_block (cs := #[.int .u8 0]) (t := 5) (fr := (0, 0)) (heap_alloc_new wr _)) (by omega) (by have := HB.out.size; simp; omega) ?_; intro g4 cap4 w4 hO4 hb4; rw [HS.out] at hO4; have HO4 := hO4; have HB4 := Lib.hid ((HB.out.alloc HB.out.size _).trans hb4.out); clear hO4 hb4 HO HB)
            go_roundw
            case rel => exact ⟨some ⟨g4, 0, none⟩, M3 + 1, cap4, rfl, by omega, by omega, HO4.out, HB4.out⟩
            case measure => simp [lenV]; omega
          have hM3 : M3 = m + q := HQM.out M3 hM1 hM2 hz
          have dz : ((M3 : Int) % 4 != 0) = false := by simp; omega
          rw [show M3 - m = q by omega, HF.out] at HO
          have HML := Lib.hid hM3
          have hM3b : M3 ≤ 410400003 := by omega
          clear hz hM1 hM2 hq4 hM3 hq3 hb2
          have hc := HCC.out wr HB.out
          go_wp2_with (fail)
          refine (two_nil ((len : Int) * 16) wr (by omega) (by omega)).mono ?_
          rintro e w3 ⟨g3, cp3, rfl, hO3, hB3⟩
          have HO5 := Lib.hid (owns_below HO.out hB3)
          have HB5 := Lib.hid (HB.out.trans (hB3.mono HB.out.size))
          have HO3 := Lib.hid hO3
          have HNE := Lib.hid (show ∀ v : Value, v = .slice A3 M3 cap3 → some g3 ≠ v.ownBlock from fun v e h => by
            subst e
            have h1 := (World.ownsRow.lt HO.out g3 h.symm).2
            have h2 := hO3.lt.1
            omega)
          have HLT := Lib.hid hO3.lt.2
          clear hO3 hB3 HO HB hc
          have HLO := Lib.hid (show [(len : Int) * 16 % 256, (len : Int) * 16 / 256, sum [(len : Int) * 16 % 256, (len : Int) * 16 / 256], 78] = dlm len from rfl)
          have HW2 := Lib.hid (show ∀ i, i < 2 → 0 ≤ [(len : Int) * 16 % 256, (len : Int) * 16 / 256].getD i 0 ∧ [(len : Int) * 16 % 256, (len : Int) * 16 / 256].getD i 0 ≤ 255 from all_wf rfl (by intro v hv; simp at hv; omega))
          have HCL := Lib.hid (show ∀ (w' : World) (hB : w'.heap[g3]? = w3.heap[g3]?), w'.cell? ⟨g3, 0, none⟩ = some (.int .u8 ((len : Int) * 16 % 256)) from fun (w' : World) (hB : w'.heap[g3]? = w3.heap[g3]?) => (HO3.out.of_block hB).cell 0 (by omega))
          have HCH := Lib.hid (show ∀ (w' : World) (hB : w'.heap[g3]? = w3.heap[g3]?), w'.cell? ⟨g3, 1, none⟩ = some (.int .u8 ((len : Int) * 16 / 256)) from fun (w' : World) (hB : w'.heap[g3]? = w3.heap[g3]?) => (HO3.out.of_block hB).cell 1 (by omega))
          have HRW := Lib.hid (fun (w' : World) (hB : w'.heap[g3]? = w3.heap[g3]?) => (HO3.out.of_block hB).row8 HW2.out)
          generalize (len : Int) * 16 % 256 = lo at *
          generalize (len : Int) * 16 / 256 = hi at *
          obtain ⟨sm, hsm⟩ : ∃ sm, sm = sum [lo, hi] := ⟨_, rfl⟩
          rw [← hsm] at HLO
          have HSM := Lib.hid hsm.symm
          clear hsm
          go_wp2
          refine wp_region_held_drew (S := fun w' => Below w.heap.size w w' ∧ w'.heap[g3]? = w3.heap[g3]?) (by kernel_rfl) ⟨HB5.out.drew, rfl⟩ (fun hHeld => ?_)
          have HO6 := Lib.hid (World.ownsRow.drew HO5.out)
          generalize World.drew w3 = w4 at *
          refine wpAnyH_take (i := 0) (v := ?_) rfl (by kernel_rfl) (by kernel_rfl) (by kernel_rfl) (fun _ _ _ h => h) (Or.inl ⟨by rfl, ?_⟩) (by assumption) ?_
          rotate_left
          · intro w hSw
            clear hSw
            go_simp
            try with_reducible rfl
          try simp only [Act.put, List.getElem_toArray, List.getElem_cons_zero, List.getElem_cons_succ, List.setIfInBounds_toArray, List.set_cons_zero, List.set_cons_succ]
          refine wpAnyH_take (i := 1) (v := ?_) rfl (by kernel_rfl) (by kernel_rfl) (by kernel_rfl) (fun _ _ _ h => h) (Or.inl ⟨by rfl, ?_⟩) (by assumption) ?_
          rotate_left
          · intro w hSw
            clear hSw
            go_simp
            try with_reducible rfl
          try simp only [Act.put, List.getElem_toArray, List.getElem_cons_zero, List.getElem_cons_succ, List.setIfInBounds_toArray, List.set_cons_zero, List.set_cons_succ]
          refine wpAnyH_take (i := 2) (v := ?_) rfl (by kernel_rfl) (by kernel_rfl) (by kernel_rfl) (fun _ _ _ h => h) (Or.inl ⟨by rfl, ?_⟩) (by assumption) ?_
          rotate_left
          · intro w hSw
            clear hSw
            go_simp
            try with_reducible rfl
          try simp only [Act.put, List.getElem_toArray, List.getElem_cons_zero, List.getElem_cons_succ, List.setIfInBounds_toArray, List.set_cons_zero, List.set_cons_succ]
          refine wpAnyH_take (i := 3) (v := ?_) rfl (by kernel_rfl) (by kernel_rfl) (by kernel_rfl) (fun _ _ _ h => h) (Or.inl ⟨by rfl, ?_⟩) (by assumption) ?_
          rotate_left
          · intro w hSw
            have c := HCL.out w hSw.2
            clear hSw
            go_simp
            try with_reducible rfl
          try simp only [Act.put, List.getElem_toArray, List.getElem_cons_zero, List.getElem_cons_succ, List.setIfInBounds_toArray, List.set_cons_zero, List.set_cons_succ]
          refine wpAnyH_take (i := 4) (v := ?_) rfl (by kernel_rfl) (by kernel_rfl) (by kernel_rfl) (fun _ _ _ h => h) (Or.inl ⟨by rfl, ?_⟩) (by assumption) ?_
          rotate_left
          · intro w hSw
            clear hSw
            go_simp
            try with_reducible rfl
          try simp only [Act.put, List.getElem_toArray, List.getElem_cons_zero, List.getElem_cons_succ, List.setIfInBounds_toArray, List.set_cons_zero, List.set_cons_succ]
          refine wpAnyH_take (i := 5) (v := ?_) rfl (by kernel_rfl) (by kernel_rfl) (by kernel_rfl) (fun _ _ _ h => h) (Or.inl ⟨by rfl, ?_⟩) (by assumption) ?_
          rotate_left
          · intro w hSw
            clear hSw
            go_simp
            try with_reducible rfl
          try simp only [Act.put, List.getElem_toArray, List.getElem_cons_zero, List.getElem_cons_succ, List.setIfInBounds_toArray, List.set_cons_zero, List.set_cons_succ]
          refine wpAnyH_take (i := 6) (v := ?_) rfl (by kernel_rfl) (by kernel_rfl) (by kernel_rfl) (fun _ _ _ h => h) (Or.inl ⟨by rfl, ?_⟩) (by assumption) ?_
          rotate_left
          · intro w hSw
            have c := HCH.out w hSw.2
            clear hSw
            go_simp
            try with_reducible rfl
          try simp only [Act.put, List.getElem_toArray, List.getElem_cons_zero, List.getElem_cons_succ, List.setIfInBounds_toArray, List.set_cons_zero, List.set_cons_succ]
          refine wpAnyH_take (i := 7) (v := ?_) rfl (by kernel_rfl) (by kernel_rfl) (by kernel_rfl) (fun _ _ _ h => h) (Or.inl ⟨by rfl, ?_⟩) (by assumption) ?_
          rotate_left
          · intro w hSw
            clear hSw
            go_simp
            try with_reducible rfl
          try simp only [Act.put, List.getElem_toArray, List.getElem_cons_zero, List.getElem_cons_succ, List.setIfInBounds_toArray, List.set_cons_zero, List.set_cons_succ]
          refine wpAnyH_ready (rs := [8]) (by kernel_rfl) (by simp) ?_
          refine AllReadyH.cons rfl (fun K hK => ?_) AllReadyH.nil
          go_simp
          refine (refsum_any (some ⟨g3, 0, none⟩) 2 cp3 [lo, hi] w4 (HRW.out w4 hHeld.2)).mono ?_
          rintro e' w' ⟨rfl, rfl⟩
          rw [HSM.out]
          refine hK.out _ _ hHeld (fun hHeld => ?_)
          clear hK K
          try simp only [Act.put, List.getElem_toArray, List.getElem_cons_zero, List.getElem_cons_succ, List.setIfInBounds_toArray, List.set_cons_zero, List.set_cons_succ]
          have HB7 := Lib.hid (hHeld.1.alloc hHeld.1.size (.cells #[.int .u8 lo, .int .u8 hi, .int .u8 sm, .int .u8 78] 5))
          have HO7 := Lib.hid (World.ownsRow.alloc HO6.out (.cells #[.int .u8 lo, .int .u8 hi, .int .u8 sm, .int .u8 78] 5))
          have HG7 := Lib.hid ((((Below.refl w4.heap.size w4).alloc (Nat.le_refl _) (.cells #[.int .u8 lo, .int .u8 hi, .int .u8 sm, .int .u8 78] 5)).block g3 (by have h1 := HLT.out; have h2 := hHeld.2; exact lt_blk (h2.trans (Array.getElem?_eq_getElem h1)))).trans hHeld.2)
          have HN7 := Lib.hid (World.news_of_block (cs := #[.int .u8 lo, .int .u8 hi, .int .u8 sm, .int .u8 78]) (t := 5) (fr := (0, 0)) (heap_alloc_new w4 _))
          have HZ7 := Lib.hid (show w4.heap.size = w4.heap.size from rfl)
          refine wpAnyH_ready (rs := [9]) (by kernel_rfl) (by simp) ?_
          refine AllReadyH.cons rfl (fun K hK => ?_) AllReadyH.nil
          go_simp
          refine hK.out _ _ ⟨HB7.out, HG7.out⟩ (fun hHeld => ?_)
          clear hK K
          try simp only [Act.put, List.getElem_toArray, List.getElem_cons_zero, List.getElem_cons_succ, List.setIfInBounds_toArray, List.set_cons_zero, List.set_cons_succ]
          refine wpAnyH_ready (rs := [10]) (by kernel_rfl) (by simp) ?_
          refine AllReadyH.cons rfl (fun K hK => ?_) AllReadyH.nil
          refine step_app_v (by rfl) (.tmp 60) (.tmp 69) (by rfl) w.heap.size M3 (.slice A3 M3 cap3) fk (by rfl) HO7.out ⟨w4.heap.size, 0, none⟩ 4 4 [lo, hi, sm, 78] (by rfl) rfl (by omega) HN7.out (by omega) HB7.out.size ?_
          intro g6 cap6 w6 hO6 hb6 hblk
          rw [HLO.out] at hO6
          have HO8 := hO6
          have HB8 := Lib.hid (HB7.out.trans hb6.out)
          have HG8 := Lib.hid ((hblk.out g3 (lt_blk (HG7.out.trans (Array.getElem?_eq_getElem HLT.out))) (HNE.out _ rfl)).trans HG7.out)
          clear hO6 hb6 hblk HO7 HO6 HO5 HN7
          refine hK.out _ _ ⟨HB8.out, HG8.out⟩ (fun hHeld => ?_)
          clear hK K
          try simp only [Act.put, List.getElem_toArray, List.getElem_cons_zero, List.getElem_cons_succ, List.setIfInBounds_toArray, List.set_cons_zero, List.set_cons_succ]
          refine wpAnyH_take (i := 11) (v := ?_) rfl (by kernel_rfl) (by kernel_rfl) (by kernel_rfl) (fun _ _ _ h => h) (Or.inl ⟨by rfl, ?_⟩) (by assumption) ?_
          rotate_left
          · intro w hSw
            clear hSw
            go_simp
            try with_reducible rfl
          try simp only [Act.put, List.getElem_toArray, List.getElem_cons_zero, List.getElem_cons_succ, List.setIfInBounds_toArray, List.set_cons_zero, List.set_cons_succ]
          refine wpAnyH_done (by kernel_rfl) ?_ _
          try simp only [Act.put, List.getElem_toArray, List.getElem_cons_zero, List.getElem_cons_succ, List.setIfInBounds_toArray, List.set_cons_zero, List.set_cons_succ]
          clear hHeld HB7 HG7 HG8 HB5
          have hc := HCC.out w6 HB8.out
          have HR9 := Lib.hid ((HRr.out w6 HB8.out).src b3 o3 rfl)
          go_wp2_with (first
            | (refine app_own rfl (.tmp 71) (.tmp 75) rfl w.heap.size g6 (M3 + 4) cap6 (fk ++ dlm len) rfl HO8.out ⟨b3, o3, none⟩ len ca p rfl HPLn.out HR9.out (by omega) HB8.out.size ?_; intro g9 cap9 w9 hO9 hb9; rw [HN.out] at hO9; have HO9 := hO9; have HB9 := Lib.hid (HB8.out.trans hb9.out); clear hb9 hO9 HO8 HB8 HR9))
          go_roundw
          case rel => exact ⟨j + 1, some ⟨g9, 0, none⟩, M3 + 4 + len, cap9, by omega, by go_num, rfl, by rw [HNL.out, HML.out], HO9.out, .inr ⟨g9, rfl⟩, HB9.out⟩
          case measure => simp [intOf]; omega
end Go.Proofs.YtejdmpdbapfomaaDoor
