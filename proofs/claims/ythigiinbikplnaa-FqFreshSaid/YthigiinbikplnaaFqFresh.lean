/-
  muezzin/muezzinlaw13.FqFresh returns true, for all arguments; no condition.
-/
import Derived.Test.YthigiinbikplnaaFqV
import Derived.WalkKit
import Derived.ProofKit
import Derived.OpenShut
import Derived.ChangeOld
import Derived.Below
namespace Go.Proofs.Ythigiinbikplnaa.fqFresh
open Go.ChangeShapes Go.WideShapes Go.ChangeAt Go.RowKit Go.Deep
set_option linter.unusedVariables false
set_option linter.unusedSimpArgs false

theorem own : ownKnob Try.prog.godebug = none := by kernel_rfl
theorem laidOut : laidOutB Try.prog = true := by kernel_rfl


open Go.Proofs.Ythigiinbikplnaa
abbrev bk0 : Int → Nat := bkQ 0#32
theorem bk_0 : bkQ 0#32 0 = 0 := by decide
theorem bk_1 : bkQ 0#32 1 = 7 := by decide
def pkF (j : Nat) : Pk := ⟨(j : Int) + 1, 0, 0, 0, zer 700⟩
def thinP : Pk := ⟨1000, 1, 0, 0, zer 50⟩
def PP : Pl := ⟨0, 1073741824, 1073741824⟩
theorem calm_zero {x : Fl} (h : x.cd.on = false) (ha : ∀ p ∈ x.pk, p.at_ = 0) : CalmF PP x := ⟨h, fun p hp => by rw [ha p hp]; show (0 : Int) - 0 < 1073741824; omega⟩
/-- behind k puts. -/
structure FrQ (k : Nat) (q : Qu) : Prop where
  lists : (k = 0 ∧ q.fresh = [] ∧ q.elder = []) ∨ (0 < k ∧ q.fresh = [0] ∧ q.elder = [] ∧ (q.fl 0).df = 300)
  pk : (q.fl 0).pk = (List.range k).map pkF
  cd : (q.fl 0).cd = cdZ
  oth : ∀ j, j ≠ 0 → q.fl j = flZ
theorem frq_zero : FrQ 0 quZ := ⟨.inl ⟨rfl, rfl, rfl⟩, rfl, rfl, fun _ _ => rfl⟩
theorem frq_put {k : Nat} {q : Qu} (h : FrQ k q) : FrQ (k + 1) (putQ bk0 q (pkF k)) := by
  have hb : bk0 (pkF k).flow = 0 := bk_0
  have hr : (List.range (k + 1)).map pkF = (List.range k).map pkF ++ [pkF k] := by rw [List.range_succ, List.map_append]; rfl
  unfold putQ
  rw [hb]
  rcases h.lists with ⟨h0, h1, h2⟩ | ⟨h0, h1, h2, h3⟩
  · rw [if_neg (by rw [h1, h2]; simp)]
    exact ⟨.inr ⟨by omega, by rw [h1]; rfl, h2, by simp [setF_same]⟩, by simp only [setF_same]; rw [h.pk, hr], by simp only [setF_same]; exact h.cd, fun j hj => by simp only [setF_other _ _ hj]; exact h.oth j hj⟩
  · rw [if_pos (.inl (by rw [h1]; simp))]
    exact ⟨.inr ⟨by omega, h1, h2, by simp only [setF_same]; exact h3⟩, by simp only [setF_same]; rw [h.pk, hr], by simp only [setF_same]; exact h.cd, fun j hj => by simp only [setF_other _ _ hj]; exact h.oth j hj⟩
/-- behind j takes of n. -/
structure TkQ (n j : Nat) (q : Qu) : Prop where
  lists : (j = 0 ∧ q.fresh = [0] ∧ q.elder = [] ∧ (q.fl 0).df = 300) ∨ (0 < j ∧ Only0 0 q ∧ (q.fl 0).df ≤ 0)
  pk : (q.fl 0).pk = ((List.range n).map pkF).drop j
  cd : (q.fl 0).cd.on = false
  oth : ∀ j, j ≠ 0 → q.fl j = flZ
theorem tkq_zero {n : Nat} {q : Qu} (hn : 0 < n) (h : FrQ n q) : TkQ n 0 q := by
  rcases h.lists with ⟨h0, _⟩ | ⟨h0, h1, h2, h3⟩
  · omega
  · exact ⟨.inl ⟨rfl, h1, h2, h3⟩, h.pk, by rw [h.cd]; rfl, h.oth⟩
theorem at_zero {n j : Nat} {p : Pk} (h : p ∈ ((List.range n).map pkF).drop j) : p.at_ = 0 := by
  obtain ⟨k, -, rfl⟩ := List.mem_map.1 (List.mem_of_mem_drop h)
  rfl
theorem tkq_drop {n j : Nat} (h : j < n) : ((List.range n).map pkF).drop j = pkF j :: ((List.range n).map pkF).drop (j + 1) := by
  rw [List.drop_eq_getElem_cons (by simpa using h)]
  simp
theorem TkQ.only {n j : Nat} {q : Qu} (h : TkQ n j q) : Only0 0 q ∧ (q.fl 0).df ≤ 300 := by
  rcases h.lists with ⟨h0, h1, h2, h3⟩ | ⟨h0, h1, h2⟩
  · exact ⟨.inl ⟨h1, h2⟩, by omega⟩
  · exact ⟨h1, by omega⟩
theorem tkq_take {n j : Nat} {q : Qu} (h : TkQ n j q) (hI : InvQ bk0 q) (hj : j < n) : ∃ q', Takes PP q [] (some (pkF j)) [] q' ∧ TkQ n (j + 1) q' := by
  obtain ⟨r, ds', q', ht⟩ := takes_is PP (mu q + 1) q [] (by omega) hI
  have hp := h.pk
  rw [tkq_drop hj] at hp
  obtain ⟨h1, h2, h3, h4, h5, h6, h7⟩ := one_take ht h.only.1 (calm_zero h.cd fun p hp' => at_zero (h.pk ▸ hp')) hp (by show 300 ≤ (zer 700).length; rw [zer_len]; omega) h.only.2
  subst h1
  subst h2
  exact ⟨q', ht, ⟨.inr ⟨by omega, h3, h5⟩, h4, h6, fun k hk => by rw [h7 k hk]; exact h.oth k hk⟩⟩
/-- the thin one is put. -/
theorem thin_put {n j : Nat} {q : Qu} (h : TkQ n j q) : putQ bk0 q thinP = ⟨setF q.fl 7 ⟨[thinP], 300, cdZ⟩, q.fresh ++ [7], q.elder⟩ := by
  have hb : bk0 thinP.flow = 7 := bk_1
  have e : q.fl 7 = flZ := h.oth 7 (by omega)
  unfold putQ
  rw [hb, if_neg (by
    rcases h.only.1 with ⟨h1, h2⟩ | ⟨h1, h2⟩ <;> rw [h1, h2] <;> simp), e]
  rfl
theorem thin_calm (f : Nat → Fl) : CalmF PP (setF f 7 ⟨[thinP], 300, cdZ⟩ 7) := by
  rw [setF_same]
  exact calm_zero rfl fun p hp => by rw [List.mem_singleton.1 hp]; rfl
/-- the next taking, where some were taken ahead. -/
theorem thin_late {n j : Nat} {q : Qu} (h : TkQ n j q) (hj : 0 < j) : ∃ q', Takes PP (putQ bk0 q thinP) [] (some thinP) [] q' := by
  rw [thin_put h]
  rcases h.lists with ⟨h0, -⟩ | ⟨h0, h1, h2⟩
  · omega
  · have e0 : setF q.fl 7 ⟨[thinP], 300, cdZ⟩ 0 = q.fl 0 := setF_other _ _ (by omega)
    rcases h1 with ⟨h3, h4⟩ | ⟨h3, h4⟩
    · exact ⟨_, fresh_next (b := 0) (k := 7) [] (by rw [h3]; rfl) h4 (by omega) (by show (setF _ _ _ 0).df ≤ 0; rw [e0]; exact h2) (by show 0 < (setF _ _ _ 7).df; rw [setF_same]; show (0 : Int) < 300; omega) (thin_calm q.fl) (by show (setF _ _ _ 7).pk = _; rw [setF_same])⟩
    · exact ⟨_, fresh_once (k := 7) [] (by rw [h3]; rfl) (by show 0 < (setF _ _ _ 7).df; rw [setF_same]; show (0 : Int) < 300; omega) (thin_calm q.fl) (by show (setF _ _ _ 7).pk = _; rw [setF_same])⟩
/-- the two next ones, where none was taken ahead. -/
theorem thin_first {n : Nat} {q : Qu} (h : TkQ n 0 q) (hn : 0 < n) : ∃ q1 q2, Takes PP (putQ bk0 q thinP) [] (some (pkF 0)) [] q1 ∧ Takes PP q1 [] (some thinP) [] q2 := by
  rw [thin_put h]
  rcases h.lists with ⟨-, h1, h2, h3⟩ | ⟨h0, -⟩
  · have e0 : setF q.fl 7 ⟨[thinP], 300, cdZ⟩ 0 = q.fl 0 := setF_other _ _ (by omega)
    have hp := h.pk
    rw [tkq_drop hn] at hp
    have hc := calm_zero h.cd fun p hp' => at_zero (h.pk ▸ hp')
    have t1 := take_head (P := PP) (q := ⟨setF q.fl 7 ⟨[thinP], 300, cdZ⟩, q.fresh ++ [7], q.elder⟩) (b := 0) (nw := true) (p := pkF 0) (r := ((List.range n).map pkF).drop 1) [] (by unfold firstQ; rw [h1]; rfl) (by show 0 < (setF _ _ _ 0).df; rw [e0]; omega) (by show CalmF PP (setF _ _ _ 0); rw [e0]; exact hc) (by show (setF _ _ _ 0).pk = _; rw [e0]; exact hp)
    refine ⟨_, _, t1, fresh_next (b := 0) (k := 7) [] (by show q.fresh ++ [7] = _; rw [h1]; rfl) h2 (by omega) ?_ ?_ ?_ (p := thinP) (r := []) ?_⟩
    · rw [took_pk (p := pkF 0) (r := ((List.range n).map pkF).drop 1) (by show (setF _ _ _ 0).pk = _; rw [e0]; exact hp)]
      show (setF _ _ _ 0).df - ((zer 700).length : Nat) ≤ 0
      rw [e0, zer_len]; omega
    · rw [took_other (by omega)]; show 0 < (setF _ _ _ 7).df; rw [setF_same]; show (0 : Int) < 300; omega
    · rw [took_other (by omega)]; exact thin_calm q.fl
    · rw [took_other (by omega)]; show (setF _ _ _ 7).pk = _; rw [setF_same]
  · omega

/-! ### THE WALK -/
set_option maxRecDepth 100000 in
set_option maxHeartbeats 8000000 in
theorem walk (n0 : Int) (n1 : Int) (w : World) (w0 : (Lit.int .i64 n0).wf = true) (w1 : (Lit.int .i64 n1).wf = true) :
    Calls Try.prog 6 #[.int .i64 n0, .int .i64 n1] w fun e w' => e = .returned (.bool true) ∧ Below w.heap.size w w' := by
  have HN0 := Shut.mk (nmod_lo n0 30 (by decide))
  have HN1 := Shut.mk (nmod_hi n0 30 (by decide))
  have W0 := Shut.mk w0
  have W1 := Shut.mk w1
  clear w0 w1
  obtain ⟨i0, hi0, hz0, hz1, hz2⟩ := info_parts' byte_info
  go_enter Try.func6, Try.ntmps6
  go_wp2_with (fail)
  refine (first_any w).mono ?_
  rintro e wa ⟨rfl, hBa⟩
  have HBa := Shut.mk hBa
  clear hBa
  go_wp2_with (fail)
  refine (number_any n0 30 wa W0.out (by decide) (by decide)).mono ?_
  rintro e wn ⟨rfl, rfl⟩
  have hm0 := HN0.out
  have hm1 := HN1.out
  obtain ⟨m, hm⟩ := Int.eq_ofNat_of_zero_le hm0
  rw [hm] at hm1 ⊢
  clear hm0 hm HN0 HN1
  have hm30 : m < 30 := by omega
  go_wp2_with (fail)
  refine (number_any n1 ((m : Int) + 4) wa W1.out (by omega) (by omega)).mono ?_
  rintro e wn ⟨rfl, rfl⟩
  have ht0 := nmod_lo n1 ((m : Int) + 4) (by omega)
  have ht1 := nmod_hi n1 ((m : Int) + 4) (by omega)
  obtain ⟨tk, htk⟩ := Int.eq_ofNat_of_zero_le ht0
  rw [htk] at ht1 ⊢
  clear ht0 htk
  have htk : tk < m + 4 := by omega
  obtain ⟨n, hn⟩ : ∃ n : Nat, n = m + 4 := ⟨_, rfl⟩
  have HNM := Shut.mk hn
  have hni : (m : Int) + 4 = (n : Int) := by omega
  rw [hni]
  have hn33 : n ≤ 33 ∧ 4 ≤ n ∧ tk < n := by have := HNM.out; omega
  clear hni ht1 hm1 hm30
  clear hn htk HNM W0 W1
  go_wp2_with (fail)
  refine (new_any (uv 0#32) 1073741824 1073741824 wa).mono ?_
  rintro e wb ⟨rfl, hQ, hB⟩
  have hQW := QW.start (bk := bk0) (w0 := w) (sd := 0#32) HBa.out hQ hB
  obtain ⟨x, hx⟩ : ∃ x : Rq, x = ⟨wa.heap.size, uv 0#32, 1073741824, 1073741824⟩ := ⟨_, rfl⟩
  rw [← hx] at hQW
  have HQ1 := Shut.mk hQW
  have HSD := Shut.mk (show x.seed = uv 0#32 by rw [hx])
  have HPP := Shut.mk (show (⟨0, clampR x.tg 0 1073741824, clampR x.iv 0 1073741824⟩ : Pl) = PP by rw [hx]; rfl)
  rw [show wa.heap.size = x.g by rw [hx]]
  clear hQ hB hQW hx
  go_wp2_with (fail)
  go_loop [7, 8] (fun u f => (u = .int .u32 0 ∧ f = .int .u32 1) ∨ (u = .int .u32 1 ∧ f = .int .u32 2)) (fun _ f => 2 - (intOf f).toNat)
  case atStart => exact .inl ⟨rfl, rfl⟩
  case round =>
    rcases hrel with ⟨rfl, rfl⟩ | ⟨rfl, rfl⟩
    · go_wp2_with (fail)
      refine (refbucket_any 1#32 0#32 wb).mono ?_
      rintro e wn ⟨rfl, rfl⟩
      rw [show bkt 1#32 0#32 = 7 by decide]
      go_wp2_with (fail)
      refine (refbucket_any 0#32 0#32 wb).mono ?_
      rintro e wn ⟨rfl, rfl⟩
      rw [show bkt 0#32 0#32 = 0 by decide]
      go_wp2_with (fail)
      go_round
      case rel => exact .inr ⟨rfl, rfl⟩
      case measure => decide
    · go_wp2_with (fail)
      go_loopw [9] (fun i wr => ∃ (k : Nat) (T : Nat → Prop) (V : Nat → Value) (q : Qu), k ≤ n ∧ i = .int .i64 k ∧ QW bk0 w x T wr V q ∧ FrQ k q) (fun i _ => n - (intOf i).toNat)
      case atStart => exact ⟨0, _, _, _, Nat.zero_le _, rfl, HQ1.out, frq_zero⟩
      case round =>
        obtain ⟨k, T, V, q, hk, rfl, hq, hfr⟩ := hrel
        have HQ := Shut.mk hq
        have HFR := Shut.mk hfr
        clear hq hfr
        by_cases hlt : k < n
        · have HLL := Shut.mk (show (q.fl (bkQ 0#32 (pkF k).flow)).pk.length < 1000 by
            rw [show bkQ 0#32 (pkF k).flow = 0 from bk_0, HFR.out.pk]
            simp; omega)
          go_wp2_with (at_make; refine wpList_make_full _ rfl _ _ 30 rfl wr.heap.size 5 i0 (.int .u8 0) 1 Try.underlying30 hi0 hz0 hz1 _ _ _ _ 700 rfl rfl (by omega) (by omega) (by rw [hz2]; omega) (by unfold maxLen; omega) (Nat.le_refl _) ?_; intro w3 hown1 hgrow1)
          have HB3 := Shut.mk ((Below.refl wr.heap.size wr).grown hgrow1 (Nat.le_refl _) (by simp))
          have HR3 := Shut.mk (zer_row hown1)
          clear hown1 hgrow1
          refine (qput (HQ.out.quiet HB3.out) HSD.out (pkF k) _ 700 700 HR3.out (by omega) ⟨Int.le_refl _, by show (0 : Int) ≤ 4294967295; omega⟩ ⟨Int.le_refl _, by show (0 : Int) ≤ 4503599627370496; omega⟩ HLL.out).mono ?_
          rintro e w4 ⟨rfl, T', V', hQ', hC'⟩
          have HQ' := Shut.mk hQ'
          clear hQ' hC'
          go_wp2_with (fail)
          go_roundw
          case rel => exact ⟨k + 1, T', V', _, by omega, by go_num, HQ'.out, frq_put HFR.out⟩
          case measure => simp [intOf]; omega
        · have hk' : k = n := by omega
          subst hk'
          have HTQ := Shut.mk (tkq_zero (by omega) HFR.out)
          go_wp2_with (fail)
          go_loopw [10] (fun i wr => ∃ (j : Nat) (T : Nat → Prop) (V : Nat → Value) (q : Qu), j ≤ tk ∧ i = .int .i64 j ∧ QW bk0 w x T wr V q ∧ TkQ k j q) (fun i _ => tk - (intOf i).toNat)
          case atStart => exact ⟨0, _, _, _, Nat.zero_le _, rfl, HQ.out, HTQ.out⟩
          case round =>
            obtain ⟨j, T2, V2, q2, hj, rfl, hq, htq⟩ := hrel
            have HQ := Shut.mk hq
            have HTK := Shut.mk htq
            clear hq htq HTQ HFR
            by_cases hjt : j < tk
            · obtain ⟨q3, hT, hTQ3⟩ := tkq_take HTK.out HQ.out.inv (show j < k by omega)
              rw [← HPP.out] at hT
              have HT := Shut.mk hT
              have HTQ3 := Shut.mk hTQ3
              clear hT hTQ3
              go_wp2_with (fail)
              refine (qtake (bkQ_lt 0#32) HQ.out 0 (by decide) (by decide) _ _ _ HT.out).mono ?_
              rintro e w2 ⟨V3, late, T3, v, hQ3, hC3, -, -, -, -, hE⟩
              obtain ⟨A, c, rfl, rfl, -⟩ := hE.some_
              have HQ3 := Shut.mk hQ3
              clear hQ3 hC3 hE
              rw [show (pkF j).body.length = 700 from zer_len 700]
              unfold pkV pkF
              dsimp only
              obtain ⟨s11, hs11⟩ : ∃ s, s = w2.heap.size := ⟨_, rfl⟩
              have HSs11 := Shut.mk hs11
              have HAw3 := Shut.mk ((Below.refl w2.heap.size w2).alloc (Nat.le_refl _) (Obj.cells #[Value.int .i64 0, .int .u32 0, .int .i64 0, .int .i64 0, Value.slice none 0 0] 32 (0, 0)))
              have HXw3 := Shut.mk (show (w2.alloc (Obj.cells #[Value.int .i64 0, .int .u32 0, .int .i64 0, .int .i64 0, Value.slice none 0 0] 32 (0, 0))).heap[s11]? = some (Obj.cells #[Value.int .i64 0, .int .u32 0, .int .i64 0, .int .i64 0, Value.slice none 0 0] 32 (0, 0)) by rw [hs11]; exact (MapKept.heap_alloc w2 (Obj.cells #[Value.int .i64 0, .int .u32 0, .int .i64 0, .int .i64 0, Value.slice none 0 0] 32 (0, 0))).1)
              obtain ⟨w3, hw3⟩ : ∃ w4, w4 = (w2.alloc (Obj.cells #[Value.int .i64 0, .int .u32 0, .int .i64 0, .int .i64 0, Value.slice none 0 0] 32 (0, 0))).setRow s11 #[Value.int .i64 ((j : Int) + 1), .int .u32 0, .int .i64 0, .int .i64 0, Value.slice A 700 c] := ⟨_, rfl⟩
              have HYw3 := Shut.mk (show w3.heap[s11]? = some (Obj.cells #[Value.int .i64 ((j : Int) + 1), .int .u32 0, .int .i64 0, .int .i64 0, Value.slice A 700 c] 32 (0, 0)) by rw [hw3]; exact setRow_heap _ s11 _ #[Value.int .i64 ((j : Int) + 1), .int .u32 0, .int .i64 0, .int .i64 0, Value.slice A 700 c] _ (0, 0) HXw3.out)
              have HBw3 := Shut.mk (show Below w2.heap.size w2 w3 by rw [hw3]; exact below_setRow HAw3.out (by omega) _)
              have HWw3 := Shut.mk hw3
              clear hw3 hs11
              have hcl : w3.cell? ⟨s11, 0, none⟩ = some (.int .i64 ((j : Int) + 1)) := by have := block_range HYw3.out 0 _ rfl; simpa using this
              have hne : ((j : Int) + 1 != (j : Int) + 1) = false := by simp
              go_wp2_with (first
                | (refine wpList_store_row rfl 32 (.tmp 11) (.tmp 65) rfl s11 #[Value.int .i64 ((j : Int) + 1), .int .u32 0, .int .i64 0, .int .i64 0, Value.slice A 700 c] (by show Value.pointer (some ⟨w2.heap.size, 0, none⟩) = _; rw [HSs11.out]) rfl 32 _ HXw3.out size5 rfl (pkt_one _ _ _ _ _ _ _) ?_
                   rw [show World.setRow (World.alloc w2 _) s11 _ = w3 from HWw3.out.symm, ← HSs11.out]))
              go_roundw
              case rel => exact ⟨j + 1, _, V3, q3, by omega, by go_num, HQ3.out.quiet HBw3.out, HTQ3.out⟩
              case measure => simp [intOf]; omega
            · have hj' : tk = j := by omega
              subst hj'
              have HLL := Shut.mk (show (q2.fl (bkQ 0#32 thinP.flow)).pk.length < 1000 by
                rw [show bkQ 0#32 thinP.flow = 7 from bk_1, HTK.out.oth 7 (by omega)]
                decide)
              go_wp2_with (at_make; refine wpList_make_full _ rfl _ _ 30 rfl wr.heap.size 5 i0 (.int .u8 0) 1 Try.underlying30 hi0 hz0 hz1 _ _ _ _ 50 rfl rfl (by omega) (by omega) (by rw [hz2]; omega) (by unfold maxLen; omega) (Nat.le_refl _) ?_; intro w3 hown1 hgrow1)
              have HB3 := Shut.mk ((Below.refl wr.heap.size wr).grown hgrow1 (Nat.le_refl _) (by simp))
              have HR3 := Shut.mk (zer_row hown1)
              clear hown1 hgrow1
              refine (qput (HQ.out.quiet HB3.out) HSD.out thinP _ 50 50 HR3.out (by omega) ⟨by decide, by decide⟩ ⟨by decide, by decide⟩ HLL.out).mono ?_
              rintro e w4 ⟨rfl, T4, V4, hQ4, hC4⟩
              have HQ4 := Shut.mk hQ4
              clear hQ4 hC4
              by_cases ht0 : tk = 0
              · subst ht0
                obtain ⟨q5, q6, h5, h6⟩ := thin_first HTK.out (by omega)
                rw [← HPP.out] at h5 h6
                have H5 := Shut.mk h5
                have H6 := Shut.mk h6
                clear h5 h6
                go_wp2_with (fail)
                refine (qtake (bkQ_lt 0#32) HQ4.out 0 (by decide) (by decide) _ _ _ H5.out).mono ?_
                rintro e w5 ⟨V5, late5, T5, v5, hQ5, hC5, -, -, -, -, hE⟩
                obtain ⟨A5, c5, rfl, rfl, -⟩ := hE.some_
                have HQ5 := Shut.mk hQ5
                clear hQ5 hC5 hE
                rw [show (pkF 0).body.length = 700 from zer_len 700]
                unfold pkV pkF
                dsimp only
                rw [show ((0 : Nat) : Int) + 1 = 1 from rfl]
                obtain ⟨sa, hsa⟩ : ∃ s, s = w5.heap.size := ⟨_, rfl⟩
                have HSsa := Shut.mk hsa
                have HAw6 := Shut.mk ((Below.refl w5.heap.size w5).alloc (Nat.le_refl _) (Obj.cells #[Value.int .i64 0, .int .u32 0, .int .i64 0, .int .i64 0, Value.slice none 0 0] 32 (0, 0)))
                have HXw6 := Shut.mk (show (w5.alloc (Obj.cells #[Value.int .i64 0, .int .u32 0, .int .i64 0, .int .i64 0, Value.slice none 0 0] 32 (0, 0))).heap[sa]? = some (Obj.cells #[Value.int .i64 0, .int .u32 0, .int .i64 0, .int .i64 0, Value.slice none 0 0] 32 (0, 0)) by rw [hsa]; exact (MapKept.heap_alloc w5 (Obj.cells #[Value.int .i64 0, .int .u32 0, .int .i64 0, .int .i64 0, Value.slice none 0 0] 32 (0, 0))).1)
                obtain ⟨w6, hw6⟩ : ∃ w4, w4 = (w5.alloc (Obj.cells #[Value.int .i64 0, .int .u32 0, .int .i64 0, .int .i64 0, Value.slice none 0 0] 32 (0, 0))).setRow sa #[Value.int .i64 1, .int .u32 0, .int .i64 0, .int .i64 0, Value.slice A5 700 c5] := ⟨_, rfl⟩
                have HYw6 := Shut.mk (show w6.heap[sa]? = some (Obj.cells #[Value.int .i64 1, .int .u32 0, .int .i64 0, .int .i64 0, Value.slice A5 700 c5] 32 (0, 0)) by rw [hw6]; exact setRow_heap _ sa _ #[Value.int .i64 1, .int .u32 0, .int .i64 0, .int .i64 0, Value.slice A5 700 c5] _ (0, 0) HXw6.out)
                have HBw6 := Shut.mk (show Below w5.heap.size w5 w6 by rw [hw6]; exact below_setRow HAw6.out (by omega) _)
                have HWw6 := Shut.mk hw6
                clear hw6 hsa
                go_wp2_with (first
                  | (refine wpList_store_row rfl 32 (.tmp 14) (.tmp 85) rfl sa #[Value.int .i64 1, .int .u32 0, .int .i64 0, .int .i64 0, Value.slice A5 700 c5] (by show Value.pointer (some ⟨w5.heap.size, 0, none⟩) = _; rw [HSsa.out]) rfl 32 _ HXw6.out size5 rfl (pkt_one _ _ _ _ _ _ _) ?_
                     rw [show World.setRow (World.alloc w5 _) sa _ = w6 from HWw6.out.symm, ← HSsa.out]))
                refine (qtake (bkQ_lt 0#32) (HQ5.out.quiet HBw6.out) 0 (by decide) (by decide) _ _ _ H6.out).mono ?_
                rintro e w7 ⟨V7, late7, T7, v7, hQ7, hC7, -, -, hap, -, hE⟩
                obtain ⟨A7, c7, rfl, rfl, -⟩ := hE.some_
                have HQ7 := Shut.mk hQ7
                have HY7 := Shut.mk (hC7.only.at_ HYw6.out (fun e => by have h1 := HQ5.out.is.lts e; have h2 := HSsa.out; omega))
                clear hQ7 hC7 hE hap
                rw [show thinP.body.length = 50 from zer_len 50]
                unfold pkV thinP
                dsimp only
                obtain ⟨sb, hsb⟩ : ∃ s, s = w7.heap.size := ⟨_, rfl⟩
                have HSsb := Shut.mk hsb
                have HAw8 := Shut.mk ((Below.refl w7.heap.size w7).alloc (Nat.le_refl _) (Obj.cells #[Value.int .i64 0, .int .u32 0, .int .i64 0, .int .i64 0, Value.slice none 0 0] 32 (0, 0)))
                have HXw8 := Shut.mk (show (w7.alloc (Obj.cells #[Value.int .i64 0, .int .u32 0, .int .i64 0, .int .i64 0, Value.slice none 0 0] 32 (0, 0))).heap[sb]? = some (Obj.cells #[Value.int .i64 0, .int .u32 0, .int .i64 0, .int .i64 0, Value.slice none 0 0] 32 (0, 0)) by rw [hsb]; exact (MapKept.heap_alloc w7 (Obj.cells #[Value.int .i64 0, .int .u32 0, .int .i64 0, .int .i64 0, Value.slice none 0 0] 32 (0, 0))).1)
                obtain ⟨w8, hw8⟩ : ∃ w4, w4 = (w7.alloc (Obj.cells #[Value.int .i64 0, .int .u32 0, .int .i64 0, .int .i64 0, Value.slice none 0 0] 32 (0, 0))).setRow sb #[Value.int .i64 1000, .int .u32 1, .int .i64 0, .int .i64 0, Value.slice A7 50 c7] := ⟨_, rfl⟩
                have HYw8 := Shut.mk (show w8.heap[sb]? = some (Obj.cells #[Value.int .i64 1000, .int .u32 1, .int .i64 0, .int .i64 0, Value.slice A7 50 c7] 32 (0, 0)) by rw [hw8]; exact setRow_heap _ sb _ #[Value.int .i64 1000, .int .u32 1, .int .i64 0, .int .i64 0, Value.slice A7 50 c7] _ (0, 0) HXw8.out)
                have HBw8 := Shut.mk (show Below w7.heap.size w7 w8 by rw [hw8]; exact below_setRow HAw8.out (by omega) _)
                have HWw8 := Shut.mk hw8
                clear hw8 hsb
                have hca : w8.cell? ⟨sa, 0, none⟩ = some (.int .i64 1) := by have := block_range ((HBw8.out.block _ (lt_blk HY7.out)).trans HY7.out) 0 _ rfl; simpa using this
                have hcb : w8.cell? ⟨sb, 0, none⟩ = some (.int .i64 1000) := by have := block_range HYw8.out 0 _ rfl; simpa using this
                go_wp2_with (first
                  | (refine wpList_store_row rfl 32 (.tmp 17) (.tmp 91) rfl sb #[Value.int .i64 1000, .int .u32 1, .int .i64 0, .int .i64 0, Value.slice A7 50 c7] (by show Value.pointer (some ⟨w7.heap.size, 0, none⟩) = _; rw [HSsb.out]) rfl 32 _ HXw8.out size5 rfl (pkt_one _ _ _ _ _ _ _) ?_
                     rw [show World.setRow (World.alloc w7 _) sb _ = w8 from HWw8.out.symm, ← HSsb.out]))
                go_ret
                exact ⟨rfl, (HQ7.out.quiet HBw8.out).bel⟩
              · obtain ⟨q5, h5⟩ := thin_late HTK.out (by omega)
                have hI5 : InvQ bk0 q5 := (takes_keep h5 HQ4.out.inv).1
                obtain ⟨r6, ds6, q6, h6⟩ := takes_is PP (mu q5 + 1) q5 [] (by omega) hI5
                rw [← HPP.out] at h5 h6
                have H5 := Shut.mk h5
                have H6 := Shut.mk h6
                clear h5 h6 hI5
                have htn : ((tk : Int) == 0) = false := by simp; omega
                go_wp2_with (fail)
                refine (qtake (bkQ_lt 0#32) HQ4.out 0 (by decide) (by decide) _ _ _ H5.out).mono ?_
                rintro e w5 ⟨V5, late5, T5, v5, hQ5, hC5, -, -, -, -, hE⟩
                obtain ⟨A5, c5, rfl, rfl, -⟩ := hE.some_
                have HQ5 := Shut.mk hQ5
                clear hQ5 hC5 hE
                rw [show thinP.body.length = 50 from zer_len 50]
                unfold pkV thinP
                dsimp only
                obtain ⟨sa, hsa⟩ : ∃ s, s = w5.heap.size := ⟨_, rfl⟩
                have HSsa := Shut.mk hsa
                have HAw6 := Shut.mk ((Below.refl w5.heap.size w5).alloc (Nat.le_refl _) (Obj.cells #[Value.int .i64 0, .int .u32 0, .int .i64 0, .int .i64 0, Value.slice none 0 0] 32 (0, 0)))
                have HXw6 := Shut.mk (show (w5.alloc (Obj.cells #[Value.int .i64 0, .int .u32 0, .int .i64 0, .int .i64 0, Value.slice none 0 0] 32 (0, 0))).heap[sa]? = some (Obj.cells #[Value.int .i64 0, .int .u32 0, .int .i64 0, .int .i64 0, Value.slice none 0 0] 32 (0, 0)) by rw [hsa]; exact (MapKept.heap_alloc w5 (Obj.cells #[Value.int .i64 0, .int .u32 0, .int .i64 0, .int .i64 0, Value.slice none 0 0] 32 (0, 0))).1)
                obtain ⟨w6, hw6⟩ : ∃ w4, w4 = (w5.alloc (Obj.cells #[Value.int .i64 0, .int .u32 0, .int .i64 0, .int .i64 0, Value.slice none 0 0] 32 (0, 0))).setRow sa #[Value.int .i64 1000, .int .u32 1, .int .i64 0, .int .i64 0, Value.slice A5 50 c5] := ⟨_, rfl⟩
                have HYw6 := Shut.mk (show w6.heap[sa]? = some (Obj.cells #[Value.int .i64 1000, .int .u32 1, .int .i64 0, .int .i64 0, Value.slice A5 50 c5] 32 (0, 0)) by rw [hw6]; exact setRow_heap _ sa _ #[Value.int .i64 1000, .int .u32 1, .int .i64 0, .int .i64 0, Value.slice A5 50 c5] _ (0, 0) HXw6.out)
                have HBw6 := Shut.mk (show Below w5.heap.size w5 w6 by rw [hw6]; exact below_setRow HAw6.out (by omega) _)
                have HWw6 := Shut.mk hw6
                clear hw6 hsa
                go_wp2_with (first
                  | (refine wpList_store_row rfl 32 (.tmp 14) (.tmp 85) rfl sa #[Value.int .i64 1000, .int .u32 1, .int .i64 0, .int .i64 0, Value.slice A5 50 c5] (by show Value.pointer (some ⟨w5.heap.size, 0, none⟩) = _; rw [HSsa.out]) rfl 32 _ HXw6.out size5 rfl (pkt_one _ _ _ _ _ _ _) ?_
                     rw [show World.setRow (World.alloc w5 _) sa _ = w6 from HWw6.out.symm, ← HSsa.out]))
                refine (qtake (bkQ_lt 0#32) (HQ5.out.quiet HBw6.out) 0 (by decide) (by decide) _ _ _ H6.out).mono ?_
                rintro e w7 ⟨V7, late7, T7, v7, hQ7, hC7, -, -, hap, -, hE⟩
                obtain ⟨p0, A7, m7, c7, b7, rfl, rfl⟩ := hE.form
                obtain ⟨ii, ff, tt, aa, bb⟩ := p0
                have HQ7 := Shut.mk hQ7
                have HY7 := Shut.mk (hC7.only.at_ HYw6.out (fun e => by have h1 := HQ5.out.is.lts e; have h2 := HSsa.out; omega))
                clear hQ7 hC7 hE hap
                unfold pkV
                dsimp only
                obtain ⟨sb, hsb⟩ : ∃ s, s = w7.heap.size := ⟨_, rfl⟩
                have HSsb := Shut.mk hsb
                have HAw8 := Shut.mk ((Below.refl w7.heap.size w7).alloc (Nat.le_refl _) (Obj.cells #[Value.int .i64 0, .int .u32 0, .int .i64 0, .int .i64 0, Value.slice none 0 0] 32 (0, 0)))
                have HXw8 := Shut.mk (show (w7.alloc (Obj.cells #[Value.int .i64 0, .int .u32 0, .int .i64 0, .int .i64 0, Value.slice none 0 0] 32 (0, 0))).heap[sb]? = some (Obj.cells #[Value.int .i64 0, .int .u32 0, .int .i64 0, .int .i64 0, Value.slice none 0 0] 32 (0, 0)) by rw [hsb]; exact (MapKept.heap_alloc w7 (Obj.cells #[Value.int .i64 0, .int .u32 0, .int .i64 0, .int .i64 0, Value.slice none 0 0] 32 (0, 0))).1)
                obtain ⟨w8, hw8⟩ : ∃ w4, w4 = (w7.alloc (Obj.cells #[Value.int .i64 0, .int .u32 0, .int .i64 0, .int .i64 0, Value.slice none 0 0] 32 (0, 0))).setRow sb #[Value.int .i64 ii, .int .u32 ff, .int .i64 tt, .int .i64 aa, Value.slice A7 m7 c7] := ⟨_, rfl⟩
                have HYw8 := Shut.mk (show w8.heap[sb]? = some (Obj.cells #[Value.int .i64 ii, .int .u32 ff, .int .i64 tt, .int .i64 aa, Value.slice A7 m7 c7] 32 (0, 0)) by rw [hw8]; exact setRow_heap _ sb _ #[Value.int .i64 ii, .int .u32 ff, .int .i64 tt, .int .i64 aa, Value.slice A7 m7 c7] _ (0, 0) HXw8.out)
                have HBw8 := Shut.mk (show Below w7.heap.size w7 w8 by rw [hw8]; exact below_setRow HAw8.out (by omega) _)
                have HWw8 := Shut.mk hw8
                clear hw8 hsb
                have hca : w8.cell? ⟨sa, 0, none⟩ = some (.int .i64 1000) := by have := block_range ((HBw8.out.block _ (lt_blk HY7.out)).trans HY7.out) 0 _ rfl; simpa using this
                go_wp2_with (first
                  | (refine wpList_store_row rfl 32 (.tmp 17) (.tmp 91) rfl sb #[Value.int .i64 ii, .int .u32 ff, .int .i64 tt, .int .i64 aa, Value.slice A7 m7 c7] (by show Value.pointer (some ⟨w7.heap.size, 0, none⟩) = _; rw [HSsb.out]) rfl 32 _ HXw8.out size5 rfl (pkt_one _ _ _ _ _ _ _) ?_
                     rw [show World.setRow (World.alloc w7 _) sb _ = w8 from HWw8.out.symm, ← HSsb.out]))
                go_ret
                exact ⟨rfl, (HQ7.out.quiet HBw8.out).bel⟩

/-! ### THE ROW -/
set_option maxRecDepth 100000 in
theorem lifted (os : Os) (started : os.Started) (H : Type) (enc : TypeId × Value → H) :
    ReturnsInHanded {} Try.checked os 6 .any (Rows.fqFreshSpec.pre6 enc Try.prog Try.f6 Rows.fqFreshRow.domain false) (Rows.fqFreshSpec.post enc Try.prog Try.f6 false true false false) := by
  refine returnsInHanded_of_change (C := Try.checked) own started (by kernel_rfl) Try.func6
    (ChangeSpec.witness6 (enc := enc) (C := Try.checked) false ⟨#[], #[.int .i64 0, .int .i64 0], []⟩ 8 (by kernel_rfl) (by kernel_rfl) (by kernel_rfl) (by kernel_rfl)) ?_
  intro W base args ds gs before hval0 hW hcnd _
  have hval : ∀ (j : Nat) t v, Try.f6.params[j]? = some t → args[j]? = some v → Value.okWide Try.prog W .any base t v := hval0
  have hW' := hW
  obtain ⟨p, q, hA0, hV, rfl, hfz, hnd⟩ := hW
  have hA : DataW.TrodAll enc Try.prog W 0 (fun _ => true) true Try.f6.params.toList args.toList ds p := hA0
  rw [Try.params6] at hA hval
  obtain ⟨v0, vs0, d0, ds0, p0, q0', hargs, rfl, rfl, h0, r0⟩ := trodAll_cons hA
  obtain ⟨v1, vs1, d1, ds1, p1, q1', rfl, rfl, rfl, h1, r1⟩ := trodAll_cons r0
  obtain ⟨rfl, rfl, rfl⟩ := trodAll_nil r1
  obtain rfl : args = #[v0, v1] := by cases args; simp_all
  obtain ⟨rfl, rfl⟩ := trodVars_none hV
  have k0 := h0
  have lt0 : ∀ x ∈ p0, x.block < W.heap.size := by obtain ⟨m, hm⟩ := k0; exact DataW.trod_lt m _ _ _ hm
  have k1 := h1
  have lt1 : ∀ x ∈ p1, x.block < W.heap.size := by obtain ⟨m, hm⟩ := k1; exact DataW.trod_lt m _ _ _ hm
  obtain ⟨n0, rfl, rfl, rfl, w0⟩ := open_int Try.underlying3 (hval 0 3 v0 rfl rfl) h0
  obtain ⟨n1, rfl, rfl, rfl, w1⟩ := open_int Try.underlying3 (hval 1 3 v1 rfl rfl) h1
  clear hA0 hval0
  refine (walk n0 n1 W w0 w1).mono fun e W' ⟨he, bel⟩ => ?_
  subst he
  exact ⟨_, rfl, _, _, _, [], _, [], hW', trodAll_mk1 (shut_bool Try.underlying4 _), (trodAll_cons_mk (Below.trod laidOut (by kernel_rfl) (of_decide_eq_true (by kernel_rfl)) k0 bel lt0) (trodAll_cons_mk (Below.trod laidOut (by kernel_rfl) (of_decide_eq_true (by kernel_rfl)) k1 bel lt1) trodAll_mk0)), rfl, bel.frame _, fun h => by cases h⟩

theorem over : Rows.fqFreshRow.holds Try.pinned (OpenSpec.ofChange Rows.fqFreshSpec) :=
  OpenClaim.holds_of_wide 6 Try.f6 rfl rfl rfl rfl rfl rfl rfl ⟨rfl, rfl, rfl, rfl, rfl⟩ rfl rfl rfl rfl rfl (by kernel_rfl) Try.func6 (by kernel_rfl)
    (of_decide_eq_true (by kernel_rfl)) (by unfold Func.isWrapper; first | (rw [if_pos (by decide +kernel)]; kernel_rfl) | (rw [if_neg (by decide +kernel)]; exact ⟨rfl, rfl⟩))
    (fun os started H enc _ => lifted os started H enc)
theorem proved : Rows.FqFreshSaid := over
#print axioms proved
end Go.Proofs.Ythigiinbikplnaa.fqFresh
