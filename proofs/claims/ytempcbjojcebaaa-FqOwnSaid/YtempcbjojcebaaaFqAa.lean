/-
  CONTRACT of fq's All: its bodies lie in blocks apart.
-/
import Derived.Test.YtempcbjojcebaaaMgF
namespace Go.Proofs.Ytempcbjojcebaaa
open Go.ChangeShapes Go.WideShapes Go.ChangeAt Go.RowKit Go.Deep
set_option linter.unusedVariables false
set_option linter.unusedSimpArgs false

theorem owns_mono {w : World} {base base' : Nat} {e : TypeId} {size : Nat} {v : Value} {n : Nat} {xs : List Value} (h : w.ownsRow base e size v n xs) (hb : base' ≤ base) : w.ownsRow base' e size v n xs := by
  refine ⟨h.1, ?_⟩
  rcases h.2 with h0 | ⟨g, cap, cur, hv, hg, rest⟩
  · exact .inl h0
  · exact .inr ⟨g, cap, cur, hv, Nat.le_trans hb hg, rest⟩
/-- a row of packets of the call's own, each with its body's slice; no two bodies in one block. -/
structure OwnA (T : Nat → Prop) (w : World) (B : Nat) (v : Value) (l : List (Pk × Value)) : Prop where
  own : OwnS (FK pkC) 5 w B 32 v l.length l
  el : ∀ p ∈ l, ElK T w p.2 p.1.body
  out : ∀ g, v.ownBlock = some g → ¬ T g
  tt : ∀ p ∈ l, ∀ g, p.2.ownBlock = some g → T g
  ap : l.Pairwise fun p q => ∀ g, p.2.ownBlock = some g → q.2.ownBlock ≠ some g
  ov : ∀ p ∈ l, OwnV w B p.2 p.1.body
section
variable {T T' : Nat → Prop} {w w' : World} {B : Nat} {v : Value} {l : List (Pk × Value)}
theorem OwnA.nil (T : Nat → Prop) (w : World) (B : Nat) : OwnA T w B (.slice none 0 0) [] := ⟨OwnS.nil w B _, fun p hp => (by cases hp), fun g hg => (by cases hg), fun p hp => (by cases hp), List.Pairwise.nil, fun p hp => (by cases hp)⟩
theorem OwnA.below (h : OwnA T w B v l) (hb : Below w.heap.size w w') : OwnA T w' B v l := ⟨h.own.below hb, fun p hp => (h.el p hp).below hb, h.out, h.tt, h.ap, fun p hp => owns_only (h.ov p hp) (Only.of_quiet hb) (fun _ _ e => e)⟩
theorem OwnA.lt (h : OwnA T w B v l) (g : Nat) (hg : v.ownBlock = some g) : B ≤ g ∧ g < w.heap.size := World.ownsRow.lt h.own.1 g hg
theorem OwnA.wide (h : OwnA T w B v l) (ht : ∀ k, T k → T' k) (hn : ∀ g, v.ownBlock = some g → ¬ T' g) : OwnA T' w B v l := ⟨h.own, fun p hp => (h.el p hp).mono fun k _ => ht k, hn, fun p hp g hg => ht g (h.tt p hp g hg), h.ap, h.ov⟩
/-- as a row of packets. -/
theorem OwnA.own_p (h : OwnA T w B v l) : OwnP T w B v (l.map Prod.fst) := by
  have h1 := h.own
  rw [← List.length_map (f := Prod.fst)] at h1
  exact ⟨l, h1, rfl, h.el, h.out⟩
end
theorem app_a {ops : Array Oper} {rest : List Oper} {o : Oper} {a : Act} {w : World} {Q : Exit → Act → World → Prop} (T : Nat → Prop) (hgd : o.guard = none) (s x : Operand)
    (ho : o.op = .call { callee := .builtin .append, args := #[s, x], argTypes := #[39, 39] })
    (B : Nat) (lv : Value) (l : List (Pk × Value)) (hs : a.eval s = lv) (hP : OwnA T w B lv l) (u : Pk) (y : Value) (ad : Addr) (c : Nat) (hx : a.eval x = .slice (some ad) 1 c) (hc : ∀ j q, (pkC u y)[j]? = some q → w.cell? (ad.add j) = some q) (hu : ElK T w y u.body) (hv : OwnV w B y u.body)
    (hy : ∀ g, y.ownBlock = some g → T g ∧ ∀ p ∈ l, p.2.ownBlock ≠ some g)
    (hlt : ∀ k, T k → k < w.heap.size) (hk : l.length ≤ 1000000) (hB : B ≤ w.heap.size)
    (h : ∀ v w', Shut (OwnA T w' B v (l ++ [(u, y)])) → Shut (Below B w w') → Shut (Only (fun j => lv.ownBlock = some j) w w') → Shut (∀ g, v.ownBlock = some g → lv.ownBlock = some g ∨ g = w.heap.size) → wpList Try.prog ops Q rest (a.put o.dst v) w') : wpList Try.prog ops Q (o :: rest) a w := by
  obtain ⟨i0, hi0, hz0, hz1, hz2⟩ := info_parts' pkt_info
  have h1 : ∀ q ∈ pkC u y, q.oneCell' = true := by
    obtain ⟨a, m, c, rfl, _⟩ := hu
    exact pkC_one _ _ _ _
  refine wpList_append_lies (z := .agg #[.int .i64 0, .int .u32 0, .int .i64 0, .int .i64 0, .slice none 0 0]) w hgd s x 39 ho B 32 i0 5 56 Try.underlying39 hi0 hz0 hz1 hz2 rfl (by omega) lv l.length _ hs hP.own.1 ad 1 c (pkC u y) hx rfl hc h1 (by omega) (by unfold maxLen; omega) (by omega) hB w.heap.size rfl ?_
  intro g cap w' hown hgrow hor _
  have hor' : lv.ownBlock = some g ∨ g = w.heap.size := hor
  have hO : Only (fun k => lv.ownBlock = some k) w w' := (Only.refl _ w).grown hgrow fun k hk _ => hk
  have hs2 : ∀ k, T k → ¬ lv.ownBlock = some k := fun k hk e => hP.out k e hk
  have ho1 : ∀ g', (Value.slice (some ⟨g, 0, none⟩) (l.length + 1) cap).ownBlock = some g' → g' = g := fun g' hg' => by simpa [Value.ownBlock] using hg'.symm
  refine h _ w' (Shut.mk ⟨⟨?_, ?_⟩, fun p hp => ?_, fun g' hg' => ?_, fun p hp g' hg' => ?_, ?_, fun p hp => ?_⟩) (Shut.mk ((Below.refl B w).grown hgrow hB (by intro q hq; exact (World.ownsRow.lt hP.own.1 q hq).1))) (Shut.mk hO) (Shut.mk fun g' hg' => by rw [ho1 g' hg']; exact hor')
  · rw [List.flatMap_append, List.length_append]
    simpa [FK] using hown
  · rfl
  · rcases List.mem_append.1 hp with hp | hp
    · exact (hP.el p hp).only hO hs2
    · rw [List.mem_singleton.1 hp]; exact hu.only hO hs2
  · rw [ho1 g' hg']
    rcases hor' with h1 | h1
    · exact hP.out g h1
    · intro ht; have := hlt g ht; omega
  · rcases List.mem_append.1 hp with hp | hp
    · exact hP.tt p hp g' hg'
    · rw [List.mem_singleton.1 hp] at hg'; exact (hy g' hg').1
  · rw [List.pairwise_append]
    refine ⟨hP.ap, List.pairwise_singleton _ _, fun p hp q hq g' hg' => ?_⟩
    rw [List.mem_singleton.1 hq]
    exact fun e => (hy g' e).2 p hp hg'
  · rcases List.mem_append.1 hp with hp | hp
    · exact owns_only (hP.ov p hp) hO fun g' hg' e => hs2 g' (hP.tt p hp g' hg') e
    · rw [List.mem_singleton.1 hp]; exact owns_only hv hO fun g' hg' e => hs2 g' (hy g' hg').1 e

set_option maxRecDepth 100000 in
set_option maxHeartbeats 8000000 in
theorem all_apart_any (T : Nat → Prop) (w : World) (x : Rq) (V : Nat → Value) (q : Qu) (h : IsCq T w x V q) (hf : FewC q) :
    Calls Try.prog 27 #[.pointer (some ⟨x.g, 0, none⟩)] w fun e w' => ∃ u T2 la, e = .returned u ∧ OwnA T2 w' w.heap.size u la ∧ la.map Prod.fst = allQ q ∧ (∀ k, T2 k → w.heap.size ≤ k ∧ k < w'.heap.size) ∧ Below w.heap.size w w' := by
  have HQ := Shut.mk h
  have HF := Shut.mk hf
  clear h hf
  go_enter Try.func27, Try.ntmps27
  go_wp2_with (fail)
  go_loopw [3, 7] (fun u i wr => ∃ (k : Nat) (T2 : Nat → Prop) (la : List (Pk × Value)), k ≤ 16 ∧ i = .int .i64 k ∧ OwnA T2 wr w.heap.size u la ∧ la.map Prod.fst = allTo q k ∧ (∀ j, T2 j → w.heap.size ≤ j ∧ j < wr.heap.size) ∧ Below w.heap.size w wr) (fun _ i _ => 16 - (intOf i).toNat)
  case atStart => exact ⟨0, fun _ => False, [], by omega, rfl, OwnA.nil _ _ _, rfl, fun j hj => hj.elim, Below.refl _ _⟩
  case round =>
    obtain ⟨k, T2, la, hk, rfl, hown, hla, ht2, hbw⟩ := hrel
    have HLA := Shut.mk hla
    clear hla
    have HO := Shut.mk hown
    have HT2 := Shut.mk ht2
    have HBW := Shut.mk hbw
    clear hown ht2
    by_cases hlt : k < 16
    · have HQr := Shut.mk (HQ.out.quiet hbw)
      obtain ⟨A, c, hv, hcap, -⟩ := (HQ.out.pk k hlt).form
      have g0 := HQr.out.fld hlt (j := 0) (v := V k) rfl
      have hrw := HQ.out.pk k hlt
      rw [hv] at g0 hrw
      have hll := HF.out.len k hlt
      have HROW := Shut.mk (show RowP T w A (q.fl k).pk from hrw.row (by unfold maxLen; omega))
      have HLL := Shut.mk hll
      have HAL := Shut.mk (allTo_len HF.out k (by omega))
      have HEL := Shut.mk (fun p hp => (HF.out.el k hlt p hp).2.2)
      have HSU := Shut.mk (allTo_succ q k)
      have g1 : wr.cell? ⟨x.g, 3 + k * 9, none⟩ = some (.slice A (q.fl k).pk.length c) := g0
      clear g0 hrw hv hcap hbw hll
      obtain ⟨l, hl⟩ : ∃ l, l = (q.fl k).pk := ⟨_, rfl⟩
      rw [← hl] at HROW HLL HEL HSU g1
      obtain ⟨ln, hln⟩ : ∃ n, n = l.length := ⟨_, rfl⟩
      rw [← hln] at HLL g1
      have HLN := Shut.mk hln
      clear hl hln
      have hlk : ln ≤ 1000 := HLL.out
      go_wp2_with (fail)
      go_loopw [3, 18] (fun u j wr => ∃ (m : Nat) (T2 : Nat → Prop) (la : List (Pk × Value)), m ≤ ln ∧ j = .int .i64 m ∧ OwnA T2 wr w.heap.size u la ∧ la.map Prod.fst = allTo q k ++ l.take m ∧ (∀ j, T2 j → w.heap.size ≤ j ∧ j < wr.heap.size) ∧ Below w.heap.size w wr) (fun _ j _ => ln - (intOf j).toNat)
      case atStart => exact ⟨0, T2, la, by omega, rfl, HO.out, by rw [List.take_zero, List.append_nil]; exact HLA.out, HT2.out, HBW.out⟩
      case round =>
        clear HO HT2 HBW HLA la
        obtain ⟨m, T2, la, hm, rfl, hown, hla, ht2, hbw⟩ := hrel
        have HLA := Shut.mk hla
        clear hla
        have HO := Shut.mk hown
        have HT2 := Shut.mk ht2
        have HBW := Shut.mk hbw
        clear hown ht2 hbw
        by_cases hml : m < ln
        · have hml2 : (m : Int) < (ln : Int) := by omega
          obtain ⟨b, off, aa, mm, cc, rfl, hrg, hrb, hmc, -⟩ := (RowK.below HROW.out HBW.out).el m (by rw [← HLN.out]; exact hml)
          have HTK := Shut.mk (show l.take (m + 1) = l.take m ++ [l.getD m pk00.1] from take_snoc' (by rw [← HLN.out]; exact hml) _)
          have hmem : l.getD m pk00.1 ∈ l := by
            have e : l.getD m pk00.1 = l[m]'(by rw [← HLN.out]; exact hml) := by simp [List.getD, show m < l.length by rw [← HLN.out]; exact hml]
            rw [e]; exact List.getElem_mem _
          have hbl := HEL.out _ hmem
          have hlt2 : la.length ≤ 1000000 := by
            have e0 : (la.map Prod.fst).length = la.length := List.length_map _
            rw [← e0, HLA.out, List.length_append, List.length_take]
            have := HAL.out
            omega
          have HLT := Shut.mk hlt2
          clear hmem hlt2
          generalize l.getD m pk00.1 = p at *
          obtain ⟨pi, pf, pt, pa, pb⟩ := p
          have hrg' : wr.rangeAt b (off + m * 5) [Value.int .i64 pi, .int .u32 pf, .int .i64 pt, .int .i64 pa, Value.slice aa mm cc] := hrg
          have hrb' : RowB .u8 wr aa mm pb := hrb
          have HRG := Shut.mk hrg'
          have HML := Shut.mk (show mm = pb.length from hrb'.len.symm)
          have HMB := Shut.mk (show mm ≤ 1000000000 by have h1 := hrb'.len; have h2 : pb.length ≤ 1000000 := hbl; omega)
          have HWF := Shut.mk hrb'.wf
          have HRB := Shut.mk hrb'
          clear hrg hrb hmc hrg' hrb' hbl
          have HBw3 := Shut.mk ((Below.refl wr.heap.size wr).alloc (Nat.le_refl _) (Obj.cells #[Value.int .i64 pi, .int .u32 pf, .int .i64 pt, .int .i64 pa, Value.slice aa mm cc] 32 (0, 0)))
          have HYw3 := Shut.mk (MapKept.heap_alloc wr (Obj.cells #[Value.int .i64 pi, .int .u32 pf, .int .i64 pt, .int .i64 pa, Value.slice aa mm cc] 32 (0, 0))).1
          have HRB3 := Shut.mk (HRB.out.below HBw3.out)
          go_wp2_with (first
            | (refine wpList_load_mid rfl 32 (.tmp 20) rfl b (off + m * 5) rfl [Value.int .i64 pi, .int .u32 pf, .int .i64 pt, .int .i64 pa, Value.slice aa mm cc] _ HRG.out Try.underlying32 rfl size5 ?_)
            | (refine wpList_load_row rfl 32 (.tmp 6) rfl wr.heap.size rfl 32 #[Value.int .i64 pi, .int .u32 pf, .int .i64 pt, .int .i64 pa, Value.slice aa mm cc] (0, 0) _ HYw3.out Try.underlying32 rfl size5 ?_))
          generalize World.alloc wr _ = w3 at *
          refine (copied_any ⟨pi, pf, pt, pa, pb⟩ aa mm cc w3 HRB3.out HMB.out).mono ?_
          rintro e w4 ⟨v, rfl, hO, hB⟩
          obtain ⟨A0, c0, hv0, -⟩ := owns_form hO
          subst hv0
          unfold pkV
          dsimp only at hO ⊢
          have HOV := Shut.mk hO
          have HB4 := Shut.mk (HBw3.out.trans (hB.mono HBw3.out.size))
          clear hO hB
          have HA5 := Shut.mk ((Below.refl w4.heap.size w4).alloc (Nat.le_refl _) (Obj.cells #[Value.int .i64 pi, .int .u32 pf, .int .i64 pt, .int .i64 pa, Value.slice A0 pb.length c0] 32 (0, 0)))
          have HX5 := Shut.mk (block_range (MapKept.heap_alloc w4 (Obj.cells #[Value.int .i64 pi, .int .u32 pf, .int .i64 pt, .int .i64 pa, Value.slice A0 pb.length c0] 32 (0, 0))).1)
          have HNU := Shut.mk (show ∀ g, u3.ownBlock = some g → g < wr.heap.size from fun g hg => (OwnA.lt HO.out g hg).2)
          have HNV := Shut.mk (show ∀ g, (Value.slice A0 pb.length c0).ownBlock = some g → wr.heap.size ≤ g ∧ g < w4.heap.size from fun g hg => by
            have h1 := World.ownsRow.lt HOV.out g hg
            exact ⟨Nat.le_trans HBw3.out.size h1.1, h1.2⟩)
          obtain ⟨T3, hT3⟩ : ∃ T3 : Nat → Prop, T3 = fun k => T2 k ∨ (Value.slice A0 pb.length c0).ownBlock = some k := ⟨_, rfl⟩
          have HO4 := Shut.mk (show OwnA T3 w4 w.heap.size u3 la by
            rw [hT3]
            exact OwnA.wide (OwnA.below HO.out HB4.out) (fun k hk => .inl hk) fun g hg e => by
              have h1 := HNU.out g hg
              rcases e with e | e
              · exact HO.out.out g hg e
              · have := (HNV.out g e).1; omega)
          have HE4 := Shut.mk (show ElK T3 w4 (.slice A0 pb.length c0) pb by
            rw [hT3]
            exact OwnV.el HOV.out (by have h1 := HML.out; have h2 := HMB.out; unfold maxLen; omega) (by intro j hj; exact HWF.out j (by rw [HML.out]; exact hj)) fun g hg => .inr hg)
          have HT4 := Shut.mk (show ∀ j, T3 j → w.heap.size ≤ j ∧ j < w4.heap.size by
            rw [hT3]
            intro j hj
            rcases hj with hj | hj
            · have h1 := HT2.out j hj
              exact ⟨h1.1, Nat.lt_of_lt_of_le h1.2 HB4.out.size⟩
            · have h1 := HNV.out j hj
              exact ⟨Nat.le_trans HBW.out.size h1.1, h1.2⟩)
          have HOW := Shut.mk (show OwnV w4 w.heap.size (.slice A0 pb.length c0) pb from owns_mono HOV.out (Nat.le_trans HBW.out.size HBw3.out.size))
          have HY4 := Shut.mk (show ∀ g, (Value.slice A0 pb.length c0).ownBlock = some g → T3 g ∧ ∀ p ∈ la, p.2.ownBlock ≠ some g from fun g hg => ⟨by rw [hT3]; exact .inr hg, fun p hp e => by
            have h1 := (HNV.out g hg).1
            have h2 := (HT2.out g (HO.out.tt p hp g e)).2
            omega⟩)
          clear hT3
          go_wp2_with (first
            | (refine app_a T3 rfl (.tmp 22) (.tmp 25) rfl w.heap.size u3 la rfl (OwnA.below HO4.out HA5.out) ⟨pi, pf, pt, pa, pb⟩ (.slice A0 pb.length c0) ⟨w4.heap.size, 0, none⟩ 1 rfl (fun j q hq => by rw [Addr.add_mid]; exact HX5.out j q hq) (HE4.out.below HA5.out) (owns_only HOW.out (Only.of_quiet HA5.out) (fun _ _ e => e)) HY4.out (fun j hj => Nat.lt_of_lt_of_le (HT4.out j hj).2 HA5.out.size) HLT.out (Nat.le_trans HBW.out.size (Nat.le_trans HB4.out.size HA5.out.size)) ?_
               intro u5 w6 HO6 HB6 HY6 HZ6))
          have HS6 := Shut.mk (show w4.heap.size ≤ w6.heap.size from Nat.le_trans HA5.out.size HY6.out.size)
          have HBE := Shut.mk (show Below w.heap.size w w6 from (HBW.out.trans ((HB4.out.trans (HA5.out.mono HB4.out.size)).mono HBW.out.size)).trans HB6.out)
          have hn : (la ++ [((⟨pi, pf, pt, pa, pb⟩ : Pk), Value.slice A0 pb.length c0)]).map Prod.fst = allTo q k ++ l.take (m + 1) := by rw [List.map_append, HLA.out, HTK.out, List.append_assoc]; rfl
          go_roundw
          case rel => refine ⟨_, _, _, ?_, rfl, rfl, rfl⟩; exact ⟨m + 1, by omega, by go_num, T3, _, HO6.out, hn, fun j hj => ⟨(HT4.out j hj).1, Nat.lt_of_lt_of_le (HT4.out j hj).2 HS6.out⟩, HBE.out⟩
          case measure => simp [intOf]; omega
        · have hm' : m = ln := by omega
          subst hm'
          have HTL := Shut.mk (show allTo q k ++ l.take m = allTo q (k + 1) by rw [HSU.out, HLN.out, List.take_length])
          go_wp2
          go_roundw
          case rel => exact ⟨k + 1, T2, la, by omega, by go_num, HO.out, by rw [← HTL.out]; exact HLA.out, HT2.out, HBW.out⟩
          case measure => simp [intOf]; omega
    · have hk' : k = 16 := by omega
      subst hk'
      go_wp2
      go_ret
      exact ⟨_, T2, la, rfl, HO.out, HLA.out, HT2.out, HBW.out⟩
end Go.Proofs.Ytempcbjojcebaaa
