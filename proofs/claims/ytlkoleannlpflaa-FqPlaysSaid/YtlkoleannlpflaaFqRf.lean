/-
  FQ: Head.
-/
import Derived.Test.YtlkoleannlpflaaMgF
namespace Go.Proofs.Ytlkoleannlpflaa
open Go.ChangeShapes Go.WideShapes Go.ChangeAt Go.RowKit Go.Deep
set_option linter.unusedVariables false
set_option linter.unusedSimpArgs false

/-- what a Head answers. -/
def CHeadE (w : World) (q : Qu) (b : Int) (e : Ending) (w' : World) : Prop :=
  (hasQ q b = false ∧ e = .returned (.tuple #[pkV pk00.1 (.slice none 0 0), .bool false])) ∨
  ∃ (n : Nat) (p : Pk) (r : List Pk) (v : Value), n < 16 ∧ b = (n : Int) ∧ (q.fl n).pk = p :: r ∧ e = .returned (.tuple #[pkV p v, .bool true]) ∧ OwnV w' w.heap.size v p.body
set_option maxRecDepth 100000 in
set_option maxHeartbeats 8000000 in
theorem chead_any (T : Nat → Prop) (w : World) (x : Rq) (V : Nat → Value) (q : Qu) (h : IsCq T w x V q) (hf : FewC q) (b : Int) :
    Calls Try.prog 21 #[.pointer (some ⟨x.g, 0, none⟩), .int .i64 b] w fun e w' => CHeadE w q b e w' ∧ Below w.heap.size w w' := by
  have HZ := Shut.mk (MapKept.heap_alloc w (Obj.cells #[Value.int .i64 0, .int .u32 0, .int .i64 0, .int .i64 0, Value.slice none 0 0] 32 (0, 0))).1
  have HB := Shut.mk ((Below.refl w.heap.size w).alloc (Nat.le_refl _) (Obj.cells #[Value.int .i64 0, .int .u32 0, .int .i64 0, .int .i64 0, Value.slice none 0 0] 32 (0, 0)))
  have HBZ := Shut.mk (below_setRow HB.out (Nat.le_refl _) #[Value.int .i64 0, .int .u32 0, .int .i64 0, .int .i64 0, Value.slice none 0 0])
  have HZ2 := Shut.mk (setRow_heap _ _ _ #[Value.int .i64 0, .int .u32 0, .int .i64 0, .int .i64 0, Value.slice none 0 0] _ (0, 0) HZ.out)
  have HQ := Shut.mk (h.quiet HB.out)
  clear h
  by_cases hh : hasQ q b = true
  · obtain ⟨n, rfl⟩ := Int.eq_ofNat_of_zero_le (show 0 ≤ b from by
      by_cases e : 0 ≤ b
      · exact e
      · rw [hasQ_no (by omega)] at hh; cases hh)
    have hn16 : n < 16 := by
      by_cases e : n < 16
      · exact e
      · rw [hasQ_no (by omega)] at hh; cases hh
    have hn16i : (n : Int) < 16 := by omega
    have HH := Shut.mk hh
    obtain ⟨p, r, hpr⟩ : ∃ p r, (q.fl n).pk = p :: r := by
      rw [hasQ_in q hn16] at hh
      cases hc : (q.fl n).pk with
      | nil => rw [hc] at hh; simp at hh
      | cons p r => exact ⟨p, r, rfl⟩
    have HPB := Shut.mk (show p.body.length ≤ 1000000000 by have := (hf.el n hn16 p (by rw [hpr]; exact List.mem_cons_self)).2.2; omega)
    have HPR := Shut.mk hpr
    have HN16 := Shut.mk hn16
    obtain ⟨bb, off, cap, u, pre, post, hv, hcap, hpl, hblk, hel, -⟩ := RowPk.first (T := T) (show RowPk T _ (V n) (p :: r) by rw [← hpr]; exact HQ.out.pk n hn16)
    have hc0 := HQ.out.fld hn16 (j := 0) (v := V n) rfl
    rw [hv, Nat.add_zero] at hc0
    obtain ⟨aa, mm, cc, rfl, hrb, -⟩ := hel
    obtain ⟨pi, pf, pt, pa, pb⟩ := p
    have HRG := Shut.mk (show (w.alloc (Obj.cells #[Value.int .i64 0, .int .u32 0, .int .i64 0, .int .i64 0, Value.slice none 0 0] 32 (0, 0))).rangeAt bb off [Value.int .i64 pi, .int .u32 pf, .int .i64 pt, .int .i64 pa, Value.slice aa mm cc] by
      have h1 := mid_range hblk hpl (j := 0) (cs := [Value.int .i64 pi, .int .u32 pf, .int .i64 pt, .int .i64 pa, Value.slice aa mm cc]) (fun i u hu => by rw [Nat.zero_add]; exact hu)
      simpa using h1)
    have HRB := Shut.mk (show RowB .u8 (w.alloc (Obj.cells #[Value.int .i64 0, .int .u32 0, .int .i64 0, .int .i64 0, Value.slice none 0 0] 32 (0, 0))) aa mm pb from hrb)
    have HMB := Shut.mk (show mm ≤ 1000000000 by have h1 := hrb.len; have h2 := HPB.out; dsimp only at h1 h2; omega)
    obtain ⟨rl, hrl⟩ : ∃ rl, rl = r.length := ⟨_, rfl⟩
    rw [← hrl] at hc0 hcap
    clear hh hpr hv hblk hrb hpl hf hrl hn16
    obtain ⟨s, hs⟩ : ∃ s, s = w.heap.size := ⟨_, rfl⟩
    have HS := Shut.mk hs
    go_enter Try.func21, Try.ntmps21
    rw [← hs] at HZ HBZ HZ2
    clear hs
    go_wp2_with (fail)
    generalize World.alloc w _ = w1 at *
    refine (hasq_any T _ x V q HQ.out (n : Int)).mono ?_
    rintro e wn ⟨rfl, rfl⟩
    rw [HH.out]
    go_wp2_with (refine wpList_load_mid rfl 32 (.tmp 18) rfl bb off rfl [Value.int .i64 pi, .int .u32 pf, .int .i64 pt, .int .i64 pa, Value.slice aa mm cc] _ HRG.out Try.underlying32 rfl size5 ?_)
    refine (copied_any ⟨pi, pf, pt, pa, pb⟩ aa mm cc w1 HRB.out HMB.out).mono ?_
    rintro e w2 ⟨v, rfl, hov, hb⟩
    obtain ⟨A0, c0, rfl, -⟩ := owns_form hov
    have hx2 := (hb.block _ (lt_blk HZ.out)).trans HZ.out
    have HX2 := Shut.mk hx2
    have HB2 := Shut.mk (HB.out.trans (hb.mono HB.out.size))
    unfold pkV
    dsimp only at hov ⊢
    have hs1 : s < w1.heap.size := lt_blk HZ.out
    have HX3 := Shut.mk (setRow_heap w2 s _ #[Value.int .i64 pi, .int .u32 pf, .int .i64 pt, .int .i64 pa, Value.slice A0 pb.length c0] _ (0, 0) HX2.out)
    have HOV := Shut.mk (show OwnV (w2.setRow s #[Value.int .i64 pi, .int .u32 pf, .int .i64 pt, .int .i64 pa, Value.slice A0 pb.length c0]) w.heap.size (.slice A0 pb.length c0) pb from owns_setRow (owns_base hov (show w.heap.size ≤ w1.heap.size from HB.out.size)) (fun g hg e => by have h1 := (World.ownsRow.lt hov g hg).1; omega))
    have HBF := Shut.mk (below_setRow HB2.out (show w.heap.size ≤ s by rw [HS.out]; exact Nat.le_refl _) #[Value.int .i64 pi, .int .u32 pf, .int .i64 pt, .int .i64 pa, Value.slice A0 pb.length c0])
    clear hov hb hx2 hs1
    go_wp2_with (first
      | (refine wpList_store_row rfl 32 (.tmp 4) (.tmp 20) rfl s #[Value.int .i64 pi, .int .u32 pf, .int .i64 pt, .int .i64 pa, Value.slice A0 pb.length c0] (by first | rfl | (show Value.pointer (some ⟨w.heap.size, 0, none⟩) = _; rw [HS.out])) rfl 32 _ HX2.out size5 rfl (pkt_one _ _ _ _ _ _ _) ?_))
    exact bodyPost_ret (v := .tuple #[.agg #[Value.int .i64 pi, .int .u32 pf, .int .i64 pt, .int .i64 pa, Value.slice A0 pb.length c0], .bool true]) (results_c1 (p := 4) (q := 5) Try.results21 _ _ s _ _ _ _ _ (by first | rfl | (show Value.pointer (some ⟨w.heap.size, 0, none⟩) = _; rw [HS.out])) rfl HX3.out Try.underlying32 rfl size5) rfl ⟨.inr ⟨n, ⟨pi, pf, pt, pa, pb⟩, r, _, HN16.out, rfl, HPR.out, rfl, HOV.out⟩, HBF.out⟩
  · have HH := Shut.mk (show hasQ q b = false by simpa using hh)
    clear hh
    go_enter Try.func21, Try.ntmps21
    go_wp2_with (fail)
    refine (hasq_any T _ x V q HQ.out b).mono ?_
    rintro e wn ⟨rfl, rfl⟩
    rw [HH.out]
    go_wp2_with (first
      | (refine wpList_store_row rfl 32 (.tmp 4) (.tmp 10) rfl w.heap.size #[Value.int .i64 0, .int .u32 0, .int .i64 0, .int .i64 0, Value.slice none 0 0] rfl rfl 32 _ HZ.out size5 rfl (pkt_one _ _ _ _ _ _ _) ?_))
    exact bodyPost_ret (v := .tuple #[pkV pk00.1 (.slice none 0 0), .bool false]) (results_c1 (p := 4) (q := 5) Try.results21 _ _ w.heap.size _ _ _ _ _ rfl rfl HZ2.out Try.underlying32 rfl size5) rfl ⟨.inl ⟨HH.out, rfl⟩, HBZ.out⟩
end Go.Proofs.Ytlkoleannlpflaa
