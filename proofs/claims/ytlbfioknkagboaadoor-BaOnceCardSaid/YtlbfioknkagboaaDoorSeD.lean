/-
  CONTRACTS of ba's Due, Flying, Out (tell); append of a frame, of an Mpdu; seqs; slices.Index, slices.Contains over numbers.
-/
import Derived.Test.YtlbfioknkagboaaDoorSeC
namespace Go.Proofs.YtlbfioknkagboaaDoor
open Go.ChangeShapes Go.WideShapes Go.ChangeAt Go.RowKit Go.Deep
set_option linter.unusedVariables false
set_option linter.unusedSimpArgs false

theorem mpdu_info : (Tryd.prog.info? 40).map (fun i => (i.zero, i.size, i.bytes)) = some (some (.agg #[.int .i64 0, .int .u32 0, .int .i64 0, .int .i64 0, .slice none 0 0, .int .i64 0, .int .i64 0, .int .i64 0]), 8, 80) := by kernel_rfl
theorem frame_info : (Tryd.prog.info? 85).map (fun i => (i.zero, i.size, i.bytes)) = some (some (.agg #[.int .i64 0, .int .u32 0, .int .i64 0, .int .i64 0, .slice none 0 0, .int .i64 0, .int .i64 0, .int .i64 0, .bool false]), 9, 88) := by kernel_rfl
theorem range_pre {w : World} {g o : Nat} {a b : List Value} (h : w.rangeAt g o (a ++ b)) : w.rangeAt g o a := fun j q hq => h j q (by rw [List.getElem?_append_left (List.getElem?_eq_some_iff.1 hq).1]; exact hq)
theorem owns_base {w : World} {B B' n m : Nat} {e : TypeId} {v : Value} {xs : List Value} (ho : w.ownsRow B e m v n xs) (hB : B' ≤ B) : w.ownsRow B' e m v n xs := by
  refine ⟨ho.1, ?_⟩
  rcases ho.2 with h0 | ⟨g, cap, cur, hv, hb, rest⟩
  · exact .inl h0
  · exact .inr ⟨g, cap, cur, hv, Nat.le_trans hB hb, rest⟩
theorem mpC_one (m : Mp) : ∀ q ∈ mpC m, q.oneCell' = true := by intro q hq; unfold mpC at hq; simp only [List.mem_cons, List.not_mem_nil, or_false] at hq; rcases hq with rfl | rfl | rfl | rfl | rfl | rfl | rfl | rfl <;> rfl
theorem frC_one (f : Fm) : ∀ q ∈ frC f, q.oneCell' = true := by intro q hq; unfold frC at hq; simp only [List.mem_cons, List.not_mem_nil, or_false] at hq; rcases hq with rfl | rfl | rfl | rfl | rfl | rfl | rfl | rfl | rfl <;> rfl
def OwnM (w : World) (B : Nat) (v : Value) (L : List Mp) : Prop := OwnS mpC 8 w B 40 v L.length L
def OwnF (w : World) (B : Nat) (v : Value) (L : List Fm) : Prop := OwnS frC 9 w B 85 v L.length L
theorem OwnM.below {w w' : World} {B : Nat} {v : Value} {L : List Mp} (h : OwnM w B v L) (hb : Below w.heap.size w w') : OwnM w' B v L := OwnS.below h hb
theorem OwnF.below {w w' : World} {B : Nat} {v : Value} {L : List Fm} (h : OwnF w B v L) (hb : Below w.heap.size w w') : OwnF w' B v L := OwnS.below h hb
theorem OwnM.lt {w : World} {B : Nat} {v : Value} {L : List Mp} (h : OwnM w B v L) : ∀ g, v.ownBlock = some g → B ≤ g ∧ g < w.heap.size := fun g hg => World.ownsRow.lt h.1 g hg
theorem OwnF.lt {w : World} {B : Nat} {v : Value} {L : List Fm} (h : OwnF w B v L) : ∀ g, v.ownBlock = some g → B ≤ g ∧ g < w.heap.size := fun g hg => World.ownsRow.lt h.1 g hg
section
variable {ops : Array Oper} {rest : List Oper} {o : Oper} {a : Act} {w : World} {Q : Exit → Act → World → Prop}
theorem app_m (hgd : o.guard = none) (s x : Operand) (ho : o.op = .call { callee := .builtin .append, args := #[s, x], argTypes := #[34, 34] })
    (B : Nat) (lv : Value) (L : List Mp) (hs : a.eval s = lv) (hP : OwnM w B lv L) (u : Mp) (ad : Addr) (c : Nat) (hx : a.eval x = .slice (some ad) 1 c) (hc : ∀ j q, (mpC u)[j]? = some q → w.cell? (ad.add j) = some q) (hk : L.length ≤ 1000000) (hB : B ≤ w.heap.size)
    (h : ∀ v w', Shut (OwnM w' B v (L ++ [u])) → Shut (Below B w w') → wpList Tryd.prog ops Q rest (a.put o.dst v) w') : wpList Tryd.prog ops Q (o :: rest) a w := by
  obtain ⟨i0, hi0, hz0, hz1, hz2⟩ := info_parts' mpdu_info
  refine app_s (F := mpC) (z := .agg #[.int .i64 0, .int .u32 0, .int .i64 0, .int .i64 0, .slice none 0 0, .int .i64 0, .int .i64 0, .int .i64 0]) hgd s x 34 ho 40 i0 80 Tryd.underlying34 hi0 hz0 hz1 hz2 rfl (by omega) B L.length lv L hs hP u ad c hx rfl hc (mpC_one u) (by omega) (by omega) hB ?_
  intro g cap w' h2 h3
  exact h _ w' ⟨by unfold OwnM; rw [List.length_append]; exact h2.out⟩ ⟨h3.out⟩
theorem app_f (hgd : o.guard = none) (s x : Operand) (ho : o.op = .call { callee := .builtin .append, args := #[s, x], argTypes := #[76, 76] })
    (B : Nat) (lv : Value) (L : List Fm) (hs : a.eval s = lv) (hP : OwnF w B lv L) (u : Fm) (ad : Addr) (c : Nat) (hx : a.eval x = .slice (some ad) 1 c) (hc : ∀ j q, (frC u)[j]? = some q → w.cell? (ad.add j) = some q) (hk : L.length ≤ 1000000) (hB : B ≤ w.heap.size)
    (h : ∀ v w', Shut (OwnF w' B v (L ++ [u])) → Shut (Below B w w') → wpList Tryd.prog ops Q rest (a.put o.dst v) w') : wpList Tryd.prog ops Q (o :: rest) a w := by
  obtain ⟨i0, hi0, hz0, hz1, hz2⟩ := info_parts' frame_info
  refine app_s (F := frC) (z := .agg #[.int .i64 0, .int .u32 0, .int .i64 0, .int .i64 0, .slice none 0 0, .int .i64 0, .int .i64 0, .int .i64 0, .bool false]) hgd s x 76 ho 85 i0 88 Tryd.underlying76 hi0 hz0 hz1 hz2 rfl (by omega) B L.length lv L hs hP u ad c hx rfl hc (frC_one u) (by omega) (by omega) hB ?_
  intro g cap w' h2 h3
  exact h _ w' ⟨by unfold OwnF; rw [List.length_append]; exact h2.out⟩ ⟨h3.out⟩
end

/-! ### tell -/
def toldM (P : Fm → Bool) (l : List Fm) : List Mp := (l.filter P).map Prod.fst
theorem told_yes {P : Fm → Bool} {l : List Fm} {k : Nat} (h : k < l.length) (hp : P (l.getD k fm0) = true) : toldM P (l.take (k + 1)) = toldM P (l.take k) ++ [(l.getD k fm0).1] := by
  unfold toldM; rw [take_fm h, List.filter_append, List.map_append, List.filter_cons, if_pos hp]; rfl
theorem told_no {P : Fm → Bool} {l : List Fm} {k : Nat} (h : k < l.length) (hp : P (l.getD k fm0) = false) : toldM P (l.take (k + 1)) = toldM P (l.take k) := by
  unfold toldM; rw [take_fm h, List.filter_append, List.filter_cons, if_neg (by rw [hp]; simp)]; simp
theorem told_len {P : Fm → Bool} {l : List Fm} : (toldM P l).length ≤ l.length := by unfold toldM; rw [List.length_map]; exact List.length_filter_le _ _
section
variable {B : Nat} {w : World} {p : Sp} {s : Sb}

set_option maxRecDepth 100000 in
set_option maxHeartbeats 4000000 in
theorem tellDue_any (h : IsSe B w p s) (hi : InvB s) :
    Calls Tryd.prog 42 #[.pointer (some ⟨p.g, 0, none⟩), .func (.func 43) #[] #[]] w fun e w' => ∃ v, e = .returned v ∧ OwnM w' w.heap.size v (toldM idleP s.l) ∧ Below w.heap.size w w' := by
  obtain ⟨A, cp, hv, hrow, -⟩ := h.out hi
  obtain ⟨-, -, -, -, -, -, c6, -⟩ := h.cells
  rw [hv] at c6
  have HR := Shut.mk hrow
  have HLN := Shut.mk hi.len
  obtain ⟨l, hl⟩ : ∃ l, l = s.l := ⟨_, rfl⟩
  rw [← hl] at c6 HR HLN ⊢
  clear h hi hv hrow hl
  obtain ⟨n, hn⟩ : ∃ n, n = l.length := ⟨_, rfl⟩
  rw [← hn] at c6 HR HLN
  have HL := Shut.mk hn.symm
  have hle := HLN.out
  clear hn
  go_enter Tryd.func42, Tryd.ntmps42
  go_wp2_with (fail)
  go_loopw [5, 13] (fun u i wr => ∃ k : Nat, k ≤ n ∧ i = .int .i64 k ∧ OwnM wr w.heap.size u (toldM idleP (l.take k)) ∧ Below w.heap.size w wr) (fun _ i _ => n - (intOf i).toNat)
  case atStart => exact ⟨0, by omega, rfl, OwnS.nil _ _ _, Below.refl _ _⟩
  case round =>
    obtain ⟨k, hk, rfl, ho, hb⟩ := hrel
    have HO := Shut.mk ho
    have HB := Shut.mk hb
    clear ho hb
    by_cases hlt : k < n
    · obtain ⟨b, off, rfl, hrg⟩ := (RowS.below HR.out HB.out).el k hlt
      have hi : (k : Int) < (n : Int) := by omega
      have HKL := Shut.mk (show k < l.length by rw [HL.out]; exact hlt)
      have HY := Shut.mk (told_yes (P := idleP) HKL.out)
      have HN := Shut.mk (told_no (P := idleP) HKL.out)
      have HLT := Shut.mk (show (toldM idleP (l.take k)).length ≤ 1000000 by have h1 := @told_len idleP (l.take k); rw [List.length_take] at h1; omega)
      generalize l.getD k fm0 = f at *
      obtain ⟨⟨⟨pi, pf, pt, pa, pb⟩, sq, sn, tl⟩, fb⟩ := f
      have hrg' : wr.rangeAt b (off + k * 9) [.int .i64 pi, .int .u32 pf, .int .i64 pt, .int .i64 pa, .slice none 0 0, .int .i64 ((sq : Nat) : Int), .int .i64 ((sn : Nat) : Int), .int .i64 tl, .bool fb] := hrg
      have HRG := Shut.mk hrg'
      clear hrg hrg'
      have HBa := Shut.mk ((Below.refl wr.heap.size wr).alloc (Nat.le_refl _) (Obj.cells #[.int .i64 pi, .int .u32 pf, .int .i64 pt, .int .i64 pa, .slice none 0 0, .int .i64 ((sq : Nat) : Int), .int .i64 ((sn : Nat) : Int), .int .i64 tl, .bool fb] 85 (0, 0)))
      have HYa := Shut.mk (MapKept.heap_alloc wr (Obj.cells #[.int .i64 pi, .int .u32 pf, .int .i64 pt, .int .i64 pa, .slice none 0 0, .int .i64 ((sq : Nat) : Int), .int .i64 ((sn : Nat) : Int), .int .i64 tl, .bool fb] 85 (0, 0))).1
      go_wp2_with (first
        | (refine wpList_load_mid rfl 85 (.tmp 15) rfl b (off + k * 9) rfl [.int .i64 pi, .int .u32 pf, .int .i64 pt, .int .i64 pa, .slice none 0 0, .int .i64 ((sq : Nat) : Int), .int .i64 ((sn : Nat) : Int), .int .i64 tl, .bool fb] _ HRG.out Tryd.underlying85 rfl sizeF ?_)
        | (refine wpList_load_row rfl 85 (.tmp 7) rfl wr.heap.size rfl 85 #[.int .i64 pi, .int .u32 pf, .int .i64 pt, .int .i64 pa, .slice none 0 0, .int .i64 ((sq : Nat) : Int), .int .i64 ((sn : Nat) : Int), .int .i64 tl, .bool fb] (0, 0) _ HYa.out Tryd.underlying85 rfl sizeF ?_))
      generalize World.alloc wr _ = w1 at *
      refine (idlep_any pi pf pt pa tl sq sn fb w1).mono ?_
      rintro e w2 ⟨rfl, hb2⟩
      have HB2 := Shut.mk (HBa.out.trans (hb2.mono HBa.out.size))
      have HY2 := Shut.mk ((hb2.block _ (lt_blk HYa.out)).trans HYa.out)
      have HR8 := Shut.mk (range_pre (a := [.int .i64 pi, .int .u32 pf, .int .i64 pt, .int .i64 pa, .slice none 0 0, .int .i64 ((sq : Nat) : Int), .int .i64 ((sn : Nat) : Int), .int .i64 tl]) (b := [.bool fb]) (show w2.rangeAt wr.heap.size 0 ([.int .i64 pi, .int .u32 pf, .int .i64 pt, .int .i64 pa, .slice none 0 0, .int .i64 ((sq : Nat) : Int), .int .i64 ((sn : Nat) : Int), .int .i64 tl] ++ [.bool fb]) from block_range HY2.out))
      have HO2 := Shut.mk (HO.out.below HB2.out)
      clear hb2
      have HPE := Shut.mk (show idleP (⟨⟨pi, pf, pt, pa, []⟩, sq, sn, tl⟩, fb) = idleP (⟨⟨pi, pf, pt, pa, pb⟩, sq, sn, tl⟩, fb) from rfl)
      cases hP : idleP (⟨⟨pi, pf, pt, pa, pb⟩, sq, sn, tl⟩, fb) with
      | true =>
        have HS := Shut.mk (HY.out hP)
        rw [HPE.out, hP]
        clear hP HY HN
        go_wp2_with (refine wpList_load_mid rfl 40 (.tmp 21) rfl wr.heap.size 0 rfl [.int .i64 pi, .int .u32 pf, .int .i64 pt, .int .i64 pa, .slice none 0 0, .int .i64 ((sq : Nat) : Int), .int .i64 ((sn : Nat) : Int), .int .i64 tl] _ HR8.out Tryd.underlying40 rfl sizeM ?_)
        refine (copied_any pi pf pt pa tl sq sn w2).mono ?_
        rintro e w3 ⟨rfl, hb3⟩
        have HB3 := Shut.mk (HB2.out.trans (hb3.mono HB2.out.size))
        have HO3 := Shut.mk (HO2.out.below hb3)
        clear hb3
        have HA5 := Shut.mk ((Below.refl w3.heap.size w3).alloc (Nat.le_refl _) (Obj.cells #[.int .i64 pi, .int .u32 pf, .int .i64 pt, .int .i64 pa, .slice none 0 0, .int .i64 ((sq : Nat) : Int), .int .i64 ((sn : Nat) : Int), .int .i64 tl] 40 (0, 0)))
        have HX5 := Shut.mk (block_range (MapKept.heap_alloc w3 (Obj.cells #[.int .i64 pi, .int .u32 pf, .int .i64 pt, .int .i64 pa, .slice none 0 0, .int .i64 ((sq : Nat) : Int), .int .i64 ((sn : Nat) : Int), .int .i64 tl] 40 (0, 0))).1)
        go_wp2_with (first
          | (refine app_m rfl (.tmp 20) (.tmp 24) rfl w.heap.size u5 (toldM idleP (l.take k)) rfl (HO3.out.below HA5.out) ⟨⟨pi, pf, pt, pa, pb⟩, sq, sn, tl⟩ ⟨w3.heap.size, 0, none⟩ 1 rfl (fun j q hq => by rw [Addr.add_mid]; exact HX5.out j q hq) HLT.out (Nat.le_trans HB.out.size (Nat.le_trans HB3.out.size HA5.out.size)) ?_
             intro u6 w6 HO6 HB6))
        have HBE := Shut.mk (show Below w.heap.size w w6 from (HB.out.trans ((HB3.out.trans (HA5.out.mono HB3.out.size)).mono HB.out.size)).trans HB6.out)
        go_roundw
        case rel => exact ⟨k + 1, by omega, by go_num, by rw [HS.out]; exact HO6.out, HBE.out⟩
        case measure => simp [intOf]; omega
      | false =>
        have HS := Shut.mk (HN.out hP)
        have HBE := Shut.mk (show Below w.heap.size w w2 from HB.out.trans (HB2.out.mono HB.out.size))
        rw [HPE.out, hP]
        clear hP HY HN
        go_wp2_with (fail)
        go_roundw
        case rel => exact ⟨k + 1, by omega, by go_num, by rw [HS.out]; exact HO2.out, HBE.out⟩
        case measure => simp [intOf]; omega
    · have hk' : k = n := by omega
      subst hk'
      have HTL := Shut.mk (show l.take k = l from List.take_of_length_le (by rw [HL.out]; omega))
      rw [HTL.out] at HO
      go_wp2_with (fail)
      go_ret
      exact ⟨_, rfl, HO.out, HB.out⟩
set_option maxRecDepth 100000 in
set_option maxHeartbeats 4000000 in
theorem dueS_any (h : IsSe B w p s) (hi : InvB s) :
    Calls Tryd.prog 18 #[.pointer (some ⟨p.g, 0, none⟩)] w fun e w' => ∃ v, e = .returned v ∧ OwnM w' w.heap.size v (toldM idleP s.l) ∧ Below w.heap.size w w' := by
  have HX := Shut.mk (tellDue_any h hi)
  clear h hi
  go_enter Tryd.func18, Tryd.ntmps18
  go_wp2_with (fail)
  refine HX.out.mono ?_
  rintro e w1 ⟨v, rfl, ho, hb⟩
  have HO := Shut.mk ho
  have HB := Shut.mk hb
  clear ho hb
  go_wp2_with (fail)
  go_ret
  exact ⟨_, rfl, HO.out, HB.out⟩

set_option maxRecDepth 100000 in
set_option maxHeartbeats 4000000 in
theorem tellFly_any (h : IsSe B w p s) (hi : InvB s) :
    Calls Tryd.prog 42 #[.pointer (some ⟨p.g, 0, none⟩), .func (.func 44) #[] #[]] w fun e w' => ∃ v, e = .returned v ∧ OwnM w' w.heap.size v (toldM flyP s.l) ∧ Below w.heap.size w w' := by
  obtain ⟨A, cp, hv, hrow, -⟩ := h.out hi
  obtain ⟨-, -, -, -, -, -, c6, -⟩ := h.cells
  rw [hv] at c6
  have HR := Shut.mk hrow
  have HLN := Shut.mk hi.len
  obtain ⟨l, hl⟩ : ∃ l, l = s.l := ⟨_, rfl⟩
  rw [← hl] at c6 HR HLN ⊢
  clear h hi hv hrow hl
  obtain ⟨n, hn⟩ : ∃ n, n = l.length := ⟨_, rfl⟩
  rw [← hn] at c6 HR HLN
  have HL := Shut.mk hn.symm
  have hle := HLN.out
  clear hn
  go_enter Tryd.func42, Tryd.ntmps42
  go_wp2_with (fail)
  go_loopw [5, 13] (fun u i wr => ∃ k : Nat, k ≤ n ∧ i = .int .i64 k ∧ OwnM wr w.heap.size u (toldM flyP (l.take k)) ∧ Below w.heap.size w wr) (fun _ i _ => n - (intOf i).toNat)
  case atStart => exact ⟨0, by omega, rfl, OwnS.nil _ _ _, Below.refl _ _⟩
  case round =>
    obtain ⟨k, hk, rfl, ho, hb⟩ := hrel
    have HO := Shut.mk ho
    have HB := Shut.mk hb
    clear ho hb
    by_cases hlt : k < n
    · obtain ⟨b, off, rfl, hrg⟩ := (RowS.below HR.out HB.out).el k hlt
      have hi : (k : Int) < (n : Int) := by omega
      have HKL := Shut.mk (show k < l.length by rw [HL.out]; exact hlt)
      have HY := Shut.mk (told_yes (P := flyP) HKL.out)
      have HN := Shut.mk (told_no (P := flyP) HKL.out)
      have HLT := Shut.mk (show (toldM flyP (l.take k)).length ≤ 1000000 by have h1 := @told_len flyP (l.take k); rw [List.length_take] at h1; omega)
      generalize l.getD k fm0 = f at *
      obtain ⟨⟨⟨pi, pf, pt, pa, pb⟩, sq, sn, tl⟩, fb⟩ := f
      have hrg' : wr.rangeAt b (off + k * 9) [.int .i64 pi, .int .u32 pf, .int .i64 pt, .int .i64 pa, .slice none 0 0, .int .i64 ((sq : Nat) : Int), .int .i64 ((sn : Nat) : Int), .int .i64 tl, .bool fb] := hrg
      have HRG := Shut.mk hrg'
      clear hrg hrg'
      have HBa := Shut.mk ((Below.refl wr.heap.size wr).alloc (Nat.le_refl _) (Obj.cells #[.int .i64 pi, .int .u32 pf, .int .i64 pt, .int .i64 pa, .slice none 0 0, .int .i64 ((sq : Nat) : Int), .int .i64 ((sn : Nat) : Int), .int .i64 tl, .bool fb] 85 (0, 0)))
      have HYa := Shut.mk (MapKept.heap_alloc wr (Obj.cells #[.int .i64 pi, .int .u32 pf, .int .i64 pt, .int .i64 pa, .slice none 0 0, .int .i64 ((sq : Nat) : Int), .int .i64 ((sn : Nat) : Int), .int .i64 tl, .bool fb] 85 (0, 0))).1
      go_wp2_with (first
        | (refine wpList_load_mid rfl 85 (.tmp 15) rfl b (off + k * 9) rfl [.int .i64 pi, .int .u32 pf, .int .i64 pt, .int .i64 pa, .slice none 0 0, .int .i64 ((sq : Nat) : Int), .int .i64 ((sn : Nat) : Int), .int .i64 tl, .bool fb] _ HRG.out Tryd.underlying85 rfl sizeF ?_)
        | (refine wpList_load_row rfl 85 (.tmp 7) rfl wr.heap.size rfl 85 #[.int .i64 pi, .int .u32 pf, .int .i64 pt, .int .i64 pa, .slice none 0 0, .int .i64 ((sq : Nat) : Int), .int .i64 ((sn : Nat) : Int), .int .i64 tl, .bool fb] (0, 0) _ HYa.out Tryd.underlying85 rfl sizeF ?_))
      generalize World.alloc wr _ = w1 at *
      refine (flyp_any pi pf pt pa tl sq sn fb w1).mono ?_
      rintro e w2 ⟨rfl, hb2⟩
      have HB2 := Shut.mk (HBa.out.trans (hb2.mono HBa.out.size))
      have HY2 := Shut.mk ((hb2.block _ (lt_blk HYa.out)).trans HYa.out)
      have HR8 := Shut.mk (range_pre (a := [.int .i64 pi, .int .u32 pf, .int .i64 pt, .int .i64 pa, .slice none 0 0, .int .i64 ((sq : Nat) : Int), .int .i64 ((sn : Nat) : Int), .int .i64 tl]) (b := [.bool fb]) (show w2.rangeAt wr.heap.size 0 ([.int .i64 pi, .int .u32 pf, .int .i64 pt, .int .i64 pa, .slice none 0 0, .int .i64 ((sq : Nat) : Int), .int .i64 ((sn : Nat) : Int), .int .i64 tl] ++ [.bool fb]) from block_range HY2.out))
      have HO2 := Shut.mk (HO.out.below HB2.out)
      clear hb2
      have HPE := Shut.mk (show flyP (⟨⟨pi, pf, pt, pa, []⟩, sq, sn, tl⟩, fb) = flyP (⟨⟨pi, pf, pt, pa, pb⟩, sq, sn, tl⟩, fb) from rfl)
      cases hP : flyP (⟨⟨pi, pf, pt, pa, pb⟩, sq, sn, tl⟩, fb) with
      | true =>
        have HS := Shut.mk (HY.out hP)
        rw [HPE.out, hP]
        clear hP HY HN
        go_wp2_with (refine wpList_load_mid rfl 40 (.tmp 21) rfl wr.heap.size 0 rfl [.int .i64 pi, .int .u32 pf, .int .i64 pt, .int .i64 pa, .slice none 0 0, .int .i64 ((sq : Nat) : Int), .int .i64 ((sn : Nat) : Int), .int .i64 tl] _ HR8.out Tryd.underlying40 rfl sizeM ?_)
        refine (copied_any pi pf pt pa tl sq sn w2).mono ?_
        rintro e w3 ⟨rfl, hb3⟩
        have HB3 := Shut.mk (HB2.out.trans (hb3.mono HB2.out.size))
        have HO3 := Shut.mk (HO2.out.below hb3)
        clear hb3
        have HA5 := Shut.mk ((Below.refl w3.heap.size w3).alloc (Nat.le_refl _) (Obj.cells #[.int .i64 pi, .int .u32 pf, .int .i64 pt, .int .i64 pa, .slice none 0 0, .int .i64 ((sq : Nat) : Int), .int .i64 ((sn : Nat) : Int), .int .i64 tl] 40 (0, 0)))
        have HX5 := Shut.mk (block_range (MapKept.heap_alloc w3 (Obj.cells #[.int .i64 pi, .int .u32 pf, .int .i64 pt, .int .i64 pa, .slice none 0 0, .int .i64 ((sq : Nat) : Int), .int .i64 ((sn : Nat) : Int), .int .i64 tl] 40 (0, 0))).1)
        go_wp2_with (first
          | (refine app_m rfl (.tmp 20) (.tmp 24) rfl w.heap.size u5 (toldM flyP (l.take k)) rfl (HO3.out.below HA5.out) ⟨⟨pi, pf, pt, pa, pb⟩, sq, sn, tl⟩ ⟨w3.heap.size, 0, none⟩ 1 rfl (fun j q hq => by rw [Addr.add_mid]; exact HX5.out j q hq) HLT.out (Nat.le_trans HB.out.size (Nat.le_trans HB3.out.size HA5.out.size)) ?_
             intro u6 w6 HO6 HB6))
        have HBE := Shut.mk (show Below w.heap.size w w6 from (HB.out.trans ((HB3.out.trans (HA5.out.mono HB3.out.size)).mono HB.out.size)).trans HB6.out)
        go_roundw
        case rel => exact ⟨k + 1, by omega, by go_num, by rw [HS.out]; exact HO6.out, HBE.out⟩
        case measure => simp [intOf]; omega
      | false =>
        have HS := Shut.mk (HN.out hP)
        have HBE := Shut.mk (show Below w.heap.size w w2 from HB.out.trans (HB2.out.mono HB.out.size))
        rw [HPE.out, hP]
        clear hP HY HN
        go_wp2_with (fail)
        go_roundw
        case rel => exact ⟨k + 1, by omega, by go_num, by rw [HS.out]; exact HO2.out, HBE.out⟩
        case measure => simp [intOf]; omega
    · have hk' : k = n := by omega
      subst hk'
      have HTL := Shut.mk (show l.take k = l from List.take_of_length_le (by rw [HL.out]; omega))
      rw [HTL.out] at HO
      go_wp2_with (fail)
      go_ret
      exact ⟨_, rfl, HO.out, HB.out⟩
set_option maxRecDepth 100000 in
set_option maxHeartbeats 4000000 in
theorem flyingS_any (h : IsSe B w p s) (hi : InvB s) :
    Calls Tryd.prog 19 #[.pointer (some ⟨p.g, 0, none⟩)] w fun e w' => ∃ v, e = .returned v ∧ OwnM w' w.heap.size v (toldM flyP s.l) ∧ Below w.heap.size w w' := by
  have HX := Shut.mk (tellFly_any h hi)
  clear h hi
  go_enter Tryd.func19, Tryd.ntmps19
  go_wp2_with (fail)
  refine HX.out.mono ?_
  rintro e w1 ⟨v, rfl, ho, hb⟩
  have HO := Shut.mk ho
  have HB := Shut.mk hb
  clear ho hb
  go_wp2_with (fail)
  go_ret
  exact ⟨_, rfl, HO.out, HB.out⟩

set_option maxRecDepth 100000 in
set_option maxHeartbeats 4000000 in
theorem tellAll_any (h : IsSe B w p s) (hi : InvB s) :
    Calls Tryd.prog 42 #[.pointer (some ⟨p.g, 0, none⟩), .func (.func 52) #[] #[]] w fun e w' => ∃ v, e = .returned v ∧ OwnM w' w.heap.size v (toldM allP s.l) ∧ Below w.heap.size w w' := by
  obtain ⟨A, cp, hv, hrow, -⟩ := h.out hi
  obtain ⟨-, -, -, -, -, -, c6, -⟩ := h.cells
  rw [hv] at c6
  have HR := Shut.mk hrow
  have HLN := Shut.mk hi.len
  obtain ⟨l, hl⟩ : ∃ l, l = s.l := ⟨_, rfl⟩
  rw [← hl] at c6 HR HLN ⊢
  clear h hi hv hrow hl
  obtain ⟨n, hn⟩ : ∃ n, n = l.length := ⟨_, rfl⟩
  rw [← hn] at c6 HR HLN
  have HL := Shut.mk hn.symm
  have hle := HLN.out
  clear hn
  go_enter Tryd.func42, Tryd.ntmps42
  go_wp2_with (fail)
  go_loopw [5, 13] (fun u i wr => ∃ k : Nat, k ≤ n ∧ i = .int .i64 k ∧ OwnM wr w.heap.size u (toldM allP (l.take k)) ∧ Below w.heap.size w wr) (fun _ i _ => n - (intOf i).toNat)
  case atStart => exact ⟨0, by omega, rfl, OwnS.nil _ _ _, Below.refl _ _⟩
  case round =>
    obtain ⟨k, hk, rfl, ho, hb⟩ := hrel
    have HO := Shut.mk ho
    have HB := Shut.mk hb
    clear ho hb
    by_cases hlt : k < n
    · obtain ⟨b, off, rfl, hrg⟩ := (RowS.below HR.out HB.out).el k hlt
      have hi : (k : Int) < (n : Int) := by omega
      have HKL := Shut.mk (show k < l.length by rw [HL.out]; exact hlt)
      have HY := Shut.mk (told_yes (P := allP) HKL.out)
      have HN := Shut.mk (told_no (P := allP) HKL.out)
      have HLT := Shut.mk (show (toldM allP (l.take k)).length ≤ 1000000 by have h1 := @told_len allP (l.take k); rw [List.length_take] at h1; omega)
      generalize l.getD k fm0 = f at *
      obtain ⟨⟨⟨pi, pf, pt, pa, pb⟩, sq, sn, tl⟩, fb⟩ := f
      have hrg' : wr.rangeAt b (off + k * 9) [.int .i64 pi, .int .u32 pf, .int .i64 pt, .int .i64 pa, .slice none 0 0, .int .i64 ((sq : Nat) : Int), .int .i64 ((sn : Nat) : Int), .int .i64 tl, .bool fb] := hrg
      have HRG := Shut.mk hrg'
      clear hrg hrg'
      have HBa := Shut.mk ((Below.refl wr.heap.size wr).alloc (Nat.le_refl _) (Obj.cells #[.int .i64 pi, .int .u32 pf, .int .i64 pt, .int .i64 pa, .slice none 0 0, .int .i64 ((sq : Nat) : Int), .int .i64 ((sn : Nat) : Int), .int .i64 tl, .bool fb] 85 (0, 0)))
      have HYa := Shut.mk (MapKept.heap_alloc wr (Obj.cells #[.int .i64 pi, .int .u32 pf, .int .i64 pt, .int .i64 pa, .slice none 0 0, .int .i64 ((sq : Nat) : Int), .int .i64 ((sn : Nat) : Int), .int .i64 tl, .bool fb] 85 (0, 0))).1
      go_wp2_with (first
        | (refine wpList_load_mid rfl 85 (.tmp 15) rfl b (off + k * 9) rfl [.int .i64 pi, .int .u32 pf, .int .i64 pt, .int .i64 pa, .slice none 0 0, .int .i64 ((sq : Nat) : Int), .int .i64 ((sn : Nat) : Int), .int .i64 tl, .bool fb] _ HRG.out Tryd.underlying85 rfl sizeF ?_)
        | (refine wpList_load_row rfl 85 (.tmp 7) rfl wr.heap.size rfl 85 #[.int .i64 pi, .int .u32 pf, .int .i64 pt, .int .i64 pa, .slice none 0 0, .int .i64 ((sq : Nat) : Int), .int .i64 ((sn : Nat) : Int), .int .i64 tl, .bool fb] (0, 0) _ HYa.out Tryd.underlying85 rfl sizeF ?_))
      generalize World.alloc wr _ = w1 at *
      refine (allp_any pi pf pt pa tl sq sn fb w1).mono ?_
      rintro e w2 ⟨rfl, hb2⟩
      have HB2 := Shut.mk (HBa.out.trans (hb2.mono HBa.out.size))
      have HY2 := Shut.mk ((hb2.block _ (lt_blk HYa.out)).trans HYa.out)
      have HR8 := Shut.mk (range_pre (a := [.int .i64 pi, .int .u32 pf, .int .i64 pt, .int .i64 pa, .slice none 0 0, .int .i64 ((sq : Nat) : Int), .int .i64 ((sn : Nat) : Int), .int .i64 tl]) (b := [.bool fb]) (show w2.rangeAt wr.heap.size 0 ([.int .i64 pi, .int .u32 pf, .int .i64 pt, .int .i64 pa, .slice none 0 0, .int .i64 ((sq : Nat) : Int), .int .i64 ((sn : Nat) : Int), .int .i64 tl] ++ [.bool fb]) from block_range HY2.out))
      have HO2 := Shut.mk (HO.out.below HB2.out)
      clear hb2
      have HPE := Shut.mk (show allP (⟨⟨pi, pf, pt, pa, []⟩, sq, sn, tl⟩, fb) = allP (⟨⟨pi, pf, pt, pa, pb⟩, sq, sn, tl⟩, fb) from rfl)
      cases hP : allP (⟨⟨pi, pf, pt, pa, pb⟩, sq, sn, tl⟩, fb) with
      | true =>
        have HS := Shut.mk (HY.out hP)
        rw [HPE.out, hP]
        clear hP HY HN
        go_wp2_with (refine wpList_load_mid rfl 40 (.tmp 21) rfl wr.heap.size 0 rfl [.int .i64 pi, .int .u32 pf, .int .i64 pt, .int .i64 pa, .slice none 0 0, .int .i64 ((sq : Nat) : Int), .int .i64 ((sn : Nat) : Int), .int .i64 tl] _ HR8.out Tryd.underlying40 rfl sizeM ?_)
        refine (copied_any pi pf pt pa tl sq sn w2).mono ?_
        rintro e w3 ⟨rfl, hb3⟩
        have HB3 := Shut.mk (HB2.out.trans (hb3.mono HB2.out.size))
        have HO3 := Shut.mk (HO2.out.below hb3)
        clear hb3
        have HA5 := Shut.mk ((Below.refl w3.heap.size w3).alloc (Nat.le_refl _) (Obj.cells #[.int .i64 pi, .int .u32 pf, .int .i64 pt, .int .i64 pa, .slice none 0 0, .int .i64 ((sq : Nat) : Int), .int .i64 ((sn : Nat) : Int), .int .i64 tl] 40 (0, 0)))
        have HX5 := Shut.mk (block_range (MapKept.heap_alloc w3 (Obj.cells #[.int .i64 pi, .int .u32 pf, .int .i64 pt, .int .i64 pa, .slice none 0 0, .int .i64 ((sq : Nat) : Int), .int .i64 ((sn : Nat) : Int), .int .i64 tl] 40 (0, 0))).1)
        go_wp2_with (first
          | (refine app_m rfl (.tmp 20) (.tmp 24) rfl w.heap.size u5 (toldM allP (l.take k)) rfl (HO3.out.below HA5.out) ⟨⟨pi, pf, pt, pa, pb⟩, sq, sn, tl⟩ ⟨w3.heap.size, 0, none⟩ 1 rfl (fun j q hq => by rw [Addr.add_mid]; exact HX5.out j q hq) HLT.out (Nat.le_trans HB.out.size (Nat.le_trans HB3.out.size HA5.out.size)) ?_
             intro u6 w6 HO6 HB6))
        have HBE := Shut.mk (show Below w.heap.size w w6 from (HB.out.trans ((HB3.out.trans (HA5.out.mono HB3.out.size)).mono HB.out.size)).trans HB6.out)
        go_roundw
        case rel => exact ⟨k + 1, by omega, by go_num, by rw [HS.out]; exact HO6.out, HBE.out⟩
        case measure => simp [intOf]; omega
      | false =>
        have HS := Shut.mk (HN.out hP)
        have HBE := Shut.mk (show Below w.heap.size w w2 from HB.out.trans (HB2.out.mono HB.out.size))
        rw [HPE.out, hP]
        clear hP HY HN
        go_wp2_with (fail)
        go_roundw
        case rel => exact ⟨k + 1, by omega, by go_num, by rw [HS.out]; exact HO2.out, HBE.out⟩
        case measure => simp [intOf]; omega
    · have hk' : k = n := by omega
      subst hk'
      have HTL := Shut.mk (show l.take k = l from List.take_of_length_le (by rw [HL.out]; omega))
      rw [HTL.out] at HO
      go_wp2_with (fail)
      go_ret
      exact ⟨_, rfl, HO.out, HB.out⟩
set_option maxRecDepth 100000 in
set_option maxHeartbeats 4000000 in
theorem outS_any (h : IsSe B w p s) (hi : InvB s) :
    Calls Tryd.prog 25 #[.pointer (some ⟨p.g, 0, none⟩)] w fun e w' => ∃ v, e = .returned v ∧ OwnM w' w.heap.size v (toldM allP s.l) ∧ Below w.heap.size w w' := by
  have HX := Shut.mk (tellAll_any h hi)
  clear h hi
  go_enter Tryd.func25, Tryd.ntmps25
  go_wp2_with (fail)
  refine HX.out.mono ?_
  rintro e w1 ⟨v, rfl, ho, hb⟩
  have HO := Shut.mk ho
  have HB := Shut.mk hb
  clear ho hb
  go_wp2_with (fail)
  go_ret
  exact ⟨_, rfl, HO.out, HB.out⟩

end

/-! ### their numbers -/
def mp0 : Mp := ⟨⟨0, 0, 0, 0, []⟩, 0, 0, 0⟩
def seqI (L : List Mp) : List Int := L.map fun m => ((m.seq : Nat) : Int)
theorem seqI_len (L : List Mp) : (seqI L).length = L.length := by unfold seqI; simp
theorem seqI_take {L : List Mp} {k : Nat} (h : k < L.length) : seqI (L.take (k + 1)) = seqI (L.take k) ++ [(((L.getD k mp0).seq : Nat) : Int)] := by
  unfold seqI; rw [List.take_succ_eq_append_getElem h, List.map_append]; simp [List.getD, h]
theorem wpList_app_n {ops : Array Oper} {rest : List Oper} {o : Oper} {a : Act} {w : World} {Q : Exit → Act → World → Prop} (hgd : o.guard = none) (s x : Operand)
    (ho : o.op = .call { callee := .builtin .append, args := #[s, x], argTypes := #[47, 47] })
    (lv : Value) (l : List Int) (hs : a.eval s = lv) (hP : RowN w lv l) (u : Int) (ad : Addr) (c : Nat) (hx : a.eval x = .slice (some ad) 1 c) (hc : ∀ j q, [Value.int .i64 u][j]? = some q → w.cell? (ad.add j) = some q)
    (hk : l.length ≤ 1000000)
    (h : ∀ v w', Shut (RowN w' v (l ++ [u])) → Shut (Only (fun j => lv.ownBlock = some j) w w') → Shut (∀ g, v.ownBlock = some g → lv.ownBlock = some g ∨ g = w.heap.size) → wpList Tryd.prog ops Q rest (a.put o.dst v) w') : wpList Tryd.prog ops Q (o :: rest) a w :=
  wpList_step fun _ hK => step_app_n hgd s x ho lv l hs hP u ad c hx hc hk fun v w' h1 h2 h3 => hK _ _ (h v w' ⟨h1⟩ ⟨h2⟩ ⟨h3⟩)
set_option maxRecDepth 100000 in
set_option maxHeartbeats 4000000 in
theorem seqs_any (A : Option Addr) (n c : Nat) (L : List Mp) (w : World) (h : RowS mpC 8 mp0 w A n L) (hn : n ≤ 1000) :
    Calls Tryd.prog 17 #[.slice A n c] w fun e w' => ∃ v, e = .returned v ∧ RowN w' v (seqI L) ∧ (∀ g, v.ownBlock = some g → w.heap.size ≤ g) ∧ Below w.heap.size w w' := by
  have HL := Shut.mk h.len
  have HR := Shut.mk h
  clear h
  go_enter Tryd.func17, Tryd.ntmps17
  go_wp2_with (fail)
  go_loopw [3, 4] (fun u i wr => ∃ k : Nat, k ≤ n ∧ i = .int .i64 k ∧ RowN wr u (seqI (L.take k)) ∧ (∀ g, u.ownBlock = some g → w.heap.size ≤ g) ∧ Below w.heap.size w wr) (fun _ i _ => n - (intOf i).toNat)
  case atStart => exact ⟨0, by omega, rfl, RowN.nil _, (fun g hg => by cases hg), Below.refl _ _⟩
  case round =>
    obtain ⟨k, hk, rfl, hr, hf, hb⟩ := hrel
    have HROW := Shut.mk hr
    have HFR := Shut.mk hf
    have HB := Shut.mk hb
    clear hr hf hb
    by_cases hlt : k < n
    · obtain ⟨b, off, rfl, hrg⟩ := (RowS.below HR.out HB.out).el k hlt
      have hi : (k : Int) < (n : Int) := by omega
      have HTK := Shut.mk (seqI_take (L := L) (k := k) (by rw [HL.out]; exact hlt))
      have hc5 := hrg 5 _ rfl
      have HLL := Shut.mk (show (seqI (L.take k)).length ≤ 1000000 by rw [seqI_len, List.length_take]; omega)
      generalize L.getD k mp0 = f at *
      obtain ⟨⟨pi, pf, pt, pa, pb⟩, sq, sn, tl⟩ := f
      have c5 : wr.cell? ⟨b, off + k * 8 + 5, none⟩ = some (.int .i64 ((sq : Nat) : Int)) := hc5
      clear hrg hc5
      have HA5 := Shut.mk ((Below.refl wr.heap.size wr).alloc (Nat.le_refl _) (Obj.cells #[.int .i64 ((sq : Nat) : Int)] 3 (0, 0)))
      have HX5 := Shut.mk (block_range (MapKept.heap_alloc wr (Obj.cells #[.int .i64 ((sq : Nat) : Int)] 3 (0, 0))).1)
      have HR5 := Shut.mk (HROW.out.only (S := fun _ => False) (Only.of_quiet HA5.out) (fun _ _ e => e))
      go_wp2_with (first
        | (refine wpList_app_n rfl (.tmp 11) (.tmp 17) rfl u3 (seqI (L.take k)) rfl HR5.out ((sq : Nat) : Int) ⟨wr.heap.size, 0, none⟩ 1 rfl (fun j q hq => by rw [Addr.add_mid]; exact HX5.out j q hq) HLL.out ?_
           intro u5 w6 HO6 HB6 HZ6))
      have HBE := Shut.mk (show Below w.heap.size w w6 from HB.out.trans ((HA5.out.mono HB.out.size).trans (HB6.out.below (fun i hi e => by have := HFR.out i e; omega) (Nat.le_trans HB.out.size HA5.out.size))))
      have HFE := Shut.mk (show ∀ g, u5.ownBlock = some g → w.heap.size ≤ g from fun g hg => by
        rcases HZ6.out g hg with h1 | h1
        · exact HFR.out g h1
        · have h2 := HB.out.size; have h3 := HA5.out.size; omega)
      go_roundw
      case rel => exact ⟨k + 1, by omega, by go_num, by rw [HTK.out]; exact HO6.out, HFE.out, HBE.out⟩
      case measure => simp [intOf]; omega
    · have hk' : k = n := by omega
      subst hk'
      have HTL := Shut.mk (show L.take k = L from List.take_of_length_le (by rw [HL.out]; omega))
      rw [HTL.out] at HROW
      go_wp2_with (fail)
      go_ret
      exact ⟨_, rfl, HROW.out, HFR.out, HB.out⟩

/-! ### numbers in a row -/
theorem notmem_step' {xs : List Int} {k : Nat} {v : Int} (h : v ∉ xs.take k) (hk : k < xs.length) (he : xs.getD k 0 ≠ v) : v ∉ xs.take (k + 1) := by
  rw [take_snoc hk]
  simp only [List.mem_append, List.mem_singleton]
  rintro (h1 | h1)
  · exact h h1
  · exact he h1.symm
set_option maxRecDepth 100000 in
set_option maxHeartbeats 8000000 in
theorem index_any (A : Option Addr) (n c : Nat) (xs : List Int) (v : Int) (w : World) (h : RowB .i64 w A n xs) :
    Calls Tryd.prog 63 #[.slice A n c, .int .i64 v] w fun e w' => (∃ i : Int, e = .returned (.int .i64 i) ∧ (0 ≤ i ↔ v ∈ xs)) ∧ w = w' := by
  have hl := h.len
  have hle := h.le
  unfold maxLen at hle
  have HC := Lib.hid (fun i hi => h.el i hi)
  have HL := Lib.hid hl
  clear h hl
  go_enter Tryd.func63, Tryd.ntmps63
  go_wp2
  go_loop [8] (fun i => ∃ k : Nat, k ≤ n ∧ i = .int .i64 k ∧ v ∉ xs.take k) (fun i => n - (intOf i).toNat)
  case atStart => exact ⟨0, by omega, rfl, by simp⟩
  case round =>
    obtain ⟨k, hk, rfl, hnot⟩ := hrel
    by_cases hlt : k < n
    · obtain ⟨b, off, rfl, hc⟩ := HC.out k hlt
      have hi : (k : Int) < (n : Int) := by omega
      by_cases he : xs.getD k 0 = v
      · have HS := Lib.hid (show decide (v ∈ xs) = true from decide_eq_true (by rw [← he]; exact mem_getD (by rw [HL.out]; exact hlt)))
        rw [he] at hc
        have hb' : (v == v) = true := by simp
        clear he hnot
        go_wp2
        go_ret
        exact ⟨⟨_, rfl, ⟨fun _ => of_decide_eq_true HS.out, fun _ => by omega⟩⟩, rfl⟩
      · have HS := Lib.hid (notmem_step' hnot (by rw [HL.out]; exact hlt) he)
        have hb' : (v == xs.getD k 0) = false := by simpa using fun e => he e.symm
        generalize xs.getD k 0 = x at *
        clear he hnot
        go_wp2
        go_round
        case rel => exact ⟨k + 1, by omega, by go_num, HS.out⟩
        case measure => simp [intOf]; omega
    · have HS := Lib.hid (show decide (v ∈ xs) = false by
        rw [List.take_of_length_le (by rw [HL.out]; omega)] at hnot
        exact decide_eq_false hnot)
      clear hnot
      go_wp2
      go_ret
      exact ⟨⟨_, rfl, ⟨fun h => by omega, fun h => absurd h (of_decide_eq_false HS.out)⟩⟩, rfl⟩
set_option maxRecDepth 100000 in
set_option maxHeartbeats 8000000 in
theorem contains_any (A : Option Addr) (n c : Nat) (xs : List Int) (v : Int) (w : World) (h : RowB .i64 w A n xs) :
    Calls Tryd.prog 46 #[.slice A n c, .int .i64 v] w fun e w' => e = .returned (.bool (decide (v ∈ xs))) ∧ w = w' := by
  have HR := Lib.hid h
  clear h
  go_enter Tryd.func46, Tryd.ntmps46
  go_wp2_with (fail)
  refine (index_any A n c xs v _ HR.out).mono ?_
  rintro e w1 ⟨⟨i, rfl, hi⟩, rfl⟩
  have HI := Lib.hid hi
  clear hi
  go_wp2
  go_ret
  exact ⟨ret_b (decide_eq_decide.2 HI.out.symm), rfl⟩


end Go.Proofs.YtlbfioknkagboaaDoor
