/-
  CONTRACT of ba's part, for each of the functions that it is given.
-/
import Derived.Test.YtlbfioknkagboaaDoorSeE
namespace Go.Proofs.YtlbfioknkagboaaDoor
open Go.ChangeShapes Go.WideShapes Go.ChangeAt Go.RowKit Go.Deep
set_option linter.unusedVariables false
set_option linter.unusedSimpArgs false

def PartOut (B : Nat) (w : World) (p : Sp) (s : Sb) (P : Fm → Bool) (cw : Option Nat) (Y : List Int) (e : Ending) (w' : World) : Prop :=
  ∃ tv lv uv x, e = .returned tv ∧ OwnM w' w.heap.size tv (toldM P s.l) ∧ IsSe B w' ⟨p.g, p.gw, lv⟩ { s with x := x, l := s.l.filter fun f => !P f } ∧ InvX x (s.l.filter fun f => !P f) ∧ x.sz = s.x.sz ∧ nmW x x.gv = nmW s.x s.x.gv ∧
    Only (fun j => j = p.g ∨ j = p.gw ∨ cw = some j) w w' ∧ (∀ g, lv.ownBlock = some g → w.heap.size ≤ g ∧ ¬ tv.ownBlock = some g ∧ ¬ uv.ownBlock = some g) ∧ (∀ c, cw = some c → w'.heap[c]? = some (.cells #[uv] 47 (0, 0))) ∧ RowN w' uv Y ∧ (∀ g, uv.ownBlock = some g → w.heap.size ≤ g)
theorem left_more {P : Fm → Bool} {l : List Fm} {k : Nat} (h : k < l.length) (hp : P (l.getD k fm0) = false) : (l.take (k + 1)).filter (fun f => !P f) = (l.take k).filter (fun f => !P f) ++ [l.getD k fm0] := by
  rw [take_fm h, List.filter_append, List.filter_cons, if_pos (show (!P (l.getD k fm0)) = true by rw [hp]; rfl), List.filter_nil]
theorem left_same {P : Fm → Bool} {l : List Fm} {k : Nat} (h : k < l.length) (hp : P (l.getD k fm0) = true) : (l.take (k + 1)).filter (fun f => !P f) = (l.take k).filter (fun f => !P f) := by
  rw [take_fm h, List.filter_append, List.filter_cons, if_neg (show ¬ (!P (l.getD k fm0)) = true by rw [hp]; simp), List.filter_nil, List.append_nil]
theorem drop_fm {l : List Fm} {k : Nat} (h : k < l.length) : l.drop k = l.getD k fm0 :: l.drop (k + 1) := by
  rw [List.drop_eq_getElem_cons h]; simp [List.getD, h]
section
variable {B : Nat} {w : World} {p : Sp} {s : Sb}

set_option maxRecDepth 100000 in
set_option maxHeartbeats 8000000 in
theorem partH_any (h : IsSe B w p s) (hi : InvB s) (hT : Tab64 w) (hgt : 5 < B) (c a M : Nat) (ha : a < 4096) (hM : M < 18446744073709551616) (h13 : w.cell? ⟨c, 13, none⟩ = some (.int .i64 ((a : Nat) : Int))) (h14 : w.cell? ⟨c, 14, none⟩ = some (.int .u64 ((M : Nat) : Int))) (hcn : c ≠ p.gw) :
    Calls Tryd.prog 38 #[.pointer (some ⟨p.g, 0, none⟩), .func (.func 49) #[] #[.pointer (some ⟨c, 0, none⟩)]] w fun e w' => PartOut B w p s (ackP a M) none [] e w' := by
  obtain ⟨A, cp, hv, hrow, -⟩ := h.out hi
  obtain ⟨-, -, -, -, -, -, c6, -⟩ := h.cells
  have HSE := Shut.mk h
  have HINV := Shut.mk hi.inv
  have HT := Shut.mk hT
  have HFT := Shut.mk h.foot
  have HGT := Shut.mk (show p.gw ≠ 5 by have := h.lo.2; omega)
  have HAP := Shut.mk (show ∀ a, A = some a → p.v.ownBlock = some a.block by
    intro a ha
    have h1 := h.row.1.2
    rcases h1 with ⟨e, -⟩ | ⟨g, cap, cur, e, -⟩
    · rw [hv, ha] at e; cases e
    · rw [hv, ha] at e; rw [hv, ha]; cases e; rfl)
  rw [hv] at c6
  have HR := Shut.mk hrow
  have HLN := Shut.mk hi.len
  obtain ⟨l, hl⟩ : ∃ l, l = s.l := ⟨_, rfl⟩
  have HLS := Shut.mk hl
  rw [← hl] at c6 HR HLN HINV
  clear h hi hv hrow hl hT hgt
  obtain ⟨n, hn⟩ : ∃ n, n = l.length := ⟨_, rfl⟩
  rw [← hn] at c6 HR HLN
  have HL := Shut.mk hn.symm
  have hle := HLN.out
  clear hn
  have HAM := Shut.mk (And.intro ha hM)
  have H13 := Shut.mk h13
  have H14 := Shut.mk h14
  have HCN := Shut.mk hcn
  clear ha hM h13 h14 hcn
  go_enter Tryd.func38, Tryd.ntmps38
  go_wp2_with (fail)
  go_loopw [5, 6, 14] (fun lv tv i wr => ∃ (k : Nat) (x : Wo) (uv : Value), k ≤ n ∧ i = .int .i64 k ∧ PartR w p none wr lv tv uv ((l.take k).filter fun f => !(ackP a M) f) (toldM (ackP a M) (l.take k)) x ((l.take k).filter (fun f => !(ackP a M) f) ++ l.drop k) ([]) ∧ x.sz = s.x.sz ∧ nmW x x.gv = nmW s.x s.x.gv) (fun _ _ i _ => n - (intOf i).toNat)
  case atStart =>
    refine ⟨0, s.x, .slice none 0 0, by omega, rfl, ⟨OwnS.nil _ _ _, OwnS.nil _ _ _, HSE.out.win, HINV.out, Only.refl _ _, (fun c hc => by cases hc), RowN.nil _, (fun g hg => by cases hg), (fun g hg => by cases hg), (fun g hg => by cases hg), ⟨(HFT.out _ (.inr (.inl rfl))).2, (fun c hc => by cases hc)⟩⟩, rfl, rfl⟩
  case round =>
    obtain ⟨k, x, uv, hk, rfl, hp, hsz, hah⟩ := hrel
    have HP := Shut.mk hp
    have HSZ := Shut.mk hsz
    have HAH := Shut.mk hah
    clear hp hsz hah
    by_cases hlt : k < n
    · have HKL := Shut.mk (show k < l.length by rw [HL.out]; exact hlt)
      obtain ⟨b, off, rfl, hrg⟩ := (RowS.only HR.out HP.out.only (fun a ha => fun e => by have h1 := HSE.out.ng _ (HAP.out a ha); simp at e; exact h1.2 e)).el k hlt
      have hi : (k : Int) < (n : Int) := by omega
      have HY := Shut.mk (told_yes (P := (ackP a M)) HKL.out)
      have HN := Shut.mk (told_no (P := (ackP a M)) HKL.out)
      have HLM := Shut.mk (left_more (P := (ackP a M)) HKL.out)
      have HLS2 := Shut.mk (left_same (P := (ackP a M)) HKL.out)
      have HDR := Shut.mk (drop_fm HKL.out)
      have HSQ := Shut.mk (HINV.out.lt (mem_fm HKL.out))
      
      have HTL := Shut.mk (show (toldM (ackP a M) (l.take k)).length ≤ 1000000 by have h1 := @told_len (ackP a M) (l.take k); rw [List.length_take] at h1; omega)
      have HLL := Shut.mk (show ((l.take k).filter fun f => !(ackP a M) f).length ≤ 1000000 by have h1 := List.length_filter_le (fun f => !(ackP a M) f) (l.take k); rw [List.length_take] at h1; omega)
      generalize l.getD k fm0 = f at *
      obtain ⟨⟨⟨pi, pf, pt, pa, pb⟩, sq, sn, tl⟩, fb⟩ := f
      have hrg' : wr.rangeAt b (off + k * 9) [.int .i64 pi, .int .u32 pf, .int .i64 pt, .int .i64 pa, .slice none 0 0, .int .i64 ((sq : Nat) : Int), .int .i64 ((sn : Nat) : Int), .int .i64 tl, .bool fb] := hrg
      have HRG := Shut.mk hrg'
      clear hrg hrg'
      have HBa := Shut.mk ((Below.refl wr.heap.size wr).alloc (Nat.le_refl _) (Obj.cells #[.int .i64 pi, .int .u32 pf, .int .i64 pt, .int .i64 pa, .slice none 0 0, .int .i64 ((sq : Nat) : Int), .int .i64 ((sn : Nat) : Int), .int .i64 tl, .bool fb] 85 (0, 0)))
      have HYa := Shut.mk (MapKept.heap_alloc wr (Obj.cells #[.int .i64 pi, .int .u32 pf, .int .i64 pt, .int .i64 pa, .slice none 0 0, .int .i64 ((sq : Nat) : Int), .int .i64 ((sn : Nat) : Int), .int .i64 tl, .bool fb] 85 (0, 0))).1
      have HSA := Shut.mk (show wr.heap.size < (wr.alloc (Obj.cells #[.int .i64 pi, .int .u32 pf, .int .i64 pt, .int .i64 pa, .slice none 0 0, .int .i64 ((sq : Nat) : Int), .int .i64 ((sn : Nat) : Int), .int .i64 tl, .bool fb] 85 (0, 0))).heap.size by simp)
      have HPa := Shut.mk (HP.out.quiet HBa.out)
      go_wp2_with (first
        | (refine wpList_load_mid rfl 85 (.tmp 16) rfl b (off + k * 9) rfl [.int .i64 pi, .int .u32 pf, .int .i64 pt, .int .i64 pa, .slice none 0 0, .int .i64 ((sq : Nat) : Int), .int .i64 ((sn : Nat) : Int), .int .i64 tl, .bool fb] _ HRG.out Tryd.underlying85 rfl sizeF ?_)
        | (refine wpList_load_row rfl 85 (.tmp 8) rfl wr.heap.size rfl 85 #[.int .i64 pi, .int .u32 pf, .int .i64 pt, .int .i64 pa, .slice none 0 0, .int .i64 ((sq : Nat) : Int), .int .i64 ((sn : Nat) : Int), .int .i64 tl, .bool fb] (0, 0) _ HYa.out Tryd.underlying85 rfl sizeF ?_))
      generalize World.alloc wr _ = w1 at *
      refine (heard1_any c a M pi pf pt pa tl sq sn fb w1 HSQ.out HAM.out.1 HAM.out.2 (HPa.out.only.cell H13.out (fun e => HCN.out (by simpa using e))) (HPa.out.only.cell H14.out (fun e => HCN.out (by simpa using e)))).mono ?_
      rintro e w2 ⟨rfl, hb2⟩
      have HP2 := Shut.mk (HPa.out.quiet hb2)
      have HY2 := Shut.mk ((hb2.block _ (lt_blk HYa.out)).trans HYa.out)
      clear hb2
      have HWS := Shut.mk (show w.heap.size ≤ w2.heap.size from HP2.out.only.size)
      have HR8 := Shut.mk (range_pre (a := [.int .i64 pi, .int .u32 pf, .int .i64 pt, .int .i64 pa, .slice none 0 0, .int .i64 ((sq : Nat) : Int), .int .i64 ((sn : Nat) : Int), .int .i64 tl]) (b := [.bool fb]) (show w2.rangeAt wr.heap.size 0 ([.int .i64 pi, .int .u32 pf, .int .i64 pt, .int .i64 pa, .slice none 0 0, .int .i64 ((sq : Nat) : Int), .int .i64 ((sn : Nat) : Int), .int .i64 tl] ++ [.bool fb]) from block_range HY2.out))
      have HPE := Shut.mk (show (ackP a M) (⟨⟨pi, pf, pt, pa, []⟩, sq, sn, tl⟩, fb) = (ackP a M) (⟨⟨pi, pf, pt, pa, pb⟩, sq, sn, tl⟩, fb) from rfl)
      cases hP : (ackP a M) (⟨⟨pi, pf, pt, pa, pb⟩, sq, sn, tl⟩, fb) with
      | true =>
        have HS := Shut.mk (HY.out hP)
        have HLE := Shut.mk (HLS2.out hP)
        rw [HPE.out, hP]
        skip
        clear hP HY HN HLM HLS2
        have c5 : w2.cell? ⟨p.g, 5, none⟩ = some (.pointer (some ⟨p.gw, 0, none⟩)) := HP2.out.only.cell HSE.out.cells.2.2.2.2.2.1 (fun e => HSE.out.ne (by simpa using e))
        have d5 : w2.cell? ⟨wr.heap.size, 5, none⟩ = some (.int .i64 ((sq : Nat) : Int)) := by have h9 := block_range HY2.out 5 _ rfl; rw [Nat.zero_add] at h9; exact h9
        go_wp2_with (fail)
        go_still_tail 7, (by kernel_rfl)
        change wpList _ _ _ _ _ (World.drewN w2 1)
        generalize hq : World.drewN w2 1 = w3
        have HB3 := Shut.mk (show Below w2.heap.size w2 w3 by rw [← hq]; exact below_drewN (Below.refl _ _) _)
        clear hq c5 d5
        have HP3 := Shut.mk (HP2.out.quiet HB3.out)
        have HR83 := Shut.mk (range_below (B := w2.heap.size) HR8.out HB3.out)
        have hiv := HP3.out.inv
        rw [HDR.out] at hiv
        obtain ⟨d, hd, hde, hix, hsz2, hah2⟩ := hiv.done (f := (⟨⟨pi, pf, pt, pa, pb⟩, sq, sn, tl⟩, fb)) (List.mem_append_right _ List.mem_cons_self)
        rw [mid_gone hiv.nodup] at hix
        have hdn := done_ok p.gw x d w3 HP3.out.win hiv.inv hd (HT.out.only HP3.out.only (fun e => by rcases e with e | e; exact HGT.out e.symm; cases e)) HGT.out
        rw [hde] at hdn
        have HDN := Shut.mk hdn
        have HIX := Shut.mk hix
        have HZ2 := Shut.mk (hsz2.trans HSZ.out)
        have HA2 := Shut.mk (hah2.trans HAH.out)
        clear hiv hd hde hix hsz2 hah2 hdn
        go_wp2_with (fail)
        refine HDN.out.mono ?_
        rintro e w4 ⟨rfl, hx4, ho4⟩
        have HP4 := Shut.mk (HP3.out.done hx4 HIX.out ho4)
        have HR84 := Shut.mk (show w4.rangeAt wr.heap.size 0 [.int .i64 pi, .int .u32 pf, .int .i64 pt, .int .i64 pa, .slice none 0 0, .int .i64 ((sq : Nat) : Int), .int .i64 ((sn : Nat) : Int), .int .i64 tl] from ho4.range HR83.out (fun e => by have h1 := HP.out.lo.1; have h2 := HP.out.only.size; omega))
        clear hx4 ho4 HDN HIX
        go_wp2_with (refine wpList_load_mid rfl 40 (.tmp 35) rfl wr.heap.size 0 rfl [.int .i64 pi, .int .u32 pf, .int .i64 pt, .int .i64 pa, .slice none 0 0, .int .i64 ((sq : Nat) : Int), .int .i64 ((sn : Nat) : Int), .int .i64 tl] _ HR84.out Tryd.underlying40 rfl sizeM ?_)
        refine (copied_any pi pf pt pa tl sq sn w4).mono ?_
        rintro e w5 ⟨rfl, hb5⟩
        have HP5 := Shut.mk (HP4.out.quiet hb5)
        clear hb5
        have HA5 := Shut.mk ((Below.refl w5.heap.size w5).alloc (Nat.le_refl _) (Obj.cells #[.int .i64 pi, .int .u32 pf, .int .i64 pt, .int .i64 pa, .slice none 0 0, .int .i64 ((sq : Nat) : Int), .int .i64 ((sn : Nat) : Int), .int .i64 tl] 40 (0, 0)))
        have HX5 := Shut.mk (block_range (MapKept.heap_alloc w5 (Obj.cells #[.int .i64 pi, .int .u32 pf, .int .i64 pt, .int .i64 pa, .slice none 0 0, .int .i64 ((sq : Nat) : Int), .int .i64 ((sn : Nat) : Int), .int .i64 tl] 40 (0, 0))).1)
        have HPA := Shut.mk (HP5.out.quiet HA5.out)
        go_wp2_with (first
          | (refine app_m2 rfl (.tmp 34) (.tmp 38) rfl w.heap.size u6 (toldM (ackP a M) (l.take k)) rfl HPA.out.td ⟨⟨pi, pf, pt, pa, pb⟩, sq, sn, tl⟩ ⟨w5.heap.size, 0, none⟩ 1 rfl (fun j q hq => by rw [Addr.add_mid]; exact HX5.out j q hq) HTL.out HPA.out.only.size ?_
             intro v6 w6 HO6 HB6 HN6))
        have HP6 := Shut.mk (HPA.out.told HO6.out HB6.out HN6.out)
        go_roundw
        case rel => exact ⟨k + 1, _, _, by omega, by go_num, by rw [HS.out, HLE.out]; exact HP6.out, HZ2.out, HA2.out⟩
        case measure => simp [intOf]; omega
      | false =>
        have HS := Shut.mk (HN.out hP)
        have HLE := Shut.mk (HLM.out hP)
        rw [HPE.out, hP]
        skip
        clear hP HY HN HLM HLS2
        have HA5 := Shut.mk ((Below.refl w2.heap.size w2).alloc (Nat.le_refl _) (Obj.cells #[.int .i64 pi, .int .u32 pf, .int .i64 pt, .int .i64 pa, .slice none 0 0, .int .i64 ((sq : Nat) : Int), .int .i64 ((sn : Nat) : Int), .int .i64 tl, .bool fb] 85 (0, 0)))
        have HX5 := Shut.mk (block_range (MapKept.heap_alloc w2 (Obj.cells #[.int .i64 pi, .int .u32 pf, .int .i64 pt, .int .i64 pa, .slice none 0 0, .int .i64 ((sq : Nat) : Int), .int .i64 ((sn : Nat) : Int), .int .i64 tl, .bool fb] 85 (0, 0))).1)
        have HPA := Shut.mk (HP2.out.quiet HA5.out)
        go_wp2_with (first
          | (refine wpList_load_row rfl 85 (.tmp 8) rfl wr.heap.size rfl 85 #[.int .i64 pi, .int .u32 pf, .int .i64 pt, .int .i64 pa, .slice none 0 0, .int .i64 ((sq : Nat) : Int), .int .i64 ((sn : Nat) : Int), .int .i64 tl, .bool fb] (0, 0) _ HY2.out Tryd.underlying85 rfl sizeF ?_)
          | (refine app_f2 rfl (.tmp 22) (.tmp 24) rfl w.heap.size u5 ((l.take k).filter fun f => !(ackP a M) f) rfl HPA.out.lf (⟨⟨pi, pf, pt, pa, pb⟩, sq, sn, tl⟩, fb) ⟨w2.heap.size, 0, none⟩ 1 rfl (fun j q hq => by rw [Addr.add_mid]; exact HX5.out j q hq) HLL.out HPA.out.only.size ?_
             intro v6 w6 HO6 HB6 HN6))
        have HP6 := Shut.mk (HPA.out.left HO6.out HB6.out HN6.out)
        have HCL := Shut.mk (show (l.take k).filter (fun f => !(ackP a M) f) ++ l.drop k = ((l.take k).filter (fun f => !(ackP a M) f) ++ [((⟨⟨pi, pf, pt, pa, pb⟩, sq, sn, tl⟩, fb) : Fm)]) ++ l.drop (k + 1) by rw [HDR.out, List.append_assoc]; rfl)
        rw [HCL.out] at HP6
        go_roundw
        case rel => exact ⟨k + 1, _, _, by omega, by go_num, by rw [HS.out, HLE.out]; exact HP6.out, HSZ.out, HAH.out⟩
        case measure => simp [intOf]; omega
    · have hk' : k = n := by omega
      subst hk'
      have HTK := Shut.mk (show l.take k = l from List.take_of_length_le (by rw [HL.out]; omega))
      have HDK := Shut.mk (show l.drop k = [] from List.drop_eq_nil_of_le (by rw [HL.out]; omega))
      rw [HTK.out, HDK.out, List.append_nil] at HP
      have HBK := Shut.mk (show wr.heap[p.g]? = some (.cells #[.int .i64 ((s.size : Nat) : Int), .int .i64 ((s.retry : Nat) : Int), .int .i64 s.life, .int .i64 ((s.state : Nat) : Int), .int .i64 s.token, .pointer (some ⟨p.gw, 0, none⟩), p.v, .bool s.ask, .int .i64 ((s.fr : Nat) : Int), .int .i64 ((s.vain : Nat) : Int)] 80 (0, 0)) from HP.out.only.at_ HSE.out.blk (fun e => HSE.out.ne (by simpa using e)))
      obtain ⟨A2, c2, hu5, -⟩ := owns_form HP.out.lf.1
      subst hu5
      obtain ⟨m, hm⟩ : ∃ m, m = (l.filter fun f => !(ackP a M) f).length := ⟨_, rfl⟩
      rw [← hm] at HP ⊢
      have HM := Shut.mk hm
      clear hm
      have HSR := Shut.mk (setRow_heap wr p.g _ #[.int .i64 ((s.size : Nat) : Int), .int .i64 ((s.retry : Nat) : Int), .int .i64 s.life, .int .i64 ((s.state : Nat) : Int), .int .i64 s.token, .pointer (some ⟨p.gw, 0, none⟩), .slice A2 m c2, .bool s.ask, .int .i64 ((s.fr : Nat) : Int), .int .i64 ((s.vain : Nat) : Int)] _ (0, 0) HBK.out)
      have HO7 := Shut.mk (only_setRow wr p.g #[.int .i64 ((s.size : Nat) : Int), .int .i64 ((s.retry : Nat) : Int), .int .i64 s.life, .int .i64 ((s.state : Nat) : Int), .int .i64 s.token, .pointer (some ⟨p.gw, 0, none⟩), .slice A2 m c2, .bool s.ask, .int .i64 ((s.fr : Nat) : Int), .int .i64 ((s.vain : Nat) : Int)])
      obtain ⟨w7, hw7⟩ : ∃ w7, w7 = wr.setRow p.g #[.int .i64 ((s.size : Nat) : Int), .int .i64 ((s.retry : Nat) : Int), .int .i64 s.life, .int .i64 ((s.state : Nat) : Int), .int .i64 s.token, .pointer (some ⟨p.gw, 0, none⟩), .slice A2 m c2, .bool s.ask, .int .i64 ((s.fr : Nat) : Int), .int .i64 ((s.vain : Nat) : Int)] := ⟨_, rfl⟩
      rw [← hw7] at HSR HO7
      have HW7 := Shut.mk hw7.symm
      clear hw7
      go_wp2_with (first
        | (refine wpList_store_into rfl 76 (.tmp 44) (.tmp 42) rfl p.g 6 (.slice A2 m c2) rfl rfl rfl 80 _ #[.int .i64 ((s.size : Nat) : Int), .int .i64 ((s.retry : Nat) : Int), .int .i64 s.life, .int .i64 ((s.state : Nat) : Int), .int .i64 s.token, .pointer (some ⟨p.gw, 0, none⟩), .slice A2 m c2, .bool s.ask, .int .i64 ((s.fr : Nat) : Int), .int .i64 ((s.vain : Nat) : Int)] HBK.out sizeFs (by show 6 < 10; omega) rfl ?_
           rw [HW7.out]))
      go_ret
      have hg := HFT.out p.g (.inl rfl)
      have hlf := HP.out.lf
      refine ⟨_, .slice A2 m c2, uv, x, rfl, ?_, ⟨?_, ?_, ?_, HSE.out.ne, ?_, HSE.out.lo⟩, ?_, HSZ.out, HAH.out, ?_, ?_, ?_, ?_, HP.out.uo⟩
      · rw [← HLS.out]
        exact own_only HP.out.td HO7.out fun g hg2 e => by subst e; have := (HP.out.td.lt _ hg2).1; omega
      · have h1 := HSR.out
        exact h1
      · exact HP.out.win.only HO7.out (fun e => HSE.out.ne e.symm)
      · show OwnS frC 9 w7 B _ (.slice A2 m c2) (s.l.filter fun f => !(ackP a M) f).length (s.l.filter fun f => !(ackP a M) f)
        rw [← HLS.out]
        have h1 := own_only hlf HO7.out (fun g hg2 e => by subst e; have := (HP.out.lf.lt _ hg2).1; omega)
        exact ⟨owns_base h1.1 (by have := HSE.out.lo.1; omega), h1.2⟩
      · intro j hj
        have h1 := (HP.out.lf.lt j hj).1
        have h2 := HP.out.lo.1
        refine ⟨fun e => ?_, fun e => ?_⟩
        · have e2 : j = p.g := e
          omega
        · have e2 : j = p.gw := e
          omega
      · rw [← HLS.out]; exact HP.out.inv
      · exact (HP.out.only.mono (T := fun j => j = p.g ∨ j = p.gw ∨ none = some j) fun i _ e => .inr e).trans HO7.out fun i _ e => .inl e
      · intro j hj
        exact ⟨(HP.out.lf.lt j hj).1, (HP.out.a1 j hj).1, (HP.out.a1 j hj).2⟩
      · intro c hc
        exact HO7.out.at_ (HP.out.why c hc) (by cases hc)
      · exact HP.out.row.only HO7.out fun g hg2 e => by subst e; have := HP.out.uo _ hg2; omega

set_option maxRecDepth 100000 in
set_option maxHeartbeats 8000000 in
theorem partS_any (h : IsSe B w p s) (hi : InvB s) (hT : Tab64 w) (hgt : 5 < B) (c1 c2 c3 : Nat) (now : Int) (h1 : w.cell? ⟨c1, 0, none⟩ = some (.pointer (some ⟨p.g, 0, none⟩))) (h2 : w.cell? ⟨c2, 0, none⟩ = some (.int .i64 now)) (h3 : w.heap[c3]? = some (.cells #[.slice none 0 0] 47 (0, 0))) (hcn : c1 ≠ p.gw ∧ c2 ≠ p.gw ∧ c1 ≠ c3 ∧ c2 ≠ c3 ∧ p.g ≠ c3) (hcw : c3 ≠ p.gw ∧ c3 ≠ 5 ∧ ¬ p.v.ownBlock = some c3) :
    Calls Tryd.prog 38 #[.pointer (some ⟨p.g, 0, none⟩), .func (.func 39) #[] #[.pointer (some ⟨c1, 0, none⟩), .pointer (some ⟨c2, 0, none⟩), .pointer (some ⟨c3, 0, none⟩)]] w fun e w' => PartOut B w p s (goneP s.retry now) (some c3) (whyL s.retry now s.l) e w' := by
  obtain ⟨A, cp, hv, hrow, -⟩ := h.out hi
  obtain ⟨-, -, -, -, -, -, c6, -⟩ := h.cells
  have HSE := Shut.mk h
  have HINV := Shut.mk hi.inv
  have HT := Shut.mk hT
  have HFT := Shut.mk h.foot
  have HGT := Shut.mk (show p.gw ≠ 5 by have := h.lo.2; omega)
  have HAP := Shut.mk (show ∀ a, A = some a → p.v.ownBlock = some a.block by
    intro a ha
    have h1 := h.row.1.2
    rcases h1 with ⟨e, -⟩ | ⟨g, cap, cur, e, -⟩
    · rw [hv, ha] at e; cases e
    · rw [hv, ha] at e; rw [hv, ha]; cases e; rfl)
  rw [hv] at c6
  have HR := Shut.mk hrow
  have HLN := Shut.mk hi.len
  obtain ⟨l, hl⟩ : ∃ l, l = s.l := ⟨_, rfl⟩
  have HLS := Shut.mk hl
  rw [← hl] at c6 HR HLN HINV
  clear h hi hv hrow hl hT hgt
  obtain ⟨n, hn⟩ : ∃ n, n = l.length := ⟨_, rfl⟩
  rw [← hn] at c6 HR HLN
  have HL := Shut.mk hn.symm
  have hle := HLN.out
  clear hn
  have H1 := Shut.mk h1
  have H2 := Shut.mk h2
  have H3 := Shut.mk h3
  have HCN := Shut.mk hcn
  have HCW := Shut.mk hcw
  clear h1 h2 h3 hcn hcw
  go_enter Tryd.func38, Tryd.ntmps38
  go_wp2_with (fail)
  go_loopw [5, 6, 14] (fun lv tv i wr => ∃ (k : Nat) (x : Wo) (uv : Value), k ≤ n ∧ i = .int .i64 k ∧ PartR w p (some c3) wr lv tv uv ((l.take k).filter fun f => !(goneP s.retry now) f) (toldM (goneP s.retry now) (l.take k)) x ((l.take k).filter (fun f => !(goneP s.retry now) f) ++ l.drop k) (whyL s.retry now (l.take k)) ∧ x.sz = s.x.sz ∧ nmW x x.gv = nmW s.x s.x.gv) (fun _ _ i _ => n - (intOf i).toNat)
  case atStart =>
    refine ⟨0, s.x, .slice none 0 0, by omega, rfl, ⟨OwnS.nil _ _ _, OwnS.nil _ _ _, HSE.out.win, HINV.out, Only.refl _ _, (fun c hc => by cases hc; exact H3.out), RowN.nil _, (fun g hg => by cases hg), (fun g hg => by cases hg), (fun g hg => by cases hg), ⟨(HFT.out _ (.inr (.inl rfl))).2, (fun c hc => by cases hc; exact ⟨lt_blk H3.out, HCW.out.1⟩)⟩⟩, rfl, rfl⟩
  case round =>
    obtain ⟨k, x, uv, hk, rfl, hp, hsz, hah⟩ := hrel
    have HP := Shut.mk hp
    have HSZ := Shut.mk hsz
    have HAH := Shut.mk hah
    clear hp hsz hah
    by_cases hlt : k < n
    · have HKL := Shut.mk (show k < l.length by rw [HL.out]; exact hlt)
      obtain ⟨b, off, rfl, hrg⟩ := (RowS.only HR.out HP.out.only (fun a ha => fun e => by have h1 := HSE.out.ng _ (HAP.out a ha); rcases e with e | e; exact h1.2 e; exact HCW.out.2.2 (by rw [Option.some.inj e]; exact HAP.out a ha))).el k hlt
      have hi : (k : Int) < (n : Int) := by omega
      have HY := Shut.mk (told_yes (P := (goneP s.retry now)) HKL.out)
      have HN := Shut.mk (told_no (P := (goneP s.retry now)) HKL.out)
      have HLM := Shut.mk (left_more (P := (goneP s.retry now)) HKL.out)
      have HLS2 := Shut.mk (left_same (P := (goneP s.retry now)) HKL.out)
      have HDR := Shut.mk (drop_fm HKL.out)
      have HSQ := Shut.mk (HINV.out.lt (mem_fm HKL.out))
      have HWY := Shut.mk (whyL_yes (retry := s.retry) (now := now) HKL.out)
      have HWN := Shut.mk (whyL_no (retry := s.retry) (now := now) HKL.out)
      have HWL := Shut.mk (show (whyL s.retry now (l.take k)).length ≤ 1000000 by have h1 := @whyL_len s.retry now (l.take k); rw [List.length_take] at h1; omega)
      have HTL := Shut.mk (show (toldM (goneP s.retry now) (l.take k)).length ≤ 1000000 by have h1 := @told_len (goneP s.retry now) (l.take k); rw [List.length_take] at h1; omega)
      have HLL := Shut.mk (show ((l.take k).filter fun f => !(goneP s.retry now) f).length ≤ 1000000 by have h1 := List.length_filter_le (fun f => !(goneP s.retry now) f) (l.take k); rw [List.length_take] at h1; omega)
      generalize l.getD k fm0 = f at *
      obtain ⟨⟨⟨pi, pf, pt, pa, pb⟩, sq, sn, tl⟩, fb⟩ := f
      have hrg' : wr.rangeAt b (off + k * 9) [.int .i64 pi, .int .u32 pf, .int .i64 pt, .int .i64 pa, .slice none 0 0, .int .i64 ((sq : Nat) : Int), .int .i64 ((sn : Nat) : Int), .int .i64 tl, .bool fb] := hrg
      have HRG := Shut.mk hrg'
      clear hrg hrg'
      have HBa := Shut.mk ((Below.refl wr.heap.size wr).alloc (Nat.le_refl _) (Obj.cells #[.int .i64 pi, .int .u32 pf, .int .i64 pt, .int .i64 pa, .slice none 0 0, .int .i64 ((sq : Nat) : Int), .int .i64 ((sn : Nat) : Int), .int .i64 tl, .bool fb] 85 (0, 0)))
      have HYa := Shut.mk (MapKept.heap_alloc wr (Obj.cells #[.int .i64 pi, .int .u32 pf, .int .i64 pt, .int .i64 pa, .slice none 0 0, .int .i64 ((sq : Nat) : Int), .int .i64 ((sn : Nat) : Int), .int .i64 tl, .bool fb] 85 (0, 0))).1
      have HSA := Shut.mk (show wr.heap.size < (wr.alloc (Obj.cells #[.int .i64 pi, .int .u32 pf, .int .i64 pt, .int .i64 pa, .slice none 0 0, .int .i64 ((sq : Nat) : Int), .int .i64 ((sn : Nat) : Int), .int .i64 tl, .bool fb] 85 (0, 0))).heap.size by simp)
      have HPa := Shut.mk (HP.out.quiet HBa.out)
      go_wp2_with (first
        | (refine wpList_load_mid rfl 85 (.tmp 16) rfl b (off + k * 9) rfl [.int .i64 pi, .int .u32 pf, .int .i64 pt, .int .i64 pa, .slice none 0 0, .int .i64 ((sq : Nat) : Int), .int .i64 ((sn : Nat) : Int), .int .i64 tl, .bool fb] _ HRG.out Tryd.underlying85 rfl sizeF ?_)
        | (refine wpList_load_row rfl 85 (.tmp 8) rfl wr.heap.size rfl 85 #[.int .i64 pi, .int .u32 pf, .int .i64 pt, .int .i64 pa, .slice none 0 0, .int .i64 ((sq : Nat) : Int), .int .i64 ((sn : Nat) : Int), .int .i64 tl, .bool fb] (0, 0) _ HYa.out Tryd.underlying85 rfl sizeF ?_))
      generalize World.alloc wr _ = w1 at *
      refine (sweep1_any c1 c2 c3 p.g s.retry now uv (whyL s.retry now (l.take k)) pi pf pt pa tl sq sn fb w1 (HPa.out.only.cell H1.out (fun e => by rcases e with e | e; exact HCN.out.1 e; exact HCN.out.2.2.1 (Option.some.inj e).symm)) (HPa.out.only.cell H2.out (fun e => by rcases e with e | e; exact HCN.out.2.1 e; exact HCN.out.2.2.2.1 (Option.some.inj e).symm)) (HPa.out.why c3 rfl) (HPa.out.only.cell HSE.out.cells.2.1 (fun e => by rcases e with e | e; exact HSE.out.ne e; exact HCN.out.2.2.2.2 (Option.some.inj e).symm)) HPa.out.row HWL.out (fun j hj e => by have h1 := HPa.out.uo j hj; have h2 := (HPa.out.lo.2 c3 rfl).1; omega)).mono ?_
      rintro e w2 ⟨rfl, uv2, hk3, hr2, ho2, hf2⟩
      have HP2 := Shut.mk (HPa.out.whyr (fun c hc => by cases hc; exact hk3) hr2 (ho2.mono fun i _ e => by rcases e with e | e; exact .inl (congrArg some e); exact .inr e) hf2)
      have HY2 := Shut.mk (ho2.at_ HYa.out (fun e => by
        rcases e with e | e
        · have h2 := (HP.out.lo.2 c3 rfl).1; have h3 := HP.out.only.size; omega
        · have h2 := HP.out.row.lt _ e; omega))
      clear hk3 hr2 ho2 hf2
      have HWS := Shut.mk (show w.heap.size ≤ w2.heap.size from HP2.out.only.size)
      have HR8 := Shut.mk (range_pre (a := [.int .i64 pi, .int .u32 pf, .int .i64 pt, .int .i64 pa, .slice none 0 0, .int .i64 ((sq : Nat) : Int), .int .i64 ((sn : Nat) : Int), .int .i64 tl]) (b := [.bool fb]) (show w2.rangeAt wr.heap.size 0 ([.int .i64 pi, .int .u32 pf, .int .i64 pt, .int .i64 pa, .slice none 0 0, .int .i64 ((sq : Nat) : Int), .int .i64 ((sn : Nat) : Int), .int .i64 tl] ++ [.bool fb]) from block_range HY2.out))
      have HPE := Shut.mk (show (goneP s.retry now) (⟨⟨pi, pf, pt, pa, []⟩, sq, sn, tl⟩, fb) = (goneP s.retry now) (⟨⟨pi, pf, pt, pa, pb⟩, sq, sn, tl⟩, fb) from rfl)
      cases hP : (goneP s.retry now) (⟨⟨pi, pf, pt, pa, pb⟩, sq, sn, tl⟩, fb) with
      | true =>
        have HS := Shut.mk (HY.out hP)
        have HLE := Shut.mk (HLS2.out hP)
        rw [HPE.out, hP]
        have hz : ¬ whyF s.retry now (⟨⟨pi, pf, pt, pa, []⟩, sq, sn, tl⟩, fb) = 0 := of_decide_eq_true hP
        have HYY := Shut.mk (HWY.out hz)
        rw [if_neg hz] at HP2
        clear hz
        clear hP HY HN HLM HLS2
        have c5 : w2.cell? ⟨p.g, 5, none⟩ = some (.pointer (some ⟨p.gw, 0, none⟩)) := HP2.out.only.cell HSE.out.cells.2.2.2.2.2.1 (fun e => by rcases e with e | e; exact HSE.out.ne e; exact HCN.out.2.2.2.2 (Option.some.inj e).symm)
        have d5 : w2.cell? ⟨wr.heap.size, 5, none⟩ = some (.int .i64 ((sq : Nat) : Int)) := by have h9 := block_range HY2.out 5 _ rfl; rw [Nat.zero_add] at h9; exact h9
        go_wp2_with (fail)
        go_still_tail 7, (by kernel_rfl)
        change wpList _ _ _ _ _ (World.drewN w2 1)
        generalize hq : World.drewN w2 1 = w3
        have HB3 := Shut.mk (show Below w2.heap.size w2 w3 by rw [← hq]; exact below_drewN (Below.refl _ _) _)
        clear hq c5 d5
        have HP3 := Shut.mk (HP2.out.quiet HB3.out)
        have HR83 := Shut.mk (range_below (B := w2.heap.size) HR8.out HB3.out)
        have hiv := HP3.out.inv
        rw [HDR.out] at hiv
        obtain ⟨d, hd, hde, hix, hsz2, hah2⟩ := hiv.done (f := (⟨⟨pi, pf, pt, pa, pb⟩, sq, sn, tl⟩, fb)) (List.mem_append_right _ List.mem_cons_self)
        rw [mid_gone hiv.nodup] at hix
        have hdn := done_ok p.gw x d w3 HP3.out.win hiv.inv hd (HT.out.only HP3.out.only (fun e => by rcases e with e | e; exact HGT.out e.symm; exact HCW.out.2.1 (Option.some.inj e))) HGT.out
        rw [hde] at hdn
        have HDN := Shut.mk hdn
        have HIX := Shut.mk hix
        have HZ2 := Shut.mk (hsz2.trans HSZ.out)
        have HA2 := Shut.mk (hah2.trans HAH.out)
        clear hiv hd hde hix hsz2 hah2 hdn
        go_wp2_with (fail)
        refine HDN.out.mono ?_
        rintro e w4 ⟨rfl, hx4, ho4⟩
        have HP4 := Shut.mk (HP3.out.done hx4 HIX.out ho4)
        have HR84 := Shut.mk (show w4.rangeAt wr.heap.size 0 [.int .i64 pi, .int .u32 pf, .int .i64 pt, .int .i64 pa, .slice none 0 0, .int .i64 ((sq : Nat) : Int), .int .i64 ((sn : Nat) : Int), .int .i64 tl] from ho4.range HR83.out (fun e => by have h1 := HP.out.lo.1; have h2 := HP.out.only.size; omega))
        clear hx4 ho4 HDN HIX
        go_wp2_with (refine wpList_load_mid rfl 40 (.tmp 35) rfl wr.heap.size 0 rfl [.int .i64 pi, .int .u32 pf, .int .i64 pt, .int .i64 pa, .slice none 0 0, .int .i64 ((sq : Nat) : Int), .int .i64 ((sn : Nat) : Int), .int .i64 tl] _ HR84.out Tryd.underlying40 rfl sizeM ?_)
        refine (copied_any pi pf pt pa tl sq sn w4).mono ?_
        rintro e w5 ⟨rfl, hb5⟩
        have HP5 := Shut.mk (HP4.out.quiet hb5)
        clear hb5
        have HA5 := Shut.mk ((Below.refl w5.heap.size w5).alloc (Nat.le_refl _) (Obj.cells #[.int .i64 pi, .int .u32 pf, .int .i64 pt, .int .i64 pa, .slice none 0 0, .int .i64 ((sq : Nat) : Int), .int .i64 ((sn : Nat) : Int), .int .i64 tl] 40 (0, 0)))
        have HX5 := Shut.mk (block_range (MapKept.heap_alloc w5 (Obj.cells #[.int .i64 pi, .int .u32 pf, .int .i64 pt, .int .i64 pa, .slice none 0 0, .int .i64 ((sq : Nat) : Int), .int .i64 ((sn : Nat) : Int), .int .i64 tl] 40 (0, 0))).1)
        have HPA := Shut.mk (HP5.out.quiet HA5.out)
        go_wp2_with (first
          | (refine app_m2 rfl (.tmp 34) (.tmp 38) rfl w.heap.size u6 (toldM (goneP s.retry now) (l.take k)) rfl HPA.out.td ⟨⟨pi, pf, pt, pa, pb⟩, sq, sn, tl⟩ ⟨w5.heap.size, 0, none⟩ 1 rfl (fun j q hq => by rw [Addr.add_mid]; exact HX5.out j q hq) HTL.out HPA.out.only.size ?_
             intro v6 w6 HO6 HB6 HN6))
        have HP6 := Shut.mk (HPA.out.told HO6.out HB6.out HN6.out)
        go_roundw
        case rel => exact ⟨k + 1, _, _, by omega, by go_num, by rw [HS.out, HLE.out, HYY.out]; exact HP6.out, HZ2.out, HA2.out⟩
        case measure => simp [intOf]; omega
      | false =>
        have HS := Shut.mk (HN.out hP)
        have HLE := Shut.mk (HLM.out hP)
        rw [HPE.out, hP]
        have hz : whyF s.retry now (⟨⟨pi, pf, pt, pa, []⟩, sq, sn, tl⟩, fb) = 0 := Decidable.of_not_not (of_decide_eq_false hP)
        have HYY := Shut.mk (HWN.out hz)
        rw [if_pos hz, List.append_nil] at HP2
        clear hz
        clear hP HY HN HLM HLS2
        have HA5 := Shut.mk ((Below.refl w2.heap.size w2).alloc (Nat.le_refl _) (Obj.cells #[.int .i64 pi, .int .u32 pf, .int .i64 pt, .int .i64 pa, .slice none 0 0, .int .i64 ((sq : Nat) : Int), .int .i64 ((sn : Nat) : Int), .int .i64 tl, .bool fb] 85 (0, 0)))
        have HX5 := Shut.mk (block_range (MapKept.heap_alloc w2 (Obj.cells #[.int .i64 pi, .int .u32 pf, .int .i64 pt, .int .i64 pa, .slice none 0 0, .int .i64 ((sq : Nat) : Int), .int .i64 ((sn : Nat) : Int), .int .i64 tl, .bool fb] 85 (0, 0))).1)
        have HPA := Shut.mk (HP2.out.quiet HA5.out)
        go_wp2_with (first
          | (refine wpList_load_row rfl 85 (.tmp 8) rfl wr.heap.size rfl 85 #[.int .i64 pi, .int .u32 pf, .int .i64 pt, .int .i64 pa, .slice none 0 0, .int .i64 ((sq : Nat) : Int), .int .i64 ((sn : Nat) : Int), .int .i64 tl, .bool fb] (0, 0) _ HY2.out Tryd.underlying85 rfl sizeF ?_)
          | (refine app_f2 rfl (.tmp 22) (.tmp 24) rfl w.heap.size u5 ((l.take k).filter fun f => !(goneP s.retry now) f) rfl HPA.out.lf (⟨⟨pi, pf, pt, pa, pb⟩, sq, sn, tl⟩, fb) ⟨w2.heap.size, 0, none⟩ 1 rfl (fun j q hq => by rw [Addr.add_mid]; exact HX5.out j q hq) HLL.out HPA.out.only.size ?_
             intro v6 w6 HO6 HB6 HN6))
        have HP6 := Shut.mk (HPA.out.left HO6.out HB6.out HN6.out)
        have HCL := Shut.mk (show (l.take k).filter (fun f => !(goneP s.retry now) f) ++ l.drop k = ((l.take k).filter (fun f => !(goneP s.retry now) f) ++ [((⟨⟨pi, pf, pt, pa, pb⟩, sq, sn, tl⟩, fb) : Fm)]) ++ l.drop (k + 1) by rw [HDR.out, List.append_assoc]; rfl)
        rw [HCL.out] at HP6
        go_roundw
        case rel => exact ⟨k + 1, _, _, by omega, by go_num, by rw [HS.out, HLE.out, HYY.out]; exact HP6.out, HSZ.out, HAH.out⟩
        case measure => simp [intOf]; omega
    · have hk' : k = n := by omega
      subst hk'
      have HTK := Shut.mk (show l.take k = l from List.take_of_length_le (by rw [HL.out]; omega))
      have HDK := Shut.mk (show l.drop k = [] from List.drop_eq_nil_of_le (by rw [HL.out]; omega))
      rw [HTK.out, HDK.out, List.append_nil] at HP
      have HBK := Shut.mk (show wr.heap[p.g]? = some (.cells #[.int .i64 ((s.size : Nat) : Int), .int .i64 ((s.retry : Nat) : Int), .int .i64 s.life, .int .i64 ((s.state : Nat) : Int), .int .i64 s.token, .pointer (some ⟨p.gw, 0, none⟩), p.v, .bool s.ask, .int .i64 ((s.fr : Nat) : Int), .int .i64 ((s.vain : Nat) : Int)] 80 (0, 0)) from HP.out.only.at_ HSE.out.blk (fun e => by rcases e with e | e; exact HSE.out.ne e; exact HCN.out.2.2.2.2 (Option.some.inj e).symm))
      obtain ⟨A2, c2, hu5, -⟩ := owns_form HP.out.lf.1
      subst hu5
      obtain ⟨m, hm⟩ : ∃ m, m = (l.filter fun f => !(goneP s.retry now) f).length := ⟨_, rfl⟩
      rw [← hm] at HP ⊢
      have HM := Shut.mk hm
      clear hm
      have HSR := Shut.mk (setRow_heap wr p.g _ #[.int .i64 ((s.size : Nat) : Int), .int .i64 ((s.retry : Nat) : Int), .int .i64 s.life, .int .i64 ((s.state : Nat) : Int), .int .i64 s.token, .pointer (some ⟨p.gw, 0, none⟩), .slice A2 m c2, .bool s.ask, .int .i64 ((s.fr : Nat) : Int), .int .i64 ((s.vain : Nat) : Int)] _ (0, 0) HBK.out)
      have HO7 := Shut.mk (only_setRow wr p.g #[.int .i64 ((s.size : Nat) : Int), .int .i64 ((s.retry : Nat) : Int), .int .i64 s.life, .int .i64 ((s.state : Nat) : Int), .int .i64 s.token, .pointer (some ⟨p.gw, 0, none⟩), .slice A2 m c2, .bool s.ask, .int .i64 ((s.fr : Nat) : Int), .int .i64 ((s.vain : Nat) : Int)])
      obtain ⟨w7, hw7⟩ : ∃ w7, w7 = wr.setRow p.g #[.int .i64 ((s.size : Nat) : Int), .int .i64 ((s.retry : Nat) : Int), .int .i64 s.life, .int .i64 ((s.state : Nat) : Int), .int .i64 s.token, .pointer (some ⟨p.gw, 0, none⟩), .slice A2 m c2, .bool s.ask, .int .i64 ((s.fr : Nat) : Int), .int .i64 ((s.vain : Nat) : Int)] := ⟨_, rfl⟩
      rw [← hw7] at HSR HO7
      have HW7 := Shut.mk hw7.symm
      clear hw7
      go_wp2_with (first
        | (refine wpList_store_into rfl 76 (.tmp 44) (.tmp 42) rfl p.g 6 (.slice A2 m c2) rfl rfl rfl 80 _ #[.int .i64 ((s.size : Nat) : Int), .int .i64 ((s.retry : Nat) : Int), .int .i64 s.life, .int .i64 ((s.state : Nat) : Int), .int .i64 s.token, .pointer (some ⟨p.gw, 0, none⟩), .slice A2 m c2, .bool s.ask, .int .i64 ((s.fr : Nat) : Int), .int .i64 ((s.vain : Nat) : Int)] HBK.out sizeFs (by show 6 < 10; omega) rfl ?_
           rw [HW7.out]))
      go_ret
      have hg := HFT.out p.g (.inl rfl)
      have hlf := HP.out.lf
      refine ⟨_, .slice A2 m c2, uv, x, rfl, ?_, ⟨?_, ?_, ?_, HSE.out.ne, ?_, HSE.out.lo⟩, ?_, HSZ.out, HAH.out, ?_, ?_, ?_, ?_, HP.out.uo⟩
      · rw [← HLS.out]
        exact own_only HP.out.td HO7.out fun g hg2 e => by subst e; have := (HP.out.td.lt _ hg2).1; omega
      · have h1 := HSR.out
        exact h1
      · exact HP.out.win.only HO7.out (fun e => HSE.out.ne e.symm)
      · show OwnS frC 9 w7 B _ (.slice A2 m c2) (s.l.filter fun f => !(goneP s.retry now) f).length (s.l.filter fun f => !(goneP s.retry now) f)
        rw [← HLS.out]
        have h1 := own_only hlf HO7.out (fun g hg2 e => by subst e; have := (HP.out.lf.lt _ hg2).1; omega)
        exact ⟨owns_base h1.1 (by have := HSE.out.lo.1; omega), h1.2⟩
      · intro j hj
        have h1 := (HP.out.lf.lt j hj).1
        have h2 := HP.out.lo.1
        refine ⟨fun e => ?_, fun e => ?_⟩
        · have e2 : j = p.g := e
          omega
        · have e2 : j = p.gw := e
          omega
      · rw [← HLS.out]; exact HP.out.inv
      · exact (HP.out.only.mono (T := fun j => j = p.g ∨ j = p.gw ∨ (some c3) = some j) fun i _ e => .inr e).trans HO7.out fun i _ e => .inl e
      · intro j hj
        exact ⟨(HP.out.lf.lt j hj).1, (HP.out.a1 j hj).1, (HP.out.a1 j hj).2⟩
      · intro c hc
        exact HO7.out.at_ (HP.out.why c hc) (by cases hc; exact fun e => HCN.out.2.2.2.2 e.symm)
      · have h1 := HP.out.row.only HO7.out (fun g hg2 e => by subst e; have := HP.out.uo _ hg2; omega)
        rw [← HLS.out]
        exact h1

end
end Go.Proofs.YtlbfioknkagboaaDoor
