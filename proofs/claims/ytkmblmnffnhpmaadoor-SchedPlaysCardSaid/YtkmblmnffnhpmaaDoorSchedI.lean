/-
  CONTRACTS of package sched: New, Clone, Order.
-/
import Derived.Test.YtkmblmnffnhpmaaDoorSchedH
import Derived.Test.YtkmblmnffnhpmaaDoorSchedO
import Derived.Test.YtkmblmnffnhpmaaDoorPlainB
import Derived.StillTailTactics
import Derived.LoopTactic
namespace Go.Proofs.YtkmblmnffnhpmaaDoor
open Go.ChangeShapes Go.WideShapes Go.ChangeAt Go.RowKit Go.Deep
set_option linter.unusedVariables false
set_option linter.unusedSimpArgs false

theorem wpList_yields {ops : Array Oper} {rest : List Oper} {o : Oper} {a : Act} {w : World} {Q : Exit → Act → World → Prop} (hgd : o.guard = none) (op : Op) (ho : o.op = op) (v : Value) (hv : ∀ w, (execOp a.eval o).run Tryd.prog w = .ok (.value v) w)
    (h : wpList Tryd.prog ops Q rest (a.put o.dst v) w) : wpList Tryd.prog ops Q (o :: rest) a w :=
  wpList_plain hgd fun K hK => by
    unfold Oper.wp
    rw [hv]
    exact hK _ _ h
/-! ### New -/
set_option maxRecDepth 100000 in
set_option maxHeartbeats 8000000 in
theorem new_tu (w : World) : Calls Tryd.prog 9 #[] w fun e w' => e = .returned (.pointer (some ⟨w.heap.size, 0, none⟩)) ∧ IsT 62 w' w.heap.size (fun _ => 0) (fun _ => 0) (.slice none 0 0) [] ∧ Below w.heap.size w w' := by
  have HB := Shut.mk ((Below.refl w.heap.size w).alloc (Nat.le_refl _) (Obj.cells #[.int .i64 0, .int .i64 0, .int .i64 0, .int .i64 0, .int .i64 0, .int .i64 0, .int .i64 0, .int .i64 0, .int .i64 0, .int .i64 0, .int .i64 0, .int .i64 0, .int .i64 0, .int .i64 0, .int .i64 0, .int .i64 0, .int .i64 0, .int .i64 0, .int .i64 0, .int .i64 0, .int .i64 0, .int .i64 0, .int .i64 0, .int .i64 0, .int .i64 0, .int .i64 0, .int .i64 0, .int .i64 0, .int .i64 0, .int .i64 0, .int .i64 0, .int .i64 0, .int .i64 0, .int .i64 0, .slice none 0 0] 62 (0, 0)))
  have HN := Shut.mk (MapKept.heap_alloc w (Obj.cells #[.int .i64 0, .int .i64 0, .int .i64 0, .int .i64 0, .int .i64 0, .int .i64 0, .int .i64 0, .int .i64 0, .int .i64 0, .int .i64 0, .int .i64 0, .int .i64 0, .int .i64 0, .int .i64 0, .int .i64 0, .int .i64 0, .int .i64 0, .int .i64 0, .int .i64 0, .int .i64 0, .int .i64 0, .int .i64 0, .int .i64 0, .int .i64 0, .int .i64 0, .int .i64 0, .int .i64 0, .int .i64 0, .int .i64 0, .int .i64 0, .int .i64 0, .int .i64 0, .int .i64 0, .int .i64 0, .slice none 0 0] 62 (0, 0))).1
  go_enter Tryd.func9, Tryd.ntmps9
  go_wp2_with (fail)
  go_ret
  exact ⟨rfl, ⟨HN.out, RowN.nil _, fun k hk => (by cases hk), fun a ha => (by cases ha), List.Pairwise.nil, fun k _ hk => absurd hk (by simp)⟩, HB.out⟩
/-! ### Clone -/
set_option maxRecDepth 100000 in
set_option maxHeartbeats 8000000 in
theorem clone_sc (g : Nat) (x y : Nat → Int) (v : Value) (l : List Int) (w : World) (h : IsT 62 w g x y v l) :
    Calls Tryd.prog 10 #[.pointer (some ⟨g, 0, none⟩)] w fun e w' => ∃ g' u, e = .returned (.pointer (some ⟨g', 0, none⟩)) ∧ IsT 62 w' g' x y u l ∧ (∀ k, FootT g' u k → w.heap.size ≤ k) ∧ Below w.heap.size w w' := by
  have HX := Shut.mk h
  clear h
  go_enter Tryd.func10, Tryd.ntmps10
  go_wp2_with (fail)
  refine (clone_tu 62 g x y v l w HX.out).mono ?_
  rintro e w1 ⟨u, rfl, hR, hF, hB⟩
  obtain ⟨A, c, rfl, -, -⟩ := hR.form
  have HB := Shut.mk (hB.alloc hB.size (Obj.cells (c35 x y (.slice A l.length c)) 62 (0, 0)))
  have HN := Shut.mk (MapKept.heap_alloc w1 (Obj.cells (c35 x y (.slice A l.length c)) 62 (0, 0))).1
  have HR := Shut.mk (hR.below ((Below.refl w1.heap.size w1).alloc (Nat.le_refl _) (Obj.cells (c35 x y (.slice A l.length c)) 62 (0, 0))))
  have HF := Shut.mk (show ∀ k, (Value.slice A l.length c).ownBlock = some k → w.heap.size ≤ k ∧ k ≠ w1.heap.size from fun k hk => ⟨Nat.le_of_lt (hF k hk), by have := hR.lt k hk; omega⟩)
  have HS := Shut.mk hB.size
  clear hR hF hB
  go_wp2_with (first
    | (refine wpList_yields rfl (.build 62 #[(0, .tmp 6)]) rfl (.agg (c35 x y (.slice A l.length c))) (fun w => by kernel_rfl) ?_))
  go_ret
  refine ⟨w1.heap.size, .slice A l.length c, rfl, ⟨HN.out, HR.out, fun k hk => (HF.out k hk).2, HX.out.aid, HX.out.nd, HX.out.heap⟩, fun k hk => ?_, HB.out⟩
  rcases hk with e | e
  · rw [e]; exact HS.out
  · exact (HF.out k e).1
/-! ### Order -/
def lenV : Value → Nat
  | .slice _ n _ => n
  | _ => 0
/-- what heap.Pop makes. -/
theorem popt_any (T : TypeId) (g : Nat) (x y : Nat → Int) (v : Value) (l : List Int) (w : World) (h : IsT T w g x y v l) (hl : 0 < l.length) :
    Calls Tryd.prog 31 #[.iface 66 (.pointer (some ⟨g, 0, none⟩))] w fun e w' => ∃ u, e = .returned u ∧ ∃ l', TuE T g x y v w w' l' ∧ (l' ++ [l.getD 0 0]).Perm l := by
  refine (pop_any (obj_tu T (fun k => FootT g v k ∨ w.heap.size ≤ k) g x y) l w (fun r w' => ∃ u, r = .returned u ∧ ∃ l', TuE T g x y v w w' l' ∧ (l' ++ [l.getD 0 0]).Perm l) h.tu hl h.heap ?_)
  intro w1 l1 h1 h2 h3 h4
  obtain ⟨f, e1, r, e2, hc⟩ := meth_pop T _ g x y w1 l1 _ h1
  refine ⟨f, e1, r, e2, hc.mono ?_⟩
  rintro r w2 ⟨rfl, h5, h6⟩
  exact ⟨⟨_, rfl⟩, _, rfl, l1, TuE.of (fun k hk => hk) h5 h3 (List.nodup_append.1 (h2.nodup_iff.2 h.nd)).1 (h4.trans h6 fun _ _ e => e), h2⟩
structure OrdI (y : Nat → Int) (l0 acc hl : List Int) : Prop where
  perm : (acc ++ hl).Perm l0
  sort : acc.Pairwise fun a b => ¬ ltA y b a
  low : ∀ a ∈ acc, ∀ b ∈ hl, ¬ ltA y b a
theorem OrdI.step {y : Nat → Int} {l0 acc hl hl' : List Int} (h : OrdI y l0 acc hl) (hh : HeapL (ltA y) 0 hl) (hl0 : 0 < hl.length) (hp : (hl' ++ [hl.getD 0 0]).Perm hl) : OrdI y l0 (acc ++ [hl.getD 0 0]) hl' := by
  have hm : hl.getD 0 0 ∈ hl := mem_getD hl0
  refine ⟨?_, ?_, fun a ha b hb => ?_⟩
  · rw [List.append_assoc]
    refine (List.Perm.append_left acc ?_).trans h.perm
    exact List.perm_append_comm.trans hp
  · rw [List.pairwise_append]
    exact ⟨h.sort, List.pairwise_singleton _ _, fun a ha b hb => by rw [List.mem_singleton.1 hb]; exact h.low a ha _ hm⟩
  · have hb2 : b ∈ hl := hp.mem_iff.1 (List.mem_append_left _ hb)
    rcases List.mem_append.1 ha with e | e
    · exact h.low a e b hb2
    · rw [List.mem_singleton.1 e]; exact heap_head (ltA_slo y) hh b hb2
set_option maxRecDepth 100000 in
set_option maxHeartbeats 8000000 in
theorem order_tu (g : Nat) (x y : Nat → Int) (v : Value) (l : List Int) (w : World) (h : IsT 62 w g x y v l) :
    Calls Tryd.prog 11 #[.pointer (some ⟨g, 0, none⟩)] w fun e w' => ∃ va acc, e = .returned va ∧ RowN w' va acc ∧ acc.Perm l ∧ (acc.Pairwise fun a b => ¬ ltA y b a) ∧ (∀ k, va.ownBlock = some k → w.heap.size ≤ k) ∧ Below w.heap.size w w' := by
  have HX := Shut.mk h
  have HFEW := Shut.mk h.few
  clear h
  go_enter Tryd.func11, Tryd.ntmps11
  go_wp2_with (fail)
  refine (clone_tu 62 g x y v l w HX.out).mono ?_
  rintro e w1 ⟨u, rfl, hR, hF, hB⟩
  obtain ⟨c, hc⟩ : ∃ c, c = c35 x y u := ⟨_, rfl⟩
  have HS := Shut.mk (show c.size = 35 by rw [hc]; rfl)
  have H1 := Shut.mk (show c.all (·.oneCell') = true by rw [hc, c35_row]; simp only [List.all_toArray]; exact List.all_eq_true.2 (one35 x y u hR.one))
  have HZ := Shut.mk (MapKept.heap_alloc w1 (Obj.cells #[.int .i64 0, .int .i64 0, .int .i64 0, .int .i64 0, .int .i64 0, .int .i64 0, .int .i64 0, .int .i64 0, .int .i64 0, .int .i64 0, .int .i64 0, .int .i64 0, .int .i64 0, .int .i64 0, .int .i64 0, .int .i64 0, .int .i64 0, .int .i64 0, .int .i64 0, .int .i64 0, .int .i64 0, .int .i64 0, .int .i64 0, .int .i64 0, .int .i64 0, .int .i64 0, .int .i64 0, .int .i64 0, .int .i64 0, .int .i64 0, .int .i64 0, .int .i64 0, .int .i64 0, .int .i64 0, .slice none 0 0] 60 (0, 0))).1
  have HA := Shut.mk ((Below.refl w1.heap.size w1).alloc (Nat.le_refl _) (Obj.cells c 60 (0, 0)))
  have HN := Shut.mk (show (w1.alloc (Obj.cells c 60 (0, 0))).heap[w1.heap.size]? = some (.cells (c35 x y u) 60 (0, 0)) by rw [← hc]; exact (MapKept.heap_alloc w1 (Obj.cells c 60 (0, 0))).1)
  have HR := Shut.mk hR
  have HF := Shut.mk hF
  have HB := Shut.mk hB
  rw [← hc]
  clear hR hF hB hc
  obtain ⟨gt, hgt⟩ : ∃ gt, gt = w1.heap.size := ⟨_, rfl⟩
  have HGT := Shut.mk hgt
  clear hgt
  go_wp2_with (first
    | (refine wpList_store_row rfl 60 (.tmp 3) (.tmp 8) rfl w1.heap.size c rfl rfl 60 _ HZ.out (by rw [HS.out]; exact size35) (by rw [HS.out]; rfl) H1.out ?_; rw [World.setRow_alloc_new]; generalize World.alloc w1 (Obj.cells c 60 (0, 0)) = w2 at *))
  have HT0 := Shut.mk (show IsT 60 w2 gt x y u l from ⟨by rw [HGT.out]; exact HN.out, HR.out.below HA.out, fun k hk => by have := HR.out.lt k hk; rw [HGT.out]; omega, HX.out.aid, HX.out.nd, HX.out.heap⟩)
  have HFT := Shut.mk (show ∀ k, FootT gt u k → w.heap.size ≤ k from fun k hk => by
    rcases hk with e | e
    · rw [e, HGT.out]; exact HB.out.size
    · exact Nat.le_of_lt (HF.out k e))
  have HB2 := Shut.mk (HB.out.trans (HA.out.mono HB.out.size))
  rw [← HGT.out]
  clear HS H1 HZ HA HN HR HF HB HGT
  go_loopw [4] (fun s4 wr => ∃ (va : Value) (acc hl : List Int) (vt : Value), va = s4 ∧ lenV va = acc.length ∧ Shut (RowN wr va acc) ∧ Shut (IsT 60 wr gt x y vt hl) ∧ Shut (OrdI y l acc hl) ∧ Shut (∀ k, va.ownBlock = some k → w.heap.size ≤ k ∧ ¬ FootT gt vt k) ∧ Shut (∀ k, FootT gt vt k → w.heap.size ≤ k) ∧ Shut (Below w.heap.size w wr)) (fun s4 _ => l.length - lenV s4)
  case atStart => exact ⟨_, [], l, u, rfl, rfl, Shut.mk (RowN.nil _), HT0, Shut.mk ⟨List.Perm.refl _, List.Pairwise.nil, fun a ha => (by cases ha)⟩, Shut.mk (fun k hk => (by cases hk)), HFT, HB2⟩
  case round =>
    clear HT0 HFT HB2
    obtain ⟨va, acc, hl, vt, rfl, hlv, HRA, HT, HI, HFA, HFT, HBW⟩ := hrel
    have HLV := Shut.mk hlv
    have HLE := Shut.mk (show acc.length + hl.length = l.length by have := HI.out.perm.length_eq; rw [List.length_append] at this; exact this)
    have HLN := Shut.mk (len_tu 60 _ gt x y wr hl HT.out.tu)
    cases hl with
    | nil =>
      have HLN0 := Shut.mk (show Calls Tryd.prog 30 #[.pointer (some ⟨gt, 0, none⟩)] wr (fun r w' => r = .returned (.int .i64 0) ∧ wr = w') from HLN.out)
      have HEND := Shut.mk (show acc.Perm l by have := HI.out.perm; rw [List.append_nil] at this; exact this)
      clear hlv
      go_wp2_with (fail)
      refine HLN0.out.mono ?_
      rintro e w' ⟨rfl, rfl⟩
      go_wp2_with (fail)
      go_ret
      exact ⟨va, acc, rfl, HRA.out, HEND.out, HI.out.sort, fun k hk => (HFA.out k hk).1, HBW.out⟩
    | cons h0 hr =>
      obtain ⟨b, o, cap, cc, h1, h2, -, -, -, h6, -, h8⟩ := HT.out.tu.el (i := 0) (by simp)
      obtain ⟨n, hn⟩ : ∃ n, n = (h0 :: hr).length := ⟨_, rfl⟩
      have hn0 : (0 : Int) < (n : Int) := by rw [hn]; simp
      have hsl := h1.cv
      rw [← hn] at HLN hsl
      have HSL := Shut.mk hsl
      have HC0 := Shut.mk (show wr.cell? ⟨b, o, none⟩ = some (.int .i64 (cc : Int)) from h6)
      have HH0 := Shut.mk h8
      have HNN := Shut.mk hn
      clear h1 h2 h6 h8 hlv hn hsl
      go_wp2_with (fail)
      refine HLN.out.mono ?_
      rintro e w' ⟨rfl, rfl⟩
      have HSL := HSL.out
      have HC0 := HC0.out
      have HA5 := Shut.mk ((Below.refl wr.heap.size wr).alloc (Nat.le_refl _) (Obj.cells #[.int .i64 (cc : Int)] 3 (0, 0)))
      have HN5 := Shut.mk (block_range (MapKept.heap_alloc wr (Obj.cells #[.int .i64 (cc : Int)] 3 (0, 0))).1)
      have HR5 := Shut.mk (HRA.out.below HA5.out)
      have HT5 := Shut.mk (HT.out.below HA5.out)
      have HFEWA := Shut.mk (show acc.length ≤ 1000000 by have := HLE.out; have := HFEW.out; omega)
      go_wp2_with (first
        | (refine wpList_app_n rfl (.tmp 11) (.tmp 16) rfl va acc rfl HR5.out (cc : Int) ⟨wr.heap.size, 0, none⟩ 1 rfl (fun j q hq => by rw [Addr.add_mid]; exact HN5.out j q hq) HFEWA.out ?_
           intro v6 w6 HO6 HB6 HZ6))
      have HT6 := Shut.mk (HT5.out.only HB6.out fun k hk e => (HFA.out k e).2 hk)
      refine (popt_any 60 gt x y vt (h0 :: hr) w6 HT6.out (by simp)).mono ?_
      rintro e w7 ⟨u7, rfl, l7, hE, hP⟩
      have HE := Shut.mk hE
      have HP := Shut.mk hP
      clear hE hP
      go_wp2_with (fail)
      go_roundw
      case rel =>
        obtain ⟨v7, h1, h2, h3⟩ := HE.out
        have hs5 := HA5.out.size
        have hF6 : ∀ k, v6.ownBlock = some k → w.heap.size ≤ k ∧ ¬ FootT gt vt k := fun k hk => by
          rcases HZ6.out k hk with e | e
          · exact HFA.out k e
          · have hb := HBW.out.size
            exact ⟨by omega, fun hf => by have := HT.out.lt k hf; omega⟩
        have hp : (l7 ++ [(h0 :: hr).getD 0 0]).Perm (h0 :: hr) := HP.out
        have hst := HI.out.step HT.out.heap (by simp) hp
        rw [HH0.out] at hst
        have hlt6 : ∀ k, v6.ownBlock = some k → k < w6.heap.size := HO6.out.lt
        have hsz6 := HB6.out.size
        refine ⟨v6, acc ++ [(cc : Int)], l7, v7, rfl, ?_, Shut.mk (HO6.out.only h2 fun k hk => (hF6 k hk).2), Shut.mk h1, Shut.mk hst, Shut.mk fun k hk => ⟨(hF6 k hk).1, fun e => ?_⟩, Shut.mk fun k hk => ?_, Shut.mk ?_⟩
        · obtain ⟨A, c, e, -⟩ := HO6.out.form
          rw [e]
          rfl
        · rcases h3 k e with h4 | h4
          · exact (hF6 k hk).2 h4
          · have := hlt6 k hk; omega
        · rcases h3 k hk with h4 | h4
          · exact HFT.out k h4
          · have hb := HBW.out.size
            omega
        · exact HBW.out.trans (((HA5.out.mono HBW.out.size).trans (HB6.out.below (fun i hi e => by have := (HFA.out i e).1; omega) (Nat.le_trans HBW.out.size hs5))).trans (h2.below (fun i hi e => by have := HFT.out i e; omega) (by have hb := HBW.out.size; omega)))
      case measure =>
        obtain ⟨A, c, e, -⟩ := HO6.out.form
        have h1 := HLE.out
        have h2 := HLV.out
        rw [e]
        simp only [lenV, List.length_append, List.length_cons, List.length_nil] at *
        omega
end Go.Proofs.YtkmblmnffnhpmaaDoor
