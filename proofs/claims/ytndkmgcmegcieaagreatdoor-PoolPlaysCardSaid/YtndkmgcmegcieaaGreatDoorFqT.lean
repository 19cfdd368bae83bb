/-
  CONTRACTS of fq's retire, Take; append of a whole row of packets.
-/
import Derived.Test.YtndkmgcmegcieaaGreatDoorMgE
import Derived.Laws.AppendOwnNone
namespace Go.Proofs.YtndkmgcmegcieaaGreatDoor
open Go.ChangeShapes Go.WideShapes Go.ChangeAt Go.RowKit Go.Deep
set_option linter.unusedVariables false
set_option linter.unusedSimpArgs false
theorem app_ps {ops : Array Oper} {rest : List Oper} {o : Oper} {a : Act} {w : World} {Q : Exit → Act → World → Prop} (T1 T2 T : Nat → Prop) (hgd : o.guard = none) (s x : Operand)
 (ho : o.op = .call { callee := .builtin .append, args := #[s, x], argTypes := #[40, 40] })
 (B B2 : Nat) (lv sv : Value) (l1 l2 : List Pk) (hs : a.eval s = lv) (hx : a.eval x = sv) (hP : OwnP T1 w B lv l1) (hQ : OwnP T2 w B2 sv l2) (h1 : ∀ k, T1 k → T k) (h2 : ∀ k, T2 k → T k)
 (hd : ∀ k, lv.ownBlock = some k → ¬ T k) (hlt : ∀ k, T k → k < w.heap.size) (hk : l1.length + l2.length ≤ 1000000) (hB : B ≤ w.heap.size)
 (h : ∀ v w', Shut (OwnP T w' B v (l1 ++ l2)) → Shut (Only (fun j => lv.ownBlock = some j) w w') → Shut (∀ g, v.ownBlock = some g → lv.ownBlock = some g ∨ g = w.heap.size) → wpList Tryz.prog ops Q rest (a.put o.dst v) w') : wpList Tryz.prog ops Q (o :: rest) a w := by
 obtain ⟨i0, hi0, hz0, hz1, hz2⟩ := info_parts' pkt_info
 obtain ⟨l1', hP1, rfl, hP3, hP4⟩ := hP
 obtain ⟨l2', hQ1, rfl, hQ3, hQ4⟩ := hQ
 rcases hQ1.1.2 with ⟨rfl, h0⟩ | ⟨g, cap, cur, rfl, hb, hg, hc, hm, hcs, ht⟩
 ·have e2 : l2' = [] := List.eq_nil_of_length_eq_zero (by rw [hQ1.2]; exact h0)
  subst e2
  refine wpList_append_own_none hgd s x 40 ho B 35 i0 5 Tryz.underlying40 hi0 lv _ _ hs hP1.1 hx ?_
  refine h lv w ⟨?_⟩ ⟨Only.refl _ _⟩ ⟨fun g hg => .inl hg⟩
  rw [List.map_nil, List.append_nil]
  exact ⟨l1', hP1, rfl, fun p hp => (hP3 p hp).mono fun k _ => h1 k, hd⟩
 ·refine wpList_append_own_at (w := w) hgd s x 40 ho B 35 i0 (.agg #[.int .i64 0, .int .u32 0, .int .i64 0, .int .i64 0, .slice none 0 0]) 5 56 Tryz.underlying40 hi0 hz0 hz1 hz2 rfl (by omega) lv _ _ hs hP1.1 ⟨g, 0, none⟩ _ cap (l2'.flatMap (FK pkC)) hx hQ1.1.1 (World.ownsRow.cells hQ1.1 rfl) (fun u hu => ?_) (by unfold maxLen; omega) (by omega) hB ?_
  ·obtain ⟨p, hp, hu⟩ := List.mem_flatMap.1 hu
   obtain ⟨a, m, c, e, -⟩ := hQ3 p hp
   unfold FK at hu
   rw [e] at hu
   exact pkC_one _ _ _ _ u hu
  ·intro v' w' hown hgrow hnil hat
   have hO : Only (fun j => lv.ownBlock = some j) w w' := (Only.refl _ w).grown hgrow fun k hk _ => hk
   have hs' : ∀ k, T k → ¬ lv.ownBlock = some k := fun k hk e => hd k e hk
   refine h v' w' ⟨⟨l1' ++ l2', ⟨?_, ?_⟩, by rw [List.map_append], fun p hp => ?_, fun q hq => ?_⟩⟩ ⟨hO⟩ ⟨fun q hq => ?_⟩
   ·rw [List.flatMap_append, List.length_append]; exact hown
   ·rw [List.length_append, List.length_append, hP1.2, hQ1.2]
   ·rcases List.mem_append.1 hp with hp | hp
    ·exact ((hP3 p hp).mono fun k _ => h1 k).only hO hs'
    ·exact ((hQ3 p hp).mono fun k _ => h2 k).only hO hs'
   ·rcases hat with e | e
    ·rw [e] at hq; exact hd q hq
    ·rw [e] at hq; cases hq; intro ht; have := hlt _ ht; omega
   ·rcases hat with e | e
    ·rw [e] at hq; exact .inl hq
    ·rw [e] at hq; cases hq; exact .inr rfl
theorem results_ctt {P : Program} {fn : Func} {p q r : Tmp} {ty : TypeId} (h : fn.results = #[.cell p ty, .tmp q, .tmp r]) (tmps : Array Value) (w : World) (g : Nat) (t : TypeId) (cs : Array Value) (fr : Nat × Nat) (d : TypeDesc) (u v : Value)
 (hp : tmps.getD p undef = .pointer (some ⟨g, 0, none⟩)) (hq : tmps.getD q undef = u) (hr : tmps.getD r undef = v) (hg : w.heap[g]? = some (.cells cs t fr))
 (hu : P.underlying ty = some d) (hd : (match d with | .struct _ | .array _ _ => true | _ => false) = true) (hi : (P.info? ty).map (·.size) = some cs.size) :
 (results fn tmps).run P w = .ok (.tuple #[.agg cs, u, v]) w := by
 have hp' : tmps[p]?.getD undef = .pointer (some ⟨g, 0, none⟩) := by simpa using hp
 have hq' : tmps[q]?.getD undef = u := by simpa using hq
 have hr' : tmps[r]?.getD undef = v := by simpa using hr
 simp [results, h, hp', hq', hr', asAddr, run_loadVar_row w g t ty cs fr d hg hu hd hi]
theorem PullE.one {T : Nat → Prop} {w : World} {g : Nat} {tq : TypeId} {pre post : List Value} {vp vi : Value} {l : List Pk} {df : Int} {R : Cd × Nat × Bool} {e : Ending} {w' : World} (h : PullE T w g tq pre post vp vi l df R e w') :
 ∃ late T2 p0 v vp' vi' r, e = .returned (.tuple #[late, pkV p0 v, .bool R.2.2]) ∧ OwnP T2 w' w.heap.size late (l.take R.2.1) ∧ (∀ k, T2 k → w.heap.size ≤ k ∧ k < w'.heap.size) ∧ v.oneCell' = true ∧
  (R.2.2 = false → r = []) ∧ (R.2.2 = true → l.drop R.2.1 = p0 :: r ∧ OwnV w' w.heap.size v p0.body ∧ (∀ k, v.ownBlock = some k → ¬ T2 k ∧ late.ownBlock ≠ some k)) ∧
  FlB T w' g tq pre post vp' vi' r (itemsF r) (bytesF r) (if R.2.2 = true then df - (p0.body.length : Nat) else df) R.1 ∧ FlS T w g vp vi T w' vp' vi' ∧ vp'.ownBlock = vp.ownBlock ∧ vi'.ownBlock = vi.ownBlock := by
 obtain ⟨late, T2, v, vp', vi', h1, h2, h3, h4⟩ := h.out
 rcases h3 with ⟨e1, e2, h5⟩ | ⟨e1, p, r, e2, e3, h5, h6, h7⟩
 ·exact ⟨late, T2, pk00.1, .slice none 0 0, vp', vi', [], by rw [e1]; exact e2, h1, h2, rfl, fun _ => rfl, fun h => (by rw [e1] at h; cases h), by rw [if_neg (by rw [e1]; decide)]; exact h5, h4⟩
 ·exact ⟨late, T2, p, v, vp', vi', r, by rw [e1]; exact e3, h1, h2, by obtain ⟨A, c, rfl, -⟩ := owns_form h5; rfl, fun h => (by rw [e1] at h; cases h), fun _ => ⟨e2, h5, h6⟩, by rw [if_pos e1]; exact h7, h4⟩
set_option maxRecDepth 100000 in
set_option maxHeartbeats 8000000 in
theorem retire0_any (T : Nat → Prop) (w : World) (x : Rq) (V : Nat → Value) (q : Qu) (h : IsCq T w x V q) (b : Nat) (r : List Nat) (hq : q.fresh = b :: r) (hl : r.length ≤ 1000) (hle : q.elder.length ≤ 1000) (el : List Nat) (hel : el = if q.elder = [] then [] else q.elder ++ [b]) :
 Calls Tryz.prog 69 #[.pointer (some ⟨x.g, 0, none⟩), .int .i64 0] w fun e w' => e = .returned (.tuple #[]) ∧ ∃ V', IsCq T w' x V' ⟨q.fl, r, el⟩ ∧ CqS T w x V T w' V' := by
 have HQ := Shut.mk h
 have HF := Shut.mk hq
 have HL := Shut.mk hl
 have HLE := Shut.mk hle
 have HEL := Shut.mk hel
 clear h hq hl hle hel
 go_enter Tryz.func69, Tryz.ntmps69
 go_wp2_with (fail)
 refine (leaveq0_any T w x V q HQ.out b r HF.out HL.out).mono ?_
 rintro e w1 ⟨rfl, V1, hQ1, hC1⟩
 have HQ1 := Shut.mk hQ1
 have HC1 := Shut.mk hC1
 clear hQ1 hC1
 obtain ⟨A1, c1, hv, -, -⟩ := HQ1.out.el.form
 rw [natsI_len] at hv
 have hc := HQ1.out.cells.2
 rw [hv] at hc
 clear hv
 dsimp only at hc
 obtain ⟨n, hn⟩ : ∃ n, q.elder.length = n := ⟨_, rfl⟩
 rw [hn] at hc
 by_cases h0 : n = 0
 ·have HE := Shut.mk (show q.elder = [] from List.eq_nil_of_length_eq_zero (by omega))
  subst h0
  clear hn
  go_wp2_with (fail)
  go_end0
  exact ⟨rfl, V1, by rw [HEL.out, if_pos HE.out]; have := HQ1.out; rwa [HE.out] at this, HC1.out⟩
 ·have HE := Shut.mk (show ¬ q.elder = [] from fun e => h0 (by rw [← hn, e]; rfl))
  have hp : 0 < n := by omega
  have hp' : (0 : Int) < (n : Int) := by omega
  clear hn h0
  go_wp2_with (fail)
  refine (joinq1_any T w1 x V1 _ HQ1.out HLE.out b).mono ?_
  rintro e w2 ⟨rfl, V2, hQ2, hC2⟩
  have HQ2 := Shut.mk hQ2
  have HC2 := Shut.mk (HC1.out.trans hC2)
  clear hQ2 hC2
  go_wp2_with (fail)
  go_end0
  exact ⟨rfl, V2, by rw [HEL.out, if_neg HE.out]; exact HQ2.out, HC2.out⟩
set_option maxRecDepth 100000 in
set_option maxHeartbeats 8000000 in
theorem retire1_any (T : Nat → Prop) (w : World) (x : Rq) (V : Nat → Value) (q : Qu) (h : IsCq T w x V q) (b : Nat) (r : List Nat) (hq : q.elder = b :: r) (hl : r.length ≤ 1000) :
 Calls Tryz.prog 69 #[.pointer (some ⟨x.g, 0, none⟩), .int .i64 1] w fun e w' => e = .returned (.tuple #[]) ∧ ∃ V', IsCq T w' x V' ⟨q.fl, q.fresh, r⟩ ∧ CqS T w x V T w' V' := by
 have HQ := Shut.mk h
 have HF := Shut.mk hq
 have HL := Shut.mk hl
 clear h hq hl
 go_enter Tryz.func69, Tryz.ntmps69
 go_wp2_with (fail)
 refine (leaveq1_any T w x V q HQ.out b r HF.out HL.out).mono ?_
 rintro e w1 ⟨rfl, V1, hQ1, hC1⟩
 have HQ1 := Shut.mk hQ1
 have HC1 := Shut.mk hC1
 clear hQ1 hC1
 go_wp2_with (fail)
 go_end0
 exact ⟨rfl, V1, HQ1.out, HC1.out⟩
structure TakeE (T : Nat → Prop) (w : World) (x : Rq) (V : Nat → Value) (r : Option Pk) (ds : List Pk) (q' : Qu) (e : Ending) (w' : World) : Prop where
 out : ∃ V' late T2 v, IsCq T w' x V' q' ∧ CqS T w x V T w' V' ∧ OwnP T2 w' w.heap.size late ds ∧ (∀ k, T2 k → w.heap.size ≤ k ∧ k < w'.heap.size) ∧ (∀ k, FootC x V' k → late.ownBlock ≠ some k ∧ ¬ T2 k ∧ v.ownBlock ≠ some k) ∧
  ((r = none ∧ v = .slice none 0 0 ∧ e = .returned (.tuple #[pkV pk00.1 v, late, .bool false])) ∨
   ∃ p, r = some p ∧ e = .returned (.tuple #[pkV p v, late, .bool true]) ∧ OwnV w' w.heap.size v p.body ∧ ∀ k, v.ownBlock = some k → ¬ T2 k ∧ late.ownBlock ≠ some k)
structure TakeB (T : Nat → Prop) (w : World) (x : Rq) (V : Nat → Value) (s4 : Nat) (u : Value) (wr : World) (q1 : Qu) (V1 : Nat → Value) (T1 : Nat → Prop) (ds1 : List Pk) : Prop where
 is : IsCq T wr x V1 q1
 st : CqS T w x V T wr V1
 own : OwnP T1 wr (s4 + 1) u ds1
 new : ∀ j, T1 j → s4 < j ∧ j < wr.heap.size
 apart : ∀ j, FootC x V1 j → j ≠ s4 ∧ u.ownBlock ≠ some j ∧ ¬ T1 j
 res : wr.heap[s4]? = some (.cells #[Value.int .i64 0, .int .u32 0, .int .i64 0, .int .i64 0, Value.slice none 0 0] 35 (0, 0))
 old : ∀ j, T j → j < s4
 sw : w.heap.size ≤ s4
structure TakeL (bk : Int → Nat) (P : Pl) (T : Nat → Prop) (w : World) (x : Rq) (V : Nat → Value) (r : Option Pk) (ds : List Pk) (q' : Qu) (s4 : Nat) (k : Nat) (u : Value) (wr : World) (q1 : Qu) (V1 : Nat → Value) (T1 : Nat → Prop) (ds1 : List Pk) : Prop extends TakeB T w x V s4 u wr q1 V1 T1 ds1 where
 inv : InvQ bk q1
 few : FewC q1
 tk : Takes P q1 ds1 r ds q'
 mul : mu q1 < k
theorem takes_inv {P : Pl} {q : Qu} {ds : List Pk} {r : Option Pk} {ds' : List Pk} {q' : Qu} (h : Takes P q ds r ds' q') :
 (firstQ q = none ∧ r = none ∧ ds' = ds ∧ q' = q) ∨
 (∃ b nw, firstQ q = some (b, nw) ∧ (q.fl b).df ≤ 0 ∧ Takes P (turnQ q b) ds r ds' q') ∨
 (∃ b nw c n, firstQ q = some (b, nw) ∧ 0 < (q.fl b).df ∧ pullF P (q.fl b) = (c, n, false) ∧ Takes P (goneQ q b nw c n) (ds ++ (q.fl b).pk.take n) r ds' q') ∨
 (∃ b nw c n, firstQ q = some (b, nw) ∧ 0 < (q.fl b).df ∧ pullF P (q.fl b) = (c, n, true) ∧ r = (q.fl b).pk[n]? ∧ ds' = ds ++ (q.fl b).pk.take n ∧ q' = tookQ q b c n) := by
 cases h with
 | none h1 => exact .inl ⟨h1, rfl, rfl, rfl⟩
 | turn h1 h2 h3 => exact .inr (.inl ⟨_, _, h1, h2, h3⟩)
 | gone h1 h2 h3 h4 => exact .inr (.inr (.inl ⟨_, _, _, _, h1, h2, h3, h4⟩))
 | took h1 h2 h3 => exact .inr (.inr (.inr ⟨_, _, _, _, h1, h2, h3, rfl, rfl, rfl⟩))
section
variable {bk : Int → Nat} {P : Pl} {T : Nat → Prop} {w : World} {x : Rq} {V : Nat → Value} {r : Option Pk} {ds : List Pk} {q' : Qu} {s4 k : Nat} {u : Value} {wr w3 : World} {q1 q2 : Qu} {V1 V3 : Nat → Value} {T1 : Nat → Prop} {ds1 : List Pk}
theorem TakeB.step (h : TakeB T w x V s4 u wr q1 V1 T1 ds1) (hC : CqS T wr x V1 T w3 V3) (hQ : IsCq T w3 x V3 q2) : TakeB T w x V s4 u w3 q2 V3 T1 ds1 where
 is := hQ
 st := h.st.trans hC
 own := h.own.only hC.only (fun g hg e => (h.apart g e).2.1 hg) (fun j hj e => (h.apart j e).2.2 hj)
 new := fun j hj => ⟨(h.new j hj).1, Nat.lt_of_lt_of_le (h.new j hj).2 hC.only.size⟩
 apart := fun j hj => by
  rcases hC.fresh j hj with h1 | h1
  ·exact h.apart j h1
  ·refine ⟨?_, fun e => ?_, fun e => ?_⟩
   ·have := lt_blk h.res; omega
   ·have := (h.own.lt j e).2; omega
   ·have := (h.new j e).2; omega
 res := hC.only.at_ h.res fun e => (h.apart s4 e).1 rfl
 old := h.old
 sw := h.sw
theorem TakeL.step (h : TakeL bk P T w x V r ds q' s4 k u wr q1 V1 T1 ds1) (hC : CqS T wr x V1 T w3 V3) (hQ : IsCq T w3 x V3 q2) (hI : InvQ bk q2) (hF : FewC q2) (hT : Takes P q2 ds1 r ds q') (hm : mu q2 < mu q1) :
 TakeL bk P T w x V r ds q' s4 (mu q1) u w3 q2 V3 T1 ds1 :=
 {toTakeB := h.toTakeB.step hC hQ, inv := hI, few := hF, tk := hT, mul := hm }
theorem TakeB.drop {T2 : Nat → Prop} {w5 : World} {v : Value} {l2 : List Pk} (h : TakeB T w x V s4 u wr q1 V1 T1 ds1)
 (ht2 : ∀ j, T2 j → s4 < j ∧ j < wr.heap.size) (hV : ∀ j, FootC x V1 j → ¬ T2 j) (hown : OwnP (fun j => T1 j ∨ T2 j) w5 (s4 + 1) v (ds1 ++ l2)) (ho : Only (fun j => u.ownBlock = some j) wr w5) (hv : ∀ g, v.ownBlock = some g → u.ownBlock = some g ∨ g = wr.heap.size) :
 TakeB T w x V s4 v w5 q1 V1 (fun j => T1 j ∨ T2 j) (ds1 ++ l2) where
 is := h.is.only ho (fun j hj e => (h.apart j hj).2.1 e) (fun j hj e => by
  have h1 := h.old j hj
  have h2 := (h.own.lt j e).1
  omega)
 st := h.st.over ho fun j e => by have := (h.own.lt j e).1; have := h.sw; omega
 own := hown
 new := fun j hj => by
  rcases hj with hj | hj
  ·exact ⟨(h.new j hj).1, Nat.lt_of_lt_of_le (h.new j hj).2 ho.size⟩
  ·exact ⟨(ht2 j hj).1, Nat.lt_of_lt_of_le (ht2 j hj).2 ho.size⟩
 apart := fun j hj => by
  have hlt := h.is.lts hj
  refine ⟨(h.apart j hj).1, fun e => ?_, fun e => ?_⟩
  ·rcases hv j e with e | e
   ·exact (h.apart j hj).2.1 e
   ·omega
  ·rcases e with e | e
   ·exact (h.apart j hj).2.2 e
   ·exact hV j hj e
 res := ho.at_ h.res fun e => by have := (h.own.lt s4 e).1; omega
 old := h.old
 sw := h.sw
end
set_option maxRecDepth 100000 in
set_option maxHeartbeats 16000000 in
theorem take_any (bk : Int → Nat) (hbk : ∀ f, bk f < 16) (T : Nat → Prop) (w : World) (x : Rq) (V : Nat → Value) (q : Qu) (h : IsCq T w x V q) (hI : InvQ bk q) (hF : FewC q) (t : Int) (ht0 : 0 ≤ t) (htM : t + 1073741824 ≤ 4503599627370496)
 (r : Option Pk) (ds : List Pk) (q' : Qu) (hT : Takes ⟨t, clampR x.tg 0 1073741824, clampR x.iv 0 1073741824⟩ q [] r ds q') :
 Calls Tryz.prog 41 #[.pointer (some ⟨x.g, 0, none⟩), .int .i64 t] w fun e w' => TakeE T w x V r ds q' e w' := by
 obtain ⟨P, hP⟩ : ∃ P : Pl, P = ⟨t, clampR x.tg 0 1073741824, clampR x.iv 0 1073741824⟩ := ⟨_, rfl⟩
 have HPP := Shut.mk hP
 rw [← hP] at hT
 have HDS := Shut.mk (takes_len hT hI hbk hF)
 have HQ0 := Shut.mk h
 have HTB := Shut.mk (show 0 ≤ t ∧ t + 1073741824 ≤ 4503599627370496 from ⟨ht0, htM⟩)
 have HA1 := Shut.mk ((Below.refl w.heap.size w).alloc (Nat.le_refl _) (Obj.cells #[Value.int .i64 0, .int .u32 0, .int .i64 0, .int .i64 0, Value.slice none 0 0] 35 (0, 0)))
 have HX1 := Shut.mk (MapKept.heap_alloc w (Obj.cells #[Value.int .i64 0, .int .u32 0, .int .i64 0, .int .i64 0, Value.slice none 0 0] 35 (0, 0))).1
 obtain ⟨s4, hs4⟩ : ∃ s, s = w.heap.size := ⟨_, rfl⟩
 have HS4 := Shut.mk hs4
 have HL0 := Shut.mk (show TakeL bk P T w x V r ds q' s4 (mu q + 1) (.slice none 0 0) (w.alloc (Obj.cells #[Value.int .i64 0, .int .u32 0, .int .i64 0, .int .i64 0, Value.slice none 0 0] 35 (0, 0))) q V (fun _ => False) [] from
  {is := HQ0.out.quiet HA1.out, st := CqS.refl.quiet HA1.out, own := OwnK.nil _ _ _ _, new := fun j hj => hj.elim,
   apart := fun j hj => ⟨by have := HQ0.out.lts hj; omega, (fun e => by cases e), fun e => e⟩, res := by rw [hs4]; exact HX1.out, old := fun j hj => by have := HQ0.out.there j hj; omega, sw := by omega, inv := hI, few := hF, tk := hT, mul := by omega })
 clear h hI hF hT ht0 htM hP HX1
 go_enter Tryz.func41, Tryz.ntmps41
 go_wp2_with (fail)
 rw [← hs4]
 generalize World.alloc w _ = w1 at *
 clear hs4
 go_loopg [7] (mu q + 1) (fun k u wr => ∃ (q1 : Qu) (V1 : Nat → Value) (T1 : Nat → Prop) (ds1 : List Pk), TakeL bk P T w x V r ds q' s4 k u wr q1 V1 T1 ds1)
 case atStart => exact ⟨q, V, fun _ => False, [], HL0.out⟩
 case round =>
  obtain ⟨q1, V1, T1, ds1, hL⟩ := hrel
  have HL := Shut.mk hL
  clear HL0
  rcases takes_inv hL.tk with ⟨h1, e1, e2, e3⟩ | ⟨b, nw, h1, hd, ht⟩ | ⟨b, nw, c, n, h1, hd, hp, ht⟩ | ⟨b, nw, c, n, h1, hd, hp, e1, e2, e3⟩
  ·have HE := Shut.mk (show q1.fresh = [] ∧ q1.elder = [] from firstQ_none h1)
   have HTI := Shut.mk (show turnI q1 = 1 by unfold turnI; rw [if_pos HE.out.1])
   have HR1 := Shut.mk (show r = none ∧ ds = ds1 ∧ q' = q1 from ⟨e1, e2, e3⟩)
   obtain ⟨A1, c1, hv, -, -⟩ := hL.is.el.form
   rw [HE.out.2] at hv
   have hc := hL.is.cells.2
   rw [hv] at hc
   have hc1 : wr.cell? ⟨x.g, 148, none⟩ = some (.slice A1 0 c1) := hc
   have HZ := Shut.mk (setRow_heap wr s4 _ #[Value.int .i64 0, .int .u32 0, .int .i64 0, .int .i64 0, Value.slice none 0 0] _ (0, 0) hL.res)
   have HOZ := Shut.mk (only_setRow wr s4 #[Value.int .i64 0, .int .u32 0, .int .i64 0, .int .i64 0, Value.slice none 0 0])
   clear hL h1 e1 e2 e3 hv hc
   go_wp2_with (fail)
   refine (turn_any T wr x V1 q1 HL.out.is).mono ?_
   rintro e' wn ⟨rfl, rfl⟩
   rw [HTI.out]
   go_wp2_with (first
    | (refine wpList_store_row rfl 35 (.tmp 4) (.tmp 23) rfl s4 #[Value.int .i64 0, .int .u32 0, .int .i64 0, .int .i64 0, Value.slice none 0 0] rfl rfl 35 _ HL.out.res size5 rfl (pkt_one _ _ _ _ _ _ _) ?_))
   have hsw := HL.out.sw
   have hs4 := HS4.out
   refine bodyPost_ret (v := .tuple #[.agg #[Value.int .i64 0, .int .u32 0, .int .i64 0, .int .i64 0, Value.slice none 0 0], u7, .bool false]) (results_ctt (p := 4) (q := 5) (r := 6) Tryz.results41 _ _ s4 _ _ _ _ _ _ rfl rfl rfl HZ.out Tryz.underlying35 rfl size5) rfl ⟨V1, u7, T1, .slice none 0 0, ?_, ?_, ?_, fun j hj => ⟨?_, ?_⟩, fun j hj => ⟨?_, ?_, fun e => by cases e⟩, .inl ⟨HR1.out.1, rfl, rfl⟩⟩
   ·rw [HR1.out.2.2]
    exact HL.out.is.only HOZ.out (fun j hj e => (HL.out.apart j hj).1 e) (fun j hj e => by have := HL.out.old j hj; omega)
   ·exact HL.out.st.over HOZ.out fun j e => by omega
   ·rw [HR1.out.2.1]
    exact OwnP.base (HL.out.own.only HOZ.out (fun j hj e => by have := (HL.out.own.lt j hj).1; omega) (fun j hj e => by have := (HL.out.new j hj).1; omega)) (by omega)
   ·have := (HL.out.new j hj).1; omega
   ·exact Nat.lt_of_lt_of_le (HL.out.new j hj).2 HOZ.out.size
   ·exact (HL.out.apart j hj).2.1
   ·exact (HL.out.apart j hj).2.2
  ·clear hL
   cases nw with
   | true =>
    obtain ⟨r0, hfr⟩ := firstQ_new h1
    have HB16 := Shut.mk (show b < 16 from HL.out.inv.lt b (firstQ_mem h1))
    have hb16 := HB16.out
    have hbi : (b : Int) < 16 := by omega
    have HFI := Shut.mk h1
    have HLI := Shut.mk (show q1.fresh = b :: r0 from hfr)
    have HTI := Shut.mk (show turnI q1 = 0 by unfold turnI; rw [if_neg (by rw [hfr]; simp)])
    have HLL := Shut.mk (show r0.length ≤ 1000 ∧ q1.elder.length ≤ 1000 ∧ q1.fresh.length ≤ 1000 from by
     have h5 := lists_len HL.out.inv
     rw [List.length_append] at h5
     rw [hfr, List.length_cons] at h5
     rw [hfr, List.length_cons]
     omega)
    obtain ⟨g0, o0, cl, hvl, hrl, -, -⟩ := RowAt.cells (show RowAt wr 3 1 (V1 32) (natsI (b :: r0)).length ((natsI (b :: r0)).map (Value.int .i64)) from by have := HL.out.is.fr; rw [hfr] at this; exact this) (by simp [natsI])
    have hcb : wr.cell? ⟨g0, o0, none⟩ = some (.int .i64 (b : Nat)) := by have := hrl 0 (.int .i64 (b : Nat)) rfl; simpa using this
    obtain ⟨ln, hln⟩ : ∃ ln, (natsI (b :: r0)).length = ln := ⟨_, rfl⟩
    rw [hln] at hvl
    have hlp : 0 < ln := by rw [← hln]; simp [natsI]
    have hlp' : (0 : Int) < (ln : Int) := by omega
    have hln0 : ((ln : Int) == 0) = false := by simp; omega
    have hcl := HL.out.is.cells.1
    rw [hvl] at hcl
    clear hvl hrl hln hfr  h1
    go_wp2_with (fail)
    refine (turn_any T wr x V1 q1 HL.out.is).mono ?_
    rintro e' wn ⟨rfl, rfl⟩
    rw [HTI.out]
    go_wp2_with (fail)
    obtain ⟨w5, hw5⟩ : ∃ w5, w5 = World.drew wr := ⟨_, rfl⟩
    have HW5 := Shut.mk hw5
    have HD5 := Shut.mk (show Below wr.heap.size wr w5 by rw [hw5]; exact (Below.refl _ _).drew)
    have HCL5 := Shut.mk (below_at HD5.out hcl)
    have HCB5 := Shut.mk (below_at HD5.out hcb)
    have HQ5 := Shut.mk (HL.out.is.quiet HD5.out)
    clear hw5 hcl hcb
    refine wp_region_D (fun w' => w5 = w') 11 (by kernel_rfl) HW5.out (fun hHeld hC => ?_)
    rw [← HW5.out] at hHeld ⊢
    refine dP 0 hC hHeld ?_; clear hC; intro hC
    refine dP 1 hC hHeld ?_; clear hC; intro hC
    refine dP 2 hC hHeld ?_; clear hC; intro hC
    refine dP 3 hC hHeld ?_; clear hC; intro hC
    refine dP 4 hC hHeld ?_; clear hC; intro hC
    refine dP 5 hC hHeld ?_; clear hC; intro hC
    refine dT 6 hC hHeld (fun w hSw => (show w.cell? ⟨x.g, 147, none⟩ = some (.slice (some ⟨g0, o0, none⟩) ln cl) from by rw [← hSw]; exact HCL5.out)) ?_; clear hC; intro hC
    refine dP 7 hC hHeld ?_; clear hC; intro hC
    refine dT 8 hC hHeld (fun w hSw => (show w.cell? ⟨g0, o0, none⟩ = some (.int .i64 (b : Nat)) from by rw [← hSw]; exact HCB5.out)) ?_; clear hC; intro hC
    refine dP 9 hC hHeld ?_; clear hC; intro hC
    refine dP 10 hC hHeld ?_; clear hC; intro hC
    refine wpAnyD_one (i := 11) (by kernel_rfl) rfl hC (fun K hK => ?_)
    clear hC
    go_simp
    refine hK.out _ _ (past (by kernel_rfl)) (fun hC => ?_)
    clear hK K
    try simp only [Act.put, sG1, sG2, sG3, sG4, sG5, sG6]
    refine dQ 12 hC ?_; clear hC; intro hC
    refine wpAnyD_done (by kernel_rfl) ?_ _
    try simp only [Act.put, sG1, sG2, sG3, sG4, sG5, sG6]
    clear hHeld hC
    have hdf : w5.cell? ⟨x.g, 3 + b * 9 + 3, none⟩ = some (.int .i64 (q1.fl b).df) := HQ5.out.fld hb16 (j := 3) rfl
    have hdb := HL.out.few.df b hb16
    obtain ⟨df, hdfe⟩ : ∃ df, (q1.fl b).df = df := ⟨_, rfl⟩
    have HDF := Shut.mk hdfe
    rw [hdfe] at hdf hd hdb
    clear hdfe
    obtain ⟨pre, post, hpre, hsp, hback⟩ := cq_split x V1 q1.fl hb16
    have HPR := Shut.mk hpre
    have HBK := Shut.mk hback
    have HFL5 := Shut.mk (show FlB T w5 x.g 98 pre post (V1 b) (V1 (16 + b)) (q1.fl b).pk (itemsF (q1.fl b).pk) (bytesF (q1.fl b).pk) df (q1.fl b).cd from by rw [← HDF.out]; exact HQ5.out.flow hb16 hsp)
    clear hpre hsp hback
    have hwr : IntKind.i64.wrap (df + 300) = df + 300 := IntWalk.i64_in _ ⟨by omega, by omega⟩
    have HQ2 := Shut.mk (show turnQ q1 b = ⟨setF q1.fl b ⟨(q1.fl b).pk, df + 300, (q1.fl b).cd⟩, r0, q1.elder ++ [b]⟩ from by rw [turn_new HL.out.inv HLI.out, HDF.out])
    obtain ⟨w9, hw9⟩ : ∃ w9, w9 = w5.setRow x.g (pre ++ fcR (V1 b) (V1 (16 + b)) (bytesF (q1.fl b).pk) (df + 300) (q1.fl b).cd ++ post).toArray := ⟨_, rfl⟩
    have HP9 := HQ5.out.put_flow hb16 HBK.out (y := ⟨(q1.fl b).pk, df + 300, (q1.fl b).cd⟩) (HFL5.out.store _ (df + 300) _) (FlS.own _)
    rw [← hw9] at HP9
    have HQ9 := Shut.mk HP9.1
    have HC9 := Shut.mk (CqS.from_ HD5.out HP9.2)
    have HW9 := Shut.mk hw9
    have HTK := Shut.mk ht
    have HMU := Shut.mk (mu_turn HL.out.inv HFI.out (by rw [HDF.out]; exact hd))
    have HIV := Shut.mk (inv_turn HL.out.inv (firstQ_mem HFI.out))
    have HFW := Shut.mk (few_turn HL.out.few hb16 (by rw [HDF.out]; exact hd))
    obtain ⟨V9, hV9⟩ : ∃ V9, V9 = upd2 V1 b (V1 b) (V1 (16 + b)) := ⟨_, rfl⟩
    rw [← hV9] at HQ9 HC9
    clear hw9 HP9 ht hV9
    go_wp2_with (refine wpList_store_fld rfl 3 (.tmp 48) (.tmp 46) rfl x.g (3 + b * 9) 3 (.int .i64 (df + 300)) rfl rfl rfl _ pre (fcR (V1 b) (V1 (16 + b)) (bytesF (q1.fl b).pk) df (q1.fl b).cd) (fcR (V1 b) (V1 (16 + b)) (bytesF (q1.fl b).pk) (df + 300) (q1.fl b).cd) post HFL5.out.blk HPR.out size1i (by show 3 < 9; omega) rfl ?_
                 rw [show World.setRow w5 x.g _ = w9 from HW9.out.symm])
    refine (leaveq0_any T w9 x _ _ HQ9.out b r0 HLI.out HLL.out.1).mono ?_
    rintro e' wa ⟨rfl, Va, hQa, hCa⟩
    have HQa := Shut.mk hQa
    have HCa := Shut.mk (HC9.out.trans hCa)
    clear hQa hCa
    go_wp2_with (fail)
    refine (joinq1_any T wa x Va _ HQa.out HLL.out.2.1 b).mono ?_
    rintro e' wb ⟨rfl, Vb, hQb, hCb⟩
    have HQb := Shut.mk hQb
    have HCb := Shut.mk (HCa.out.trans hCb)
    clear hQb hCb
    go_wp2_with (fail)
    go_roundg (mu q1)
    case measure => exact HL.out.mul
    case rel => exact ⟨turnQ q1 b, Vb, T1, ds1, HL.out.step HCb.out (by rw [HQ2.out]; exact HQb.out) HIV.out HFW.out HTK.out HMU.out⟩
   | false =>
    obtain ⟨hfr, r0, hel⟩ := firstQ_old h1
    have HB16 := Shut.mk (show b < 16 from HL.out.inv.lt b (firstQ_mem h1))
    have hb16 := HB16.out
    have hbi : (b : Int) < 16 := by omega
    have HFI := Shut.mk h1
    have HLI := Shut.mk (show q1.fresh = [] ∧ q1.elder = b :: r0 from ⟨hfr, hel⟩)
    have HTI := Shut.mk (show turnI q1 = 1 by unfold turnI; rw [if_pos hfr])
    have HLL := Shut.mk (show r0.length ≤ 1000 ∧ q1.elder.length ≤ 1000 ∧ q1.fresh.length ≤ 1000 from by
     have h5 := lists_len HL.out.inv
     rw [List.length_append] at h5
     rw [hel, List.length_cons] at h5
     rw [hel, List.length_cons]
     omega)
    obtain ⟨g0, o0, cl, hvl, hrl, -, -⟩ := RowAt.cells (show RowAt wr 3 1 (V1 33) (natsI (b :: r0)).length ((natsI (b :: r0)).map (Value.int .i64)) from by have := HL.out.is.el; rw [hel] at this; exact this) (by simp [natsI])
    have hcb : wr.cell? ⟨g0, o0, none⟩ = some (.int .i64 (b : Nat)) := by have := hrl 0 (.int .i64 (b : Nat)) rfl; simpa using this
    obtain ⟨ln, hln⟩ : ∃ ln, (natsI (b :: r0)).length = ln := ⟨_, rfl⟩
    rw [hln] at hvl
    have hlp : 0 < ln := by rw [← hln]; simp [natsI]
    have hlp' : (0 : Int) < (ln : Int) := by omega
    have hln0 : ((ln : Int) == 0) = false := by simp; omega
    have hcl := HL.out.is.cells.2
    rw [hvl] at hcl
    clear hvl hrl hln hfr hel h1
    go_wp2_with (fail)
    refine (turn_any T wr x V1 q1 HL.out.is).mono ?_
    rintro e' wn ⟨rfl, rfl⟩
    rw [HTI.out]
    go_wp2_with (fail)
    obtain ⟨w5, hw5⟩ : ∃ w5, w5 = World.drew wr := ⟨_, rfl⟩
    have HW5 := Shut.mk hw5
    have HD5 := Shut.mk (show Below wr.heap.size wr w5 by rw [hw5]; exact (Below.refl _ _).drew)
    have HCL5 := Shut.mk (below_at HD5.out hcl)
    have HCB5 := Shut.mk (below_at HD5.out hcb)
    have HQ5 := Shut.mk (HL.out.is.quiet HD5.out)
    clear hw5 hcl hcb
    refine wp_region_D (fun w' => w5 = w') 11 (by kernel_rfl) HW5.out (fun hHeld hC => ?_)
    rw [← HW5.out] at hHeld ⊢
    refine dP 0 hC hHeld ?_; clear hC; intro hC
    refine dP 1 hC hHeld ?_; clear hC; intro hC
    refine dP 2 hC hHeld ?_; clear hC; intro hC
    refine dP 3 hC hHeld ?_; clear hC; intro hC
    refine dP 4 hC hHeld ?_; clear hC; intro hC
    refine dP 5 hC hHeld ?_; clear hC; intro hC
    refine dT 6 hC hHeld (fun w hSw => (show w.cell? ⟨x.g, 148, none⟩ = some (.slice (some ⟨g0, o0, none⟩) ln cl) from by rw [← hSw]; exact HCL5.out)) ?_; clear hC; intro hC
    refine dP 7 hC hHeld ?_; clear hC; intro hC
    refine dT 8 hC hHeld (fun w hSw => (show w.cell? ⟨g0, o0, none⟩ = some (.int .i64 (b : Nat)) from by rw [← hSw]; exact HCB5.out)) ?_; clear hC; intro hC
    refine dP 9 hC hHeld ?_; clear hC; intro hC
    refine dP 10 hC hHeld ?_; clear hC; intro hC
    refine wpAnyD_one (i := 11) (by kernel_rfl) rfl hC (fun K hK => ?_)
    clear hC
    go_simp
    refine hK.out _ _ (past (by kernel_rfl)) (fun hC => ?_)
    clear hK K
    try simp only [Act.put, sG1, sG2, sG3, sG4, sG5, sG6]
    refine dQ 12 hC ?_; clear hC; intro hC
    refine wpAnyD_done (by kernel_rfl) ?_ _
    try simp only [Act.put, sG1, sG2, sG3, sG4, sG5, sG6]
    clear hHeld hC
    have hdf : w5.cell? ⟨x.g, 3 + b * 9 + 3, none⟩ = some (.int .i64 (q1.fl b).df) := HQ5.out.fld hb16 (j := 3) rfl
    have hdb := HL.out.few.df b hb16
    obtain ⟨df, hdfe⟩ : ∃ df, (q1.fl b).df = df := ⟨_, rfl⟩
    have HDF := Shut.mk hdfe
    rw [hdfe] at hdf hd hdb
    clear hdfe
    obtain ⟨pre, post, hpre, hsp, hback⟩ := cq_split x V1 q1.fl hb16
    have HPR := Shut.mk hpre
    have HBK := Shut.mk hback
    have HFL5 := Shut.mk (show FlB T w5 x.g 98 pre post (V1 b) (V1 (16 + b)) (q1.fl b).pk (itemsF (q1.fl b).pk) (bytesF (q1.fl b).pk) df (q1.fl b).cd from by rw [← HDF.out]; exact HQ5.out.flow hb16 hsp)
    clear hpre hsp hback
    have hwr : IntKind.i64.wrap (df + 300) = df + 300 := IntWalk.i64_in _ ⟨by omega, by omega⟩
    have HQ2 := Shut.mk (show turnQ q1 b = ⟨setF q1.fl b ⟨(q1.fl b).pk, df + 300, (q1.fl b).cd⟩, [], r0 ++ [b]⟩ from by rw [turn_old HL.out.inv HLI.out.1 HLI.out.2, HDF.out])
    obtain ⟨w9, hw9⟩ : ∃ w9, w9 = w5.setRow x.g (pre ++ fcR (V1 b) (V1 (16 + b)) (bytesF (q1.fl b).pk) (df + 300) (q1.fl b).cd ++ post).toArray := ⟨_, rfl⟩
    have HP9 := HQ5.out.put_flow hb16 HBK.out (y := ⟨(q1.fl b).pk, df + 300, (q1.fl b).cd⟩) (HFL5.out.store _ (df + 300) _) (FlS.own _)
    rw [← hw9] at HP9
    have HQ9 := Shut.mk HP9.1
    have HC9 := Shut.mk (CqS.from_ HD5.out HP9.2)
    have HW9 := Shut.mk hw9
    have HTK := Shut.mk ht
    have HMU := Shut.mk (mu_turn HL.out.inv HFI.out (by rw [HDF.out]; exact hd))
    have HIV := Shut.mk (inv_turn HL.out.inv (firstQ_mem HFI.out))
    have HFW := Shut.mk (few_turn HL.out.few hb16 (by rw [HDF.out]; exact hd))
    obtain ⟨V9, hV9⟩ : ∃ V9, V9 = upd2 V1 b (V1 b) (V1 (16 + b)) := ⟨_, rfl⟩
    rw [← hV9] at HQ9 HC9
    clear hw9 HP9 ht hV9
    go_wp2_with (refine wpList_store_fld rfl 3 (.tmp 48) (.tmp 46) rfl x.g (3 + b * 9) 3 (.int .i64 (df + 300)) rfl rfl rfl _ pre (fcR (V1 b) (V1 (16 + b)) (bytesF (q1.fl b).pk) df (q1.fl b).cd) (fcR (V1 b) (V1 (16 + b)) (bytesF (q1.fl b).pk) (df + 300) (q1.fl b).cd) post HFL5.out.blk HPR.out size1i (by show 3 < 9; omega) rfl ?_
                 rw [show World.setRow w5 x.g _ = w9 from HW9.out.symm])
    refine (leaveq1_any T w9 x _ _ HQ9.out b r0 HLI.out.2 HLL.out.1).mono ?_
    rintro e' wa ⟨rfl, Va, hQa, hCa⟩
    have HQa := Shut.mk hQa
    have HCa := Shut.mk (HC9.out.trans hCa)
    clear hQa hCa
    go_wp2_with (fail)
    refine (joinq1_any T wa x Va _ HQa.out HLL.out.1 b).mono ?_
    rintro e' wb ⟨rfl, Vb, hQb, hCb⟩
    have HQb := Shut.mk hQb
    have HCb := Shut.mk (HCa.out.trans hCb)
    clear hQb hCb
    go_wp2_with (fail)
    go_roundg (mu q1)
    case measure => exact HL.out.mul
    case rel => exact ⟨turnQ q1 b, Vb, T1, ds1, HL.out.step HCb.out (by rw [HQ2.out]; have := HQb.out; rw [HLI.out.1] at this; exact this) HIV.out HFW.out HTK.out HMU.out⟩
  ·clear hL
   cases nw with
   | true =>
    obtain ⟨r0, hfr⟩ := firstQ_new h1
    have HB16 := Shut.mk (show b < 16 from HL.out.inv.lt b (firstQ_mem h1))
    have hb16 := HB16.out
    have hbi : (b : Int) < 16 := by omega
    have HFI := Shut.mk h1
    have HLI := Shut.mk (show q1.fresh = b :: r0 from hfr)
    have HTI := Shut.mk (show turnI q1 = 0 by unfold turnI; rw [if_neg (by rw [hfr]; simp)])
    have HLL := Shut.mk (show r0.length ≤ 1000 ∧ q1.elder.length ≤ 1000 ∧ q1.fresh.length ≤ 1000 from by
     have h5 := lists_len HL.out.inv
     rw [List.length_append] at h5
     rw [hfr, List.length_cons] at h5
     rw [hfr, List.length_cons]
     omega)
    obtain ⟨g0, o0, cl, hvl, hrl, -, -⟩ := RowAt.cells (show RowAt wr 3 1 (V1 32) (natsI (b :: r0)).length ((natsI (b :: r0)).map (Value.int .i64)) from by have := HL.out.is.fr; rw [hfr] at this; exact this) (by simp [natsI])
    have hcb : wr.cell? ⟨g0, o0, none⟩ = some (.int .i64 (b : Nat)) := by have := hrl 0 (.int .i64 (b : Nat)) rfl; simpa using this
    obtain ⟨ln, hln⟩ : ∃ ln, (natsI (b :: r0)).length = ln := ⟨_, rfl⟩
    rw [hln] at hvl
    have hlp : 0 < ln := by rw [← hln]; simp [natsI]
    have hlp' : (0 : Int) < (ln : Int) := by omega
    have hln0 : ((ln : Int) == 0) = false := by simp; omega
    have hcl := HL.out.is.cells.1
    rw [hvl] at hcl
    clear hvl hrl hln hfr  h1
    go_wp2_with (fail)
    refine (turn_any T wr x V1 q1 HL.out.is).mono ?_
    rintro e' wn ⟨rfl, rfl⟩
    rw [HTI.out]
    go_wp2_with (fail)
    obtain ⟨w5, hw5⟩ : ∃ w5, w5 = World.drew wr := ⟨_, rfl⟩
    have HW5 := Shut.mk hw5
    have HD5 := Shut.mk (show Below wr.heap.size wr w5 by rw [hw5]; exact (Below.refl _ _).drew)
    have HCL5 := Shut.mk (below_at HD5.out hcl)
    have HCB5 := Shut.mk (below_at HD5.out hcb)
    have HQ5 := Shut.mk (HL.out.is.quiet HD5.out)
    clear hw5 hcl hcb
    refine wp_region_D (fun w' => w5 = w') 11 (by kernel_rfl) HW5.out (fun hHeld hC => ?_)
    rw [← HW5.out] at hHeld ⊢
    refine dP 0 hC hHeld ?_; clear hC; intro hC
    refine dP 1 hC hHeld ?_; clear hC; intro hC
    refine dP 2 hC hHeld ?_; clear hC; intro hC
    refine dP 3 hC hHeld ?_; clear hC; intro hC
    refine dP 4 hC hHeld ?_; clear hC; intro hC
    refine dP 5 hC hHeld ?_; clear hC; intro hC
    refine dT 6 hC hHeld (fun w hSw => (show w.cell? ⟨x.g, 147, none⟩ = some (.slice (some ⟨g0, o0, none⟩) ln cl) from by rw [← hSw]; exact HCL5.out)) ?_; clear hC; intro hC
    refine dP 7 hC hHeld ?_; clear hC; intro hC
    refine dT 8 hC hHeld (fun w hSw => (show w.cell? ⟨g0, o0, none⟩ = some (.int .i64 (b : Nat)) from by rw [← hSw]; exact HCB5.out)) ?_; clear hC; intro hC
    refine dP 9 hC hHeld ?_; clear hC; intro hC
    refine dP 10 hC hHeld ?_; clear hC; intro hC
    refine wpAnyD_one (i := 11) (by kernel_rfl) rfl hC (fun K hK => ?_)
    clear hC
    go_simp
    refine hK.out _ _ (past (by kernel_rfl)) (fun hC => ?_)
    clear hK K
    try simp only [Act.put, sG1, sG2, sG3, sG4, sG5, sG6]
    refine dQ 12 hC ?_; clear hC; intro hC
    refine wpAnyD_done (by kernel_rfl) ?_ _
    try simp only [Act.put, sG1, sG2, sG3, sG4, sG5, sG6]
    clear hHeld hC
    have hdf : w5.cell? ⟨x.g, 3 + b * 9 + 3, none⟩ = some (.int .i64 (q1.fl b).df) := HQ5.out.fld hb16 (j := 3) rfl
    have hdb := HL.out.few.df b hb16
    obtain ⟨df, hdfe⟩ : ∃ df, (q1.fl b).df = df := ⟨_, rfl⟩
    have HDF := Shut.mk hdfe
    rw [hdfe] at hdf hd hdb
    clear hdfe
    obtain ⟨pre, post, hpre, hsp, hback⟩ := cq_split x V1 q1.fl hb16
    have HPR := Shut.mk hpre
    have HBK := Shut.mk hback
    have HFL5 := Shut.mk (show FlB T w5 x.g 98 pre post (V1 b) (V1 (16 + b)) (q1.fl b).pk (itemsF (q1.fl b).pk) (bytesF (q1.fl b).pk) df (q1.fl b).cd from by rw [← HDF.out]; exact HQ5.out.flow hb16 hsp)
    clear hpre hsp hback
    have HPL := Shut.mk (show pullR ⟨t, clampR x.tg 0 1073741824, clampR x.iv 0 1073741824⟩ (q1.fl b).cd (bytesF (q1.fl b).pk) (itemsF (q1.fl b).pk) = (c, n, false) from by rw [← HPP.out]; exact hp)
    have HTT := Shut.mk (show 0 ≤ t ∧ t ≤ 4503599627370496 from by have := HTB.out; omega)
    have HDB := Shut.mk (show -4503599627370496 ≤ df ∧ df ≤ 4503599627370496 by omega)
    clear hp
    go_wp2_with (fail)
    go_cut [10, 11, 12] from 54 to 68 (fun s10 s11 s12 wx => ∃ (k : Nat) (p0 : Pk) (v : Value) (T2 : Nat → Prop) (vp' vi' : Value) (rr : List Pk), s11 = .pointer (some ⟨k, 0, none⟩) ∧ s12 = .bool false ∧ wx.heap[k]? = some (.cells ([] ++ [Value.int .i64 p0.id, .int .u32 p0.flow, .int .i64 p0.tid, .int .i64 p0.at_, v] ++ []).toArray 35 (0, 0)) ∧ w5.heap.size ≤ k ∧ OwnP T2 wx w5.heap.size s10 ((q1.fl b).pk.take n) ∧ (∀ j, T2 j → w5.heap.size ≤ j ∧ j < wx.heap.size) ∧
     (false = true → (q1.fl b).pk.drop n = p0 :: rr ∧ OwnV wx w5.heap.size v p0.body ∧ ∀ k, v.ownBlock = some k → ¬ T2 k ∧ s10.ownBlock ≠ some k) ∧ (false = false → rr = []) ∧
     FlB T wx x.g 98 pre post vp' vi' rr (itemsF rr) (bytesF rr) (if false = true then df - (p0.body.length : Nat) else df) c ∧ FlS T w5 x.g (V1 b) (V1 (16 + b)) T wx vp' vi' ∧ vp'.ownBlock = (V1 b).ownBlock ∧ vi'.ownBlock = (V1 (16 + b)).ownBlock)
    case first =>
     obtain ⟨wA, hwA⟩ : ∃ wA, wA = World.drew w5 := ⟨_, rfl⟩
     have HWA := Shut.mk hwA
     have HSA := Shut.mk (show wA.heap.size = w5.heap.size by rw [hwA]; rfl)
     have HDA := Shut.mk (show Below w5.heap.size w5 wA by rw [hwA]; exact (Below.refl _ _).drew)
     have HQA := Shut.mk (HQ5.out.quiet HDA.out)
     have HFLA := Shut.mk (HFL5.out.quiet HDA.out)
     clear hwA
     refine wp_region_D (fun w' => Below wA.heap.size wA w') 10 (by kernel_rfl) (show Below wA.heap.size wA (World.drew w5) by rw [HWA.out]; exact Below.refl _ _) (fun hHeld hC => ?_)
     rw [← HWA.out] at hHeld ⊢
     refine dP 0 hC hHeld ?_; clear hC; intro hC
     refine dP 1 hC hHeld ?_; clear hC; intro hC
     refine dP 2 hC hHeld ?_; clear hC; intro hC
     refine dP 3 hC hHeld ?_; clear hC; intro hC
     refine dP 4 hC hHeld ?_; clear hC; intro hC
     refine dT 5 hC hHeld (fun w hSw => (show w.cell? ⟨x.g, 1, none⟩ = some (.int .i64 x.tg) from below_at hSw HQA.out.head.2.1)) ?_; clear hC; intro hC
     refine dP 6 hC hHeld ?_; clear hC; intro hC
     refine dP 7 hC hHeld ?_; clear hC; intro hC
     refine dP 8 hC hHeld ?_; clear hC; intro hC
     refine dT 9 hC hHeld (fun w hSw => (show w.cell? ⟨x.g, 2, none⟩ = some (.int .i64 x.iv) from below_at hSw HQA.out.head.2.2)) ?_; clear hC; intro hC
     refine wpAnyD_all (rs := [10, 15]) (by kernel_rfl) (by simp) hC (all_cons ⟨_, rfl, fun K hK => ?_⟩ (all_cons ⟨_, rfl, fun K hK => ?_⟩ all_nil))
     ·clear hC
      go_simp
      refine (flpull_any T x.g (3 + b * 9) _ pre post (V1 b) (V1 (16 + b)) (q1.fl b).pk df t x.tg x.iv (q1.fl b).cd wA (HFLA.out.quiet hHeld) HPR.out (HL.out.few.len b HB16.out) (HL.out.few.el b HB16.out) HTT.out (HL.out.few.cd b HB16.out).1 (HL.out.few.cd b HB16.out).2.1 (HL.out.few.cd b HB16.out).2.2 HDB.out (c, n, false) HPL.out).mono ?_
      rintro e' wp1 hE
      obtain ⟨late, T2, p0, v, vp', vi', rr, rfl, hPo, hPt, hv1, hr0, hr1, hPf, hPs, hb1, hb2⟩ := hE.one
      clear hE
      dsimp only at hPo hr0 hr1 hPf hPs ⊢
      have HPOwp1 := Shut.mk (OwnP.base hPo hHeld.size)
      have HPTwp1 := Shut.mk (show ∀ j, T2 j → wA.heap.size ≤ j ∧ j < wp1.heap.size from fun j hj => ⟨Nat.le_trans hHeld.size (hPt j hj).1, (hPt j hj).2⟩)
      have HV1 := Shut.mk hv1
      have HR0 := Shut.mk hr0
      have HR1 := Shut.mk hr1
      have HPFwp1 := Shut.mk hPf
      have HPSwp1 := Shut.mk (FlS.from_ hHeld hPs)
      have HBW := Shut.mk hHeld.size
      have HBV := Shut.mk (show vp'.ownBlock = (V1 b).ownBlock ∧ vi'.ownBlock = (V1 (16 + b)).ownBlock from ⟨hb1, hb2⟩)
      clear hb1 hb2
      clear hPo hPt hv1 hr0 hr1 hPf hPs
      refine hK.out _ _ (past (by kernel_rfl)) (fun hC => ?_)
      clear hK K
      try simp only [Act.put, sG1, sG2, sG3, sG4, sG5, sG6]
      refine dQ 11 hC ?_; clear hC; intro hC
      refine dQ 12 hC ?_; clear hC; intro hC
      refine dQ 13 hC ?_; clear hC; intro hC
      refine dQ 14 hC ?_; clear hC; intro hC
      refine wpAnyD_one (i := 15) (by kernel_rfl) rfl hC (fun K hK => ?_)
      clear hC
      go_simp
      have HAwp2 := Shut.mk ((Below.refl wp1.heap.size wp1).alloc (Nat.le_refl _) (Obj.cells #[Value.int .i64 0, .int .u32 0, .int .i64 0, .int .i64 0, Value.slice none 0 0] 35 (0, 0)))
      have HXSwp2 := Shut.mk (MapKept.heap_alloc wp1 (Obj.cells #[Value.int .i64 0, .int .u32 0, .int .i64 0, .int .i64 0, Value.slice none 0 0] 35 (0, 0))).1
      generalize World.alloc wp1 _ = wp2 at *
      obtain ⟨s11, hs11⟩ : ∃ s, s = wp1.heap.size := ⟨_, rfl⟩
      have HPOwp2 := Shut.mk (HPOwp1.out.below HAwp2.out)
      have HPTwp2 := Shut.mk (show ∀ j, T2 j → wA.heap.size ≤ j ∧ j < wp2.heap.size from fun j hj => ⟨(HPTwp1.out j hj).1, Nat.lt_of_lt_of_le (HPTwp1.out j hj).2 HAwp2.out.size⟩)
      have HPFwp2 := Shut.mk (HPFwp1.out.quiet HAwp2.out)
      have HPSwp2 := Shut.mk (HPSwp1.out.quiet HAwp2.out)
      have HS11 := Shut.mk (show wA.heap.size ≤ s11 by rw [hs11]; exact HPSwp1.out.only.size)
      have HNX := Shut.mk (show ¬ T2 s11 ∧ late.ownBlock ≠ some s11 from ⟨fun e => by have := (HPTwp1.out _ e).2; omega, fun e => by have := (HPOwp1.out.lt _ e).2; omega⟩)
      have HHS := Shut.mk hs11
      rw [← hs11] at HXSwp2 ⊢
      clear hs11
      refine hK.out _ _ (past (by kernel_rfl)) (fun hC => ?_)
      clear hK K
      try simp only [Act.put, sG1, sG2, sG3, sG4, sG5, sG6]
      refine dQ 16 hC ?_; clear hC; intro hC
      refine wpAnyD_one (i := 17) (by kernel_rfl) rfl hC (fun K hK => ?_)
      clear hC
      refine step_store_part rfl 35 (.tmp 11) (.tmp 67) rfl s11 0 (pkV p0 v) rfl rfl 35 [] [Value.int .i64 0, .int .u32 0, .int .i64 0, .int .i64 0, Value.slice none 0 0] [Value.int .i64 p0.id, .int .u32 p0.flow, .int .i64 p0.tid, .int .i64 p0.at_, v] [] HXSwp2.out rfl rfl rfl size5 (by intro u hu; simp at hu; rcases hu with rfl | rfl | rfl | rfl | rfl <;> first | rfl | exact HV1.out) ?_
      have HOS := Shut.mk (only_setRow wp2 s11 ([] ++ [Value.int .i64 p0.id, .int .u32 p0.flow, .int .i64 p0.tid, .int .i64 p0.at_, v] ++ []).toArray)
      have HXN := Shut.mk (setRow_heap wp2 s11 _ ([] ++ [Value.int .i64 p0.id, .int .u32 p0.flow, .int .i64 p0.tid, .int .i64 p0.at_, v] ++ []).toArray _ (0, 0) HXSwp2.out)
      generalize hq : World.setRow wp2 s11 _ = wp3 at *
      clear hq
      have HPON := Shut.mk (HPOwp2.out.only HOS.out (fun k hk e => HNX.out.2 (e ▸ hk)) (fun k hk e => HNX.out.1 (e ▸ hk)))
      have HPTN := Shut.mk (show ∀ j, T2 j → wA.heap.size ≤ j ∧ j < wp3.heap.size from fun j hj => ⟨(HPTwp2.out j hj).1, Nat.lt_of_lt_of_le (HPTwp2.out j hj).2 HOS.out.size⟩)
      have HPSN := Shut.mk (HPSwp2.out.over HOS.out (fun j e => by have := HS11.out; omega))
      have HRN := Shut.mk (show false = true → (q1.fl b).pk.drop n = p0 :: rr ∧ OwnV wp3 wA.heap.size v p0.body ∧ ∀ k, v.ownBlock = some k → ¬ T2 k ∧ late.ownBlock ≠ some k from fun h => ⟨(HR1.out h).1, owns_base (owns_only (owns_below (HR1.out h).2.1 HAwp2.out) HOS.out (fun k e e2 => by have h1 := (World.ownsRow.lt (HR1.out h).2.1 k e).2; have h2 := HHS.out; omega)) HBW.out, (HR1.out h).2.2⟩)
      have HPFN := Shut.mk (HPFwp2.out.only HOS.out (fun e => by have h1 := HS11.out; have := HFLA.out.lt; omega) (fun j hj e => by rw [HBV.out.1] at hj; have h1 := HS11.out; have := HFLA.out.pk.lt j hj; omega) (fun j hj e => by rw [HBV.out.2] at hj; have h1 := HS11.out; have := HFLA.out.it.lt j hj; omega) (fun j hj e => by have h1 := HS11.out; have := HFLA.out.there j hj; omega))
      refine hK.out _ _ (past (by kernel_rfl)) (fun hC => ?_)
      clear hK K
      try simp only [Act.put, sG1, sG2, sG3, sG4, sG5, sG6]
      refine dQ 18 hC ?_; clear hC; intro hC
      refine wpAnyD_done (by kernel_rfl) ?_ _
      try simp only [Act.put, sG1, sG2, sG3, sG4, sG5, sG6]
      go_wp2_with (fail)
      go_meet
      case rel =>
       rw [← HSA.out]
       exact ⟨s11, p0, v, T2, vp', vi', rr, rfl, rfl, HXN.out, HS11.out, HPON.out, HPTN.out, HRN.out, HR0.out, HPFN.out, FlS.from_ HDA.out HPSN.out, HBV.out.1, HBV.out.2⟩
     ·clear hC
      go_simp
      have HAwp1 := Shut.mk ((Below.refl wA.heap.size wA).alloc (Nat.le_refl _) (Obj.cells #[Value.int .i64 0, .int .u32 0, .int .i64 0, .int .i64 0, Value.slice none 0 0] 35 (0, 0)))
      have HXSwp1 := Shut.mk (MapKept.heap_alloc wA (Obj.cells #[Value.int .i64 0, .int .u32 0, .int .i64 0, .int .i64 0, Value.slice none 0 0] 35 (0, 0))).1
      generalize World.alloc wA _ = wp1 at *
      obtain ⟨s11, hs11⟩ : ∃ s, s = wA.heap.size := ⟨_, rfl⟩
      have HS11 := Shut.mk (show wA.heap.size ≤ s11 by rw [hs11]; exact hHeld.size)
      rw [← hs11] at HXSwp1 ⊢
      clear hs11
      have hHeld2 := hHeld.trans (HAwp1.out.mono hHeld.size)
      clear hHeld
      have hHeld := hHeld2
      clear hHeld2
      refine hK.out _ _ (fun _ => hHeld) (fun hC => ?_)
      clear hK K
      try simp only [Act.put, sG1, sG2, sG3, sG4, sG5, sG6]
      refine wpAnyD_one (i := 10) (by kernel_rfl) rfl hC (fun K hK => ?_)
      clear hC
      go_simp
      refine (flpull_any T x.g (3 + b * 9) _ pre post (V1 b) (V1 (16 + b)) (q1.fl b).pk df t x.tg x.iv (q1.fl b).cd wp1 (HFLA.out.quiet hHeld) HPR.out (HL.out.few.len b HB16.out) (HL.out.few.el b HB16.out) HTT.out (HL.out.few.cd b HB16.out).1 (HL.out.few.cd b HB16.out).2.1 (HL.out.few.cd b HB16.out).2.2 HDB.out (c, n, false) HPL.out).mono ?_
      rintro e' wp2 hE
      obtain ⟨late, T2, p0, v, vp', vi', rr, rfl, hPo, hPt, hv1, hr0, hr1, hPf, hPs, hb1, hb2⟩ := hE.one
      clear hE
      dsimp only at hPo hr0 hr1 hPf hPs ⊢
      have HPOwp2 := Shut.mk (OwnP.base hPo hHeld.size)
      have HPTwp2 := Shut.mk (show ∀ j, T2 j → wA.heap.size ≤ j ∧ j < wp2.heap.size from fun j hj => ⟨Nat.le_trans hHeld.size (hPt j hj).1, (hPt j hj).2⟩)
      have HV1 := Shut.mk hv1
      have HR0 := Shut.mk hr0
      have HR1 := Shut.mk hr1
      have HPFwp2 := Shut.mk hPf
      have HPSwp2 := Shut.mk (FlS.from_ hHeld hPs)
      have HXSwp2 := Shut.mk (hPs.only.at_ HXSwp1.out (fun e => by
       have h1 := HS11.out
       rcases e with e | e | e
       ·have := HFLA.out.lt; omega
       ·have := HFLA.out.pk.lt _ e; omega
       ·have := HFLA.out.it.lt _ e; omega))
      have HNX := Shut.mk (show ¬ T2 s11 ∧ late.ownBlock ≠ some s11 ∧ ∀ k, v.ownBlock = some k → OwnV wp2 wp1.heap.size v p0.body → k ≠ s11 from ⟨fun e => by have h1 := (hPt _ e).1; have h2 := lt_blk HXSwp1.out; omega, fun e => by have h1 := (hPo.lt _ e).1; have h2 := lt_blk HXSwp1.out; omega, fun k e ho => by have h1 := (World.ownsRow.lt ho k e).1; have h2 := lt_blk HXSwp1.out; omega⟩)
      have HBW := Shut.mk hHeld.size
      have HBV := Shut.mk (show vp'.ownBlock = (V1 b).ownBlock ∧ vi'.ownBlock = (V1 (16 + b)).ownBlock from ⟨hb1, hb2⟩)
      clear hb1 hb2
      clear hPo hPt hv1 hr0 hr1 hPf hPs
      refine hK.out _ _ (past (by kernel_rfl)) (fun hC => ?_)
      clear hK K
      try simp only [Act.put, sG1, sG2, sG3, sG4, sG5, sG6]
      refine dQ 11 hC ?_; clear hC; intro hC
      refine dQ 12 hC ?_; clear hC; intro hC
      refine dQ 13 hC ?_; clear hC; intro hC
      refine dQ 14 hC ?_; clear hC; intro hC
      refine dQ 16 hC ?_; clear hC; intro hC
      refine wpAnyD_one (i := 17) (by kernel_rfl) rfl hC (fun K hK => ?_)
      clear hC
      refine step_store_part rfl 35 (.tmp 11) (.tmp 67) rfl s11 0 (pkV p0 v) rfl rfl 35 [] [Value.int .i64 0, .int .u32 0, .int .i64 0, .int .i64 0, Value.slice none 0 0] [Value.int .i64 p0.id, .int .u32 p0.flow, .int .i64 p0.tid, .int .i64 p0.at_, v] [] HXSwp2.out rfl rfl rfl size5 (by intro u hu; simp at hu; rcases hu with rfl | rfl | rfl | rfl | rfl <;> first | rfl | exact HV1.out) ?_
      have HOS := Shut.mk (only_setRow wp2 s11 ([] ++ [Value.int .i64 p0.id, .int .u32 p0.flow, .int .i64 p0.tid, .int .i64 p0.at_, v] ++ []).toArray)
      have HXN := Shut.mk (setRow_heap wp2 s11 _ ([] ++ [Value.int .i64 p0.id, .int .u32 p0.flow, .int .i64 p0.tid, .int .i64 p0.at_, v] ++ []).toArray _ (0, 0) HXSwp2.out)
      generalize hq : World.setRow wp2 s11 _ = wp3 at *
      clear hq
      have HPON := Shut.mk (HPOwp2.out.only HOS.out (fun k hk e => HNX.out.2.1 (e ▸ hk)) (fun k hk e => HNX.out.1 (e ▸ hk)))
      have HPTN := Shut.mk (show ∀ j, T2 j → wA.heap.size ≤ j ∧ j < wp3.heap.size from fun j hj => ⟨(HPTwp2.out j hj).1, Nat.lt_of_lt_of_le (HPTwp2.out j hj).2 HOS.out.size⟩)
      have HPSN := Shut.mk (HPSwp2.out.over HOS.out (fun j e => by have := HS11.out; omega))
      have HRN := Shut.mk (show false = true → (q1.fl b).pk.drop n = p0 :: rr ∧ OwnV wp3 wA.heap.size v p0.body ∧ ∀ k, v.ownBlock = some k → ¬ T2 k ∧ late.ownBlock ≠ some k from fun h => ⟨(HR1.out h).1, owns_base (owns_only (HR1.out h).2.1 HOS.out (fun k e e2 => HNX.out.2.2 k e (HR1.out h).2.1 e2)) HBW.out, (HR1.out h).2.2⟩)
      have HPFN := Shut.mk (HPFwp2.out.only HOS.out (fun e => by have h1 := HS11.out; have := HFLA.out.lt; omega) (fun j hj e => by rw [HBV.out.1] at hj; have h1 := HS11.out; have := HFLA.out.pk.lt j hj; omega) (fun j hj e => by rw [HBV.out.2] at hj; have h1 := HS11.out; have := HFLA.out.it.lt j hj; omega) (fun j hj e => by have h1 := HS11.out; have := HFLA.out.there j hj; omega))
      refine hK.out _ _ (past (by kernel_rfl)) (fun hC => ?_)
      clear hK K
      try simp only [Act.put, sG1, sG2, sG3, sG4, sG5, sG6]
      refine dQ 18 hC ?_; clear hC; intro hC
      refine wpAnyD_done (by kernel_rfl) ?_ _
      try simp only [Act.put, sG1, sG2, sG3, sG4, sG5, sG6]
      go_wp2_with (fail)
      go_meet
      case rel =>
       rw [← HSA.out]
       exact ⟨s11, p0, v, T2, vp', vi', rr, rfl, rfl, HXN.out, HS11.out, HPON.out, HPTN.out, HRN.out, HR0.out, HPFN.out, FlS.from_ HDA.out HPSN.out, HBV.out.1, HBV.out.2⟩
    case rest =>
     obtain ⟨s11, p0, v, T2, vp', vi', rr, rfl, rfl, hxs, hs11, hpo, hpt, hrn, hr0, hpf, hps, hb1, hb2⟩ := hcut
     obtain rfl := hr0 rfl
     have hpf2 : FlB T wc x.g 98 pre post vp' vi' (Fl.pk ⟨[], df, c⟩) (itemsF (Fl.pk ⟨[], df, c⟩)) (bytesF (Fl.pk ⟨[], df, c⟩)) (Fl.df ⟨[], df, c⟩) (Fl.cd ⟨[], df, c⟩) := hpf
     have HPQ := HQ5.out.put_flow hb16 HBK.out (y := ⟨[], df, c⟩) hpf2 hps
     obtain ⟨V3, hV3⟩ : ∃ V3, V3 = upd2 V1 b vp' vi' := ⟨_, rfl⟩
     have HFT := Shut.mk (show ∀ k, FootC x V3 k → FootC x V1 k from fun k hk => by
      rcases hk with h1 | ⟨i, hi, h1⟩
      ·exact .inl h1
      ·rw [hV3] at h1
       unfold upd2 at h1
       split at h1
       ·rw [hb1] at h1; exact .inr ⟨b, by omega, h1⟩
       ·split at h1
        ·rw [hb2] at h1; exact .inr ⟨16 + b, by omega, h1⟩
        ·exact .inr ⟨i, hi, h1⟩)
     rw [← hV3] at HPQ
     have HBQ := Shut.mk (HL.out.toTakeB.step (CqS.from_ HD5.out HPQ.2) HPQ.1)
     have HXS := Shut.mk (show wc.heap[s11]? = some (.cells #[Value.int .i64 p0.id, .int .u32 p0.flow, .int .i64 p0.tid, .int .i64 p0.at_, v] 35 (0, 0)) from hxs)
     have HPO := Shut.mk hpo
     have HPT := Shut.mk hpt
     have HRN := Shut.mk hrn
     have HSW5 := Shut.mk HD5.out.size
     have HDL := Shut.mk (show ds1.length + ((q1.fl b).pk.take n).length ≤ 1000000 from by
      have h1 := takes_pre HL.out.tk
      have h2 := HDS.out
      have h3 := HL.out.few.len b hb16
      rw [List.length_take]; omega)
     have HSL := Shut.mk (lt_blk HL.out.res)
     have HTN := Shut.mk (show ∀ j, (T1 j ∨ T2 j) → s4 < j ∧ j < wc.heap.size from fun j hj => by
      rcases hj with hj | hj
      ·exact HBQ.out.new j hj
      ·have h1 := HPT.out j hj; have h2 := HSW5.out; have h3 := HSL.out; omega)
     have HTD := Shut.mk (show ∀ k, u7.ownBlock = some k → ¬ (T1 k ∨ T2 k) from fun k hk e => by
      rcases e with e | e
      ·obtain ⟨_, _, _, _, h5⟩ := HBQ.out.own; exact h5 k hk e
      ·have h1 := (HL.out.own.lt k hk).2; have h2 := (HPT.out k e).1; have h3 := HSW5.out; omega)
     clear hxs hpo hpt hrn hpf hpf2 hps hb1 hb2 HPQ hV3 hr0
     have HTK := Shut.mk ht
     have HNB := Shut.mk (show (q1.fl b).pk.drop n = [] from List.drop_eq_nil_of_le (by
      have := (pullF_bound (P := P) (x := q1.fl b) (c := c) (n := n) (is := false) (by unfold pullF; rw [HPP.out]; exact HPL.out)).2 rfl
      omega))
     have HGQ := Shut.mk (show goneQ q1 b true c n = ⟨setF q1.fl b ⟨[], df, c⟩, r0, if q1.elder = [] then [] else q1.elder ++ [b]⟩ from by rw [gone_new c n HL.out.inv HLI.out, HNB.out, HDF.out])
     have hpf0 : pullF P (q1.fl b) = (c, n, false) := by unfold pullF; rw [HPP.out]; exact HPL.out
     have HIV := Shut.mk (inv_gone (nw := true) (c := c) HL.out.inv (firstQ_mem HFI.out) (Nat.le_of_eq ((pullF_bound hpf0).2 rfl).symm))
     have HFW := Shut.mk (few_gone (nw := true) HL.out.few hb16 (by rw [HPP.out]; exact HTB.out.1) (by rw [HPP.out]; exact HTB.out.2) hpf0)
     have HMU := Shut.mk (mu_gone (c := c) (n := n) HL.out.inv HFI.out)
     clear ht hpf0
     go_wp2_with (first
      | (refine app_ps T1 T2 (fun j => T1 j ∨ T2 j) rfl (.tmp 69) (.tmp 70) rfl (s4 + 1) w5.heap.size u7 u10 ds1 ((q1.fl b).pk.take n) rfl rfl HBQ.out.own HPO.out (fun _ h => .inl h) (fun _ h => .inr h) HTD.out (fun k hk => (HTN.out k hk).2) HDL.out (by have h1 := HSL.out; have h2 := HBQ.out.st.only.size; have h3 := lt_blk HBQ.out.res; omega) ?_
         intro vD wD hOD hND hFD))
     have HBD := Shut.mk (HBQ.out.drop (fun j hj => HTN.out j (.inr hj)) (fun j hj e => by have h1 := HL.out.is.lts (HFT.out j hj); have h2 := (HPT.out j e).1; have h3 := HSW5.out; omega) hOD.out hND.out hFD.out)
     clear hOD hND hFD
     refine (retire0_any T wD x V3 _ HBD.out.is b r0 HLI.out HLL.out.1 HLL.out.2.1 _ rfl).mono ?_
     rintro e' wb ⟨rfl, Vb, hQb, hCb⟩
     have HQb := Shut.mk hQb
     have HCb := Shut.mk hCb
     clear hQb hCb
     go_wp2_with (fail)
     go_roundg (mu q1)
     case measure => exact HL.out.mul
     case rel => exact ⟨goneQ q1 b true c n, Vb, _, _, { toTakeB := HBD.out.step HCb.out (by rw [HGQ.out]; exact HQb.out), inv := HIV.out, few := HFW.out, tk := HTK.out, mul := HMU.out }⟩
   | false =>
    obtain ⟨hfr, r0, hel⟩ := firstQ_old h1
    have HB16 := Shut.mk (show b < 16 from HL.out.inv.lt b (firstQ_mem h1))
    have hb16 := HB16.out
    have hbi : (b : Int) < 16 := by omega
    have HFI := Shut.mk h1
    have HLI := Shut.mk (show q1.fresh = [] ∧ q1.elder = b :: r0 from ⟨hfr, hel⟩)
    have HTI := Shut.mk (show turnI q1 = 1 by unfold turnI; rw [if_pos hfr])
    have HLL := Shut.mk (show r0.length ≤ 1000 ∧ q1.elder.length ≤ 1000 ∧ q1.fresh.length ≤ 1000 from by
     have h5 := lists_len HL.out.inv
     rw [List.length_append] at h5
     rw [hel, List.length_cons] at h5
     rw [hel, List.length_cons]
     omega)
    obtain ⟨g0, o0, cl, hvl, hrl, -, -⟩ := RowAt.cells (show RowAt wr 3 1 (V1 33) (natsI (b :: r0)).length ((natsI (b :: r0)).map (Value.int .i64)) from by have := HL.out.is.el; rw [hel] at this; exact this) (by simp [natsI])
    have hcb : wr.cell? ⟨g0, o0, none⟩ = some (.int .i64 (b : Nat)) := by have := hrl 0 (.int .i64 (b : Nat)) rfl; simpa using this
    obtain ⟨ln, hln⟩ : ∃ ln, (natsI (b :: r0)).length = ln := ⟨_, rfl⟩
    rw [hln] at hvl
    have hlp : 0 < ln := by rw [← hln]; simp [natsI]
    have hlp' : (0 : Int) < (ln : Int) := by omega
    have hln0 : ((ln : Int) == 0) = false := by simp; omega
    have hcl := HL.out.is.cells.2
    rw [hvl] at hcl
    clear hvl hrl hln hfr hel h1
    go_wp2_with (fail)
    refine (turn_any T wr x V1 q1 HL.out.is).mono ?_
    rintro e' wn ⟨rfl, rfl⟩
    rw [HTI.out]
    go_wp2_with (fail)
    obtain ⟨w5, hw5⟩ : ∃ w5, w5 = World.drew wr := ⟨_, rfl⟩
    have HW5 := Shut.mk hw5
    have HD5 := Shut.mk (show Below wr.heap.size wr w5 by rw [hw5]; exact (Below.refl _ _).drew)
    have HCL5 := Shut.mk (below_at HD5.out hcl)
    have HCB5 := Shut.mk (below_at HD5.out hcb)
    have HQ5 := Shut.mk (HL.out.is.quiet HD5.out)
    clear hw5 hcl hcb
    refine wp_region_D (fun w' => w5 = w') 11 (by kernel_rfl) HW5.out (fun hHeld hC => ?_)
    rw [← HW5.out] at hHeld ⊢
    refine dP 0 hC hHeld ?_; clear hC; intro hC
    refine dP 1 hC hHeld ?_; clear hC; intro hC
    refine dP 2 hC hHeld ?_; clear hC; intro hC
    refine dP 3 hC hHeld ?_; clear hC; intro hC
    refine dP 4 hC hHeld ?_; clear hC; intro hC
    refine dP 5 hC hHeld ?_; clear hC; intro hC
    refine dT 6 hC hHeld (fun w hSw => (show w.cell? ⟨x.g, 148, none⟩ = some (.slice (some ⟨g0, o0, none⟩) ln cl) from by rw [← hSw]; exact HCL5.out)) ?_; clear hC; intro hC
    refine dP 7 hC hHeld ?_; clear hC; intro hC
    refine dT 8 hC hHeld (fun w hSw => (show w.cell? ⟨g0, o0, none⟩ = some (.int .i64 (b : Nat)) from by rw [← hSw]; exact HCB5.out)) ?_; clear hC; intro hC
    refine dP 9 hC hHeld ?_; clear hC; intro hC
    refine dP 10 hC hHeld ?_; clear hC; intro hC
    refine wpAnyD_one (i := 11) (by kernel_rfl) rfl hC (fun K hK => ?_)
    clear hC
    go_simp
    refine hK.out _ _ (past (by kernel_rfl)) (fun hC => ?_)
    clear hK K
    try simp only [Act.put, sG1, sG2, sG3, sG4, sG5, sG6]
    refine dQ 12 hC ?_; clear hC; intro hC
    refine wpAnyD_done (by kernel_rfl) ?_ _
    try simp only [Act.put, sG1, sG2, sG3, sG4, sG5, sG6]
    clear hHeld hC
    have hdf : w5.cell? ⟨x.g, 3 + b * 9 + 3, none⟩ = some (.int .i64 (q1.fl b).df) := HQ5.out.fld hb16 (j := 3) rfl
    have hdb := HL.out.few.df b hb16
    obtain ⟨df, hdfe⟩ : ∃ df, (q1.fl b).df = df := ⟨_, rfl⟩
    have HDF := Shut.mk hdfe
    rw [hdfe] at hdf hd hdb
    clear hdfe
    obtain ⟨pre, post, hpre, hsp, hback⟩ := cq_split x V1 q1.fl hb16
    have HPR := Shut.mk hpre
    have HBK := Shut.mk hback
    have HFL5 := Shut.mk (show FlB T w5 x.g 98 pre post (V1 b) (V1 (16 + b)) (q1.fl b).pk (itemsF (q1.fl b).pk) (bytesF (q1.fl b).pk) df (q1.fl b).cd from by rw [← HDF.out]; exact HQ5.out.flow hb16 hsp)
    clear hpre hsp hback
    have HPL := Shut.mk (show pullR ⟨t, clampR x.tg 0 1073741824, clampR x.iv 0 1073741824⟩ (q1.fl b).cd (bytesF (q1.fl b).pk) (itemsF (q1.fl b).pk) = (c, n, false) from by rw [← HPP.out]; exact hp)
    have HTT := Shut.mk (show 0 ≤ t ∧ t ≤ 4503599627370496 from by have := HTB.out; omega)
    have HDB := Shut.mk (show -4503599627370496 ≤ df ∧ df ≤ 4503599627370496 by omega)
    clear hp
    go_wp2_with (fail)
    go_cut [10, 11, 12] from 54 to 68 (fun s10 s11 s12 wx => ∃ (k : Nat) (p0 : Pk) (v : Value) (T2 : Nat → Prop) (vp' vi' : Value) (rr : List Pk), s11 = .pointer (some ⟨k, 0, none⟩) ∧ s12 = .bool false ∧ wx.heap[k]? = some (.cells ([] ++ [Value.int .i64 p0.id, .int .u32 p0.flow, .int .i64 p0.tid, .int .i64 p0.at_, v] ++ []).toArray 35 (0, 0)) ∧ w5.heap.size ≤ k ∧ OwnP T2 wx w5.heap.size s10 ((q1.fl b).pk.take n) ∧ (∀ j, T2 j → w5.heap.size ≤ j ∧ j < wx.heap.size) ∧
     (false = true → (q1.fl b).pk.drop n = p0 :: rr ∧ OwnV wx w5.heap.size v p0.body ∧ ∀ k, v.ownBlock = some k → ¬ T2 k ∧ s10.ownBlock ≠ some k) ∧ (false = false → rr = []) ∧
     FlB T wx x.g 98 pre post vp' vi' rr (itemsF rr) (bytesF rr) (if false = true then df - (p0.body.length : Nat) else df) c ∧ FlS T w5 x.g (V1 b) (V1 (16 + b)) T wx vp' vi' ∧ vp'.ownBlock = (V1 b).ownBlock ∧ vi'.ownBlock = (V1 (16 + b)).ownBlock)
    case first =>
     obtain ⟨wA, hwA⟩ : ∃ wA, wA = World.drew w5 := ⟨_, rfl⟩
     have HWA := Shut.mk hwA
     have HSA := Shut.mk (show wA.heap.size = w5.heap.size by rw [hwA]; rfl)
     have HDA := Shut.mk (show Below w5.heap.size w5 wA by rw [hwA]; exact (Below.refl _ _).drew)
     have HQA := Shut.mk (HQ5.out.quiet HDA.out)
     have HFLA := Shut.mk (HFL5.out.quiet HDA.out)
     clear hwA
     refine wp_region_D (fun w' => Below wA.heap.size wA w') 10 (by kernel_rfl) (show Below wA.heap.size wA (World.drew w5) by rw [HWA.out]; exact Below.refl _ _) (fun hHeld hC => ?_)
     rw [← HWA.out] at hHeld ⊢
     refine dP 0 hC hHeld ?_; clear hC; intro hC
     refine dP 1 hC hHeld ?_; clear hC; intro hC
     refine dP 2 hC hHeld ?_; clear hC; intro hC
     refine dP 3 hC hHeld ?_; clear hC; intro hC
     refine dP 4 hC hHeld ?_; clear hC; intro hC
     refine dT 5 hC hHeld (fun w hSw => (show w.cell? ⟨x.g, 1, none⟩ = some (.int .i64 x.tg) from below_at hSw HQA.out.head.2.1)) ?_; clear hC; intro hC
     refine dP 6 hC hHeld ?_; clear hC; intro hC
     refine dP 7 hC hHeld ?_; clear hC; intro hC
     refine dP 8 hC hHeld ?_; clear hC; intro hC
     refine dT 9 hC hHeld (fun w hSw => (show w.cell? ⟨x.g, 2, none⟩ = some (.int .i64 x.iv) from below_at hSw HQA.out.head.2.2)) ?_; clear hC; intro hC
     refine wpAnyD_all (rs := [10, 15]) (by kernel_rfl) (by simp) hC (all_cons ⟨_, rfl, fun K hK => ?_⟩ (all_cons ⟨_, rfl, fun K hK => ?_⟩ all_nil))
     ·clear hC
      go_simp
      refine (flpull_any T x.g (3 + b * 9) _ pre post (V1 b) (V1 (16 + b)) (q1.fl b).pk df t x.tg x.iv (q1.fl b).cd wA (HFLA.out.quiet hHeld) HPR.out (HL.out.few.len b HB16.out) (HL.out.few.el b HB16.out) HTT.out (HL.out.few.cd b HB16.out).1 (HL.out.few.cd b HB16.out).2.1 (HL.out.few.cd b HB16.out).2.2 HDB.out (c, n, false) HPL.out).mono ?_
      rintro e' wp1 hE
      obtain ⟨late, T2, p0, v, vp', vi', rr, rfl, hPo, hPt, hv1, hr0, hr1, hPf, hPs, hb1, hb2⟩ := hE.one
      clear hE
      dsimp only at hPo hr0 hr1 hPf hPs ⊢
      have HPOwp1 := Shut.mk (OwnP.base hPo hHeld.size)
      have HPTwp1 := Shut.mk (show ∀ j, T2 j → wA.heap.size ≤ j ∧ j < wp1.heap.size from fun j hj => ⟨Nat.le_trans hHeld.size (hPt j hj).1, (hPt j hj).2⟩)
      have HV1 := Shut.mk hv1
      have HR0 := Shut.mk hr0
      have HR1 := Shut.mk hr1
      have HPFwp1 := Shut.mk hPf
      have HPSwp1 := Shut.mk (FlS.from_ hHeld hPs)
      have HBW := Shut.mk hHeld.size
      have HBV := Shut.mk (show vp'.ownBlock = (V1 b).ownBlock ∧ vi'.ownBlock = (V1 (16 + b)).ownBlock from ⟨hb1, hb2⟩)
      clear hb1 hb2
      clear hPo hPt hv1 hr0 hr1 hPf hPs
      refine hK.out _ _ (past (by kernel_rfl)) (fun hC => ?_)
      clear hK K
      try simp only [Act.put, sG1, sG2, sG3, sG4, sG5, sG6]
      refine dQ 11 hC ?_; clear hC; intro hC
      refine dQ 12 hC ?_; clear hC; intro hC
      refine dQ 13 hC ?_; clear hC; intro hC
      refine dQ 14 hC ?_; clear hC; intro hC
      refine wpAnyD_one (i := 15) (by kernel_rfl) rfl hC (fun K hK => ?_)
      clear hC
      go_simp
      have HAwp2 := Shut.mk ((Below.refl wp1.heap.size wp1).alloc (Nat.le_refl _) (Obj.cells #[Value.int .i64 0, .int .u32 0, .int .i64 0, .int .i64 0, Value.slice none 0 0] 35 (0, 0)))
      have HXSwp2 := Shut.mk (MapKept.heap_alloc wp1 (Obj.cells #[Value.int .i64 0, .int .u32 0, .int .i64 0, .int .i64 0, Value.slice none 0 0] 35 (0, 0))).1
      generalize World.alloc wp1 _ = wp2 at *
      obtain ⟨s11, hs11⟩ : ∃ s, s = wp1.heap.size := ⟨_, rfl⟩
      have HPOwp2 := Shut.mk (HPOwp1.out.below HAwp2.out)
      have HPTwp2 := Shut.mk (show ∀ j, T2 j → wA.heap.size ≤ j ∧ j < wp2.heap.size from fun j hj => ⟨(HPTwp1.out j hj).1, Nat.lt_of_lt_of_le (HPTwp1.out j hj).2 HAwp2.out.size⟩)
      have HPFwp2 := Shut.mk (HPFwp1.out.quiet HAwp2.out)
      have HPSwp2 := Shut.mk (HPSwp1.out.quiet HAwp2.out)
      have HS11 := Shut.mk (show wA.heap.size ≤ s11 by rw [hs11]; exact HPSwp1.out.only.size)
      have HNX := Shut.mk (show ¬ T2 s11 ∧ late.ownBlock ≠ some s11 from ⟨fun e => by have := (HPTwp1.out _ e).2; omega, fun e => by have := (HPOwp1.out.lt _ e).2; omega⟩)
      have HHS := Shut.mk hs11
      rw [← hs11] at HXSwp2 ⊢
      clear hs11
      refine hK.out _ _ (past (by kernel_rfl)) (fun hC => ?_)
      clear hK K
      try simp only [Act.put, sG1, sG2, sG3, sG4, sG5, sG6]
      refine dQ 16 hC ?_; clear hC; intro hC
      refine wpAnyD_one (i := 17) (by kernel_rfl) rfl hC (fun K hK => ?_)
      clear hC
      refine step_store_part rfl 35 (.tmp 11) (.tmp 67) rfl s11 0 (pkV p0 v) rfl rfl 35 [] [Value.int .i64 0, .int .u32 0, .int .i64 0, .int .i64 0, Value.slice none 0 0] [Value.int .i64 p0.id, .int .u32 p0.flow, .int .i64 p0.tid, .int .i64 p0.at_, v] [] HXSwp2.out rfl rfl rfl size5 (by intro u hu; simp at hu; rcases hu with rfl | rfl | rfl | rfl | rfl <;> first | rfl | exact HV1.out) ?_
      have HOS := Shut.mk (only_setRow wp2 s11 ([] ++ [Value.int .i64 p0.id, .int .u32 p0.flow, .int .i64 p0.tid, .int .i64 p0.at_, v] ++ []).toArray)
      have HXN := Shut.mk (setRow_heap wp2 s11 _ ([] ++ [Value.int .i64 p0.id, .int .u32 p0.flow, .int .i64 p0.tid, .int .i64 p0.at_, v] ++ []).toArray _ (0, 0) HXSwp2.out)
      generalize hq : World.setRow wp2 s11 _ = wp3 at *
      clear hq
      have HPON := Shut.mk (HPOwp2.out.only HOS.out (fun k hk e => HNX.out.2 (e ▸ hk)) (fun k hk e => HNX.out.1 (e ▸ hk)))
      have HPTN := Shut.mk (show ∀ j, T2 j → wA.heap.size ≤ j ∧ j < wp3.heap.size from fun j hj => ⟨(HPTwp2.out j hj).1, Nat.lt_of_lt_of_le (HPTwp2.out j hj).2 HOS.out.size⟩)
      have HPSN := Shut.mk (HPSwp2.out.over HOS.out (fun j e => by have := HS11.out; omega))
      have HRN := Shut.mk (show false = true → (q1.fl b).pk.drop n = p0 :: rr ∧ OwnV wp3 wA.heap.size v p0.body ∧ ∀ k, v.ownBlock = some k → ¬ T2 k ∧ late.ownBlock ≠ some k from fun h => ⟨(HR1.out h).1, owns_base (owns_only (owns_below (HR1.out h).2.1 HAwp2.out) HOS.out (fun k e e2 => by have h1 := (World.ownsRow.lt (HR1.out h).2.1 k e).2; have h2 := HHS.out; omega)) HBW.out, (HR1.out h).2.2⟩)
      have HPFN := Shut.mk (HPFwp2.out.only HOS.out (fun e => by have h1 := HS11.out; have := HFLA.out.lt; omega) (fun j hj e => by rw [HBV.out.1] at hj; have h1 := HS11.out; have := HFLA.out.pk.lt j hj; omega) (fun j hj e => by rw [HBV.out.2] at hj; have h1 := HS11.out; have := HFLA.out.it.lt j hj; omega) (fun j hj e => by have h1 := HS11.out; have := HFLA.out.there j hj; omega))
      refine hK.out _ _ (past (by kernel_rfl)) (fun hC => ?_)
      clear hK K
      try simp only [Act.put, sG1, sG2, sG3, sG4, sG5, sG6]
      refine dQ 18 hC ?_; clear hC; intro hC
      refine wpAnyD_done (by kernel_rfl) ?_ _
      try simp only [Act.put, sG1, sG2, sG3, sG4, sG5, sG6]
      go_wp2_with (fail)
      go_meet
      case rel =>
       rw [← HSA.out]
       exact ⟨s11, p0, v, T2, vp', vi', rr, rfl, rfl, HXN.out, HS11.out, HPON.out, HPTN.out, HRN.out, HR0.out, HPFN.out, FlS.from_ HDA.out HPSN.out, HBV.out.1, HBV.out.2⟩
     ·clear hC
      go_simp
      have HAwp1 := Shut.mk ((Below.refl wA.heap.size wA).alloc (Nat.le_refl _) (Obj.cells #[Value.int .i64 0, .int .u32 0, .int .i64 0, .int .i64 0, Value.slice none 0 0] 35 (0, 0)))
      have HXSwp1 := Shut.mk (MapKept.heap_alloc wA (Obj.cells #[Value.int .i64 0, .int .u32 0, .int .i64 0, .int .i64 0, Value.slice none 0 0] 35 (0, 0))).1
      generalize World.alloc wA _ = wp1 at *
      obtain ⟨s11, hs11⟩ : ∃ s, s = wA.heap.size := ⟨_, rfl⟩
      have HS11 := Shut.mk (show wA.heap.size ≤ s11 by rw [hs11]; exact hHeld.size)
      rw [← hs11] at HXSwp1 ⊢
      clear hs11
      have hHeld2 := hHeld.trans (HAwp1.out.mono hHeld.size)
      clear hHeld
      have hHeld := hHeld2
      clear hHeld2
      refine hK.out _ _ (fun _ => hHeld) (fun hC => ?_)
      clear hK K
      try simp only [Act.put, sG1, sG2, sG3, sG4, sG5, sG6]
      refine wpAnyD_one (i := 10) (by kernel_rfl) rfl hC (fun K hK => ?_)
      clear hC
      go_simp
      refine (flpull_any T x.g (3 + b * 9) _ pre post (V1 b) (V1 (16 + b)) (q1.fl b).pk df t x.tg x.iv (q1.fl b).cd wp1 (HFLA.out.quiet hHeld) HPR.out (HL.out.few.len b HB16.out) (HL.out.few.el b HB16.out) HTT.out (HL.out.few.cd b HB16.out).1 (HL.out.few.cd b HB16.out).2.1 (HL.out.few.cd b HB16.out).2.2 HDB.out (c, n, false) HPL.out).mono ?_
      rintro e' wp2 hE
      obtain ⟨late, T2, p0, v, vp', vi', rr, rfl, hPo, hPt, hv1, hr0, hr1, hPf, hPs, hb1, hb2⟩ := hE.one
      clear hE
      dsimp only at hPo hr0 hr1 hPf hPs ⊢
      have HPOwp2 := Shut.mk (OwnP.base hPo hHeld.size)
      have HPTwp2 := Shut.mk (show ∀ j, T2 j → wA.heap.size ≤ j ∧ j < wp2.heap.size from fun j hj => ⟨Nat.le_trans hHeld.size (hPt j hj).1, (hPt j hj).2⟩)
      have HV1 := Shut.mk hv1
      have HR0 := Shut.mk hr0
      have HR1 := Shut.mk hr1
      have HPFwp2 := Shut.mk hPf
      have HPSwp2 := Shut.mk (FlS.from_ hHeld hPs)
      have HXSwp2 := Shut.mk (hPs.only.at_ HXSwp1.out (fun e => by
       have h1 := HS11.out
       rcases e with e | e | e
       ·have := HFLA.out.lt; omega
       ·have := HFLA.out.pk.lt _ e; omega
       ·have := HFLA.out.it.lt _ e; omega))
      have HNX := Shut.mk (show ¬ T2 s11 ∧ late.ownBlock ≠ some s11 ∧ ∀ k, v.ownBlock = some k → OwnV wp2 wp1.heap.size v p0.body → k ≠ s11 from ⟨fun e => by have h1 := (hPt _ e).1; have h2 := lt_blk HXSwp1.out; omega, fun e => by have h1 := (hPo.lt _ e).1; have h2 := lt_blk HXSwp1.out; omega, fun k e ho => by have h1 := (World.ownsRow.lt ho k e).1; have h2 := lt_blk HXSwp1.out; omega⟩)
      have HBW := Shut.mk hHeld.size
      have HBV := Shut.mk (show vp'.ownBlock = (V1 b).ownBlock ∧ vi'.ownBlock = (V1 (16 + b)).ownBlock from ⟨hb1, hb2⟩)
      clear hb1 hb2
      clear hPo hPt hv1 hr0 hr1 hPf hPs
      refine hK.out _ _ (past (by kernel_rfl)) (fun hC => ?_)
      clear hK K
      try simp only [Act.put, sG1, sG2, sG3, sG4, sG5, sG6]
      refine dQ 11 hC ?_; clear hC; intro hC
      refine dQ 12 hC ?_; clear hC; intro hC
      refine dQ 13 hC ?_; clear hC; intro hC
      refine dQ 14 hC ?_; clear hC; intro hC
      refine dQ 16 hC ?_; clear hC; intro hC
      refine wpAnyD_one (i := 17) (by kernel_rfl) rfl hC (fun K hK => ?_)
      clear hC
      refine step_store_part rfl 35 (.tmp 11) (.tmp 67) rfl s11 0 (pkV p0 v) rfl rfl 35 [] [Value.int .i64 0, .int .u32 0, .int .i64 0, .int .i64 0, Value.slice none 0 0] [Value.int .i64 p0.id, .int .u32 p0.flow, .int .i64 p0.tid, .int .i64 p0.at_, v] [] HXSwp2.out rfl rfl rfl size5 (by intro u hu; simp at hu; rcases hu with rfl | rfl | rfl | rfl | rfl <;> first | rfl | exact HV1.out) ?_
      have HOS := Shut.mk (only_setRow wp2 s11 ([] ++ [Value.int .i64 p0.id, .int .u32 p0.flow, .int .i64 p0.tid, .int .i64 p0.at_, v] ++ []).toArray)
      have HXN := Shut.mk (setRow_heap wp2 s11 _ ([] ++ [Value.int .i64 p0.id, .int .u32 p0.flow, .int .i64 p0.tid, .int .i64 p0.at_, v] ++ []).toArray _ (0, 0) HXSwp2.out)
      generalize hq : World.setRow wp2 s11 _ = wp3 at *
      clear hq
      have HPON := Shut.mk (HPOwp2.out.only HOS.out (fun k hk e => HNX.out.2.1 (e ▸ hk)) (fun k hk e => HNX.out.1 (e ▸ hk)))
      have HPTN := Shut.mk (show ∀ j, T2 j → wA.heap.size ≤ j ∧ j < wp3.heap.size from fun j hj => ⟨(HPTwp2.out j hj).1, Nat.lt_of_lt_of_le (HPTwp2.out j hj).2 HOS.out.size⟩)
      have HPSN := Shut.mk (HPSwp2.out.over HOS.out (fun j e => by have := HS11.out; omega))
      have HRN := Shut.mk (show false = true → (q1.fl b).pk.drop n = p0 :: rr ∧ OwnV wp3 wA.heap.size v p0.body ∧ ∀ k, v.ownBlock = some k → ¬ T2 k ∧ late.ownBlock ≠ some k from fun h => ⟨(HR1.out h).1, owns_base (owns_only (HR1.out h).2.1 HOS.out (fun k e e2 => HNX.out.2.2 k e (HR1.out h).2.1 e2)) HBW.out, (HR1.out h).2.2⟩)
      have HPFN := Shut.mk (HPFwp2.out.only HOS.out (fun e => by have h1 := HS11.out; have := HFLA.out.lt; omega) (fun j hj e => by rw [HBV.out.1] at hj; have h1 := HS11.out; have := HFLA.out.pk.lt j hj; omega) (fun j hj e => by rw [HBV.out.2] at hj; have h1 := HS11.out; have := HFLA.out.it.lt j hj; omega) (fun j hj e => by have h1 := HS11.out; have := HFLA.out.there j hj; omega))
      refine hK.out _ _ (past (by kernel_rfl)) (fun hC => ?_)
      clear hK K
      try simp only [Act.put, sG1, sG2, sG3, sG4, sG5, sG6]
      refine dQ 18 hC ?_; clear hC; intro hC
      refine wpAnyD_done (by kernel_rfl) ?_ _
      try simp only [Act.put, sG1, sG2, sG3, sG4, sG5, sG6]
      go_wp2_with (fail)
      go_meet
      case rel =>
       rw [← HSA.out]
       exact ⟨s11, p0, v, T2, vp', vi', rr, rfl, rfl, HXN.out, HS11.out, HPON.out, HPTN.out, HRN.out, HR0.out, HPFN.out, FlS.from_ HDA.out HPSN.out, HBV.out.1, HBV.out.2⟩
    case rest =>
     obtain ⟨s11, p0, v, T2, vp', vi', rr, rfl, rfl, hxs, hs11, hpo, hpt, hrn, hr0, hpf, hps, hb1, hb2⟩ := hcut
     obtain rfl := hr0 rfl
     have hpf2 : FlB T wc x.g 98 pre post vp' vi' (Fl.pk ⟨[], df, c⟩) (itemsF (Fl.pk ⟨[], df, c⟩)) (bytesF (Fl.pk ⟨[], df, c⟩)) (Fl.df ⟨[], df, c⟩) (Fl.cd ⟨[], df, c⟩) := hpf
     have HPQ := HQ5.out.put_flow hb16 HBK.out (y := ⟨[], df, c⟩) hpf2 hps
     obtain ⟨V3, hV3⟩ : ∃ V3, V3 = upd2 V1 b vp' vi' := ⟨_, rfl⟩
     have HFT := Shut.mk (show ∀ k, FootC x V3 k → FootC x V1 k from fun k hk => by
      rcases hk with h1 | ⟨i, hi, h1⟩
      ·exact .inl h1
      ·rw [hV3] at h1
       unfold upd2 at h1
       split at h1
       ·rw [hb1] at h1; exact .inr ⟨b, by omega, h1⟩
       ·split at h1
        ·rw [hb2] at h1; exact .inr ⟨16 + b, by omega, h1⟩
        ·exact .inr ⟨i, hi, h1⟩)
     rw [← hV3] at HPQ
     have HBQ := Shut.mk (HL.out.toTakeB.step (CqS.from_ HD5.out HPQ.2) HPQ.1)
     have HXS := Shut.mk (show wc.heap[s11]? = some (.cells #[Value.int .i64 p0.id, .int .u32 p0.flow, .int .i64 p0.tid, .int .i64 p0.at_, v] 35 (0, 0)) from hxs)
     have HPO := Shut.mk hpo
     have HPT := Shut.mk hpt
     have HRN := Shut.mk hrn
     have HSW5 := Shut.mk HD5.out.size
     have HDL := Shut.mk (show ds1.length + ((q1.fl b).pk.take n).length ≤ 1000000 from by
      have h1 := takes_pre HL.out.tk
      have h2 := HDS.out
      have h3 := HL.out.few.len b hb16
      rw [List.length_take]; omega)
     have HSL := Shut.mk (lt_blk HL.out.res)
     have HTN := Shut.mk (show ∀ j, (T1 j ∨ T2 j) → s4 < j ∧ j < wc.heap.size from fun j hj => by
      rcases hj with hj | hj
      ·exact HBQ.out.new j hj
      ·have h1 := HPT.out j hj; have h2 := HSW5.out; have h3 := HSL.out; omega)
     have HTD := Shut.mk (show ∀ k, u7.ownBlock = some k → ¬ (T1 k ∨ T2 k) from fun k hk e => by
      rcases e with e | e
      ·obtain ⟨_, _, _, _, h5⟩ := HBQ.out.own; exact h5 k hk e
      ·have h1 := (HL.out.own.lt k hk).2; have h2 := (HPT.out k e).1; have h3 := HSW5.out; omega)
     clear hxs hpo hpt hrn hpf hpf2 hps hb1 hb2 HPQ hV3 hr0
     have HTK := Shut.mk ht
     have HNB := Shut.mk (show (q1.fl b).pk.drop n = [] from List.drop_eq_nil_of_le (by
      have := (pullF_bound (P := P) (x := q1.fl b) (c := c) (n := n) (is := false) (by unfold pullF; rw [HPP.out]; exact HPL.out)).2 rfl
      omega))
     have HGQ := Shut.mk (show goneQ q1 b false c n = ⟨setF q1.fl b ⟨[], df, c⟩, [], r0⟩ from by rw [gone_old c n HL.out.inv HLI.out.1 HLI.out.2, HNB.out, HDF.out])
     have hpf0 : pullF P (q1.fl b) = (c, n, false) := by unfold pullF; rw [HPP.out]; exact HPL.out
     have HIV := Shut.mk (inv_gone (nw := false) (c := c) HL.out.inv (firstQ_mem HFI.out) (Nat.le_of_eq ((pullF_bound hpf0).2 rfl).symm))
     have HFW := Shut.mk (few_gone (nw := false) HL.out.few hb16 (by rw [HPP.out]; exact HTB.out.1) (by rw [HPP.out]; exact HTB.out.2) hpf0)
     have HMU := Shut.mk (mu_gone (c := c) (n := n) HL.out.inv HFI.out)
     clear ht hpf0
     go_wp2_with (first
      | (refine app_ps T1 T2 (fun j => T1 j ∨ T2 j) rfl (.tmp 69) (.tmp 70) rfl (s4 + 1) w5.heap.size u7 u10 ds1 ((q1.fl b).pk.take n) rfl rfl HBQ.out.own HPO.out (fun _ h => .inl h) (fun _ h => .inr h) HTD.out (fun k hk => (HTN.out k hk).2) HDL.out (by have h1 := HSL.out; have h2 := HBQ.out.st.only.size; have h3 := lt_blk HBQ.out.res; omega) ?_
         intro vD wD hOD hND hFD))
     have HBD := Shut.mk (HBQ.out.drop (fun j hj => HTN.out j (.inr hj)) (fun j hj e => by have h1 := HL.out.is.lts (HFT.out j hj); have h2 := (HPT.out j e).1; have h3 := HSW5.out; omega) hOD.out hND.out hFD.out)
     clear hOD hND hFD
     refine (retire1_any T wD x V3 _ HBD.out.is b r0 HLI.out.2 HLL.out.1).mono ?_
     rintro e' wb ⟨rfl, Vb, hQb, hCb⟩
     have HQb := Shut.mk hQb
     have HCb := Shut.mk hCb
     clear hQb hCb
     go_wp2_with (fail)
     go_roundg (mu q1)
     case measure => exact HL.out.mul
     case rel => exact ⟨goneQ q1 b false c n, Vb, _, _, { toTakeB := HBD.out.step HCb.out (by rw [HGQ.out]; have := HQb.out; rw [HLI.out.1] at this; exact this), inv := HIV.out, few := HFW.out, tk := HTK.out, mul := HMU.out }⟩
  ·clear hL
   cases nw with
   | true =>
    obtain ⟨r0, hfr⟩ := firstQ_new h1
    have HB16 := Shut.mk (show b < 16 from HL.out.inv.lt b (firstQ_mem h1))
    have hb16 := HB16.out
    have hbi : (b : Int) < 16 := by omega
    have HFI := Shut.mk h1
    have HLI := Shut.mk (show q1.fresh = b :: r0 from hfr)
    have HTI := Shut.mk (show turnI q1 = 0 by unfold turnI; rw [if_neg (by rw [hfr]; simp)])
    have HLL := Shut.mk (show r0.length ≤ 1000 ∧ q1.elder.length ≤ 1000 ∧ q1.fresh.length ≤ 1000 from by
     have h5 := lists_len HL.out.inv
     rw [List.length_append] at h5
     rw [hfr, List.length_cons] at h5
     rw [hfr, List.length_cons]
     omega)
    obtain ⟨g0, o0, cl, hvl, hrl, -, -⟩ := RowAt.cells (show RowAt wr 3 1 (V1 32) (natsI (b :: r0)).length ((natsI (b :: r0)).map (Value.int .i64)) from by have := HL.out.is.fr; rw [hfr] at this; exact this) (by simp [natsI])
    have hcb : wr.cell? ⟨g0, o0, none⟩ = some (.int .i64 (b : Nat)) := by have := hrl 0 (.int .i64 (b : Nat)) rfl; simpa using this
    obtain ⟨ln, hln⟩ : ∃ ln, (natsI (b :: r0)).length = ln := ⟨_, rfl⟩
    rw [hln] at hvl
    have hlp : 0 < ln := by rw [← hln]; simp [natsI]
    have hlp' : (0 : Int) < (ln : Int) := by omega
    have hln0 : ((ln : Int) == 0) = false := by simp; omega
    have hcl := HL.out.is.cells.1
    rw [hvl] at hcl
    clear hvl hrl hln hfr  h1
    go_wp2_with (fail)
    refine (turn_any T wr x V1 q1 HL.out.is).mono ?_
    rintro e' wn ⟨rfl, rfl⟩
    rw [HTI.out]
    go_wp2_with (fail)
    obtain ⟨w5, hw5⟩ : ∃ w5, w5 = World.drew wr := ⟨_, rfl⟩
    have HW5 := Shut.mk hw5
    have HD5 := Shut.mk (show Below wr.heap.size wr w5 by rw [hw5]; exact (Below.refl _ _).drew)
    have HCL5 := Shut.mk (below_at HD5.out hcl)
    have HCB5 := Shut.mk (below_at HD5.out hcb)
    have HQ5 := Shut.mk (HL.out.is.quiet HD5.out)
    clear hw5 hcl hcb
    refine wp_region_D (fun w' => w5 = w') 11 (by kernel_rfl) HW5.out (fun hHeld hC => ?_)
    rw [← HW5.out] at hHeld ⊢
    refine dP 0 hC hHeld ?_; clear hC; intro hC
    refine dP 1 hC hHeld ?_; clear hC; intro hC
    refine dP 2 hC hHeld ?_; clear hC; intro hC
    refine dP 3 hC hHeld ?_; clear hC; intro hC
    refine dP 4 hC hHeld ?_; clear hC; intro hC
    refine dP 5 hC hHeld ?_; clear hC; intro hC
    refine dT 6 hC hHeld (fun w hSw => (show w.cell? ⟨x.g, 147, none⟩ = some (.slice (some ⟨g0, o0, none⟩) ln cl) from by rw [← hSw]; exact HCL5.out)) ?_; clear hC; intro hC
    refine dP 7 hC hHeld ?_; clear hC; intro hC
    refine dT 8 hC hHeld (fun w hSw => (show w.cell? ⟨g0, o0, none⟩ = some (.int .i64 (b : Nat)) from by rw [← hSw]; exact HCB5.out)) ?_; clear hC; intro hC
    refine dP 9 hC hHeld ?_; clear hC; intro hC
    refine dP 10 hC hHeld ?_; clear hC; intro hC
    refine wpAnyD_one (i := 11) (by kernel_rfl) rfl hC (fun K hK => ?_)
    clear hC
    go_simp
    refine hK.out _ _ (past (by kernel_rfl)) (fun hC => ?_)
    clear hK K
    try simp only [Act.put, sG1, sG2, sG3, sG4, sG5, sG6]
    refine dQ 12 hC ?_; clear hC; intro hC
    refine wpAnyD_done (by kernel_rfl) ?_ _
    try simp only [Act.put, sG1, sG2, sG3, sG4, sG5, sG6]
    clear hHeld hC
    have hdf : w5.cell? ⟨x.g, 3 + b * 9 + 3, none⟩ = some (.int .i64 (q1.fl b).df) := HQ5.out.fld hb16 (j := 3) rfl
    have hdb := HL.out.few.df b hb16
    obtain ⟨df, hdfe⟩ : ∃ df, (q1.fl b).df = df := ⟨_, rfl⟩
    have HDF := Shut.mk hdfe
    rw [hdfe] at hdf hd hdb
    clear hdfe
    obtain ⟨pre, post, hpre, hsp, hback⟩ := cq_split x V1 q1.fl hb16
    have HPR := Shut.mk hpre
    have HBK := Shut.mk hback
    have HFL5 := Shut.mk (show FlB T w5 x.g 98 pre post (V1 b) (V1 (16 + b)) (q1.fl b).pk (itemsF (q1.fl b).pk) (bytesF (q1.fl b).pk) df (q1.fl b).cd from by rw [← HDF.out]; exact HQ5.out.flow hb16 hsp)
    clear hpre hsp hback
    have HPL := Shut.mk (show pullR ⟨t, clampR x.tg 0 1073741824, clampR x.iv 0 1073741824⟩ (q1.fl b).cd (bytesF (q1.fl b).pk) (itemsF (q1.fl b).pk) = (c, n, true) from by rw [← HPP.out]; exact hp)
    have HTT := Shut.mk (show 0 ≤ t ∧ t ≤ 4503599627370496 from by have := HTB.out; omega)
    have HDB := Shut.mk (show -4503599627370496 ≤ df ∧ df ≤ 4503599627370496 by omega)
    clear hp
    go_wp2_with (fail)
    go_cut [10, 11, 12] from 54 to 68 (fun s10 s11 s12 wx => ∃ (k : Nat) (p0 : Pk) (v : Value) (T2 : Nat → Prop) (vp' vi' : Value) (rr : List Pk), s11 = .pointer (some ⟨k, 0, none⟩) ∧ s12 = .bool true ∧ wx.heap[k]? = some (.cells ([] ++ [Value.int .i64 p0.id, .int .u32 p0.flow, .int .i64 p0.tid, .int .i64 p0.at_, v] ++ []).toArray 35 (0, 0)) ∧ w5.heap.size ≤ k ∧ OwnP T2 wx w5.heap.size s10 ((q1.fl b).pk.take n) ∧ (∀ j, T2 j → w5.heap.size ≤ j ∧ j < wx.heap.size) ∧
     (true = true → (q1.fl b).pk.drop n = p0 :: rr ∧ OwnV wx w5.heap.size v p0.body ∧ ∀ k, v.ownBlock = some k → ¬ T2 k ∧ s10.ownBlock ≠ some k) ∧ (true = false → rr = []) ∧
     FlB T wx x.g 98 pre post vp' vi' rr (itemsF rr) (bytesF rr) (if true = true then df - (p0.body.length : Nat) else df) c ∧ FlS T w5 x.g (V1 b) (V1 (16 + b)) T wx vp' vi' ∧ vp'.ownBlock = (V1 b).ownBlock ∧ vi'.ownBlock = (V1 (16 + b)).ownBlock)
    case first =>
     obtain ⟨wA, hwA⟩ : ∃ wA, wA = World.drew w5 := ⟨_, rfl⟩
     have HWA := Shut.mk hwA
     have HSA := Shut.mk (show wA.heap.size = w5.heap.size by rw [hwA]; rfl)
     have HDA := Shut.mk (show Below w5.heap.size w5 wA by rw [hwA]; exact (Below.refl _ _).drew)
     have HQA := Shut.mk (HQ5.out.quiet HDA.out)
     have HFLA := Shut.mk (HFL5.out.quiet HDA.out)
     clear hwA
     refine wp_region_D (fun w' => Below wA.heap.size wA w') 10 (by kernel_rfl) (show Below wA.heap.size wA (World.drew w5) by rw [HWA.out]; exact Below.refl _ _) (fun hHeld hC => ?_)
     rw [← HWA.out] at hHeld ⊢
     refine dP 0 hC hHeld ?_; clear hC; intro hC
     refine dP 1 hC hHeld ?_; clear hC; intro hC
     refine dP 2 hC hHeld ?_; clear hC; intro hC
     refine dP 3 hC hHeld ?_; clear hC; intro hC
     refine dP 4 hC hHeld ?_; clear hC; intro hC
     refine dT 5 hC hHeld (fun w hSw => (show w.cell? ⟨x.g, 1, none⟩ = some (.int .i64 x.tg) from below_at hSw HQA.out.head.2.1)) ?_; clear hC; intro hC
     refine dP 6 hC hHeld ?_; clear hC; intro hC
     refine dP 7 hC hHeld ?_; clear hC; intro hC
     refine dP 8 hC hHeld ?_; clear hC; intro hC
     refine dT 9 hC hHeld (fun w hSw => (show w.cell? ⟨x.g, 2, none⟩ = some (.int .i64 x.iv) from below_at hSw HQA.out.head.2.2)) ?_; clear hC; intro hC
     refine wpAnyD_all (rs := [10, 15]) (by kernel_rfl) (by simp) hC (all_cons ⟨_, rfl, fun K hK => ?_⟩ (all_cons ⟨_, rfl, fun K hK => ?_⟩ all_nil))
     ·clear hC
      go_simp
      refine (flpull_any T x.g (3 + b * 9) _ pre post (V1 b) (V1 (16 + b)) (q1.fl b).pk df t x.tg x.iv (q1.fl b).cd wA (HFLA.out.quiet hHeld) HPR.out (HL.out.few.len b HB16.out) (HL.out.few.el b HB16.out) HTT.out (HL.out.few.cd b HB16.out).1 (HL.out.few.cd b HB16.out).2.1 (HL.out.few.cd b HB16.out).2.2 HDB.out (c, n, true) HPL.out).mono ?_
      rintro e' wp1 hE
      obtain ⟨late, T2, p0, v, vp', vi', rr, rfl, hPo, hPt, hv1, hr0, hr1, hPf, hPs, hb1, hb2⟩ := hE.one
      clear hE
      dsimp only at hPo hr0 hr1 hPf hPs ⊢
      have HPOwp1 := Shut.mk (OwnP.base hPo hHeld.size)
      have HPTwp1 := Shut.mk (show ∀ j, T2 j → wA.heap.size ≤ j ∧ j < wp1.heap.size from fun j hj => ⟨Nat.le_trans hHeld.size (hPt j hj).1, (hPt j hj).2⟩)
      have HV1 := Shut.mk hv1
      have HR0 := Shut.mk hr0
      have HR1 := Shut.mk hr1
      have HPFwp1 := Shut.mk hPf
      have HPSwp1 := Shut.mk (FlS.from_ hHeld hPs)
      have HBW := Shut.mk hHeld.size
      have HBV := Shut.mk (show vp'.ownBlock = (V1 b).ownBlock ∧ vi'.ownBlock = (V1 (16 + b)).ownBlock from ⟨hb1, hb2⟩)
      clear hb1 hb2
      clear hPo hPt hv1 hr0 hr1 hPf hPs
      refine hK.out _ _ (past (by kernel_rfl)) (fun hC => ?_)
      clear hK K
      try simp only [Act.put, sG1, sG2, sG3, sG4, sG5, sG6]
      refine dQ 11 hC ?_; clear hC; intro hC
      refine dQ 12 hC ?_; clear hC; intro hC
      refine dQ 13 hC ?_; clear hC; intro hC
      refine dQ 14 hC ?_; clear hC; intro hC
      refine wpAnyD_one (i := 15) (by kernel_rfl) rfl hC (fun K hK => ?_)
      clear hC
      go_simp
      have HAwp2 := Shut.mk ((Below.refl wp1.heap.size wp1).alloc (Nat.le_refl _) (Obj.cells #[Value.int .i64 0, .int .u32 0, .int .i64 0, .int .i64 0, Value.slice none 0 0] 35 (0, 0)))
      have HXSwp2 := Shut.mk (MapKept.heap_alloc wp1 (Obj.cells #[Value.int .i64 0, .int .u32 0, .int .i64 0, .int .i64 0, Value.slice none 0 0] 35 (0, 0))).1
      generalize World.alloc wp1 _ = wp2 at *
      obtain ⟨s11, hs11⟩ : ∃ s, s = wp1.heap.size := ⟨_, rfl⟩
      have HPOwp2 := Shut.mk (HPOwp1.out.below HAwp2.out)
      have HPTwp2 := Shut.mk (show ∀ j, T2 j → wA.heap.size ≤ j ∧ j < wp2.heap.size from fun j hj => ⟨(HPTwp1.out j hj).1, Nat.lt_of_lt_of_le (HPTwp1.out j hj).2 HAwp2.out.size⟩)
      have HPFwp2 := Shut.mk (HPFwp1.out.quiet HAwp2.out)
      have HPSwp2 := Shut.mk (HPSwp1.out.quiet HAwp2.out)
      have HS11 := Shut.mk (show wA.heap.size ≤ s11 by rw [hs11]; exact HPSwp1.out.only.size)
      have HNX := Shut.mk (show ¬ T2 s11 ∧ late.ownBlock ≠ some s11 from ⟨fun e => by have := (HPTwp1.out _ e).2; omega, fun e => by have := (HPOwp1.out.lt _ e).2; omega⟩)
      have HHS := Shut.mk hs11
      rw [← hs11] at HXSwp2 ⊢
      clear hs11
      refine hK.out _ _ (past (by kernel_rfl)) (fun hC => ?_)
      clear hK K
      try simp only [Act.put, sG1, sG2, sG3, sG4, sG5, sG6]
      refine dQ 16 hC ?_; clear hC; intro hC
      refine wpAnyD_one (i := 17) (by kernel_rfl) rfl hC (fun K hK => ?_)
      clear hC
      refine step_store_part rfl 35 (.tmp 11) (.tmp 67) rfl s11 0 (pkV p0 v) rfl rfl 35 [] [Value.int .i64 0, .int .u32 0, .int .i64 0, .int .i64 0, Value.slice none 0 0] [Value.int .i64 p0.id, .int .u32 p0.flow, .int .i64 p0.tid, .int .i64 p0.at_, v] [] HXSwp2.out rfl rfl rfl size5 (by intro u hu; simp at hu; rcases hu with rfl | rfl | rfl | rfl | rfl <;> first | rfl | exact HV1.out) ?_
      have HOS := Shut.mk (only_setRow wp2 s11 ([] ++ [Value.int .i64 p0.id, .int .u32 p0.flow, .int .i64 p0.tid, .int .i64 p0.at_, v] ++ []).toArray)
      have HXN := Shut.mk (setRow_heap wp2 s11 _ ([] ++ [Value.int .i64 p0.id, .int .u32 p0.flow, .int .i64 p0.tid, .int .i64 p0.at_, v] ++ []).toArray _ (0, 0) HXSwp2.out)
      generalize hq : World.setRow wp2 s11 _ = wp3 at *
      clear hq
      have HPON := Shut.mk (HPOwp2.out.only HOS.out (fun k hk e => HNX.out.2 (e ▸ hk)) (fun k hk e => HNX.out.1 (e ▸ hk)))
      have HPTN := Shut.mk (show ∀ j, T2 j → wA.heap.size ≤ j ∧ j < wp3.heap.size from fun j hj => ⟨(HPTwp2.out j hj).1, Nat.lt_of_lt_of_le (HPTwp2.out j hj).2 HOS.out.size⟩)
      have HPSN := Shut.mk (HPSwp2.out.over HOS.out (fun j e => by have := HS11.out; omega))
      have HRN := Shut.mk (show true = true → (q1.fl b).pk.drop n = p0 :: rr ∧ OwnV wp3 wA.heap.size v p0.body ∧ ∀ k, v.ownBlock = some k → ¬ T2 k ∧ late.ownBlock ≠ some k from fun h => ⟨(HR1.out h).1, owns_base (owns_only (owns_below (HR1.out h).2.1 HAwp2.out) HOS.out (fun k e e2 => by have h1 := (World.ownsRow.lt (HR1.out h).2.1 k e).2; have h2 := HHS.out; omega)) HBW.out, (HR1.out h).2.2⟩)
      have HPFN := Shut.mk (HPFwp2.out.only HOS.out (fun e => by have h1 := HS11.out; have := HFLA.out.lt; omega) (fun j hj e => by rw [HBV.out.1] at hj; have h1 := HS11.out; have := HFLA.out.pk.lt j hj; omega) (fun j hj e => by rw [HBV.out.2] at hj; have h1 := HS11.out; have := HFLA.out.it.lt j hj; omega) (fun j hj e => by have h1 := HS11.out; have := HFLA.out.there j hj; omega))
      refine hK.out _ _ (past (by kernel_rfl)) (fun hC => ?_)
      clear hK K
      try simp only [Act.put, sG1, sG2, sG3, sG4, sG5, sG6]
      refine dQ 18 hC ?_; clear hC; intro hC
      refine wpAnyD_done (by kernel_rfl) ?_ _
      try simp only [Act.put, sG1, sG2, sG3, sG4, sG5, sG6]
      go_wp2_with (fail)
      go_meet
      case rel =>
       rw [← HSA.out]
       exact ⟨s11, p0, v, T2, vp', vi', rr, rfl, rfl, HXN.out, HS11.out, HPON.out, HPTN.out, HRN.out, HR0.out, HPFN.out, FlS.from_ HDA.out HPSN.out, HBV.out.1, HBV.out.2⟩
     ·clear hC
      go_simp
      have HAwp1 := Shut.mk ((Below.refl wA.heap.size wA).alloc (Nat.le_refl _) (Obj.cells #[Value.int .i64 0, .int .u32 0, .int .i64 0, .int .i64 0, Value.slice none 0 0] 35 (0, 0)))
      have HXSwp1 := Shut.mk (MapKept.heap_alloc wA (Obj.cells #[Value.int .i64 0, .int .u32 0, .int .i64 0, .int .i64 0, Value.slice none 0 0] 35 (0, 0))).1
      generalize World.alloc wA _ = wp1 at *
      obtain ⟨s11, hs11⟩ : ∃ s, s = wA.heap.size := ⟨_, rfl⟩
      have HS11 := Shut.mk (show wA.heap.size ≤ s11 by rw [hs11]; exact hHeld.size)
      rw [← hs11] at HXSwp1 ⊢
      clear hs11
      have hHeld2 := hHeld.trans (HAwp1.out.mono hHeld.size)
      clear hHeld
      have hHeld := hHeld2
      clear hHeld2
      refine hK.out _ _ (fun _ => hHeld) (fun hC => ?_)
      clear hK K
      try simp only [Act.put, sG1, sG2, sG3, sG4, sG5, sG6]
      refine wpAnyD_one (i := 10) (by kernel_rfl) rfl hC (fun K hK => ?_)
      clear hC
      go_simp
      refine (flpull_any T x.g (3 + b * 9) _ pre post (V1 b) (V1 (16 + b)) (q1.fl b).pk df t x.tg x.iv (q1.fl b).cd wp1 (HFLA.out.quiet hHeld) HPR.out (HL.out.few.len b HB16.out) (HL.out.few.el b HB16.out) HTT.out (HL.out.few.cd b HB16.out).1 (HL.out.few.cd b HB16.out).2.1 (HL.out.few.cd b HB16.out).2.2 HDB.out (c, n, true) HPL.out).mono ?_
      rintro e' wp2 hE
      obtain ⟨late, T2, p0, v, vp', vi', rr, rfl, hPo, hPt, hv1, hr0, hr1, hPf, hPs, hb1, hb2⟩ := hE.one
      clear hE
      dsimp only at hPo hr0 hr1 hPf hPs ⊢
      have HPOwp2 := Shut.mk (OwnP.base hPo hHeld.size)
      have HPTwp2 := Shut.mk (show ∀ j, T2 j → wA.heap.size ≤ j ∧ j < wp2.heap.size from fun j hj => ⟨Nat.le_trans hHeld.size (hPt j hj).1, (hPt j hj).2⟩)
      have HV1 := Shut.mk hv1
      have HR0 := Shut.mk hr0
      have HR1 := Shut.mk hr1
      have HPFwp2 := Shut.mk hPf
      have HPSwp2 := Shut.mk (FlS.from_ hHeld hPs)
      have HXSwp2 := Shut.mk (hPs.only.at_ HXSwp1.out (fun e => by
       have h1 := HS11.out
       rcases e with e | e | e
       ·have := HFLA.out.lt; omega
       ·have := HFLA.out.pk.lt _ e; omega
       ·have := HFLA.out.it.lt _ e; omega))
      have HNX := Shut.mk (show ¬ T2 s11 ∧ late.ownBlock ≠ some s11 ∧ ∀ k, v.ownBlock = some k → OwnV wp2 wp1.heap.size v p0.body → k ≠ s11 from ⟨fun e => by have h1 := (hPt _ e).1; have h2 := lt_blk HXSwp1.out; omega, fun e => by have h1 := (hPo.lt _ e).1; have h2 := lt_blk HXSwp1.out; omega, fun k e ho => by have h1 := (World.ownsRow.lt ho k e).1; have h2 := lt_blk HXSwp1.out; omega⟩)
      have HBW := Shut.mk hHeld.size
      have HBV := Shut.mk (show vp'.ownBlock = (V1 b).ownBlock ∧ vi'.ownBlock = (V1 (16 + b)).ownBlock from ⟨hb1, hb2⟩)
      clear hb1 hb2
      clear hPo hPt hv1 hr0 hr1 hPf hPs
      refine hK.out _ _ (past (by kernel_rfl)) (fun hC => ?_)
      clear hK K
      try simp only [Act.put, sG1, sG2, sG3, sG4, sG5, sG6]
      refine dQ 11 hC ?_; clear hC; intro hC
      refine dQ 12 hC ?_; clear hC; intro hC
      refine dQ 13 hC ?_; clear hC; intro hC
      refine dQ 14 hC ?_; clear hC; intro hC
      refine dQ 16 hC ?_; clear hC; intro hC
      refine wpAnyD_one (i := 17) (by kernel_rfl) rfl hC (fun K hK => ?_)
      clear hC
      refine step_store_part rfl 35 (.tmp 11) (.tmp 67) rfl s11 0 (pkV p0 v) rfl rfl 35 [] [Value.int .i64 0, .int .u32 0, .int .i64 0, .int .i64 0, Value.slice none 0 0] [Value.int .i64 p0.id, .int .u32 p0.flow, .int .i64 p0.tid, .int .i64 p0.at_, v] [] HXSwp2.out rfl rfl rfl size5 (by intro u hu; simp at hu; rcases hu with rfl | rfl | rfl | rfl | rfl <;> first | rfl | exact HV1.out) ?_
      have HOS := Shut.mk (only_setRow wp2 s11 ([] ++ [Value.int .i64 p0.id, .int .u32 p0.flow, .int .i64 p0.tid, .int .i64 p0.at_, v] ++ []).toArray)
      have HXN := Shut.mk (setRow_heap wp2 s11 _ ([] ++ [Value.int .i64 p0.id, .int .u32 p0.flow, .int .i64 p0.tid, .int .i64 p0.at_, v] ++ []).toArray _ (0, 0) HXSwp2.out)
      generalize hq : World.setRow wp2 s11 _ = wp3 at *
      clear hq
      have HPON := Shut.mk (HPOwp2.out.only HOS.out (fun k hk e => HNX.out.2.1 (e ▸ hk)) (fun k hk e => HNX.out.1 (e ▸ hk)))
      have HPTN := Shut.mk (show ∀ j, T2 j → wA.heap.size ≤ j ∧ j < wp3.heap.size from fun j hj => ⟨(HPTwp2.out j hj).1, Nat.lt_of_lt_of_le (HPTwp2.out j hj).2 HOS.out.size⟩)
      have HPSN := Shut.mk (HPSwp2.out.over HOS.out (fun j e => by have := HS11.out; omega))
      have HRN := Shut.mk (show true = true → (q1.fl b).pk.drop n = p0 :: rr ∧ OwnV wp3 wA.heap.size v p0.body ∧ ∀ k, v.ownBlock = some k → ¬ T2 k ∧ late.ownBlock ≠ some k from fun h => ⟨(HR1.out h).1, owns_base (owns_only (HR1.out h).2.1 HOS.out (fun k e e2 => HNX.out.2.2 k e (HR1.out h).2.1 e2)) HBW.out, (HR1.out h).2.2⟩)
      have HPFN := Shut.mk (HPFwp2.out.only HOS.out (fun e => by have h1 := HS11.out; have := HFLA.out.lt; omega) (fun j hj e => by rw [HBV.out.1] at hj; have h1 := HS11.out; have := HFLA.out.pk.lt j hj; omega) (fun j hj e => by rw [HBV.out.2] at hj; have h1 := HS11.out; have := HFLA.out.it.lt j hj; omega) (fun j hj e => by have h1 := HS11.out; have := HFLA.out.there j hj; omega))
      refine hK.out _ _ (past (by kernel_rfl)) (fun hC => ?_)
      clear hK K
      try simp only [Act.put, sG1, sG2, sG3, sG4, sG5, sG6]
      refine dQ 18 hC ?_; clear hC; intro hC
      refine wpAnyD_done (by kernel_rfl) ?_ _
      try simp only [Act.put, sG1, sG2, sG3, sG4, sG5, sG6]
      go_wp2_with (fail)
      go_meet
      case rel =>
       rw [← HSA.out]
       exact ⟨s11, p0, v, T2, vp', vi', rr, rfl, rfl, HXN.out, HS11.out, HPON.out, HPTN.out, HRN.out, HR0.out, HPFN.out, FlS.from_ HDA.out HPSN.out, HBV.out.1, HBV.out.2⟩
    case rest =>
     obtain ⟨s11, p0, v, T2, vp', vi', rr, rfl, rfl, hxs, hs11, hpo, hpt, hrn, hr0, hpf, hps, hb1, hb2⟩ := hcut
     have hpf2 : FlB T wc x.g 98 pre post vp' vi' (Fl.pk ⟨rr, df - (p0.body.length : Nat), c⟩) (itemsF (Fl.pk ⟨rr, df - (p0.body.length : Nat), c⟩)) (bytesF (Fl.pk ⟨rr, df - (p0.body.length : Nat), c⟩)) (Fl.df ⟨rr, df - (p0.body.length : Nat), c⟩) (Fl.cd ⟨rr, df - (p0.body.length : Nat), c⟩) := hpf
     have HPQ := HQ5.out.put_flow hb16 HBK.out (y := ⟨rr, df - (p0.body.length : Nat), c⟩) hpf2 hps
     obtain ⟨V3, hV3⟩ : ∃ V3, V3 = upd2 V1 b vp' vi' := ⟨_, rfl⟩
     have HFT := Shut.mk (show ∀ k, FootC x V3 k → FootC x V1 k from fun k hk => by
      rcases hk with h1 | ⟨i, hi, h1⟩
      ·exact .inl h1
      ·rw [hV3] at h1
       unfold upd2 at h1
       split at h1
       ·rw [hb1] at h1; exact .inr ⟨b, by omega, h1⟩
       ·split at h1
        ·rw [hb2] at h1; exact .inr ⟨16 + b, by omega, h1⟩
        ·exact .inr ⟨i, hi, h1⟩)
     rw [← hV3] at HPQ
     have HBQ := Shut.mk (HL.out.toTakeB.step (CqS.from_ HD5.out HPQ.2) HPQ.1)
     have HXS := Shut.mk (show wc.heap[s11]? = some (.cells #[Value.int .i64 p0.id, .int .u32 p0.flow, .int .i64 p0.tid, .int .i64 p0.at_, v] 35 (0, 0)) from hxs)
     have HPO := Shut.mk hpo
     have HPT := Shut.mk hpt
     have HRN := Shut.mk hrn
     have HSW5 := Shut.mk HD5.out.size
     have HDL := Shut.mk (show ds1.length + ((q1.fl b).pk.take n).length ≤ 1000000 from by
      have h1 := takes_pre HL.out.tk
      have h2 := HDS.out
      have h3 := HL.out.few.len b hb16
      rw [List.length_take]; omega)
     have HSL := Shut.mk (lt_blk HL.out.res)
     have HTN := Shut.mk (show ∀ j, (T1 j ∨ T2 j) → s4 < j ∧ j < wc.heap.size from fun j hj => by
      rcases hj with hj | hj
      ·exact HBQ.out.new j hj
      ·have h1 := HPT.out j hj; have h2 := HSW5.out; have h3 := HSL.out; omega)
     have HTD := Shut.mk (show ∀ k, u7.ownBlock = some k → ¬ (T1 k ∨ T2 k) from fun k hk e => by
      rcases e with e | e
      ·obtain ⟨_, _, _, _, h5⟩ := HBQ.out.own; exact h5 k hk e
      ·have h1 := (HL.out.own.lt k hk).2; have h2 := (HPT.out k e).1; have h3 := HSW5.out; omega)
     clear hxs hpo hpt hrn hpf hpf2 hps hb1 hb2 HPQ hV3 hr0
     have HR1 := Shut.mk (show r = (q1.fl b).pk[n]? ∧ ds = ds1 ++ (q1.fl b).pk.take n ∧ q' = tookQ q1 b c n from ⟨e1, e2, e3⟩)
     have HGT := Shut.mk (show (q1.fl b).pk[n]? = some p0 ∧ (q1.fl b).pk.drop (n + 1) = rr from by
      have h1 := (HRN.out (by simp)).1
      have h2 : ((q1.fl b).pk.drop n)[0]? = some p0 := by rw [h1]; rfl
      rw [List.getElem?_drop, Nat.add_zero] at h2
      refine ⟨h2, ?_⟩
      have h3 := congrArg List.tail h1
      rw [List.tail_drop, List.tail_cons] at h3
      exact h3)
     have HTQ := Shut.mk (show tookQ q1 b c n = ⟨setF q1.fl b ⟨rr, df - (p0.body.length : Nat), c⟩, q1.fresh, q1.elder⟩ from by unfold tookQ; rw [HGT.out.1, HGT.out.2, HDF.out]; rfl)
     clear e1 e2 e3
     have HONE := Shut.mk (show (#[Value.int .i64 p0.id, .int .u32 p0.flow, .int .i64 p0.tid, .int .i64 p0.at_, v]).all (·.oneCell') = true from by
      obtain ⟨a9, c9, e9, -⟩ := owns_form (HRN.out (by simp)).2.1
      rw [e9]
      simp [Value.oneCell'])
     go_wp2_with (first
      | (refine app_ps T1 T2 (fun j => T1 j ∨ T2 j) rfl (.tmp 69) (.tmp 70) rfl (s4 + 1) w5.heap.size u7 u10 ds1 ((q1.fl b).pk.take n) rfl rfl HBQ.out.own HPO.out (fun _ h => .inl h) (fun _ h => .inr h) HTD.out (fun k hk => (HTN.out k hk).2) HDL.out (by have h1 := HSL.out; have h2 := HBQ.out.st.only.size; have h3 := lt_blk HBQ.out.res; omega) ?_
         intro vD wD hOD hND hFD
         have HFD := Shut.mk hFD.out
         have HND := Shut.mk hND.out
         have HXD := Shut.mk (hND.out.at_ HXS.out (fun e => by have h1 := (HL.out.own.lt _ e).2; have h2 := HSW5.out; omega))
         have HBD := Shut.mk (HBQ.out.drop (fun j hj => HTN.out j (.inr hj)) (fun j hj e => by have h1 := HL.out.is.lts (HFT.out j hj); have h2 := (HPT.out j e).1; have h3 := HSW5.out; omega) hOD.out hND.out hFD.out)
         clear hOD hND hFD)
      | (refine wpList_load_row rfl 35 (.tmp 11) rfl s11 rfl 35 #[Value.int .i64 p0.id, .int .u32 p0.flow, .int .i64 p0.tid, .int .i64 p0.at_, v] (0, 0) _ HXD.out Tryz.underlying35 rfl size5 ?_)
      | (refine wpList_store_row rfl 35 (.tmp 4) (.tmp 73) rfl s4 #[Value.int .i64 p0.id, .int .u32 p0.flow, .int .i64 p0.tid, .int .i64 p0.at_, v] rfl rfl 35 _ HBD.out.res size5 rfl HONE.out ?_))
     have hsw := HL.out.sw
     have hsw5 := HSW5.out
     have hs4 := HS4.out
     have hsl := HSL.out
     have HZ := Shut.mk (setRow_heap wD s4 _ #[Value.int .i64 p0.id, .int .u32 p0.flow, .int .i64 p0.tid, .int .i64 p0.at_, v] _ (0, 0) HBD.out.res)
     have HOZ := Shut.mk (only_setRow wD s4 #[Value.int .i64 p0.id, .int .u32 p0.flow, .int .i64 p0.tid, .int .i64 p0.at_, v])
     have hov := (HRN.out (by simp)).2.1
     have hvl : ∀ k, v.ownBlock = some k → w5.heap.size ≤ k ∧ k < wc.heap.size := fun k hk => World.ownsRow.lt hov k hk
     refine bodyPost_ret (v := .tuple #[.agg #[Value.int .i64 p0.id, .int .u32 p0.flow, .int .i64 p0.tid, .int .i64 p0.at_, v], vD, .bool true]) (results_ctt (p := 4) (q := 5) (r := 6) Tryz.results41 _ _ s4 _ _ _ _ _ _ rfl rfl rfl HZ.out Tryz.underlying35 rfl size5) rfl ⟨V3, vD, (fun j => T1 j ∨ T2 j), v, ?_, ?_, ?_, fun j hj => ⟨?_, ?_⟩, fun j hj => ⟨?_, ?_, fun e => ?_⟩, .inr ⟨p0, ?_, rfl, ?_, fun j hj => ⟨fun e => ?_, fun e => ?_⟩⟩⟩
     ·rw [HR1.out.2.2, HTQ.out]
      exact HBD.out.is.only HOZ.out (fun j hj e => (HBD.out.apart j hj).1 e) (fun j hj e => by have := HBD.out.old j hj; omega)
     ·exact HBD.out.st.over HOZ.out fun j e => by omega
     ·rw [HR1.out.2.1]
      exact OwnP.base (HBD.out.own.only HOZ.out (fun j hj e => by have := (HBD.out.own.lt j hj).1; omega) (fun j hj e => by have := (HBD.out.new j hj).1; omega)) (by omega)
     ·have := (HBD.out.new j hj).1; omega
     ·exact Nat.lt_of_lt_of_le (HBD.out.new j hj).2 HOZ.out.size
     ·exact (HBD.out.apart j hj).2.1
     ·exact (HBD.out.apart j hj).2.2
     ·have h1 := HL.out.is.lts (HFT.out j hj); have h2 := (hvl j e).1; omega
     ·rw [HR1.out.1]; exact HGT.out.1
     ·refine owns_base (owns_only (owns_only hov HND.out (fun j hj e => ?_)) HOZ.out (fun j hj e => ?_)) (Nat.le_trans HL.out.st.only.size hsw5)
      ·have h1 := (HL.out.own.lt j e).2; have h2 := (hvl j hj).1; omega
      ·have h2 := (hvl j hj).1; omega
     ·rcases e with e | e
      ·have h1 := (HL.out.new j e).2; have h2 := (hvl j hj).1; omega
      ·exact ((HRN.out (by simp)).2.2 j hj).1 e
     ·rcases HFD.out j e with e | e
      ·have h1 := (HL.out.own.lt j e).2; have h2 := (hvl j hj).1; omega
      ·have h2 := (hvl j hj).2; omega
   | false =>
    obtain ⟨hfr, r0, hel⟩ := firstQ_old h1
    have HB16 := Shut.mk (show b < 16 from HL.out.inv.lt b (firstQ_mem h1))
    have hb16 := HB16.out
    have hbi : (b : Int) < 16 := by omega
    have HFI := Shut.mk h1
    have HLI := Shut.mk (show q1.fresh = [] ∧ q1.elder = b :: r0 from ⟨hfr, hel⟩)
    have HTI := Shut.mk (show turnI q1 = 1 by unfold turnI; rw [if_pos hfr])
    have HLL := Shut.mk (show r0.length ≤ 1000 ∧ q1.elder.length ≤ 1000 ∧ q1.fresh.length ≤ 1000 from by
     have h5 := lists_len HL.out.inv
     rw [List.length_append] at h5
     rw [hel, List.length_cons] at h5
     rw [hel, List.length_cons]
     omega)
    obtain ⟨g0, o0, cl, hvl, hrl, -, -⟩ := RowAt.cells (show RowAt wr 3 1 (V1 33) (natsI (b :: r0)).length ((natsI (b :: r0)).map (Value.int .i64)) from by have := HL.out.is.el; rw [hel] at this; exact this) (by simp [natsI])
    have hcb : wr.cell? ⟨g0, o0, none⟩ = some (.int .i64 (b : Nat)) := by have := hrl 0 (.int .i64 (b : Nat)) rfl; simpa using this
    obtain ⟨ln, hln⟩ : ∃ ln, (natsI (b :: r0)).length = ln := ⟨_, rfl⟩
    rw [hln] at hvl
    have hlp : 0 < ln := by rw [← hln]; simp [natsI]
    have hlp' : (0 : Int) < (ln : Int) := by omega
    have hln0 : ((ln : Int) == 0) = false := by simp; omega
    have hcl := HL.out.is.cells.2
    rw [hvl] at hcl
    clear hvl hrl hln hfr hel h1
    go_wp2_with (fail)
    refine (turn_any T wr x V1 q1 HL.out.is).mono ?_
    rintro e' wn ⟨rfl, rfl⟩
    rw [HTI.out]
    go_wp2_with (fail)
    obtain ⟨w5, hw5⟩ : ∃ w5, w5 = World.drew wr := ⟨_, rfl⟩
    have HW5 := Shut.mk hw5
    have HD5 := Shut.mk (show Below wr.heap.size wr w5 by rw [hw5]; exact (Below.refl _ _).drew)
    have HCL5 := Shut.mk (below_at HD5.out hcl)
    have HCB5 := Shut.mk (below_at HD5.out hcb)
    have HQ5 := Shut.mk (HL.out.is.quiet HD5.out)
    clear hw5 hcl hcb
    refine wp_region_D (fun w' => w5 = w') 11 (by kernel_rfl) HW5.out (fun hHeld hC => ?_)
    rw [← HW5.out] at hHeld ⊢
    refine dP 0 hC hHeld ?_; clear hC; intro hC
    refine dP 1 hC hHeld ?_; clear hC; intro hC
    refine dP 2 hC hHeld ?_; clear hC; intro hC
    refine dP 3 hC hHeld ?_; clear hC; intro hC
    refine dP 4 hC hHeld ?_; clear hC; intro hC
    refine dP 5 hC hHeld ?_; clear hC; intro hC
    refine dT 6 hC hHeld (fun w hSw => (show w.cell? ⟨x.g, 148, none⟩ = some (.slice (some ⟨g0, o0, none⟩) ln cl) from by rw [← hSw]; exact HCL5.out)) ?_; clear hC; intro hC
    refine dP 7 hC hHeld ?_; clear hC; intro hC
    refine dT 8 hC hHeld (fun w hSw => (show w.cell? ⟨g0, o0, none⟩ = some (.int .i64 (b : Nat)) from by rw [← hSw]; exact HCB5.out)) ?_; clear hC; intro hC
    refine dP 9 hC hHeld ?_; clear hC; intro hC
    refine dP 10 hC hHeld ?_; clear hC; intro hC
    refine wpAnyD_one (i := 11) (by kernel_rfl) rfl hC (fun K hK => ?_)
    clear hC
    go_simp
    refine hK.out _ _ (past (by kernel_rfl)) (fun hC => ?_)
    clear hK K
    try simp only [Act.put, sG1, sG2, sG3, sG4, sG5, sG6]
    refine dQ 12 hC ?_; clear hC; intro hC
    refine wpAnyD_done (by kernel_rfl) ?_ _
    try simp only [Act.put, sG1, sG2, sG3, sG4, sG5, sG6]
    clear hHeld hC
    have hdf : w5.cell? ⟨x.g, 3 + b * 9 + 3, none⟩ = some (.int .i64 (q1.fl b).df) := HQ5.out.fld hb16 (j := 3) rfl
    have hdb := HL.out.few.df b hb16
    obtain ⟨df, hdfe⟩ : ∃ df, (q1.fl b).df = df := ⟨_, rfl⟩
    have HDF := Shut.mk hdfe
    rw [hdfe] at hdf hd hdb
    clear hdfe
    obtain ⟨pre, post, hpre, hsp, hback⟩ := cq_split x V1 q1.fl hb16
    have HPR := Shut.mk hpre
    have HBK := Shut.mk hback
    have HFL5 := Shut.mk (show FlB T w5 x.g 98 pre post (V1 b) (V1 (16 + b)) (q1.fl b).pk (itemsF (q1.fl b).pk) (bytesF (q1.fl b).pk) df (q1.fl b).cd from by rw [← HDF.out]; exact HQ5.out.flow hb16 hsp)
    clear hpre hsp hback
    have HPL := Shut.mk (show pullR ⟨t, clampR x.tg 0 1073741824, clampR x.iv 0 1073741824⟩ (q1.fl b).cd (bytesF (q1.fl b).pk) (itemsF (q1.fl b).pk) = (c, n, true) from by rw [← HPP.out]; exact hp)
    have HTT := Shut.mk (show 0 ≤ t ∧ t ≤ 4503599627370496 from by have := HTB.out; omega)
    have HDB := Shut.mk (show -4503599627370496 ≤ df ∧ df ≤ 4503599627370496 by omega)
    clear hp
    go_wp2_with (fail)
    go_cut [10, 11, 12] from 54 to 68 (fun s10 s11 s12 wx => ∃ (k : Nat) (p0 : Pk) (v : Value) (T2 : Nat → Prop) (vp' vi' : Value) (rr : List Pk), s11 = .pointer (some ⟨k, 0, none⟩) ∧ s12 = .bool true ∧ wx.heap[k]? = some (.cells ([] ++ [Value.int .i64 p0.id, .int .u32 p0.flow, .int .i64 p0.tid, .int .i64 p0.at_, v] ++ []).toArray 35 (0, 0)) ∧ w5.heap.size ≤ k ∧ OwnP T2 wx w5.heap.size s10 ((q1.fl b).pk.take n) ∧ (∀ j, T2 j → w5.heap.size ≤ j ∧ j < wx.heap.size) ∧
     (true = true → (q1.fl b).pk.drop n = p0 :: rr ∧ OwnV wx w5.heap.size v p0.body ∧ ∀ k, v.ownBlock = some k → ¬ T2 k ∧ s10.ownBlock ≠ some k) ∧ (true = false → rr = []) ∧
     FlB T wx x.g 98 pre post vp' vi' rr (itemsF rr) (bytesF rr) (if true = true then df - (p0.body.length : Nat) else df) c ∧ FlS T w5 x.g (V1 b) (V1 (16 + b)) T wx vp' vi' ∧ vp'.ownBlock = (V1 b).ownBlock ∧ vi'.ownBlock = (V1 (16 + b)).ownBlock)
    case first =>
     obtain ⟨wA, hwA⟩ : ∃ wA, wA = World.drew w5 := ⟨_, rfl⟩
     have HWA := Shut.mk hwA
     have HSA := Shut.mk (show wA.heap.size = w5.heap.size by rw [hwA]; rfl)
     have HDA := Shut.mk (show Below w5.heap.size w5 wA by rw [hwA]; exact (Below.refl _ _).drew)
     have HQA := Shut.mk (HQ5.out.quiet HDA.out)
     have HFLA := Shut.mk (HFL5.out.quiet HDA.out)
     clear hwA
     refine wp_region_D (fun w' => Below wA.heap.size wA w') 10 (by kernel_rfl) (show Below wA.heap.size wA (World.drew w5) by rw [HWA.out]; exact Below.refl _ _) (fun hHeld hC => ?_)
     rw [← HWA.out] at hHeld ⊢
     refine dP 0 hC hHeld ?_; clear hC; intro hC
     refine dP 1 hC hHeld ?_; clear hC; intro hC
     refine dP 2 hC hHeld ?_; clear hC; intro hC
     refine dP 3 hC hHeld ?_; clear hC; intro hC
     refine dP 4 hC hHeld ?_; clear hC; intro hC
     refine dT 5 hC hHeld (fun w hSw => (show w.cell? ⟨x.g, 1, none⟩ = some (.int .i64 x.tg) from below_at hSw HQA.out.head.2.1)) ?_; clear hC; intro hC
     refine dP 6 hC hHeld ?_; clear hC; intro hC
     refine dP 7 hC hHeld ?_; clear hC; intro hC
     refine dP 8 hC hHeld ?_; clear hC; intro hC
     refine dT 9 hC hHeld (fun w hSw => (show w.cell? ⟨x.g, 2, none⟩ = some (.int .i64 x.iv) from below_at hSw HQA.out.head.2.2)) ?_; clear hC; intro hC
     refine wpAnyD_all (rs := [10, 15]) (by kernel_rfl) (by simp) hC (all_cons ⟨_, rfl, fun K hK => ?_⟩ (all_cons ⟨_, rfl, fun K hK => ?_⟩ all_nil))
     ·clear hC
      go_simp
      refine (flpull_any T x.g (3 + b * 9) _ pre post (V1 b) (V1 (16 + b)) (q1.fl b).pk df t x.tg x.iv (q1.fl b).cd wA (HFLA.out.quiet hHeld) HPR.out (HL.out.few.len b HB16.out) (HL.out.few.el b HB16.out) HTT.out (HL.out.few.cd b HB16.out).1 (HL.out.few.cd b HB16.out).2.1 (HL.out.few.cd b HB16.out).2.2 HDB.out (c, n, true) HPL.out).mono ?_
      rintro e' wp1 hE
      obtain ⟨late, T2, p0, v, vp', vi', rr, rfl, hPo, hPt, hv1, hr0, hr1, hPf, hPs, hb1, hb2⟩ := hE.one
      clear hE
      dsimp only at hPo hr0 hr1 hPf hPs ⊢
      have HPOwp1 := Shut.mk (OwnP.base hPo hHeld.size)
      have HPTwp1 := Shut.mk (show ∀ j, T2 j → wA.heap.size ≤ j ∧ j < wp1.heap.size from fun j hj => ⟨Nat.le_trans hHeld.size (hPt j hj).1, (hPt j hj).2⟩)
      have HV1 := Shut.mk hv1
      have HR0 := Shut.mk hr0
      have HR1 := Shut.mk hr1
      have HPFwp1 := Shut.mk hPf
      have HPSwp1 := Shut.mk (FlS.from_ hHeld hPs)
      have HBW := Shut.mk hHeld.size
      have HBV := Shut.mk (show vp'.ownBlock = (V1 b).ownBlock ∧ vi'.ownBlock = (V1 (16 + b)).ownBlock from ⟨hb1, hb2⟩)
      clear hb1 hb2
      clear hPo hPt hv1 hr0 hr1 hPf hPs
      refine hK.out _ _ (past (by kernel_rfl)) (fun hC => ?_)
      clear hK K
      try simp only [Act.put, sG1, sG2, sG3, sG4, sG5, sG6]
      refine dQ 11 hC ?_; clear hC; intro hC
      refine dQ 12 hC ?_; clear hC; intro hC
      refine dQ 13 hC ?_; clear hC; intro hC
      refine dQ 14 hC ?_; clear hC; intro hC
      refine wpAnyD_one (i := 15) (by kernel_rfl) rfl hC (fun K hK => ?_)
      clear hC
      go_simp
      have HAwp2 := Shut.mk ((Below.refl wp1.heap.size wp1).alloc (Nat.le_refl _) (Obj.cells #[Value.int .i64 0, .int .u32 0, .int .i64 0, .int .i64 0, Value.slice none 0 0] 35 (0, 0)))
      have HXSwp2 := Shut.mk (MapKept.heap_alloc wp1 (Obj.cells #[Value.int .i64 0, .int .u32 0, .int .i64 0, .int .i64 0, Value.slice none 0 0] 35 (0, 0))).1
      generalize World.alloc wp1 _ = wp2 at *
      obtain ⟨s11, hs11⟩ : ∃ s, s = wp1.heap.size := ⟨_, rfl⟩
      have HPOwp2 := Shut.mk (HPOwp1.out.below HAwp2.out)
      have HPTwp2 := Shut.mk (show ∀ j, T2 j → wA.heap.size ≤ j ∧ j < wp2.heap.size from fun j hj => ⟨(HPTwp1.out j hj).1, Nat.lt_of_lt_of_le (HPTwp1.out j hj).2 HAwp2.out.size⟩)
      have HPFwp2 := Shut.mk (HPFwp1.out.quiet HAwp2.out)
      have HPSwp2 := Shut.mk (HPSwp1.out.quiet HAwp2.out)
      have HS11 := Shut.mk (show wA.heap.size ≤ s11 by rw [hs11]; exact HPSwp1.out.only.size)
      have HNX := Shut.mk (show ¬ T2 s11 ∧ late.ownBlock ≠ some s11 from ⟨fun e => by have := (HPTwp1.out _ e).2; omega, fun e => by have := (HPOwp1.out.lt _ e).2; omega⟩)
      have HHS := Shut.mk hs11
      rw [← hs11] at HXSwp2 ⊢
      clear hs11
      refine hK.out _ _ (past (by kernel_rfl)) (fun hC => ?_)
      clear hK K
      try simp only [Act.put, sG1, sG2, sG3, sG4, sG5, sG6]
      refine dQ 16 hC ?_; clear hC; intro hC
      refine wpAnyD_one (i := 17) (by kernel_rfl) rfl hC (fun K hK => ?_)
      clear hC
      refine step_store_part rfl 35 (.tmp 11) (.tmp 67) rfl s11 0 (pkV p0 v) rfl rfl 35 [] [Value.int .i64 0, .int .u32 0, .int .i64 0, .int .i64 0, Value.slice none 0 0] [Value.int .i64 p0.id, .int .u32 p0.flow, .int .i64 p0.tid, .int .i64 p0.at_, v] [] HXSwp2.out rfl rfl rfl size5 (by intro u hu; simp at hu; rcases hu with rfl | rfl | rfl | rfl | rfl <;> first | rfl | exact HV1.out) ?_
      have HOS := Shut.mk (only_setRow wp2 s11 ([] ++ [Value.int .i64 p0.id, .int .u32 p0.flow, .int .i64 p0.tid, .int .i64 p0.at_, v] ++ []).toArray)
      have HXN := Shut.mk (setRow_heap wp2 s11 _ ([] ++ [Value.int .i64 p0.id, .int .u32 p0.flow, .int .i64 p0.tid, .int .i64 p0.at_, v] ++ []).toArray _ (0, 0) HXSwp2.out)
      generalize hq : World.setRow wp2 s11 _ = wp3 at *
      clear hq
      have HPON := Shut.mk (HPOwp2.out.only HOS.out (fun k hk e => HNX.out.2 (e ▸ hk)) (fun k hk e => HNX.out.1 (e ▸ hk)))
      have HPTN := Shut.mk (show ∀ j, T2 j → wA.heap.size ≤ j ∧ j < wp3.heap.size from fun j hj => ⟨(HPTwp2.out j hj).1, Nat.lt_of_lt_of_le (HPTwp2.out j hj).2 HOS.out.size⟩)
      have HPSN := Shut.mk (HPSwp2.out.over HOS.out (fun j e => by have := HS11.out; omega))
      have HRN := Shut.mk (show true = true → (q1.fl b).pk.drop n = p0 :: rr ∧ OwnV wp3 wA.heap.size v p0.body ∧ ∀ k, v.ownBlock = some k → ¬ T2 k ∧ late.ownBlock ≠ some k from fun h => ⟨(HR1.out h).1, owns_base (owns_only (owns_below (HR1.out h).2.1 HAwp2.out) HOS.out (fun k e e2 => by have h1 := (World.ownsRow.lt (HR1.out h).2.1 k e).2; have h2 := HHS.out; omega)) HBW.out, (HR1.out h).2.2⟩)
      have HPFN := Shut.mk (HPFwp2.out.only HOS.out (fun e => by have h1 := HS11.out; have := HFLA.out.lt; omega) (fun j hj e => by rw [HBV.out.1] at hj; have h1 := HS11.out; have := HFLA.out.pk.lt j hj; omega) (fun j hj e => by rw [HBV.out.2] at hj; have h1 := HS11.out; have := HFLA.out.it.lt j hj; omega) (fun j hj e => by have h1 := HS11.out; have := HFLA.out.there j hj; omega))
      refine hK.out _ _ (past (by kernel_rfl)) (fun hC => ?_)
      clear hK K
      try simp only [Act.put, sG1, sG2, sG3, sG4, sG5, sG6]
      refine dQ 18 hC ?_; clear hC; intro hC
      refine wpAnyD_done (by kernel_rfl) ?_ _
      try simp only [Act.put, sG1, sG2, sG3, sG4, sG5, sG6]
      go_wp2_with (fail)
      go_meet
      case rel =>
       rw [← HSA.out]
       exact ⟨s11, p0, v, T2, vp', vi', rr, rfl, rfl, HXN.out, HS11.out, HPON.out, HPTN.out, HRN.out, HR0.out, HPFN.out, FlS.from_ HDA.out HPSN.out, HBV.out.1, HBV.out.2⟩
     ·clear hC
      go_simp
      have HAwp1 := Shut.mk ((Below.refl wA.heap.size wA).alloc (Nat.le_refl _) (Obj.cells #[Value.int .i64 0, .int .u32 0, .int .i64 0, .int .i64 0, Value.slice none 0 0] 35 (0, 0)))
      have HXSwp1 := Shut.mk (MapKept.heap_alloc wA (Obj.cells #[Value.int .i64 0, .int .u32 0, .int .i64 0, .int .i64 0, Value.slice none 0 0] 35 (0, 0))).1
      generalize World.alloc wA _ = wp1 at *
      obtain ⟨s11, hs11⟩ : ∃ s, s = wA.heap.size := ⟨_, rfl⟩
      have HS11 := Shut.mk (show wA.heap.size ≤ s11 by rw [hs11]; exact hHeld.size)
      rw [← hs11] at HXSwp1 ⊢
      clear hs11
      have hHeld2 := hHeld.trans (HAwp1.out.mono hHeld.size)
      clear hHeld
      have hHeld := hHeld2
      clear hHeld2
      refine hK.out _ _ (fun _ => hHeld) (fun hC => ?_)
      clear hK K
      try simp only [Act.put, sG1, sG2, sG3, sG4, sG5, sG6]
      refine wpAnyD_one (i := 10) (by kernel_rfl) rfl hC (fun K hK => ?_)
      clear hC
      go_simp
      refine (flpull_any T x.g (3 + b * 9) _ pre post (V1 b) (V1 (16 + b)) (q1.fl b).pk df t x.tg x.iv (q1.fl b).cd wp1 (HFLA.out.quiet hHeld) HPR.out (HL.out.few.len b HB16.out) (HL.out.few.el b HB16.out) HTT.out (HL.out.few.cd b HB16.out).1 (HL.out.few.cd b HB16.out).2.1 (HL.out.few.cd b HB16.out).2.2 HDB.out (c, n, true) HPL.out).mono ?_
      rintro e' wp2 hE
      obtain ⟨late, T2, p0, v, vp', vi', rr, rfl, hPo, hPt, hv1, hr0, hr1, hPf, hPs, hb1, hb2⟩ := hE.one
      clear hE
      dsimp only at hPo hr0 hr1 hPf hPs ⊢
      have HPOwp2 := Shut.mk (OwnP.base hPo hHeld.size)
      have HPTwp2 := Shut.mk (show ∀ j, T2 j → wA.heap.size ≤ j ∧ j < wp2.heap.size from fun j hj => ⟨Nat.le_trans hHeld.size (hPt j hj).1, (hPt j hj).2⟩)
      have HV1 := Shut.mk hv1
      have HR0 := Shut.mk hr0
      have HR1 := Shut.mk hr1
      have HPFwp2 := Shut.mk hPf
      have HPSwp2 := Shut.mk (FlS.from_ hHeld hPs)
      have HXSwp2 := Shut.mk (hPs.only.at_ HXSwp1.out (fun e => by
       have h1 := HS11.out
       rcases e with e | e | e
       ·have := HFLA.out.lt; omega
       ·have := HFLA.out.pk.lt _ e; omega
       ·have := HFLA.out.it.lt _ e; omega))
      have HNX := Shut.mk (show ¬ T2 s11 ∧ late.ownBlock ≠ some s11 ∧ ∀ k, v.ownBlock = some k → OwnV wp2 wp1.heap.size v p0.body → k ≠ s11 from ⟨fun e => by have h1 := (hPt _ e).1; have h2 := lt_blk HXSwp1.out; omega, fun e => by have h1 := (hPo.lt _ e).1; have h2 := lt_blk HXSwp1.out; omega, fun k e ho => by have h1 := (World.ownsRow.lt ho k e).1; have h2 := lt_blk HXSwp1.out; omega⟩)
      have HBW := Shut.mk hHeld.size
      have HBV := Shut.mk (show vp'.ownBlock = (V1 b).ownBlock ∧ vi'.ownBlock = (V1 (16 + b)).ownBlock from ⟨hb1, hb2⟩)
      clear hb1 hb2
      clear hPo hPt hv1 hr0 hr1 hPf hPs
      refine hK.out _ _ (past (by kernel_rfl)) (fun hC => ?_)
      clear hK K
      try simp only [Act.put, sG1, sG2, sG3, sG4, sG5, sG6]
      refine dQ 11 hC ?_; clear hC; intro hC
      refine dQ 12 hC ?_; clear hC; intro hC
      refine dQ 13 hC ?_; clear hC; intro hC
      refine dQ 14 hC ?_; clear hC; intro hC
      refine dQ 16 hC ?_; clear hC; intro hC
      refine wpAnyD_one (i := 17) (by kernel_rfl) rfl hC (fun K hK => ?_)
      clear hC
      refine step_store_part rfl 35 (.tmp 11) (.tmp 67) rfl s11 0 (pkV p0 v) rfl rfl 35 [] [Value.int .i64 0, .int .u32 0, .int .i64 0, .int .i64 0, Value.slice none 0 0] [Value.int .i64 p0.id, .int .u32 p0.flow, .int .i64 p0.tid, .int .i64 p0.at_, v] [] HXSwp2.out rfl rfl rfl size5 (by intro u hu; simp at hu; rcases hu with rfl | rfl | rfl | rfl | rfl <;> first | rfl | exact HV1.out) ?_
      have HOS := Shut.mk (only_setRow wp2 s11 ([] ++ [Value.int .i64 p0.id, .int .u32 p0.flow, .int .i64 p0.tid, .int .i64 p0.at_, v] ++ []).toArray)
      have HXN := Shut.mk (setRow_heap wp2 s11 _ ([] ++ [Value.int .i64 p0.id, .int .u32 p0.flow, .int .i64 p0.tid, .int .i64 p0.at_, v] ++ []).toArray _ (0, 0) HXSwp2.out)
      generalize hq : World.setRow wp2 s11 _ = wp3 at *
      clear hq
      have HPON := Shut.mk (HPOwp2.out.only HOS.out (fun k hk e => HNX.out.2.1 (e ▸ hk)) (fun k hk e => HNX.out.1 (e ▸ hk)))
      have HPTN := Shut.mk (show ∀ j, T2 j → wA.heap.size ≤ j ∧ j < wp3.heap.size from fun j hj => ⟨(HPTwp2.out j hj).1, Nat.lt_of_lt_of_le (HPTwp2.out j hj).2 HOS.out.size⟩)
      have HPSN := Shut.mk (HPSwp2.out.over HOS.out (fun j e => by have := HS11.out; omega))
      have HRN := Shut.mk (show true = true → (q1.fl b).pk.drop n = p0 :: rr ∧ OwnV wp3 wA.heap.size v p0.body ∧ ∀ k, v.ownBlock = some k → ¬ T2 k ∧ late.ownBlock ≠ some k from fun h => ⟨(HR1.out h).1, owns_base (owns_only (HR1.out h).2.1 HOS.out (fun k e e2 => HNX.out.2.2 k e (HR1.out h).2.1 e2)) HBW.out, (HR1.out h).2.2⟩)
      have HPFN := Shut.mk (HPFwp2.out.only HOS.out (fun e => by have h1 := HS11.out; have := HFLA.out.lt; omega) (fun j hj e => by rw [HBV.out.1] at hj; have h1 := HS11.out; have := HFLA.out.pk.lt j hj; omega) (fun j hj e => by rw [HBV.out.2] at hj; have h1 := HS11.out; have := HFLA.out.it.lt j hj; omega) (fun j hj e => by have h1 := HS11.out; have := HFLA.out.there j hj; omega))
      refine hK.out _ _ (past (by kernel_rfl)) (fun hC => ?_)
      clear hK K
      try simp only [Act.put, sG1, sG2, sG3, sG4, sG5, sG6]
      refine dQ 18 hC ?_; clear hC; intro hC
      refine wpAnyD_done (by kernel_rfl) ?_ _
      try simp only [Act.put, sG1, sG2, sG3, sG4, sG5, sG6]
      go_wp2_with (fail)
      go_meet
      case rel =>
       rw [← HSA.out]
       exact ⟨s11, p0, v, T2, vp', vi', rr, rfl, rfl, HXN.out, HS11.out, HPON.out, HPTN.out, HRN.out, HR0.out, HPFN.out, FlS.from_ HDA.out HPSN.out, HBV.out.1, HBV.out.2⟩
    case rest =>
     obtain ⟨s11, p0, v, T2, vp', vi', rr, rfl, rfl, hxs, hs11, hpo, hpt, hrn, hr0, hpf, hps, hb1, hb2⟩ := hcut
     have hpf2 : FlB T wc x.g 98 pre post vp' vi' (Fl.pk ⟨rr, df - (p0.body.length : Nat), c⟩) (itemsF (Fl.pk ⟨rr, df - (p0.body.length : Nat), c⟩)) (bytesF (Fl.pk ⟨rr, df - (p0.body.length : Nat), c⟩)) (Fl.df ⟨rr, df - (p0.body.length : Nat), c⟩) (Fl.cd ⟨rr, df - (p0.body.length : Nat), c⟩) := hpf
     have HPQ := HQ5.out.put_flow hb16 HBK.out (y := ⟨rr, df - (p0.body.length : Nat), c⟩) hpf2 hps
     obtain ⟨V3, hV3⟩ : ∃ V3, V3 = upd2 V1 b vp' vi' := ⟨_, rfl⟩
     have HFT := Shut.mk (show ∀ k, FootC x V3 k → FootC x V1 k from fun k hk => by
      rcases hk with h1 | ⟨i, hi, h1⟩
      ·exact .inl h1
      ·rw [hV3] at h1
       unfold upd2 at h1
       split at h1
       ·rw [hb1] at h1; exact .inr ⟨b, by omega, h1⟩
       ·split at h1
        ·rw [hb2] at h1; exact .inr ⟨16 + b, by omega, h1⟩
        ·exact .inr ⟨i, hi, h1⟩)
     rw [← hV3] at HPQ
     have HBQ := Shut.mk (HL.out.toTakeB.step (CqS.from_ HD5.out HPQ.2) HPQ.1)
     have HXS := Shut.mk (show wc.heap[s11]? = some (.cells #[Value.int .i64 p0.id, .int .u32 p0.flow, .int .i64 p0.tid, .int .i64 p0.at_, v] 35 (0, 0)) from hxs)
     have HPO := Shut.mk hpo
     have HPT := Shut.mk hpt
     have HRN := Shut.mk hrn
     have HSW5 := Shut.mk HD5.out.size
     have HDL := Shut.mk (show ds1.length + ((q1.fl b).pk.take n).length ≤ 1000000 from by
      have h1 := takes_pre HL.out.tk
      have h2 := HDS.out
      have h3 := HL.out.few.len b hb16
      rw [List.length_take]; omega)
     have HSL := Shut.mk (lt_blk HL.out.res)
     have HTN := Shut.mk (show ∀ j, (T1 j ∨ T2 j) → s4 < j ∧ j < wc.heap.size from fun j hj => by
      rcases hj with hj | hj
      ·exact HBQ.out.new j hj
      ·have h1 := HPT.out j hj; have h2 := HSW5.out; have h3 := HSL.out; omega)
     have HTD := Shut.mk (show ∀ k, u7.ownBlock = some k → ¬ (T1 k ∨ T2 k) from fun k hk e => by
      rcases e with e | e
      ·obtain ⟨_, _, _, _, h5⟩ := HBQ.out.own; exact h5 k hk e
      ·have h1 := (HL.out.own.lt k hk).2; have h2 := (HPT.out k e).1; have h3 := HSW5.out; omega)
     clear hxs hpo hpt hrn hpf hpf2 hps hb1 hb2 HPQ hV3 hr0
     have HR1 := Shut.mk (show r = (q1.fl b).pk[n]? ∧ ds = ds1 ++ (q1.fl b).pk.take n ∧ q' = tookQ q1 b c n from ⟨e1, e2, e3⟩)
     have HGT := Shut.mk (show (q1.fl b).pk[n]? = some p0 ∧ (q1.fl b).pk.drop (n + 1) = rr from by
      have h1 := (HRN.out (by simp)).1
      have h2 : ((q1.fl b).pk.drop n)[0]? = some p0 := by rw [h1]; rfl
      rw [List.getElem?_drop, Nat.add_zero] at h2
      refine ⟨h2, ?_⟩
      have h3 := congrArg List.tail h1
      rw [List.tail_drop, List.tail_cons] at h3
      exact h3)
     have HTQ := Shut.mk (show tookQ q1 b c n = ⟨setF q1.fl b ⟨rr, df - (p0.body.length : Nat), c⟩, q1.fresh, q1.elder⟩ from by unfold tookQ; rw [HGT.out.1, HGT.out.2, HDF.out]; rfl)
     clear e1 e2 e3
     have HONE := Shut.mk (show (#[Value.int .i64 p0.id, .int .u32 p0.flow, .int .i64 p0.tid, .int .i64 p0.at_, v]).all (·.oneCell') = true from by
      obtain ⟨a9, c9, e9, -⟩ := owns_form (HRN.out (by simp)).2.1
      rw [e9]
      simp [Value.oneCell'])
     go_wp2_with (first
      | (refine app_ps T1 T2 (fun j => T1 j ∨ T2 j) rfl (.tmp 69) (.tmp 70) rfl (s4 + 1) w5.heap.size u7 u10 ds1 ((q1.fl b).pk.take n) rfl rfl HBQ.out.own HPO.out (fun _ h => .inl h) (fun _ h => .inr h) HTD.out (fun k hk => (HTN.out k hk).2) HDL.out (by have h1 := HSL.out; have h2 := HBQ.out.st.only.size; have h3 := lt_blk HBQ.out.res; omega) ?_
         intro vD wD hOD hND hFD
         have HFD := Shut.mk hFD.out
         have HND := Shut.mk hND.out
         have HXD := Shut.mk (hND.out.at_ HXS.out (fun e => by have h1 := (HL.out.own.lt _ e).2; have h2 := HSW5.out; omega))
         have HBD := Shut.mk (HBQ.out.drop (fun j hj => HTN.out j (.inr hj)) (fun j hj e => by have h1 := HL.out.is.lts (HFT.out j hj); have h2 := (HPT.out j e).1; have h3 := HSW5.out; omega) hOD.out hND.out hFD.out)
         clear hOD hND hFD)
      | (refine wpList_load_row rfl 35 (.tmp 11) rfl s11 rfl 35 #[Value.int .i64 p0.id, .int .u32 p0.flow, .int .i64 p0.tid, .int .i64 p0.at_, v] (0, 0) _ HXD.out Tryz.underlying35 rfl size5 ?_)
      | (refine wpList_store_row rfl 35 (.tmp 4) (.tmp 73) rfl s4 #[Value.int .i64 p0.id, .int .u32 p0.flow, .int .i64 p0.tid, .int .i64 p0.at_, v] rfl rfl 35 _ HBD.out.res size5 rfl HONE.out ?_))
     have hsw := HL.out.sw
     have hsw5 := HSW5.out
     have hs4 := HS4.out
     have hsl := HSL.out
     have HZ := Shut.mk (setRow_heap wD s4 _ #[Value.int .i64 p0.id, .int .u32 p0.flow, .int .i64 p0.tid, .int .i64 p0.at_, v] _ (0, 0) HBD.out.res)
     have HOZ := Shut.mk (only_setRow wD s4 #[Value.int .i64 p0.id, .int .u32 p0.flow, .int .i64 p0.tid, .int .i64 p0.at_, v])
     have hov := (HRN.out (by simp)).2.1
     have hvl : ∀ k, v.ownBlock = some k → w5.heap.size ≤ k ∧ k < wc.heap.size := fun k hk => World.ownsRow.lt hov k hk
     refine bodyPost_ret (v := .tuple #[.agg #[Value.int .i64 p0.id, .int .u32 p0.flow, .int .i64 p0.tid, .int .i64 p0.at_, v], vD, .bool true]) (results_ctt (p := 4) (q := 5) (r := 6) Tryz.results41 _ _ s4 _ _ _ _ _ _ rfl rfl rfl HZ.out Tryz.underlying35 rfl size5) rfl ⟨V3, vD, (fun j => T1 j ∨ T2 j), v, ?_, ?_, ?_, fun j hj => ⟨?_, ?_⟩, fun j hj => ⟨?_, ?_, fun e => ?_⟩, .inr ⟨p0, ?_, rfl, ?_, fun j hj => ⟨fun e => ?_, fun e => ?_⟩⟩⟩
     ·rw [HR1.out.2.2, HTQ.out]
      exact HBD.out.is.only HOZ.out (fun j hj e => (HBD.out.apart j hj).1 e) (fun j hj e => by have := HBD.out.old j hj; omega)
     ·exact HBD.out.st.over HOZ.out fun j e => by omega
     ·rw [HR1.out.2.1]
      exact OwnP.base (HBD.out.own.only HOZ.out (fun j hj e => by have := (HBD.out.own.lt j hj).1; omega) (fun j hj e => by have := (HBD.out.new j hj).1; omega)) (by omega)
     ·have := (HBD.out.new j hj).1; omega
     ·exact Nat.lt_of_lt_of_le (HBD.out.new j hj).2 HOZ.out.size
     ·exact (HBD.out.apart j hj).2.1
     ·exact (HBD.out.apart j hj).2.2
     ·have h1 := HL.out.is.lts (HFT.out j hj); have h2 := (hvl j e).1; omega
     ·rw [HR1.out.1]; exact HGT.out.1
     ·refine owns_base (owns_only (owns_only hov HND.out (fun j hj e => ?_)) HOZ.out (fun j hj e => ?_)) (Nat.le_trans HL.out.st.only.size hsw5)
      ·have h1 := (HL.out.own.lt j e).2; have h2 := (hvl j hj).1; omega
      ·have h2 := (hvl j hj).1; omega
     ·rcases e with e | e
      ·have h1 := (HL.out.new j e).2; have h2 := (hvl j hj).1; omega
      ·exact ((HRN.out (by simp)).2.2 j hj).1 e
     ·rcases HFD.out j e with e | e
      ·have h1 := (HL.out.own.lt j e).2; have h2 := (hvl j hj).1; omega
      ·have h2 := (hvl j hj).2; omega
end Go.Proofs.YtndkmgcmegcieaaGreatDoor
