/-
  CONTRACTS of fq's Len, Bytes; of the chapter's examples.
-/
import Derived.Test.YtndkmgcmegcieaaGreatDoorFqT
import Derived.Test.YtndkmgcmegcieaaGreatDoorMgC
import Derived.Test.YtndkmgcmegcieaaGreatDoorFqJ
namespace Go.Proofs.YtndkmgcmegcieaaGreatDoor
open Go.ChangeShapes Go.WideShapes Go.ChangeAt Go.RowKit Go.Deep
set_option linter.unusedVariables false
set_option linter.unusedSimpArgs false
def lenTo (q : Qu) (n : Nat) : Nat := ((List.range n).map fun b => (q.fl b).pk.length).sum
theorem lenTo_succ (q : Qu) (n : Nat) : lenTo q (n + 1) = lenTo q n + (q.fl n).pk.length := by
 unfold lenTo; rw [List.range_succ, List.map_append, List.sum_append]; simp
theorem lenTo_le {q : Qu} {k : Nat} (h : ∀ b, b < 16 → (q.fl b).pk.length ≤ k) (n : Nat) (hn : n ≤ 16) : lenTo q n ≤ n * k := sum_le n fun b hb => h b (by omega)
def bytTo (q : Qu) (n : Nat) : Int := ((List.range n).map fun b => bytesF (q.fl b).pk).sum
theorem bytTo_succ (q : Qu) (n : Nat) : bytTo q (n + 1) = bytTo q n + bytesF (q.fl n).pk := by
 unfold bytTo; rw [List.range_succ, List.map_append, List.sum_append]; simp
theorem bytTo_in {q : Qu} (h : ∀ b, b < 16 → (q.fl b).pk.length ≤ 10000) (hb : ∀ b, b < 16 → ∀ p ∈ (q.fl b).pk, p.body.length ≤ 1000000) : ∀ n, n ≤ 16 → 0 ≤ bytTo q n ∧ bytTo q n ≤ 10000000000 * (n : Int)
 | 0, _ => by simp [bytTo]
 | n + 1, hn => by
  have h1 := bytTo_in h hb n (by omega)
  have h2 := bytes_low _ (hb n (by omega))
  have h3 := h n (by omega)
  rw [bytTo_succ]
  omega
set_option maxRecDepth 100000 in
set_option maxHeartbeats 8000000 in
theorem len_any (T : Nat → Prop) (w : World) (x : Rq) (V : Nat → Value) (q : Qu) (h : IsCq T w x V q) (hl : ∀ b, b < 16 → (q.fl b).pk.length ≤ 10000) :
 Calls Tryz.prog 30 #[.pointer (some ⟨x.g, 0, none⟩)] w fun e w' => e = .returned (.int .i64 (lenTo q 16 : Nat)) ∧ w = w' := by
 have HQ := Shut.mk h
 have HL := Shut.mk hl
 clear h hl
 go_enter Tryz.func30, Tryz.ntmps30
 go_wp2
 go_loop [3, 5] (fun u i => ∃ k : Nat, k ≤ 16 ∧ i = .int .i64 k ∧ u = .int .i64 (lenTo q k : Nat)) (fun _ i => 16 - (intOf i).toNat)
 case atStart => exact ⟨0, by omega, rfl, rfl⟩
 case round =>
  obtain ⟨k, hk, rfl, rfl⟩ := hrel
  by_cases hlt : k < 16
  ·have HS := Shut.mk (lenTo_succ q k)
   have b1 := lenTo_le HL.out k hk
   have b2 := HL.out k hlt
   obtain ⟨A, c, hv, -, -⟩ := (HQ.out.pk k hlt).form
   have g0 := HQ.out.fld hlt (j := 0) (v := V k) rfl
   rw [hv] at g0
   have g1 : w.cell? ⟨x.g, 3 + k * 9, none⟩ = some (.slice A (q.fl k).pk.length c) := g0
   clear hv g0
   generalize (q.fl k).pk.length = m at *
   generalize lenTo q k = u at *
   go_wp2
   go_round
   case rel => exact ⟨k + 1, by omega, by go_num, by rw [HS.out]; exact congrArg (Value.int .i64) (by omega)⟩
   case measure => simp [intOf]; omega
  ·have hk' : k = 16 := by omega
   subst hk'
   go_wp2
   go_ret
   exact ⟨rfl, rfl⟩
set_option maxRecDepth 100000 in
set_option maxHeartbeats 8000000 in
theorem bytes_q_any (T : Nat → Prop) (w : World) (x : Rq) (V : Nat → Value) (q : Qu) (h : IsCq T w x V q) (hl : ∀ b, b < 16 → (q.fl b).pk.length ≤ 10000) (hb : ∀ b, b < 16 → ∀ p ∈ (q.fl b).pk, p.body.length ≤ 1000000) :
 Calls Tryz.prog 47 #[.pointer (some ⟨x.g, 0, none⟩)] w fun e w' => e = .returned (.int .i64 (bytTo q 16)) ∧ w = w' := by
 have HQ := Shut.mk h
 have HI := Shut.mk (bytTo_in hl hb)
 clear h hl hb
 go_enter Tryz.func47, Tryz.ntmps47
 go_wp2
 go_loop [3, 5] (fun u i => ∃ k : Nat, k ≤ 16 ∧ i = .int .i64 k ∧ u = .int .i64 (bytTo q k)) (fun _ i => 16 - (intOf i).toNat)
 case atStart => exact ⟨0, by omega, rfl, rfl⟩
 case round =>
  obtain ⟨k, hk, rfl, rfl⟩ := hrel
  by_cases hlt : k < 16
  ·have HS := Shut.mk (bytTo_succ q k)
   have b1 := HI.out k hk
   have b2 := HI.out (k + 1) (by omega)
   rw [HS.out] at b2
   have g1 : w.cell? ⟨x.g, 3 + k * 9 + 2, none⟩ = some (.int .i64 (bytesF (q.fl k).pk)) := HQ.out.fld hlt (j := 2) rfl
   generalize bytesF (q.fl k).pk = m at *
   generalize bytTo q k = u at *
   have hwr : IntKind.i64.wrap (u + m) = u + m := IntWalk.i64_in _ ⟨by omega, by omega⟩
   go_wp2
   go_round
   case rel => exact ⟨k + 1, by omega, by go_num, by rw [HS.out]⟩
   case measure => simp [intOf]; omega
  ·have hk' : k = 16 := by omega
   subst hk'
   go_wp2
   go_ret
   exact ⟨rfl, rfl⟩
theorem inv_Z (bk : Int → Nat) : InvQ bk quZ := ⟨List.nodup_nil, (fun b h => by cases h), (fun b h => absurd rfl h), (fun b p h => by cases h)⟩
theorem few_quZ : FewC quZ := few_Z
end Go.Proofs.YtndkmgcmegcieaaGreatDoor
/-
  FQ's QUEUE IN A LAW: all of it in new memory; a Put, a Take of it; zero bytes; the maths of one flow alone (FqFresh).
-/
namespace Go.Proofs.YtndkmgcmegcieaaGreatDoor
open Go.ChangeShapes Go.WideShapes Go.ChangeAt Go.RowKit Go.Deep
set_option linter.unusedVariables false
set_option linter.unusedSimpArgs false
structure QW (bk : Int → Nat) (w0 : World) (x : Rq) (T : Nat → Prop) (w : World) (V : Nat → Value) (q : Qu) : Prop where
 is : IsCq T w x V q
 inv : InvQ bk q
 few : FewC q
 bel : Below w0.heap.size w0 w
 new : ∀ k, FootC x V k → w0.heap.size ≤ k
section
variable {bk : Int → Nat} {w0 w w' : World} {x : Rq} {T T' : Nat → Prop} {V V' : Nat → Value} {q q' : Qu}
theorem QW.quiet (h : QW bk w0 x T w V q) (hb : Below w.heap.size w w') : QW bk w0 x T w' V q := ⟨h.is.quiet hb, h.inv, h.few, h.bel.trans (hb.mono h.bel.size), h.new⟩
theorem QW.call (h : QW bk w0 x T w V q) (hQ : IsCq T' w' x V' q') (hC : CqS T w x V T' w' V') (hI : InvQ bk q') (hF : FewC q') : QW bk w0 x T' w' V' q' :=
 ⟨hQ, hI, hF, h.bel.trans (hC.only.below (fun i hi e => by have := h.new i e; omega) h.bel.size), fun k hk => by
   rcases hC.fresh k hk with h1 | h1
   ·exact h.new k h1
   ·exact Nat.le_trans h.bel.size h1⟩
theorem QW.start {sd : BitVec 32} {tg iv : Int} (hw : Below w0.heap.size w0 w) (hQ : IsCq (fun _ => False) w' ⟨w.heap.size, uv sd, tg, iv⟩ VZ quZ) (hB : Below w.heap.size w w') : QW bk w0 ⟨w.heap.size, uv sd, tg, iv⟩ (fun _ => False) w' VZ quZ :=
 ⟨hQ, inv_Z _, few_quZ, hw.trans (hB.mono hw.size), fun k hk => by
   rcases hk with e | ⟨j, hj, e⟩
   ·have : k = w.heap.size := e
    rw [this]; exact hw.size
   ·cases e⟩
end
def TookE (w w' : World) (r : Option Pk) (late v : Value) (e : Ending) : Prop :=
 (r = none ∧ v = .slice none 0 0 ∧ e = .returned (.tuple #[pkV pk00.1 v, late, .bool false])) ∨
 ∃ p, r = some p ∧ e = .returned (.tuple #[pkV p v, late, .bool true]) ∧ OwnV w' w.heap.size v p.body
theorem TookE.form {w w' : World} {r : Option Pk} {late v : Value} {e : Ending} (h : TookE w w' r late v e) : ∃ p0 A m c b, v = .slice A m c ∧ e = .returned (.tuple #[pkV p0 v, late, .bool b]) := by
 rcases h with ⟨-, rfl, rfl⟩ | ⟨p, -, rfl, ho⟩
 ·exact ⟨_, none, 0, 0, _, rfl, rfl⟩
 ·obtain ⟨A, c, rfl, -⟩ := owns_form ho
  exact ⟨p, A, _, c, _, rfl, rfl⟩
theorem TookE.some_ {w w' : World} {p : Pk} {late v : Value} {e : Ending} (h : TookE w w' (some p) late v e) : ∃ A c, v = .slice A p.body.length c ∧ e = .returned (.tuple #[pkV p v, late, .bool true]) ∧ OwnV w' w.heap.size v p.body := by
 rcases h with ⟨h0, -⟩ | ⟨q, h0, rfl, ho⟩
 ·cases h0
 ·cases h0
  obtain ⟨A, c, rfl, -⟩ := owns_form ho
  exact ⟨A, c, rfl, rfl, ho⟩
end Go.Proofs.YtndkmgcmegcieaaGreatDoor
/-
  CONTRACTS of fq's has, DropHead, Fattest.
-/
namespace Go.Proofs.YtndkmgcmegcieaaGreatDoor
open Go.ChangeShapes Go.WideShapes Go.ChangeAt Go.RowKit Go.Deep
set_option linter.unusedVariables false
set_option linter.unusedSimpArgs false
def hasQ (q : Qu) (b : Int) : Bool := !(pkAt q b).isEmpty
theorem hasQ_no {q : Qu} {b : Int} (h : ¬ (0 ≤ b ∧ b < 16)) : hasQ q b = false := by unfold hasQ pkAt; rw [if_neg h]; rfl
theorem pkAt_in (q : Qu) {n : Nat} (h : n < 16) : pkAt q (n : Int) = (q.fl n).pk := by unfold pkAt; rw [if_pos (by omega)]; rfl
theorem hasQ_in (q : Qu) {n : Nat} (h : n < 16) : hasQ q (n : Int) = decide (0 < (q.fl n).pk.length) := by
 unfold hasQ
 rw [pkAt_in q h]
 cases (q.fl n).pk <;> simp
set_option maxRecDepth 100000 in
set_option maxHeartbeats 8000000 in
theorem hasq_any (T : Nat → Prop) (w : World) (x : Rq) (V : Nat → Value) (q : Qu) (h : IsCq T w x V q) (b : Int) :
 Calls Tryz.prog 81 #[.pointer (some ⟨x.g, 0, none⟩), .int .i64 b] w fun e w' => e = .returned (.bool (hasQ q b)) ∧ w = w' := by
 have HQ := Shut.mk h
 clear h
 rcases Int.lt_or_le b 0 with h1 | h1
 ·have HE := Shut.mk (hasQ_no (q := q) (b := b) (by omega))
  go_enter Tryz.func81, Tryz.ntmps81
  go_wp2
  go_ret
  exact ⟨by rw [HE.out]; rfl, rfl⟩
 rcases Int.lt_or_le b 16 with h2 | h2
 ·obtain ⟨n, rfl⟩ := Int.eq_ofNat_of_zero_le h1
  have hn16 : n < 16 := by omega
  have HE := Shut.mk (hasQ_in q hn16)
  obtain ⟨A, c, hv, -, -⟩ := (HQ.out.pk n hn16).form
  have g0 := HQ.out.fld hn16 (j := 0) (v := V n) rfl
  rw [hv] at g0
  have g1 : w.cell? ⟨x.g, 3 + n * 9, none⟩ = some (.slice A (q.fl n).pk.length c) := g0
  clear hv g0
  generalize (q.fl n).pk.length = m at *
  rcases Nat.eq_zero_or_pos m with rfl | hm
  ·go_enter Tryz.func81, Tryz.ntmps81
   go_wp2
   go_ret
   exact ⟨by rw [HE.out]; rfl, rfl⟩
  ·have hm' : (0 : Int) < (m : Int) := by omega
   go_enter Tryz.func81, Tryz.ntmps81
   go_wp2
   go_ret
   exact ⟨by rw [HE.out]; simp [hm], rfl⟩
 ·have HE := Shut.mk (hasQ_no (q := q) (b := b) (by omega))
  go_enter Tryz.func81, Tryz.ntmps81
  go_wp2
  go_ret
  exact ⟨by rw [HE.out]; rfl, rfl⟩
theorem FewC.low {q : Qu} (h : FewC q) {b : Nat} (hb : b < 16) : 0 ≤ bytesF (q.fl b).pk ∧ bytesF (q.fl b).pk ≤ 1000000000 := by
 have := bytes_low _ fun p hp => (h.el b hb p hp).2.2
 have := h.len b hb
 omega
set_option maxRecDepth 100000 in
set_option maxHeartbeats 8000000 in
theorem fat_any (T : Nat → Prop) (w : World) (x : Rq) (V : Nat → Value) (q : Qu) (h : IsCq T w x V q) (hf : FewC q) :
 Calls Tryz.prog 80 #[.pointer (some ⟨x.g, 0, none⟩)] w fun e w' => (∃ o, IsFat q o ∧ e = .returned (.tuple #[.int .i64 (fatAt o), .int .i64 (fatV q o 0)])) ∧ Below w.heap.size w w' := by
 have HQ0 := Shut.mk h
 have HF := Shut.mk hf
 clear h hf
 go_enter Tryz.func80, Tryz.ntmps80
 go_wp2
 go_loopw [4, 5, 8] (fun u v i wr => ∃ (k : Nat) (o : Option Nat), Below w.heap.size w wr ∧ k ≤ 16 ∧ i = .int .i64 k ∧ Best (fatF q) (okF q) k o ∧ u = .int .i64 (fatAt o) ∧ v = .int .i64 (fatV q o (-1))) (fun _ _ i _ => 16 - (intOf i).toNat)
 case atStart => exact ⟨0, none, Below.refl _ _, by omega, rfl, best_zero _ _, rfl, rfl⟩
 case round =>
  obtain ⟨k, o, hbw, hk, rfl, hbest, rfl, rfl⟩ := hrel
  have HBW := Shut.mk hbw
  have HQ := Shut.mk (HQ0.out.quiet hbw)
  clear hbw
  have HBE := Shut.mk hbest
  clear hbest
  by_cases hlt : k < 16
  ·have b2 := HF.out.low hlt
   have HFT := Shut.mk (show fatF q k = bytesF (q.fl k).pk from rfl)
   have g1 : wr.cell? ⟨x.g, 3 + k * 9 + 2, none⟩ = some (.int .i64 (bytesF (q.fl k).pk)) := HQ.out.fld hlt (j := 2) rfl
   have HHQ := Shut.mk (hasQ_in q hlt)
   obtain ⟨u, hu⟩ : ∃ u, fatAt o = u := ⟨_, rfl⟩
   obtain ⟨v, hv⟩ : ∃ v, fatV q o (-1) = v := ⟨_, rfl⟩
   obtain ⟨y, hy⟩ : ∃ y, bytesF (q.fl k).pk = y := ⟨_, rfl⟩
   rw [hy] at b2 g1
   have HU := Shut.mk hu
   have HV := Shut.mk hv
   have HYY := Shut.mk hy
   rw [hu, hv]
   clear hu hv hy
   by_cases hp : (q.fl k).pk.length = 0
   ·have HOK := Shut.mk (show okF q k = false by unfold okF; rw [List.eq_nil_of_length_eq_zero hp]; rfl)
    have HNX := Shut.mk (best_skip HBE.out HOK.out)
    have HNO := Shut.mk (show hasQ q (k : Int) = false by rw [HHQ.out, hp]; rfl)
    clear hp
    go_wp2_with (fail)
    refine (hasq_any T wr x V q HQ.out (k : Int)).mono ?_
    rintro e wn ⟨rfl, rfl⟩
    rw [HNO.out]
    go_wp2
    go_roundw
    case rel => exact ⟨k + 1, o, HBW.out, by omega, by go_num, HNX.out, by rw [HU.out], by rw [HV.out]⟩
    case measure => simp [intOf]; omega
   ·have HOK := Shut.mk (show okF q k = true by unfold okF; cases hq : (q.fl k).pk with | nil => rw [hq] at hp; exact absurd rfl hp | cons _ _ => rfl)
    have HYS := Shut.mk (show hasQ q (k : Int) = true by rw [HHQ.out]; simp; omega)
    clear hp
    by_cases hvy : v < y
    ·have HNX : Shut (Best (fatF q) (okF q) (k + 1) (some k)) := ⟨by
      cases ho : o with
      | none => rw [ho] at HBE; exact best_first HBE.out HOK.out
      | some i =>
       rw [ho] at HBE HV
       exact best_more HBE.out HOK.out (by rw [HFT.out, HYY.out]; have : fatF q i = v := HV.out; omega)⟩
     have HFV := Shut.mk (show fatV q (some k) (-1) = y from HFT.out.trans HYY.out)
     clear HBE HU HV
     go_wp2_with (fail)
     refine (hasq_any T wr x V q HQ.out (k : Int)).mono ?_
     rintro e wn ⟨rfl, rfl⟩
     rw [HYS.out]
     go_wp2
     go_quiet (fail)
     go_wp2
     go_roundw
     case rel => exact ⟨k + 1, some k, below_drewN HBW.out _, by omega, by go_num, HNX.out, rfl, by rw [HFV.out]⟩
     case measure => simp [intOf]; omega
    ·have HNX : Shut (Best (fatF q) (okF q) (k + 1) o) := ⟨by
      cases ho : o with
      | none => rw [ho] at HV; have : (-1 : Int) = v := HV.out; omega
      | some i =>
       rw [ho] at HBE HV
       exact best_keep HBE.out (by rw [HFT.out, HYY.out]; have : fatF q i = v := HV.out; omega)⟩
     clear HBE
     go_wp2_with (fail)
     refine (hasq_any T wr x V q HQ.out (k : Int)).mono ?_
     rintro e wn ⟨rfl, rfl⟩
     rw [HYS.out]
     go_wp2
     go_roundw
     case rel => exact ⟨k + 1, o, HBW.out, by omega, by go_num, HNX.out, by rw [HU.out], by rw [HV.out]⟩
     case measure => simp [intOf]; omega
  ·have hk' : k = 16 := by omega
   subst hk'
   cases ho : o with
   | none =>
    have HN0 : Shut (IsFat q none) := ⟨by have := HBE.out; rwa [ho] at this⟩
    rw [show fatV q none (-1) = -1 from rfl, show fatAt none = 0 from rfl]
    go_wp2
    go_ret2
    exact ⟨⟨none, HN0.out, rfl⟩, HBW.out⟩
   | some i =>
    have HN0 : Shut (IsFat q (some i)) := ⟨by have := HBE.out; rwa [ho] at this⟩
    have hi : i < 16 := HN0.out.1
    have b3 : 0 ≤ fatF q i := (HF.out.low hi).1
    obtain ⟨y, hy⟩ : ∃ y, fatF q i = y := ⟨_, rfl⟩
    rw [hy] at b3
    have HYY := Shut.mk (show fatV q (some i) 0 = y from hy)
    rw [show fatV q (some i) (-1) = y from hy, show fatAt (some i) = ((i : Nat) : Int) from rfl]
    have hmx : max y 0 = y := by omega
    have HMX := Shut.mk hmx
    clear HBE hy
    go_wp2
    go_ret2
    exact ⟨⟨some i, HN0.out, by rw [HYY.out]; rfl⟩, HBW.out⟩
def dropQ (q : Qu) (n : Nat) : Qu := ⟨setF q.fl n ⟨(q.fl n).pk.tail, (q.fl n).df, (q.fl n).cd⟩, q.fresh, q.elder⟩
def DropE (T : Nat → Prop) (w : World) (x : Rq) (V : Nat → Value) (q : Qu) (b : Int) (e : Ending) (w' : World) : Prop :=
 (hasQ q b = false ∧ e = .returned (.tuple #[pkV pk00.1 (.slice none 0 0), .bool false]) ∧ Below w.heap.size w w') ∨
 ∃ (n : Nat) (p : Pk) (r : List Pk) (v : Value) (V' : Nat → Value), n < 16 ∧ b = (n : Int) ∧ (q.fl n).pk = p :: r ∧ e = .returned (.tuple #[pkV p v, .bool true]) ∧ OwnV w' w.heap.size v p.body ∧ IsCq T w' x V' (dropQ q n) ∧ CqS T w x V T w' V' ∧ ∀ k, FootC x V' k → FootC x V k
set_option maxRecDepth 100000 in
set_option maxHeartbeats 8000000 in
theorem drophead_any (T : Nat → Prop) (w : World) (x : Rq) (V : Nat → Value) (q : Qu) (h : IsCq T w x V q) (hf : FewC q) (b : Int) :
 Calls Tryz.prog 59 #[.pointer (some ⟨x.g, 0, none⟩), .int .i64 b] w fun e w' => DropE T w x V q b e w' := by
 have HZ := Shut.mk (MapKept.heap_alloc w (Obj.cells #[Value.int .i64 0, .int .u32 0, .int .i64 0, .int .i64 0, Value.slice none 0 0] 35 (0, 0))).1
 have HB := Shut.mk ((Below.refl w.heap.size w).alloc (Nat.le_refl _) (Obj.cells #[Value.int .i64 0, .int .u32 0, .int .i64 0, .int .i64 0, Value.slice none 0 0] 35 (0, 0)))
 have HBZ := Shut.mk (below_setRow HB.out (Nat.le_refl _) #[Value.int .i64 0, .int .u32 0, .int .i64 0, .int .i64 0, Value.slice none 0 0])
 have HZ2 := Shut.mk (setRow_heap _ _ _ #[Value.int .i64 0, .int .u32 0, .int .i64 0, .int .i64 0, Value.slice none 0 0] _ (0, 0) HZ.out)
 have HQ := Shut.mk (h.quiet HB.out)
 have HLT := Shut.mk (show ∀ k, FootC x V k ∨ T k → k < w.heap.size from fun k hk => hk.elim h.lts (h.there k))
 clear h
 by_cases hh : hasQ q b = true
 ·obtain ⟨n, rfl⟩ := Int.eq_ofNat_of_zero_le (show 0 ≤ b from by
   by_cases e : 0 ≤ b
   ·exact e
   ·rw [hasQ_no (by omega)] at hh; cases hh)
  have hn16 : n < 16 := by
   by_cases e : n < 16
   ·exact e
   ·rw [hasQ_no (by omega)] at hh; cases hh
  have hn16i : (n : Int) < 16 := by omega
  have HH := Shut.mk hh
  obtain ⟨p, r, hpr⟩ : ∃ p r, (q.fl n).pk = p :: r := by
   rw [hasQ_in q hn16] at hh
   cases hc : (q.fl n).pk with
   | nil => rw [hc] at hh; simp at hh
   | cons p r => exact ⟨p, r, rfl⟩
  obtain ⟨pre, post, hpl, hsp, hsU⟩ := cq_split x V q.fl hn16
  have hF := HQ.out.flow hn16 hsp
  rw [hpr] at hF
  have HF := Shut.mk (show FlB T (w.alloc (Obj.cells #[Value.int .i64 0, .int .u32 0, .int .i64 0, .int .i64 0, Value.slice none 0 0] 35 (0, 0))) x.g 98 pre post (V n) (V (16 + n)) (p :: r) (⟨p.at_, p.body.length⟩ :: itemsF r) (bytesF (p :: r)) (q.fl n).df (q.fl n).cd from hF)
  have HSU := Shut.mk hsU
  have HPL := Shut.mk hpl
  have HPB := Shut.mk (show p.body.length ≤ 1000000000 by have := (hf.el n hn16 p (by rw [hpr]; exact List.mem_cons_self)).2.2; omega)
  have HBY := Shut.mk (show 0 ≤ bytesF (p :: r) ∧ bytesF (p :: r) ≤ 4503599627370496 by have := hf.low hn16; rw [hpr] at this; omega)
  have HTL := Shut.mk (show (⟨(q.fl n).pk.tail, (q.fl n).df, (q.fl n).cd⟩ : Fl) = ⟨r, (q.fl n).df, (q.fl n).cd⟩ by rw [hpr]; rfl)
  have HPR := Shut.mk hpr
  have HBT := Shut.mk (show bytesF (p :: r) - ((p.body.length : Nat) : Int) = bytesF r by unfold bytesF; simp; omega)
  clear hh hpr hF hsU hpl hsp
  obtain ⟨s, hs⟩ : ∃ s, s = w.heap.size := ⟨_, rfl⟩
  have HS := Shut.mk hs
  go_enter Tryz.func59, Tryz.ntmps59
  rw [← hs] at HZ HBZ HZ2 HLT
  clear hs
  go_wp2_with (fail)
  refine (hasq_any T _ x V q HQ.out (n : Int)).mono ?_
  rintro e wn ⟨rfl, rfl⟩
  rw [HH.out]
  generalize World.alloc w _ = w1 at *
  go_wp2_with (fail)
  refine (shift_any T x.g (3 + n * 9) _ pre post (V n) (V (16 + n)) p r _ (itemsF r) _ _ _ w1 HF.out HPL.out HPB.out HBY.out).mono ?_
  rintro e w2 ⟨v, vp', vi', rfl, hov, hF2, hS2, hvp, hvi⟩
  rw [HBT.out] at hF2
  have hput := HQ.out.put_flow hn16 (y := ⟨r, (q.fl n).df, (q.fl n).cd⟩) HSU.out hF2 hS2
  have HOV := Shut.mk hov
  have HX2 := Shut.mk (hS2.only.at_ HZ.out (fun e => by
   have h1 := HS.out
   rcases e with e | e | e
   ·have := HLT.out x.g (.inl (.inl rfl)); omega
   ·have := HLT.out s (.inl (.inr ⟨n, by omega, e⟩)); omega
   ·have := HLT.out s (.inl (.inr ⟨16 + n, by omega, e⟩)); omega))
  have HP1 := Shut.mk hput.1
  have HP2 := Shut.mk hput.2
  have HVP := Shut.mk hvp
  have HVI := Shut.mk hvi
  clear hov hF2 hS2 hvp hvi hput
  obtain ⟨A0, c0, hv0, -⟩ := owns_form HOV.out
  subst hv0
  obtain ⟨pi, pf, pt, pa, pb⟩ := p
  unfold pkV
  dsimp only at HOV ⊢
  have HX3 := Shut.mk (setRow_heap w2 s _ #[Value.int .i64 pi, .int .u32 pf, .int .i64 pt, .int .i64 pa, Value.slice A0 pb.length c0] _ (0, 0) HX2.out)
  have h1s : s < w1.heap.size := lt_blk HZ.out
  have HOE := Shut.mk (show OwnV (w2.setRow s #[Value.int .i64 pi, .int .u32 pf, .int .i64 pt, .int .i64 pa, Value.slice A0 pb.length c0]) s (Value.slice A0 pb.length c0) pb from owns_setRow (owns_base HOV.out (by omega)) (fun g hg => by have := (World.ownsRow.lt HOV.out g hg).1; omega))
  have HO3 := Shut.mk (only_setRow w2 s #[Value.int .i64 pi, .int .u32 pf, .int .i64 pt, .int .i64 pa, Value.slice A0 pb.length c0])
  have HSW := Shut.mk (show s = w.heap.size from HS.out)
  clear h1s
  go_wp2_with (first
   | (refine wpList_store_row rfl 35 (.tmp 4) (.tmp 16) rfl s #[Value.int .i64 pi, .int .u32 pf, .int .i64 pt, .int .i64 pa, Value.slice A0 pb.length c0] (by first | rfl | (show Value.pointer (some ⟨w.heap.size, 0, none⟩) = _; rw [HS.out])) rfl 35 _ HX2.out size5 rfl (pkt_one _ _ _ _ _ _ _) ?_))
  have HQ3 := Shut.mk (HP1.out.only HO3.out (fun k hk e => by
   have h0 := HSW.out
   rcases hk with hk | ⟨i, hi, hk⟩
   ·have := HLT.out x.g (.inl (.inl rfl)); omega
   ·unfold upd2 at hk
    split at hk
    ·rw [HVP.out] at hk; have := HLT.out k (.inl (.inr ⟨n, by omega, hk⟩)); omega
    ·split at hk
     ·rw [HVI.out] at hk; have := HLT.out k (.inl (.inr ⟨16 + n, by omega, hk⟩)); omega
     ·have := HLT.out k (.inl (.inr ⟨i, hi, hk⟩)); omega) (fun k hk e => by have := HLT.out k (.inr hk); have h0 := HSW.out; omega))
  exact bodyPost_ret (v := .tuple #[.agg #[Value.int .i64 pi, .int .u32 pf, .int .i64 pt, .int .i64 pa, Value.slice A0 pb.length c0], .bool true]) (results_c1 (p := 4) (q := 5) Tryz.results59 _ _ s _ _ _ _ _ (by first | rfl | (show Value.pointer (some ⟨w.heap.size, 0, none⟩) = _; rw [HS.out])) rfl HX3.out Tryz.underlying35 rfl size5) rfl (.inr ⟨n, ⟨pi, pf, pt, pa, pb⟩, r, _, _, hn16, rfl, HPR.out, rfl, by rw [← HSW.out]; exact HOE.out, by
   unfold dropQ; rw [HTL.out]; exact HQ3.out, (CqS.from_ HB.out HP2.out).over HO3.out (fun k e => by have h0 := HSW.out; omega), fun k hk => by
   rcases hk with hk | ⟨i, hi, hk⟩
   ·exact .inl hk
   ·unfold upd2 at hk
    split at hk
    ·rw [HVP.out] at hk; exact .inr ⟨n, by omega, hk⟩
    ·split at hk
     ·rw [HVI.out] at hk; exact .inr ⟨16 + n, by omega, hk⟩
     ·exact .inr ⟨i, hi, hk⟩⟩)
 ·have HH := Shut.mk (show hasQ q b = false by simpa using hh)
  clear hh
  go_enter Tryz.func59, Tryz.ntmps59
  go_wp2_with (fail)
  refine (hasq_any T _ x V q HQ.out b).mono ?_
  rintro e wn ⟨rfl, rfl⟩
  rw [HH.out]
  go_wp2_with (first
   | (refine wpList_store_row rfl 35 (.tmp 4) (.tmp 10) rfl w.heap.size #[Value.int .i64 0, .int .u32 0, .int .i64 0, .int .i64 0, Value.slice none 0 0] rfl rfl 35 _ HZ.out size5 rfl (pkt_one _ _ _ _ _ _ _) ?_))
  exact bodyPost_ret (v := .tuple #[pkV pk00.1 (.slice none 0 0), .bool false]) (results_c1 (p := 4) (q := 5) Tryz.results59 _ _ w.heap.size _ _ _ _ _ rfl rfl HZ2.out Tryz.underlying35 rfl size5) rfl (.inl ⟨HH.out, rfl, HBZ.out⟩)
end Go.Proofs.YtndkmgcmegcieaaGreatDoor
/-
  CONTRACT of fq's All.
-/
namespace Go.Proofs.YtndkmgcmegcieaaGreatDoor
open Go.ChangeShapes Go.WideShapes Go.ChangeAt Go.RowKit Go.Deep
set_option linter.unusedVariables false
set_option linter.unusedSimpArgs false
def allTo (q : Qu) (n : Nat) : List Pk := (List.range n).flatMap fun b => (q.fl b).pk
def allQ (q : Qu) : List Pk := allTo q 16
theorem allTo_succ (q : Qu) (n : Nat) : allTo q (n + 1) = allTo q n ++ (q.fl n).pk := by unfold allTo; rw [List.range_succ, List.flatMap_append]; simp
theorem allTo_len {q : Qu} (h : FewC q) : ∀ n, n ≤ 16 → (allTo q n).length ≤ 1000 * n
 | 0, _ => by simp [allTo]
 | n + 1, hn => by
  rw [allTo_succ, List.length_append]
  have := allTo_len h n (by omega)
  have := h.len n (by omega)
  omega
theorem OwnP.wide {T T' : Nat → Prop} {w : World} {B : Nat} {v : Value} {l : List Pk} (h : OwnP T w B v l) (ht : ∀ k, T k → T' k) (hn : ∀ g, v.ownBlock = some g → ¬ T' g) : OwnP T' w B v l := OwnK.mono h (fun k _ => ht k) hn
set_option maxRecDepth 100000 in
set_option maxHeartbeats 8000000 in
theorem all_any (T : Nat → Prop) (w : World) (x : Rq) (V : Nat → Value) (q : Qu) (h : IsCq T w x V q) (hf : FewC q) :
 Calls Tryz.prog 44 #[.pointer (some ⟨x.g, 0, none⟩)] w fun e w' => ∃ u T2, e = .returned u ∧ OwnP T2 w' w.heap.size u (allQ q) ∧ (∀ k, T2 k → w.heap.size ≤ k ∧ k < w'.heap.size) ∧ Below w.heap.size w w' := by
 have HQ := Shut.mk h
 have HF := Shut.mk hf
 clear h hf
 go_enter Tryz.func44, Tryz.ntmps44
 go_wp2_with (fail)
 go_loopw [3, 7] (fun u i wr => ∃ (k : Nat) (T2 : Nat → Prop), k ≤ 16 ∧ i = .int .i64 k ∧ OwnP T2 wr w.heap.size u (allTo q k) ∧ (∀ j, T2 j → w.heap.size ≤ j ∧ j < wr.heap.size) ∧ Below w.heap.size w wr) (fun _ i _ => 16 - (intOf i).toNat)
 case atStart => exact ⟨0, fun _ => False, by omega, rfl, OwnK.nil _ _ _ _, fun j hj => hj.elim, Below.refl _ _⟩
 case round =>
  obtain ⟨k, T2, hk, rfl, hown, ht2, hbw⟩ := hrel
  have HO := Shut.mk hown
  have HT2 := Shut.mk ht2
  have HBW := Shut.mk hbw
  clear hown ht2
  by_cases hlt : k < 16
  ·have HQr := Shut.mk (HQ.out.quiet hbw)
   obtain ⟨A, c, hv, hcap, -⟩ := (HQ.out.pk k hlt).form
   have g0 := HQr.out.fld hlt (j := 0) (v := V k) rfl
   have hrw := HQ.out.pk k hlt
   rw [hv] at g0 hrw
   have hll := HF.out.len k hlt
   have HROW := Shut.mk (show RowP T w A (q.fl k).pk from hrw.row (by unfold maxLen; omega))
   have HLL := Shut.mk hll
   have HAL := Shut.mk (allTo_len HF.out k (by omega))
   have HEL := Shut.mk (fun p hp => (HF.out.el k hlt p hp).2.2)
   have HSU := Shut.mk (allTo_succ q k)
   have g1 : wr.cell? ⟨x.g, 3 + k * 9, none⟩ = some (.slice A (q.fl k).pk.length c) := g0
   clear g0 hrw hv hcap hbw hll
   obtain ⟨l, hl⟩ : ∃ l, l = (q.fl k).pk := ⟨_, rfl⟩
   rw [← hl] at HROW HLL HEL HSU g1
   obtain ⟨ln, hln⟩ : ∃ n, n = l.length := ⟨_, rfl⟩
   rw [← hln] at HLL g1
   have HLN := Shut.mk hln
   clear hl hln
   have hlk : ln ≤ 1000 := HLL.out
   go_wp2_with (fail)
   go_loopw [3, 18] (fun u j wr => ∃ (m : Nat) (T2 : Nat → Prop), m ≤ ln ∧ j = .int .i64 m ∧ OwnP T2 wr w.heap.size u (allTo q k ++ l.take m) ∧ (∀ j, T2 j → w.heap.size ≤ j ∧ j < wr.heap.size) ∧ Below w.heap.size w wr) (fun _ j _ => ln - (intOf j).toNat)
   case atStart => exact ⟨0, T2, by omega, rfl, by rw [List.take_zero, List.append_nil]; exact HO.out, HT2.out, HBW.out⟩
   case round =>
    clear HO HT2 HBW
    obtain ⟨m, T2, hm, rfl, hown, ht2, hbw⟩ := hrel
    have HO := Shut.mk hown
    have HT2 := Shut.mk ht2
    have HBW := Shut.mk hbw
    clear hown ht2 hbw
    by_cases hml : m < ln
    ·have hml2 : (m : Int) < (ln : Int) := by omega
     obtain ⟨b, off, aa, mm, cc, rfl, hrg, hrb, hmc, -⟩ := (RowK.below HROW.out HBW.out).el m (by rw [← HLN.out]; exact hml)
     have HTK := Shut.mk (show l.take (m + 1) = l.take m ++ [l.getD m pk00.1] from take_snoc' (by rw [← HLN.out]; exact hml) _)
     have hmem : l.getD m pk00.1 ∈ l := by
      have e : l.getD m pk00.1 = l[m]'(by rw [← HLN.out]; exact hml) := by simp [List.getD, show m < l.length by rw [← HLN.out]; exact hml]
      rw [e]; exact List.getElem_mem _
     have hbl := HEL.out _ hmem
     have hlt2 : (allTo q k ++ l.take m).length ≤ 1000000 := by
      rw [List.length_append, List.length_take]
      have := HAL.out
      omega
     have HLT := Shut.mk hlt2
     clear hmem hlt2
     generalize l.getD m pk00.1 = p at *
     obtain ⟨pi, pf, pt, pa, pb⟩ := p
     have hrg' : wr.rangeAt b (off + m * 5) [Value.int .i64 pi, .int .u32 pf, .int .i64 pt, .int .i64 pa, Value.slice aa mm cc] := hrg
     have hrb' : RowB .u8 wr aa mm pb := hrb
     have HRG := Shut.mk hrg'
     have HML := Shut.mk (show mm = pb.length from hrb'.len.symm)
     have HMB := Shut.mk (show mm ≤ 1000000000 by have h1 := hrb'.len; have h2 : pb.length ≤ 1000000 := hbl; omega)
     have HWF := Shut.mk hrb'.wf
     have HRB := Shut.mk hrb'
     clear hrg hrb hmc hrg' hrb' hbl
     have HBw3 := Shut.mk ((Below.refl wr.heap.size wr).alloc (Nat.le_refl _) (Obj.cells #[Value.int .i64 pi, .int .u32 pf, .int .i64 pt, .int .i64 pa, Value.slice aa mm cc] 35 (0, 0)))
     have HYw3 := Shut.mk (MapKept.heap_alloc wr (Obj.cells #[Value.int .i64 pi, .int .u32 pf, .int .i64 pt, .int .i64 pa, Value.slice aa mm cc] 35 (0, 0))).1
     have HRB3 := Shut.mk (HRB.out.below HBw3.out)
     go_wp2_with (first
      | (refine wpList_load_mid rfl 35 (.tmp 20) rfl b (off + m * 5) rfl [Value.int .i64 pi, .int .u32 pf, .int .i64 pt, .int .i64 pa, Value.slice aa mm cc] _ HRG.out Tryz.underlying35 rfl size5 ?_)
      | (refine wpList_load_row rfl 35 (.tmp 6) rfl wr.heap.size rfl 35 #[Value.int .i64 pi, .int .u32 pf, .int .i64 pt, .int .i64 pa, Value.slice aa mm cc] (0, 0) _ HYw3.out Tryz.underlying35 rfl size5 ?_))
     generalize World.alloc wr _ = w3 at *
     refine (copied_any ⟨pi, pf, pt, pa, pb⟩ aa mm cc w3 HRB3.out HMB.out).mono ?_
     rintro e w4 ⟨v, rfl, hO, hB⟩
     obtain ⟨A0, c0, hv0, -⟩ := owns_form hO
     subst hv0
     unfold pkV
     dsimp only at hO ⊢
     have HOV := Shut.mk hO
     have HB4 := Shut.mk (HBw3.out.trans (hB.mono HBw3.out.size))
     clear hO hB
     have HA5 := Shut.mk ((Below.refl w4.heap.size w4).alloc (Nat.le_refl _) (Obj.cells #[Value.int .i64 pi, .int .u32 pf, .int .i64 pt, .int .i64 pa, Value.slice A0 pb.length c0] 35 (0, 0)))
     have HX5 := Shut.mk (block_range (MapKept.heap_alloc w4 (Obj.cells #[Value.int .i64 pi, .int .u32 pf, .int .i64 pt, .int .i64 pa, Value.slice A0 pb.length c0] 35 (0, 0))).1)
     have HNU := Shut.mk (show ∀ g, u3.ownBlock = some g → g < wr.heap.size from fun g hg => (OwnP.lt HO.out g hg).2)
     have HNV := Shut.mk (show ∀ g, (Value.slice A0 pb.length c0).ownBlock = some g → wr.heap.size ≤ g ∧ g < w4.heap.size from fun g hg => by
      have h1 := World.ownsRow.lt HOV.out g hg
      exact ⟨Nat.le_trans HBw3.out.size h1.1, h1.2⟩)
     obtain ⟨T3, hT3⟩ : ∃ T3 : Nat → Prop, T3 = fun k => T2 k ∨ (Value.slice A0 pb.length c0).ownBlock = some k := ⟨_, rfl⟩
     have HO4 := Shut.mk (show OwnP T3 w4 w.heap.size u3 (allTo q k ++ l.take m) by
      rw [hT3]
      exact OwnP.wide (OwnK.below HO.out HB4.out) (fun k hk => .inl hk) fun g hg e => by
       have h1 := HNU.out g hg
       rcases e with e | e
       ·obtain ⟨l', -, -, -, h5⟩ := HO.out
        exact h5 g hg e
       ·have := (HNV.out g e).1; omega)
     have HE4 := Shut.mk (show ElK T3 w4 (.slice A0 pb.length c0) pb by
      rw [hT3]
      exact OwnV.el HOV.out (by have h1 := HML.out; have h2 := HMB.out; unfold maxLen; omega) (by intro j hj; exact HWF.out j (by rw [HML.out]; exact hj)) fun g hg => .inr hg)
     have HT4 := Shut.mk (show ∀ j, T3 j → w.heap.size ≤ j ∧ j < w4.heap.size by
      rw [hT3]
      intro j hj
      rcases hj with hj | hj
      ·have h1 := HT2.out j hj
       exact ⟨h1.1, Nat.lt_of_lt_of_le h1.2 HB4.out.size⟩
      ·have h1 := HNV.out j hj
       exact ⟨Nat.le_trans HBW.out.size h1.1, h1.2⟩)
     clear hT3
     go_wp2_with (first
      | (refine app_p T3 rfl (.tmp 22) (.tmp 25) rfl w.heap.size u3 (allTo q k ++ l.take m) rfl (OwnK.below HO4.out HA5.out) ⟨pi, pf, pt, pa, pb⟩ (.slice A0 pb.length c0) ⟨w4.heap.size, 0, none⟩ 1 rfl (fun j q hq => by rw [Addr.add_mid]; exact HX5.out j q hq) (HE4.out.below HA5.out) (fun j hj => Nat.lt_of_lt_of_le (HT4.out j hj).2 HA5.out.size) HLT.out (Nat.le_trans HBW.out.size (Nat.le_trans HB4.out.size HA5.out.size)) ?_
         intro u5 w6 HO6 HB6 HY6 HZ6))
     have HS6 := Shut.mk (show w4.heap.size ≤ w6.heap.size from Nat.le_trans HA5.out.size HY6.out.size)
     have HBE := Shut.mk (show Below w.heap.size w w6 from (HBW.out.trans ((HB4.out.trans (HA5.out.mono HB4.out.size)).mono HBW.out.size)).trans HB6.out)
     have hn : (allTo q k ++ l.take m) ++ [(⟨pi, pf, pt, pa, pb⟩ : Pk)] = allTo q k ++ l.take (m + 1) := by rw [HTK.out, List.append_assoc]
     go_roundw
     case rel => refine ⟨_, _, _, ?_, rfl, rfl, rfl⟩; exact ⟨m + 1, by omega, by go_num, T3, by rw [← hn]; exact HO6.out, fun j hj => ⟨(HT4.out j hj).1, Nat.lt_of_lt_of_le (HT4.out j hj).2 HS6.out⟩, HBE.out⟩
     case measure => simp [intOf]; omega
    ·have hm' : m = ln := by omega
     subst hm'
     have HTL := Shut.mk (show allTo q k ++ l.take m = allTo q (k + 1) by rw [HSU.out, HLN.out, List.take_length])
     go_wp2
     go_roundw
     case rel => exact ⟨k + 1, T2, by omega, by go_num, by rw [← HTL.out]; exact HO.out, HT2.out, HBW.out⟩
     case measure => simp [intOf]; omega
  ·have hk' : k = 16 := by omega
   subst hk'
   go_wp2
   go_ret
   exact ⟨_, T2, rfl, HO.out, HT2.out, HBW.out⟩
end Go.Proofs.YtndkmgcmegcieaaGreatDoor
