/-
  CONTRACTS of fq's Len, Bytes; of the chapter's examples.
-/
import Derived.Test.YtaibopaagjodoaaFqT
namespace Go.Proofs.Ytaibopaagjodoaa
open Go.ChangeShapes Go.WideShapes Go.ChangeAt Go.RowKit Go.Deep
set_option linter.unusedVariables false
set_option linter.unusedSimpArgs false

def lenTo (q : Qu) (n : Nat) : Nat := ((List.range n).map fun b => (q.fl b).pk.length).sum
theorem lenTo_succ (q : Qu) (n : Nat) : lenTo q (n + 1) = lenTo q n + (q.fl n).pk.length := by
  unfold lenTo; rw [List.range_succ, List.map_append, List.sum_append]; simp
theorem lenTo_le {q : Qu} {k : Nat} (h : ∀ b, b < 16 → (q.fl b).pk.length ≤ k) (n : Nat) (hn : n ≤ 16) : lenTo q n ≤ n * k := sum_le n fun b hb => h b (by omega)
def bytTo (q : Qu) (n : Nat) : Int := ((List.range n).map fun b => bytesF (q.fl b).pk).sum
theorem bytTo_succ (q : Qu) (n : Nat) : bytTo q (n + 1) = bytTo q n + bytesF (q.fl n).pk := by
  unfold bytTo; rw [List.range_succ, List.map_append, List.sum_append]; simp
theorem bytTo_in {q : Qu} (h : ∀ b, b < 16 → (q.fl b).pk.length ≤ 10000) (hb : ∀ b, b < 16 → ∀ p ∈ (q.fl b).pk, p.body.length ≤ 1000000) : ∀ n, n ≤ 16 → 0 ≤ bytTo q n ∧ bytTo q n ≤ 10000000000 * (n : Int)
  | 0, _ => by simp [bytTo]
  | n + 1, hn => by
    have h1 := bytTo_in h hb n (by omega)
    have h2 := bytes_low _ (hb n (by omega))
    have h3 := h n (by omega)
    rw [bytTo_succ]
    omega
set_option maxRecDepth 100000 in
set_option maxHeartbeats 8000000 in
theorem len_any (T : Nat → Prop) (w : World) (x : Rq) (V : Nat → Value) (q : Qu) (h : IsCq T w x V q) (hl : ∀ b, b < 16 → (q.fl b).pk.length ≤ 10000) :
    Calls Try.prog 13 #[.pointer (some ⟨x.g, 0, none⟩)] w fun e w' => e = .returned (.int .i64 (lenTo q 16 : Nat)) ∧ w = w' := by
  have HQ := Shut.mk h
  have HL := Shut.mk hl
  clear h hl
  go_enter Try.func13, Try.ntmps13
  go_wp2
  go_loop [3, 5] (fun u i => ∃ k : Nat, k ≤ 16 ∧ i = .int .i64 k ∧ u = .int .i64 (lenTo q k : Nat)) (fun _ i => 16 - (intOf i).toNat)
  case atStart => exact ⟨0, by omega, rfl, rfl⟩
  case round =>
    obtain ⟨k, hk, rfl, rfl⟩ := hrel
    by_cases hlt : k < 16
    · have HS := Shut.mk (lenTo_succ q k)
      have b1 := lenTo_le HL.out k hk
      have b2 := HL.out k hlt
      obtain ⟨A, c, hv, -, -⟩ := (HQ.out.pk k hlt).form
      have g0 := HQ.out.fld hlt (j := 0) (v := V k) rfl
      rw [hv] at g0
      have g1 : w.cell? ⟨x.g, 3 + k * 9, none⟩ = some (.slice A (q.fl k).pk.length c) := g0
      clear hv g0
      generalize (q.fl k).pk.length = m at *
      generalize lenTo q k = u at *
      go_wp2
      go_round
      case rel => exact ⟨k + 1, by omega, by go_num, by rw [HS.out]; exact congrArg (Value.int .i64) (by omega)⟩
      case measure => simp [intOf]; omega
    · have hk' : k = 16 := by omega
      subst hk'
      go_wp2
      go_ret
      exact ⟨rfl, rfl⟩
set_option maxRecDepth 100000 in
set_option maxHeartbeats 8000000 in
theorem bytes_q_any (T : Nat → Prop) (w : World) (x : Rq) (V : Nat → Value) (q : Qu) (h : IsCq T w x V q) (hl : ∀ b, b < 16 → (q.fl b).pk.length ≤ 10000) (hb : ∀ b, b < 16 → ∀ p ∈ (q.fl b).pk, p.body.length ≤ 1000000) :
    Calls Try.prog 28 #[.pointer (some ⟨x.g, 0, none⟩)] w fun e w' => e = .returned (.int .i64 (bytTo q 16)) ∧ w = w' := by
  have HQ := Shut.mk h
  have HI := Shut.mk (bytTo_in hl hb)
  clear h hl hb
  go_enter Try.func28, Try.ntmps28
  go_wp2
  go_loop [3, 5] (fun u i => ∃ k : Nat, k ≤ 16 ∧ i = .int .i64 k ∧ u = .int .i64 (bytTo q k)) (fun _ i => 16 - (intOf i).toNat)
  case atStart => exact ⟨0, by omega, rfl, rfl⟩
  case round =>
    obtain ⟨k, hk, rfl, rfl⟩ := hrel
    by_cases hlt : k < 16
    · have HS := Shut.mk (bytTo_succ q k)
      have b1 := HI.out k hk
      have b2 := HI.out (k + 1) (by omega)
      rw [HS.out] at b2
      have g1 : w.cell? ⟨x.g, 3 + k * 9 + 2, none⟩ = some (.int .i64 (bytesF (q.fl k).pk)) := HQ.out.fld hlt (j := 2) rfl
      generalize bytesF (q.fl k).pk = m at *
      generalize bytTo q k = u at *
      have hwr : IntKind.i64.wrap (u + m) = u + m := IntWalk.i64_in _ ⟨by omega, by omega⟩
      go_wp2
      go_round
      case rel => exact ⟨k + 1, by omega, by go_num, by rw [HS.out]⟩
      case measure => simp [intOf]; omega
    · have hk' : k = 16 := by omega
      subst hk'
      go_wp2
      go_ret
      exact ⟨rfl, rfl⟩
/-! ### the examples -/
theorem inv_Z (bk : Int → Nat) : InvQ bk quZ := ⟨List.nodup_nil, (fun b h => by cases h), (fun b h => absurd rfl h), (fun b p h => by cases h)⟩
theorem few_quZ : FewC quZ := few_Z
set_option maxRecDepth 100000 in
set_option maxHeartbeats 8000000 in
theorem first_any (w : World) : Calls Try.prog 8 #[] w fun e w' => e = .returned (.bool true) ∧ Below w.heap.size w w' := by
  go_enter Try.func8, Try.ntmps8
  go_wp2_with (fail)
  refine (new_any (uv 1#32) 5 100 w).mono ?_
  rintro e w1 ⟨rfl, hQ, hB⟩
  have HQ1 := Shut.mk hQ
  have HB1 := Shut.mk hB
  clear hQ hB
  obtain ⟨s, hs⟩ : ∃ s, s = w.heap.size := ⟨_, rfl⟩
  have HSS := Shut.mk hs
  rw [← hs] at HQ1 HB1 ⊢
  clear hs
  go_wp2_with (fail)
  refine (take_any (bkQ 1#32) (bkQ_lt _) _ w1 _ _ _ HQ1.out (inv_Z _) few_quZ 0 (by decide) (by decide) none [] quZ (.none rfl)).mono ?_
  rintro e w2 ⟨V2, late, T2, v, hQ, hC, hO, hT2, hap, hE⟩
  rcases hE with ⟨-, rfl, rfl⟩ | ⟨p, hp, -⟩
  · obtain ⟨l', hl1, -⟩ := hO
    obtain ⟨A, c, hl, -⟩ := owns_form hl1.1
    rw [List.length_nil] at hl
    subst hl
    have HQ2 := Shut.mk hQ
    have HC2 := Shut.mk hC
    have HA3 := Shut.mk ((Below.refl w2.heap.size w2).alloc (Nat.le_refl _) (Obj.cells #[Value.int .i64 0, .int .u32 0, .int .i64 0, .int .i64 0, Value.slice none 0 0] 32 (0, 0)))
    have HX3 := Shut.mk (MapKept.heap_alloc w2 (Obj.cells #[Value.int .i64 0, .int .u32 0, .int .i64 0, .int .i64 0, Value.slice none 0 0] 32 (0, 0))).1
    obtain ⟨w3, hw3⟩ : ∃ w3, w3 = (w2.alloc (Obj.cells #[Value.int .i64 0, .int .u32 0, .int .i64 0, .int .i64 0, Value.slice none 0 0] 32 (0, 0))).setRow w2.heap.size #[Value.int .i64 0, .int .u32 0, .int .i64 0, .int .i64 0, Value.slice none 0 0] := ⟨_, rfl⟩
    have HW3 := Shut.mk hw3
    have HB3 := Shut.mk (show Below w2.heap.size w2 w3 by rw [hw3]; exact below_setRow HA3.out (Nat.le_refl _) _)
    have HQ3 := Shut.mk (HQ2.out.quiet HB3.out)
    clear hQ hC hl1 hT2 hap hw3
    unfold pkV pk00
    dsimp only
    have h00 : ((0 : Int) == 0) = true := rfl
    go_wp2_with (first
      | (refine wpList_store_row rfl 32 (.tmp 2) (.tmp 11) rfl w2.heap.size #[Value.int .i64 0, .int .u32 0, .int .i64 0, .int .i64 0, Value.slice none 0 0] rfl rfl 32 _ HX3.out size5 rfl (pkt_one _ _ _ _ _ _ _) ?_
         rw [show World.setRow (World.alloc w2 _) w2.heap.size _ = w3 from HW3.out.symm]))
    refine (put_any 1#32 _ w3 _ V2 _ HQ3.out rfl ⟨4, 0, 0, 0, []⟩ none 0 0 RowB.nil (by omega) ⟨by decide, by decide⟩ (fun b _ => Nat.zero_le _) (fun b _ y hy => by cases hy) (Nat.zero_le _) (Nat.zero_le _) (fun b hb => by cases hb)).mono ?_
    rintro e w4 ⟨rfl, T4, V4, hQ4, hC4⟩
    have HQ4 := Shut.mk hQ4
    have HC4 := Shut.mk hC4
    have e1 : bkQ 1#32 (Pk.flow ⟨4, 0, 0, 0, []⟩) = bkt 0#32 1#32 := bkQ_uv 1#32 0#32
    rw [e1]
    have HBL := Shut.mk (show lenTo (putQ (bkQ 1#32) quZ ⟨4, 0, 0, 0, []⟩) 16 = 1 ∧ ∀ b, b < 16 → ((putQ (bkQ 1#32) quZ ⟨4, 0, 0, 0, []⟩).fl b).pk.length ≤ 10000 from by
      have hb16 := bkQ_lt 1#32 (Pk.flow ⟨4, 0, 0, 0, []⟩)
      generalize bkQ 1#32 = bk at *
      have hp : putQ bk quZ ⟨4, 0, 0, 0, []⟩ = ⟨setF quZ.fl (bk 0) ⟨[⟨4, 0, 0, 0, []⟩], 300, cdZ⟩, [bk 0], []⟩ := by
        unfold putQ
        rw [if_neg (by simp [quZ])]
        rfl
      rw [hp]
      have hb : bk 0 < 16 := hb16
      generalize bk 0 = b at *
      constructor
      · have : ∀ b, b < 16 → lenTo ⟨setF quZ.fl b ⟨[⟨4, 0, 0, 0, []⟩], 300, cdZ⟩, [b], []⟩ 16 = 1 := by decide
        exact this b hb
      · intro k hk
        by_cases e : k = b
        · subst e; simp [setF_same]
        · simp [setF_other _ _ e, quZ, flZ])
    obtain ⟨b, hb⟩ : ∃ b, bkt 0#32 1#32 = b := ⟨_, rfl⟩
    have HBB := Shut.mk hb
    rw [hb]
    clear hb hQ4 hC4 e1
    have hbb : ((b : Int) == (b : Int)) = true := by simp
    go_wp2_with (fail)
    refine (refbucket_any 0#32 1#32 w4).mono ?_
    rintro e w5 ⟨rfl, rfl⟩
    rw [HBB.out]
    go_wp2_with (fail)
    refine (len_any _ w4 _ V4 _ HQ4.out HBL.out.2).mono ?_
    rintro e w5 ⟨rfl, rfl⟩
    rw [HBL.out.1]
    go_wp2_with (fail)
    go_ret
    refine ⟨rfl, ?_⟩
    have hss := HSS.out
    have z1 : s ≤ w1.heap.size := by have := HB1.out.size; omega
    have f1 : ∀ k, FootC ⟨s, uv 1#32, 5, 100⟩ VZ k → s ≤ k := fun k e => by
      rcases e with e | ⟨j, hj, e⟩
      · have : k = s := e; omega
      · cases e
    have f2 : ∀ k, FootC ⟨s, uv 1#32, 5, 100⟩ V2 k → s ≤ k := fun k e => by
      rcases HC2.out.fresh k e with h1 | h1
      · exact f1 k h1
      · omega
    have o1 := HB1.out.trans (HC2.out.only.below (B := s) (fun i hi e => by have := f1 i e; omega) z1)
    have z2 : s ≤ w2.heap.size := by have := o1.size; omega
    have o2 := o1.trans (HB3.out.mono z2)
    have z3 : s ≤ w3.heap.size := by have := o2.size; omega
    rw [← hss]
    exact o2.trans (HC4.out.only.below (B := s) (fun i hi e => by have := f2 i e; omega) z3)
  · cases hp
end Go.Proofs.Ytaibopaagjodoaa
