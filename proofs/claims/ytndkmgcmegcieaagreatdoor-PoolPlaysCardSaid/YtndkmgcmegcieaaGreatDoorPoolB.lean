/-
  CONTRACTS of pool's known, queue, Has; of the functions that each is given.
-/
import Derived.Test.YtndkmgcmegcieaaGreatDoorPoolA
namespace Go.Proofs.YtndkmgcmegcieaaGreatDoor
open Go.ChangeShapes Go.WideShapes Go.ChangeAt Go.RowKit Go.Deep
set_option linter.unusedVariables false
set_option linter.unusedSimpArgs false
def knownP (aid tid : Int) : Prop := (1 ≤ aid ∧ aid ≤ 16) ∧ (0 ≤ tid ∧ tid < 8)
theorem knownP_in {aid tid : Int} (h : knownP aid tid) : ∃ a t : Nat, a < 16 ∧ t < 8 ∧ aid = (a : Int) + 1 ∧ tid = (t : Int) := by
 obtain ⟨⟨h1, h2⟩, h3, h4⟩ := h
 exact ⟨(aid - 1).toNat, tid.toNat, by omega, by omega, by omega, by omega⟩
set_option maxRecDepth 100000 in
set_option maxHeartbeats 8000000 in
theorem known_any (aid tid : Int) (w : World) (b : Bool) (hb : b = true ↔ knownP aid tid) :
 Calls Tryz.prog 31 #[.int .i64 aid, .int .i64 tid] w fun e w' => e = .returned (.bool b) ∧ w = w' := by
 unfold knownP at hb
 rcases Int.lt_or_le aid 1 with h1 | h1
 ·have HB := Shut.mk (show b = false by cases b with | false => rfl | true => have := hb.1 rfl; omega)
  clear hb
  go_enter Tryz.func31, Tryz.ntmps31
  go_wp2
  go_ret
  exact ⟨by rw [HB.out]; rfl, rfl⟩
 rcases Int.lt_or_le 16 aid with h2 | h2
 ·have HB := Shut.mk (show b = false by cases b with | false => rfl | true => have := hb.1 rfl; omega)
  clear hb
  go_enter Tryz.func31, Tryz.ntmps31
  go_wp2
  go_ret
  exact ⟨by rw [HB.out]; rfl, rfl⟩
 rcases Int.lt_or_le tid 0 with h3 | h3
 ·have HB := Shut.mk (show b = false by cases b with | false => rfl | true => have := hb.1 rfl; omega)
  clear hb
  go_enter Tryz.func31, Tryz.ntmps31
  go_wp2
  go_ret
  exact ⟨by rw [HB.out]; rfl, rfl⟩
 rcases Int.lt_or_le tid 8 with h4 | h4
 ·have HB := Shut.mk (show b = true from hb.2 ⟨⟨h1, h2⟩, h3, h4⟩)
  clear hb
  go_enter Tryz.func31, Tryz.ntmps31
  go_wp2
  go_ret
  exact ⟨by rw [HB.out]; rfl, rfl⟩
 ·have HB := Shut.mk (show b = false by cases b with | false => rfl | true => have := hb.1 rfl; omega)
  clear hb
  go_enter Tryz.func31, Tryz.ntmps31
  go_wp2
  go_ret
  exact ⟨by rw [HB.out]; show Ending.returned (Value.bool (decide (tid < 8))) = _; rw [decide_eq_false (by omega)], rfl⟩
theorem known_yes {aid tid : Int} (h : knownP aid tid) (w : World) : Calls Tryz.prog 31 #[.int .i64 aid, .int .i64 tid] w fun e w' => e = .returned (.bool true) ∧ w = w' := known_any aid tid w true ⟨fun _ => h, fun _ => rfl⟩
theorem known_no {aid tid : Int} (h : ¬ knownP aid tid) (w : World) : Calls Tryz.prog 31 #[.int .i64 aid, .int .i64 tid] w fun e w' => e = .returned (.bool false) ∧ w = w' := known_any aid tid w false ⟨(fun e => by cases e), fun e => absurd e h⟩
section
variable {T : Nat → Prop} {w : World} {g : Nat} {h : Hd} {X : Nat → Option Qs}
set_option maxRecDepth 100000 in
set_option maxHeartbeats 8000000 in
theorem queue_no (aid tid : Int) (w : World) (g : Nat) (hk : ¬ knownP aid tid) :
 Calls Tryz.prog 32 #[.pointer (some ⟨g, 0, none⟩), .int .i64 aid, .int .i64 tid] w fun e w' => e = .returned (.pointer none) ∧ w = w' := by
 have HK := Shut.mk hk
 clear hk
 go_enter Tryz.func32, Tryz.ntmps32
 go_wp2_with (fail)
 refine (known_no HK.out w).mono ?_
 rintro e wn ⟨rfl, rfl⟩
 go_wp2
 go_ret
 exact ⟨rfl, rfl⟩
set_option maxRecDepth 100000 in
set_option maxHeartbeats 8000000 in
theorem queue_in (hp : IsPool T w g h X) (a t : Nat) (ha : a < 16) (ht : t < 8) :
 Calls Tryz.prog 32 #[.pointer (some ⟨g, 0, none⟩), .int .i64 ((a : Int) + 1), .int .i64 (t : Int)] w fun e w' => e = .returned (ptrQ (X (8 * a + t))) ∧ w = w' := by
 have HK := Shut.mk (show knownP ((a : Int) + 1) (t : Int) from ⟨⟨by omega, by omega⟩, by omega, by omega⟩)
 have hcell := hp.cell (k := 8 * a + t) (by omega)
 rw [show 5 + (8 * a + t) = 5 + a * 8 + t by omega] at hcell
 clear hp
 obtain ⟨v, hv⟩ : ∃ v, v = ptrQ (X (8 * a + t)) := ⟨_, rfl⟩
 rw [← hv] at hcell ⊢
 have HV := Shut.mk hv
 clear hv
 have hai : (a : Int) < 16 := by omega
 have hti : (t : Int) < 8 := by omega
 have hwr : IntKind.i64.wrap ((a : Int) + 1 - 1) = (a : Int) := by rw [IntWalk.i64_in _ ⟨by omega, by omega⟩]; omega
 go_enter Tryz.func32, Tryz.ntmps32
 go_wp2_with (fail)
 refine (known_yes HK.out w).mono ?_
 rintro e wn ⟨rfl, rfl⟩
 go_wp2
 go_ret
 exact ⟨rfl, rfl⟩
set_option maxRecDepth 100000 in
set_option maxHeartbeats 8000000 in
theorem has_p_any (hp : IsPool T w g h X) (aid tid : Int) (b : Bool) (hb : b = true ↔ knownP aid tid ∧ allQ (mOf X (8 * (aid - 1).toNat + tid.toNat)) ≠ []) :
 Calls Tryz.prog 22 #[.pointer (some ⟨g, 0, none⟩), .int .i64 aid, .int .i64 tid] w fun e w' => e = .returned (.bool b) ∧ w = w' := by
 have HP := Shut.mk hp
 have HB := Shut.mk hb
 clear hp hb
 by_cases hk : knownP aid tid
 ·obtain ⟨a, t, ha, ht, rfl, rfl⟩ := knownP_in hk
  have hb := HB.out
  rw [show 8 * ((a : Int) + 1 - 1).toNat + (t : Int).toNat = 8 * a + t by omega] at hb
  have HB2 := Shut.mk hb
  clear hb HB
  cases hx : X (8 * a + t) with
  | none =>
   have HB3 := Shut.mk (show b = false by
    cases b with
    | false => rfl
    | true => have := (HB2.out.1 rfl).2; rw [mOf_none hx, allQ_Z] at this; exact absurd rfl this)
   have HX := Shut.mk hx
   clear hx hk
   go_enter Tryz.func22, Tryz.ntmps22
   go_wp2_with (fail)
   refine (queue_in HP.out a t ha ht).mono ?_
   rintro e wn ⟨rfl, rfl⟩
   rw [HX.out]
   unfold ptrQ
   dsimp only
   go_wp2
   go_ret
   exact ⟨by rw [HB3.out]; rfl, rfl⟩
  | some s =>
   have hq := HP.out.qs (8 * a + t) (by omega) s hx
   have HQ := Shut.mk hq.is
   have HF := Shut.mk (show ∀ b, b < 16 → (s.q.fl b).pk.length ≤ 10000 from fun b hb => by have := hq.few.len b hb; omega)
   have hb := HB2.out
   rw [mOf_some hx] at hb
   have HL := Shut.mk (show lenTo s.q 16 = (allQ s.q).length from lenTo_all s.q 16)
   have hll := lenTo_le HF.out 16 (Nat.le_refl _)
   have HX := Shut.mk hx
   clear hx hk hq
   obtain ⟨n, hn⟩ : ∃ n, n = lenTo s.q 16 := ⟨_, rfl⟩
   rw [← hn] at hll
   have HN := Shut.mk hn
   have HB3 := Shut.mk (show b = decide (0 < n) by
    have h1 := HL.out
    rw [← hn] at h1
    cases b with
    | false =>
     symm
     rw [decide_eq_false_iff_not]
     intro h0
     have : (false : Bool) = true := hb.2 ⟨⟨⟨by omega, by omega⟩, by omega, by omega⟩, fun e => by rw [e] at h1; simp at h1; omega⟩
     cases this
    | true =>
     symm
     rw [decide_eq_true_iff]
     have h2 := (hb.1 rfl).2
     rcases Nat.eq_zero_or_pos n with h0 | h0
     ·rw [h0] at h1; exact absurd (List.eq_nil_of_length_eq_zero h1.symm) h2
     ·exact h0)
   clear hb hn
   go_enter Tryz.func22, Tryz.ntmps22
   go_wp2_with (fail)
   refine (queue_in HP.out a t ha ht).mono ?_
   rintro e wn ⟨rfl, rfl⟩
   rw [HX.out]
   unfold ptrQ
   dsimp only
   go_wp2_with (fail)
   refine (len_any T w s.x s.V s.q HQ.out HF.out).mono ?_
   rintro e wn ⟨rfl, rfl⟩
   rw [← HN.out]
   go_wp2
   go_ret
   exact ⟨by rw [HB3.out]; simp, rfl⟩
 ·have HB3 := Shut.mk (show b = false by
   cases b with
   | false => rfl
   | true => exact absurd (HB.out.1 rfl).1 hk)
  have HK := Shut.mk hk
  clear hk
  go_enter Tryz.func22, Tryz.ntmps22
  go_wp2_with (fail)
  refine (queue_no aid tid w g HK.out).mono ?_
  rintro e wn ⟨rfl, rfl⟩
  go_wp2
  go_ret
  exact ⟨by rw [HB3.out]; rfl, rfl⟩
end
set_option maxRecDepth 100000 in
set_option maxHeartbeats 8000000 in
theorem lenfn_any (T : Nat → Prop) (w : World) (x : Rq) (V : Nat → Value) (q : Qu) (h : IsCq T w x V q) (hf : FewC q) (c : Nat) (u : Int) (hc : w.heap[c]? = some (.cells #[.int .i64 u] 3 (0, 0))) (hu : 0 ≤ u ∧ u ≤ 1125899906842624) :
 Calls Tryz.prog 29 #[.pointer (some ⟨x.g, 0, none⟩), .pointer (some ⟨c, 0, none⟩)] w fun e w' => e = .returned (.tuple #[]) ∧ w'.heap[c]? = some (.cells #[.int .i64 (u + ((lenTo q 16 : Nat) : Int))] 3 (0, 0)) ∧ Only (· = c) w w' := by
 have HLN := Shut.mk (show ∀ b, b < 16 → (q.fl b).pk.length ≤ 10000 from fun b hb => by have := hf.len b hb; omega)
 have HBD := Shut.mk (show ∀ b, b < 16 → ∀ p ∈ (q.fl b).pk, p.body.length ≤ 1000000 from fun b hb p hp => (hf.el b hb p hp).2.2)
 have HWR := Shut.mk (show IntKind.i64.wrap (u + ((lenTo q 16 : Nat) : Int)) = u + ((lenTo q 16 : Nat) : Int) from IntWalk.i64_in _ (by have := lenTo_le HLN.out 16 (Nat.le_refl _); omega))
 have HQ := Shut.mk h
 have HC := Shut.mk (show w.heap[c]? = some (.cells ([] ++ [Value.int .i64 u] ++ []).toArray 3 (0, 0)) from hc)
 clear h hf hc hu
 obtain ⟨w5, hw5⟩ : ∃ wq, wq = World.drew w := ⟨_, rfl⟩
 have HWw5 := Shut.mk hw5
 have HDw5 := Shut.mk (show Below w.heap.size w w5 by rw [hw5]; exact (Below.refl _ _).drew)
 clear hw5
 have HQ5 := Shut.mk (HQ.out.quiet HDw5.out)
 have HC5 := Shut.mk ((HDw5.out.block _ (lt_blk HC.out)).trans HC.out)
 go_enter Tryz.func29, Tryz.ntmps29
 go_wp2_with (fail)
 refine wp_region_D (fun w' => w5 = w') 4 (by kernel_rfl) HWw5.out (fun hHeld hC => ?_)
 rw [← HWw5.out] at hHeld ⊢
 refine dT 0 hC hHeld (fun w hSw => (show w.cell? ⟨c, 0, none⟩ = some (.int .i64 u) from by rw [← hSw]; have := block_range HC5.out 0 _ rfl; simpa using this)) ?_; clear hC; intro hC
 refine dP 1 hC hHeld ?_; clear hC; intro hC
 refine wpAnyD_one (i := 2) (by kernel_rfl) rfl hC (fun K hK => ?_)
 clear hC
 go_simp
 refine (len_any T w5 x V q (by rw [← hHeld]; exact HQ5.out) HLN.out).mono ?_
 rintro e' wv1 ⟨rfl, hw⟩
 have hHeld2 := hHeld.trans hw
 clear hw
 clear hHeld
 have hHeld := hHeld2
 clear hHeld2
 refine hK.out _ _ (fun _ => hHeld) (fun hC => ?_)
 clear hK K
 try simp only [Act.put, sG1, sG2, sG3, sG4, sG5, sG6]
 refine wpAnyD_pure (i := 3) (v := ?_) rfl hC (by kernel_rfl) (by kernel_rfl) (by kernel_rfl) (by decide) (fun _ _ _ h => h) (Or.inl ⟨by rfl, ?_⟩) (fun _ => hHeld) ?_
 rotate_left
 ·intro w hSw
  have hwr := HWR.out
  clear hSw
  go_simp
  try with_reducible rfl
 try simp only [Act.put, sG1, sG2, sG3, sG4, sG5, sG6]
 clear hC
 intro hC
 refine wpAnyD_one (i := 4) (by kernel_rfl) rfl hC (fun K hK => ?_)
 clear hC
 rw [← hHeld]
 refine step_store_fld rfl 3 (.tmp 1) (.tmp 6) rfl c 0 0 (.int .i64 (u + ((lenTo q 16 : Nat) : Int))) rfl rfl rfl 3 [] [.int .i64 u] [.int .i64 (u + ((lenTo q 16 : Nat) : Int))] [] HC5.out rfl size1i (by show 0 < 1; omega) rfl ?_
 have HCE := Shut.mk (setRow_heap w5 c _ ([] ++ [Value.int .i64 (u + ((lenTo q 16 : Nat) : Int))] ++ []).toArray _ (0, 0) HC5.out)
 have HOE := Shut.mk (only_setRow w5 c ([] ++ [Value.int .i64 (u + ((lenTo q 16 : Nat) : Int))] ++ []).toArray)
 generalize hq : World.setRow w5 c _ = wv2 at *
 clear hq
 refine hK.out _ _ (past (by kernel_rfl)) (fun hC => ?_)
 clear hK K
 try simp only [Act.put, sG1, sG2, sG3, sG4, sG5, sG6]
 refine wpAnyD_done (by kernel_rfl) ?_ _
 try simp only [Act.put, sG1, sG2, sG3, sG4, sG5, sG6]
 clear hHeld hC
 go_wp2
 go_end0
 exact ⟨rfl, HCE.out, (Only.of_quiet HDw5.out).trans HOE.out fun _ _ e => e⟩
set_option maxRecDepth 100000 in
set_option maxHeartbeats 8000000 in
theorem bytfn_any (T : Nat → Prop) (w : World) (x : Rq) (V : Nat → Value) (q : Qu) (h : IsCq T w x V q) (hf : FewC q) (c : Nat) (u : Int) (hc : w.heap[c]? = some (.cells #[.int .i64 u] 3 (0, 0))) (hu : 0 ≤ u ∧ u ≤ 1125899906842624) :
 Calls Tryz.prog 46 #[.pointer (some ⟨x.g, 0, none⟩), .pointer (some ⟨c, 0, none⟩)] w fun e w' => e = .returned (.tuple #[]) ∧ w'.heap[c]? = some (.cells #[.int .i64 (u + bytTo q 16)] 3 (0, 0)) ∧ Only (· = c) w w' := by
 have HLN := Shut.mk (show ∀ b, b < 16 → (q.fl b).pk.length ≤ 10000 from fun b hb => by have := hf.len b hb; omega)
 have HBD := Shut.mk (show ∀ b, b < 16 → ∀ p ∈ (q.fl b).pk, p.body.length ≤ 1000000 from fun b hb p hp => (hf.el b hb p hp).2.2)
 have HWR := Shut.mk (show IntKind.i64.wrap (u + bytTo q 16) = u + bytTo q 16 from IntWalk.i64_in _ (by have := bytTo_in HLN.out HBD.out 16 (Nat.le_refl _); omega))
 have HQ := Shut.mk h
 have HC := Shut.mk (show w.heap[c]? = some (.cells ([] ++ [Value.int .i64 u] ++ []).toArray 3 (0, 0)) from hc)
 clear h hf hc hu
 obtain ⟨w5, hw5⟩ : ∃ wq, wq = World.drew w := ⟨_, rfl⟩
 have HWw5 := Shut.mk hw5
 have HDw5 := Shut.mk (show Below w.heap.size w w5 by rw [hw5]; exact (Below.refl _ _).drew)
 clear hw5
 have HQ5 := Shut.mk (HQ.out.quiet HDw5.out)
 have HC5 := Shut.mk ((HDw5.out.block _ (lt_blk HC.out)).trans HC.out)
 go_enter Tryz.func46, Tryz.ntmps46
 go_wp2_with (fail)
 refine wp_region_D (fun w' => w5 = w') 4 (by kernel_rfl) HWw5.out (fun hHeld hC => ?_)
 rw [← HWw5.out] at hHeld ⊢
 refine dT 0 hC hHeld (fun w hSw => (show w.cell? ⟨c, 0, none⟩ = some (.int .i64 u) from by rw [← hSw]; have := block_range HC5.out 0 _ rfl; simpa using this)) ?_; clear hC; intro hC
 refine dP 1 hC hHeld ?_; clear hC; intro hC
 refine wpAnyD_one (i := 2) (by kernel_rfl) rfl hC (fun K hK => ?_)
 clear hC
 go_simp
 refine (bytes_q_any T w5 x V q (by rw [← hHeld]; exact HQ5.out) HLN.out HBD.out).mono ?_
 rintro e' wv1 ⟨rfl, hw⟩
 have hHeld2 := hHeld.trans hw
 clear hw
 clear hHeld
 have hHeld := hHeld2
 clear hHeld2
 refine hK.out _ _ (fun _ => hHeld) (fun hC => ?_)
 clear hK K
 try simp only [Act.put, sG1, sG2, sG3, sG4, sG5, sG6]
 refine wpAnyD_pure (i := 3) (v := ?_) rfl hC (by kernel_rfl) (by kernel_rfl) (by kernel_rfl) (by decide) (fun _ _ _ h => h) (Or.inl ⟨by rfl, ?_⟩) (fun _ => hHeld) ?_
 rotate_left
 ·intro w hSw
  have hwr := HWR.out
  clear hSw
  go_simp
  try with_reducible rfl
 try simp only [Act.put, sG1, sG2, sG3, sG4, sG5, sG6]
 clear hC
 intro hC
 refine wpAnyD_one (i := 4) (by kernel_rfl) rfl hC (fun K hK => ?_)
 clear hC
 rw [← hHeld]
 refine step_store_fld rfl 3 (.tmp 1) (.tmp 6) rfl c 0 0 (.int .i64 (u + bytTo q 16)) rfl rfl rfl 3 [] [.int .i64 u] [.int .i64 (u + bytTo q 16)] [] HC5.out rfl size1i (by show 0 < 1; omega) rfl ?_
 have HCE := Shut.mk (setRow_heap w5 c _ ([] ++ [Value.int .i64 (u + bytTo q 16)] ++ []).toArray _ (0, 0) HC5.out)
 have HOE := Shut.mk (only_setRow w5 c ([] ++ [Value.int .i64 (u + bytTo q 16)] ++ []).toArray)
 generalize hq : World.setRow w5 c _ = wv2 at *
 clear hq
 refine hK.out _ _ (past (by kernel_rfl)) (fun hC => ?_)
 clear hK K
 try simp only [Act.put, sG1, sG2, sG3, sG4, sG5, sG6]
 refine wpAnyD_done (by kernel_rfl) ?_ _
 try simp only [Act.put, sG1, sG2, sG3, sG4, sG5, sG6]
 clear hHeld hC
 go_wp2
 go_end0
 exact ⟨rfl, HCE.out, (Only.of_quiet HDw5.out).trans HOE.out fun _ _ e => e⟩
def fatStep (q : Qu) (g : Nat) (o : Option Nat) (m : Int) (p : Value) (b : Int) : Int × Value × Int :=
 match o with
 | none => (m, p, b)
 | some i => if m < fatF q i then (fatF q i, .pointer (some ⟨g, 0, none⟩), (i : Nat)) else (m, p, b)
structure FatC (w : World) (cm cf cb : Nat) (s : Int × Value × Int) : Prop where
 m : w.heap[cm]? = some (.cells #[.int .i64 s.1] 3 (0, 0))
 f : w.heap[cf]? = some (.cells #[s.2.1] 53 (0, 0))
 b : w.heap[cb]? = some (.cells #[.int .i64 s.2.2] 3 (0, 0))
theorem FatC.quiet {w w' : World} {cm cf cb : Nat} {s : Int × Value × Int} (h : FatC w cm cf cb s) (hb : Below w.heap.size w w') : FatC w' cm cf cb s :=
 ⟨(hb.block _ (lt_blk h.m)).trans h.m, (hb.block _ (lt_blk h.f)).trans h.f, (hb.block _ (lt_blk h.b)).trans h.b⟩
theorem fat_len0 {q : Qu} (h : IsFat q none) : lenTo q 16 = 0 := by
 have : ∀ n, n ≤ 16 → lenTo q n = 0 := by
  intro n
  induction n with
  | zero => intro _; rfl
  | succ n ih =>
   intro hn
   rw [lenTo_succ, ih (by omega)]
   have h1 : okF q n = false := h n (by omega)
   unfold okF at h1
   cases hp : (q.fl n).pk with
   | nil => rfl
   | cons p r => rw [hp] at h1; simp at h1
 exact this 16 (Nat.le_refl _)
theorem lenTo_ge (q : Qu) (i : Nat) : ∀ n, i < n → (q.fl i).pk.length ≤ lenTo q n
 | 0, h => by omega
 | n + 1, h => by
  rw [lenTo_succ]
  by_cases e : i = n
  ·subst e; omega
  ·have := lenTo_ge q i n (by omega); omega
theorem fat_len1 {q : Qu} {i : Nat} (h : IsFat q (some i)) : 0 < lenTo q 16 := by
 have h1 := lenTo_ge q i 16 h.1
 have h2 : okF q i = true := h.2.1
 unfold okF at h2
 cases hp : (q.fl i).pk with
 | nil => rw [hp] at h2; simp at h2
 | cons p r => rw [hp] at h1; simp at h1; omega
theorem size1Q : (Tryz.prog.info? 53).map (·.size) = some 1 := by kernel_rfl
set_option maxRecDepth 100000 in
set_option maxHeartbeats 8000000 in
theorem fatfn_any (T : Nat → Prop) (w : World) (x : Rq) (V : Nat → Value) (q : Qu) (h : IsCq T w x V q) (hf : FewC q) (cm cf cb : Nat) (m b0 : Int) (p0 : Value) (hc : FatC w cm cf cb (m, p0, b0)) (hne : cm ≠ cf ∧ cm ≠ cb ∧ cf ≠ cb) :
 Calls Tryz.prog 79 #[.pointer (some ⟨x.g, 0, none⟩), .pointer (some ⟨cm, 0, none⟩), .pointer (some ⟨cf, 0, none⟩), .pointer (some ⟨cb, 0, none⟩)] w fun e w' => e = .returned (.tuple #[]) ∧ (∃ o, IsFat q o ∧ FatC w' cm cf cb (fatStep q x.g o m p0 b0)) ∧ Only (fun k => k = cm ∨ k = cf ∨ k = cb) w w' := by
 have HLN := Shut.mk (show ∀ b, b < 16 → (q.fl b).pk.length ≤ 10000 from fun b hb => by have := hf.len b hb; omega)
 have HQ := Shut.mk h
 have HF := Shut.mk hf
 have HC := Shut.mk hc
 have HNE := Shut.mk hne
 clear h hf hc hne
 go_enter Tryz.func79, Tryz.ntmps79
 go_wp2_with (fail)
 refine (fat_any T w x V q HQ.out HF.out).mono ?_
 rintro e w1 ⟨⟨o, ho, rfl⟩, hB⟩
 have HO := Shut.mk ho
 have HB := Shut.mk hB
 have HQ1 := Shut.mk (HQ.out.quiet hB)
 have HC1 := Shut.mk (HC.out.quiet hB)
 have hcm : w1.cell? ⟨cm, 0, none⟩ = some (.int .i64 m) := by have := block_range HC1.out.m 0 _ rfl; simpa using this
 clear ho hB
 cases o with
 | none =>
  have HL0 := Shut.mk (fat_len0 HO.out)
  rw [show fatAt none = 0 from rfl, show fatV q none 0 = 0 from rfl]
  by_cases hm : m < 0
  ·go_wp2_with (fail)
   refine (len_any T w1 x V q HQ1.out HLN.out).mono ?_
   rintro e wn ⟨rfl, rfl⟩
   rw [HL0.out]
   go_wp2
   go_end0
   exact ⟨rfl, ⟨none, HO.out, HC1.out⟩, Only.of_quiet HB.out⟩
  ·go_wp2
   go_end0
   exact ⟨rfl, ⟨none, HO.out, HC1.out⟩, Only.of_quiet HB.out⟩
 | some i =>
  have HL1 := Shut.mk (fat_len1 HO.out)
  obtain ⟨y, hy⟩ : ∃ y, y = fatF q i := ⟨_, rfl⟩
  have HY := Shut.mk hy
  rw [show fatAt (some i) = ((i : Nat) : Int) from rfl, show fatV q (some i) 0 = y from hy.symm]
  clear hy
  by_cases hm : m < y
  ·have HST := Shut.mk (show fatStep q x.g (some i) m p0 b0 = (y, .pointer (some ⟨x.g, 0, none⟩), ((i : Nat) : Int)) by unfold fatStep; dsimp only; rw [← HY.out, if_pos hm])
   have hlt := HL1.out
   have hll := lenTo_le HLN.out 16 (Nat.le_refl _)
   obtain ⟨n, hn⟩ : ∃ n, n = lenTo q 16 := ⟨_, rfl⟩
   have HN := Shut.mk hn
   rw [← hn] at hlt hll
   have hlti : (0 : Int) < (n : Int) := by omega
   clear hn
   have HF2 := Shut.mk (show (w1.setRow cf ([] ++ [Value.pointer (some ⟨x.g, 0, none⟩)] ++ []).toArray).heap[cb]? = some (.cells ([] ++ [Value.int .i64 b0] ++ []).toArray 3 (0, 0)) from (setRow_other w1 cf cb _ (fun e => HNE.out.2.2 e.symm)).trans HC1.out.b)
   have HM2 := Shut.mk (show (w1.setRow cf ([] ++ [Value.pointer (some ⟨x.g, 0, none⟩)] ++ []).toArray).heap[cm]? = some (.cells ([] ++ [Value.int .i64 m] ++ []).toArray 3 (0, 0)) from (setRow_other w1 cf cm _ (fun e => HNE.out.1 e)).trans HC1.out.m)
   have HP2 := Shut.mk (setRow_heap w1 cf _ ([] ++ [Value.pointer (some ⟨x.g, 0, none⟩)] ++ []).toArray _ (0, 0) HC1.out.f)
   have HOA := Shut.mk (only_setRow w1 cf ([] ++ [Value.pointer (some ⟨x.g, 0, none⟩)] ++ []).toArray)
   have HC1F := Shut.mk (show w1.heap[cf]? = some (.cells ([] ++ [p0] ++ []).toArray 53 (0, 0)) from HC1.out.f)
   obtain ⟨w2, hw2⟩ : ∃ w2, w2 = w1.setRow cf ([] ++ [Value.pointer (some ⟨x.g, 0, none⟩)] ++ []).toArray := ⟨_, rfl⟩
   rw [← hw2] at HF2 HM2 HP2 HOA
   have HW2 := Shut.mk hw2
   clear hw2
   have HM3 := Shut.mk (show (w2.setRow cb ([] ++ [Value.int .i64 (i : Nat)] ++ []).toArray).heap[cm]? = some (.cells ([] ++ [Value.int .i64 m] ++ []).toArray 3 (0, 0)) from (setRow_other w2 cb cm _ (fun e => HNE.out.2.1 e)).trans HM2.out)
   have HP3 := Shut.mk (show (w2.setRow cb ([] ++ [Value.int .i64 (i : Nat)] ++ []).toArray).heap[cf]? = _ from (setRow_other w2 cb cf _ (fun e => HNE.out.2.2 e)).trans HP2.out)
   have HF3 := Shut.mk (setRow_heap w2 cb _ ([] ++ [Value.int .i64 (i : Nat)] ++ []).toArray _ (0, 0) HF2.out)
   have HOB := Shut.mk (only_setRow w2 cb ([] ++ [Value.int .i64 (i : Nat)] ++ []).toArray)
   obtain ⟨w3, hw3⟩ : ∃ w3, w3 = w2.setRow cb ([] ++ [Value.int .i64 (i : Nat)] ++ []).toArray := ⟨_, rfl⟩
   rw [← hw3] at HM3 HP3 HF3 HOB
   have HW3 := Shut.mk hw3
   clear hw3
   have HM4 := Shut.mk (setRow_heap w3 cm _ ([] ++ [Value.int .i64 y] ++ []).toArray _ (0, 0) HM3.out)
   have HP4 := Shut.mk (show (w3.setRow cm ([] ++ [Value.int .i64 y] ++ []).toArray).heap[cf]? = _ from (setRow_other w3 cm cf _ (fun e => HNE.out.1 e.symm)).trans HP3.out)
   have HF4 := Shut.mk (show (w3.setRow cm ([] ++ [Value.int .i64 y] ++ []).toArray).heap[cb]? = _ from (setRow_other w3 cm cb _ (fun e => HNE.out.2.1 e.symm)).trans HF3.out)
   have HOC := Shut.mk (only_setRow w3 cm ([] ++ [Value.int .i64 y] ++ []).toArray)
   obtain ⟨w4, hw4⟩ : ∃ w4, w4 = w3.setRow cm ([] ++ [Value.int .i64 y] ++ []).toArray := ⟨_, rfl⟩
   rw [← hw4] at HM4 HP4 HF4 HOC
   have HW4 := Shut.mk hw4
   clear hw4
   go_wp2_with (fail)
   refine (len_any T w1 x V q HQ1.out HLN.out).mono ?_
   rintro e wn ⟨rfl, rfl⟩
   rw [← HN.out]
   clear hcm
   go_wp2_with (first
    | (refine wpList_store_fld rfl 53 (.tmp 2) (.tmp 20) rfl cf 0 0 (Value.pointer (some ⟨x.g, 0, none⟩)) rfl rfl rfl 53 [] [p0] [Value.pointer (some ⟨x.g, 0, none⟩)] [] HC1F.out rfl size1Q (by show 0 < 1; omega) rfl ?_
       rw [show World.setRow w1 cf _ = w2 from HW2.out.symm])
    | (refine wpList_store_fld rfl 3 (.tmp 3) (.tmp 21) rfl cb 0 0 (Value.int .i64 (i : Nat)) rfl rfl rfl 3 [] [Value.int .i64 b0] [Value.int .i64 (i : Nat)] [] HF2.out rfl size1i (by show 0 < 1; omega) rfl ?_
       rw [show World.setRow w2 cb _ = w3 from HW3.out.symm])
    | (refine wpList_store_fld rfl 3 (.tmp 1) (.tmp 22) rfl cm 0 0 (Value.int .i64 y) rfl rfl rfl 3 [] [Value.int .i64 m] [Value.int .i64 y] [] HM3.out rfl size1i (by show 0 < 1; omega) rfl ?_
       rw [show World.setRow w3 cm _ = w4 from HW4.out.symm]))
   go_end0
   exact ⟨rfl, ⟨some i, HO.out, by rw [HST.out]; exact ⟨HM4.out, HP4.out, HF4.out⟩⟩, (((Only.of_quiet HB.out).trans HOA.out fun _ _ e => .inr (.inl e)).trans HOB.out fun _ _ e => .inr (.inr e)).trans HOC.out fun _ _ e => .inl e⟩
  ·have HST := Shut.mk (show fatStep q x.g (some i) m p0 b0 = (m, p0, b0) by unfold fatStep; dsimp only; rw [← HY.out, if_neg hm])
   go_wp2
   go_end0
   exact ⟨rfl, ⟨some i, HO.out, by rw [HST.out]; exact HC1.out⟩, Only.of_quiet HB.out⟩
end Go.Proofs.YtndkmgcmegcieaaGreatDoor
