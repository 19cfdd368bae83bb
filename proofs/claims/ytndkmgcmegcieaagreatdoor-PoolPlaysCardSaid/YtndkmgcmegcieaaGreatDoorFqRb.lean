/-
  THE REFERENCE's QUEUE: Put.
-/
import Derived.Test.YtndkmgcmegcieaaGreatDoorFqRa
import Derived.Test.YtndkmgcmegcieaaGreatDoorMgE
import Derived.Deep.AppendLies
namespace Go.Proofs.YtndkmgcmegcieaaGreatDoor
open Go.ChangeShapes Go.WideShapes Go.ChangeAt Go.RowKit Go.Deep
set_option linter.unusedVariables false
set_option linter.unusedSimpArgs false
theorem sizePs : (Tryz.prog.info? 40).map (·.size) = some 1 := by kernel_rfl
theorem OwnB.cap_le_ {w : World} {base : Nat} {T : TypeId} {k : IntKind} {g n cap : Nat} {xs : List Int} (h : OwnB w base T k g n cap xs) : n ≤ cap := by
 rcases h.2 with ⟨h', _⟩ | ⟨g', cap', cur, h', _, _, h1, _⟩
 ·simp at h'
 ·simp only [Value.slice.injEq] at h'
  obtain ⟨-, -, rfl⟩ := h'
  exact h1
theorem step_store_into {P : Program} {ops : Array Oper} {o : Oper} {a : Act} {w : World} {K : Act → World → Prop} {Q : Exit → Act → World → Prop} {E : Prop} (hgd : Region.wanted o (yielded ops a.tmps) = true) (ty : TypeId) (x y : Operand) (ho : o.op = .store ty x y)
 (g i : Nat) (v : Value) (hx : a.eval x = .pointer (some ⟨g, i, none⟩)) (hy : a.eval y = v) (h1 : v.oneCell' = true)
 (t : TypeId) (cur new : Array Value) (hg : w.heap[g]? = some (.cells cur t (0, 0))) (hi : (P.info? ty).map (·.size) = some 1) (hlt : i < cur.size) (hnew : cur.setIfInBounds i v = new)
 (h : K (a.put o.dst undef) (w.setRow g new)) : if Region.wanted o (yielded ops a.tmps) = true then Oper.wp P o a w K Q else E := by
 rw [if_pos hgd]
 unfold Oper.wp execOp
 simp only [ho, hx, hy, Sem.run_bind, Sem.run_pure, Result.andThen_ok, run_storeAt_into w g i t ty cur new v hg hi hlt h1 hnew]
 exact h
theorem step_app_k {α : Type} {F : α → Value → List Value} {body : α → List Int} {sz : Nat} {T : Nat → Prop} {w : World} {l : List α} {P : Program} {ops : Array Oper} {o : Oper} {a : Act} {K : Act → World → Prop} {Q : Exit → Act → World → Prop} {E : Prop} (hgd : o.guard = none) (s x : Operand) (t : TypeId)
 (ho : o.op = .call { callee := .builtin .append, args := #[s, x], argTypes := #[t, t] }) (e : TypeId) (i : TypeInfo) (z : Value) (bytes : Nat) (ht : P.underlying t = some (.slice e)) (hi : P.info? e = some i) (hz : i.zero = some z) (hsize : i.size = sz) (hby : i.bytes = bytes) (hzs : z.cells.size = sz) (hsz : 0 < sz)
 (B k : Nat) (lv : Value) (hs : a.eval s = lv) (hP : OwnK F body sz T w B e lv k l) (u : α) (y : Value) (ad : Addr) (c : Nat) (hx : a.eval x = .slice (some ad) 1 c) (hF : (F u y).length = sz) (hc : ∀ j q, (F u y)[j]? = some q → w.cell? (ad.add j) = some q) (h1 : ∀ q ∈ F u y, q.oneCell' = true) (hu : ElK T w y (body u))
 (hlt : ∀ k, T k → k < w.heap.size) (hk : k + 1 ≤ 1000000000) (hbt : (k + 1) * bytes ≤ 140737488355328) (hB : B ≤ w.heap.size)
 (h : ∀ v w', OwnK F body sz T w' B e v (k + 1) (l ++ [u]) → Only (fun j => lv.ownBlock = some j) w w' → v.oneCell' = true → (∀ g, v.ownBlock = some g → lv.ownBlock = some g ∨ g = w.heap.size) → K (a.put o.dst v) w') :
 if Region.wanted o (yielded ops a.tmps) = true then Oper.wp P o a w K Q else E := by
 obtain ⟨l', hP1, hP2, hP3, hP4⟩ := hP
 refine step_append_lies w hgd s x t ho B e i z sz bytes ht hi hz hsize hby hzs hsz lv k _ hs hP1.1 ad 1 c (F u y) hx (by rw [hF, Nat.one_mul]) hc h1 (by omega) (by unfold maxLen; omega) hbt hB w.heap.size rfl ?_
 intro g cap w' hown hgrow hor _
 have hor' : lv.ownBlock = some g ∨ g = w.heap.size := hor
 refine h _ w' (OwnK.snoc hP1 hP2 hP3 hP4 hlt hown hgrow hor' hu) ((Only.refl _ w).grown hgrow fun k hk _ => hk) rfl fun g' hg' => ?_
 have e1 : g' = g := by simpa [Value.ownBlock] using hg'.symm
 rw [e1]; exact hor'
theorem sizeI : (Tryz.prog.info? 3).map (·.size) = some 1 := by kernel_rfl
theorem sizeIs : (Tryz.prog.info? 88).map (·.size) = some 1 := by kernel_rfl
theorem owns_onecell {w : World} {base : Nat} {e : TypeId} {size n : Nat} {v : Value} {xs : List Value} (h : w.ownsRow base e size v n xs) : v.oneCell' = true := by
 rcases h.2 with ⟨rfl, _⟩ | ⟨g, cap, cur, rfl, _⟩ <;> rfl
theorem mem_nats (l : List Nat) (b : Nat) : decide ((b : Int) ∈ natsI l) = decide (b ∈ l) := by
 rw [decide_eq_decide]
 unfold natsI
 rw [List.mem_map]
 constructor
 ·rintro ⟨c, hc, e⟩; obtain rfl : c = b := by omega
  exact hc
 ·exact fun h => ⟨b, h, rfl⟩
set_option maxRecDepth 100000 in
set_option maxHeartbeats 8000000 in
theorem refput_any (sd : BitVec 32) (T : Nat → Prop) (w : World) (x : Rq) (V : Nat → Value) (q : Qu) (h : IsRq T w x V q) (hsd : x.seed = uv sd) (p : Pk) (A : Option Addr) (m cp : Nat) (hb : RowB .u8 w A m p.body) (hm : m ≤ 1000000)
 (hf : 0 ≤ p.flow ∧ p.flow ≤ 4294967295) (hlen : ∀ b, b < 16 → (q.fl b).pk.length ≤ 10000) (hfr : q.fresh.length ≤ 1000) (her : q.elder.length ≤ 1000) (hin : ∀ b ∈ q.fresh ++ q.elder, b < 16) :
 Calls Tryz.prog 37 #[.pointer (some ⟨x.g, 0, none⟩), pkV p (.slice A m cp)] w fun e w' => e = .returned (.int .i64 (bkQ sd p.flow : Nat)) ∧ ∃ T' V', IsRq T' w' x V' (putQ (bkQ sd) q p) ∧ RqS T w x V T' w' V' := by
 obtain ⟨pi, pf, pt, pa, pb⟩ := p
 dsimp only at *
 obtain ⟨fa, rfl⟩ := uv_of hf.1 hf.2
 rw [bkQ_uv]
 have HPQ := Shut.mk (show bkQ sd (uv fa) = bkt fa sd from bkQ_uv sd fa)
 obtain ⟨b, hbb⟩ : ∃ b, bkt fa sd = b := ⟨_, rfl⟩
 have HBB := Shut.mk hbb
 have hb16 : b < 16 := by rw [← hbb]; exact bkt_lt _ _
 have HB16 := Shut.mk hb16
 rw [hbb] at HPQ ⊢
 have hbi : (b : Int) < 16 := by omega
 have HM := Shut.mk (show m ≤ 1000000000 by omega)
 have HSD := Shut.mk hsd
 have HLN := Shut.mk (show (q.fl b).pk.length ≤ 1000000 by have := hlen b hb16; omega)
 have HFR := Shut.mk hfr
 have HER := Shut.mk her
 have HIN := Shut.mk hin
 have HQ0 := Shut.mk h
 have HA1 := Shut.mk ((Below.refl w.heap.size w).alloc (Nat.le_refl _) (Obj.cells #[Value.int .i64 pi, .int .u32 (uv fa), .int .i64 pt, .int .i64 pa, Value.slice A m cp] 35 (0, 0)))
 have HX1 := Shut.mk (MapKept.heap_alloc w (Obj.cells #[Value.int .i64 pi, .int .u32 (uv fa), .int .i64 pt, .int .i64 pa, Value.slice A m cp] 35 (0, 0))).1
 have HRB1 := Shut.mk (hb.below HA1.out)
 clear hbb hsd hlen hfr her hin h hb hm hf hb16
 unfold pkV
 dsimp only
 go_enter Tryz.func37, Tryz.ntmps37
 go_wp2_with (fail)
 generalize World.alloc w _ = w1 at *
 obtain ⟨s0, hs0⟩ : ∃ s, s = w.heap.size := ⟨_, rfl⟩
 have HS0 := Shut.mk hs0
 rw [← hs0] at HX1 ⊢
 clear hs0
 obtain ⟨w5, hw5⟩ : ∃ w5, w5 = World.drew w1 := ⟨_, rfl⟩
 have HW5 := Shut.mk hw5
 have HD5 := Shut.mk (show Below w1.heap.size w1 w5 by rw [hw5]; exact (Below.refl _ _).drew)
 have HX5 := Shut.mk ((HD5.out.block _ (lt_blk HX1.out)).trans HX1.out)
 have HQ5 := Shut.mk ((HQ0.out.below HA1.out).below HD5.out)
 have HRB5 := Shut.mk (HRB1.out.below HD5.out)
 clear hw5
 refine wp_region_D (fun w' => w5 = w') 6 (by kernel_rfl) HW5.out (fun hHeld hC => ?_)
 rw [← HW5.out] at hHeld ⊢
 refine dP 0 hC hHeld ?_; clear hC; intro hC
 refine dT 1 hC hHeld (fun w hSw => (show w.cell? ⟨s0, 1, none⟩ = some (.int .u32 (uv fa)) from by rw [← hSw]; have := block_range HX5.out 1 _ rfl; simpa using this)) ?_; clear hC; intro hC
 refine dP 2 hC hHeld ?_; clear hC; intro hC
 refine dP 3 hC hHeld ?_; clear hC; intro hC
 refine dP 4 hC hHeld ?_; clear hC; intro hC
 refine dT 5 hC hHeld (fun w hSw => (show w.cell? ⟨x.g, 0, none⟩ = some (.int .u32 (uv sd)) from by rw [← hSw, ← HSD.out]; exact HQ5.out.head.1)) ?_; clear hC; intro hC
 refine wpAnyD_one (i := 6) (by kernel_rfl) rfl hC (fun K hK => ?_)
 clear hC
 go_simp
 refine (refbucket_any fa sd _).mono ?_
 rintro e' wn ⟨rfl, rfl⟩
 rw [HBB.out]
 refine hK.out _ _ (past (by kernel_rfl)) (fun hC => ?_)
 clear hK K
 try simp only [Act.put, sG1, sG2, sG3, sG4, sG5, sG6]
 refine dQ 7 hC ?_; clear hC; intro hC
 refine wpAnyD_done (by kernel_rfl) ?_ _
 try simp only [Act.put, sG1, sG2, sG3, sG4, sG5, sG6]
 clear hHeld hC
 obtain ⟨w6, hw6⟩ : ∃ wD, wD = World.drew w5 := ⟨_, rfl⟩
 have HW6 := Shut.mk hw6
 have HD6 := Shut.mk (show Below w5.heap.size w5 w6 by rw [hw6]; exact (Below.refl _ _).drew)
 have HX6 := Shut.mk ((HD6.out.block _ (lt_blk HX5.out)).trans HX5.out)
 have HQ6 := Shut.mk (HQ5.out.below HD6.out)
 have HRB6 := Shut.mk (HRB5.out.below HD6.out)
 have HB06 := Shut.mk (HA1.out.trans ((HD5.out.mono HA1.out.size).trans (HD6.out.mono (Nat.le_trans HA1.out.size HD5.out.size))))
 clear hw6
 go_wp2_with (fail)
 refine wp_region_D (fun w' => Below w6.heap.size w6 w') 8 (by kernel_rfl) (show Below w6.heap.size w6 (World.drew w5) by rw [HW6.out]; exact Below.refl _ _) (fun hHeld hC => ?_)
 rw [← HW6.out] at hHeld ⊢
 refine dP 0 hC hHeld ?_; clear hC; intro hC
 refine dP 1 hC hHeld ?_; clear hC; intro hC
 refine dP 2 hC hHeld ?_; clear hC; intro hC
 refine dP 3 hC hHeld ?_; clear hC; intro hC
 refine dT 4 hC hHeld (fun w hSw => (show w.cell? ⟨x.g, 3 + b * 7, none⟩ = some (V b) from below_at hSw (HQ6.out.fl HB16.out (j := 0) _ rfl))) ?_; clear hC; intro hC
 refine wpAnyD_take (i := 5) (v := .agg ([Value.int .i64 pi, .int .u32 (uv fa), .int .i64 pt, .int .i64 pa, Value.slice A m cp]).toArray) 40 rfl (by kernel_rfl) hC (by kernel_rfl) (by kernel_rfl) (by kernel_rfl) (by decide) (fun _ _ _ h => h) (yieldsIf_load_mid (by rfl) 35 (.tmp 3) rfl s0 (0) rfl ([Value.int .i64 pi, .int .u32 (uv fa), .int .i64 pt, .int .i64 pa, Value.slice A m cp]) _ (fun w' hSw => (block_range ((hSw.block _ (lt_blk HX6.out)).trans HX6.out))) Tryz.underlying35 rfl size5) (fun _ => hHeld) ?_
 try simp only [Act.put, sG1, sG2, sG3, sG4, sG5, sG6]
 clear hC
 intro hC
 refine wpAnyD_one (i := 6) (by kernel_rfl) rfl hC (fun K hK => ?_)
 clear hC
 go_simp
 refine (packet_any ⟨pi, uv fa, pt, pa, pb⟩ A m cp w6 (HRB6.out.below hHeld) HM.out).mono ?_
 rintro e' w6_1 ⟨gB, cB, rfl, hO, hB⟩
 have HOB := Shut.mk hO
 have HBB7 := Shut.mk hB
 clear hO hB
 unfold pkV
 dsimp only
 have hHeld2 := hHeld.trans (HBB7.out.mono hHeld.size)
 clear hHeld
 have hHeld := hHeld2
 clear hHeld2
 refine hK.out _ _ (fun _ => hHeld) (fun hC => ?_)
 clear hK K
 try simp only [Act.put, sG1, sG2, sG3, sG4, sG5, sG6]
 refine wpAnyD_one (i := 7) (by kernel_rfl) rfl hC (fun K hK => ?_)
 clear hC
 go_simp
 have HA8 := Shut.mk ((Below.refl w6_1.heap.size w6_1).alloc (Nat.le_refl _) (Obj.cells #[Value.int .i64 pi, .int .u32 (uv fa), .int .i64 pt, .int .i64 pa, Value.slice (some ⟨gB, 0, none⟩) m cB] 35 (0, 0)))
 have HN8 := Shut.mk (block_range (MapKept.heap_alloc w6_1 (Obj.cells #[Value.int .i64 pi, .int .u32 (uv fa), .int .i64 pt, .int .i64 pa, Value.slice (some ⟨gB, 0, none⟩) m cB] 35 (0, 0))).1)
 obtain ⟨s8, hs8⟩ : ∃ s, s = w6_1.heap.size := ⟨_, rfl⟩
 rw [← hs8] at HN8 ⊢
 have HS8 := Shut.mk hs8
 clear hs8
 generalize World.alloc w6_1 _ = w6_2 at *
 have HB68 := Shut.mk (hHeld.trans (HA8.out.mono hHeld.size))
 have HQ8 := Shut.mk (HQ6.out.below HB68.out)
 have HOB8 := Shut.mk (show OwnB w6_2 w6.heap.size 5 .u8 gB m cB pb from owns_only HOB.out (S := fun _ => False) (Only.of_quiet HA8.out) (fun _ _ e => e))
 have hHeld2 := HB68.out
 clear hHeld
 have hHeld := hHeld2
 clear hHeld2
 refine hK.out _ _ (fun _ => hHeld) (fun hC => ?_)
 clear hK K
 try simp only [Act.put, sG1, sG2, sG3, sG4, sG5, sG6]
 refine wpAnyD_one (i := 8) (by kernel_rfl) rfl hC (fun K hK => ?_)
 clear hC
 have HT8 := Shut.mk (show ∀ k, (T k ∨ k = gB) → k < w6_2.heap.size from fun k hk => by
  rcases hk with hk | hk
  ·have h1 := HQ6.out.there k hk; have h2 := HB68.out.size; omega
  ·rw [hk]; exact HOB8.out.lt.2)
 have HV8 := Shut.mk (show OwnP (fun k => T k ∨ k = gB) w6_2 0 (V b) (q.fl b).pk from OwnP.mono0 (HQ8.out.pk b HB16.out) (fun k hk => .inl hk) (fun g hg hk => by
  rcases hk with hk | hk
  ·exact (HQ6.out.apart b (by have := HB16.out; omega) g hg).2 hk
  ·have h1 := HQ6.out.ltV (i := b) (by have := HB16.out; omega) hg; have h2 := HOB8.out.lt.1; omega))
 obtain ⟨i0, hi0, hz0, hz1, hz2⟩ := info_parts' pkt_info
 refine step_app_k rfl (.tmp 23) (.tmp 26) 40 rfl 35 i0 (.agg #[.int .i64 0, .int .u32 0, .int .i64 0, .int .i64 0, .slice none 0 0]) 56 Tryz.underlying40 hi0 hz0 hz1 hz2 rfl (by decide) 0 (q.fl b).pk.length (V b) rfl HV8.out ⟨pi, uv fa, pt, pa, pb⟩ (Value.slice (some ⟨gB, 0, none⟩) m cB) ⟨s8, 0, none⟩ 1 rfl rfl (fun j q hq => by rw [Addr.add_mid]; exact HN8.out j q hq) (fun q hq => by simp [pkC] at hq; rcases hq with rfl | rfl | rfl | rfl | rfl <;> rfl) (ElK.of (HOB8.out.row fun k hk => HRB6.out.wf k hk) (HOB8.out.cap_le_) (fun _ p hp => .inr (by cases hp; rfl))) HT8.out (by have := HLN.out; omega) (by have := HLN.out; omega) (Nat.zero_le _) ?_
 clear hi0 hz0 hz1 hz2
 intro v' w6_3 hP hO h1 hf
 have HV9 := Shut.mk hP
 have HO9 := Shut.mk hO
 have HV1 := Shut.mk h1
 have HF9 := Shut.mk hf
 have HBL9 := Shut.mk (hO.at_ HQ8.out.blk (fun e => (HQ6.out.apart b (by have := HB16.out; omega) _ e).1 rfl))
 clear hP hO h1 hf
 refine hK.out _ _ (past (by kernel_rfl)) (fun hC => ?_)
 clear hK K
 try simp only [Act.put, sG1, sG2, sG3, sG4, sG5, sG6]
 refine dQ 9 hC ?_; clear hC; intro hC
 refine dQ 10 hC ?_; clear hC; intro hC
 refine wpAnyD_one (i := 11) (by kernel_rfl) rfl hC (fun K hK => ?_)
 clear hC
 refine step_store_into rfl 40 (.tmp 29) (.tmp 27) rfl x.g (3 + (b * 7 + 0)) v' rfl rfl HV1.out 90 _ (rqC x (updF V b v') (setF q.fl b ⟨(q.fl b).pk ++ [⟨pi, uv fa, pt, pa, pb⟩], (q.fl b).df, (q.fl b).cd⟩)).toArray HBL9.out sizePs (by rw [rq_size]; have := HB16.out; omega) (rq_set x V q.fl HB16.out (by decide) v' v' _ rfl) ?_
 obtain ⟨w6_4, hw6_4⟩ : ∃ wq, wq = w6_3.setRow x.g (rqC x (updF V b v') (setF q.fl b ⟨(q.fl b).pk ++ [⟨pi, uv fa, pt, pa, pb⟩], (q.fl b).df, (q.fl b).cd⟩)).toArray := ⟨_, rfl⟩
 have HWA := Shut.mk hw6_4
 rw [← hw6_4]
 clear hw6_4
 refine hK.out _ _ (past (by kernel_rfl)) (fun hC => ?_)
 clear hK K
 try simp only [Act.put, sG1, sG2, sG3, sG4, sG5, sG6]
 refine wpAnyD_done (by kernel_rfl) ?_ _
 try simp only [Act.put, sG1, sG2, sG3, sG4, sG5, sG6]
 clear hC hHeld
 obtain ⟨w9, hw9⟩ : ∃ wq, wq = w6_4 := ⟨_, rfl⟩
 obtain ⟨T1, hT1⟩ : ∃ T1 : Nat → Prop, T1 = fun k => T k ∨ k = gB := ⟨_, rfl⟩
 obtain ⟨q1, hq1⟩ : ∃ q1 : Qu, q1 = ⟨setF q.fl b ⟨(q.fl b).pk ++ [⟨pi, uv fa, pt, pa, pb⟩], (q.fl b).df, (q.fl b).cd⟩, q.fresh, q.elder⟩ := ⟨_, rfl⟩
 have hgB := HOB8.out.lt
 have hvb : ∀ k, (V b).ownBlock = some k → k < w6.heap.size ∧ k ≠ x.g ∧ ¬ T k := fun k hk => ⟨HQ6.out.ltV (i := b) (by have := HB16.out; omega) hk, HQ6.out.apart b (by have := HB16.out; omega) k hk⟩
 have hug : ∀ k, v'.ownBlock = some k → k ≠ x.g ∧ ¬ T1 k := fun k hk => by
  rw [hT1]
  rcases HF9.out k hk with h1 | h1
  ·obtain ⟨a1, a2, a3⟩ := hvb k h1
   exact ⟨a2, fun e => by
    rcases e with e | e
    ·exact a3 e
    ·omega⟩
  ·have h2 := HQ6.out.lt
   have h3 := HB68.out.size
   exact ⟨by omega, fun e => by
    rcases e with e | e
    ·have := HQ6.out.there k e; omega
    ·omega⟩
 have ho3 : Only (fun k => k = x.g ∨ (V b).ownBlock = some k) w6 w6_3 := (Only.of_quiet HB68.out).trans HO9.out (fun i _ e => .inr e)
 have ho4 : Only (fun k => k = x.g ∨ (V b).ownBlock = some k) w6 w9 := by rw [hw9, HWA.out]; exact ho3.setRow (g := x.g) (fun _ => .inl rfl) _
 obtain ⟨hQ9, hS9⟩ := HQ6.out.put (w' := w9) (T' := T1) (i := b) (u := v') (q' := q1) (by have := HB16.out; omega) ho4
  (fun k hk => by
    rcases HF9.out k hk with h1 | h1
    ·exact .inl h1
    ·have := HB68.out.size; exact .inr (by omega))
  (fun k hk => by rw [hT1]; exact .inl hk) (fun k hk => by
    rw [hT1] at hk
    rcases hk with hk | hk
    ·exact .inl hk
    ·exact .inr (by omega))
  (fun k hk => by rw [hT1] at hk; have h1 := HT8.out k hk; have h2 := HO9.out.size; have h3 : w6_3.heap.size ≤ w9.heap.size := by rw [hw9, HWA.out]; simp [World.setRow]
                  omega)
  hug (by rw [hw9, HWA.out, hq1]; exact setRow_heap w6_3 x.g _ _ _ (0, 0) HBL9.out)
  (fun c _ hc => by rw [hq1]; dsimp only; rw [setF_other _ _ hc]) (fun _ => by rw [hq1]) (fun _ => by rw [hq1])
  ⟨fun _ => by
    have hv := HV9.out
    rw [hw9, HWA.out, hq1]
    dsimp only
    rw [setF_same, hT1]
    have e1 : ((q.fl b).pk ++ [(⟨pi, uv fa, pt, pa, pb⟩ : Pk)]).length = (q.fl b).pk.length + 1 := by simp
    unfold OwnP
    rw [e1]
    exact OwnK.only hv (only_setRow w6_3 x.g _) (fun g hg e => (hug g hg).1 e) (fun k hk e => by
     rcases hk with hk | hk
     ·exact HQ6.out.apt (e ▸ hk)
     ·have := HQ6.out.lt; omega), fun e => by have := HB16.out; omega, fun e => by have := HB16.out; omega⟩
 have HQ9 := Shut.mk hQ9
 have HS9 := Shut.mk (RqS.from_ (show Below w.heap.size w w6 from HB06.out) hS9)
 have HQE := Shut.mk hq1
 clear hQ9 hS9 hug hvb ho3 ho4 hgB HV9 HV8 HT8 HO9 HF9 HV1 HBL9 HWA HQ8 HOB8 HOB HN8 HB68 HA8 HBB7 HS8
 rw [← hw9]
 clear hw9 hT1 hq1
 obtain ⟨V1, hV1⟩ : ∃ V1, V1 = updF V b v' := ⟨_, rfl⟩
 rw [← hV1] at HQ9 HS9
 clear hV1
 obtain ⟨A5, c5, h5v, h5r, -⟩ := HQ9.out.fr.row (by rw [HQE.out, natsI_len]; have := HFR.out; show q.fresh.length ≤ maxLen; unfold maxLen; omega) (fun y hy => by obtain ⟨z, hz, rfl⟩ := List.mem_map.1 hy; rw [HQE.out] at hz; have := HIN.out z (List.mem_append_left _ hz); omega)
 obtain ⟨A6, c6, h6v, h6r, -⟩ := HQ9.out.el.row (by rw [HQE.out, natsI_len]; have := HER.out; show q.elder.length ≤ maxLen; unfold maxLen; omega) (fun y hy => by obtain ⟨z, hz, rfl⟩ := List.mem_map.1 hy; rw [HQE.out] at hz; have := HIN.out z (List.mem_append_right _ hz); omega)
 have hc5 := HQ9.out.two.1
 have hc6 := HQ9.out.two.2
 rw [h5v] at hc5
 rw [h6v] at hc6
 have H5R := Shut.mk (has_any A5 _ c5 _ (b : Int) w9 h5r)
 have H6R := Shut.mk (has_any A6 _ c6 _ (b : Int) w9 h6r)
 have HMF := Shut.mk (mem_nats q.fresh b)
 have HME := Shut.mk (mem_nats q.elder b)
 have HFQ := Shut.mk (show q1.fresh = q.fresh ∧ q1.elder = q.elder by rw [HQE.out]; exact ⟨rfl, rfl⟩)
 rw [HFQ.out.1, HMF.out] at H5R
 rw [HFQ.out.2, HME.out] at H6R
 rw [HFQ.out.1] at hc5
 rw [HFQ.out.2] at hc6
 have H5V := Shut.mk h5v
 clear h5r h6r h6v h5v
 by_cases hm1 : b ∈ q.fresh
 ·rw [show decide (b ∈ q.fresh) = true from decide_eq_true hm1] at H5R
  have HE := Shut.mk (show putQ (bkQ sd) q ⟨pi, uv fa, pt, pa, pb⟩ = q1 by unfold putQ; dsimp only; rw [HPQ.out, if_pos (.inl hm1), HQE.out])
  clear hm1
  go_wp2_with (fail)
  refine H5R.out.mono ?_
  rintro e wn ⟨rfl, rfl⟩
  go_wp2_with (fail)
  go_ret
  exact ⟨rfl, _, _, by rw [HE.out]; exact HQ9.out, HS9.out⟩
 rw [show decide (b ∈ q.fresh) = false from decide_eq_false hm1] at H5R
 by_cases hm2 : b ∈ q.elder
 ·rw [show decide (b ∈ q.elder) = true from decide_eq_true hm2] at H6R
  have HE := Shut.mk (show putQ (bkQ sd) q ⟨pi, uv fa, pt, pa, pb⟩ = q1 by unfold putQ; dsimp only; rw [HPQ.out, if_pos (.inr hm2), HQE.out])
  clear hm1 hm2
  go_wp2_with (fail)
  refine H5R.out.mono ?_
  rintro e wn ⟨rfl, rfl⟩
  go_wp2_with (fail)
  refine H6R.out.mono ?_
  rintro e wn ⟨rfl, rfl⟩
  go_wp2_with (fail)
  go_ret
  exact ⟨rfl, _, _, by rw [HE.out]; exact HQ9.out, HS9.out⟩
 rw [show decide (b ∈ q.elder) = false from decide_eq_false hm2] at H6R
 have HE := Shut.mk (show putQ (bkQ sd) q ⟨pi, uv fa, pt, pa, pb⟩ = ⟨setF q1.fl b ⟨(q1.fl b).pk, 300, (q1.fl b).cd⟩, q1.fresh ++ [b], q1.elder⟩ by
  unfold putQ
  dsimp only
  rw [HPQ.out, if_neg (by rintro (h | h); exact hm1 h; exact hm2 h), HQE.out]
  dsimp only
  rw [setF_same]
  congr 1
  funext k
  by_cases e : k = b
  ·subst e; rw [setF_same, setF_same]
  ·rw [setF_other _ _ e, setF_other _ _ e, setF_other _ _ e])
 clear hm1 hm2
 go_wp2_with (fail)
 refine H5R.out.mono ?_
 rintro e wn ⟨rfl, rfl⟩
 go_wp2_with (fail)
 refine H6R.out.mono ?_
 rintro e wn ⟨rfl, rfl⟩
 clear hc6
 obtain ⟨q2, hq2⟩ : ∃ q2 : Qu, q2 = ⟨setF q1.fl b ⟨(q1.fl b).pk, 300, (q1.fl b).cd⟩, q1.fresh, q1.elder⟩ := ⟨_, rfl⟩
 have HNW := Shut.mk (rq_set x V1 q1.fl HB16.out (show 1 < 7 by decide) (.int .i64 300) (V1 b) ⟨(q1.fl b).pk, 300, (q1.fl b).cd⟩ rfl)
 rw [updF_id] at HNW
 obtain ⟨wa, hwa⟩ : ∃ wq, wq = w9.setRow x.g (rqC x V1 (setF q1.fl b ⟨(q1.fl b).pk, 300, (q1.fl b).cd⟩)).toArray := ⟨_, rfl⟩
 have HWA := Shut.mk hwa.symm
 obtain ⟨hQA, hSA⟩ := HQ9.out.num (w' := wa) (q' := q2) (by rw [hwa]; exact only_setRow _ _ _) (by rw [hwa, hq2]; exact setRow_heap w9 x.g _ _ _ (0, 0) HQ9.out.blk) (fun c _ => by
  rw [hq2]
  dsimp only
  by_cases e : c = b
  ·subst e; rw [setF_same]
  ·rw [setF_other _ _ e]) (by rw [hq2]) (by rw [hq2])
 have HQA := Shut.mk hQA
 have HSA := Shut.mk (HS9.out.trans hSA)
 clear hQA hSA hwa
 have HF2 := Shut.mk (show q2.fresh = q.fresh by rw [hq2]; exact HFQ.out.1)
 have HQ2 := Shut.mk hq2
 clear hq2
 have hca := HQA.out.two.1
 have HAL := Shut.mk ((Below.refl wa.heap.size wa).alloc (Nat.le_refl _) (Obj.cells #[Value.int .i64 (b : Nat)] 3 (0, 0)))
 have HNA := Shut.mk (block_range (MapKept.heap_alloc wa (Obj.cells #[Value.int .i64 (b : Nat)] 3 (0, 0))).1)
 have HOA := Shut.mk (show OwnN (wa.alloc (Obj.cells #[Value.int .i64 (b : Nat)] 3 (0, 0))) 0 (V1 16) (natsI q2.fresh) from ⟨owns_only HQA.out.fr.1 (S := fun _ => False) (Only.of_quiet HAL.out) (fun _ _ e => e), HQA.out.fr.2⟩)
 have HLF := Shut.mk (show (natsI q2.fresh).length ≤ 1000000 by rw [natsI_len, HF2.out]; have := HFR.out; omega)
 have HBL := Shut.mk ((HAL.out.block _ (lt_blk HQA.out.blk)).trans HQA.out.blk)
 clear hc5
 go_wp2_with (first
  | (refine wpList_store_into rfl 3 (.tmp 48) (.const (.int .i64 300)) rfl x.g (3 + (b * 7 + 1)) (.int .i64 300) rfl rfl rfl 90 _ (rqC x V1 (setF q1.fl b ⟨(q1.fl b).pk, 300, (q1.fl b).cd⟩)).toArray HQ9.out.blk sizeI (by rw [rq_size]; have := HB16.out; omega) HNW.out ?_; rw [HWA.out])
  | (at_builtin; refine app_n rfl (.tmp 53) (.tmp 55) rfl 0 (V1 16) (natsI q2.fresh) rfl HOA.out (b : Nat) ⟨wa.heap.size, 0, none⟩ 1 rfl (by have h1 := HNA.out 0 _ rfl; exact h1) HLF.out (Nat.zero_le _) ?_; intro v5 w10 HO10 HB10 HON10 HF10; have HBL10 := Shut.mk (HON10.out.at_ HBL.out (fun e => (HQA.out.apart 16 (by decide) _ e).1 rfl)); have H1V := Shut.mk (owns_onecell HO10.out.1))
  | (refine wpList_store_into rfl 88 (.tmp 58) (.tmp 56) rfl x.g 115 v5 rfl rfl H1V.out 90 _ (rqC x (updF V1 16 v5) q2.fl).toArray (by rw [HQ2.out] at HBL10 ⊢; exact HBL10.out) sizeIs (by rw [rq_size]; decide) (rq_set16 x V1 q2.fl v5) ?_))
 go_ret
 have hgx := HQA.out.lt
 have hug : ∀ k, v5.ownBlock = some k → k ≠ x.g ∧ ¬ T1 k := fun k hk => by
  rcases HF10.out k hk with h1 | h1
  ·exact HQA.out.apart 16 (by decide) k h1
  ·have h1' : k = (wa.alloc (Obj.cells #[Value.int .i64 (b : Nat)] 3 (0, 0))).heap.size := h1
   have h2 := HAL.out.size
   exact ⟨by omega, fun e => by have := HQA.out.there k e; omega⟩
 have ho3 : Only (fun k => k = x.g ∨ (V1 16).ownBlock = some k) wa (w10.setRow x.g (rqC x (updF V1 16 v5) q2.fl).toArray) := ((Only.of_quiet HAL.out).trans HON10.out (fun i _ e => .inr e)).setRow (g := x.g) (fun _ => .inl rfl) _
 obtain ⟨hQB, hSB⟩ := HQA.out.put (T' := T1) (i := 16) (u := v5) (q' := ⟨q2.fl, q2.fresh ++ [b], q2.elder⟩) (by decide) ho3
  (fun k hk => by
    rcases HF10.out k hk with h1 | h1
    ·exact .inl h1
    ·have h2 := HAL.out.size; exact .inr (by rw [h1]; exact h2))
  (fun k hk => hk) (fun k hk => .inl hk) (fun k hk => Nat.lt_of_lt_of_le (HQA.out.there k hk) ho3.size) hug
  (setRow_heap w10 x.g _ _ _ (0, 0) HBL10.out) (fun c _ _ => rfl) (fun e => absurd rfl e) (fun _ => rfl)
  ⟨fun e => by omega, fun _ => by
    have e1 : natsI (q2.fresh ++ [b]) = natsI q2.fresh ++ [(b : Int)] := by unfold natsI; rw [List.map_append]; rfl
    show OwnN _ 0 v5 (natsI (q2.fresh ++ [b]))
    rw [e1]
    exact ⟨owns_only HO10.out.1 (only_setRow w10 x.g _) (fun k hk e => (hug k hk).1 e), HO10.out.2⟩, fun e => by omega⟩
 refine ⟨rfl, T1, _, ?_, HSA.out.trans hSB⟩
 have e3 : putQ (bkQ sd) q ⟨pi, uv fa, pt, pa, pb⟩ = ⟨q2.fl, q2.fresh ++ [b], q2.elder⟩ := by rw [HE.out, HQ2.out]
 rw [e3]
 exact hQB
end Go.Proofs.YtndkmgcmegcieaaGreatDoor
