/-
  CONTRACTS of pool's New, Put, where all is known.
-/
import Derived.Test.YtndkmgcmegcieaaGreatDoorPoolE
namespace Go.Proofs.YtndkmgcmegcieaaGreatDoor
open Go.ChangeShapes Go.WideShapes Go.ChangeAt Go.RowKit Go.Deep
set_option linter.unusedVariables false
set_option linter.unusedSimpArgs false
theorem list_at {α : Type} {l : List α} {n : Nat} {v : α} (h : l[n]? = some v) : ∃ pre post, pre.length = n ∧ l = pre ++ [v] ++ post ∧ ∀ u, l.set n u = pre ++ [u] ++ post := by
 have hn : n < l.length := by
  rcases Nat.lt_or_ge n l.length with e | e
  ·exact e
  ·rw [List.getElem?_eq_none e] at h; cases h
 have hv : l[n] = v := by rw [List.getElem?_eq_getElem hn] at h; exact Option.some.inj h
 refine ⟨l.take n, l.drop (n + 1), by rw [List.length_take]; omega, ?_, fun u => ?_⟩
 ·rw [← hv, List.append_assoc, List.singleton_append, ← List.drop_eq_getElem_cons hn, List.take_append_drop]
 ·rw [List.set_eq_take_append_cons_drop, if_pos hn]; simp
theorem plC_split (h : Hd) (X : Nat → Option Qs) {k : Nat} (hk : k < 128) : ∃ pre post, pre.length = 5 + k ∧ plC h X = pre ++ [ptrQ (X k)] ++ post ∧ ∀ o, plC h (updF X k o) = pre ++ [ptrQ o] ++ post := by
 obtain ⟨pre, post, h1, h2, h3⟩ := list_at (plC_get h X hk)
 exact ⟨pre, post, h1, h2, fun o => by rw [← plC_set h X hk o]; exact h3 _⟩
theorem IsCq.fresh {T : Nat → Prop} {w : World} {x : Rq} (h : IsCq (fun _ => False) w x VZ quZ) (ht : ∀ k, T k → k < w.heap.size) (hg : ¬ T x.g) : IsCq T w x VZ quZ :=
 ⟨h.blk, fun b _ => RowPk.nil _ _, fun b _ => RowIt.nil _, RowN.nil _, RowN.nil _, fun i _ j _ _ k hk => (by cases hk), fun i _ k hk => (by cases hk), ht, hg⟩
theorem footZ {x : Rq} {i : Nat} (h : FootC x VZ i) : i = x.g := by
 rcases h with h | ⟨j, -, h⟩
 ·exact h
 ·cases h
theorem IsPool.made {T : Nat → Prop} {w : World} {g : Nat} {h : Hd} {X : Nat → Option Qs} (hp : IsPool T w g h X) {k : Nat} (hk : k < 128) (hx : X k = none) {w0 : World} (hB : Below w0.heap.size w0 w) (hp0 : IsPool T w0 g h X) {xg : Nat} (hxg : w0.heap.size ≤ xg)
 (hQ : IsCq (fun _ => False) w ⟨xg, uv h.seed, h.tg, h.iv⟩ VZ quZ) :
 IsPool T (w.setRow g (plC h (updF X k (some ⟨⟨xg, uv h.seed, h.tg, h.iv⟩, VZ, quZ⟩))).toArray) g h (updF X k (some ⟨⟨xg, uv h.seed, h.tg, h.iv⟩, VZ, quZ⟩)) ∧
 PlS T w0 g X T (w.setRow g (plC h (updF X k (some ⟨⟨xg, uv h.seed, h.tg, h.iv⟩, VZ, quZ⟩))).toArray) (updF X k (some ⟨⟨xg, uv h.seed, h.tg, h.iv⟩, VZ, quZ⟩)) := by
 have hgx : xg ≠ g := by have := hp0.lt; omega
 have htx : ¬ T xg := fun e => by have := hp0.there xg e; omega
 have hQT : IsCq T w ⟨xg, uv h.seed, h.tg, h.iv⟩ VZ quZ := hQ.fresh hp.there htx
 constructor
 ·refine hp.turn hk fun s hs => ?_
  obtain rfl := Option.some.inj hs
  refine ⟨⟨hQT.only (only_setRow w g _) (fun i hi e => hgx (by have h9 : i = xg := footZ hi; rw [← h9]; exact e)) (fun i hi e => hp.gt (e ▸ hi)), rfl, rfl, rfl, inv_Z _, few_quZ⟩, fun e => hgx (footZ e).symm, fun j hj t ht i hi hi2 => ?_⟩
  have h1 := footZ hi
  have h2 := (hp0.qs j hj t ht).is.lts hi2
  have h3 : i = xg := h1
  omega
 ·refine ⟨(Only.of_quiet hB).trans (only_setRow w g _) fun i _ e => .inl e, fun i hi => ?_, fun i hi => .inl hi, fun i hi => hi⟩
  rcases hi with e | ⟨j, s, hj, hs, e⟩
  ·exact .inl (.inl e)
  ·by_cases e2 : j = k
   ·subst e2
    rw [updF_same] at hs
    obtain rfl := Option.some.inj hs
    have h3 : i = xg := footZ e
    exact .inr (by omega)
   ·rw [updF_other _ _ e2] at hs
    exact .inl (.inr ⟨j, s, hj, hs, e⟩)
theorem mOf_made {X : Nat → Option Qs} {k : Nat} (hx : X k = none) (x : Rq) : mOf (updF X k (some ⟨x, VZ, quZ⟩)) = mOf X := by
 rw [mOf_upd]
 funext j
 by_cases e : j = k
 ·subst e; rw [updF_same, mOf_none hx]
 ·rw [updF_other _ _ e]
theorem len_flow (M : Nat → Qu) {k b : Nat} (hk : k < 128) (hb : b < 16) : ((M k).fl b).pk.length ≤ (allP M 128).length := by
 have h1 := lenTo_ge (M k) b 16 hb
 rw [lenTo_all] at h1
 have h2 : ∀ n, k < n → (allQ (M k)).length ≤ (allP M n).length := by
  intro n
  induction n with
  | zero => intro h; omega
  | succ n ih =>
   intro h
   rw [allP_succ, List.length_append]
   by_cases e : k = n
   ·subst e; omega
   ·have := ih (by omega); omega
 exact Nat.le_trans h1 (h2 128 hk)
structure PutE (T : Nat → Prop) (w : World) (g : Nat) (hd : Hd) (X : Nat → Option Qs) (k : Nat) (p : Pk) (e : Ending) (w' : World) : Prop where
 out : ∃ u T' T2 X' ds, e = .returned (.tuple #[u, .nilIface]) ∧ IsPool T' w' g hd X' ∧ PlS T w g X T' w' X' ∧ OwnP T2 w' w.heap.size u ds ∧ (∀ i, T2 i → w.heap.size ≤ i ∧ i < w'.heap.size) ∧ (∀ i, FootP g X' i → u.ownBlock ≠ some i ∧ ¬ T2 i) ∧
  Shr hd.mp hd.mb (updF (mOf X) k (putQ (bkQ hd.seed) (mOf X k) p)) ds (mOf X')
theorem all_put {bk : Int → Nat} (hbk : ∀ f, bk f < 16) (q : Qu) (p : Pk) : (allQ (putQ bk q p)).Perm (p :: allQ q) := by
 have h : ∀ (df : Int) (cd : Cd) (fr el : List Nat), (allTo ⟨setF q.fl (bk p.flow) ⟨(q.fl (bk p.flow)).pk ++ [p], df, cd⟩, fr, el⟩ 16).Perm (p :: allTo q 16) := by
  intro df cd fr el
  have h1 := allTo_set (q := ⟨setF q.fl (bk p.flow) ⟨(q.fl (bk p.flow)).pk ++ [p], df, cd⟩, fr, el⟩) (b := bk p.flow) (y := q.fl (bk p.flow)) (fr := q.fresh) (el := q.elder) (p := p) (by dsimp only; rw [setF_same]; exact List.perm_append_singleton _ _) 16 (hbk _)
  refine h1.trans (List.Perm.of_eq ?_)
  congr 1
  refine allTo_congr 16 fun b _ => ?_
  by_cases e : b = bk p.flow
  ·subst e; simp [setF_same]
  ·simp only [setF_other _ _ e]
 unfold putQ allQ
 split <;> exact h _ _ _ _
theorem allP_put {bk : Int → Nat} (hbk : ∀ f, bk f < 16) (M : Nat → Qu) {k : Nat} (hk : k < 128) (p : Pk) : (allP (updF M k (putQ bk (M k) p)) 128).Perm (p :: allP M 128) := by
 have h1 := allP_set (M := updF M k (putQ bk (M k) p)) (k := k) (q := M k) (p := p) (by rw [updF_same]; exact all_put hbk (M k) p) 128 hk
 rwa [updF_back] at h1
set_option maxRecDepth 100000 in
set_option maxHeartbeats 8000000 in
theorem put_in_any {T : Nat → Prop} {w : World} {g : Nat} {hd : Hd} {X : Nat → Option Qs} (hp : IsPool T w g hd X) (hmp : 1 ≤ hd.mp ∧ 1 ≤ hd.mb) (a t : Nat) (ha : a < 16) (ht : t < 8) (pi pf pa : Int) (pb : List Int) (A : Option Addr) (m cp : Nat) (hb : RowB .u8 w A m pb) (hm : m ≤ 1000000)
 (hf : 0 ≤ pf ∧ pf ≤ 4294967295) (hat : 0 ≤ pa ∧ pa ≤ 4503599627370496) (hl : (allP (mOf X) 128).length ≤ 900) (hnb : 0 < m → ∀ p, A = some p → ¬ FootP g X p.block) :
 Calls Tryz.prog 10 #[.pointer (some ⟨g, 0, none⟩), .int .i64 ((a : Int) + 1), pkV ⟨pi, pf, (t : Nat), pa, pb⟩ (.slice A m cp)] w fun e w' => PutE T w g hd X (8 * a + t) ⟨pi, pf, (t : Nat), pa, pb⟩ e w' := by
 have HB1 := Shut.mk ((Below.refl w.heap.size w).alloc (Nat.le_refl _) (Obj.cells #[Value.int .i64 pi, .int .u32 pf, .int .i64 (t : Nat), .int .i64 pa, Value.slice A m cp] 35 (0, 0)))
 have HX1 := Shut.mk (MapKept.heap_alloc w (Obj.cells #[Value.int .i64 pi, .int .u32 pf, .int .i64 (t : Nat), .int .i64 pa, Value.slice A m cp] 35 (0, 0))).1
 have HP1 := Shut.mk (hp.quiet HB1.out)
 have HP0 := Shut.mk hp
 have HMP := Shut.mk hmp
 have HRB0 := Shut.mk hb
 have HM := Shut.mk hm
 have HFL := Shut.mk hf
 have HAT := Shut.mk hat
 have HTL := Shut.mk hl
 have HNB := Shut.mk (show 0 < m → ∀ p, A = some p → ¬ p.block = g from fun h p e e2 => hnb h p e (.inl e2))
 have HK := Shut.mk (show 8 * a + t < 128 by omega)
 have HKN := Shut.mk (show knownP ((a : Int) + 1) (t : Int) from ⟨⟨by omega, by omega⟩, by omega, by omega⟩)
 have HSUB := Shut.mk (show IntKind.i64.wrap ((a : Int) + 1 - 1) = (a : Int) by rw [IntWalk.i64_in _ ⟨by omega, by omega⟩]; omega)
 have HWA := Shut.mk (show IntKind.i64.wrap (a : Int) = (a : Int) from IntWalk.i64_in _ ⟨by omega, by omega⟩)
 have HAI := Shut.mk (show (a : Int) < 16 ∧ (t : Int) < 8 from ⟨by omega, by omega⟩)
 have HAT16 := Shut.mk (show a < 16 ∧ t < 8 from ⟨ha, ht⟩)
 clear hp hmp hb hm hf hat hl
 unfold pkV
 dsimp only
 obtain ⟨s5, hs5⟩ : ∃ s, s = w.heap.size := ⟨_, rfl⟩
 have HS5 := Shut.mk hs5
 go_enter Tryz.func10, Tryz.ntmps10
 go_wp2_with (fail)
 rw [← hs5]
 rw [← hs5] at HX1
 clear hs5
 generalize World.alloc w _ = w1 at *
 refine (known_yes HKN.out w1).mono ?_
 rintro e wn ⟨rfl, rfl⟩
 have hct : w1.cell? ⟨s5, 2, none⟩ = some (.int .i64 (t : Nat)) := by have h9 := block_range HX1.out 2 _ rfl; simpa using h9
 go_wp2_with (fail)
 refine (queue_in HP1.out a t ha ht).mono ?_
 rintro e wn ⟨rfl, rfl⟩
 clear hct
 cases hx : X (8 * a + t) with
 | none =>
  have HXX := Shut.mk hx
  rw [show ptrQ none = Value.pointer none from rfl]
  clear hx
  obtain ⟨w5, hw5⟩ : ∃ wq, wq = World.drew w1 := ⟨_, rfl⟩
  have HWw5 := Shut.mk hw5
  have HDw5 := Shut.mk (show Below w1.heap.size w1 w5 by rw [hw5]; exact (Below.refl _ _).drew)
  clear hw5
  have HP5 := Shut.mk (HP1.out.quiet HDw5.out)
  go_wp2_with (fail)
  refine wp_region_D (fun w' => Below w5.heap.size w5 w') 13 (by kernel_rfl) (show Below w5.heap.size w5 (World.drew w1) by rw [HWw5.out]; exact Below.refl _ _) (fun hHeld hC => ?_)
  rw [← HWw5.out] at hHeld ⊢
  refine dP 0 hC hHeld ?_; clear hC; intro hC
  refine dP 1 hC hHeld ?_; clear hC; intro hC
  refine dP 2 hC hHeld ?_; clear hC; intro hC
  refine dT 3 hC hHeld (fun w hSw => (show w.cell? ⟨g, 0, none⟩ = some (.int .u32 (uv hd.seed)) from below_at hSw HP5.out.head.1)) ?_; clear hC; intro hC
  refine dP 4 hC hHeld ?_; clear hC; intro hC
  refine dP 5 hC hHeld ?_; clear hC; intro hC
  refine dP 6 hC hHeld ?_; clear hC; intro hC
  refine dT 7 hC hHeld (fun w hSw => (show w.cell? ⟨g, 1, none⟩ = some (.int .i64 hd.tg) from below_at hSw HP5.out.head.2.1)) ?_; clear hC; intro hC
  refine dP 8 hC hHeld ?_; clear hC; intro hC
  refine dP 9 hC hHeld ?_; clear hC; intro hC
  refine dP 10 hC hHeld ?_; clear hC; intro hC
  refine dT 11 hC hHeld (fun w hSw => (show w.cell? ⟨g, 2, none⟩ = some (.int .i64 hd.iv) from below_at hSw HP5.out.head.2.2.1)) ?_; clear hC; intro hC
  refine wpAnyD_one (i := 12) (by kernel_rfl) rfl hC (fun K hK => ?_)
  clear hC
  go_simp
  refine (new_any (uv hd.seed) hd.tg hd.iv w5).mono ?_
  rintro e' wv1 ⟨rfl, hQ, hB⟩
  have HQN := Shut.mk hQ
  have HSN := Shut.mk (show w1.heap.size ≤ w5.heap.size from Nat.le_trans HDw5.out.size hHeld.size)
  have HLN := Shut.mk (show w5.heap.size < wv1.heap.size from hQ.lt)
  obtain ⟨xg, hxg⟩ : ∃ s, s = w5.heap.size := ⟨_, rfl⟩
  rw [← hxg] at HQN HSN HLN ⊢
  clear hQ hxg
  have hHeld2 := hHeld.trans (hB.mono hHeld.size)
  clear hB
  clear hHeld
  have hHeld := hHeld2
  clear hHeld2
  refine hK.out _ _ (fun _ => hHeld) (fun hC => ?_)
  clear hK K
  try simp only [Act.put, sG1, sG2, sG3, sG4, sG5, sG6]
  refine wpAnyD_one (i := 13) (by kernel_rfl) rfl hC (fun K hK => ?_)
  clear hC
  go_simp
  refine hK.out _ _ (past (by kernel_rfl)) (fun hC => ?_)
  clear hK K
  try simp only [Act.put, sG1, sG2, sG3, sG4, sG5, sG6]
  refine wpAnyD_done (by kernel_rfl) ?_ _
  try simp only [Act.put, sG1, sG2, sG3, sG4, sG5, sG6]
  have HB6 := Shut.mk (HDw5.out.trans (hHeld.mono HDw5.out.size))
  clear hHeld hC
  obtain ⟨w6, hw6⟩ : ∃ wf, wf = wv1 := ⟨_, rfl⟩
  rw [← hw6] at HB6 HQN HLN ⊢
  clear hw6
  obtain ⟨w7, hw7⟩ : ∃ wq, wq = World.drew w6 := ⟨_, rfl⟩
  have HWw7 := Shut.mk hw7
  have HDw7 := Shut.mk (show Below w6.heap.size w6 w7 by rw [hw7]; exact (Below.refl _ _).drew)
  clear hw7
  have HB7 := Shut.mk (HB6.out.trans (HDw7.out.mono HB6.out.size))
  have HX7 := Shut.mk ((HB7.out.block _ (lt_blk HX1.out)).trans HX1.out)
  have HP7 := Shut.mk (HP1.out.quiet HB7.out)
  have HQ7 := Shut.mk (HQN.out.quiet HDw7.out)
  have HXG := Shut.mk (show w1.heap.size ≤ xg from HSN.out)
  obtain ⟨pre, post, hpl, hsp, hsu⟩ := plC_split hd X HK.out
  have HBK := Shut.mk (show w7.heap[g]? = some (.cells (pre ++ [ptrQ (X (8 * a + t))] ++ post).toArray 57 (0, 0)) by rw [← hsp]; exact HP7.out.blk)
  have HPL := Shut.mk (show pre.length = 5 + a * 8 + t by rw [hpl]; omega)
  have hmade := HP7.out.made HK.out HXX.out HB7.out HP1.out HXG.out HQ7.out
  have HSU := Shut.mk (hsu (some ⟨⟨xg, uv hd.seed, hd.tg, hd.iv⟩, VZ, quZ⟩))
  obtain ⟨w8, hw8⟩ : ∃ w8, w8 = w7.setRow g (plC hd (updF X (8 * a + t) (some ⟨⟨xg, uv hd.seed, hd.tg, hd.iv⟩, VZ, quZ⟩))).toArray := ⟨_, rfl⟩
  rw [← hw8] at hmade
  have HW8 := Shut.mk (show w7.setRow g (pre ++ [Value.pointer (some ⟨xg, 0, none⟩)] ++ post).toArray = w8 by rw [hw8, HSU.out]; rfl)
  have HPP := Shut.mk hmade.1
  have HSA := Shut.mk (PlS.from_ HB1.out hmade.2)
  have HOG := Shut.mk (show Only (· = g) w7 w8 by rw [hw8]; exact only_setRow _ _ _)
  have HNG := Shut.mk (show s5 ≠ g by have h1 := HP0.out.lt; have h2 := HS5.out; omega)
  have HX8 := Shut.mk (HOG.out.at_ HX7.out HNG.out)
  clear hpl hsp hsu hmade hw8
  go_wp2_with (fail)
  refine wp_region_D (fun w' => w7 = w') 10 (by kernel_rfl) HWw7.out (fun hHeld hC => ?_)
  rw [← HWw7.out] at hHeld ⊢
  refine dP 0 hC hHeld ?_; clear hC; intro hC
  refine dP 1 hC hHeld ?_; clear hC; intro hC
  refine wpAnyD_pure (i := 2) (v := ?_) rfl hC (by kernel_rfl) (by kernel_rfl) (by kernel_rfl) (by decide) (fun _ _ _ h => h) (Or.inl ⟨by rfl, ?_⟩) (fun _ => hHeld) ?_
  rotate_left
  ·intro w hSw
   have hwr := HSUB.out
   have hwr2 := HWA.out
   clear hSw
   go_simp
   try with_reducible rfl
  try simp only [Act.put, sG1, sG2, sG3, sG4, sG5, sG6]
  clear hC
  intro hC
  refine dP 3 hC hHeld ?_; clear hC; intro hC
  refine dT 4 hC hHeld (fun w hSw => (show w.cell? ⟨s5, 2, none⟩ = some (.int .i64 (t : Nat)) from by rw [← hSw]; have h9 := block_range HX7.out 2 _ rfl; simpa using h9)) ?_; clear hC; intro hC
  refine dP 5 hC hHeld ?_; clear hC; intro hC
  refine dP 6 hC hHeld ?_; clear hC; intro hC
  refine dP 7 hC hHeld ?_; clear hC; intro hC
  refine wpAnyD_pure (i := 8) (v := ?_) rfl hC (by kernel_rfl) (by kernel_rfl) (by kernel_rfl) (by decide) (fun _ _ _ h => h) (Or.inl ⟨by rfl, ?_⟩) (fun _ => hHeld) ?_
  rotate_left
  ·intro w hSw
   have hwr2 := HWA.out
   have h16 := HAI.out.1
   clear hSw
   go_simp
   try with_reducible rfl
  try simp only [Act.put, sG1, sG2, sG3, sG4, sG5, sG6]
  clear hC
  intro hC
  refine wpAnyD_pure (i := 9) (v := ?_) rfl hC (by kernel_rfl) (by kernel_rfl) (by kernel_rfl) (by decide) (fun _ _ _ h => h) (Or.inl ⟨by rfl, ?_⟩) (fun _ => hHeld) ?_
  rotate_left
  ·intro w hSw
   have h8 := HAI.out.2
   clear hSw
   go_simp
   try with_reducible rfl
  try simp only [Act.put, sG1, sG2, sG3, sG4, sG5, sG6]
  clear hC
  intro hC
  refine wpAnyD_one (i := 10) (by kernel_rfl) rfl hC (fun K hK => ?_)
  clear hC
  rw [← hHeld]
  refine step_store_fld rfl 53 (.tmp 44) (.tmp 40) rfl g (5 + a * 8 + t) 0 (.pointer (some ⟨xg, 0, none⟩)) rfl rfl rfl 57 pre [ptrQ (X (8 * a + t))] [.pointer (some ⟨xg, 0, none⟩)] post HBK.out HPL.out size1Q (by show 0 < 1; omega) rfl ?_
  rw [show World.setRow w7 g _ = w8 from HW8.out]
  refine hK.out _ _ (past (by kernel_rfl)) (fun hC => ?_)
  clear hK K
  try simp only [Act.put, sG1, sG2, sG3, sG4, sG5, sG6]
  refine wpAnyD_done (by kernel_rfl) ?_ _
  try simp only [Act.put, sG1, sG2, sG3, sG4, sG5, sG6]
  clear hHeld hC
  obtain ⟨sx, hsx⟩ : ∃ sx : Rq, sx = ⟨xg, uv hd.seed, hd.tg, hd.iv⟩ := ⟨_, rfl⟩
  rw [show (Value.pointer (some ⟨xg, 0, none⟩)) = Value.pointer (some ⟨sx.g, 0, none⟩) by rw [hsx]]
  rw [← hsx] at HPP HSA
  obtain ⟨sV, hsV⟩ : ∃ sV : Nat → Value, sV = VZ := ⟨_, rfl⟩
  obtain ⟨sq, hsq⟩ : ∃ sq : Qu, sq = quZ := ⟨_, rfl⟩
  have HMO := Shut.mk (mOf_made HXX.out sx)
  have HMS := Shut.mk (show mOf X (8 * a + t) = sq by rw [hsq]; exact mOf_none HXX.out)
  rw [← hsV, ← hsq] at HPP HSA HMO
  obtain ⟨X2, hX2⟩ : ∃ X2, X2 = updF X (8 * a + t) (some ⟨sx, sV, sq⟩) := ⟨_, rfl⟩
  rw [← hX2] at HPP HSA HMO
  have HXS := Shut.mk (show X2 (8 * a + t) = some ⟨sx, sV, sq⟩ by rw [hX2, updF_same])
  have HQ := Shut.mk (HPP.out.qs _ HK.out _ HXS.out)
  have HRB := Shut.mk (((HRB0.out.below HB1.out).below HB7.out).only0 HOG.out (fun hm p hp e => by
   exact HNB.out hm p hp e))
  clear hsx hsV hsq hX2
  go_wp2_with (first
   | (refine wpList_load_row rfl 35 (.tmp 5) rfl s5 rfl 35 #[Value.int .i64 pi, .int .u32 pf, .int .i64 (t : Nat), .int .i64 pa, Value.slice A m cp] (0, 0) _ HX8.out Tryz.underlying35 rfl size5 ?_))
  have HIS := Shut.mk (show IsCq T w8 sx sV sq from HQ.out.is)
  have HIN := Shut.mk (show InvQ (bkQ hd.seed) sq from HQ.out.inv)
  have HFW := Shut.mk (show FewC sq from HQ.out.few)
  have HLL := Shut.mk (show sq.fresh.length + sq.elder.length ≤ 16 by have := lists_len HIN.out; rwa [List.length_append] at this)
  have HPL2 := Shut.mk (show pb.length ≤ 1000000 by have h1 : pb.length = m := HRB.out.len; have h2 := HM.out; omega)
  refine (put_any hd.seed T w8 sx sV sq HIS.out HQ.out.sd ⟨pi, pf, (t : Nat), pa, pb⟩ A m cp HRB.out HM.out HFL.out (fun b hb => by have := HFW.out.len b hb; omega) (fun b hb y hy => (HFW.out.el b hb y hy).2.2) (by have := HLL.out; omega) (by have := HLL.out; omega) HIN.out.lt).mono ?_
  rintro e w9 ⟨rfl, T', V', hQ9, hC9⟩
  have hcall := HPP.out.call HK.out HXS.out hQ9 hC9 (inv_put (bkQ_lt hd.seed) HIN.out) (few_put (bkQ_lt hd.seed _) HFW.out (by
   have h1 := len_flow (mOf X2) HK.out (bkQ_lt hd.seed pf)
   rw [HMO.out, HMS.out] at h1
   have h2 := HTL.out
   exact Nat.lt_of_le_of_lt h1 (by omega)) ⟨HAT.out.1, HAT.out.2, HPL2.out⟩)
  have HP9 := Shut.mk hcall.1
  have HS9 := Shut.mk hcall.2
  have HM9 := Shut.mk (show mOf (updF X2 (8 * a + t) (some ⟨sx, V', putQ (bkQ hd.seed) sq ⟨pi, pf, (t : Nat), pa, pb⟩⟩)) = updF (mOf X) (8 * a + t) (putQ (bkQ hd.seed) (mOf X (8 * a + t)) ⟨pi, pf, (t : Nat), pa, pb⟩) by rw [mOf_upd, HMO.out, HMS.out])
  clear hcall hQ9 hC9
  go_wp2_with (fail)
  refine (shrink_any HP9.out HMP.out.1 HMP.out.2 (by
   rw [HM9.out]
   have h1 : (allP (updF (mOf X) (8 * a + t) (putQ (bkQ hd.seed) (mOf X (8 * a + t)) ⟨pi, pf, (t : Nat), pa, pb⟩)) 128).length = (allP (mOf X) 128).length + 1 := (allP_put (bkQ_lt hd.seed) (mOf X) HK.out ⟨pi, pf, (t : Nat), pa, pb⟩).length_eq
   have h2 := HTL.out
   omega)).mono ?_
  rintro e wE ⟨u, T2, X', ds, rfl, hP, hS, hF, hO, hT, hR⟩
  have HPE := Shut.mk hP
  have HSE := Shut.mk (HSA.out.trans (HS9.out.trans hS))
  have s9 : w.heap.size ≤ w9.heap.size := (HSA.out.trans HS9.out).only.size
  have HOE := Shut.mk (OwnP.base hO s9)
  have HTE := Shut.mk (show ∀ i, T2 i → w.heap.size ≤ i ∧ i < wE.heap.size from fun i hi => ⟨Nat.le_trans s9 (hT i hi).1, (hT i hi).2⟩)
  have HAE := Shut.mk (show ∀ i, FootP g X' i → u.ownBlock ≠ some i ∧ ¬ T2 i from fun i hi => by
   have h1 := HP9.out.lts (hF i hi)
   refine ⟨fun e => ?_, fun e => ?_⟩
   ·have := (OwnP.lt hO i e).1; omega
   ·have := (hT i e).1; omega)
  rw [HM9.out] at hR
  have HRE := Shut.mk hR
  clear hP hS hF hO hT hR s9
  go_wp2_with (fail)
  go_ret2
  exact ⟨⟨u, T', T2, X', ds, rfl, HPE.out, HSE.out, HOE.out, HTE.out, HAE.out, HRE.out⟩⟩
 | some s =>
  obtain ⟨sx, sV, sq⟩ := s
  have HXS := Shut.mk hx
  have HQ := Shut.mk (HP1.out.qs _ HK.out _ hx)
  have HPP := HP1
  have HMS := Shut.mk (show mOf X (8 * a + t) = sq from mOf_some hx)
  have HSA := Shut.mk (show PlS T w g X T w1 X from PlS.refl.quiet HB1.out)
  have HRB := Shut.mk (HRB0.out.below HB1.out)
  rw [show ptrQ (some ⟨sx, sV, sq⟩) = Value.pointer (some ⟨sx.g, 0, none⟩) from rfl]
  clear hx
  go_wp2_with (first
   | (refine wpList_load_row rfl 35 (.tmp 5) rfl s5 rfl 35 #[Value.int .i64 pi, .int .u32 pf, .int .i64 (t : Nat), .int .i64 pa, Value.slice A m cp] (0, 0) _ HX1.out Tryz.underlying35 rfl size5 ?_))
  have HIS := Shut.mk (show IsCq T w1 sx sV sq from HQ.out.is)
  have HIN := Shut.mk (show InvQ (bkQ hd.seed) sq from HQ.out.inv)
  have HFW := Shut.mk (show FewC sq from HQ.out.few)
  have HLL := Shut.mk (show sq.fresh.length + sq.elder.length ≤ 16 by have := lists_len HIN.out; rwa [List.length_append] at this)
  have HPL2 := Shut.mk (show pb.length ≤ 1000000 by have h1 : pb.length = m := HRB.out.len; have h2 := HM.out; omega)
  refine (put_any hd.seed T w1 sx sV sq HIS.out HQ.out.sd ⟨pi, pf, (t : Nat), pa, pb⟩ A m cp HRB.out HM.out HFL.out (fun b hb => by have := HFW.out.len b hb; omega) (fun b hb y hy => (HFW.out.el b hb y hy).2.2) (by have := HLL.out; omega) (by have := HLL.out; omega) HIN.out.lt).mono ?_
  rintro e w9 ⟨rfl, T', V', hQ9, hC9⟩
  have hcall := HPP.out.call HK.out HXS.out hQ9 hC9 (inv_put (bkQ_lt hd.seed) HIN.out) (few_put (bkQ_lt hd.seed _) HFW.out (by
   have h1 := len_flow (mOf X) HK.out (bkQ_lt hd.seed pf)
   rw [HMS.out] at h1
   have h2 := HTL.out
   exact Nat.lt_of_le_of_lt h1 (by omega)) ⟨HAT.out.1, HAT.out.2, HPL2.out⟩)
  have HP9 := Shut.mk hcall.1
  have HS9 := Shut.mk hcall.2
  have HM9 := Shut.mk (show mOf (updF X (8 * a + t) (some ⟨sx, V', putQ (bkQ hd.seed) sq ⟨pi, pf, (t : Nat), pa, pb⟩⟩)) = updF (mOf X) (8 * a + t) (putQ (bkQ hd.seed) (mOf X (8 * a + t)) ⟨pi, pf, (t : Nat), pa, pb⟩) by rw [mOf_upd, HMS.out])
  clear hcall hQ9 hC9
  go_wp2_with (fail)
  refine (shrink_any HP9.out HMP.out.1 HMP.out.2 (by
   rw [HM9.out]
   have h1 : (allP (updF (mOf X) (8 * a + t) (putQ (bkQ hd.seed) (mOf X (8 * a + t)) ⟨pi, pf, (t : Nat), pa, pb⟩)) 128).length = (allP (mOf X) 128).length + 1 := (allP_put (bkQ_lt hd.seed) (mOf X) HK.out ⟨pi, pf, (t : Nat), pa, pb⟩).length_eq
   have h2 := HTL.out
   omega)).mono ?_
  rintro e wE ⟨u, T2, X', ds, rfl, hP, hS, hF, hO, hT, hR⟩
  have HPE := Shut.mk hP
  have HSE := Shut.mk (HSA.out.trans (HS9.out.trans hS))
  have s9 : w.heap.size ≤ w9.heap.size := (HSA.out.trans HS9.out).only.size
  have HOE := Shut.mk (OwnP.base hO s9)
  have HTE := Shut.mk (show ∀ i, T2 i → w.heap.size ≤ i ∧ i < wE.heap.size from fun i hi => ⟨Nat.le_trans s9 (hT i hi).1, (hT i hi).2⟩)
  have HAE := Shut.mk (show ∀ i, FootP g X' i → u.ownBlock ≠ some i ∧ ¬ T2 i from fun i hi => by
   have h1 := HP9.out.lts (hF i hi)
   refine ⟨fun e => ?_, fun e => ?_⟩
   ·have := (OwnP.lt hO i e).1; omega
   ·have := (hT i e).1; omega)
  rw [HM9.out] at hR
  have HRE := Shut.mk hR
  clear hP hS hF hO hT hR s9
  go_wp2_with (fail)
  go_ret2
  exact ⟨⟨u, T', T2, X', ds, rfl, HPE.out, HSE.out, HOE.out, HTE.out, HAE.out, HRE.out⟩⟩
end Go.Proofs.YtndkmgcmegcieaaGreatDoor
