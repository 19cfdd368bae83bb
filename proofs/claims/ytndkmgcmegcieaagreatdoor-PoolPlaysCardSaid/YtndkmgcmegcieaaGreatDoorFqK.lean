/-
  CONTRACT of (*fq.flow).pull.
-/
import Derived.Test.YtndkmgcmegcieaaGreatDoorFqJ
import Derived.Test.YtndkmgcmegcieaaGreatDoorCodE
import Derived.Test.YtndkmgcmegcieaaGreatDoorMgC
namespace Go.Proofs.YtndkmgcmegcieaaGreatDoor
open Go.ChangeShapes Go.WideShapes Go.ChangeAt Go.RowKit Go.Deep
set_option linter.unusedVariables false
set_option linter.unusedSimpArgs false
theorem FlS.refl {T : Nat → Prop} {w : World} {g : Nat} {vp vi : Value} : FlS T w g vp vi T w vp vi := ⟨Only.refl _ _, fun k h => .inl h, fun k h => .inl h, fun k h => .inl h, fun k h => h⟩
theorem FlS.trans {T T1 T2 : Nat → Prop} {w w1 w2 : World} {g : Nat} {vp vi vp1 vi1 vp2 vi2 : Value} (h : FlS T w g vp vi T1 w1 vp1 vi1) (k : FlS T1 w1 g vp1 vi1 T2 w2 vp2 vi2) : FlS T w g vp vi T2 w2 vp2 vi2 where
 only := h.only.trans k.only fun i hi e => by
  rcases e with e | e | e
  ·exact .inl e
  ·rcases h.fp i e with h1 | h1
   ·exact .inr (.inl h1)
   ·omega
  ·rcases h.fi i e with h1 | h1
   ·exact .inr (.inr h1)
   ·omega
 fp := fun i e => by
  rcases k.fp i e with h1 | h1
  ·exact h.fp i h1
  ·exact .inr (Nat.le_trans h.only.size h1)
 fi := fun i e => by
  rcases k.fi i e with h1 | h1
  ·exact h.fi i h1
  ·exact .inr (Nat.le_trans h.only.size h1)
 ft := fun i e => by
  rcases k.ft i e with h1 | h1
  ·exact h.ft i h1
  ·exact .inr (Nat.le_trans h.only.size h1)
 tt := fun i e => k.tt i (h.tt i e)
theorem FlS.quiet {T T1 : Nat → Prop} {w w1 w2 : World} {g : Nat} {vp vi vp1 vi1 : Value} (h : FlS T w g vp vi T1 w1 vp1 vi1) (hb : Below w1.heap.size w1 w2) : FlS T w g vp vi T1 w2 vp1 vi1 := ⟨h.only.then_quiet hb, h.fp, h.fi, h.ft, h.tt⟩
theorem FlS.from_ {T T1 : Nat → Prop} {w w1 w2 : World} {g : Nat} {vp vi vp1 vi1 : Value} (hb : Below w.heap.size w w1) (h : FlS T w1 g vp vi T1 w2 vp1 vi1) : FlS T w g vp vi T1 w2 vp1 vi1 :=
 ⟨(Only.of_quiet hb).trans h.only fun _ _ e => e, fun k e => (h.fp k e).imp id (Nat.le_trans hb.size), fun k e => (h.fi k e).imp id (Nat.le_trans hb.size), fun k e => (h.ft k e).imp id (Nat.le_trans hb.size), h.tt⟩
theorem FlS.own {T : Nat → Prop} {w : World} {g : Nat} {vp vi : Value} (cs : Array Value) : FlS T w g vp vi T (w.setRow g cs) vp vi := ⟨(Only.refl _ w).setRow (g := g) (fun _ => .inl rfl) cs, fun k h => .inl h, fun k h => .inl h, fun k h => .inl h, fun k h => h⟩
theorem FlS.new {T T1 : Nat → Prop} {w w1 : World} {g : Nat} {vp vi vp1 vi1 : Value} (h : FlS T w g vp vi T1 w1 vp1 vi1) {s : Nat} (hs : w.heap.size ≤ s) (cs : Array Value) : FlS T w g vp vi T1 (w1.setRow s cs) vp1 vi1 :=
 ⟨h.only.setRow (g := s) (fun h => by omega) cs, h.fp, h.fi, h.ft, h.tt⟩
theorem FlS.over {T T1 S : Nat → Prop} {w w1 w2 : World} {g : Nat} {vp vi vp1 vi1 : Value} (h : FlS T w g vp vi T1 w1 vp1 vi1) (ho : Only S w1 w2) (hS : ∀ k, S k → w.heap.size ≤ k) : FlS T w g vp vi T1 w2 vp1 vi1 :=
 ⟨h.only.trans ho fun i hi e => by have := hS i e; omega, h.fp, h.fi, h.ft, h.tt⟩
theorem OwnP.base {T : Nat → Prop} {w : World} {B B' : Nat} {v : Value} {l : List Pk} (h : OwnP T w B v l) (hB : B' ≤ B) : OwnP T w B' v l := by
 obtain ⟨l', h1, h2, h3, h4⟩ := h
 exact ⟨l', ⟨owns_base h1.1 hB, h1.2⟩, h2, h3, h4⟩
theorem OwnP.lt {T : Nat → Prop} {w : World} {B : Nat} {v : Value} {l : List Pk} (h : OwnP T w B v l) : ∀ k, v.ownBlock = some k → B ≤ k ∧ k < w.heap.size := by
 obtain ⟨l', h1, h2, h3, h4⟩ := h
 exact World.ownsRow.lt h1.1
theorem sizeCd : (Tryz.prog.info? 92).map (·.size) = some 5 := by kernel_rfl
theorem results_tct {P : Program} {fn : Func} {p q r : Tmp} {ty : TypeId} (h : fn.results = #[.tmp p, .cell q ty, .tmp r]) (tmps : Array Value) (w : World) (g : Nat) (t : TypeId) (cs : Array Value) (fr : Nat × Nat) (d : TypeDesc) (u v : Value)
 (hp : tmps.getD p undef = u) (hq : tmps.getD q undef = .pointer (some ⟨g, 0, none⟩)) (hr : tmps.getD r undef = v) (hg : w.heap[g]? = some (.cells cs t fr))
 (hu : P.underlying ty = some d) (hd : (match d with | .struct _ | .array _ _ => true | _ => false) = true) (hi : (P.info? ty).map (·.size) = some cs.size) :
 (results fn tmps).run P w = .ok (.tuple #[u, .agg cs, v]) w := by
 have hp' : tmps[p]?.getD undef = u := by simpa using hp
 have hq' : tmps[q]?.getD undef = .pointer (some ⟨g, 0, none⟩) := by simpa using hq
 have hr' : tmps[r]?.getD undef = v := by simpa using hr
 simp [results, h, hp', hq', hr', asAddr, run_loadVar_row w g t ty cs fr d hg hu hd hi]
theorem items_all {l : List Pk} (h : ∀ x ∈ l, 0 ≤ x.at_ ∧ x.at_ ≤ 4503599627370496 ∧ x.body.length ≤ 1000000) : ∀ x ∈ itemsF l, 0 ≤ x.at_ ∧ x.at_ ≤ 4503599627370496 ∧ x.len ≤ 1048576 := fun x hx => by
 obtain ⟨p, hp, rfl⟩ := List.mem_map.1 hx
 have := h p hp
 dsimp only
 omega
theorem bytes_in {l : List Pk} (h : ∀ x ∈ l, 0 ≤ x.at_ ∧ x.at_ ≤ 4503599627370496 ∧ x.body.length ≤ 1000000) (hl : l.length ≤ 1000) (k : Nat) : 0 ≤ bytesF (l.drop k) ∧ bytesF (l.drop k) ≤ 1000000000 := by
 have := bytes_low (l.drop k) fun p hp => (h p (List.mem_of_mem_drop hp)).2.2
 rw [List.length_drop] at this
 omega
theorem drop_at_pk {l : List Pk} {k : Nat} (h : k < l.length) : l.drop k = l.getD k pk00.1 :: l.drop (k + 1) := by
 rw [List.drop_eq_getElem_cons h]
 simp [List.getD, h]
structure PullE (T : Nat → Prop) (w : World) (g : Nat) (tq : TypeId) (pre post : List Value) (vp vi : Value) (l : List Pk) (df : Int) (R : Cd × Nat × Bool) (e : Ending) (w' : World) : Prop where
 out : ∃ late T2 v vp' vi', OwnP T2 w' w.heap.size late (l.take R.2.1) ∧ (∀ k, T2 k → w.heap.size ≤ k ∧ k < w'.heap.size) ∧
  ((R.2.2 = false ∧ e = .returned (.tuple #[late, pkV pk00.1 (.slice none 0 0), .bool false]) ∧ FlB T w' g tq pre post vp' vi' [] [] 0 df R.1) ∨
   (R.2.2 = true ∧ ∃ p r, l.drop R.2.1 = p :: r ∧ e = .returned (.tuple #[late, pkV p v, .bool true]) ∧ OwnV w' w.heap.size v p.body ∧ (∀ k, v.ownBlock = some k → ¬ T2 k ∧ late.ownBlock ≠ some k) ∧ FlB T w' g tq pre post vp' vi' r (itemsF r) (bytesF r) (df - (p.body.length : Nat)) R.1)) ∧
  FlS T w g vp vi T w' vp' vi' ∧ vp'.ownBlock = vp.ownBlock ∧ vi'.ownBlock = vi.ownBlock
set_option maxRecDepth 100000 in
set_option maxHeartbeats 8000000 in
theorem flpull_any (T : Nat → Prop) (g o : Nat) (tq : TypeId) (pre post : List Value) (vp vi : Value) (l : List Pk) (df t tg iv : Int) (c : Cd) (w : World)
 (h : FlB T w g tq pre post vp vi l (itemsF l) (bytesF l) df c) (ho : pre.length = o) (hl : l.length ≤ 1000) (hx : ∀ x ∈ l, 0 ≤ x.at_ ∧ x.at_ ≤ 4503599627370496 ∧ x.body.length ≤ 1000000)
 (ht : 0 ≤ t ∧ t ≤ 4503599627370496) (hcn : c.count < 4294967296) (hla : c.last < 4294967296) (hd : 0 ≤ c.drop ∧ c.drop ≤ 4503599627370496) (hdf : -4503599627370496 ≤ df ∧ df ≤ 4503599627370496)
 (R : Cd × Nat × Bool) (hR : pullR ⟨t, clampR tg 0 1073741824, clampR iv 0 1073741824⟩ c (bytesF l) (itemsF l) = R) :
 Calls Tryz.prog 68 #[.pointer (some ⟨g, o, none⟩), .int .i64 t, .int .i64 tg, .int .i64 iv] w fun e w' => PullE T w g tq pre post vp vi l df R e w' := by
 have hb0 := bytes_in hx hl 0
 rw [List.drop_zero] at hb0
 obtain ⟨A, cap, hvi, hcap, -⟩ := h.it.form
 rw [itemsF_len] at hvi hcap
 obtain ⟨len, hlen⟩ : ∃ k, l.length = k := ⟨_, rfl⟩
 rw [hlen] at hvi hcap
 subst hvi
 have HBD := Shut.mk (show (R.2.2 = true → R.2.1 < l.length) ∧ (R.2.2 = false → R.2.1 = l.length) from by
  have := pullF_bound (P := ⟨t, clampR tg 0 1073741824, clampR iv 0 1073741824⟩) (x := ⟨l, df, c⟩) (c := R.1) (n := R.2.1) (is := R.2.2) hR
  exact this)
 have HR := Shut.mk (show pullR ⟨t, clampR tg 0 1073741824, clampR iv 0 1073741824⟩ ⟨c.first, c.drop, c.count, c.last, c.on⟩ (bytesF l) (itemsF l) = R from hR)
 have HOO := Shut.mk ho
 have HLEN := Shut.mk (show len ≤ 1000 by omega)
 have HLL := Shut.mk hlen
 have HT := Shut.mk ht
 have HBY := Shut.mk (show 0 ≤ bytesF l ∧ bytesF l ≤ 1099511627776 by omega)
 have HXX := Shut.mk (items_all hx)
 have HX := Shut.mk hx
 have HCN := Shut.mk hcn
 have HLA := Shut.mk hla
 have HDR := Shut.mk hd
 have HDF := Shut.mk hdf
 have HF0 := Shut.mk h
 have HA1 := Shut.mk ((Below.refl w.heap.size w).alloc (Nat.le_refl _) (Obj.cells #[Value.int .i64 0, .int .u32 0, .int .i64 0, .int .i64 0, Value.slice none 0 0] 35 (0, 0)))
 have HX1 := Shut.mk (MapKept.heap_alloc w (Obj.cells #[Value.int .i64 0, .int .u32 0, .int .i64 0, .int .i64 0, Value.slice none 0 0] 35 (0, 0))).1
 have HF1 := Shut.mk (HF0.out.quiet HA1.out)
 clear h ho hl hx ht hcn hla hd hdf hR hb0 hlen hcap
 go_enter Tryz.func68, Tryz.ntmps68
 go_wp2_with (fail)
 generalize World.alloc w _ = w1 at *
 obtain ⟨s9, hs9⟩ : ∃ s, s = w.heap.size := ⟨_, rfl⟩
 have HS9 := Shut.mk hs9
 rw [← hs9] at HX1 ⊢
 clear hs9
 go_cut [11, 12, 13] from 16 to 35 (fun s11 s12 s13 wx => ∃ k, s11 = .pointer (some ⟨k, 0, none⟩) ∧ s12 = .int .i64 (R.2.1 : Nat) ∧ s13 = .bool R.2.2 ∧ wx.heap[k]? = some (.cells ([] ++ [Value.int .i64 R.1.first, .int .i64 R.1.drop, .int .u32 (R.1.count : Nat), .int .u32 (R.1.last : Nat), .bool R.1.on] ++ []).toArray 92 (0, 0)) ∧ Below w1.heap.size w1 wx)
 case first =>
  obtain ⟨w5, hw5⟩ : ∃ w5, w5 = World.drew w1 := ⟨_, rfl⟩
  have HW5 := Shut.mk hw5
  have HD5 := Shut.mk (show Below w1.heap.size w1 w5 by rw [hw5]; exact (Below.refl _ _).drew)
  have HF5 := Shut.mk (HF1.out.quiet HD5.out)
  have HRS := Shut.mk (show RowS itC 2 it00 w5 A len (itemsF l) from by
   have h5 := HF5.out.it
   rw [← HLL.out, ← itemsF_len] at h5 ⊢
   exact h5.rowS (by rw [itemsF_len]; unfold maxLen; have := HLEN.out; have := HLL.out; omega))
  clear hw5
  refine wp_region_D (fun w' => Below w5.heap.size w5 w') 21 (by kernel_rfl) (show Below w5.heap.size w5 (World.drew w1) by rw [HW5.out]; exact Below.refl _ _) (fun hHeld hC => ?_)
  rw [← HW5.out] at hHeld ⊢
  refine dP 0 hC hHeld ?_; clear hC; intro hC
  refine dP 1 hC hHeld ?_; clear hC; intro hC
  refine dP 2 hC hHeld ?_; clear hC; intro hC
  refine wpAnyD_take (i := 3) (v := .agg ([Value.int .i64 c.first, .int .i64 c.drop, .int .u32 (c.count : Nat), .int .u32 (c.last : Nat), .bool c.on]).toArray) 40 rfl (by kernel_rfl) hC (by kernel_rfl) (by kernel_rfl) (by kernel_rfl) (by decide) (fun _ _ _ h => h) (yieldsIf_load_mid (by rfl) 92 (.tmp 19) rfl g (o + 4) rfl ([Value.int .i64 c.first, .int .i64 c.drop, .int .u32 (c.count : Nat), .int .u32 (c.last : Nat), .bool c.on]) _ (fun w' hSw => range_below (B := 0) (mid_range HF5.out.blk HOO.out (j := 4) (cs := [Value.int .i64 c.first, .int .i64 c.drop, .int .u32 (c.count : Nat), .int .u32 (c.last : Nat), .bool c.on]) (fun i u hu => by match i, hu with | 0, hu => exact hu | 1, hu => exact hu | 2, hu => exact hu | 3, hu => exact hu | 4, hu => exact hu)) hSw) Tryz.underlying92 rfl sizeCd) (fun _ => hHeld) ?_
  try simp only [Act.put, sG1, sG2, sG3, sG4, sG5, sG6]
  clear hC
  intro hC
  refine dP 4 hC hHeld ?_; clear hC; intro hC
  refine dP 5 hC hHeld ?_; clear hC; intro hC
  refine dP 6 hC hHeld ?_; clear hC; intro hC
  refine dP 7 hC hHeld ?_; clear hC; intro hC
  refine dP 8 hC hHeld ?_; clear hC; intro hC
  refine dP 9 hC hHeld ?_; clear hC; intro hC
  refine dT 10 hC hHeld (fun w hSw => (show w.cell? ⟨g, o + 2, none⟩ = some (.int .i64 (bytesF l)) from below_at hSw (HF5.out.cell HOO.out (j := 2) rfl))) ?_; clear hC; intro hC
  refine dP 11 hC hHeld ?_; clear hC; intro hC
  refine dP 12 hC hHeld ?_; clear hC; intro hC
  refine dP 13 hC hHeld ?_; clear hC; intro hC
  refine dT 14 hC hHeld (fun w hSw => (show w.cell? ⟨g, o + 1, none⟩ = some (.slice A len cap) from below_at hSw (HF5.out.cell HOO.out (j := 1) rfl))) ?_; clear hC; intro hC
  refine wpAnyD_all (rs := [15, 20]) (by kernel_rfl) (by simp) hC (all_cons ⟨_, rfl, fun K hK => ?_⟩ (all_cons ⟨_, rfl, fun K hK => ?_⟩ all_nil))
  ·clear hC
   go_simp
   refine (pull_any t tg iv (bytesF l) c.first c.drop c.count c.last c.on A len cap (itemsF l) w5 (HRS.out.below hHeld) HLEN.out HT.out HBY.out HXX.out HCN.out HLA.out HDR.out R HR.out).mono ?_
   rintro e' w1 ⟨rfl, hB⟩
   have hHeld2 := hHeld.trans (hB.mono hHeld.size)
   clear hB
   clear hHeld
   have hHeld := hHeld2
   clear hHeld2
   refine hK.out _ _ (fun _ => hHeld) (fun hC => ?_)
   clear hK K
   try simp only [Act.put, sG1, sG2, sG3, sG4, sG5, sG6]
   refine dP 16 hC hHeld ?_; clear hC; intro hC
   refine dP 17 hC hHeld ?_; clear hC; intro hC
   refine dP 18 hC hHeld ?_; clear hC; intro hC
   refine dP 19 hC hHeld ?_; clear hC; intro hC
   refine wpAnyD_one (i := 20) (by kernel_rfl) rfl hC (fun K hK => ?_)
   clear hC
   go_simp
   have HAw2 := Shut.mk ((Below.refl w1.heap.size w1).alloc (Nat.le_refl _) (Obj.cells #[Value.int .i64 0, .int .i64 0, .int .u32 0, .int .u32 0, Value.bool false] 92 (0, 0)))
   have HXw2 := Shut.mk (MapKept.heap_alloc w1 (Obj.cells #[Value.int .i64 0, .int .i64 0, .int .u32 0, .int .u32 0, Value.bool false] 92 (0, 0))).1
   generalize World.alloc w1 _ = w2 at *
   obtain ⟨s11, hs11⟩ : ∃ s, s = w1.heap.size := ⟨_, rfl⟩
   have HS11 := Shut.mk (show w5.heap.size ≤ s11 by rw [hs11]; exact hHeld.size)
   rw [← hs11] at HXw2 ⊢
   clear hs11
   have hHeld2 := hHeld.trans (HAw2.out.mono hHeld.size)
   clear hHeld
   have hHeld := hHeld2
   clear hHeld2
   refine hK.out _ _ (fun _ => hHeld) (fun hC => ?_)
   clear hK K
   try simp only [Act.put, sG1, sG2, sG3, sG4, sG5, sG6]
   refine wpAnyD_one (i := 21) (by kernel_rfl) rfl hC (fun K hK => ?_)
   clear hC
   refine step_store_part rfl 92 (.tmp 11) (.tmp 33) rfl s11 0 (.agg ([Value.int .i64 R.1.first, .int .i64 R.1.drop, .int .u32 (R.1.count : Nat), .int .u32 (R.1.last : Nat), .bool R.1.on]).toArray) rfl rfl 92 [] [Value.int .i64 0, .int .i64 0, .int .u32 0, .int .u32 0, Value.bool false] [Value.int .i64 R.1.first, .int .i64 R.1.drop, .int .u32 (R.1.count : Nat), .int .u32 (R.1.last : Nat), .bool R.1.on] [] HXw2.out rfl rfl rfl sizeCd (by intro u hu; simp at hu; rcases hu with rfl | rfl | rfl | rfl | rfl <;> rfl) ?_
   have HXN := Shut.mk (setRow_heap w2 s11 _ ([] ++ [Value.int .i64 R.1.first, .int .i64 R.1.drop, .int .u32 (R.1.count : Nat), .int .u32 (R.1.last : Nat), .bool R.1.on] ++ []).toArray _ (0, 0) HXw2.out)
   have HBN := Shut.mk (below_setRow hHeld HS11.out ([] ++ [Value.int .i64 R.1.first, .int .i64 R.1.drop, .int .u32 (R.1.count : Nat), .int .u32 (R.1.last : Nat), .bool R.1.on] ++ []).toArray)
   generalize hq : World.setRow w2 s11 _ = w3 at *
   clear hq
   refine hK.out _ _ (past (by kernel_rfl)) (fun hC => ?_)
   clear hK K
   try simp only [Act.put, sG1, sG2, sG3, sG4, sG5, sG6]
   refine dQ 22 hC ?_; clear hC; intro hC
   refine dQ 23 hC ?_; clear hC; intro hC
   refine wpAnyD_done (by kernel_rfl) ?_ _
   try simp only [Act.put, sG1, sG2, sG3, sG4, sG5, sG6]
   go_wp2_with (fail)
   go_meet
   case rel => exact ⟨s11, rfl, rfl, rfl, HXN.out, HD5.out.trans (HBN.out.mono HD5.out.size)⟩
  ·clear hC
   go_simp
   have HAw1 := Shut.mk ((Below.refl w5.heap.size w5).alloc (Nat.le_refl _) (Obj.cells #[Value.int .i64 0, .int .i64 0, .int .u32 0, .int .u32 0, Value.bool false] 92 (0, 0)))
   have HXw1 := Shut.mk (MapKept.heap_alloc w5 (Obj.cells #[Value.int .i64 0, .int .i64 0, .int .u32 0, .int .u32 0, Value.bool false] 92 (0, 0))).1
   generalize World.alloc w5 _ = w1 at *
   obtain ⟨s11, hs11⟩ : ∃ s, s = w5.heap.size := ⟨_, rfl⟩
   have HS11 := Shut.mk (show w5.heap.size ≤ s11 by rw [hs11]; exact hHeld.size)
   rw [← hs11] at HXw1 ⊢
   clear hs11
   have hHeld2 := hHeld.trans (HAw1.out.mono hHeld.size)
   clear hHeld
   have hHeld := hHeld2
   clear hHeld2
   refine hK.out _ _ (fun _ => hHeld) (fun hC => ?_)
   clear hK K
   try simp only [Act.put, sG1, sG2, sG3, sG4, sG5, sG6]
   refine wpAnyD_one (i := 15) (by kernel_rfl) rfl hC (fun K hK => ?_)
   clear hC
   go_simp
   refine (pull_any t tg iv (bytesF l) c.first c.drop c.count c.last c.on A len cap (itemsF l) w1 (HRS.out.below hHeld) HLEN.out HT.out HBY.out HXX.out HCN.out HLA.out HDR.out R HR.out).mono ?_
   rintro e' w2 ⟨rfl, hB⟩
   have HXw2 := Shut.mk ((hB.block _ (lt_blk HXw1.out)).trans HXw1.out)
   have hHeld2 := hHeld.trans (hB.mono hHeld.size)
   clear hB
   clear hHeld
   have hHeld := hHeld2
   clear hHeld2
   refine hK.out _ _ (fun _ => hHeld) (fun hC => ?_)
   clear hK K
   try simp only [Act.put, sG1, sG2, sG3, sG4, sG5, sG6]
   refine dP 16 hC hHeld ?_; clear hC; intro hC
   refine dP 17 hC hHeld ?_; clear hC; intro hC
   refine dP 18 hC hHeld ?_; clear hC; intro hC
   refine dP 19 hC hHeld ?_; clear hC; intro hC
   refine wpAnyD_one (i := 21) (by kernel_rfl) rfl hC (fun K hK => ?_)
   clear hC
   refine step_store_part rfl 92 (.tmp 11) (.tmp 33) rfl s11 0 (.agg ([Value.int .i64 R.1.first, .int .i64 R.1.drop, .int .u32 (R.1.count : Nat), .int .u32 (R.1.last : Nat), .bool R.1.on]).toArray) rfl rfl 92 [] [Value.int .i64 0, .int .i64 0, .int .u32 0, .int .u32 0, Value.bool false] [Value.int .i64 R.1.first, .int .i64 R.1.drop, .int .u32 (R.1.count : Nat), .int .u32 (R.1.last : Nat), .bool R.1.on] [] HXw2.out rfl rfl rfl sizeCd (by intro u hu; simp at hu; rcases hu with rfl | rfl | rfl | rfl | rfl <;> rfl) ?_
   have HXN := Shut.mk (setRow_heap w2 s11 _ ([] ++ [Value.int .i64 R.1.first, .int .i64 R.1.drop, .int .u32 (R.1.count : Nat), .int .u32 (R.1.last : Nat), .bool R.1.on] ++ []).toArray _ (0, 0) HXw2.out)
   have HBN := Shut.mk (below_setRow hHeld HS11.out ([] ++ [Value.int .i64 R.1.first, .int .i64 R.1.drop, .int .u32 (R.1.count : Nat), .int .u32 (R.1.last : Nat), .bool R.1.on] ++ []).toArray)
   generalize hq : World.setRow w2 s11 _ = w3 at *
   clear hq
   refine hK.out _ _ (past (by kernel_rfl)) (fun hC => ?_)
   clear hK K
   try simp only [Act.put, sG1, sG2, sG3, sG4, sG5, sG6]
   refine dQ 22 hC ?_; clear hC; intro hC
   refine dQ 23 hC ?_; clear hC; intro hC
   refine wpAnyD_done (by kernel_rfl) ?_ _
   try simp only [Act.put, sG1, sG2, sG3, sG4, sG5, sG6]
   go_wp2_with (fail)
   go_meet
   case rel => exact ⟨s11, rfl, rfl, rfl, HXN.out, HD5.out.trans (HBN.out.mono HD5.out.size)⟩
 case rest =>
  obtain ⟨s11, rfl, rfl, rfl, hx11, hb11⟩ := hcut
  obtain ⟨c', nn, is⟩ := R
  dsimp only at *
  have HX11 := Shut.mk (show wc.heap[s11]? = some (.cells #[Value.int .i64 c'.first, .int .i64 c'.drop, .int .u32 (c'.count : Nat), .int .u32 (c'.last : Nat), .bool c'.on] 92 (0, 0)) from hx11)
  have HFC := Shut.mk (HF1.out.quiet hb11)
  have HXC := Shut.mk ((hb11.block _ (lt_blk HX1.out)).trans HX1.out)
  have HBC := Shut.mk (HA1.out.trans (hb11.mono HA1.out.size))
  have hB4 : wc.heap[g]? = some (.cells ((pre ++ [vp, .slice A len cap, .int .i64 (bytesF l), .int .i64 df]) ++ [Value.int .i64 c.first, .int .i64 c.drop, .int .u32 (c.count : Nat), .int .u32 (c.last : Nat), .bool c.on] ++ post).toArray tq (0, 0)) := by
   have := HFC.out.blk
   simpa [fcR] using this
  have HB4 := Shut.mk hB4
  obtain ⟨w2, hw2⟩ : ∃ w2, w2 = wc.setRow g ((pre ++ [vp, .slice A len cap, .int .i64 (bytesF l), .int .i64 df]) ++ [Value.int .i64 c'.first, .int .i64 c'.drop, .int .u32 (c'.count : Nat), .int .u32 (c'.last : Nat), .bool c'.on] ++ post).toArray := ⟨_, rfl⟩
  have HW2 := Shut.mk hw2
  have e4 : ((pre ++ [vp, .slice A len cap, .int .i64 (bytesF l), .int .i64 df]) ++ [Value.int .i64 c'.first, .int .i64 c'.drop, .int .u32 (c'.count : Nat), .int .u32 (c'.last : Nat), .bool c'.on] ++ post) = pre ++ fcR vp (.slice A len cap) (bytesF l) df c' ++ post := by simp [fcR]
  have HF2 := Shut.mk (show FlB T w2 g tq pre post vp (.slice A len cap) l (itemsF l) (bytesF l) df c' by rw [hw2, e4]; exact HFC.out.store _ _ _)
  have HS2 := Shut.mk (show FlS T w g vp (.slice A len cap) T w2 vp (.slice A len cap) by rw [hw2]; exact FlS.from_ HBC.out (FlS.own _))
  have HX2 := Shut.mk (show w2.heap[s9]? = some (.cells #[Value.int .i64 0, .int .u32 0, .int .i64 0, .int .i64 0, Value.slice none 0 0] 35 (0, 0)) by
   rw [hw2]
   exact (only_setRow wc g _).at_ HXC.out (fun e => by have h1 := HF0.out.lt; have h2 := HS9.out; omega))
  have HL4 := Shut.mk (show (pre ++ [vp, .slice A len cap, .int .i64 (bytesF l), .int .i64 df]).length = o + 4 by rw [List.length_append, HOO.out]; rfl)
  clear hx11 hb11 hw2 e4 hB4
  go_wp2_with (first
   | (refine wpList_load_row rfl 92 (.tmp 11) rfl s11 rfl 92 #[Value.int .i64 c'.first, .int .i64 c'.drop, .int .u32 (c'.count : Nat), .int .u32 (c'.last : Nat), .bool c'.on] (0, 0) _ HX11.out Tryz.underlying92 rfl sizeCd ?_)
   | (refine wpList_store_part rfl 92 (.tmp 39) (.tmp 37) rfl g (o + 4) (.agg #[Value.int .i64 c'.first, .int .i64 c'.drop, .int .u32 (c'.count : Nat), .int .u32 (c'.last : Nat), .bool c'.on]) rfl rfl tq (pre ++ [vp, .slice A len cap, .int .i64 (bytesF l), .int .i64 df]) [Value.int .i64 c.first, .int .i64 c.drop, .int .u32 (c.count : Nat), .int .u32 (c.last : Nat), .bool c.on] [Value.int .i64 c'.first, .int .i64 c'.drop, .int .u32 (c'.count : Nat), .int .u32 (c'.last : Nat), .bool c'.on] post HB4.out HL4.out rfl rfl sizeCd (by intro u hu; simp at hu; rcases hu with rfl | rfl | rfl | rfl | rfl <;> rfl) ?_
      rw [show World.setRow wc g _ = w2 from HW2.out.symm]))
  go_loopw [14, 41] (fun u i wr => ∃ (k : Nat) (T2 : Nat → Prop) (vp1 vi1 : Value), k ≤ nn ∧ i = .int .i64 k ∧ OwnP T2 wr (s9 + 1) u (l.take k) ∧ FlB T wr g tq pre post vp1 vi1 (l.drop k) (itemsF (l.drop k)) (bytesF (l.drop k)) df c' ∧
   FlS T w g vp (.slice A len cap) T wr vp1 vi1 ∧ (∀ q, T2 q → s9 < q ∧ q < wr.heap.size) ∧ wr.heap[s9]? = some (.cells #[Value.int .i64 0, .int .u32 0, .int .i64 0, .int .i64 0, Value.slice none 0 0] 35 (0, 0)) ∧ vp1.ownBlock = vp.ownBlock ∧ vi1.ownBlock = (Value.slice A len cap).ownBlock) (fun _ i _ => nn - (intOf i).toNat)
  case atStart => exact ⟨0, fun _ => False, _, _, Nat.zero_le _, rfl, OwnK.nil _ _ _ _, HF2.out, HS2.out, fun q h => h.elim, HX2.out, rfl, rfl⟩
  case round =>
   obtain ⟨k, T2, vp1, vi1, hk, rfl, hown, hfl, hfs, ht2, hxr, hv1, hv2⟩ := hrel
   have HO := Shut.mk hown
   have HFR := Shut.mk hfl
   have HSR := Shut.mk hfs
   have HT2 := Shut.mk ht2
   have HXR := Shut.mk hxr
   have HV1 := Shut.mk hv1
   have HV2 := Shut.mk hv2
   have HSZ := Shut.mk (show s9 < wr.heap.size from lt_blk hxr)
   clear hown hfl hfs ht2 hxr hv1 hv2 HX2 HS2 HF2
   -- what lies in new memory is none of the flow's
   have HOLD := Shut.mk (show ∀ q, (q = g ∨ vp1.ownBlock = some q ∨ vi1.ownBlock = some q) → q < s9 from fun q hq => by
    have h2 := HS9.out
    rcases hq with h1 | h1 | h1
    ·have := HF0.out.lt; omega
    ·rw [HV1.out] at h1; have := HF0.out.pk.lt q h1; omega
    ·rw [HV2.out] at h1; have := HF0.out.it.lt q h1; omega)
   by_cases hlt : k < nn
   ·have hkl : k < l.length := by
     rcases Bool.eq_false_or_eq_true is with h1 | h1
     ·have := HBD.out.1 h1; omega
     ·have := HBD.out.2 h1; omega
    have hk3 : k < 1000 := by have := HLL.out; have := HLEN.out; omega
    have HTK := Shut.mk (take_snoc' hkl pk00.1)
    have hdr := drop_at_pk hkl
    have hpm : l.getD k pk00.1 ∈ l := by
     have : l.getD k pk00.1 = l[k] := by simp [List.getD, hkl]
     rw [this]; exact List.getElem_mem _
    have hpx := HX.out _ hpm
    have hby := bytes_in HX.out (by rw [HLL.out]; exact HLEN.out) k
    have HFR2 := HFR.out
    rw [hdr] at HFR2 hby
    have HDN := Shut.mk (show l.drop (k + 1) = l.drop (k + 1) from rfl)
    obtain ⟨r, hr⟩ : ∃ r, l.drop (k + 1) = r := ⟨_, rfl⟩
    obtain ⟨p, hp⟩ : ∃ p, l.getD k pk00.1 = p := ⟨_, rfl⟩
    have HRR := Shut.mk hr
    rw [hp] at HTK hpx hby HFR2
    rw [hr] at hby HFR2
    have HHF := Shut.mk (show FlB T wr g tq pre post vp1 vi1 (p :: r) (⟨p.at_, p.body.length⟩ :: itemsF r) (bytesF (p :: r)) df c' from HFR2)
    have HBR := Shut.mk (show bytesF (p :: r) - (p.body.length : Nat) = bytesF r by rw [bytesF_cons]; omega)
    have HPB := Shut.mk (show p.body.length ≤ 1000000000 by omega)
    have HPW := Shut.mk (show 0 ≤ bytesF (p :: r) ∧ bytesF (p :: r) ≤ 4503599627370496 by omega)
    clear hdr hpm hpx hby HFR2 HFR hr hp HDN
    go_wp2_with (fail)
    refine (shift_any T g o tq pre post vp1 vi1 p r _ (itemsF r) (bytesF (p :: r)) df c' wr HHF.out HOO.out HPB.out HPW.out).mono ?_
    rintro e' wS ⟨y, vp2, vi2, rfl, hO, hF, hS, hw1, hw2⟩
    rw [HBR.out] at hF
    have HYO := Shut.mk hO
    have HFS := Shut.mk hF
    have HSS := Shut.mk (HSR.out.trans hS)
    have HW1 := Shut.mk (hw1.trans HV1.out)
    have HW2' := Shut.mk (hw2.trans HV2.out)
    have HXS := Shut.mk (hS.only.at_ HXR.out (fun e => by have := HOLD.out _ e; omega))
    have HO2 := Shut.mk (show OwnP T2 wS (s9 + 1) u14 (l.take k) from HO.out.only hS.only (fun q hq e => by have h1 := (HO.out.lt q hq).1; have := HOLD.out _ e; omega) (fun q hq e => by have h1 := (HT2.out q hq).1; have := HOLD.out _ e; omega))
    have HSW := Shut.mk hS.only.size
    clear hO hF hS hw1 hw2
    obtain ⟨T3, hT3⟩ : ∃ T3 : Nat → Prop, T3 = fun q => T2 q ∨ y.ownBlock = some q := ⟨_, rfl⟩
    have HT3 := Shut.mk (show ∀ q, T3 q → s9 < q ∧ q < wS.heap.size from fun q hq => by
     rw [hT3] at hq
     rcases hq with h1 | h1
     ·have := HT2.out q h1; have := HSW.out; omega
     ·have := World.ownsRow.lt HYO.out q h1; have := HSZ.out; omega)
    have HO3 := Shut.mk (show OwnP T3 wS (s9 + 1) u14 (l.take k) from HO2.out.mono (fun q _ hq => by rw [hT3]; exact .inl hq) (fun q hq e => by
     rw [hT3] at e
     rcases e with h1 | h1
     ·obtain ⟨_, _, _, _, h5⟩ := HO2.out; exact h5 q hq h1
     ·have h2 := (HO.out.lt q hq).2; have h3 := (World.ownsRow.lt HYO.out q h1).1; omega))
    have HEL := Shut.mk (show ElK T3 wS y p.body from OwnV.el HYO.out (by have := HPB.out; unfold maxLen; omega) (by
     obtain ⟨_, _, _, u, _, _, _, _, _, _, hel, _⟩ := HHF.out.pk.first
     obtain ⟨_, _, _, rfl, hrb, _, _⟩ := hel
     have h1 := hrb.len
     intro i hi
     exact hrb.wf i (by omega)) (fun q hq => by rw [hT3]; exact .inr hq))
    clear hT3
    obtain ⟨ay, cy, hy, -⟩ := owns_form HYO.out
    obtain ⟨pi, pf, pt, pa, pb⟩ := p
    dsimp only at hy
    subst hy
    have HBA := Shut.mk ((Below.refl wS.heap.size wS).alloc (Nat.le_refl _) (.cells #[.int .i64 pi, .int .u32 pf, .int .i64 pt, .int .i64 pa, .slice ay pb.length cy] 35 (0, 0)))
    have HXA := Shut.mk (block_range (MapKept.heap_alloc wS (.cells #[.int .i64 pi, .int .u32 pf, .int .i64 pt, .int .i64 pa, .slice ay pb.length cy] 35 (0, 0))).1)
    have HLK := Shut.mk (show (l.take k).length ≤ 1000000 by rw [List.length_take, HLL.out]; have := HLEN.out; omega)
    unfold pkV
    dsimp only
    go_wp2_with (refine app_p T3 rfl (.tmp 43) (.tmp 46) rfl (s9 + 1) _ _ rfl (HO3.out.below HBA.out) ⟨pi, pf, pt, pa, pb⟩ (.slice ay pb.length cy) ⟨wS.heap.size, 0, none⟩ 1 rfl (fun j q hq => by rw [Addr.add_mid]; exact HXA.out j q hq) (HEL.out.below HBA.out) (fun q hq => Nat.lt_of_lt_of_le (HT3.out q hq).2 HBA.out.size) HLK.out (by have h1 := HSZ.out; have h2 := HSW.out; have h3 := HBA.out.size; omega) ?_; intro u2 wN HO4 HB4' HY4 HZ4)
    go_roundw
    case rel =>
     have hON : Only (fun q => u14.ownBlock = some q) wS wN := ((Only.refl _ wS).then_quiet HBA.out).trans HY4.out fun _ _ e => e
     refine ⟨k + 1, T3, vp2, vi2, by omega, by go_num, by rw [HTK.out]; exact HO4.out, ?_, HSS.out.over hON (fun q hq => by have h1 := (HO3.out.lt q hq).1; have := HS9.out; omega), fun q hq => ⟨(HT3.out q hq).1, Nat.lt_of_lt_of_le (HT3.out q hq).2 hON.size⟩, hON.at_ HXS.out (fun e => by have := (HO3.out.lt _ e).1; omega), HW1.out, HW2'.out⟩
     rw [HRR.out]
     refine HFS.out.only hON (fun e => ?_) (fun q hq e => ?_) (fun q hq e => ?_) (fun q hq e => ?_)
     ·have h1 := (HO3.out.lt _ e).1; have h2 := HOLD.out g (.inl rfl); omega
     ·have h1 := (HO3.out.lt _ e).1; have h2 := HOLD.out q (.inr (.inl (by rw [HV1.out, ← HW1.out]; exact hq))); omega
     ·have h1 := (HO3.out.lt _ e).1; have h2 := HOLD.out q (.inr (.inr (by rw [HV2.out, ← HW2'.out]; exact hq))); omega
     ·have h1 := (HO3.out.lt _ e).1; have h2 := HF0.out.there q hq; have h3 := HS9.out; omega
    case measure => simp [intOf]; omega
   ·have hk' : nn = k := by omega
    subst hk'
    cases is with
    | false =>
     have hnl : nn = l.length := HBD.out.2 rfl
     have hdr : l.drop nn = [] := List.drop_eq_nil_of_le (by omega)
     have hfe := HFR.out
     rw [hdr] at hfe
     have HFE := Shut.mk (show FlB T wr g tq pre post vp1 vi1 [] [] 0 df c' from hfe)
     have HZ := Shut.mk (setRow_heap wr s9 _ #[Value.int .i64 0, .int .u32 0, .int .i64 0, .int .i64 0, Value.slice none 0 0] _ (0, 0) HXR.out)
     have HOZ := Shut.mk (only_setRow wr s9 #[Value.int .i64 0, .int .u32 0, .int .i64 0, .int .i64 0, Value.slice none 0 0])
     clear hfe hdr hnl
     go_wp2_with (first
      | (refine wpList_store_row rfl 35 (.tmp 9) (.tmp 52) rfl s9 #[Value.int .i64 0, .int .u32 0, .int .i64 0, .int .i64 0, Value.slice none 0 0] rfl rfl 35 _ HXR.out size5 rfl (pkt_one _ _ _ _ _ _ _) ?_))
     have hs9 := HS9.out
     refine bodyPost_ret (v := .tuple #[u14, .agg #[Value.int .i64 0, .int .u32 0, .int .i64 0, .int .i64 0, Value.slice none 0 0], .bool false]) (results_tct (p := 8) (q := 9) (r := 10) Tryz.results68 _ _ s9 _ _ _ _ _ _ rfl rfl rfl HZ.out Tryz.underlying35 rfl size5) rfl ⟨u14, T2, .slice none 0 0, vp1, vi1, ?_, fun q hq => ⟨?_, ?_⟩, .inl ⟨rfl, rfl, ?_⟩, ?_, HV1.out, HV2.out⟩
     ·exact OwnP.base (HO.out.only HOZ.out (fun q hq e => by have := (HO.out.lt q hq).1; omega) (fun q hq e => by have := (HT2.out q hq).1; omega)) (by omega)
     ·have := (HT2.out q hq).1; omega
     ·exact Nat.lt_of_lt_of_le (HT2.out q hq).2 HOZ.out.size
     ·refine HFE.out.only HOZ.out (fun e => ?_) (fun q hq e => ?_) (fun q hq e => ?_) (fun q hq e => ?_)
      ·have := HOLD.out g (.inl rfl); omega
      ·have := HOLD.out q (.inr (.inl hq)); omega
      ·have := HOLD.out q (.inr (.inr hq)); omega
      ·have := HF0.out.there q hq; omega
     ·exact HSR.out.over HOZ.out (fun q hq => by omega)
    | true =>
     have hkl : nn < l.length := HBD.out.1 rfl
     have hdr := drop_at_pk hkl
     have hpm : l.getD nn pk00.1 ∈ l := by
      have : l.getD nn pk00.1 = l[nn] := by simp [List.getD, hkl]
      rw [this]; exact List.getElem_mem _
     have hpx := HX.out _ hpm
     have hby := bytes_in HX.out (by rw [HLL.out]; exact HLEN.out) nn
     have HFR2 := HFR.out
     rw [hdr] at HFR2 hby
     obtain ⟨r, hr⟩ : ∃ r, l.drop (nn + 1) = r := ⟨_, rfl⟩
     obtain ⟨p, hp⟩ : ∃ p, l.getD nn pk00.1 = p := ⟨_, rfl⟩
     rw [hp] at hpx hby HFR2 hdr
     rw [hr] at hby HFR2 hdr
     have HDRP := Shut.mk hdr
     have HHF := Shut.mk (show FlB T wr g tq pre post vp1 vi1 (p :: r) (⟨p.at_, p.body.length⟩ :: itemsF r) (bytesF (p :: r)) df c' from HFR2)
     have HBR := Shut.mk (show bytesF (p :: r) - (p.body.length : Nat) = bytesF r by rw [bytesF_cons]; omega)
     have HPB := Shut.mk (show p.body.length ≤ 1000000000 by omega)
     have HPW := Shut.mk (show 0 ≤ bytesF (p :: r) ∧ bytesF (p :: r) ≤ 4503599627370496 by omega)
     have HWR := Shut.mk (show IntKind.i64.wrap (df - (p.body.length : Nat)) = df - (p.body.length : Nat) from IntWalk.i64_in _ (by have := HDF.out; exact ⟨by omega, by omega⟩))
     clear hdr hpm hpx hby HFR2 HFR hr hp
     go_wp2_with (fail)
     refine (shift_any T g o tq pre post vp1 vi1 p r _ (itemsF r) (bytesF (p :: r)) df c' wr HHF.out HOO.out HPB.out HPW.out).mono ?_
     rintro e' wS ⟨y, vp2, vi2, rfl, hO, hF, hS, hw1, hw2⟩
     rw [HBR.out] at hF
     have HYO := Shut.mk hO
     have HFS := Shut.mk hF
     have HSS := Shut.mk (HSR.out.trans hS)
     have HOLD2 := Shut.mk (show ∀ q, (q = g ∨ vp2.ownBlock = some q ∨ vi2.ownBlock = some q) → q < s9 from fun q hq => HOLD.out q (by rw [hw1, hw2] at hq; exact hq))
     have HXS := Shut.mk (hS.only.at_ HXR.out (fun e => by have := HOLD.out _ e; omega))
     have HO2 := Shut.mk (show OwnP T2 wS (s9 + 1) u14 (l.take nn) from HO.out.only hS.only (fun q hq e => by have h1 := (HO.out.lt q hq).1; have := HOLD.out _ e; omega) (fun q hq e => by have h1 := (HT2.out q hq).1; have := HOLD.out _ e; omega))
     have HSW := Shut.mk hS.only.size
     have HW1 := Shut.mk (hw1.trans HV1.out)
     have HW2' := Shut.mk (hw2.trans HV2.out)
     clear hO hF hS hw1 hw2
     obtain ⟨ay, cy, hy, -⟩ := owns_form HYO.out
     obtain ⟨pi, pf, pt, pa, pb⟩ := p
     dsimp only at hy
     subst hy
     obtain ⟨s15, hs15⟩ : ∃ s, s = wS.heap.size := ⟨_, rfl⟩
     have HS15 := Shut.mk hs15
     have HA3 := Shut.mk ((Below.refl wS.heap.size wS).alloc (Nat.le_refl _) (Obj.cells #[Value.int .i64 0, .int .u32 0, .int .i64 0, .int .i64 0, Value.slice none 0 0] 35 (0, 0)))
     have HX3 := Shut.mk (show (wS.alloc (Obj.cells #[Value.int .i64 0, .int .u32 0, .int .i64 0, .int .i64 0, Value.slice none 0 0] 35 (0, 0))).heap[s15]? = some (Obj.cells #[Value.int .i64 0, .int .u32 0, .int .i64 0, .int .i64 0, Value.slice none 0 0] 35 (0, 0)) by rw [hs15]; exact (MapKept.heap_alloc wS (Obj.cells #[Value.int .i64 0, .int .u32 0, .int .i64 0, .int .i64 0, Value.slice none 0 0] 35 (0, 0))).1)
     obtain ⟨w4, hw4⟩ : ∃ w4, w4 = (wS.alloc (Obj.cells #[Value.int .i64 0, .int .u32 0, .int .i64 0, .int .i64 0, Value.slice none 0 0] 35 (0, 0))).setRow s15 #[Value.int .i64 pi, .int .u32 pf, .int .i64 pt, .int .i64 pa, Value.slice ay pb.length cy] := ⟨_, rfl⟩
     have HY4 := Shut.mk (show w4.heap[s15]? = some (Obj.cells #[Value.int .i64 pi, .int .u32 pf, .int .i64 pt, .int .i64 pa, Value.slice ay pb.length cy] 35 (0, 0)) by rw [hw4]; exact setRow_heap _ s15 _ #[Value.int .i64 pi, .int .u32 pf, .int .i64 pt, .int .i64 pa, Value.slice ay pb.length cy] _ (0, 0) HX3.out)
     have HB4 := Shut.mk (show Below wS.heap.size wS w4 by rw [hw4]; exact below_setRow HA3.out (by omega) _)
     have HW4 := Shut.mk hw4
     clear hw4 hs15
     unfold pkV
     dsimp only
     go_wp2_with (first
      | (refine wpList_store_row rfl 35 (.tmp 15) (.tmp 54) rfl s15 #[Value.int .i64 pi, .int .u32 pf, .int .i64 pt, .int .i64 pa, Value.slice ay pb.length cy] (by show Value.pointer (some ⟨wS.heap.size, 0, none⟩) = _; rw [HS15.out]) rfl 35 _ HX3.out size5 rfl (pkt_one _ _ _ _ _ _ _) ?_
         rw [show World.setRow (World.alloc wS _) s15 _ = w4 from HW4.out.symm, ← HS15.out]))
     obtain ⟨wE, hwE⟩ : ∃ wE, wE = World.drew w4 := ⟨_, rfl⟩
     have HWE := Shut.mk hwE
     have HDE := Shut.mk (show Below w4.heap.size w4 wE by rw [hwE]; exact (Below.refl _ _).drew)
     have HBE := Shut.mk (HB4.out.trans (HDE.out.mono HB4.out.size))
     have HFE := Shut.mk (HFS.out.quiet HBE.out)
     have HXE := Shut.mk ((HDE.out.block _ (lt_blk HY4.out)).trans HY4.out)
     clear hwE
     refine wp_region_D (fun w' => wE = w') 10 (by kernel_rfl) HWE.out (fun hHeld hC => ?_)
     rw [← HWE.out] at hHeld ⊢
     refine dP 0 hC hHeld ?_; clear hC; intro hC
     refine dP 1 hC hHeld ?_; clear hC; intro hC
     refine dP 2 hC hHeld ?_; clear hC; intro hC
     refine dT 3 hC hHeld (fun w hSw => (show w.cell? ⟨g, o + 3, none⟩ = some (.int .i64 df) from by rw [← hSw]; exact HFE.out.cell HOO.out (j := 3) rfl)) ?_; clear hC; intro hC
     refine dP 4 hC hHeld ?_; clear hC; intro hC
     refine dT 5 hC hHeld (fun w hSw => (show w.cell? ⟨s15, 4, none⟩ = some (.slice ay pb.length cy) from by rw [← hSw]; have := block_range HXE.out 4 _ rfl; simpa using this)) ?_; clear hC; intro hC
     refine dP 6 hC hHeld ?_; clear hC; intro hC
     refine wpAnyD_pure (i := 7) (v := ?_) rfl hC (by kernel_rfl) (by kernel_rfl) (by kernel_rfl) (by decide) (fun _ _ _ h => h) (Or.inl ⟨by rfl, ?_⟩) (fun _ => hHeld) ?_
     rotate_left
     ·intro w hSw
      have hwr := HWR.out
      clear hSw
      go_simp
      try with_reducible rfl
     try simp only [Act.put, sG1, sG2, sG3, sG4, sG5, sG6]
     clear hC
     intro hC
     refine dP 8 hC hHeld ?_; clear hC; intro hC
     refine dP 9 hC hHeld ?_; clear hC; intro hC
     refine wpAnyD_one (i := 10) (by kernel_rfl) rfl hC (fun K hK => ?_)
     clear hC
     refine step_store_fld rfl 3 (.tmp 64) (.tmp 62) rfl g o 3 (.int .i64 (df - (pb.length : Nat))) rfl rfl rfl tq pre (fcR vp2 vi2 (bytesF r) df c') (fcR vp2 vi2 (bytesF r) (df - (pb.length : Nat)) c') post HFE.out.blk HOO.out size1i (by show 3 < 9; omega) rfl ?_
     have HFG := Shut.mk (HFE.out.store (bytesF r) (df - (pb.length : Nat)) c')
     have HOGG := Shut.mk (only_setRow wE g (pre ++ fcR vp2 vi2 (bytesF r) (df - (pb.length : Nat)) c' ++ post).toArray)
     generalize hq : World.setRow wE g _ = wG at *
     clear hq
     refine hK.out _ _ (past (by kernel_rfl)) (fun hC => ?_)
     clear hK K
     try simp only [Act.put, sG1, sG2, sG3, sG4, sG5, sG6]
     refine wpAnyD_done (by kernel_rfl) ?_ _
     try simp only [Act.put, sG1, sG2, sG3, sG4, sG5, sG6]
     clear hHeld hC
     go_wp2_with (fail)
     have HXG := Shut.mk (HOGG.out.at_ HXE.out (fun e => by have h1 := HOLD.out g (.inl rfl); have h2 := HS15.out; have h3 := HSZ.out; have h4 := HSW.out; omega))
     have HNG := Shut.mk (show Only (· = g) wS wG from (Only.of_quiet HBE.out).trans HOGG.out fun _ _ e => e)
     obtain ⟨wH, hwH⟩ : ∃ wH, wH = World.drew wG := ⟨_, rfl⟩
     have HWH := Shut.mk hwH
     have HDH := Shut.mk (show Below wG.heap.size wG wH by rw [hwH]; exact (Below.refl _ _).drew)
     have HXH := Shut.mk ((HDH.out.block _ (lt_blk HXG.out)).trans HXG.out)
     have HNH := Shut.mk (HNG.out.then_quiet HDH.out)
     have HRH := Shut.mk (HNH.out.at_ HXS.out (fun e => by have h1 := HOLD.out g (.inl rfl); omega))
     clear hwH
     refine wp_region_D (fun w' => wH = w') 3 (by kernel_rfl) HWH.out (fun hHeld hC => ?_)
     rw [← HWH.out] at hHeld ⊢
     refine dP 0 hC hHeld ?_; clear hC; intro hC
     refine wpAnyD_take (i := 1) (v := .agg ([Value.int .i64 pi, .int .u32 pf, .int .i64 pt, .int .i64 pa, Value.slice ay pb.length cy]).toArray) 40 rfl (by kernel_rfl) hC (by kernel_rfl) (by kernel_rfl) (by kernel_rfl) (by decide) (fun _ _ _ h => h) (yieldsIf_load_mid (by rfl) 35 (.tmp 15) rfl s15 (0) rfl ([Value.int .i64 pi, .int .u32 pf, .int .i64 pt, .int .i64 pa, Value.slice ay pb.length cy]) _ (fun w' hSw => by rw [← hSw]; exact block_range HXH.out) Tryz.underlying35 rfl size5) (fun _ => hHeld) ?_
     try simp only [Act.put, sG1, sG2, sG3, sG4, sG5, sG6]
     clear hC
     intro hC
     refine dP 2 hC hHeld ?_; clear hC; intro hC
     refine wpAnyD_one (i := 3) (by kernel_rfl) rfl hC (fun K hK => ?_)
     clear hC
     refine step_store_part rfl 35 (.tmp 9) (.tmp 66) rfl s9 0 (.agg #[Value.int .i64 pi, .int .u32 pf, .int .i64 pt, .int .i64 pa, Value.slice ay pb.length cy]) rfl rfl 35 [] [Value.int .i64 0, .int .u32 0, .int .i64 0, .int .i64 0, Value.slice none 0 0] [Value.int .i64 pi, .int .u32 pf, .int .i64 pt, .int .i64 pa, Value.slice ay pb.length cy] [] HRH.out rfl rfl rfl size5 (by intro u hu; simp at hu; rcases hu with rfl | rfl | rfl | rfl | rfl <;> rfl) ?_
     have HRZ := Shut.mk (setRow_heap wH s9 _ ([] ++ [Value.int .i64 pi, .int .u32 pf, .int .i64 pt, .int .i64 pa, Value.slice ay pb.length cy] ++ []).toArray _ (0, 0) HRH.out)
     have HOZ := Shut.mk (only_setRow wH s9 ([] ++ [Value.int .i64 pi, .int .u32 pf, .int .i64 pt, .int .i64 pa, Value.slice ay pb.length cy] ++ []).toArray)
     generalize hq : World.setRow wH s9 _ = wZ at *
     clear hq
     refine hK.out _ _ (past (by kernel_rfl)) (fun hC => ?_)
     clear hK K
     try simp only [Act.put, sG1, sG2, sG3, sG4, sG5, sG6]
     refine dQ 4 hC ?_; clear hC; intro hC
     refine wpAnyD_done (by kernel_rfl) ?_ _
     try simp only [Act.put, sG1, sG2, sG3, sG4, sG5, sG6]
     clear hHeld hC
     go_wp2_with (fail)
     have hs9 := HS9.out
     have HNZ := Shut.mk (show Only (fun q => q = g ∨ q = s9) wS wZ from (HNH.out.mono fun _ _ e => .inl e).trans HOZ.out fun _ _ e => .inr e)
     have hgs := HOLD.out g (.inl rfl)
     refine bodyPost_ret (v := .tuple #[u14, .agg #[Value.int .i64 pi, .int .u32 pf, .int .i64 pt, .int .i64 pa, Value.slice ay pb.length cy], .bool true]) (results_tct (p := 8) (q := 9) (r := 10) Tryz.results68 _ _ s9 _ #[Value.int .i64 pi, .int .u32 pf, .int .i64 pt, .int .i64 pa, Value.slice ay pb.length cy] _ _ _ _ rfl rfl rfl HRZ.out Tryz.underlying35 rfl size5) rfl ⟨u14, T2, .slice ay pb.length cy, vp2, vi2, ?_, fun q hq => ⟨?_, ?_⟩, .inr ⟨rfl, ⟨pi, pf, pt, pa, pb⟩, r, HDRP.out, rfl, ?_, fun q hq => ⟨fun e => ?_, fun e => ?_⟩, ?_⟩, ?_, HW1.out, HW2'.out⟩
     ·exact OwnP.base (HO2.out.only HNZ.out (fun q hq e => by have := (HO2.out.lt q hq).1; omega) (fun q hq e => by have := (HT2.out q hq).1; omega)) (by omega)
     ·have := (HT2.out q hq).1; omega
     ·have h1 := (HT2.out q hq).2; have h2 := HSW.out; have h3 := HNZ.out.size; omega
     ·exact owns_base (owns_only HYO.out HNZ.out (fun q hq e => by have h1 := (World.ownsRow.lt HYO.out q hq).1; have := HSZ.out; omega)) (by have := HSR.out.only.size; exact this)
     ·have h1 := (World.ownsRow.lt HYO.out q hq).1; have h2 := (HT2.out q e).2; omega
     ·have h1 := (World.ownsRow.lt HYO.out q hq).1; have h2 := (HO.out.lt q e).2; omega
     ·refine (HFG.out.quiet HDH.out).only HOZ.out (fun e => ?_) (fun q hq e => ?_) (fun q hq e => ?_) (fun q hq e => ?_)
      ·omega
      ·have := HOLD2.out q (.inr (.inl hq)); omega
      ·have := HOLD2.out q (.inr (.inr hq)); omega
      ·have := HF0.out.there q hq; omega
     ·have o1 : FlS T wE g vp2 vi2 T wG vp2 vi2 := ⟨HOGG.out.mono fun _ _ e => .inl e, fun k h => .inl h, fun k h => .inl h, fun k h => .inl h, fun k h => h⟩
      exact (((HSS.out.quiet HBE.out).trans o1).quiet HDH.out).over HOZ.out (fun q hq => by omega)
end Go.Proofs.YtndkmgcmegcieaaGreatDoor
