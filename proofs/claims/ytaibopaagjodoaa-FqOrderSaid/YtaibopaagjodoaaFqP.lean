/-
  CONTRACTS of fq's New, turn, join, leave (of a queue), Put.
-/
import Derived.Test.YtaibopaagjodoaaFqL
namespace Go.Proofs.Ytaibopaagjodoaa
open Go.ChangeShapes Go.WideShapes Go.ChangeAt Go.RowKit Go.Deep
set_option linter.unusedVariables false
set_option linter.unusedSimpArgs false

def cdZ : Cd := ⟨0, 0, 0, 0, false⟩
def flZ : Fl := ⟨[], 0, cdZ⟩
def quZ : Qu := ⟨fun _ => flZ, [], []⟩
def VZ : Nat → Value := fun _ => .slice none 0 0
set_option maxRecDepth 100000 in
set_option maxHeartbeats 8000000 in
theorem new_any (seed tg iv : Int) (w : World) :
    Calls Try.prog 10 #[.int .u32 seed, .int .i64 tg, .int .i64 iv] w fun e w' => e = .returned (.pointer (some ⟨w.heap.size, 0, none⟩)) ∧ IsCq (fun _ => False) w' ⟨w.heap.size, seed, tg, iv⟩ VZ quZ ∧ Below w.heap.size w w' := by
  have HB := Shut.mk ((Below.refl w.heap.size w).alloc (Nat.le_refl _) (.cells (cqC ⟨w.heap.size, seed, tg, iv⟩ VZ quZ.fl).toArray 72 (0, 0)))
  have HX := Shut.mk (MapKept.heap_alloc w (.cells (cqC ⟨w.heap.size, seed, tg, iv⟩ VZ quZ.fl).toArray 72 (0, 0))).1
  go_enter Try.func10, Try.ntmps10
  go_wp2
  go_ret
  refine ⟨rfl, ⟨HX.out, fun b _ => RowPk.nil _ _, fun b _ => RowIt.nil _, RowN.nil _, RowN.nil _, fun i _ j _ _ k hk => (by cases hk), fun i _ k hk => (by cases hk), fun k hk => hk.elim, fun h => h⟩, HB.out⟩

theorem natsI_len (l : List Nat) : (natsI l).length = l.length := by simp [natsI]
theorem natsI_snoc (l : List Nat) (b : Nat) : natsI (l ++ [b]) = natsI l ++ [(b : Int)] := by simp [natsI]
theorem natsI_mem {l : List Nat} {b : Nat} : (b : Int) ∈ natsI l ↔ b ∈ l := by
  unfold natsI
  rw [List.mem_map]
  constructor
  · rintro ⟨a, ha, e⟩
    have : a = b := by omega
    rwa [← this]
  · exact fun h => ⟨b, h, rfl⟩
theorem natsI_in {l : List Nat} (h : ∀ b ∈ l, b < 16) : ∀ x ∈ natsI l, -9223372036854775808 ≤ x ∧ x ≤ 9223372036854775807 := fun x hx => by
  obtain ⟨b, hb, rfl⟩ := List.mem_map.1 hx
  have := h b hb
  omega
/-- which list has its turn. -/
def turnI (q : Qu) : Nat := if q.fresh = [] then 1 else 0
set_option maxRecDepth 100000 in
set_option maxHeartbeats 8000000 in
theorem turn_any (T : Nat → Prop) (w : World) (x : Rq) (V : Nat → Value) (q : Qu) (h : IsCq T w x V q) :
    Calls Try.prog 46 #[.pointer (some ⟨x.g, 0, none⟩)] w fun e w' => e = .returned (.int .i64 (turnI q : Nat)) ∧ w = w' := by
  obtain ⟨A, cap, hv, -, -⟩ := h.fr.form
  rw [natsI_len] at hv
  have hc := h.cells.1
  rw [hv] at hc
  clear h hv
  obtain ⟨n, hn⟩ : ∃ n, q.fresh.length = n := ⟨_, rfl⟩
  rw [hn] at hc
  by_cases h0 : n = 0
  · have HE := Shut.mk (show turnI q = 1 by unfold turnI; rw [if_pos (List.eq_nil_of_length_eq_zero (by omega))])
    subst h0
    clear hn
    go_enter Try.func46, Try.ntmps46
    go_wp2
    go_ret
    exact ⟨ret_int (by rw [HE.out]; rfl), rfl⟩
  · have HE := Shut.mk (show turnI q = 0 by unfold turnI; rw [if_neg (fun e => h0 (by rw [← hn, e]; rfl))])
    have hp : 0 < n := by omega
    have hp' : (0 : Int) < (n : Int) := by omega
    clear hn h0
    go_enter Try.func46, Try.ntmps46
    go_wp2
    go_ret
    exact ⟨ret_int (by rw [HE.out]; rfl), rfl⟩

theorem joinq0_any (T : Nat → Prop) (w : World) (x : Rq) (V : Nat → Value) (q : Qu) (h : IsCq T w x V q) (hl : q.fresh.length ≤ 1000) (b : Nat) :
    Calls Try.prog 44 #[.pointer (some ⟨x.g, 0, none⟩), .int .i64 0, .int .i64 (b : Nat)] w fun e w' => e = .returned (.tuple #[]) ∧ ∃ V', IsCq T w' x V' ⟨q.fl, q.fresh ++ [b], q.elder⟩ ∧ CqS T w x V T w' V' := by
  obtain ⟨pre, hp, hc, hback⟩ := cq_lists x V q.fl
  have hb := h.blk
  rw [hc] at hb
  refine (join0_any x.g _ pre (V 32) (V 33) (natsI q.fresh) b w hb hp h.fr (fun k hk => (h.apart 32 (by omega) k hk).1) (by rw [natsI_len]; omega)).mono ?_
  rintro e w' ⟨rfl, v', hb', hr, ho, hv⟩
  have e2 := hback (updF V 32 v') (fun k hk => updF_other _ _ (by omega))
  rw [updF_same, updF_other _ _ (show 33 ≠ 32 by omega)] at e2
  obtain ⟨h1, h2⟩ := h.put_list (q' := ⟨q.fl, q.fresh ++ [b], q.elder⟩) (j := 32) (by omega) rfl (by rw [e2]; exact hb') (fun _ => ⟨by show RowN w' v' (natsI (q.fresh ++ [b])); rw [natsI_snoc]; exact hr, rfl⟩) (fun e => by omega) ho hv
  exact ⟨rfl, _, h1, h2⟩
theorem leaveq0_any (T : Nat → Prop) (w : World) (x : Rq) (V : Nat → Value) (q : Qu) (h : IsCq T w x V q) (b : Nat) (r : List Nat) (hq : q.fresh = b :: r) (hl : r.length ≤ 1000) :
    Calls Try.prog 47 #[.pointer (some ⟨x.g, 0, none⟩), .int .i64 0] w fun e w' => e = .returned (.int .i64 (b : Nat)) ∧ ∃ V', IsCq T w' x V' ⟨q.fl, r, q.elder⟩ ∧ CqS T w x V T w' V' := by
  obtain ⟨pre, hp, hc, hback⟩ := cq_lists x V q.fl
  have hb := h.blk
  rw [hc] at hb
  have hrow : RowN w (V 32) ((b : Int) :: natsI r) := by have := h.fr; rw [hq] at this; exact this
  refine (leave0_any x.g _ pre (V 32) (V 33) (b : Int) (natsI r) w hb hp hrow (fun k hk => (h.apart 32 (by omega) k hk).1) (by rw [natsI_len]; omega)).mono ?_
  rintro e w' ⟨rfl, v', hb', hr, ho, hv⟩
  have e2 := hback (updF V 32 v') (fun k hk => updF_other _ _ (by omega))
  rw [updF_same, updF_other _ _ (show 33 ≠ 32 by omega)] at e2
  obtain ⟨h1, h2⟩ := h.put_list (q' := ⟨q.fl, r, q.elder⟩) (j := 32) (by omega) rfl (by rw [e2]; exact hb') (fun _ => ⟨hr, rfl⟩) (fun e => by omega) ho (fun k hk => .inl (hv ▸ hk))
  exact ⟨rfl, _, h1, h2⟩

theorem joinq1_any (T : Nat → Prop) (w : World) (x : Rq) (V : Nat → Value) (q : Qu) (h : IsCq T w x V q) (hl : q.elder.length ≤ 1000) (b : Nat) :
    Calls Try.prog 44 #[.pointer (some ⟨x.g, 0, none⟩), .int .i64 1, .int .i64 (b : Nat)] w fun e w' => e = .returned (.tuple #[]) ∧ ∃ V', IsCq T w' x V' ⟨q.fl, q.fresh, q.elder ++ [b]⟩ ∧ CqS T w x V T w' V' := by
  obtain ⟨pre, hp, hc, hback⟩ := cq_lists x V q.fl
  have hb := h.blk
  rw [hc] at hb
  refine (join1_any x.g _ pre (V 32) (V 33) (natsI q.elder) b w hb hp h.el (fun k hk => (h.apart 33 (by omega) k hk).1) (by rw [natsI_len]; omega)).mono ?_
  rintro e w' ⟨rfl, v', hb', hr, ho, hv⟩
  have e2 := hback (updF V 33 v') (fun k hk => updF_other _ _ (by omega))
  rw [updF_other _ _ (show 32 ≠ 33 by omega), updF_same] at e2
  obtain ⟨h1, h2⟩ := h.put_list (q' := ⟨q.fl, q.fresh, q.elder ++ [b]⟩) (j := 33) (by omega) rfl (by rw [e2]; exact hb') (fun e => by omega) (fun _ => ⟨by show RowN w' v' (natsI (q.elder ++ [b])); rw [natsI_snoc]; exact hr, rfl⟩) ho hv
  exact ⟨rfl, _, h1, h2⟩
theorem leaveq1_any (T : Nat → Prop) (w : World) (x : Rq) (V : Nat → Value) (q : Qu) (h : IsCq T w x V q) (b : Nat) (r : List Nat) (hq : q.elder = b :: r) (hl : r.length ≤ 1000) :
    Calls Try.prog 47 #[.pointer (some ⟨x.g, 0, none⟩), .int .i64 1] w fun e w' => e = .returned (.int .i64 (b : Nat)) ∧ ∃ V', IsCq T w' x V' ⟨q.fl, q.fresh, r⟩ ∧ CqS T w x V T w' V' := by
  obtain ⟨pre, hp, hc, hback⟩ := cq_lists x V q.fl
  have hb := h.blk
  rw [hc] at hb
  have hrow : RowN w (V 33) ((b : Int) :: natsI r) := by have := h.el; rw [hq] at this; exact this
  refine (leave1_any x.g _ pre (V 32) (V 33) (b : Int) (natsI r) w hb hp hrow (fun k hk => (h.apart 33 (by omega) k hk).1) (by rw [natsI_len]; omega)).mono ?_
  rintro e w' ⟨rfl, v', hb', hr, ho, hv⟩
  have e2 := hback (updF V 33 v') (fun k hk => updF_other _ _ (by omega))
  rw [updF_other _ _ (show 32 ≠ 33 by omega), updF_same] at e2
  obtain ⟨h1, h2⟩ := h.put_list (q' := ⟨q.fl, q.fresh, r⟩) (j := 33) (by omega) rfl (by rw [e2]; exact hb') (fun e => by omega) (fun _ => ⟨hr, rfl⟩) ho (fun k hk => .inl (hv ▸ hk))
  exact ⟨rfl, _, h1, h2⟩

def bkQ (s : BitVec 32) (f : Int) : Nat := bkt (BitVec.ofInt 32 f) s
theorem bkQ_uv (s a : BitVec 32) : bkQ s (uv a) = bkt a s := by
  unfold bkQ uv
  congr 1
  simp
theorem bkQ_lt (s : BitVec 32) (f : Int) : bkQ s f < 16 := bkt_lt _ _
set_option maxRecDepth 100000 in
set_option maxHeartbeats 8000000 in
theorem put_any (sd : BitVec 32) (T : Nat → Prop) (w : World) (x : Rq) (V : Nat → Value) (q : Qu) (h : IsCq T w x V q) (hsd : x.seed = uv sd) (p : Pk) (A : Option Addr) (m cp : Nat) (hb : RowB .u8 w A m p.body) (hm : m ≤ 1000000)
    (hf : 0 ≤ p.flow ∧ p.flow ≤ 4294967295) (hlen : ∀ b, b < 16 → (q.fl b).pk.length ≤ 10000) (hbd : ∀ b, b < 16 → ∀ y ∈ (q.fl b).pk, y.body.length ≤ 1000000) (hfr : q.fresh.length ≤ 1000) (her : q.elder.length ≤ 1000) (hin : ∀ b ∈ q.fresh ++ q.elder, b < 16) :
    Calls Try.prog 14 #[.pointer (some ⟨x.g, 0, none⟩), pkV p (.slice A m cp)] w fun e w' => e = .returned (.int .i64 (bkQ sd p.flow : Nat)) ∧ ∃ T' V', IsCq T' w' x V' (putQ (bkQ sd) q p) ∧ CqS T w x V T' w' V' := by
  obtain ⟨pi, pf, pt, pa, pb⟩ := p
  dsimp only at *
  obtain ⟨fa, rfl⟩ := uv_of hf.1 hf.2
  rw [bkQ_uv]
  have HPQ := Shut.mk (show bkQ sd (uv fa) = bkt fa sd from bkQ_uv sd fa)
  obtain ⟨b, hbb⟩ : ∃ b, bkt fa sd = b := ⟨_, rfl⟩
  have HBB := Shut.mk hbb
  have hb16 : b < 16 := by rw [← hbb]; exact bkt_lt _ _
  rw [hbb] at HPQ ⊢
  have hbi : (b : Int) < 16 := by omega
  have HM := Shut.mk (show m ≤ 1000000000 by omega)
  have HSD := Shut.mk hsd
  have HLN := Shut.mk (show (q.fl b).pk.length ≤ 1000000 by have := hlen b hb16; omega)
  have HLI := Shut.mk (show (itemsF (q.fl b).pk).length ≤ 1000000 by rw [itemsF_len]; have := hlen b hb16; omega)
  have HBY := Shut.mk (show 0 ≤ bytesF (q.fl b).pk ∧ bytesF (q.fl b).pk ≤ 4503599627370496 by
    have h1 := bytes_low _ (hbd b hb16)
    have h2 := hlen b hb16
    omega)
  have HFR := Shut.mk hfr
  have HER := Shut.mk her
  have HIN := Shut.mk hin
  have HQ0 := Shut.mk h
  have HLB := Shut.mk hb.len
  have HA1 := Shut.mk ((Below.refl w.heap.size w).alloc (Nat.le_refl _) (Obj.cells #[Value.int .i64 pi, .int .u32 (uv fa), .int .i64 pt, .int .i64 pa, Value.slice A m cp] 32 (0, 0)))
  have HX1 := Shut.mk (MapKept.heap_alloc w (Obj.cells #[Value.int .i64 pi, .int .u32 (uv fa), .int .i64 pt, .int .i64 pa, Value.slice A m cp] 32 (0, 0))).1
  have HRB1 := Shut.mk (hb.below HA1.out)
  clear hbb hsd hlen hbd hfr her hin h hb hm hf
  unfold pkV
  dsimp only
  go_enter Try.func14, Try.ntmps14
  go_wp2_with (fail)
  generalize World.alloc w _ = w1 at *
  obtain ⟨s0, hs0⟩ : ∃ s, s = w.heap.size := ⟨_, rfl⟩
  have HS0 := Shut.mk hs0
  rw [← hs0] at HX1 ⊢
  clear hs0
  obtain ⟨w5, hw5⟩ : ∃ w5, w5 = World.drew w1 := ⟨_, rfl⟩
  have HW5 := Shut.mk hw5
  have HD5 := Shut.mk (show Below w1.heap.size w1 w5 by rw [hw5]; exact (Below.refl _ _).drew)
  have HX5 := Shut.mk ((HD5.out.block _ (lt_blk HX1.out)).trans HX1.out)
  have HQ5 := Shut.mk ((HQ0.out.quiet HA1.out).quiet HD5.out)
  have HRB5 := Shut.mk (HRB1.out.below HD5.out)
  clear hw5
  refine wp_region_D (fun w' => w5 = w') 6 (by kernel_rfl) HW5.out (fun hHeld hC => ?_)
  rw [← HW5.out] at hHeld ⊢
  refine wpAnyD_pure (i := 0) (v := ?_) rfl hC (by kernel_rfl) (by kernel_rfl) (by kernel_rfl) (by decide) (fun _ _ _ h => h) (Or.inl ⟨by rfl, ?_⟩) (fun _ => hHeld) ?_
  rotate_left
  · intro w hSw
    clear hSw
    go_simp
    try with_reducible rfl
  try simp only [Act.put, List.getElem_toArray, List.getElem_cons_zero, List.getElem_cons_succ, List.setIfInBounds_toArray, List.set_cons_zero, List.set_cons_succ]
  clear hC
  intro hC
  refine wpAnyD_take (i := 1) (v := ?_) 40 rfl (by kernel_rfl) hC (by kernel_rfl) (by kernel_rfl) (by kernel_rfl) (by decide) (fun _ _ _ h => h) (Or.inl ⟨by rfl, ?_⟩) (fun _ => hHeld) ?_
  rotate_left
  · intro w hSw
    have hz := (show w.cell? ⟨s0, 1, none⟩ = some (.int .u32 (uv fa)) from by rw [← hSw]; have := block_range HX5.out 1 _ rfl; simpa using this)
    clear hSw
    go_simp
    try with_reducible rfl
  try simp only [Act.put, List.getElem_toArray, List.getElem_cons_zero, List.getElem_cons_succ, List.setIfInBounds_toArray, List.set_cons_zero, List.set_cons_succ]
  clear hC
  intro hC
  refine wpAnyD_pure (i := 2) (v := ?_) rfl hC (by kernel_rfl) (by kernel_rfl) (by kernel_rfl) (by decide) (fun _ _ _ h => h) (Or.inl ⟨by rfl, ?_⟩) (fun _ => hHeld) ?_
  rotate_left
  · intro w hSw
    clear hSw
    go_simp
    try with_reducible rfl
  try simp only [Act.put, List.getElem_toArray, List.getElem_cons_zero, List.getElem_cons_succ, List.setIfInBounds_toArray, List.set_cons_zero, List.set_cons_succ]
  clear hC
  intro hC
  refine wpAnyD_pure (i := 3) (v := ?_) rfl hC (by kernel_rfl) (by kernel_rfl) (by kernel_rfl) (by decide) (fun _ _ _ h => h) (Or.inl ⟨by rfl, ?_⟩) (fun _ => hHeld) ?_
  rotate_left
  · intro w hSw
    clear hSw
    go_simp
    try with_reducible rfl
  try simp only [Act.put, List.getElem_toArray, List.getElem_cons_zero, List.getElem_cons_succ, List.setIfInBounds_toArray, List.set_cons_zero, List.set_cons_succ]
  clear hC
  intro hC
  refine wpAnyD_pure (i := 4) (v := ?_) rfl hC (by kernel_rfl) (by kernel_rfl) (by kernel_rfl) (by decide) (fun _ _ _ h => h) (Or.inl ⟨by rfl, ?_⟩) (fun _ => hHeld) ?_
  rotate_left
  · intro w hSw
    clear hSw
    go_simp
    try with_reducible rfl
  try simp only [Act.put, List.getElem_toArray, List.getElem_cons_zero, List.getElem_cons_succ, List.setIfInBounds_toArray, List.set_cons_zero, List.set_cons_succ]
  clear hC
  intro hC
  refine wpAnyD_take (i := 5) (v := ?_) 40 rfl (by kernel_rfl) hC (by kernel_rfl) (by kernel_rfl) (by kernel_rfl) (by decide) (fun _ _ _ h => h) (Or.inl ⟨by rfl, ?_⟩) (fun _ => hHeld) ?_
  rotate_left
  · intro w hSw
    have hz := (show w.cell? ⟨x.g, 0, none⟩ = some (.int .u32 (uv sd)) from by rw [← hSw, ← HSD.out]; exact HQ5.out.head.1)
    clear hSw
    go_simp
    try with_reducible rfl
  try simp only [Act.put, List.getElem_toArray, List.getElem_cons_zero, List.getElem_cons_succ, List.setIfInBounds_toArray, List.set_cons_zero, List.set_cons_succ]
  clear hC
  intro hC
  refine wpAnyD_one (i := 6) (by kernel_rfl) rfl hC (fun K hK => ?_)
  clear hC
  go_simp
  refine (bucket_any fa sd _).mono ?_
  rintro e' wn ⟨rfl, rfl⟩
  rw [HBB.out]
  refine hK.out _ _ (past (by kernel_rfl)) (fun hC => ?_)
  clear hK K
  try simp only [Act.put, List.getElem_toArray, List.getElem_cons_zero, List.getElem_cons_succ, List.setIfInBounds_toArray, List.set_cons_zero, List.set_cons_succ]
  refine wpAnyD_pure (i := 7) (v := ?_) rfl hC (by kernel_rfl) (by kernel_rfl) (by kernel_rfl) (by decide) (fun _ _ _ h => h) (Or.inl ⟨by rfl, ?_⟩) (past (by kernel_rfl)) ?_
  rotate_left
  · intro w hSw
    clear hSw
    go_simp
    try with_reducible rfl
  try simp only [Act.put, List.getElem_toArray, List.getElem_cons_zero, List.getElem_cons_succ, List.setIfInBounds_toArray, List.set_cons_zero, List.set_cons_succ]
  clear hC
  intro hC
  refine wpAnyD_done (by kernel_rfl) ?_ _
  try simp only [Act.put, List.getElem_toArray, List.getElem_cons_zero, List.getElem_cons_succ, List.setIfInBounds_toArray, List.set_cons_zero, List.set_cons_succ]
  clear hHeld hC
  obtain ⟨w6, hw6⟩ : ∃ w6, w6 = World.drew w5 := ⟨_, rfl⟩
  have HW6 := Shut.mk hw6
  have HD6 := Shut.mk (show Below w5.heap.size w5 w6 by rw [hw6]; exact (Below.refl _ _).drew)
  have HX6 := Shut.mk ((HD6.out.block _ (lt_blk HX5.out)).trans HX5.out)
  have HQ6 := Shut.mk (HQ5.out.quiet HD6.out)
  have HRB6 := Shut.mk (HRB5.out.below HD6.out)
  have HB6 := Shut.mk (HA1.out.trans ((HD5.out.trans (HD6.out.mono HD5.out.size)).mono HA1.out.size))
  clear hw6
  obtain ⟨pre, post, hpre, hsp, hback⟩ := cq_split x V q.fl hb16
  have HPR := Shut.mk hpre
  have HFL := Shut.mk (HQ6.out.flow hb16 hsp)
  have HBK := Shut.mk hback
  clear hpre hsp hback
  go_wp2_with (fail)
  refine wp_region_D (fun w' => w6 = w') 6 (by kernel_rfl) HW6.out (fun hHeld hC => ?_)
  rw [← HW6.out] at hHeld ⊢
  refine wpAnyD_pure (i := 0) (v := ?_) rfl hC (by kernel_rfl) (by kernel_rfl) (by kernel_rfl) (by decide) (fun _ _ _ h => h) (Or.inl ⟨by rfl, ?_⟩) (fun _ => hHeld) ?_
  rotate_left
  · intro w hSw
    clear hSw
    go_simp
    try with_reducible rfl
  try simp only [Act.put, List.getElem_toArray, List.getElem_cons_zero, List.getElem_cons_succ, List.setIfInBounds_toArray, List.set_cons_zero, List.set_cons_succ]
  clear hC
  intro hC
  refine wpAnyD_pure (i := 1) (v := ?_) rfl hC (by kernel_rfl) (by kernel_rfl) (by kernel_rfl) (by decide) (fun _ _ _ h => h) (Or.inl ⟨by rfl, ?_⟩) (fun _ => hHeld) ?_
  rotate_left
  · intro w hSw
    clear hSw
    go_simp
    try with_reducible rfl
  try simp only [Act.put, List.getElem_toArray, List.getElem_cons_zero, List.getElem_cons_succ, List.setIfInBounds_toArray, List.set_cons_zero, List.set_cons_succ]
  clear hC
  intro hC
  refine wpAnyD_pure (i := 2) (v := ?_) rfl hC (by kernel_rfl) (by kernel_rfl) (by kernel_rfl) (by decide) (fun _ _ _ h => h) (Or.inl ⟨by rfl, ?_⟩) (fun _ => hHeld) ?_
  rotate_left
  · intro w hSw
    clear hSw
    go_simp
    try with_reducible rfl
  try simp only [Act.put, List.getElem_toArray, List.getElem_cons_zero, List.getElem_cons_succ, List.setIfInBounds_toArray, List.set_cons_zero, List.set_cons_succ]
  clear hC
  intro hC
  refine wpAnyD_pure (i := 3) (v := ?_) rfl hC (by kernel_rfl) (by kernel_rfl) (by kernel_rfl) (by decide) (fun _ _ _ h => h) (Or.inl ⟨by rfl, ?_⟩) (fun _ => hHeld) ?_
  rotate_left
  · intro w hSw
    clear hSw
    go_simp
    try with_reducible rfl
  try simp only [Act.put, List.getElem_toArray, List.getElem_cons_zero, List.getElem_cons_succ, List.setIfInBounds_toArray, List.set_cons_zero, List.set_cons_succ]
  clear hC
  intro hC
  refine wpAnyD_pure (i := 4) (v := ?_) rfl hC (by kernel_rfl) (by kernel_rfl) (by kernel_rfl) (by decide) (fun _ _ _ h => h) (Or.inl ⟨by rfl, ?_⟩) (fun _ => hHeld) ?_
  rotate_left
  · intro w hSw
    clear hSw
    go_simp
    try with_reducible rfl
  try simp only [Act.put, List.getElem_toArray, List.getElem_cons_zero, List.getElem_cons_succ, List.setIfInBounds_toArray, List.set_cons_zero, List.set_cons_succ]
  clear hC
  intro hC
  refine wpAnyD_take (i := 5) (v := .agg ([Value.int .i64 pi, .int .u32 (uv fa), .int .i64 pt, .int .i64 pa, Value.slice A m cp]).toArray) 40 rfl (by kernel_rfl) hC (by kernel_rfl) (by kernel_rfl) (by kernel_rfl) (by decide) (fun _ _ _ h => h) (yieldsIf_load_mid (by rfl) 32 (.tmp 3) rfl s0 (0) rfl ([Value.int .i64 pi, .int .u32 (uv fa), .int .i64 pt, .int .i64 pa, Value.slice A m cp]) _ (fun w' hSw => by rw [← hSw]; exact block_range HX6.out) Try.underlying32 rfl size5) (fun _ => hHeld) ?_
  try simp only [Act.put, List.getElem_toArray, List.getElem_cons_zero, List.getElem_cons_succ, List.setIfInBounds_toArray, List.set_cons_zero, List.set_cons_succ]
  clear hC
  intro hC
  refine wpAnyD_one (i := 6) (by kernel_rfl) rfl hC (fun K hK => ?_)
  clear hC
  go_simp
  refine (add_any T x.g (3 + b * 9) _ pre post (V b) (V (16 + b)) (q.fl b).pk (itemsF (q.fl b).pk) (bytesF (q.fl b).pk) (q.fl b).df (q.fl b).cd ⟨pi, uv fa, pt, pa, pb⟩ A m cp _ HFL.out HPR.out HRB6.out HM.out HLN.out HLI.out HBY.out).mono ?_
  rintro e' w7 ⟨rfl, T', vp', vi', hF, hS⟩
  have HF7 := Shut.mk hF
  have HS7 := Shut.mk hS
  clear hF hS
  refine hK.out _ _ (past (by kernel_rfl)) (fun hC => ?_)
  clear hK K
  try simp only [Act.put, List.getElem_toArray, List.getElem_cons_zero, List.getElem_cons_succ, List.setIfInBounds_toArray, List.set_cons_zero, List.set_cons_succ]
  refine wpAnyD_done (by kernel_rfl) ?_ _
  try simp only [Act.put, List.getElem_toArray, List.getElem_cons_zero, List.getElem_cons_succ, List.setIfInBounds_toArray, List.set_cons_zero, List.set_cons_succ]
  clear hC
  -- the flow is put back
  have HP8 := Shut.mk (HQ6.out.put_flow hb16 HBK.out (y := ⟨(q.fl b).pk ++ [⟨pi, uv fa, pt, pa, pb⟩], (q.fl b).df, (q.fl b).cd⟩) (by
    have h1 := HF7.out
    have e1 : itemsF ((q.fl b).pk ++ [⟨pi, uv fa, pt, pa, pb⟩]) = itemsF (q.fl b).pk ++ [⟨pa, (pb.length : Nat)⟩] := by simp [itemsF]
    have e2 : bytesF ((q.fl b).pk ++ [⟨pi, uv fa, pt, pa, pb⟩]) = bytesF (q.fl b).pk + (pb.length : Nat) := bytesF_snoc _ _
    rw [← e1, ← e2] at h1
    exact h1) HS7.out)
  obtain ⟨V8, hV8⟩ : ∃ V8, V8 = upd2 V b vp' vi' := ⟨_, rfl⟩
  rw [← hV8] at HP8
  have HQ8 := Shut.mk HP8.out.1
  have HC8 := Shut.mk (CqS.from_ HB6.out HP8.out.2)
  clear HP8 hV8 HF7 HS7 HBK HFL
  obtain ⟨A0, c0, hv0, -, -⟩ := HQ8.out.fr.form
  obtain ⟨A1, c1, hv1, -, -⟩ := HQ8.out.el.form
  have hn0 := natsI_len q.fresh
  have hn1 := natsI_len q.elder
  dsimp only at hv0 hv1
  have hl0 := HQ8.out.cells.1
  have hl1 := HQ8.out.cells.2
  rw [hv0] at hl0
  rw [hv1] at hl1
  have HR0 := Shut.mk (show RowB .i64 w7 A0 (natsI q.fresh).length (natsI q.fresh) from by
    have h1 := HQ8.out.fr
    rw [hv0] at h1
    exact h1.row (by rw [natsI_len]; have := HFR.out; unfold maxLen; omega) (natsI_in fun b hb => HIN.out b (List.mem_append_left _ hb)))
  have HR1 := Shut.mk (show RowB .i64 w7 A1 (natsI q.elder).length (natsI q.elder) from by
    have h1 := HQ8.out.el
    rw [hv1] at h1
    exact h1.row (by rw [natsI_len]; have := HER.out; unfold maxLen; omega) (natsI_in fun b hb => HIN.out b (List.mem_append_right _ hb)))
  have HNF := Shut.mk hn0
  have HNE := Shut.mk hn1
  clear hn0 hn1 hv0 hv1
  by_cases m0 : b ∈ q.fresh
  · have HD0 := Shut.mk (show decide ((b : Int) ∈ natsI q.fresh) = true from decide_eq_true (natsI_mem.2 m0))
    have HPU := Shut.mk (show putQ (bkQ sd) q ⟨pi, uv fa, pt, pa, pb⟩ = ⟨setF q.fl b ⟨(q.fl b).pk ++ [⟨pi, uv fa, pt, pa, pb⟩], (q.fl b).df, (q.fl b).cd⟩, q.fresh, q.elder⟩ by unfold putQ; dsimp only; rw [HPQ.out, if_pos (.inl m0)])
    clear m0
    go_wp2_with (fail)
    refine (contains_any _ _ _ _ (b : Int) _ HR0.out).mono ?_
    rintro e' wn ⟨rfl, rfl⟩
    rw [HD0.out]
    go_wp2_with (fail)
    go_ret
    exact ⟨rfl, T', V8, by rw [HPU.out]; exact HQ8.out, HC8.out⟩
  · have HD0 := Shut.mk (show decide ((b : Int) ∈ natsI q.fresh) = false from decide_eq_false fun h => m0 (natsI_mem.1 h))
    by_cases m1 : b ∈ q.elder
    · have HD1 := Shut.mk (show decide ((b : Int) ∈ natsI q.elder) = true from decide_eq_true (natsI_mem.2 m1))
      have HPU := Shut.mk (show putQ (bkQ sd) q ⟨pi, uv fa, pt, pa, pb⟩ = ⟨setF q.fl b ⟨(q.fl b).pk ++ [⟨pi, uv fa, pt, pa, pb⟩], (q.fl b).df, (q.fl b).cd⟩, q.fresh, q.elder⟩ by unfold putQ; dsimp only; rw [HPQ.out, if_pos (.inr m1)])
      clear m0 m1
      go_wp2_with (fail)
      refine (contains_any _ _ _ _ (b : Int) _ HR0.out).mono ?_
      rintro e' wn ⟨rfl, rfl⟩
      rw [HD0.out]
      go_wp2_with (fail)
      refine (contains_any _ _ _ _ (b : Int) _ HR1.out).mono ?_
      rintro e' wn ⟨rfl, rfl⟩
      rw [HD1.out]
      go_wp2_with (fail)
      go_ret
      exact ⟨rfl, T', V8, by rw [HPU.out]; exact HQ8.out, HC8.out⟩
    · have HD1 := Shut.mk (show decide ((b : Int) ∈ natsI q.elder) = false from decide_eq_false fun h => m1 (natsI_mem.1 h))
      have HPU := Shut.mk (show putQ (bkQ sd) q ⟨pi, uv fa, pt, pa, pb⟩ = ⟨setF q.fl b ⟨(q.fl b).pk ++ [⟨pi, uv fa, pt, pa, pb⟩], 300, (q.fl b).cd⟩, q.fresh ++ [b], q.elder⟩ by unfold putQ; dsimp only; rw [HPQ.out, if_neg (fun e => e.elim m0 m1)])
      clear m0 m1
      obtain ⟨pre2, post2, hpre2, hsp2, hback2⟩ := cq_split x V8 (setF q.fl b ⟨(q.fl b).pk ++ [⟨pi, uv fa, pt, pa, pb⟩], (q.fl b).df, (q.fl b).cd⟩) hb16
      have HPR2 := Shut.mk hpre2
      have HFL2 := Shut.mk (HQ8.out.flow hb16 hsp2)
      simp only [setF_same] at HFL2
      have HP9 := Shut.mk (HQ8.out.put_flow hb16 hback2 (y := ⟨(q.fl b).pk ++ [⟨pi, uv fa, pt, pa, pb⟩], 300, (q.fl b).cd⟩) (HFL2.out.store _ 300 _) (FlS.own _))
      obtain ⟨w9, hw9⟩ : ∃ w9, w9 = w7.setRow x.g (pre2 ++ fcR (V8 b) (V8 (16 + b)) (bytesF ((q.fl b).pk ++ [⟨pi, uv fa, pt, pa, pb⟩])) 300 (q.fl b).cd ++ post2).toArray := ⟨_, rfl⟩
      rw [← hw9] at HP9
      have HW9 := Shut.mk hw9
      have HQ9 := Shut.mk HP9.out.1
      have HC9 := Shut.mk (HC8.out.trans HP9.out.2)
      have hset : setF (setF q.fl b ⟨(q.fl b).pk ++ [⟨pi, uv fa, pt, pa, pb⟩], (q.fl b).df, (q.fl b).cd⟩) b ⟨(q.fl b).pk ++ [⟨pi, uv fa, pt, pa, pb⟩], 300, (q.fl b).cd⟩ = setF q.fl b ⟨(q.fl b).pk ++ [⟨pi, uv fa, pt, pa, pb⟩], 300, (q.fl b).cd⟩ := by
        funext k; unfold setF; split <;> rfl
      rw [hset] at HQ9
      clear hpre2 hsp2 hback2 hw9 HP9 hset
      go_wp2_with (fail)
      refine (contains_any _ _ _ _ (b : Int) _ HR0.out).mono ?_
      rintro e' wn ⟨rfl, rfl⟩
      rw [HD0.out]
      go_wp2_with (fail)
      refine (contains_any _ _ _ _ (b : Int) _ HR1.out).mono ?_
      rintro e' wn ⟨rfl, rfl⟩
      rw [HD1.out]
      go_wp2_with (refine wpList_store_fld rfl 3 (.tmp 43) (.const (.int .i64 300)) rfl x.g (3 + b * 9) 3 (.int .i64 300) rfl rfl rfl _ pre2 _ (fcR (V8 b) (V8 (16 + b)) (bytesF ((q.fl b).pk ++ [⟨pi, uv fa, pt, pa, pb⟩])) 300 (q.fl b).cd) post2 HFL2.out.blk HPR2.out size1i (by show 3 < 9; omega) rfl ?_
                   rw [show World.setRow w7 x.g _ = w9 from HW9.out.symm])
      refine (joinq0_any T' w9 x _ _ HQ9.out HFR.out b).mono ?_
      rintro e' wZ ⟨rfl, VZ', hQZ, hCZ⟩
      have HQZ := Shut.mk hQZ
      have HCZ := Shut.mk (HC9.out.trans hCZ)
      clear hQZ hCZ
      go_wp2_with (fail)
      go_ret
      exact ⟨rfl, T', VZ', by rw [HPU.out]; exact HQZ.out, HCZ.out⟩
end Go.Proofs.Ytaibopaagjodoaa
