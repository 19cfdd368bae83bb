/-
  CONTRACTS of ba's Fresh where it is refused, of Heard, of muezzinlaw16.first.
-/
import Derived.Test.YtlbfioknkagboaaDoorSeJ
namespace Go.Proofs.YtlbfioknkagboaaDoor
open Go.ChangeShapes Go.WideShapes Go.ChangeAt Go.RowKit Go.Deep
set_option linter.unusedVariables false
set_option linter.unusedSimpArgs false

section
variable {B : Nat} {w : World} {p : Sp} {s : Sb}
/-! ### Fresh, refused -/

set_option maxRecDepth 100000 in
set_option maxHeartbeats 8000000 in
theorem fresh_state (h : IsSe B w p s) (hst : s.state = 2) (pi pf pt pa now : Int) (E : Nat → Addr) (he : w.cell? ⟨1, 0, none⟩ = some (errP (E 110))) :
    Calls Tryd.prog 15 #[.pointer (some ⟨p.g, 0, none⟩), .agg #[.int .i64 pi, .int .u32 pf, .int .i64 pt, .int .i64 pa, .slice none 0 0], .int .i64 now] w fun e w' => e = .returned (.tuple #[.agg #[.int .i64 0, .int .u32 0, .int .i64 0, .int .i64 0, .slice none 0 0, .int .i64 0, .int .i64 0, .int .i64 0], errP (E 110)]) ∧ Below w.heap.size w w' := by
  obtain ⟨-, -, c2, c3, -, c5, c6, c7, -⟩ := h.cells
  have HSE := Shut.mk h
  rw [hst] at c3
  clear hst
  obtain ⟨er, her⟩ : ∃ er, er = errP (E 110) := ⟨_, rfl⟩
  have her1 : er.oneCell' = true := by rw [her]; rfl
  rw [← her] at he ⊢
  clear her
  have H2 := Shut.mk (two_alloc w (Obj.cells #[.int .i64 pi, .int .u32 pf, .int .i64 pt, .int .i64 pa, .slice none 0 0] 38 (0, 0)) (Obj.cells #[.int .i64 0, .int .u32 0, .int .i64 0, .int .i64 0, .slice none 0 0, .int .i64 0, .int .i64 0, .int .i64 0] 40 (0, 0)))
  have k3 := below_at H2.out.1 c3
  have k5 := below_at H2.out.1 c5
  have k7 := below_at H2.out.1 c7
  have HER1 := Shut.mk (below_at H2.out.1 he)
  have HGE := Shut.mk (show ¬ 1 = w.heap.size + 1 from fun e => by have h1 := cell_lt' he; have h2 : 1 < w.heap.size := h1; omega)
  clear h c2 c3 c5 c6 c7 he
  go_enter Tryd.func15, Tryd.ntmps15
  go_wp2_with (fail)
  have HB1 := Shut.mk H2.out.1
  have HRS1 := Shut.mk H2.out.2.2.1
  generalize (w.alloc _).alloc _ = w1 at *
  obtain ⟨s0, hs0⟩ : ∃ s0, s0 = w.heap.size := ⟨_, rfl⟩
  have HS0 := Shut.mk hs0.symm
  rw [← hs0] at HRS1 HGE ⊢
  clear hs0 k3 k5 k7
  have HD5 := Shut.mk (show Below w1.heap.size w1 (World.drew w1) from (Below.refl _ _).drew)
  have HER5 := Shut.mk (show (World.drew w1).cell? ⟨1, 0, none⟩ = some er from HER1.out)
  have HRS5 := Shut.mk (show (World.drew w1).heap[s0 + 1]? = some (.cells #[.int .i64 0, .int .u32 0, .int .i64 0, .int .i64 0, .slice none 0 0, .int .i64 0, .int .i64 0, .int .i64 0] 40 (0, 0)) from HRS1.out)
  have HB5 := Shut.mk (show Below w.heap.size w (World.drew w1) from HB1.out.drew)
  refine wp_region_D (fun w' => w'.cell? ⟨1, 0, none⟩ = some er ∧ w'.heap[s0 + 1]? = some (.cells #[.int .i64 0, .int .u32 0, .int .i64 0, .int .i64 0, .slice none 0 0, .int .i64 0, .int .i64 0, .int .i64 0] 40 (0, 0)) ∧ Below w.heap.size w w') 3 (by kernel_rfl) ⟨HER5.out, HRS5.out, HB5.out⟩ (fun hHeld hC => ?_)
  generalize hw5 : World.drew w1 = w5 at hHeld ⊢
  clear hw5
  refine wpAnyD_pure (i := 0) (v := ?_) rfl hC (by kernel_rfl) (by kernel_rfl) (by kernel_rfl) (by decide) (fun _ _ _ h => h) (Or.inl ⟨by rfl, ?_⟩) (fun _ => hHeld) ?_
  rotate_left
  · intro w hSw
    clear hSw
    go_simp
    try with_reducible rfl
  try simp only [Act.put, List.getElem_toArray, List.getElem_cons_zero, List.getElem_cons_succ, List.setIfInBounds_toArray, List.set_cons_zero, List.set_cons_succ]
  clear hC
  intro hC
  refine wpAnyD_take (i := 1) (v := ?_) 40 rfl (by kernel_rfl) hC (by kernel_rfl) (by kernel_rfl) (by kernel_rfl) (by decide) (fun _ _ _ h => h) (Or.inl ⟨by rfl, ?_⟩) (fun _ => hHeld) ?_
  rotate_left
  · intro w hSw
    have hz := hSw.1
    clear hSw
    go_simp
    try with_reducible rfl
  try simp only [Act.put, List.getElem_toArray, List.getElem_cons_zero, List.getElem_cons_succ, List.setIfInBounds_toArray, List.set_cons_zero, List.set_cons_succ]
  clear hC
  intro hC
  refine wpAnyD_one (i := 2) (by kernel_rfl) rfl hC (fun K hK => ?_)
  clear hC
  have hh1 := hHeld.1
  have hh2 := hHeld.2.1
  have hh3 := hHeld.2.2
  refine step_store_part rfl 40 (.tmp 6) (.tmp 16) rfl (s0 + 1) 0 (.agg #[.int .i64 0, .int .u32 0, .int .i64 0, .int .i64 0, .slice none 0 0, .int .i64 0, .int .i64 0, .int .i64 0]) rfl rfl 40 [] ([.int .i64 0, .int .u32 0, .int .i64 0, .int .i64 0, .slice none 0 0, .int .i64 0, .int .i64 0, .int .i64 0] : List Value) ([.int .i64 0, .int .u32 0, .int .i64 0, .int .i64 0, .slice none 0 0, .int .i64 0, .int .i64 0, .int .i64 0] : List Value) [] hh2 rfl rfl rfl sizeM (by intro u hu; simp only [List.mem_cons, List.not_mem_nil, or_false] at hu; rcases hu with rfl | rfl | rfl | rfl | rfl | rfl | rfl | rfl <;> rfl) ?_
  have HST := Shut.mk (And.intro (Only.cell (p := ⟨1, 0, none⟩) (only_setRow w5 (s0 + 1) ([] ++ ([.int .i64 0, .int .u32 0, .int .i64 0, .int .i64 0, .slice none 0 0, .int .i64 0, .int .i64 0, .int .i64 0] : List Value) ++ []).toArray) hh1 (fun e => HGE.out e)) (And.intro (setRow_heap w5 (s0 + 1) _ ([] ++ ([.int .i64 0, .int .u32 0, .int .i64 0, .int .i64 0, .slice none 0 0, .int .i64 0, .int .i64 0, .int .i64 0] : List Value) ++ []).toArray _ (0, 0) hh2) (below_setRow hh3 (g := s0 + 1) (by have := HS0.out; omega) ([] ++ ([.int .i64 0, .int .u32 0, .int .i64 0, .int .i64 0, .slice none 0 0, .int .i64 0, .int .i64 0, .int .i64 0] : List Value) ++ []).toArray)))
  generalize World.setRow w5 (s0 + 1) _ = wv1 at *
  clear hh1 hh2 hh3
  have hHeld2 := HST.out
  clear hHeld
  have hHeld := hHeld2
  clear hHeld2
  refine hK.out _ _ (fun _ => hHeld) (fun hC => ?_)
  clear hK K
  try simp only [Act.put, List.getElem_toArray, List.getElem_cons_zero, List.getElem_cons_succ, List.setIfInBounds_toArray, List.set_cons_zero, List.set_cons_succ]
  refine wpAnyD_one (i := 3) (by kernel_rfl) rfl hC (fun K hK => ?_)
  clear hC
  go_simp
  refine hK.out _ _ (past (by kernel_rfl)) (fun hC => ?_)
  clear hK K
  try simp only [Act.put, List.getElem_toArray, List.getElem_cons_zero, List.getElem_cons_succ, List.setIfInBounds_toArray, List.set_cons_zero, List.set_cons_succ]
  refine wpAnyD_done (by kernel_rfl) ?_ _
  try simp only [Act.put, List.getElem_toArray, List.getElem_cons_zero, List.getElem_cons_succ, List.setIfInBounds_toArray, List.set_cons_zero, List.set_cons_succ]
  go_wp2_with (fail)
  exact bodyPost_ret (v := .tuple #[.agg #[.int .i64 0, .int .u32 0, .int .i64 0, .int .i64 0, .slice none 0 0, .int .i64 0, .int .i64 0, .int .i64 0], er]) (results_c1 (p := 6) (q := 7) Tryd.results15 _ _ (s0 + 1) _ _ _ _ _ rfl rfl hHeld.2.1 Tryd.underlying40 rfl sizeM) rfl ⟨rfl, hHeld.2.2⟩

set_option maxRecDepth 100000 in
set_option maxHeartbeats 8000000 in
theorem fresh_ask (h : IsSe B w p s) (hst : s.state ≠ 2) (ha : s.ask = true) (pi pf pt pa now : Int) (E : Nat → Addr) (he : w.cell? ⟨2, 0, none⟩ = some (errP (E 109))) :
    Calls Tryd.prog 15 #[.pointer (some ⟨p.g, 0, none⟩), .agg #[.int .i64 pi, .int .u32 pf, .int .i64 pt, .int .i64 pa, .slice none 0 0], .int .i64 now] w fun e w' => e = .returned (.tuple #[.agg #[.int .i64 0, .int .u32 0, .int .i64 0, .int .i64 0, .slice none 0 0, .int .i64 0, .int .i64 0, .int .i64 0], errP (E 109)]) ∧ Below w.heap.size w w' := by
  obtain ⟨-, -, c2, c3, -, c5, c6, c7, -⟩ := h.cells
  have HSE := Shut.mk h
  rw [ha] at c7
  have hst2 : (((s.state : Nat) : Int) == 2) = false := by simp; omega
  clear hst ha
  obtain ⟨er, her⟩ : ∃ er, er = errP (E 109) := ⟨_, rfl⟩
  have her1 : er.oneCell' = true := by rw [her]; rfl
  rw [← her] at he ⊢
  clear her
  have H2 := Shut.mk (two_alloc w (Obj.cells #[.int .i64 pi, .int .u32 pf, .int .i64 pt, .int .i64 pa, .slice none 0 0] 38 (0, 0)) (Obj.cells #[.int .i64 0, .int .u32 0, .int .i64 0, .int .i64 0, .slice none 0 0, .int .i64 0, .int .i64 0, .int .i64 0] 40 (0, 0)))
  have k3 := below_at H2.out.1 c3
  have k5 := below_at H2.out.1 c5
  have k7 := below_at H2.out.1 c7
  have HER1 := Shut.mk (below_at H2.out.1 he)
  have HGE := Shut.mk (show ¬ 2 = w.heap.size + 1 from fun e => by have h1 := cell_lt' he; have h2 : 2 < w.heap.size := h1; omega)
  clear h c2 c3 c5 c6 c7 he
  go_enter Tryd.func15, Tryd.ntmps15
  go_wp2_with (fail)
  have HB1 := Shut.mk H2.out.1
  have HRS1 := Shut.mk H2.out.2.2.1
  generalize (w.alloc _).alloc _ = w1 at *
  obtain ⟨s0, hs0⟩ : ∃ s0, s0 = w.heap.size := ⟨_, rfl⟩
  have HS0 := Shut.mk hs0.symm
  rw [← hs0] at HRS1 HGE ⊢
  clear hs0 k3 k5 k7
  have HD5 := Shut.mk (show Below w1.heap.size w1 (World.drew w1) from (Below.refl _ _).drew)
  have HER5 := Shut.mk (show (World.drew w1).cell? ⟨2, 0, none⟩ = some er from HER1.out)
  have HRS5 := Shut.mk (show (World.drew w1).heap[s0 + 1]? = some (.cells #[.int .i64 0, .int .u32 0, .int .i64 0, .int .i64 0, .slice none 0 0, .int .i64 0, .int .i64 0, .int .i64 0] 40 (0, 0)) from HRS1.out)
  have HB5 := Shut.mk (show Below w.heap.size w (World.drew w1) from HB1.out.drew)
  refine wp_region_D (fun w' => w'.cell? ⟨2, 0, none⟩ = some er ∧ w'.heap[s0 + 1]? = some (.cells #[.int .i64 0, .int .u32 0, .int .i64 0, .int .i64 0, .slice none 0 0, .int .i64 0, .int .i64 0, .int .i64 0] 40 (0, 0)) ∧ Below w.heap.size w w') 3 (by kernel_rfl) ⟨HER5.out, HRS5.out, HB5.out⟩ (fun hHeld hC => ?_)
  generalize hw5 : World.drew w1 = w5 at hHeld ⊢
  clear hw5
  refine wpAnyD_pure (i := 0) (v := ?_) rfl hC (by kernel_rfl) (by kernel_rfl) (by kernel_rfl) (by decide) (fun _ _ _ h => h) (Or.inl ⟨by rfl, ?_⟩) (fun _ => hHeld) ?_
  rotate_left
  · intro w hSw
    clear hSw
    go_simp
    try with_reducible rfl
  try simp only [Act.put, List.getElem_toArray, List.getElem_cons_zero, List.getElem_cons_succ, List.setIfInBounds_toArray, List.set_cons_zero, List.set_cons_succ]
  clear hC
  intro hC
  refine wpAnyD_take (i := 1) (v := ?_) 40 rfl (by kernel_rfl) hC (by kernel_rfl) (by kernel_rfl) (by kernel_rfl) (by decide) (fun _ _ _ h => h) (Or.inl ⟨by rfl, ?_⟩) (fun _ => hHeld) ?_
  rotate_left
  · intro w hSw
    have hz := hSw.1
    clear hSw
    go_simp
    try with_reducible rfl
  try simp only [Act.put, List.getElem_toArray, List.getElem_cons_zero, List.getElem_cons_succ, List.setIfInBounds_toArray, List.set_cons_zero, List.set_cons_succ]
  clear hC
  intro hC
  refine wpAnyD_one (i := 2) (by kernel_rfl) rfl hC (fun K hK => ?_)
  clear hC
  have hh1 := hHeld.1
  have hh2 := hHeld.2.1
  have hh3 := hHeld.2.2
  refine step_store_part rfl 40 (.tmp 6) (.tmp 23) rfl (s0 + 1) 0 (.agg #[.int .i64 0, .int .u32 0, .int .i64 0, .int .i64 0, .slice none 0 0, .int .i64 0, .int .i64 0, .int .i64 0]) rfl rfl 40 [] ([.int .i64 0, .int .u32 0, .int .i64 0, .int .i64 0, .slice none 0 0, .int .i64 0, .int .i64 0, .int .i64 0] : List Value) ([.int .i64 0, .int .u32 0, .int .i64 0, .int .i64 0, .slice none 0 0, .int .i64 0, .int .i64 0, .int .i64 0] : List Value) [] hh2 rfl rfl rfl sizeM (by intro u hu; simp only [List.mem_cons, List.not_mem_nil, or_false] at hu; rcases hu with rfl | rfl | rfl | rfl | rfl | rfl | rfl | rfl <;> rfl) ?_
  have HST := Shut.mk (And.intro (Only.cell (p := ⟨2, 0, none⟩) (only_setRow w5 (s0 + 1) ([] ++ ([.int .i64 0, .int .u32 0, .int .i64 0, .int .i64 0, .slice none 0 0, .int .i64 0, .int .i64 0, .int .i64 0] : List Value) ++ []).toArray) hh1 (fun e => HGE.out e)) (And.intro (setRow_heap w5 (s0 + 1) _ ([] ++ ([.int .i64 0, .int .u32 0, .int .i64 0, .int .i64 0, .slice none 0 0, .int .i64 0, .int .i64 0, .int .i64 0] : List Value) ++ []).toArray _ (0, 0) hh2) (below_setRow hh3 (g := s0 + 1) (by have := HS0.out; omega) ([] ++ ([.int .i64 0, .int .u32 0, .int .i64 0, .int .i64 0, .slice none 0 0, .int .i64 0, .int .i64 0, .int .i64 0] : List Value) ++ []).toArray)))
  generalize World.setRow w5 (s0 + 1) _ = wv1 at *
  clear hh1 hh2 hh3
  have hHeld2 := HST.out
  clear hHeld
  have hHeld := hHeld2
  clear hHeld2
  refine hK.out _ _ (fun _ => hHeld) (fun hC => ?_)
  clear hK K
  try simp only [Act.put, List.getElem_toArray, List.getElem_cons_zero, List.getElem_cons_succ, List.setIfInBounds_toArray, List.set_cons_zero, List.set_cons_succ]
  refine wpAnyD_one (i := 3) (by kernel_rfl) rfl hC (fun K hK => ?_)
  clear hC
  go_simp
  refine hK.out _ _ (past (by kernel_rfl)) (fun hC => ?_)
  clear hK K
  try simp only [Act.put, List.getElem_toArray, List.getElem_cons_zero, List.getElem_cons_succ, List.setIfInBounds_toArray, List.set_cons_zero, List.set_cons_succ]
  refine wpAnyD_done (by kernel_rfl) ?_ _
  try simp only [Act.put, List.getElem_toArray, List.getElem_cons_zero, List.getElem_cons_succ, List.setIfInBounds_toArray, List.set_cons_zero, List.set_cons_succ]
  go_wp2_with (fail)
  exact bodyPost_ret (v := .tuple #[.agg #[.int .i64 0, .int .u32 0, .int .i64 0, .int .i64 0, .slice none 0 0, .int .i64 0, .int .i64 0, .int .i64 0], er]) (results_c1 (p := 6) (q := 7) Tryd.results15 _ _ (s0 + 1) _ _ _ _ _ rfl rfl hHeld.2.1 Tryd.underlying40 rfl sizeM) rfl ⟨rfl, hHeld.2.2⟩

set_option maxRecDepth 100000 in
set_option maxHeartbeats 8000000 in
theorem fresh_full (h : IsSe B w p s) (hi : InvB s) (hst : s.state ≠ 2) (ha : s.ask = false) (hg : ¬ s.x.gv < s.x.sz) (pi pf pt pa now : Int) (E : Nat → Addr) (he : w.cell? ⟨2, 0, none⟩ = some (errP (E 109))) :
    Calls Tryd.prog 15 #[.pointer (some ⟨p.g, 0, none⟩), .agg #[.int .i64 pi, .int .u32 pf, .int .i64 pt, .int .i64 pa, .slice none 0 0], .int .i64 now] w fun e w' => e = .returned (.tuple #[.agg #[.int .i64 0, .int .u32 0, .int .i64 0, .int .i64 0, .slice none 0 0, .int .i64 0, .int .i64 0, .int .i64 0], errP (E 109)]) ∧ Below w.heap.size w w' := by
  obtain ⟨-, -, c2, c3, -, c5, c6, c7, -⟩ := h.cells
  have HSE := Shut.mk h
  rw [ha] at c7
  have hst2 : (((s.state : Nat) : Int) == 2) = false := by simp; omega
  have HI := Shut.mk hi
  have HG := Shut.mk hg
  clear hst ha hi hg
  obtain ⟨er, her⟩ : ∃ er, er = errP (E 109) := ⟨_, rfl⟩
  have her1 : er.oneCell' = true := by rw [her]; rfl
  rw [← her] at he ⊢
  clear her
  have H2 := Shut.mk (two_alloc w (Obj.cells #[.int .i64 pi, .int .u32 pf, .int .i64 pt, .int .i64 pa, .slice none 0 0] 38 (0, 0)) (Obj.cells #[.int .i64 0, .int .u32 0, .int .i64 0, .int .i64 0, .slice none 0 0, .int .i64 0, .int .i64 0, .int .i64 0] 40 (0, 0)))
  have k3 := below_at H2.out.1 c3
  have k5 := below_at H2.out.1 c5
  have k7 := below_at H2.out.1 c7
  have HER1 := Shut.mk (below_at H2.out.1 he)
  have HGE := Shut.mk (show ¬ 2 = w.heap.size + 1 from fun e => by have h1 := cell_lt' he; have h2 : 2 < w.heap.size := h1; omega)
  clear h c2 c3 c5 c6 c7 he
  go_enter Tryd.func15, Tryd.ntmps15
  go_wp2_with (fail)
  have HB1 := Shut.mk H2.out.1
  have HRS1 := Shut.mk H2.out.2.2.1
  generalize (w.alloc _).alloc _ = w1 at *
  obtain ⟨s0, hs0⟩ : ∃ s0, s0 = w.heap.size := ⟨_, rfl⟩
  have HS0 := Shut.mk hs0.symm
  rw [← hs0] at HRS1 HGE ⊢
  clear hs0 k3 k5 k7
  refine (next_no p.gw s.x w1 (HSE.out.below HB1.out).win HI.out.inv.inv HG.out).mono ?_
  rintro e w2 ⟨rfl, n, hn⟩
  have HBn := Shut.mk (show Below w.heap.size w w2 by rw [hn]; exact below_drewN HB1.out n)
  have HERn := Shut.mk (show w2.cell? ⟨2, 0, none⟩ = some er by rw [hn]; exact HER1.out)
  have HRSn := Shut.mk (show w2.heap[s0 + 1]? = some (.cells #[.int .i64 0, .int .u32 0, .int .i64 0, .int .i64 0, .slice none 0 0, .int .i64 0, .int .i64 0, .int .i64 0] 40 (0, 0)) by rw [hn]; exact HRS1.out)
  clear hn HB1 HER1 HRS1
  have HB1 := HBn
  have HER1 := HERn
  have HRS1 := HRSn
  go_wp2_with (fail)
  have HD5 := Shut.mk (show Below w2.heap.size w2 (World.drew w2) from (Below.refl _ _).drew)
  have HER5 := Shut.mk (show (World.drew w2).cell? ⟨2, 0, none⟩ = some er from HER1.out)
  have HRS5 := Shut.mk (show (World.drew w2).heap[s0 + 1]? = some (.cells #[.int .i64 0, .int .u32 0, .int .i64 0, .int .i64 0, .slice none 0 0, .int .i64 0, .int .i64 0, .int .i64 0] 40 (0, 0)) from HRS1.out)
  have HB5 := Shut.mk (show Below w.heap.size w (World.drew w2) from HB1.out.drew)
  refine wp_region_D (fun w' => w'.cell? ⟨2, 0, none⟩ = some er ∧ w'.heap[s0 + 1]? = some (.cells #[.int .i64 0, .int .u32 0, .int .i64 0, .int .i64 0, .slice none 0 0, .int .i64 0, .int .i64 0, .int .i64 0] 40 (0, 0)) ∧ Below w.heap.size w w') 3 (by kernel_rfl) ⟨HER5.out, HRS5.out, HB5.out⟩ (fun hHeld hC => ?_)
  generalize hw5 : World.drew w2 = w5 at hHeld ⊢
  clear hw5
  refine wpAnyD_pure (i := 0) (v := ?_) rfl hC (by kernel_rfl) (by kernel_rfl) (by kernel_rfl) (by decide) (fun _ _ _ h => h) (Or.inl ⟨by rfl, ?_⟩) (fun _ => hHeld) ?_
  rotate_left
  · intro w hSw
    clear hSw
    go_simp
    try with_reducible rfl
  try simp only [Act.put, List.getElem_toArray, List.getElem_cons_zero, List.getElem_cons_succ, List.setIfInBounds_toArray, List.set_cons_zero, List.set_cons_succ]
  clear hC
  intro hC
  refine wpAnyD_take (i := 1) (v := ?_) 40 rfl (by kernel_rfl) hC (by kernel_rfl) (by kernel_rfl) (by kernel_rfl) (by decide) (fun _ _ _ h => h) (Or.inl ⟨by rfl, ?_⟩) (fun _ => hHeld) ?_
  rotate_left
  · intro w hSw
    have hz := hSw.1
    clear hSw
    go_simp
    try with_reducible rfl
  try simp only [Act.put, List.getElem_toArray, List.getElem_cons_zero, List.getElem_cons_succ, List.setIfInBounds_toArray, List.set_cons_zero, List.set_cons_succ]
  clear hC
  intro hC
  refine wpAnyD_one (i := 2) (by kernel_rfl) rfl hC (fun K hK => ?_)
  clear hC
  have hh1 := hHeld.1
  have hh2 := hHeld.2.1
  have hh3 := hHeld.2.2
  refine step_store_part rfl 40 (.tmp 6) (.tmp 35) rfl (s0 + 1) 0 (.agg #[.int .i64 0, .int .u32 0, .int .i64 0, .int .i64 0, .slice none 0 0, .int .i64 0, .int .i64 0, .int .i64 0]) rfl rfl 40 [] ([.int .i64 0, .int .u32 0, .int .i64 0, .int .i64 0, .slice none 0 0, .int .i64 0, .int .i64 0, .int .i64 0] : List Value) ([.int .i64 0, .int .u32 0, .int .i64 0, .int .i64 0, .slice none 0 0, .int .i64 0, .int .i64 0, .int .i64 0] : List Value) [] hh2 rfl rfl rfl sizeM (by intro u hu; simp only [List.mem_cons, List.not_mem_nil, or_false] at hu; rcases hu with rfl | rfl | rfl | rfl | rfl | rfl | rfl | rfl <;> rfl) ?_
  have HST := Shut.mk (And.intro (Only.cell (p := ⟨2, 0, none⟩) (only_setRow w5 (s0 + 1) ([] ++ ([.int .i64 0, .int .u32 0, .int .i64 0, .int .i64 0, .slice none 0 0, .int .i64 0, .int .i64 0, .int .i64 0] : List Value) ++ []).toArray) hh1 (fun e => HGE.out e)) (And.intro (setRow_heap w5 (s0 + 1) _ ([] ++ ([.int .i64 0, .int .u32 0, .int .i64 0, .int .i64 0, .slice none 0 0, .int .i64 0, .int .i64 0, .int .i64 0] : List Value) ++ []).toArray _ (0, 0) hh2) (below_setRow hh3 (g := s0 + 1) (by have := HS0.out; omega) ([] ++ ([.int .i64 0, .int .u32 0, .int .i64 0, .int .i64 0, .slice none 0 0, .int .i64 0, .int .i64 0, .int .i64 0] : List Value) ++ []).toArray)))
  generalize World.setRow w5 (s0 + 1) _ = wv1 at *
  clear hh1 hh2 hh3
  have hHeld2 := HST.out
  clear hHeld
  have hHeld := hHeld2
  clear hHeld2
  refine hK.out _ _ (fun _ => hHeld) (fun hC => ?_)
  clear hK K
  try simp only [Act.put, List.getElem_toArray, List.getElem_cons_zero, List.getElem_cons_succ, List.setIfInBounds_toArray, List.set_cons_zero, List.set_cons_succ]
  refine wpAnyD_one (i := 3) (by kernel_rfl) rfl hC (fun K hK => ?_)
  clear hC
  go_simp
  refine hK.out _ _ (past (by kernel_rfl)) (fun hC => ?_)
  clear hK K
  try simp only [Act.put, List.getElem_toArray, List.getElem_cons_zero, List.getElem_cons_succ, List.setIfInBounds_toArray, List.set_cons_zero, List.set_cons_succ]
  refine wpAnyD_done (by kernel_rfl) ?_ _
  try simp only [Act.put, List.getElem_toArray, List.getElem_cons_zero, List.getElem_cons_succ, List.setIfInBounds_toArray, List.set_cons_zero, List.set_cons_succ]
  go_wp2_with (fail)
  exact bodyPost_ret (v := .tuple #[.agg #[.int .i64 0, .int .u32 0, .int .i64 0, .int .i64 0, .slice none 0 0, .int .i64 0, .int .i64 0, .int .i64 0], er]) (results_c1 (p := 6) (q := 7) Tryd.results15 _ _ (s0 + 1) _ _ _ _ _ rfl rfl hHeld.2.1 Tryd.underlying40 rfl sizeM) rfl ⟨rfl, hHeld.2.2⟩


/-! ### Heard -/
set_option maxRecDepth 100000 in
set_option maxHeartbeats 4000000 in
theorem heard_no (h : IsSe B w p s) (hi : InvB s) (hf : s.l.any flyP = false) (a M : Nat) (E : Nat → Addr) (he : w.cell? ⟨1, 0, none⟩ = some (errP (E 110))) :
    Calls Tryd.prog 21 #[.pointer (some ⟨p.g, 0, none⟩), .agg #[.int .u8 0, .int .u8 0, .int .u8 0, .int .u8 0, .int .u8 0, .int .u8 0, .int .u8 0, .int .u8 0, .int .u8 0, .int .u8 0, .int .u8 0, .int .u8 0, .int .i64 0, .int .i64 ((a : Nat) : Int), .int .u64 ((M : Nat) : Int)]] w fun e w' => e = .returned (.tuple #[.slice none 0 0, errP (E 110)]) ∧ Below w.heap.size w w' := by
  generalize E 110 = er at *
  have HB1 := Shut.mk ((Below.refl w.heap.size w).alloc (Nat.le_refl _) (Obj.cells #[.int .u8 0, .int .u8 0, .int .u8 0, .int .u8 0, .int .u8 0, .int .u8 0, .int .u8 0, .int .u8 0, .int .u8 0, .int .u8 0, .int .u8 0, .int .u8 0, .int .i64 0, .int .i64 ((a : Nat) : Int), .int .u64 ((M : Nat) : Int)] 59 (0, 0)))
  have HSZ := Shut.mk (show w.heap.size ≤ (w.alloc (Obj.cells #[.int .u8 0, .int .u8 0, .int .u8 0, .int .u8 0, .int .u8 0, .int .u8 0, .int .u8 0, .int .u8 0, .int .u8 0, .int .u8 0, .int .u8 0, .int .u8 0, .int .i64 0, .int .i64 ((a : Nat) : Int), .int .u64 ((M : Nat) : Int)] 59 (0, 0))).heap.size by simp)
  have HF := Shut.mk (somefly_any (h.below HB1.out) hi)
  have he1 := below_at HB1.out he
  rw [hf] at HF
  clear h hi hf he
  go_enter Tryd.func21, Tryd.ntmps21
  go_wp2_with (fail)
  generalize World.alloc w _ = w1 at *
  refine HF.out.mono ?_
  rintro e w2 ⟨rfl, hb⟩
  have HB2 := Shut.mk (HB1.out.trans (hb.mono HSZ.out))
  have he2 := below_at hb he1
  clear hb he1
  go_wp2_with (fail)
  go_quiet (fail)
  go_wp2_with (fail)
  go_ret2
  exact ⟨rfl, below_drewN HB2.out _⟩
set_option maxRecDepth 100000 in
set_option maxHeartbeats 4000000 in
theorem heard_seq (h : IsSe B w p s) (hi : InvB s) (hf : s.l.any flyP = true) (a M : Nat) (ha : a < 4096 → s.l.any (nearP (a : Int)) = false) (E : Nat → Addr) (he : w.cell? ⟨4, 0, none⟩ = some (errP (E 111))) :
    Calls Tryd.prog 21 #[.pointer (some ⟨p.g, 0, none⟩), .agg #[.int .u8 0, .int .u8 0, .int .u8 0, .int .u8 0, .int .u8 0, .int .u8 0, .int .u8 0, .int .u8 0, .int .u8 0, .int .u8 0, .int .u8 0, .int .u8 0, .int .i64 0, .int .i64 ((a : Nat) : Int), .int .u64 ((M : Nat) : Int)]] w fun e w' => e = .returned (.tuple #[.slice none 0 0, errP (E 111)]) ∧ Below w.heap.size w w' := by
  generalize E 111 = er at *
  have HB1 := Shut.mk ((Below.refl w.heap.size w).alloc (Nat.le_refl _) (Obj.cells #[.int .u8 0, .int .u8 0, .int .u8 0, .int .u8 0, .int .u8 0, .int .u8 0, .int .u8 0, .int .u8 0, .int .u8 0, .int .u8 0, .int .u8 0, .int .u8 0, .int .i64 0, .int .i64 ((a : Nat) : Int), .int .u64 ((M : Nat) : Int)] 59 (0, 0)))
  have HSZ := Shut.mk (show w.heap.size ≤ (w.alloc (Obj.cells #[.int .u8 0, .int .u8 0, .int .u8 0, .int .u8 0, .int .u8 0, .int .u8 0, .int .u8 0, .int .u8 0, .int .u8 0, .int .u8 0, .int .u8 0, .int .u8 0, .int .i64 0, .int .i64 ((a : Nat) : Int), .int .u64 ((M : Nat) : Int)] 59 (0, 0))).heap.size by simp)
  have HF := Shut.mk (somefly_any (h.below HB1.out) hi)
  have he1 := below_at HB1.out he
  have HAC := Shut.mk (show (w.alloc (Obj.cells #[.int .u8 0, .int .u8 0, .int .u8 0, .int .u8 0, .int .u8 0, .int .u8 0, .int .u8 0, .int .u8 0, .int .u8 0, .int .u8 0, .int .u8 0, .int .u8 0, .int .i64 0, .int .i64 ((a : Nat) : Int), .int .u64 ((M : Nat) : Int)] 59 (0, 0))).cell? ⟨w.heap.size, 13, none⟩ = some (.int .i64 ((a : Nat) : Int)) by have h9 := (block_range (heap_alloc_last w (Obj.cells #[.int .u8 0, .int .u8 0, .int .u8 0, .int .u8 0, .int .u8 0, .int .u8 0, .int .u8 0, .int .u8 0, .int .u8 0, .int .u8 0, .int .u8 0, .int .u8 0, .int .i64 0, .int .i64 ((a : Nat) : Int), .int .u64 ((M : Nat) : Int)] 59 (0, 0)))) 13 _ rfl; rw [Nat.zero_add] at h9; exact h9)
  rw [hf] at HF
  have HSE := Shut.mk (h.below HB1.out)
  have HI := Shut.mk hi
  have HNA := Shut.mk ha
  clear h hi hf he ha
  go_enter Tryd.func21, Tryd.ntmps21
  go_wp2_with (fail)
  generalize World.alloc w _ = w1 at *
  generalize hs0 : w.heap.size = s0 at *
  have HS0 := Shut.mk hs0
  clear hs0
  refine HF.out.mono ?_
  rintro e w2 ⟨rfl, hb⟩
  have HB2 := Shut.mk (HB1.out.trans (hb.mono HSZ.out))
  have he2 := below_at hb he1
  have a13 := below_at hb HAC.out
  have HSE2 := Shut.mk (HSE.out.below hb)
  clear hb he1
  have t0 : ¬ ((a : Nat) : Int) < 0 := by omega
  by_cases hlt : a < 4096
  · have t1 : ((a : Nat) : Int) < 4096 := by omega
    have HNF := Shut.mk (HNA.out hlt)
    clear hlt
    go_wp2_with (fail)
    refine (near_any HSE2.out HI.out (a : Nat)).mono ?_
    rintro e w3 ⟨rfl, hb⟩
    rw [HNF.out]
    have he3 := below_at hb he2
    have HB3 := Shut.mk (HB2.out.trans (hb.mono (show s0 ≤ w2.heap.size by have h1 := HB2.out.size; have h2 := HS0.out; omega)))
    clear hb he2 a13
    go_wp2_with (fail)
    go_quiet (fail)
    go_wp2_with (fail)
    go_ret2
    exact ⟨rfl, by rw [HS0.out]; exact below_drewN HB3.out _⟩
  · have t1 : ¬ ((a : Nat) : Int) < 4096 := by omega
    clear hlt
    go_wp2_with (fail)
    go_quiet (fail)
    go_wp2_with (fail)
    go_ret2
    exact ⟨rfl, by rw [HS0.out]; exact below_drewN HB2.out _⟩
def HeardOut (B : Nat) (w : World) (p : Sp) (s : Sb) (a M : Nat) (e : Ending) (w' : World) : Prop :=
  ∃ tv p' x', e = .returned (.tuple #[tv, .nilIface]) ∧ OwnM w' w.heap.size tv (toldM (ackP a M) s.l) ∧ IsSe B w' p' { s with x := x', l := lostL (s.l.filter fun f => !ackP a M f) } ∧ InvX x' (lostL (s.l.filter fun f => !ackP a M f)) ∧ x'.sz = s.x.sz ∧ nmW x' x'.gv = nmW s.x s.x.gv ∧ p'.g = p.g ∧ p'.gw = p.gw ∧ Only (FootS p) w w' ∧ (∀ k, p'.v.ownBlock = some k → w.heap.size ≤ k)
set_option maxRecDepth 100000 in
set_option maxHeartbeats 8000000 in
theorem heard_ok (h : IsSe B w p s) (hi : InvB s) (hT : Tab64 w) (hgt : 5 < B) (hf : s.l.any flyP = true) (a M : Nat) (ha : a < 4096) (hM : M < 18446744073709551616) (hn : s.l.any (nearP (a : Int)) = true) :
    Calls Tryd.prog 21 #[.pointer (some ⟨p.g, 0, none⟩), .agg #[.int .u8 0, .int .u8 0, .int .u8 0, .int .u8 0, .int .u8 0, .int .u8 0, .int .u8 0, .int .u8 0, .int .u8 0, .int .u8 0, .int .u8 0, .int .u8 0, .int .i64 0, .int .i64 ((a : Nat) : Int), .int .u64 ((M : Nat) : Int)]] w fun e w' => HeardOut B w p s a M e w' := by
  have HB1 := Shut.mk ((Below.refl w.heap.size w).alloc (Nat.le_refl _) (Obj.cells #[.int .u8 0, .int .u8 0, .int .u8 0, .int .u8 0, .int .u8 0, .int .u8 0, .int .u8 0, .int .u8 0, .int .u8 0, .int .u8 0, .int .u8 0, .int .u8 0, .int .i64 0, .int .i64 ((a : Nat) : Int), .int .u64 ((M : Nat) : Int)] 59 (0, 0)))
  have HSZ := Shut.mk (show w.heap.size ≤ (w.alloc (Obj.cells #[.int .u8 0, .int .u8 0, .int .u8 0, .int .u8 0, .int .u8 0, .int .u8 0, .int .u8 0, .int .u8 0, .int .u8 0, .int .u8 0, .int .u8 0, .int .u8 0, .int .i64 0, .int .i64 ((a : Nat) : Int), .int .u64 ((M : Nat) : Int)] 59 (0, 0))).heap.size by simp)
  have HF := Shut.mk (somefly_any (h.below HB1.out) hi)
  have hr := block_range (heap_alloc_last w (Obj.cells #[.int .u8 0, .int .u8 0, .int .u8 0, .int .u8 0, .int .u8 0, .int .u8 0, .int .u8 0, .int .u8 0, .int .u8 0, .int .u8 0, .int .u8 0, .int .u8 0, .int .i64 0, .int .i64 ((a : Nat) : Int), .int .u64 ((M : Nat) : Int)] 59 (0, 0)))
  have HAC := Shut.mk (show (w.alloc (Obj.cells #[.int .u8 0, .int .u8 0, .int .u8 0, .int .u8 0, .int .u8 0, .int .u8 0, .int .u8 0, .int .u8 0, .int .u8 0, .int .u8 0, .int .u8 0, .int .u8 0, .int .i64 0, .int .i64 ((a : Nat) : Int), .int .u64 ((M : Nat) : Int)] 59 (0, 0))).cell? ⟨w.heap.size, 13, none⟩ = some (.int .i64 ((a : Nat) : Int)) by have h9 := hr 13 _ rfl; rw [Nat.zero_add] at h9; exact h9)
  have HMC := Shut.mk (show (w.alloc (Obj.cells #[.int .u8 0, .int .u8 0, .int .u8 0, .int .u8 0, .int .u8 0, .int .u8 0, .int .u8 0, .int .u8 0, .int .u8 0, .int .u8 0, .int .u8 0, .int .u8 0, .int .i64 0, .int .i64 ((a : Nat) : Int), .int .u64 ((M : Nat) : Int)] 59 (0, 0))).cell? ⟨w.heap.size, 14, none⟩ = some (.int .u64 ((M : Nat) : Int)) by have h9 := hr 14 _ rfl; rw [Nat.zero_add] at h9; exact h9)
  rw [hf] at HF
  have HSE := Shut.mk (h.below HB1.out)
  have HS00 := Shut.mk h
  have HI := Shut.mk hi
  have HNA := Shut.mk hn
  have HT := Shut.mk (hT.below HB1.out)
  have HGT := Shut.mk hgt
  have HAM := Shut.mk (And.intro ha hM)
  have t0 : ¬ ((a : Nat) : Int) < 0 := by omega
  have t1 : ((a : Nat) : Int) < 4096 := by omega
  clear h hi hf ha hM hn hT hgt hr
  go_enter Tryd.func21, Tryd.ntmps21
  go_wp2_with (fail)
  generalize World.alloc w _ = w1 at *
  obtain ⟨s0, hs0⟩ : ∃ s0, s0 = w.heap.size := ⟨_, rfl⟩
  have HS0 := Shut.mk hs0.symm
  rw [← hs0] at HAC HMC HSZ ⊢
  clear hs0
  refine HF.out.mono ?_
  rintro e w2 ⟨rfl, hb⟩
  have HB2 := Shut.mk (HB1.out.trans (hb.mono (by rw [HS0.out]; exact HSZ.out)))
  have a13 := below_at hb HAC.out
  have a14 := below_at hb HMC.out
  have HSE2 := Shut.mk (HSE.out.below hb)
  have HT2 := Shut.mk (HT.out.below hb)
  clear hb
  go_wp2_with (fail)
  refine (near_any HSE2.out HI.out (a : Nat)).mono ?_
  rintro e w3 ⟨rfl, hb⟩
  rw [HNA.out]
  have HB3 := Shut.mk (HB2.out.trans (hb.mono HB2.out.size))
  have HA13 := Shut.mk (below_at hb a13)
  have HA14 := Shut.mk (below_at hb a14)
  have HSE3 := Shut.mk (HSE2.out.below hb)
  have HT3 := Shut.mk (HT2.out.below hb)
  have HPW := Shut.mk (show s0 ≠ p.gw by have h1 := (HS00.out.foot p.gw (.inr (.inl rfl))).2; have h2 := HS0.out; omega)
  clear hb a13 a14
  go_wp2_with (fail)
  refine (partH_any HSE3.out HI.out HT3.out HGT.out s0 a M HAM.out.1 HAM.out.2 HA13.out HA14.out HPW.out).mono ?_
  rintro e w4 ⟨tv, lv, uv, x, rfl, htd, hs4, hix, hsz, hah, hon, hfr, -, -, -⟩
  obtain ⟨At, ct, htv, -⟩ := owns_form htd.1
  subst htv
  have HTD := Shut.mk htd
  have HS4 := Shut.mk hs4
  have HIX := Shut.mk hix
  have HZ := Shut.mk (And.intro hsz hah)
  have HON := Shut.mk hon
  have HFR := Shut.mk hfr
  have HLE := Shut.mk (show (s.l.filter fun f => !ackP a M f).length ≤ 64 from Nat.le_trans (List.length_filter_le _ _) HI.out.len)
  clear htd hs4 hix hsz hah hon hfr
  go_wp2_with (fail)
  refine (land_any HS4.out HLE.out).mono ?_
  rintro e w5 ⟨rfl, hs5, ho5⟩
  have HS5 := Shut.mk hs5
  have HO5 := Shut.mk ho5
  clear hs5 ho5
  go_wp2_with (fail)
  go_ret2
  have hw3 : w.heap.size ≤ w3.heap.size := HB3.out.size
  have hfp := fun k hk => (HSE3.out.foot k hk)
  have hf0 := fun k hk => (HS00.out.foot k hk)
  refine ⟨_, ⟨p.g, p.gw, lv⟩, x, rfl, ?_, HS5.out, HIX.out.same nums_lost, HZ.out.1, HZ.out.2, rfl, rfl, ?_, fun k hk => Nat.le_trans hw3 (HFR.out k hk).1⟩
  · have h1 := own_only HTD.out HO5.out (fun g hg e => by
      have h2 := (HTD.out.lt g hg).1
      rcases e with e | e | e
      · have h3 := (hf0 p.g (.inl rfl)).2; have e2 : g = p.g := e; omega
      · have h3 := (hf0 p.gw (.inr (.inl rfl))).2; have e2 : g = p.gw := e; omega
      · exact (HFR.out g e).2.1 hg)
    exact ⟨owns_base h1.1 hw3, h1.2⟩
  · have q3 : Only (FootS p) w w3 := Only.of_quiet HB3.out
    have q4 := q3.trans HON.out fun i _ e => by
      rcases e with e | e | e
      · exact .inl e
      · exact .inr (.inl e)
      · cases e
    exact q4.trans HO5.out fun i hi2 e => by
      rcases e with e | e | e
      · exact .inl e
      · exact .inr (.inl e)
      · have h1 := (HFR.out i e).1; omega
end

/-! ### the chapter's example -/
set_option maxRecDepth 100000 in
set_option maxHeartbeats 4000000 in
theorem first_any (w : World) : Calls Tryd.prog 9 #[] w fun e w' => e = .returned (.bool true) ∧ Below w.heap.size w w' := by
  have HN := Shut.mk (newS_any 8 3 100 (by decide) (by decide) (by decide) (by decide) (by decide) w.heap.size w (Nat.le_refl _))
  have HV := Shut.mk (invB_new (size := 8) (retry := 3) (life := 100) (by decide) (by decide) (by decide) (by decide) (by decide))
  go_enter Tryd.func9, Tryd.ntmps9
  go_wp2_with (fail)
  refine HN.out.mono ?_
  rintro e w1 ⟨p, rfl, hs, hb⟩
  have HS := Shut.mk hs
  have HB := Shut.mk hb
  clear hs hb HN
  go_wp2_with (fail)
  refine (state_any HS.out).mono ?_
  rintro e wn ⟨rfl, rfl⟩
  rw [show (((newB 8 3 100).state : Nat) : Int) = 1 from rfl]
  go_wp2_with (fail)
  refine (room_any HS.out HV.out).mono ?_
  rintro e w2 ⟨rfl, n, hn⟩
  have HB2 := Shut.mk (show Below w.heap.size w w2 by rw [hn]; exact below_drewN HB.out n)
  rw [show (((newB 8 3 100).x.sz - (newB 8 3 100).x.gv : Nat) : Int) = 1 from rfl]
  clear hn
  go_wp2_with (fail)
  go_ret
  exact ⟨rfl, HB2.out⟩
end Go.Proofs.YtlbfioknkagboaaDoor
