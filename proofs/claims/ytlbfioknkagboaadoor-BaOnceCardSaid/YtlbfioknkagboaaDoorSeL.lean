/-
  CONTRACT of ba's Sweep.
-/
import Derived.Test.YtlbfioknkagboaaDoorSeK
namespace Go.Proofs.YtlbfioknkagboaaDoor
open Go.ChangeShapes Go.WideShapes Go.ChangeAt Go.RowKit Go.Deep
set_option linter.unusedVariables false
set_option linter.unusedSimpArgs false

/-- a session behind a sweep. -/
structure SweptS (s : Sb) (now : Int) (t : Sb) : Prop where
  size : t.size = s.size
  retry : t.retry = s.retry
  life : t.life = s.life
  state : t.state = s.state
  token : t.token = s.token
  l : t.l = s.l.filter fun f => !goneP s.retry now f
  vain : t.vain = s.vain
  inv : InvX t.x t.l
  sz : t.x.sz = s.x.sz
  ah : nmW t.x t.x.gv = nmW s.x s.x.gv
  yes : toldM (goneP s.retry now) s.l ≠ [] → s.state = 3 → t.ask = true ∧ t.fr = t.x.st
  no : toldM (goneP s.retry now) s.l = [] ∨ s.state ≠ 3 → t.ask = s.ask ∧ t.fr = s.fr
def SweepOut (B : Nat) (w : World) (p : Sp) (s : Sb) (now : Int) (e : Ending) (w' : World) : Prop :=
  ∃ tv uv p' t, e = .returned (.tuple #[tv, uv]) ∧ OwnM w' w.heap.size tv (toldM (goneP s.retry now) s.l) ∧ RowN w' uv (whyL s.retry now s.l) ∧ IsSe B w' p' t ∧ SweptS s now t ∧ p'.g = p.g ∧ p'.gw = p.gw ∧ Only (FootS p) w w' ∧ (∀ k, p'.v.ownBlock = some k → w.heap.size ≤ k) ∧ (∀ k, uv.ownBlock = some k → w.heap.size ≤ k)
theorem three_alloc (w : World) (a b c : Obj) : Below w.heap.size w (((w.alloc a).alloc b).alloc c) ∧ (((w.alloc a).alloc b).alloc c).heap[w.heap.size]? = some a ∧ (((w.alloc a).alloc b).alloc c).heap[w.heap.size + 1]? = some b ∧ (((w.alloc a).alloc b).alloc c).heap[w.heap.size + 2]? = some c ∧ (((w.alloc a).alloc b).alloc c).heap.size = w.heap.size + 3 := by
  obtain ⟨h1, h2, h3, h4⟩ := two_alloc w a b
  have hb := (Below.refl _ ((w.alloc a).alloc b)).alloc (Nat.le_refl _) c
  refine ⟨h1.alloc (by rw [h4]; omega) c, (hb.block _ (lt_blk h2)).trans h2, (hb.block _ (lt_blk h3)).trans h3, ?_, by simp⟩
  have h5 := heap_alloc_last ((w.alloc a).alloc b) c
  rw [h4] at h5
  exact h5
section
variable {B : Nat} {w : World} {p : Sp} {s : Sb}
set_option maxRecDepth 100000 in
set_option maxHeartbeats 8000000 in
theorem sweep_any (h : IsSe B w p s) (hi : InvB s) (hT : Tab64 w) (hgt : 5 < B) (now : Int) :
    Calls Tryd.prog 16 #[.pointer (some ⟨p.g, 0, none⟩), .int .i64 now] w fun e w' => SweepOut B w p s now e w' := by
  have H3 := Shut.mk (three_alloc w (Obj.cells #[.pointer (some ⟨p.g, 0, none⟩)] 25 (0, 0)) (Obj.cells #[.int .i64 now] 2 (0, 0)) (Obj.cells #[.slice none 0 0] 47 (0, 0)))
  have HS00 := Shut.mk h
  have HSE := Shut.mk (h.below H3.out.1)
  have HI := Shut.mk hi
  have HT := Shut.mk (hT.below H3.out.1)
  have HGT := Shut.mk hgt
  have k1 : (((w.alloc (Obj.cells #[.pointer (some ⟨p.g, 0, none⟩)] 25 (0, 0))).alloc (Obj.cells #[.int .i64 now] 2 (0, 0))).alloc (Obj.cells #[.slice none 0 0] 47 (0, 0))).cell? ⟨w.heap.size, 0, none⟩ = some (.pointer (some ⟨p.g, 0, none⟩)) := by have h9 := block_range H3.out.2.1 0 _ rfl; exact h9
  clear h hi hT hgt
  go_enter Tryd.func16, Tryd.ntmps16
  go_wp2_with (fail)
  have HB1 := Shut.mk H3.out.1
  have HK1 := Shut.mk H3.out.2.1
  have HK2 := Shut.mk H3.out.2.2.1
  have HK3 := Shut.mk H3.out.2.2.2.1
  generalize ((w.alloc _).alloc _).alloc _ = w1 at *
  obtain ⟨s0, hs0⟩ : ∃ s0, s0 = w.heap.size := ⟨_, rfl⟩
  have HS0 := Shut.mk hs0.symm
  rw [← hs0] at HK1 HK2 HK3 HB1 ⊢
  have HFT := Shut.mk (show ∀ k, FootS p k → B ≤ k ∧ k < s0 by rw [hs0]; exact HS00.out.foot)
  have HBS := Shut.mk (show B ≤ s0 by have h1 := HFT.out p.g (.inl rfl); omega)
  have HPS := Shut.mk (show p.g ≠ s0 by have h1 := HFT.out p.g (.inl rfl); omega)
  clear hs0 k1 H3
  have hk1 : w1.cell? ⟨s0, 0, none⟩ = some (.pointer (some ⟨p.g, 0, none⟩)) := by have h9 := block_range HK1.out 0 _ rfl; exact h9
  have hk2 : w1.cell? ⟨s0 + 1, 0, none⟩ = some (.int .i64 now) := by have h9 := block_range HK2.out 0 _ rfl; exact h9
  have HC10 := Shut.mk hk1
  have HFG := Shut.mk (HFT.out p.g (.inl rfl))
  have HFW := Shut.mk (HFT.out p.gw (.inr (.inl rfl)))
  refine (partS_any HSE.out HI.out HT.out HGT.out s0 (s0 + 1) (s0 + 2) now hk1 hk2 HK3.out ⟨by have := HFW.out; omega, by have := HFW.out; omega, by omega, by omega, by have := HFG.out; omega⟩ ⟨by have := HFW.out; omega, by have := HGT.out; have := HBS.out; omega, fun e => by have h1 := HFT.out _ (.inr (.inr e)); omega⟩).mono ?_
  rintro e w4 ⟨tv, lv, uv, x, rfl, htd, hs4, hix, hsz, hah, hon, hfr, hwy, hrw, huo⟩
  clear hk1 hk2
  have hwy3 := hwy _ rfl
  have HC1 := Shut.mk (show w4.cell? ⟨s0, 0, none⟩ = some (.pointer (some ⟨p.g, 0, none⟩)) from hon.cell HC10.out (fun e => by
    rcases e with e | e | e
    · have e2 : s0 = p.g := e; have := HFG.out; omega
    · have e2 : s0 = p.gw := e; have := HFW.out; omega
    · have e2 := Option.some.inj e; have e3 : s0 + 2 = s0 := e2; omega))
  have HC3 := Shut.mk (show w4.cell? ⟨s0 + 2, 0, none⟩ = some uv from by have h9 := block_range hwy3 0 _ rfl; exact h9)
  have HW3 := Shut.mk hwy3
  obtain ⟨At, ct, htv, -⟩ := owns_form htd.1
  subst htv
  obtain ⟨Au, cu, huv, -⟩ := hrw.form
  have HUV := Shut.mk huv
  obtain ⟨m, hm⟩ : ∃ m, m = (toldM (goneP s.retry now) s.l).length := ⟨_, rfl⟩
  have HM := Shut.mk hm
  rw [← hm]
  have HTD := Shut.mk htd
  have HW4 := Shut.mk hs4
  have HIX := Shut.mk hix
  have HZ := Shut.mk (And.intro hsz hah)
  have HON := Shut.mk hon
  have HFR := Shut.mk hfr
  have HRW := Shut.mk hrw
  have HUO := Shut.mk huo
  have HNE := Shut.mk HS00.out.ne
  have HQ4 := Shut.mk (show Only (FootS p) w w4 from (show Only (FootS p) w w1 from Only.of_quiet (by rw [HS0.out]; exact HB1.out)).trans HON.out fun i hi e => by
    rcases e with e | e | e
    · exact .inl e
    · exact .inr (.inl e)
    · have e2 := Option.some.inj e; have := HS0.out; omega)
  have HWS := Shut.mk (show w.heap.size ≤ w1.heap.size from HB1.out.size)
  clear htd hs4 hix hsz hah hon hfr hwy hrw huo hwy3 huv hm
  by_cases hc : m ≠ 0 ∧ s.state = 3
  · have hm1 : (0 : Int) < ((m : Nat) : Int) := by omega
    have c1 := HC1.out
    have c3 : w4.cell? ⟨p.g, 3, none⟩ = some (.int .i64 3) := by have h9 := HW4.out.cells.2.2.2.1; rw [show Sb.state { s with x := x, l := s.l.filter fun f => !goneP s.retry now f } = s.state from rfl, hc.2] at h9; exact h9
    have HCC := Shut.mk hc
    clear hc
    go_wp2_with (fail)
    obtain ⟨w5, hw5⟩ : ∃ w5, w5 = World.drew w4 := ⟨_, rfl⟩
    have HW5 := Shut.mk hw5
    have HD5 := Shut.mk (show Below w4.heap.size w4 w5 by rw [hw5]; exact (Below.refl _ _).drew)
    have HC1 := Shut.mk (below_at HD5.out c1)
    have HW4' := HW4
    have HW4 := Shut.mk (HW4'.out.below HD5.out)
    have HBw5 := Shut.mk (show w5.heap[p.g]? = some (.cells #[.int .i64 ((s.size : Nat) : Int), .int .i64 ((s.retry : Nat) : Int), .int .i64 s.life, .int .i64 ((s.state : Nat) : Int), .int .i64 s.token, .pointer (some ⟨p.gw, 0, none⟩), lv, .bool s.ask, .int .i64 ((s.fr : Nat) : Int), .int .i64 ((s.vain : Nat) : Int)] 80 (0, 0)) from HW4.out.blk)
    have HC5 := Shut.mk (show w5.cell? ⟨p.g, 5, none⟩ = some (.pointer (some ⟨p.gw, 0, none⟩)) from HW4.out.cells.2.2.2.2.2.1)
    have HK3w := Shut.mk (below_at HD5.out HC3.out)
    clear hw5 c1 c3
    refine wp_region_D (fun w' => w'.cell? ⟨s0, 0, none⟩ = some (.pointer (some ⟨p.g, 0, none⟩)) ∧ w'.cell? ⟨p.g, 5, none⟩ = some (.pointer (some ⟨p.gw, 0, none⟩)) ∧ Only (· = p.g) w5 w') 14 (by kernel_rfl) (by rw [← HW5.out]; exact ⟨HC1.out, HC5.out, Only.refl _ _⟩) (fun hHeld hC => ?_)
    rw [← HW5.out] at hHeld ⊢
    refine wpAnyD_take (i := 0) (v := ?_) 40 rfl (by kernel_rfl) hC (by kernel_rfl) (by kernel_rfl) (by kernel_rfl) (by decide) (fun _ _ _ h => h) (Or.inl ⟨by rfl, ?_⟩) (fun _ => hHeld) ?_
    rotate_left
    · intro w hSw
      have hz := hSw.1
      clear hSw
      go_simp
      try with_reducible rfl
    try simp only [Act.put, List.getElem_toArray, List.getElem_cons_zero, List.getElem_cons_succ, List.setIfInBounds_toArray, List.set_cons_zero, List.set_cons_succ]
    clear hC
    intro hC
    refine wpAnyD_take (i := 1) (v := ?_) 40 rfl (by kernel_rfl) hC (by kernel_rfl) (by kernel_rfl) (by kernel_rfl) (by decide) (fun _ _ _ h => h) (Or.inl ⟨by rfl, ?_⟩) (fun _ => hHeld) ?_
    rotate_left
    · intro w hSw
      have hz := hSw.1
      clear hSw
      go_simp
      try with_reducible rfl
    try simp only [Act.put, List.getElem_toArray, List.getElem_cons_zero, List.getElem_cons_succ, List.setIfInBounds_toArray, List.set_cons_zero, List.set_cons_succ]
    clear hC
    intro hC
    refine wpAnyD_take (i := 2) (v := ?_) 40 rfl (by kernel_rfl) hC (by kernel_rfl) (by kernel_rfl) (by kernel_rfl) (by decide) (fun _ _ _ h => h) (Or.inl ⟨by rfl, ?_⟩) (fun _ => hHeld) ?_
    rotate_left
    · intro w hSw
      have hz := hSw.1
      clear hSw
      go_simp
      try with_reducible rfl
    try simp only [Act.put, List.getElem_toArray, List.getElem_cons_zero, List.getElem_cons_succ, List.setIfInBounds_toArray, List.set_cons_zero, List.set_cons_succ]
    clear hC
    intro hC
    refine wpAnyD_pure (i := 3) (v := ?_) rfl hC (by kernel_rfl) (by kernel_rfl) (by kernel_rfl) (by decide) (fun _ _ _ h => h) (Or.inl ⟨by rfl, ?_⟩) (fun _ => hHeld) ?_
    rotate_left
    · intro w hSw
      clear hSw
      go_simp
      try with_reducible rfl
    try simp only [Act.put, List.getElem_toArray, List.getElem_cons_zero, List.getElem_cons_succ, List.setIfInBounds_toArray, List.set_cons_zero, List.set_cons_succ]
    clear hC
    intro hC
    refine wpAnyD_pure (i := 4) (v := ?_) rfl hC (by kernel_rfl) (by kernel_rfl) (by kernel_rfl) (by decide) (fun _ _ _ h => h) (Or.inl ⟨by rfl, ?_⟩) (fun _ => hHeld) ?_
    rotate_left
    · intro w hSw
      clear hSw
      go_simp
      try with_reducible rfl
    try simp only [Act.put, List.getElem_toArray, List.getElem_cons_zero, List.getElem_cons_succ, List.setIfInBounds_toArray, List.set_cons_zero, List.set_cons_succ]
    clear hC
    intro hC
    refine wpAnyD_take (i := 5) (v := ?_) 40 rfl (by kernel_rfl) hC (by kernel_rfl) (by kernel_rfl) (by kernel_rfl) (by decide) (fun _ _ _ h => h) (Or.inl ⟨by rfl, ?_⟩) (fun _ => hHeld) ?_
    rotate_left
    · intro w hSw
      have hz := hSw.2.1
      clear hSw
      go_simp
      try with_reducible rfl
    try simp only [Act.put, List.getElem_toArray, List.getElem_cons_zero, List.getElem_cons_succ, List.setIfInBounds_toArray, List.set_cons_zero, List.set_cons_succ]
    clear hC
    intro hC
    refine wpAnyD_one (i := 6) (by kernel_rfl) rfl hC (fun K hK => ?_)
    clear hC
    go_simp
    refine (start_any p.gw x w5 (HW4.out.win.only hHeld.2.2 (fun e => HNE.out e.symm))).mono ?_
    rintro e' wv1 ⟨rfl, hwv1⟩
    subst hwv1
    have hHeld2 := hHeld
    clear hHeld
    have hHeld := hHeld2
    clear hHeld2
    refine hK.out _ _ (fun _ => hHeld) (fun hC => ?_)
    clear hK K
    try simp only [Act.put, List.getElem_toArray, List.getElem_cons_zero, List.getElem_cons_succ, List.setIfInBounds_toArray, List.set_cons_zero, List.set_cons_succ]
    refine wpAnyD_pure (i := 7) (v := ?_) rfl hC (by kernel_rfl) (by kernel_rfl) (by kernel_rfl) (by decide) (fun _ _ _ h => h) (Or.inl ⟨by rfl, ?_⟩) (fun _ => hHeld) ?_
    rotate_left
    · intro w hSw
      clear hSw
      go_simp
      try with_reducible rfl
    try simp only [Act.put, List.getElem_toArray, List.getElem_cons_zero, List.getElem_cons_succ, List.setIfInBounds_toArray, List.set_cons_zero, List.set_cons_succ]
    clear hC
    intro hC
    refine wpAnyD_pure (i := 8) (v := ?_) rfl hC (by kernel_rfl) (by kernel_rfl) (by kernel_rfl) (by decide) (fun _ _ _ h => h) (Or.inl ⟨by rfl, ?_⟩) (fun _ => hHeld) ?_
    rotate_left
    · intro w hSw
      clear hSw
      go_simp
      try with_reducible rfl
    try simp only [Act.put, List.getElem_toArray, List.getElem_cons_zero, List.getElem_cons_succ, List.setIfInBounds_toArray, List.set_cons_zero, List.set_cons_succ]
    clear hC
    intro hC
    refine wpAnyD_pure (i := 9) (v := ?_) rfl hC (by kernel_rfl) (by kernel_rfl) (by kernel_rfl) (by decide) (fun _ _ _ h => h) (Or.inl ⟨by rfl, ?_⟩) (fun _ => hHeld) ?_
    rotate_left
    · intro w hSw
      clear hSw
      go_simp
      try with_reducible rfl
    try simp only [Act.put, List.getElem_toArray, List.getElem_cons_zero, List.getElem_cons_succ, List.setIfInBounds_toArray, List.set_cons_zero, List.set_cons_succ]
    clear hC
    intro hC
    refine wpAnyD_one (i := 10) (by kernel_rfl) rfl hC (fun K hK => ?_)
    clear hC
    have hh1 := hHeld.1
    have hh3 := hHeld.2.2
    have HBwv1 := Shut.mk (setRow_heap w5 p.g _ #[.int .i64 ((s.size : Nat) : Int), .int .i64 ((s.retry : Nat) : Int), .int .i64 s.life, .int .i64 ((s.state : Nat) : Int), .int .i64 s.token, .pointer (some ⟨p.gw, 0, none⟩), lv, .bool true, .int .i64 ((s.fr : Nat) : Int), .int .i64 ((s.vain : Nat) : Int)] _ (0, 0) HBw5.out)
    have HOwv1 := Shut.mk (only_setRow w5 p.g #[.int .i64 ((s.size : Nat) : Int), .int .i64 ((s.retry : Nat) : Int), .int .i64 s.life, .int .i64 ((s.state : Nat) : Int), .int .i64 s.token, .pointer (some ⟨p.gw, 0, none⟩), lv, .bool true, .int .i64 ((s.fr : Nat) : Int), .int .i64 ((s.vain : Nat) : Int)])
    obtain ⟨wv1, hwv1⟩ : ∃ wv1, wv1 = w5.setRow p.g #[.int .i64 ((s.size : Nat) : Int), .int .i64 ((s.retry : Nat) : Int), .int .i64 s.life, .int .i64 ((s.state : Nat) : Int), .int .i64 s.token, .pointer (some ⟨p.gw, 0, none⟩), lv, .bool true, .int .i64 ((s.fr : Nat) : Int), .int .i64 ((s.vain : Nat) : Int)] := ⟨_, rfl⟩
    rw [← hwv1] at HBwv1 HOwv1
    have HWwv1 := Shut.mk hwv1.symm
    clear hwv1
    refine step_store_into rfl 4 (.tmp 30) (.const (.bool true)) rfl p.g 7 (.bool true) rfl rfl rfl 80 _ #[.int .i64 ((s.size : Nat) : Int), .int .i64 ((s.retry : Nat) : Int), .int .i64 s.life, .int .i64 ((s.state : Nat) : Int), .int .i64 s.token, .pointer (some ⟨p.gw, 0, none⟩), lv, .bool true, .int .i64 ((s.fr : Nat) : Int), .int .i64 ((s.vain : Nat) : Int)] HBw5.out sizeB1 (by show 7 < 10; omega) rfl ?_
    rw [HWwv1.out]
    have HST := Shut.mk (show wv1.cell? ⟨s0, 0, none⟩ = some (.pointer (some ⟨p.g, 0, none⟩)) ∧ wv1.cell? ⟨p.g, 5, none⟩ = some (.pointer (some ⟨p.gw, 0, none⟩)) ∧ Only (· = p.g) w5 wv1 from ⟨HOwv1.out.cell hh1 (fun e => HPS.out e.symm), by have h9 := block_range HBwv1.out 5 _ rfl; rw [Nat.zero_add] at h9; exact h9, hh3.trans HOwv1.out fun i _ e => e⟩)
    have HB7 := HBwv1
    clear hh1 hh3
    have hHeld2 := HST.out
    clear hHeld
    have hHeld := hHeld2
    clear hHeld2
    refine hK.out _ _ (fun _ => hHeld) (fun hC => ?_)
    clear hK K
    try simp only [Act.put, List.getElem_toArray, List.getElem_cons_zero, List.getElem_cons_succ, List.setIfInBounds_toArray, List.set_cons_zero, List.set_cons_succ]
    refine wpAnyD_pure (i := 11) (v := ?_) rfl hC (by kernel_rfl) (by kernel_rfl) (by kernel_rfl) (by decide) (fun _ _ _ h => h) (Or.inl ⟨by rfl, ?_⟩) (fun _ => hHeld) ?_
    rotate_left
    · intro w hSw
      clear hSw
      go_simp
      try with_reducible rfl
    try simp only [Act.put, List.getElem_toArray, List.getElem_cons_zero, List.getElem_cons_succ, List.setIfInBounds_toArray, List.set_cons_zero, List.set_cons_succ]
    clear hC
    intro hC
    refine wpAnyD_pure (i := 12) (v := ?_) rfl hC (by kernel_rfl) (by kernel_rfl) (by kernel_rfl) (by decide) (fun _ _ _ h => h) (Or.inl ⟨by rfl, ?_⟩) (fun _ => hHeld) ?_
    rotate_left
    · intro w hSw
      clear hSw
      go_simp
      try with_reducible rfl
    try simp only [Act.put, List.getElem_toArray, List.getElem_cons_zero, List.getElem_cons_succ, List.setIfInBounds_toArray, List.set_cons_zero, List.set_cons_succ]
    clear hC
    intro hC
    refine wpAnyD_pure (i := 13) (v := ?_) rfl hC (by kernel_rfl) (by kernel_rfl) (by kernel_rfl) (by decide) (fun _ _ _ h => h) (Or.inl ⟨by rfl, ?_⟩) (fun _ => hHeld) ?_
    rotate_left
    · intro w hSw
      clear hSw
      go_simp
      try with_reducible rfl
    try simp only [Act.put, List.getElem_toArray, List.getElem_cons_zero, List.getElem_cons_succ, List.setIfInBounds_toArray, List.set_cons_zero, List.set_cons_succ]
    clear hC
    intro hC
    refine wpAnyD_one (i := 14) (by kernel_rfl) rfl hC (fun K hK => ?_)
    clear hC
    have HO7 := Shut.mk hHeld.2.2
    have HBwv2 := Shut.mk (setRow_heap wv1 p.g _ #[.int .i64 ((s.size : Nat) : Int), .int .i64 ((s.retry : Nat) : Int), .int .i64 s.life, .int .i64 ((s.state : Nat) : Int), .int .i64 s.token, .pointer (some ⟨p.gw, 0, none⟩), lv, .bool true, .int .i64 ((x.st : Nat) : Int), .int .i64 ((s.vain : Nat) : Int)] _ (0, 0) HB7.out)
    have HOwv2 := Shut.mk (only_setRow wv1 p.g #[.int .i64 ((s.size : Nat) : Int), .int .i64 ((s.retry : Nat) : Int), .int .i64 s.life, .int .i64 ((s.state : Nat) : Int), .int .i64 s.token, .pointer (some ⟨p.gw, 0, none⟩), lv, .bool true, .int .i64 ((x.st : Nat) : Int), .int .i64 ((s.vain : Nat) : Int)])
    obtain ⟨wv2, hwv2⟩ : ∃ wv2, wv2 = wv1.setRow p.g #[.int .i64 ((s.size : Nat) : Int), .int .i64 ((s.retry : Nat) : Int), .int .i64 s.life, .int .i64 ((s.state : Nat) : Int), .int .i64 s.token, .pointer (some ⟨p.gw, 0, none⟩), lv, .bool true, .int .i64 ((x.st : Nat) : Int), .int .i64 ((s.vain : Nat) : Int)] := ⟨_, rfl⟩
    rw [← hwv2] at HBwv2 HOwv2
    have HWwv2 := Shut.mk hwv2.symm
    clear hwv2
    refine step_store_into rfl 3 (.tmp 33) (.tmp 27) rfl p.g 8 (.int .i64 ((x.st : Nat) : Int)) rfl rfl rfl 80 _ #[.int .i64 ((s.size : Nat) : Int), .int .i64 ((s.retry : Nat) : Int), .int .i64 s.life, .int .i64 ((s.state : Nat) : Int), .int .i64 s.token, .pointer (some ⟨p.gw, 0, none⟩), lv, .bool true, .int .i64 ((x.st : Nat) : Int), .int .i64 ((s.vain : Nat) : Int)] HB7.out size1i (by show 8 < 10; omega) rfl ?_
    rw [HWwv2.out]
    have HBE := HBwv2
    have HOE := Shut.mk (HO7.out.trans HOwv2.out fun i _ e => e)
    refine hK.out _ _ (past (by kernel_rfl)) (fun hC => ?_)
    clear hK K
    try simp only [Act.put, List.getElem_toArray, List.getElem_cons_zero, List.getElem_cons_succ, List.setIfInBounds_toArray, List.set_cons_zero, List.set_cons_succ]
    refine wpAnyD_done (by kernel_rfl) ?_ _
    try simp only [Act.put, List.getElem_toArray, List.getElem_cons_zero, List.getElem_cons_succ, List.setIfInBounds_toArray, List.set_cons_zero, List.set_cons_succ]
    clear hHeld hC
    have HK3z := Shut.mk (HOE.out.cell HK3w.out (fun e => by have e2 : s0 + 2 = p.g := e; have := HFG.out; omega))
    have hk3z := HK3z.out
    rw [HUV.out] at hk3z
    have HZE := Shut.mk (show Below wv2.heap.size wv2 wv2 from Below.refl _ _)
    go_wp2_with (fail)
    go_quiet (fail)
    go_wp2_with (fail)
    go_ret2
    refine ⟨_, _, ⟨p.g, p.gw, lv⟩, { s with x := x, l := s.l.filter fun f => !goneP s.retry now f, ask := true, fr := x.st }, rfl, ?_, ?_, ?_, ⟨rfl, rfl, rfl, rfl, rfl, rfl, rfl, HIX.out, HZ.out.1, HZ.out.2, fun _ _ => ⟨rfl, rfl⟩, fun e => ?_⟩, rfl, rfl, ?_, fun k hk => Nat.le_trans HWS.out (HFR.out k hk).1, fun k hk => Nat.le_trans HWS.out (HUO.out k (by rw [HUV.out]; exact hk))⟩
    · have h1 := own_only (OwnS.below HTD.out HD5.out) HOE.out (fun g hg e => by have h2 := (HTD.out.lt g hg).1; have e2 : g = p.g := e; have h3 := HFG.out; have h4 := HS0.out; have h5 := HWS.out; omega)
      exact OwnS.drewN ⟨by rw [HM.out] at *; exact owns_base h1.1 HWS.out, h1.2⟩ _
    · have h1 := (HRW.out.only (S := fun _ => False) (Only.of_quiet HD5.out) (fun _ _ e => e)).only HOE.out (fun g hg e => by have h2 := HUO.out g hg; have e2 : g = p.g := e; have h3 := HFG.out; have h4 := HS0.out; have h5 := HWS.out; omega)
      rw [HUV.out] at h1
      exact h1
    · refine IsSe.drewN (w := wv2) (p := ⟨p.g, p.gw, lv⟩) (s := { s with x := x, l := s.l.filter fun f => !goneP s.retry now f, ask := true, fr := x.st }) ⟨HBE.out, HW4.out.win.only HOE.out (fun e => HNE.out e.symm), own_only HW4.out.row HOE.out (fun g hg e => (HW4.out.ng g hg).1 e), HW4.out.ne, HW4.out.ng, HW4.out.lo⟩ _
    · exfalso
      rcases e with e | e
      · have h9 := HM.out
        rw [e] at h9
        exact HCC.out.1 h9
      · exact e HCC.out.2
    · exact ((HQ4.out.then_quiet HD5.out).trans HOE.out fun i _ e => .inl e).drew _
  · have c1 := HC1.out
    have hk3z := HC3.out
    rw [HUV.out] at hk3z
    have HNO := Shut.mk (show toldM (goneP s.retry now) s.l = [] ∨ s.state ≠ 3 by
      by_cases hm0 : m = 0
      · exact .inl (List.length_eq_zero_iff.1 (by rw [← HM.out]; exact hm0))
      · exact .inr (fun e => hc ⟨hm0, e⟩))
    have HEND : ∀ nq, SweepOut B w p s now (.returned (.tuple #[.slice At m ct, .slice Au (whyL s.retry now s.l).length cu])) (World.drewN w4 nq) := by
      intro nq
      refine ⟨_, _, ⟨p.g, p.gw, lv⟩, { s with x := x, l := s.l.filter fun f => !goneP s.retry now f }, rfl, ?_, ?_, HW4.out.drewN nq, ⟨rfl, rfl, rfl, rfl, rfl, rfl, rfl, HIX.out, HZ.out.1, HZ.out.2, fun h1 h2 => ?_, fun _ => ⟨rfl, rfl⟩⟩, rfl, rfl, HQ4.out.drew nq, fun k hk => Nat.le_trans HWS.out (HFR.out k hk).1, fun k hk => Nat.le_trans HWS.out (HUO.out k (by rw [HUV.out]; exact hk))⟩
      · have h1 := HTD.out
        exact OwnS.drewN ⟨by rw [HM.out] at *; exact owns_base h1.1 HWS.out, h1.2⟩ _
      · have h1 := HRW.out
        rw [HUV.out] at h1
        exact h1
      · rcases HNO.out with e | e
        · exact absurd e h1
        · exact absurd h2 e
    have HEN := Shut.mk HEND
    clear HEND
    by_cases hm0 : m = 0
    · have hm1 : ¬ (0 : Int) < ((m : Nat) : Int) := by omega
      clear hc hm0
      go_wp2_with (fail)
      go_quiet (fail)
      go_wp2_with (fail)
      go_ret2
      exact HEN.out _
    · have hm1 : (0 : Int) < ((m : Nat) : Int) := by omega
      have hst : (((s.state : Nat) : Int) == 3) = false := by simp; omega
      have c3 : w4.cell? ⟨p.g, 3, none⟩ = some (.int .i64 ((s.state : Nat) : Int)) := HW4.out.cells.2.2.2.1
      clear hc hm0
      go_wp2_with (fail)
      go_quiet (fail)
      go_wp2_with (fail)
      go_ret2
      exact HEN.out _
end
end Go.Proofs.YtlbfioknkagboaaDoor
