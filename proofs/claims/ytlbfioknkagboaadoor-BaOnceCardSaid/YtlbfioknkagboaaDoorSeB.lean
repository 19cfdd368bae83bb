/-
  CONTRACTS of ba's copied (a nil body), until, due, flying, reason; State, Start, Room, Bar.
-/
import Derived.Test.YtlbfioknkagboaaDoorSeA
import Derived.Lib.SliceRun
namespace Go.Proofs.YtlbfioknkagboaaDoor
open Go.ChangeShapes Go.WideShapes Go.ChangeAt Go.RowKit Go.Deep
set_option linter.unusedVariables false
set_option linter.unusedSimpArgs false

theorem sizeM : (Tryd.prog.info? 40).map (·.size) = some 8 := by kernel_rfl
theorem sizeF : (Tryd.prog.info? 85).map (·.size) = some 9 := by kernel_rfl
theorem sizeQ : (Tryd.prog.info? 78).map (·.size) = some 3 := by kernel_rfl
theorem sizeBs : (Tryd.prog.info? 36).map (·.size) = some 1 := by kernel_rfl
theorem sizeB1 : (Tryd.prog.info? 4).map (·.size) = some 1 := by kernel_rfl
theorem sizeFs : (Tryd.prog.info? 76).map (·.size) = some 1 := by kernel_rfl
theorem sizeNs : (Tryd.prog.info? 47).map (·.size) = some 1 := by kernel_rfl
section
variable (pi pf pt pa tl : Int) (sq sn : Nat) (fb : Bool)
theorem mp_one : (#[.int .i64 pi, .int .u32 pf, .int .i64 pt, .int .i64 pa, .slice none 0 0, .int .i64 ((sq : Nat) : Int), .int .i64 ((sn : Nat) : Int), .int .i64 tl] : Array Value).all (·.oneCell') = true := by simp [Value.oneCell']
theorem fr_one : (#[.int .i64 pi, .int .u32 pf, .int .i64 pt, .int .i64 pa, .slice none 0 0, .int .i64 ((sq : Nat) : Int), .int .i64 ((sn : Nat) : Int), .int .i64 tl, .bool fb] : Array Value).all (·.oneCell') = true := by simp [Value.oneCell']
end
theorem below_setRow {B : Nat} {a w : World} (h : Below B a w) {g : Nat} (hg : B ≤ g) (cs : Array Value) : Below B a (w.setRow g cs) :=
  h.trans ⟨rfl, rfl, rfl, by simp [World.setRow], fun k hk => setRow_other w g k cs (by omega)⟩
theorem two_alloc (w : World) (a b : Obj) : Below w.heap.size w ((w.alloc a).alloc b) ∧ ((w.alloc a).alloc b).heap[w.heap.size]? = some a ∧ ((w.alloc a).alloc b).heap[w.heap.size + 1]? = some b ∧ ((w.alloc a).alloc b).heap.size = w.heap.size + 2 := by
  have hs : (w.alloc a).heap.size = w.heap.size + 1 := by simp
  refine ⟨((Below.refl _ w).alloc (Nat.le_refl _) a).alloc (by rw [hs]; omega) b, ?_, by rw [← hs]; exact heap_alloc_last _ _, by simp⟩
  exact (((Below.refl _ (w.alloc a)).alloc (Nat.le_refl _) b).block w.heap.size (by rw [hs]; omega)).trans (heap_alloc_last w a)
theorem results_c1 {P : Program} {fn : Func} {p q : Tmp} {ty : TypeId} (h : fn.results = #[.cell p ty, .tmp q]) (tmps : Array Value) (w : World) (g : Nat) (t : TypeId) (cs : Array Value) (fr : Nat × Nat) (d : TypeDesc) (v : Value)
    (hp : tmps.getD p undef = .pointer (some ⟨g, 0, none⟩)) (hq : tmps.getD q undef = v) (hg : w.heap[g]? = some (.cells cs t fr))
    (hu : P.underlying ty = some d) (hd : (match d with | .struct _ | .array _ _ => true | _ => false) = true) (hi : (P.info? ty).map (·.size) = some cs.size) :
    (results fn tmps).run P w = .ok (.tuple #[.agg cs, v]) w := by
  have hp' : tmps[p]?.getD undef = .pointer (some ⟨g, 0, none⟩) := by simpa using hp
  have hq' : tmps[q]?.getD undef = v := by simpa using hq
  simp [results, h, hp', hq', asAddr, run_loadVar_row w g t ty cs fr d hg hu hd hi]

/-! ### copied -/
set_option maxRecDepth 100000 in
set_option maxHeartbeats 4000000 in
theorem clonenil_any (w : World) : Calls Tryd.prog 59 #[.slice none 0 0] w fun e w' => e = .returned (.slice none 0 0) ∧ w = w' := by
  have hq := Lib.run_eql_slice_nil (P := Tryd.prog) w 36 5 none 0 0 0 0 Tryd.underlying36
  simp only [Option.isNone_none] at hq
  go_enter Tryd.func59, Tryd.ntmps59
  go_wp2
  go_ret
  exact ⟨rfl, rfl⟩
set_option maxRecDepth 100000 in
set_option maxHeartbeats 4000000 in
theorem copied_any (pi pf pt pa tl : Int) (sq sn : Nat) (w : World) :
    Calls Tryd.prog 36 #[.agg #[.int .i64 pi, .int .u32 pf, .int .i64 pt, .int .i64 pa, .slice none 0 0, .int .i64 ((sq : Nat) : Int), .int .i64 ((sn : Nat) : Int), .int .i64 tl]] w fun e w' => e = .returned (.agg #[.int .i64 pi, .int .u32 pf, .int .i64 pt, .int .i64 pa, .slice none 0 0, .int .i64 ((sq : Nat) : Int), .int .i64 ((sn : Nat) : Int), .int .i64 tl]) ∧ Below w.heap.size w w' := by
  go_enter Tryd.func36, Tryd.ntmps36
  have H2 := Shut.mk (two_alloc w (Obj.cells #[.int .i64 pi, .int .u32 pf, .int .i64 pt, .int .i64 pa, .slice none 0 0, .int .i64 ((sq : Nat) : Int), .int .i64 ((sn : Nat) : Int), .int .i64 tl] 40 (0, 0)) (Obj.cells #[.int .i64 0, .int .u32 0, .int .i64 0, .int .i64 0, .slice none 0 0, .int .i64 0, .int .i64 0, .int .i64 0] 40 (0, 0)))
  go_wp2_with (fail)
  generalize (w.alloc _).alloc _ = w1 at *
  refine (clonenil_any w1).mono ?_
  rintro e w2 ⟨rfl, rfl⟩
  have HB := Shut.mk H2.out.1
  have HX0 := Shut.mk H2.out.2.1
  have HX1 := Shut.mk H2.out.2.2.1
  generalize hs0 : w.heap.size = s at *
  have HS := Shut.mk hs0
  clear hs0
  have HY0 := Shut.mk (setRow_heap w1 s _ #[.int .i64 pi, .int .u32 pf, .int .i64 pt, .int .i64 pa, .slice none 0 0, .int .i64 ((sq : Nat) : Int), .int .i64 ((sn : Nat) : Int), .int .i64 tl] _ (0, 0) HX0.out)
  have HY1 := Shut.mk ((setRow_other w1 s (s + 1) #[.int .i64 pi, .int .u32 pf, .int .i64 pt, .int .i64 pa, .slice none 0 0, .int .i64 ((sq : Nat) : Int), .int .i64 ((sn : Nat) : Int), .int .i64 tl] (by omega)).trans HX1.out)
  have HBY := Shut.mk (below_setRow HB.out (g := s) (Nat.le_refl _) #[.int .i64 pi, .int .u32 pf, .int .i64 pt, .int .i64 pa, .slice none 0 0, .int .i64 ((sq : Nat) : Int), .int .i64 ((sn : Nat) : Int), .int .i64 tl])
  go_wp2_with (first
    | (refine wpList_store_into rfl 36 (.tmp 8) (.tmp 6) rfl s 4 (.slice none 0 0) rfl rfl rfl 40 _ #[.int .i64 pi, .int .u32 pf, .int .i64 pt, .int .i64 pa, .slice none 0 0, .int .i64 ((sq : Nat) : Int), .int .i64 ((sn : Nat) : Int), .int .i64 tl] HX0.out sizeBs (by show 4 < 8; omega) rfl ?_)
    | (refine wpList_load_row rfl 40 (.tmp 1) rfl s rfl 40 #[.int .i64 pi, .int .u32 pf, .int .i64 pt, .int .i64 pa, .slice none 0 0, .int .i64 ((sq : Nat) : Int), .int .i64 ((sn : Nat) : Int), .int .i64 tl] (0, 0) _ HY0.out Tryd.underlying40 rfl sizeM ?_)
    | (refine wpList_store_row rfl 40 (.tmp 2) (.tmp 9) rfl (s + 1) #[.int .i64 pi, .int .u32 pf, .int .i64 pt, .int .i64 pa, .slice none 0 0, .int .i64 ((sq : Nat) : Int), .int .i64 ((sn : Nat) : Int), .int .i64 tl] rfl rfl 40 _ HY1.out sizeM rfl (mp_one _ _ _ _ _ _ _) ?_))
  have HZ := Shut.mk (setRow_heap (w1.setRow s #[.int .i64 pi, .int .u32 pf, .int .i64 pt, .int .i64 pa, .slice none 0 0, .int .i64 ((sq : Nat) : Int), .int .i64 ((sn : Nat) : Int), .int .i64 tl]) (s + 1) _ #[.int .i64 pi, .int .u32 pf, .int .i64 pt, .int .i64 pa, .slice none 0 0, .int .i64 ((sq : Nat) : Int), .int .i64 ((sn : Nat) : Int), .int .i64 tl] _ (0, 0) HY1.out)
  have HBZ := Shut.mk (below_setRow HBY.out (g := s + 1) (by omega) #[.int .i64 pi, .int .u32 pf, .int .i64 pt, .int .i64 pa, .slice none 0 0, .int .i64 ((sq : Nat) : Int), .int .i64 ((sn : Nat) : Int), .int .i64 tl])
  exact bodyPost_ret (v := .agg #[.int .i64 pi, .int .u32 pf, .int .i64 pt, .int .i64 pa, .slice none 0 0, .int .i64 ((sq : Nat) : Int), .int .i64 ((sn : Nat) : Int), .int .i64 tl]) (results_cell1 (p := 2) Tryd.results36 _ _ (s + 1) _ _ _ _ rfl HZ.out Tryd.underlying40 rfl sizeM) rfl ⟨rfl, by rw [HS.out]; exact HBZ.out⟩

/-! ### one frame -/
theorem due_any (pi pf pt pa tl : Int) (sq sn : Nat) (fb : Bool) (w : World) :
    Calls Tryd.prog 43 #[.agg #[.int .i64 pi, .int .u32 pf, .int .i64 pt, .int .i64 pa, .slice none 0 0, .int .i64 ((sq : Nat) : Int), .int .i64 ((sn : Nat) : Int), .int .i64 tl, .bool fb]] w fun e w' => e = .returned (.bool (!fb)) ∧ Below w.heap.size w w' := by
  go_enter Tryd.func43, Tryd.ntmps43
  have HB := Shut.mk ((Below.refl w.heap.size w).alloc (Nat.le_refl _) (Obj.cells #[.int .i64 pi, .int .u32 pf, .int .i64 pt, .int .i64 pa, .slice none 0 0, .int .i64 ((sq : Nat) : Int), .int .i64 ((sn : Nat) : Int), .int .i64 tl, .bool fb] 85 (0, 0)))
  have c8 : (w.alloc (Obj.cells #[.int .i64 pi, .int .u32 pf, .int .i64 pt, .int .i64 pa, .slice none 0 0, .int .i64 ((sq : Nat) : Int), .int .i64 ((sn : Nat) : Int), .int .i64 tl, .bool fb] 85 (0, 0))).cell? ⟨w.heap.size, 8, none⟩ = some (.bool fb) := by have h9 := (block_range (heap_alloc_last w (Obj.cells #[.int .i64 pi, .int .u32 pf, .int .i64 pt, .int .i64 pa, .slice none 0 0, .int .i64 ((sq : Nat) : Int), .int .i64 ((sn : Nat) : Int), .int .i64 tl, .bool fb] 85 (0, 0)))) 8 _ rfl; rw [Nat.zero_add] at h9; exact h9
  go_wp2
  go_ret
  exact ⟨rfl, HB.out⟩
theorem flying_any (pi pf pt pa tl : Int) (sq sn : Nat) (fb : Bool) (w : World) :
    Calls Tryd.prog 44 #[.agg #[.int .i64 pi, .int .u32 pf, .int .i64 pt, .int .i64 pa, .slice none 0 0, .int .i64 ((sq : Nat) : Int), .int .i64 ((sn : Nat) : Int), .int .i64 tl, .bool fb]] w fun e w' => e = .returned (.bool fb) ∧ Below w.heap.size w w' := by
  go_enter Tryd.func44, Tryd.ntmps44
  have HB := Shut.mk ((Below.refl w.heap.size w).alloc (Nat.le_refl _) (Obj.cells #[.int .i64 pi, .int .u32 pf, .int .i64 pt, .int .i64 pa, .slice none 0 0, .int .i64 ((sq : Nat) : Int), .int .i64 ((sn : Nat) : Int), .int .i64 tl, .bool fb] 85 (0, 0)))
  have c8 : (w.alloc (Obj.cells #[.int .i64 pi, .int .u32 pf, .int .i64 pt, .int .i64 pa, .slice none 0 0, .int .i64 ((sq : Nat) : Int), .int .i64 ((sn : Nat) : Int), .int .i64 tl, .bool fb] 85 (0, 0))).cell? ⟨w.heap.size, 8, none⟩ = some (.bool fb) := by have h9 := (block_range (heap_alloc_last w (Obj.cells #[.int .i64 pi, .int .u32 pf, .int .i64 pt, .int .i64 pa, .slice none 0 0, .int .i64 ((sq : Nat) : Int), .int .i64 ((sn : Nat) : Int), .int .i64 tl, .bool fb] 85 (0, 0)))) 8 _ rfl; rw [Nat.zero_add] at h9; exact h9
  go_wp2
  go_ret
  exact ⟨rfl, HB.out⟩
theorem anyone_any (pi pf pt pa tl : Int) (sq sn : Nat) (fb : Bool) (w : World) :
    Calls Tryd.prog 52 #[.agg #[.int .i64 pi, .int .u32 pf, .int .i64 pt, .int .i64 pa, .slice none 0 0, .int .i64 ((sq : Nat) : Int), .int .i64 ((sn : Nat) : Int), .int .i64 tl, .bool fb]] w fun e w' => e = .returned (.bool true) ∧ Below w.heap.size w w' := by
  go_enter Tryd.func52, Tryd.ntmps52
  have HB := Shut.mk ((Below.refl w.heap.size w).alloc (Nat.le_refl _) (Obj.cells #[.int .i64 pi, .int .u32 pf, .int .i64 pt, .int .i64 pa, .slice none 0 0, .int .i64 ((sq : Nat) : Int), .int .i64 ((sn : Nat) : Int), .int .i64 tl, .bool fb] 85 (0, 0)))
  go_wp2
  go_ret
  exact ⟨rfl, HB.out⟩
def whyF (retry : Nat) (now : Int) (f : Fm) : Nat := if f.2 = true then 0 else whyM retry now f.1
set_option maxRecDepth 100000 in
set_option maxHeartbeats 4000000 in
theorem reason_any (g rt : Nat) (pi pf pt pa tl now : Int) (sq sn : Nat) (fb : Bool) (w : World) (c1 : w.cell? ⟨g, 1, none⟩ = some (.int .i64 ((rt : Nat) : Int))) :
    Calls Tryd.prog 40 #[.pointer (some ⟨g, 0, none⟩), .agg #[.int .i64 pi, .int .u32 pf, .int .i64 pt, .int .i64 pa, .slice none 0 0, .int .i64 ((sq : Nat) : Int), .int .i64 ((sn : Nat) : Int), .int .i64 tl, .bool fb], .int .i64 now] w fun e w' => e = .returned (.int .i64 ((whyF rt now (⟨⟨pi, pf, pt, pa, []⟩, sq, sn, tl⟩, fb) : Nat) : Int)) ∧ Below w.heap.size w w' := by
  obtain ⟨ob, hob⟩ : ∃ ob, ob = Obj.cells #[.int .i64 pi, .int .u32 pf, .int .i64 pt, .int .i64 pa, .slice none 0 0, .int .i64 ((sq : Nat) : Int), .int .i64 ((sn : Nat) : Int), .int .i64 tl, .bool fb] 85 (0, 0) := ⟨_, rfl⟩
  have HB := Shut.mk ((Below.refl w.heap.size w).alloc (Nat.le_refl _) ob)
  have hr := block_range (heap_alloc_last w (Obj.cells #[.int .i64 pi, .int .u32 pf, .int .i64 pt, .int .i64 pa, .slice none 0 0, .int .i64 ((sq : Nat) : Int), .int .i64 ((sn : Nat) : Int), .int .i64 tl, .bool fb] 85 (0, 0)))
  have c18 := below_at HB.out c1
  rw [hob] at HB c18
  have d6 : (w.alloc (Obj.cells #[.int .i64 pi, .int .u32 pf, .int .i64 pt, .int .i64 pa, .slice none 0 0, .int .i64 ((sq : Nat) : Int), .int .i64 ((sn : Nat) : Int), .int .i64 tl, .bool fb] 85 (0, 0))).cell? ⟨w.heap.size, 6, none⟩ = some (.int .i64 ((sn : Nat) : Int)) := by have h9 := hr 6 _ rfl; rw [Nat.zero_add] at h9; exact h9
  have d7 : (w.alloc (Obj.cells #[.int .i64 pi, .int .u32 pf, .int .i64 pt, .int .i64 pa, .slice none 0 0, .int .i64 ((sq : Nat) : Int), .int .i64 ((sn : Nat) : Int), .int .i64 tl, .bool fb] 85 (0, 0))).cell? ⟨w.heap.size, 7, none⟩ = some (.int .i64 tl) := by have h9 := hr 7 _ rfl; rw [Nat.zero_add] at h9; exact h9
  have d8 : (w.alloc (Obj.cells #[.int .i64 pi, .int .u32 pf, .int .i64 pt, .int .i64 pa, .slice none 0 0, .int .i64 ((sq : Nat) : Int), .int .i64 ((sn : Nat) : Int), .int .i64 tl, .bool fb] 85 (0, 0))).cell? ⟨w.heap.size, 8, none⟩ = some (.bool fb) := by have h9 := hr 8 _ rfl; rw [Nat.zero_add] at h9; exact h9
  clear hr hob c1
  cases fb with
  | true =>
    have HW := Shut.mk (show whyF rt now (⟨⟨pi, pf, pt, pa, []⟩, sq, sn, tl⟩, true) = 0 from rfl)
    go_enter Tryd.func40, Tryd.ntmps40
    go_wp2
    go_ret
    exact ⟨by rw [HW.out]; rfl, HB.out⟩
  | false =>
    by_cases h1 : rt < sn
    · have HW := Shut.mk (show whyF rt now (⟨⟨pi, pf, pt, pa, []⟩, sq, sn, tl⟩, false) = 3 by unfold whyF whyM; simp [h1])
      have h1b : (rt : Int) < (sn : Int) := by omega
      go_enter Tryd.func40, Tryd.ntmps40
      go_wp2_with (fail)
      go_quiet (fail)
      go_wp2_with (fail)
      go_ret
      exact ⟨by rw [HW.out]; rfl, below_drewN HB.out _⟩
    · have h1b : ¬ (rt : Int) < (sn : Int) := by omega
      by_cases h2 : tl < now
      · have HW := Shut.mk (show whyF rt now (⟨⟨pi, pf, pt, pa, []⟩, sq, sn, tl⟩, false) = 4 by unfold whyF whyM; simp [h1, h2])
        go_enter Tryd.func40, Tryd.ntmps40
        go_wp2_with (fail)
        go_quiet (fail)
        go_wp2_with (fail)
        go_ret
        exact ⟨by rw [HW.out]; rfl, below_drewN HB.out _⟩
      · have HW := Shut.mk (show whyF rt now (⟨⟨pi, pf, pt, pa, []⟩, sq, sn, tl⟩, false) = 0 by unfold whyF whyM; simp [h1, h2])
        go_enter Tryd.func40, Tryd.ntmps40
        go_wp2_with (fail)
        go_quiet (fail)
        go_wp2_with (fail)
        go_ret
        exact ⟨by rw [HW.out]; rfl, below_drewN HB.out _⟩

/-! ### what it tells -/
section
variable {B : Nat} {w : World} {p : Sp} {s : Sb}
set_option maxRecDepth 100000 in
set_option maxHeartbeats 4000000 in
theorem until_any (g : Nat) (lf now : Int) (w : World) (c2 : w.cell? ⟨g, 2, none⟩ = some (.int .i64 lf)) (hl1 : 1 ≤ lf) (hl2 : lf ≤ 1099511627776) (h0 : 0 ≤ now) (h1 : now ≤ 1000000000000) :
    Calls Tryd.prog 37 #[.pointer (some ⟨g, 0, none⟩), .int .i64 now] w fun e w' => e = .returned (.int .i64 (now + lf)) ∧ w = w' := by
  have hn : ¬ 9223372036854775807 - lf < now := by omega
  go_enter Tryd.func37, Tryd.ntmps37
  go_wp2
  go_ret
  exact ⟨rfl, rfl⟩
theorem state_any (h : IsSe B w p s) : Calls Tryd.prog 31 #[.pointer (some ⟨p.g, 0, none⟩)] w fun e w' => e = .returned (.int .i64 ((s.state : Nat) : Int)) ∧ w = w' := by
  obtain ⟨-, -, -, c3, -⟩ := h.cells
  clear h
  go_enter Tryd.func31, Tryd.ntmps31
  go_wp2
  go_ret
  exact ⟨rfl, rfl⟩
set_option maxRecDepth 100000 in
set_option maxHeartbeats 4000000 in
theorem startS_any (h : IsSe B w p s) : Calls Tryd.prog 22 #[.pointer (some ⟨p.g, 0, none⟩)] w fun e w' => e = .returned (.int .i64 ((s.x.st : Nat) : Int)) ∧ w = w' := by
  obtain ⟨-, -, -, -, -, c5, -⟩ := h.cells
  have HW := Shut.mk h.win
  clear h
  go_enter Tryd.func22, Tryd.ntmps22
  go_wp2_with (fail)
  refine (start_any p.gw s.x w HW.out).mono ?_
  rintro e w' ⟨rfl, rfl⟩
  go_wp2_with (fail)
  go_ret
  exact ⟨rfl, rfl⟩
set_option maxRecDepth 100000 in
set_option maxHeartbeats 4000000 in
theorem bar_any (h : IsSe B w p s) : Calls Tryd.prog 28 #[.pointer (some ⟨p.g, 0, none⟩)] w fun e w' => e = .returned (.tuple #[.int .i64 ((s.fr : Nat) : Int), .bool s.ask]) ∧ ∃ n, w' = w.drewN n := by
  obtain ⟨-, -, -, -, -, -, -, c7, c8, -⟩ := h.cells
  clear h
  go_enter Tryd.func28, Tryd.ntmps28
  go_wp2_with (fail)
  go_quiet (fail)
  go_wp2_with (fail)
  go_ret2
  exact ⟨rfl, _, rfl⟩
set_option maxRecDepth 100000 in
set_option maxHeartbeats 4000000 in
theorem room_any (h : IsSe B w p s) (hi : InvB s) : Calls Tryd.prog 27 #[.pointer (some ⟨p.g, 0, none⟩)] w fun e w' => e = .returned (.int .i64 (((s.x.sz - s.x.gv : Nat)) : Int)) ∧ ∃ n, w' = w.drewN n := by
  obtain ⟨-, -, -, -, -, c5, -⟩ := h.cells
  have hg := hi.inv.inv.gv
  have hz := hi.inv.inv.sz.2
  have HD := Shut.mk (rd_dist s.x hi.inv.inv.st (d := s.x.gv) (by omega))
  have HZ := Shut.mk (show (((s.x.sz - s.x.gv : Nat)) : Int) = (s.x.sz : Int) - (s.x.gv : Int) by omega)
  have H1 := Shut.mk (fun k => quiet_b (u := .int .i64 ((s.x.sz : Nat) : Int)) rfl (size_any p.gw s.x (w.drewN k) (h.drewN k).win))
  have H2 := Shut.mk (fun k => quiet_b (u := .int .i64 ((s.x.st : Nat) : Int)) rfl (start_any p.gw s.x (w.drewN k) (h.drewN k).win))
  have H3 := Shut.mk (fun k => quiet_b (u := .int .i64 ((nmW s.x s.x.gv : Nat) : Int)) rfl (ahead_any p.gw s.x (w.drewN k) (h.drewN k).win))
  have H4 := Shut.mk (fun k => quiet_b (u := .int .i64 ((s.x.gv : Nat) : Int)) (by rw [HD.out]) (dist_any ((s.x.st : Nat) : Int) ((nmW s.x s.x.gv : Nat) : Int) (w.drewN k)))
  clear h hi HD
  go_enter Tryd.func27, Tryd.ntmps27
  go_wp2_with (fail)
  go_quiet (first
    | (go_at_call 53; exact H1.out _)
    | (go_at_call 41; exact H2.out _)
    | (go_at_call 33; exact H3.out _)
    | (go_at_call 50; exact H4.out _))
  go_wp2_with (fail)
  go_ret
  exact ⟨by rw [HZ.out]; rfl, _, rfl⟩
end
end Go.Proofs.YtlbfioknkagboaaDoor
