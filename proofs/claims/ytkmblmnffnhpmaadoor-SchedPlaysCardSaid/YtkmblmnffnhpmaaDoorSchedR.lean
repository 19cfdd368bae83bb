/-
  THE REFERENCE'S turns: a list of its own; Find, weight, Add, Del, Weigh, Charge.
-/
import Derived.Test.YtkmblmnffnhpmaaDoorHeapM
import Derived.Test.YtkmblmnffnhpmaaDoorRowN
import Derived.Test.YtkmblmnffnhpmaaDoorRowT
import Derived.Test.YtkmblmnffnhpmaaDoorPlainB
import Derived.Test.YtkmblmnffnhpmaaDoorShutA
import Derived.StillTailTactics
import Derived.LoopTactic
namespace Go.Proofs.YtkmblmnffnhpmaaDoor
open Go.ChangeShapes Go.WideShapes Go.ChangeAt Go.RowKit Go.Deep
set_option linter.unusedVariables false
set_option linter.unusedSimpArgs false

/-! ### a turn, the list -/
def tu0 : Tu := ⟨0, 0, 0, false⟩
def trC (t : Tu) : List Value := [.int .i64 (t.aid : Nat), .int .i64 (t.wt : Nat), .int .i64 (t.tm : Nat), .bool t.on]
theorem trC_len (t : Tu) : (trC t).length = 4 := rfl
theorem trC_one (t : Tu) : ∀ q ∈ trC t, q.oneCell' = true := by intro q hq; unfold trC at hq; simp only [List.mem_cons, List.not_mem_nil, or_false] at hq; rcases hq with rfl | rfl | rfl | rfl <;> rfl
structure OkT (t : Tu) : Prop where
  aid : 1 ≤ t.aid ∧ t.aid ≤ 16
  wt : 1 ≤ t.wt ∧ t.wt ≤ 100
  tm : t.tm ≤ 1152921504606846976
structure InvT (l : List Tu) : Prop where
  ok : ∀ t ∈ l, OkT t
  nd : (l.map Tu.aid).Nodup
def aidT (a : Int) : Bool := decide (1 ≤ a) && decide (a ≤ 16)
def wtT (n : Int) : Bool := decide (1 ≤ n) && decide (n ≤ 100)
/-- where a number stands. -/
def fiT (l : List Tu) (a : Int) : Nat := l.findIdx fun t => ((t.aid : Nat) : Int) == a
def hasT (l : List Tu) (a : Int) : Bool := decide (fiT l a < l.length)
def ansF (l : List Tu) (a : Int) : Int := if hasT l a = true then ((fiT l a : Nat) : Int) else -1
theorem fiT_le (l : List Tu) (a : Int) : fiT l a ≤ l.length := List.findIdx_le_length
theorem fiT_not {l : List Tu} {a : Int} {k : Nat} (h : k < fiT l a) : ¬ (((l.getD k tu0).aid : Nat) : Int) = a := by
  have hk : k < l.length := Nat.lt_of_lt_of_le h (fiT_le l a)
  have := List.not_of_lt_findIdx h
  have e : l.getD k tu0 = l[k] := by simp [List.getD, hk]
  rw [e]
  simpa using this
theorem fiT_at {l : List Tu} {a : Int} (h : fiT l a < l.length) : (((l.getD (fiT l a) tu0).aid : Nat) : Int) = a := by
  have := List.findIdx_getElem (p := fun t : Tu => ((t.aid : Nat) : Int) == a) (w := h)
  have e : l.getD (fiT l a) tu0 = l[fiT l a] := by simp [List.getD, h]
  rw [e]
  have h3 : ((((l[fiT l a]'h).aid : Nat) : Int) == a) = true := this
  exact eq_of_beq h3
theorem fiT_is {l : List Tu} {a : Int} {k : Nat} (hk : k < l.length) (h : (((l.getD k tu0).aid : Nat) : Int) = a) (hn : ∀ i, i < k → ¬ (((l.getD i tu0).aid : Nat) : Int) = a) : fiT l a = k := by
  rcases Nat.lt_trichotomy (fiT l a) k with e | e | e
  · exact absurd (fiT_at (by omega)) (hn _ e)
  · exact e
  · exact absurd h (fiT_not e)
theorem fiT_none {l : List Tu} {a : Int} (hn : ∀ i, i < l.length → ¬ (((l.getD i tu0).aid : Nat) : Int) = a) : hasT l a = false := by
  unfold hasT
  simp only [decide_eq_false_iff_not]
  intro h
  exact hn _ h (fiT_at h)
theorem fiT_mem {l : List Tu} (hi : InvT l) {k : Nat} (hk : k < l.length) : fiT l (((l.getD k tu0).aid : Nat) : Int) = k := by
  refine fiT_is hk rfl fun i hik e => ?_
  have h1 := hi.nd
  have e1 : (l.getD i tu0) = l[i]'(by omega) := by simp [List.getD, show i < l.length by omega]
  have e2 : (l.getD k tu0) = l[k] := by simp [List.getD, hk]
  rw [e1, e2] at e
  have h2 := List.pairwise_iff_getElem.1 h1 i k (by simpa using (by omega : i < l.length)) (by simpa using hk) hik
  simp only [List.getElem_map] at h2
  omega
/-- the list lies at h. -/
structure IsRs (B : Nat) (w : World) (h : Nat) (v : Value) (l : List Tu) : Prop where
  slot : w.heap[h]? = some (.cells #[v] 29 (0, 0))
  own : OwnS trC 4 w B 49 v l.length l
  ne : v.ownBlock ≠ some h
  base : B ≤ h
def FootR (h : Nat) (v : Value) (g : Nat) : Prop := g = h ∨ v.ownBlock = some g
theorem IsRs.below {B : Nat} {w w' : World} {h : Nat} {v : Value} {l : List Tu} (x : IsRs B w h v l) (hb : Below w.heap.size w w') : IsRs B w' h v l := ⟨(hb.block h (lt_blk x.slot)).trans x.slot, x.own.below hb, x.ne, x.base⟩
theorem IsRs.only {B : Nat} {S : Nat → Prop} {w w' : World} {h : Nat} {v : Value} {l : List Tu} (x : IsRs B w h v l) (ho : Only S w w') (hn : ∀ g, FootR h v g → ¬ S g) : IsRs B w' h v l :=
  ⟨ho.at_ x.slot (hn h (.inl rfl)), ⟨owns_only x.own.1 ho fun g hg => hn g (.inr hg), x.own.2⟩, x.ne, x.base⟩
theorem IsRs.lt {B : Nat} {w : World} {h : Nat} {v : Value} {l : List Tu} (x : IsRs B w h v l) : ∀ g, FootR h v g → B ≤ g ∧ g < w.heap.size := fun g hg => by
  rcases hg with rfl | hg
  · exact ⟨x.base, lt_blk x.slot⟩
  · exact World.ownsRow.lt x.own.1 g hg
theorem IsRs.row {B : Nat} {w : World} {h : Nat} {v : Value} {l : List Tu} (x : IsRs B w h v l) (hl : l.length ≤ 1000000) : ∃ A c, v = .slice A l.length c ∧ RowS trC 4 tu0 w A l.length l ∧ l.length ≤ c :=
  x.own.row (d := tu0) trC_len (by unfold maxLen; omega)
theorem cell1 {w : World} {g : Nat} {v : Value} {t : TypeId} (h : w.heap[g]? = some (.cells #[v] t (0, 0))) : w.cell? ⟨g, 0, none⟩ = some v := by
  simp only [World.cell?, h]
  rfl
theorem size1v : (Tryd.prog.info? 27).map (·.size) = some 1 := by kernel_rfl
/-! ### Find, weight -/
set_option maxRecDepth 100000 in
set_option maxHeartbeats 8000000 in
theorem find_any (h : Nat) (A : Option Addr) (c : Nat) (l : List Tu) (a : Int) (w : World) (hs : w.heap[h]? = some (.cells #[.slice A l.length c] 29 (0, 0))) (hr : RowS trC 4 tu0 w A l.length l) :
    Calls Tryd.prog 26 #[.pointer (some ⟨h, 0, none⟩), .int .i64 a] w fun r w' => r = .returned (.int .i64 (ansF l a)) ∧ w = w' := by
  have HR := Shut.mk hr
  have hle := hr.le
  have hc := cell1 hs
  obtain ⟨n, hn⟩ : ∃ n, n = l.length := ⟨_, rfl⟩
  have HN := Shut.mk hn
  rw [← hn] at hc hle
  have hle2 : (n : Int) ≤ 9223372036854775807 := by have := hle; unfold maxLen at this; omega
  clear hr hs hn
  go_enter Tryd.func26, Tryd.ntmps26
  go_wp2_with (fail)
  go_loopw [5] (fun s5 wr => ∃ k : Nat, k ≤ n ∧ s5 = .int .i64 (k : Int) ∧ Shut (∀ i, i < k → ¬ (((l.getD i tu0).aid : Nat) : Int) = a) ∧ wr = w) (fun s5 _ => n - (intOf s5).toNat)
  case atStart => exact ⟨0, Nat.zero_le _, rfl, Shut.mk (fun i hi => absurd hi (by omega)), rfl⟩
  case round =>
    obtain ⟨k, hk, rfl, HS, rfl⟩ := hrel
    by_cases hkn : k = n
    · subst hkn
      have HA := Shut.mk (show ansF l a = -1 by unfold ansF; rw [fiT_none (fun i hi => HS.out i (by rw [HN.out]; exact hi))]; rfl)
      clear hk
      go_wp2_with (fail)
      go_ret
      exact ⟨ret_int HA.out.symm, rfl⟩
    have hlt : (k : Int) < (n : Int) := by omega
    have HK := Shut.mk (show k < n by omega)
    obtain ⟨b, off, rfl, hrg⟩ := HR.out.el k (by rw [← HN.out]; exact HK.out)
    have hx := range_cell hrg 0 _ rfl
    rw [Nat.add_zero] at hx
    obtain ⟨y, hy⟩ : ∃ y : Int, y = (((l.getD k tu0).aid : Nat) : Int) := ⟨_, rfl⟩
    rw [← hy] at hx
    have HY := Shut.mk hy
    clear hk hkn hrg hy
    by_cases hya : y = a
    · have e1 : (y == a) = true := by simpa using hya
      have HA := Shut.mk (show ansF l a = (k : Int) by
        have h1 := fiT_is (l := l) (a := a) (k := k) (by rw [← HN.out]; exact HK.out) (by rw [← HY.out]; exact hya) HS.out
        unfold ansF hasT
        rw [h1, if_pos (by simpa using (by rw [← HN.out]; exact HK.out : k < l.length))])
      clear hya
      go_wp2_with (fail)
      go_ret
      exact ⟨ret_int HA.out.symm, rfl⟩
    · have e1 : (y == a) = false := by simpa using hya
      have HS2 := Shut.mk (show ∀ i, i < k + 1 → ¬ (((l.getD i tu0).aid : Nat) : Int) = a from fun i hi => by
        by_cases e : i = k
        · rw [e, ← HY.out]; exact hya
        · exact HS.out i (by omega))
      clear hya
      go_wp2_with (fail)
      go_roundw
      case rel => exact ⟨k + 1, by have := HK.out; omega, by go_num, HS2, trivial⟩
      case measure => have := HK.out; simp [intOf]; omega
set_option maxRecDepth 100000 in
set_option maxHeartbeats 8000000 in
theorem refaid_t (n : Int) (w : World) : Calls Tryd.prog 36 #[.int .i64 n] w fun e w' => e = .returned (.bool (aidT n)) ∧ w = w' := by
  by_cases h1 : 1 ≤ n
  · have H := Shut.mk (show aidT n = decide (n ≤ 16) by unfold aidT; simp [h1])
    go_enter Tryd.func36, Tryd.ntmps36
    go_wp2
    go_ret
    exact ⟨ret_b H.out, rfl⟩
  · have H := Shut.mk (show aidT n = false by unfold aidT; simp; omega)
    have h2 : n < 1 := by omega
    go_enter Tryd.func36, Tryd.ntmps36
    go_wp2
    go_ret
    exact ⟨ret_b H.out, rfl⟩
set_option maxRecDepth 100000 in
set_option maxHeartbeats 8000000 in
theorem refweight_any (n : Int) (w : World) : Calls Tryd.prog 37 #[.int .i64 n] w fun e w' => e = .returned (.bool (wtT n)) ∧ w = w' := by
  by_cases h1 : 1 ≤ n
  · have H := Shut.mk (show wtT n = decide (n ≤ 100) by unfold wtT; simp [h1])
    go_enter Tryd.func37, Tryd.ntmps37
    go_wp2
    go_ret
    exact ⟨ret_b H.out, rfl⟩
  · have H := Shut.mk (show wtT n = false by unfold wtT; simp; omega)
    have h2 : n < 1 := by omega
    go_enter Tryd.func37, Tryd.ntmps37
    go_wp2
    go_ret
    exact ⟨ret_b H.out, rfl⟩
/-! ### Add -/
def addT (l : List Tu) (a n : Int) : List Tu × Nat := if aidT a = true ∧ wtT n = true then (if hasT l a = true then (l, 108) else (l ++ [⟨a.toNat, n.toNat, 0, false⟩], 0)) else (l, 103)
def delT (l : List Tu) (a : Int) : List Tu × Nat := if hasT l a = true then (l.take (fiT l a) ++ l.drop (fiT l a + 1), 0) else (l, 107)
def weighT (l : List Tu) (a n : Int) : List Tu × Nat := if hasT l a = true then (if wtT n = true then (l.set (fiT l a) { l.getD (fiT l a) tu0 with wt := n.toNat }, 0) else (l, 103)) else (l, 107)
def airT (n : Int) : Bool := decide (0 ≤ n) && decide (n ≤ 1099511627776)
def tmT (t : Tu) (n : Nat) : Nat := min (t.tm + 10000 * n / t.wt) 1152921504606846976
def chT (l : List Tu) (a n : Int) : List Tu × Nat := if hasT l a = true then (if airT n = true then (l.set (fiT l a) { l.getD (fiT l a) tu0 with tm := tmT (l.getD (fiT l a) tu0) n.toNat }, 0) else (l, 103)) else (l, 107)
theorem turn_info : (Tryd.prog.info? 49).map (fun i => (i.zero, i.size, i.bytes)) = some (some (.agg #[.int .i64 0, .int .i64 0, .int .i64 0, .bool false]), 4, 32) := by kernel_rfl
theorem size1w : (Tryd.prog.info? 3).map (·.size) = some 1 := by kernel_rfl
theorem ansF_yes {l : List Tu} {a : Int} (h : hasT l a = true) : ansF l a = ((fiT l a : Nat) : Int) := if_pos h
theorem ansF_no {l : List Tu} {a : Int} (h : hasT l a = false) : ansF l a = -1 := by unfold ansF; rw [if_neg (by simp [h])]
theorem has_lt {l : List Tu} {a : Int} (h : hasT l a = true) : fiT l a < l.length := by unfold hasT at h; simpa using h
theorem bools2 {a b : Bool} (h : ¬ (a = true ∧ b = true)) : a = false ∨ b = false := by cases a <;> cases b <;> simp_all
/-- a call's answer: the list anew, the rest as it was. -/
structure RsE (B : Nat) (h : Nat) (v : Value) (l' : List Tu) (w w' : World) : Prop where
  out : ∃ v', IsRs B w' h v' l' ∧ Only (FootR h v) w w' ∧ Fresh w (FootR h v) (FootR h v')
theorem own_one {α : Type} {F : α → List Value} {sz B n : Nat} {w : World} {e : TypeId} {v : Value} {l : List α} (h : OwnS F sz w B e v n l) : v.oneCell' = true := by
  obtain ⟨A, c, rfl, -⟩ := owns_form h.1
  rfl
theorem RsE.put {B h : Nat} {v v2 : Value} {l l2 : List Tu} {w w2 : World} (x : IsRs B w h v l) (hv : OwnS trC 4 w2 B 49 v2 l2.length l2) (ho : Only (fun g => v.ownBlock = some g) w w2) (hf : ∀ g, v2.ownBlock = some g → v.ownBlock = some g ∨ w.heap.size ≤ g) : RsE B h v l2 w (w2.setRow h #[v2]) := by
  have hlt := lt_blk x.slot
  have hne : v2.ownBlock ≠ some h := fun e => by
    rcases hf h e with e | e
    · exact x.ne e
    · omega
  have hs : w2.heap[h]? = some (.cells #[v] 29 (0, 0)) := ho.at_ x.slot x.ne
  refine ⟨v2, ⟨setRow_heap w2 h _ _ _ (0, 0) hs, ⟨owns_only hv.1 (only_setRow w2 h #[v2]) fun g hg e => hne (by rw [← e]; exact hg), hv.2⟩, hne, x.base⟩, ?_, fun g hg => ?_⟩
  · exact (ho.mono fun i _ hi => .inr hi).setRow (g := h) (fun _ => .inl rfl) _
  · rcases hg with rfl | hg
    · exact .inl (.inl rfl)
    · rcases hf g hg with e | e
      · exact .inl (.inr e)
      · exact .inr e
theorem IsRs.same {B : Nat} {w : World} {h : Nat} {v : Value} {l : List Tu} (x : IsRs B w h v l) : RsE B h v l w w := ⟨v, x, Only.refl _ _, Fresh.refl _ _⟩
set_option maxRecDepth 100000 in
set_option maxHeartbeats 8000000 in
theorem refadd_no (h : Nat) (a n : Int) (w : World) (hno : aidT a = false ∨ wtT n = false) : Calls Tryd.prog 14 #[.pointer (some ⟨h, 0, none⟩), .int .i64 a, .int .i64 n] w fun r w' => r = .returned (.int .i64 103) ∧ w = w' := by
  have H1 := Shut.mk (refaid_t a w)
  have H2 := Shut.mk (refweight_any n w)
  cases h1 : aidT a with
  | false =>
    rw [h1] at H1
    clear hno h1 H2
    go_enter Tryd.func14, Tryd.ntmps14
    go_wp2_with (fail)
    refine H1.out.mono ?_
    rintro r w' ⟨rfl, rfl⟩
    go_wp2_with (fail)
    go_ret
    exact ⟨rfl, rfl⟩
  | true =>
    rw [h1] at H1
    rw [hno.resolve_left (by simp [h1])] at H2
    clear hno h1
    go_enter Tryd.func14, Tryd.ntmps14
    go_wp2_with (fail)
    refine H1.out.mono ?_
    rintro r w' ⟨rfl, rfl⟩
    go_wp2_with (fail)
    refine H2.out.mono ?_
    rintro r w' ⟨rfl, rfl⟩
    go_wp2_with (fail)
    go_ret
    exact ⟨rfl, rfl⟩
set_option maxRecDepth 100000 in
set_option maxHeartbeats 8000000 in
theorem refadd_twice (h : Nat) (A : Option Addr) (c : Nat) (l : List Tu) (a n : Int) (w : World) (hs : w.heap[h]? = some (.cells #[.slice A l.length c] 29 (0, 0))) (hr : RowS trC 4 tu0 w A l.length l) (ha : aidT a = true) (hn : wtT n = true) (hh : hasT l a = true) :
    Calls Tryd.prog 14 #[.pointer (some ⟨h, 0, none⟩), .int .i64 a, .int .i64 n] w fun r w' => r = .returned (.int .i64 108) ∧ w = w' := by
  have H1 := Shut.mk (refaid_t a w)
  have H2 := Shut.mk (refweight_any n w)
  rw [ha] at H1
  rw [hn] at H2
  have HF := Shut.mk (find_any h A c l a w hs hr)
  rw [ansF_yes hh] at HF
  generalize fiT l a = k at *
  have hp : (0 : Int) ≤ (k : Int) := by omega
  clear hs hr ha hn hh
  go_enter Tryd.func14, Tryd.ntmps14
  go_wp2_with (fail)
  refine H1.out.mono ?_
  rintro r w' ⟨rfl, rfl⟩
  go_wp2_with (fail)
  refine H2.out.mono ?_
  rintro r w' ⟨rfl, rfl⟩
  go_wp2_with (fail)
  refine HF.out.mono ?_
  rintro r w' ⟨rfl, rfl⟩
  go_wp2_with (fail)
  go_ret
  exact ⟨rfl, rfl⟩
set_option maxRecDepth 100000 in
set_option maxHeartbeats 8000000 in
theorem refadd_in (B h : Nat) (v : Value) (l : List Tu) (a n : Nat) (w : World) (x : IsRs B w h v l) (hl : l.length ≤ 1000) (hB : B ≤ w.heap.size) (ha : aidT a = true) (hn : wtT n = true) (hh : hasT l a = false) :
    Calls Tryd.prog 14 #[.pointer (some ⟨h, 0, none⟩), .int .i64 (a : Nat), .int .i64 (n : Nat)] w fun r w' => r = .returned (.int .i64 0) ∧ RsE B h v (l ++ [⟨a, n, 0, false⟩]) w w' := by
  have H1 := Shut.mk (refaid_t a w)
  have H2 := Shut.mk (refweight_any n w)
  rw [ha] at H1
  rw [hn] at H2
  obtain ⟨A, c, rfl, hr, hc⟩ := x.row (by omega)
  have HF := Shut.mk (find_any h A c l a w x.slot hr)
  rw [ansF_no hh] at HF
  have HX := Shut.mk x
  have HB := Shut.mk hB
  have hc1 := cell1 x.slot
  have HBA := Shut.mk ((Below.refl w.heap.size w).alloc (Nat.le_refl _) (Obj.cells #[.int .i64 (a : Nat), .int .i64 (n : Nat), .int .i64 0, .bool false] 49 (0, 0)))
  have HOV := Shut.mk (x.own.below HBA.out)
  have HRV := Shut.mk (show RowS trC 4 tu0 (w.alloc (Obj.cells #[.int .i64 (a : Nat), .int .i64 (n : Nat), .int .i64 0, .bool false] 49 (0, 0))) (some ⟨w.heap.size, 0, none⟩) 1 [⟨a, n, 0, false⟩] from row_one w 49 (⟨a, n, 0, false⟩ : Tu) (trC_len _))
  have HSV := Shut.mk (x.below HBA.out).slot
  obtain ⟨m, hm⟩ : ∃ m, m = l.length := ⟨_, rfl⟩
  rw [← hm] at hc1 HOV HSV
  have HM := Shut.mk hm
  have HML := Shut.mk (show m + 1 ≤ 1000000 by omega)
  obtain ⟨t, ht⟩ : ∃ t : Tu, t = ⟨a, n, 0, false⟩ := ⟨_, rfl⟩
  rw [← ht] at HRV ⊢
  obtain ⟨i0, hi0, hz0, hz1, hz2⟩ := info_parts' turn_info
  have HI := Shut.mk (show Tryd.prog.info? 49 = some i0 ∧ i0.zero = some (.agg #[.int .i64 0, .int .i64 0, .int .i64 0, .bool false]) ∧ i0.size = 4 ∧ i0.bytes = 32 from ⟨hi0, hz0, hz1, hz2⟩)
  clear x hr hc hl hB ha hn hm ht hh hi0 hz0 hz1 hz2
  go_enter Tryd.func14, Tryd.ntmps14
  go_wp2_with (fail)
  refine H1.out.mono ?_
  rintro r w' ⟨rfl, rfl⟩
  go_wp2_with (fail)
  refine H2.out.mono ?_
  rintro r w' ⟨rfl, rfl⟩
  go_wp2_with (fail)
  refine HF.out.mono ?_
  rintro r w' ⟨rfl, rfl⟩
  have HPUT := Shut.mk fun (v2 : Value) (w2 : World) (hv : OwnS trC 4 w2 B 49 v2 (m + 1) (l ++ [t])) (ho : Only (fun g => (Value.slice A m c).ownBlock = some g) (w.alloc (Obj.cells #[.int .i64 (a : Nat), .int .i64 (n : Nat), .int .i64 0, .bool false] 49 (0, 0))) w2) (hf : ∀ g, v2.ownBlock = some g → (Value.slice A m c).ownBlock = some g ∨ (w.alloc (Obj.cells #[.int .i64 (a : Nat), .int .i64 (n : Nat), .int .i64 0, .bool false] 49 (0, 0))).heap.size ≤ g) =>
    show RsE B h (.slice A l.length c) (l ++ [t]) w (w2.setRow h #[v2]) ∧ w2.heap[h]? = some (.cells #[.slice A m c] 29 (0, 0)) from by
      rw [HM.out] at hv ho hf ⊢
      have h0 : Only (fun g => (Value.slice A l.length c).ownBlock = some g) w w2 := (Only.of_quiet HBA.out).trans ho fun i _ hi => hi
      exact ⟨RsE.put HX.out (by rw [List.length_append]; exact hv) h0 (fun g hg => (hf g hg).imp id fun e => Nat.le_trans HBA.out.size e), h0.at_ HX.out.slot HX.out.ne⟩
  go_wp2_with (first
    | (refine wpList_app_row (d := tu0) trC_len trC_one rfl (.tmp 23) (.tmp 27) 27 rfl 49 i0 _ 32 Tryd.underlying27 HI.out.1 HI.out.2.1 HI.out.2.2.1 HI.out.2.2.2 rfl (by decide) (by decide) B m _ l rfl HOV.out (some ⟨w.heap.size, 0, none⟩) 1 1 [t] rfl HRV.out (fun e => by cases e) HML.out (Nat.le_trans HB.out (by simp)) ?_
       intro v2 w2 hv2 ho2 hf2 hb2
       have HP2 := Shut.mk (HPUT.out v2 w2 hv2.out ho2.out hf2.out))
    | (refine wpList_store_into rfl 27 (.tmp 30) (.tmp 28) rfl h 0 v2 rfl rfl (own_one hv2.out) 29 _ #[v2] HP2.out.2 size1v (Nat.zero_lt_one) rfl ?_))
  have HFIN := Shut.mk HP2.out.1
  generalize hq : World.setRow w2 h _ = w3 at *
  clear hq hv2 ho2 hf2 hb2 HP2 HPUT HOV HSV HRV HBA
  go_wp2_with (fail)
  go_ret
  exact ⟨rfl, HFIN.out⟩
set_option maxRecDepth 100000 in
set_option maxHeartbeats 8000000 in
theorem refdel_none (h : Nat) (A : Option Addr) (c : Nat) (l : List Tu) (a : Int) (w : World) (hs : w.heap[h]? = some (.cells #[.slice A l.length c] 29 (0, 0))) (hr : RowS trC 4 tu0 w A l.length l) (hh : hasT l a = false) :
    Calls Tryd.prog 16 #[.pointer (some ⟨h, 0, none⟩), .int .i64 a] w fun r w' => r = .returned (.int .i64 107) ∧ w = w' := by
  have HF := Shut.mk (find_any h A c l a w hs hr)
  rw [ansF_no hh] at HF
  clear hs hr hh
  go_enter Tryd.func16, Tryd.ntmps16
  go_wp2_with (fail)
  refine HF.out.mono ?_
  rintro r w' ⟨rfl, rfl⟩
  go_wp2_with (fail)
  go_ret
  exact ⟨rfl, rfl⟩
set_option maxRecDepth 100000 in
set_option maxHeartbeats 8000000 in
theorem refweigh_none (h : Nat) (A : Option Addr) (c : Nat) (l : List Tu) (a : Int) (n : Int) (w : World) (hs : w.heap[h]? = some (.cells #[.slice A l.length c] 29 (0, 0))) (hr : RowS trC 4 tu0 w A l.length l) (hh : hasT l a = false) :
    Calls Tryd.prog 18 #[.pointer (some ⟨h, 0, none⟩), .int .i64 a, .int .i64 n] w fun r w' => r = .returned (.int .i64 107) ∧ w = w' := by
  have HF := Shut.mk (find_any h A c l a w hs hr)
  rw [ansF_no hh] at HF
  clear hs hr hh
  go_enter Tryd.func18, Tryd.ntmps18
  go_wp2_with (fail)
  refine HF.out.mono ?_
  rintro r w' ⟨rfl, rfl⟩
  go_wp2_with (fail)
  go_ret
  exact ⟨rfl, rfl⟩
set_option maxRecDepth 100000 in
set_option maxHeartbeats 8000000 in
theorem refcharge_none (h : Nat) (A : Option Addr) (c : Nat) (l : List Tu) (a : Int) (n : Int) (w : World) (hs : w.heap[h]? = some (.cells #[.slice A l.length c] 29 (0, 0))) (hr : RowS trC 4 tu0 w A l.length l) (hh : hasT l a = false) :
    Calls Tryd.prog 22 #[.pointer (some ⟨h, 0, none⟩), .int .i64 a, .int .i64 n] w fun r w' => r = .returned (.int .i64 107) ∧ w = w' := by
  have HF := Shut.mk (find_any h A c l a w hs hr)
  rw [ansF_no hh] at HF
  clear hs hr hh
  go_enter Tryd.func22, Tryd.ntmps22
  go_wp2_with (fail)
  refine HF.out.mono ?_
  rintro r w' ⟨rfl, rfl⟩
  go_wp2_with (fail)
  go_ret
  exact ⟨rfl, rfl⟩
set_option maxRecDepth 100000 in
set_option maxHeartbeats 8000000 in
theorem refactive_none (h : Nat) (A : Option Addr) (c : Nat) (l : List Tu) (a : Int) (on : Bool) (w : World) (hs : w.heap[h]? = some (.cells #[.slice A l.length c] 29 (0, 0))) (hr : RowS trC 4 tu0 w A l.length l) (hh : hasT l a = false) :
    Calls Tryd.prog 20 #[.pointer (some ⟨h, 0, none⟩), .int .i64 a, .bool on] w fun r w' => r = .returned (.int .i64 107) ∧ w = w' := by
  have HF := Shut.mk (find_any h A c l a w hs hr)
  rw [ansF_no hh] at HF
  clear hs hr hh
  go_enter Tryd.func20, Tryd.ntmps20
  go_wp2_with (fail)
  refine HF.out.mono ?_
  rintro r w' ⟨rfl, rfl⟩
  go_wp2_with (fail)
  go_ret
  exact ⟨rfl, rfl⟩

/-! ### Del -/
set_option maxRecDepth 100000 in
set_option maxHeartbeats 8000000 in
theorem refdel_in (B gr : Nat) (v : Value) (l : List Tu) (a : Int) (w : World) (x : IsRs B w gr v l) (hl : l.length ≤ 1000) (hB : B ≤ w.heap.size) (hh : hasT l a = true) :
    Calls Tryd.prog 16 #[.pointer (some ⟨gr, 0, none⟩), .int .i64 a] w fun r w' => r = .returned (.int .i64 0) ∧ RsE B gr v (l.take (fiT l a) ++ l.drop (fiT l a + 1)) w w' := by
  obtain ⟨A, c, rfl, hr, hc⟩ := x.row (by omega)
  have HF := Shut.mk (find_any gr A c l a w x.slot hr)
  rw [ansF_yes hh] at HF
  have hk := has_lt hh
  obtain ⟨k, hkk⟩ : ∃ k, k = fiT l a := ⟨_, rfl⟩
  rw [← hkk] at HF hk ⊢
  obtain ⟨g, cap, hg, hbg, hgl⟩ := World.ownsRow.form x.own.1 (by omega)
  cases hg
  have HX := Shut.mk x
  have HB := Shut.mk hB
  have HR := Shut.mk hr
  have HBA := Shut.mk ((Below.refl w.heap.size w).alloc (Nat.le_refl _) (Obj.cells #[] 49 (0, 0)))
  obtain ⟨wa, hwa⟩ : ∃ wa, wa = w.alloc (Obj.cells #[] 49 (0, 0)) := ⟨_, rfl⟩
  have HE := Shut.mk (show OwnS trC 4 wa B 49 (.slice (some ⟨w.heap.size, 0, none⟩) 0 0) 0 [] by rw [hwa]; exact own_empty w B 49 hB 49)
  have hc1 := cell1 (show wa.heap[gr]? = some (.cells #[.slice (some ⟨g, 0, none⟩) l.length c] 29 (0, 0)) by rw [hwa]; exact (x.below HBA.out).slot)
  rw [← hwa] at HBA
  obtain ⟨m, hm⟩ : ∃ m, m = l.length := ⟨_, rfl⟩
  rw [← hm] at hc1 hc hk hl
  have HM := Shut.mk hm
  have HK := Shut.mk hk
  have hk0 : (0 : Int) ≤ (k : Int) := by omega
  have hk1 : (k : Int) ≤ (c : Int) := by omega
  have HWA := Shut.mk hwa.symm
  clear x hr hB hh hkk hbg hgl hm hwa
  go_enter Tryd.func16, Tryd.ntmps16
  go_wp2_with (fail)
  refine HF.out.mono ?_
  rintro r w' ⟨rfl, rfl⟩
  have HTK := Shut.mk (show RowS trC 4 tu0 wa (some ⟨g, 0, none⟩) k (l.take k) from (HR.out.below HBA.out).first k (by have := HK.out; have := HM.out; omega))
  obtain ⟨i0, hi0, hz0, hz1, hz2⟩ := info_parts' turn_info
  have HI := Shut.mk (show Tryd.prog.info? 49 = some i0 ∧ i0.zero = some (.agg #[.int .i64 0, .int .i64 0, .int .i64 0, .bool false]) ∧ i0.size = 4 ∧ i0.bytes = 32 from ⟨hi0, hz0, hz1, hz2⟩)
  have HKL := Shut.mk (show k ≤ 1000 ∧ k + (m - (k + 1)) ≤ 1000000 by omega)
  have HST1 := Shut.mk fun (v1 : Value) (w2 : World) (hv : OwnS trC 4 w2 B 49 v1 (0 + k) ([] ++ l.take k)) (ho : Only (fun gx => (Value.slice (some ⟨w.heap.size, 0, none⟩) 0 0).ownBlock = some gx) wa w2) (hf : ∀ gx, v1.ownBlock = some gx → (Value.slice (some ⟨w.heap.size, 0, none⟩) 0 0).ownBlock = some gx ∨ wa.heap.size ≤ gx) =>
    show OwnS trC 4 w2 B 49 v1 k (l.take k) ∧ Below w.heap.size w w2 ∧ (∀ gx, v1.ownBlock = some gx → w.heap.size ≤ gx) from by
      have hb : Below w.heap.size wa w2 := ho.below (fun i hi e => by simp [Value.ownBlock] at e; omega) HBA.out.size
      refine ⟨by simpa using hv, HBA.out.trans hb, fun gx hg => ?_⟩
      rcases hf gx hg with e | e
      · simp [Value.ownBlock] at e; omega
      · exact Nat.le_trans HBA.out.size e
  clear hi0 hz0 hz1 hz2
  have HR0 := Shut.mk fun (w2 : World) (hb : Below w.heap.size w w2) => show RowS trC 4 tu0 w2 (some ⟨g, (k + 1) * 4, none⟩) (m - (k + 1)) (l.drop (k + 1)) from by
      have h1 := (HR.out.below hb).rest' (k + 1) (by have := HK.out; have := HM.out; omega)
      rw [← HM.out] at h1
      simpa using h1
  have HST2 := Shut.mk fun (v1 v2 : Value) (w2 w3 : World) (hb : Below w.heap.size w w2) (h1 : ∀ gx, v1.ownBlock = some gx → w.heap.size ≤ gx) (hv : OwnS trC 4 w3 B 49 v2 (k + (m - (k + 1))) (l.take k ++ l.drop (k + 1))) (ho : Only (fun gx => v1.ownBlock = some gx) w2 w3) (hf : ∀ gx, v2.ownBlock = some gx → v1.ownBlock = some gx ∨ w2.heap.size ≤ gx) =>
    show RsE B gr (.slice (some ⟨g, 0, none⟩) l.length c) (l.take k ++ l.drop (k + 1)) w (w3.setRow gr #[v2]) ∧ w3.heap[gr]? = some (.cells #[.slice (some ⟨g, 0, none⟩) m c] 29 (0, 0)) from by
      have hb3 : Below w.heap.size w w3 := hb.trans (ho.below (fun i hi e => by have := h1 i e; omega) hb.size)
      refine ⟨RsE.put HX.out (by
        have e : (l.take k ++ l.drop (k + 1)).length = k + (m - (k + 1)) := by rw [List.length_append, List.length_take, List.length_drop, ← HM.out]; have := HK.out; omega
        rw [e]; exact hv) (Only.of_quiet hb3) (fun gx hg => .inr ?_), by rw [HM.out]; exact (HX.out.below hb3).slot⟩
      rcases hf gx hg with e | e
      · exact h1 gx e
      · exact Nat.le_trans hb.size e
  by_cases hck : c = k + 1
  · have hmk : m - (k + 1) = 0 := by omega
    have HMK := Shut.mk (show l.drop (k + 1) = [] from List.drop_of_length_le (by have := HM.out; have := HK.out; omega))
    have HR1 := Shut.mk fun (w2 : World) => show RowS trC 4 tu0 w2 (some ⟨g, 0, none⟩) 0 (l.drop (k + 1)) from by rw [HMK.out]; exact RowS.nil
    have HMZ := Shut.mk hmk
    clear hmk
    subst hck
    go_wp2_with (first
      | (rw [HWA.out])
      | (refine wpList_app_row (d := tu0) trC_len trC_one rfl (.tmp 12) (.tmp 18) 27 rfl 49 i0 _ 32 Tryd.underlying27 HI.out.1 HI.out.2.1 HI.out.2.2.1 HI.out.2.2.2 rfl (by decide) (by decide) B 0 _ [] rfl HE.out (some ⟨g, 0, none⟩) k _ (l.take k) rfl HTK.out (fun e => by cases e) (by have := HKL.out.1; omega) (Nat.le_trans HB.out HBA.out.size) ?_
         intro v1 w2 hv2 ho2 hf2 hb2
         have HP2 := Shut.mk (HST1.out v1 w2 hv2.out ho2.out hf2.out)
         clear hv2 ho2 hf2 hb2
         have hc2 := cell1 (show w2.heap[gr]? = some (.cells #[.slice (some ⟨g, 0, none⟩) m (k + 1)] 29 (0, 0)) by rw [HM.out]; exact (HX.out.below HP2.out.2.1).slot))
      | (refine wpList_app_row (d := tu0) trC_len trC_one rfl (.tmp 21) (.tmp 28) 27 rfl 49 i0 _ 32 Tryd.underlying27 HI.out.1 HI.out.2.1 HI.out.2.2.1 HI.out.2.2.2 rfl (by decide) (by decide) B k _ (l.take k) rfl HP2.out.1 (some ⟨g, 0, none⟩) 0 _ (l.drop (k + 1)) rfl (HR1.out w2) (fun e => by cases e) (by have := HKL.out.1; omega) (Nat.le_trans HB.out HP2.out.2.1.size) ?_
         intro v2 w3 hv3 ho3 hf3 hb3
         have HP3 := Shut.mk (HST2.out v1 v2 w2 w3 HP2.out.2.1 HP2.out.2.2 (by rw [HMZ.out]; exact hv3.out) ho3.out hf3.out)
         have HON := Shut.mk (own_one hv3.out)
         clear hv3 ho3 hf3 hb3)
      | (refine wpList_store_into rfl 27 (.tmp 31) (.tmp 29) rfl gr 0 v2 rfl rfl HON.out 29 _ #[v2] HP3.out.2 size1v (Nat.zero_lt_one) rfl ?_))
    have HFIN := Shut.mk HP3.out.1
    generalize hq : World.setRow w3 gr _ = w4 at *
    clear hq HP3 HST1 HST2
    go_wp2_with (fail)
    go_ret
    exact ⟨rfl, HFIN.out⟩
  · have HR1 := HR0
    go_wp2_with (first
      | (rw [HWA.out])
      | (refine wpList_app_row (d := tu0) trC_len trC_one rfl (.tmp 12) (.tmp 18) 27 rfl 49 i0 _ 32 Tryd.underlying27 HI.out.1 HI.out.2.1 HI.out.2.2.1 HI.out.2.2.2 rfl (by decide) (by decide) B 0 _ [] rfl HE.out (some ⟨g, 0, none⟩) k _ (l.take k) rfl HTK.out (fun e => by cases e) (by have := HKL.out.1; omega) (Nat.le_trans HB.out HBA.out.size) ?_
         intro v1 w2 hv2 ho2 hf2 hb2
         have HP2 := Shut.mk (HST1.out v1 w2 hv2.out ho2.out hf2.out)
         clear hv2 ho2 hf2 hb2
         have hc2 := cell1 (show w2.heap[gr]? = some (.cells #[.slice (some ⟨g, 0, none⟩) m c] 29 (0, 0)) by rw [HM.out]; exact (HX.out.below HP2.out.2.1).slot))
      | (refine wpList_app_row (d := tu0) trC_len trC_one rfl (.tmp 21) (.tmp 28) 27 rfl 49 i0 _ 32 Tryd.underlying27 HI.out.1 HI.out.2.1 HI.out.2.2.1 HI.out.2.2.2 rfl (by decide) (by decide) B k _ (l.take k) rfl HP2.out.1 (some ⟨g, (k + 1) * 4, none⟩) (m - (k + 1)) _ (l.drop (k + 1)) rfl (HR1.out w2 HP2.out.2.1) (fun e => by cases e) HKL.out.2 (Nat.le_trans HB.out HP2.out.2.1.size) ?_
         intro v2 w3 hv3 ho3 hf3 hb3
         have HP3 := Shut.mk (HST2.out v1 v2 w2 w3 HP2.out.2.1 HP2.out.2.2 hv3.out ho3.out hf3.out)
         have HON := Shut.mk (own_one hv3.out)
         clear hv3 ho3 hf3 hb3)
      | (refine wpList_store_into rfl 27 (.tmp 31) (.tmp 29) rfl gr 0 v2 rfl rfl HON.out 29 _ #[v2] HP3.out.2 size1v (Nat.zero_lt_one) rfl ?_))
    have HFIN := Shut.mk HP3.out.1
    generalize hq : World.setRow w3 gr _ = w4 at *
    clear hq HP3 HST1 HST2
    go_wp2_with (fail)
    go_ret
    exact ⟨rfl, HFIN.out⟩

/-! ### one cell stored -/
theorem IsRs.cell {B h g n c : Nat} {l l' : List Tu} {w w' : World} (x : IsRs B w h (.slice (some ⟨g, 0, none⟩) n c) l) (hv : OwnS trC 4 w' B 49 (.slice (some ⟨g, 0, none⟩) n c) n l') (ho : Only (· = g) w w') : IsRs B w' h (.slice (some ⟨g, 0, none⟩) n c) l' ∧ Only (FootR h (.slice (some ⟨g, 0, none⟩) n c)) w w' := by
  have hn : l'.length = n := hv.2
  have hgh : h ≠ g := fun e => x.ne (by rw [e]; rfl)
  exact ⟨⟨ho.at_ x.slot hgh, by rw [hn]; exact hv, x.ne, x.base⟩, ho.mono fun i _ hi => .inr (by rw [hi]; rfl)⟩
theorem RsE.cell {B h g n c : Nat} {l l' : List Tu} {w w' : World} (x : IsRs B w h (.slice (some ⟨g, 0, none⟩) n c) l) (hv : OwnS trC 4 w' B 49 (.slice (some ⟨g, 0, none⟩) n c) n l') (ho : Only (· = g) w w') : RsE B h (.slice (some ⟨g, 0, none⟩) n c) l' w w' :=
  ⟨_, (x.cell hv ho).1, (x.cell hv ho).2, Fresh.refl _ _⟩
/-! ### Weigh -/
set_option maxRecDepth 100000 in
set_option maxHeartbeats 8000000 in
theorem refweigh_range (h : Nat) (A : Option Addr) (c : Nat) (l : List Tu) (a n : Int) (w : World) (hs : w.heap[h]? = some (.cells #[.slice A l.length c] 29 (0, 0))) (hr : RowS trC 4 tu0 w A l.length l) (hh : hasT l a = true) (hn : wtT n = false) :
    Calls Tryd.prog 18 #[.pointer (some ⟨h, 0, none⟩), .int .i64 a, .int .i64 n] w fun r w' => r = .returned (.int .i64 103) ∧ w = w' := by
  have HF := Shut.mk (find_any h A c l a w hs hr)
  rw [ansF_yes hh] at HF
  have H2 := Shut.mk (refweight_any n w)
  rw [hn] at H2
  generalize fiT l a = k at *
  have hp : ¬ (k : Int) < 0 := by omega
  clear hs hr hh hn
  go_enter Tryd.func18, Tryd.ntmps18
  go_wp2_with (fail)
  refine HF.out.mono ?_
  rintro r w' ⟨rfl, rfl⟩
  go_wp2_with (fail)
  refine H2.out.mono ?_
  rintro r w' ⟨rfl, rfl⟩
  go_wp2_with (fail)
  go_ret
  exact ⟨rfl, rfl⟩
set_option maxRecDepth 100000 in
set_option maxHeartbeats 8000000 in
theorem refweigh_in (B gr : Nat) (v : Value) (l : List Tu) (a : Int) (n : Nat) (w : World) (x : IsRs B w gr v l) (hl : l.length ≤ 1000) (hh : hasT l a = true) (hn : wtT n = true) :
    Calls Tryd.prog 18 #[.pointer (some ⟨gr, 0, none⟩), .int .i64 a, .int .i64 (n : Nat)] w fun r w' => r = .returned (.int .i64 0) ∧ RsE B gr v (l.set (fiT l a) { l.getD (fiT l a) tu0 with wt := n }) w w' := by
  obtain ⟨A, c, rfl, hr, hc⟩ := x.row (by omega)
  have HF := Shut.mk (find_any gr A c l a w x.slot hr)
  rw [ansF_yes hh] at HF
  have H2 := Shut.mk (refweight_any n w)
  rw [hn] at H2
  have hk := has_lt hh
  obtain ⟨k, hkk⟩ : ∃ k, k = fiT l a := ⟨_, rfl⟩
  rw [← hkk] at HF hk ⊢
  obtain ⟨g, cap, hg, hbg, hgl⟩ := World.ownsRow.form x.own.1 (by omega)
  cases hg
  have hc1 := cell1 x.slot
  obtain ⟨m, hm⟩ : ∃ m, m = l.length := ⟨_, rfl⟩
  have HX := Shut.mk (show IsRs B w gr (.slice (some ⟨g, 0, none⟩) m c) l by rw [hm]; exact x)
  have HO := Shut.mk (show OwnS trC 4 w B 49 (.slice (some ⟨g, 0, none⟩) m c) m l by rw [hm]; exact x.own)
  rw [← hm] at hc1 hk ⊢
  have HK := Shut.mk hk
  have hk0 : (0 : Int) ≤ (k : Int) := by omega
  have hk1 : (k : Int) < (m : Int) := by omega
  have hp : ¬ (k : Int) < 0 := by omega
  clear x hr hc hl hh hn hkk hbg hgl hm hk
  go_enter Tryd.func18, Tryd.ntmps18
  go_wp2_with (fail)
  refine HF.out.mono ?_
  rintro r w' ⟨rfl, rfl⟩
  go_wp2_with (fail)
  refine H2.out.mono ?_
  rintro r w' ⟨rfl, rfl⟩
  go_wp2_with (refine wpList_store_cell (d := tu0) trC_len rfl 3 (.tmp 23) (.tmp 21) rfl B 49 g k 1 m c _ l { l.getD k tu0 with wt := n } (.int .i64 (n : Nat)) rfl rfl rfl rfl HO.out HK.out (by decide) size1w rfl ?_; intro w2 hv2 ho2)
  have HFIN := Shut.mk (RsE.cell HX.out hv2.out ho2.out)
  clear hv2 ho2
  go_wp2_with (fail)
  go_ret
  exact ⟨rfl, HFIN.out⟩
end Go.Proofs.YtkmblmnffnhpmaaDoor
