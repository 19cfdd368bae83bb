/-
  CONTRACTS of package sched: the turns as container/heap sees them; place, leave, join, charge.
-/
import Derived.Test.YtkmblmnffnhpmaaDoorSchedD
import Derived.Test.YtkmblmnffnhpmaaDoorSchedQ
import Derived.Test.YtkmblmnffnhpmaaDoorHeldD
import Derived.Test.YtkmblmnffnhpmaaDoorTkD
import Derived.Test.YtkmblmnffnhpmaaDoorPlainB
import Derived.StillTailTactics
import Derived.LoopTactic
import Derived.Lib.MinMax
namespace Go.Proofs.YtkmblmnffnhpmaaDoor
open Go.ChangeShapes Go.WideShapes Go.ChangeAt Go.RowKit Go.Deep
set_option linter.unusedVariables false
set_option linter.unusedSimpArgs false

set_option maxRecDepth 100000 in
set_option maxHeartbeats 8000000 in
theorem obj_tu (T : TypeId) (S : Nat → Prop) (g : Nat) (x y : Nat → Int) : HObj 66 (.pointer (some ⟨g, 0, none⟩)) (ltA y) 0 (IsTu T S g x y) (Only S) where
  ord := ltA_slo y
  refl w := Only.refl _ w
  trans a b c h1 h2 := h1.trans h2 fun _ _ h => h
  few w l h := by have := h.few; omega
  len w l h := ⟨_, fun _ _ => rfl, _, fun _ => rfl, (len_tu T S g x y w l h).mono fun _ _ ⟨h1, h2⟩ => ⟨h1, h2 ▸ h, h2 ▸ Only.refl _ _⟩⟩
  less w l i j h hi hj := ⟨_, fun _ _ => rfl, _, fun _ => rfl, (less_tu T S g x y w l i j h hi hj).mono fun _ _ ⟨h1, h2⟩ => ⟨h1, h.below h2, Only.of_quiet h2⟩⟩
  swap w l i j h hi hj := ⟨_, fun _ _ => rfl, _, fun _ => rfl, swap_tu T S g x y w l i j h hi hj⟩
set_option maxRecDepth 100000 in
set_option maxHeartbeats 8000000 in
theorem meth_push (T : TypeId) (S : Nat → Prop) (g : Nat) (x y : Nat → Int) (w : World) (l : List Int) (u : Int) (h : IsTu T S g x y w l) (hl : l.length ≤ 900) (hu : 0 ≤ u ∧ u < 17) (hS : ∀ k, w.heap.size ≤ k → S k) :
    ∃ f, Meth 66 (.pointer (some ⟨g, 0, none⟩)) "Push" f [.iface 3 (.int .i64 u)] w fun r w' => r = .returned (.tuple #[]) ∧ IsTu T S g x y w' (l ++ [u]) ∧ Only S w w' := by
  obtain ⟨v, h1, h2, h3⟩ := h.at_
  refine ⟨_, fun _ _ => rfl, _, fun _ => rfl, (push_in T g x y w l v u h1 h2 (by omega) fun k hk => (h3 k hk).2).mono ?_⟩
  rintro r w' ⟨rfl, v', hB, hR, hF, hO⟩
  refine ⟨rfl, ⟨⟨v', hB, hR, fun k hk => ⟨?_, (hF k hk).1⟩⟩, by rw [List.length_append, List.length_singleton]; omega, fun a ha => ?_, h.sg⟩, hO.mono fun k _ e => ?_⟩
  · rcases (hF k hk).2 with e | e
    · exact (h3 k e).1
    · exact hS k e
  · rcases List.mem_append.1 ha with e | e
    · exact h.aid a e
    · rw [List.mem_singleton.1 e]; exact hu
  · rcases e with e | e
    · exact e ▸ h.sg
    · exact (h3 k e).1
set_option maxRecDepth 100000 in
set_option maxHeartbeats 8000000 in
theorem meth_pop (T : TypeId) (S : Nat → Prop) (g : Nat) (x y : Nat → Int) (w : World) (l : List Int) (u : Int) (h : IsTu T S g x y w (l ++ [u])) :
    ∃ f, Meth 66 (.pointer (some ⟨g, 0, none⟩)) "Pop" f [] w fun r w' => r = .returned (.iface 3 (.int .i64 u)) ∧ IsTu T S g x y w' l ∧ Only S w w' :=
  ⟨_, fun _ _ => rfl, _, fun _ => rfl, pop_tu T S g x y w l u h⟩
/-! ### lists of stations -/
theorem nodup_len : ∀ (n : Nat) (l : List Int), l.Nodup → (∀ a ∈ l, 0 ≤ a ∧ a < (n : Int)) → l.length ≤ n
  | 0, l, _, h => by
    cases l with
    | nil => exact Nat.le_refl _
    | cons a r => have := h a List.mem_cons_self; omega
  | n + 1, l, hn, h => by
    have h1 := nodup_len n (l.erase (n : Int)) (hn.erase _) fun a ha => by
      have h2 := (hn.mem_erase_iff).1 ha
      have h3 := h a h2.2
      have : a ≠ (n : Int) := h2.1
      omega
    rw [List.length_erase] at h1
    split at h1 <;> omega
theorem heap_congr {y y' : Nat → Int} {l : List Int} (h : HeapL (ltA y) 0 l) (e : ∀ b ∈ l, y' b.toNat = y b.toNat) : HeapL (ltA y') 0 l := fun k h0 h1 => by
  have a1 := e (l.getD k 0) (mem_getD h1)
  have a2 := e (l.getD ((k - 1) / 2) 0) (mem_getD (by omega))
  have h2 := h k h0 h1
  unfold ltA at *
  rw [a1, a2]
  exact h2
theorem getD_apart {l : List Int} (h : l.Nodup) {i j : Nat} (hi : i < l.length) (hj : j < l.length) (hij : i ≠ j) : l.getD i 0 ≠ l.getD j 0 := by
  have e1 : l.getD i 0 = l[i] := by simp [List.getD, hi]
  have e2 : l.getD j 0 = l[j] := by simp [List.getD, hj]
  rw [e1, e2]
  have h2 := List.pairwise_iff_getElem.1 h
  intro e
  rcases Nat.lt_or_gt_of_ne hij with h3 | h3
  · exact h2 i j hi hj h3 e
  · exact h2 j i hj hi h3 e.symm
/-- one's time anew: the heap stands but for it. -/
theorem odd_new {y y' : Nat → Int} {l : List Int} {i : Nat} (h : HeapL (ltA y) 0 l) (hn : l.Nodup) (hi : i < l.length) (e : ∀ b ∈ l, b ≠ l.getD i 0 → y' b.toNat = y b.toNat) : OddF (ltA y') (fun k => l.getD k 0) l.length i := by
  have a : ∀ k, k < l.length → k ≠ i → y' (l.getD k 0).toNat = y (l.getD k 0).toNat := fun k hk hki => e _ (mem_getD hk) (getD_apart hn hk hi hki)
  refine ⟨fun k h0 h1 h2 h3 => ?_, fun hi0 k h1 h0 hk => ?_⟩
  · have h4 := h k h0 h1
    have a1 := a k h1 h2
    have a2 := a ((k - 1) / 2) (by omega) h3
    unfold ltA at *
    simp only [a1, a2]
    exact h4
  · have h4 : ¬ ltA y (l.getD k 0) (l.getD ((k - 1) / 2) 0) := h k h0 h1
    rw [hk] at h4
    have h5 : ¬ ltA y (l.getD i 0) (l.getD ((i - 1) / 2) 0) := h i hi0 hi
    have h6 := (ltA_slo y).neg _ _ _ h4 h5
    have a1 := a k h1 (by omega)
    have a2 := a ((i - 1) / 2) (by omega) (by omega)
    unfold ltA at *
    simp only [a1, a2]
    exact h6
/-! ### the turns, their footprint -/
def FootT (g : Nat) (v : Value) (k : Nat) : Prop := k = g ∨ v.ownBlock = some k
structure IsT (T : TypeId) (w : World) (g : Nat) (x y : Nat → Int) (v : Value) (l : List Int) : Prop where
  at_ : At35 T w g x y v
  row : RowN w v l
  ne : ∀ k, v.ownBlock = some k → k ≠ g
  aid : ∀ a ∈ l, 0 ≤ a ∧ a < 17
  nd : l.Nodup
  heap : HeapL (ltA y) 0 l
/-- behind a call. -/
structure TuE (T : TypeId) (g : Nat) (x y : Nat → Int) (v : Value) (w w' : World) (l' : List Int) : Prop where
  out : ∃ v', IsT T w' g x y v' l' ∧ Only (FootT g v) w w' ∧ Fresh w (FootT g v) (FootT g v')
section
variable {T : TypeId} {w w' : World} {g : Nat} {x y x' y' : Nat → Int} {v : Value} {l l' : List Int}
theorem IsT.few (h : IsT T w g x y v l) : l.length ≤ 17 := nodup_len 17 l h.nd h.aid
theorem IsT.lt (h : IsT T w g x y v l) : ∀ k, FootT g v k → k < w.heap.size := fun k hk => by
  rcases hk with e | e
  · exact e ▸ lt_blk h.at_
  · exact h.row.lt k e
theorem IsT.tu (h : IsT T w g x y v l) : IsTu T (fun k => FootT g v k ∨ w.heap.size ≤ k) g x y w l :=
  ⟨⟨v, h.at_, h.row, fun k hk => ⟨.inl (.inr hk), h.ne k hk⟩⟩, by have := h.few; omega, h.aid, .inl (.inl rfl)⟩
theorem TuE.of {S : Nat → Prop} (hS : ∀ k, S k → FootT g v k ∨ w.heap.size ≤ k) (h : IsTu T S g x y w' l') (hh : HeapL (ltA y) 0 l') (hn : l'.Nodup) (hO : Only S w w') : TuE T g x y v w w' l' := by
  obtain ⟨v', h1, h2, h3⟩ := h.at_
  refine ⟨v', ⟨h1, h2, fun k hk => (h3 k hk).2, h.aid, hn, hh⟩, hO.mono fun k hk e => (hS k e).resolve_right (by omega), fun k hk => ?_⟩
  rcases hk with e | e
  · exact .inl (.inl e)
  · exact hS k (h3 k e).1
theorem IsT.same (h : IsT T w g x y v l) : TuE T g x y v w w l := ⟨v, h, Only.refl _ _, Fresh.refl _ _⟩
theorem IsT.below (h : IsT T w g x y v l) (hb : Below w.heap.size w w') : IsT T w' g x y v l := ⟨h.at_.below hb, h.row.below hb, h.ne, h.aid, h.nd, h.heap⟩
theorem IsT.only {S : Nat → Prop} (h : IsT T w g x y v l) (ho : Only S w w') (hn : ∀ k, FootT g v k → ¬ S k) : IsT T w' g x y v l := ⟨ho.at_ h.at_ (hn g (.inl rfl)), h.row.only ho fun k hk => hn k (.inr hk), h.ne, h.aid, h.nd, h.heap⟩
theorem IsT.congr (h : IsT T w g x y v l) (hx : ∀ a, a < 17 → x a = x' a) (hy : ∀ a, a < 17 → y a = y' a) : IsT T w g x' y' v l :=
  ⟨by unfold At35; rw [← c35_congr hx hy]; exact h.at_, h.row, h.ne, h.aid, h.nd, heap_congr h.heap fun b hb => (hy _ (by have := h.aid b hb; omega)).symm⟩
end
theorem notmem_one {xs : List Int} {v : Int} {k : Nat} (h : v ∉ xs.take k) (hk : k < xs.length) (e : xs.getD k 0 ≠ v) : v ∉ xs.take (k + 1) := by
  rw [List.take_add_one]
  have e2 : xs[k]? = some (xs.getD k 0) := by simp [List.getD, hk]
  rw [e2]
  simp only [Option.toList_some, List.mem_append, List.mem_singleton, not_or]
  exact ⟨h, fun hh => e hh.symm⟩
/-! ### place -/
set_option maxRecDepth 100000 in
set_option maxHeartbeats 8000000 in
theorem index_at (A : Option Addr) (n c : Nat) (xs : List Int) (v : Int) (w : World) (h : RowB .i64 w A n xs) :
    Calls Tryd.prog 52 #[.slice A n c, .int .i64 v] w fun e w' => ((∃ k : Nat, k < n ∧ xs.getD k 0 = v ∧ e = .returned (.int .i64 (k : Nat))) ∨ (v ∉ xs ∧ e = .returned (.int .i64 (-1)))) ∧ w = w' := by
  have hl := h.len
  have hle := h.le
  unfold maxLen at hle
  have HC := Shut.mk (fun i hi => h.el i hi)
  have HL := Shut.mk hl
  clear h hl
  go_enter Tryd.func52, Tryd.ntmps52
  go_wp2
  go_loop [8] (fun i => ∃ k : Nat, k ≤ n ∧ i = .int .i64 k ∧ Shut (v ∉ xs.take k)) (fun i => n - (intOf i).toNat)
  case atStart => exact ⟨0, by omega, rfl, Shut.mk (by simp)⟩
  case round =>
    obtain ⟨k, hk, rfl, hnot⟩ := hrel
    by_cases hlt : k < n
    · obtain ⟨b, off, rfl, hc⟩ := HC.out k hlt
      have hi : (k : Int) < (n : Int) := by omega
      by_cases he : xs.getD k 0 = v
      · have HS := Shut.mk he
        have HK := Shut.mk hlt
        rw [he] at hc
        have hb' : (v == v) = true := by simp
        clear he hnot
        go_wp2
        go_ret
        exact ⟨.inl ⟨k, HK.out, HS.out, rfl⟩, rfl⟩
      · have HS := Shut.mk (notmem_one hnot.out (by rw [HL.out]; exact hlt) he)
        have hb' : (v == xs.getD k 0) = false := by simpa using fun e => he e.symm
        generalize xs.getD k 0 = x at *
        clear he hnot
        go_wp2
        go_round
        case rel => exact ⟨k + 1, by omega, by go_num, Shut.mk HS.out⟩
        case measure => simp [intOf]; omega
    · have HS := Shut.mk (show v ∉ xs by
        have h := hnot.out
        rw [List.take_of_length_le (by rw [HL.out]; omega)] at h
        exact h)
      clear hnot
      go_wp2
      go_ret
      exact ⟨.inr ⟨HS.out, rfl⟩, rfl⟩
set_option maxRecDepth 100000 in
set_option maxHeartbeats 8000000 in
theorem place_raw (T : TypeId) (g : Nat) (x y : Nat → Int) (v : Value) (l : List Int) (a : Int) (w : World) (hB : At35 T w g x y v) (hR : RowN w v l) (hf : l.length ≤ 17) (haid : ∀ a ∈ l, 0 ≤ a ∧ a < 17) :
    Calls Tryd.prog 45 #[.pointer (some ⟨g, 0, none⟩), .int .i64 a] w fun e w' => ((∃ k : Nat, k < l.length ∧ l.getD k 0 = a ∧ e = .returned (.int .i64 (k : Nat))) ∨ (a ∉ l ∧ e = .returned (.int .i64 (-1)))) ∧ w = w' := by
  obtain ⟨A, c, rfl, hc, hn⟩ := hR.form
  have HI := Shut.mk (index_at A l.length c l a w (hR.row (by unfold maxLen; omega) fun u hu => by have := haid u hu; omega))
  have hv := hB.cv
  generalize l.length = n at *
  clear hB hR hc hn hf haid
  go_enter Tryd.func45, Tryd.ntmps45
  go_wp2_with (fail)
  refine HI.out.mono ?_
  rintro e w' ⟨he, rfl⟩
  rcases he with ⟨k, hk, hka, rfl⟩ | ⟨hna, rfl⟩
  · have HK := Shut.mk hk
    have HKA := Shut.mk hka
    clear hk hka
    go_wp2_with (fail)
    go_ret
    exact ⟨.inl ⟨k, HK.out, HKA.out, rfl⟩, rfl⟩
  · have HNA := Shut.mk hna
    clear hna
    go_wp2_with (fail)
    go_ret
    exact ⟨.inr ⟨HNA.out, rfl⟩, rfl⟩
theorem place_any (T : TypeId) (g : Nat) (x y : Nat → Int) (v : Value) (l : List Int) (a : Int) (w : World) (h : IsT T w g x y v l) :
    Calls Tryd.prog 45 #[.pointer (some ⟨g, 0, none⟩), .int .i64 a] w fun e w' => ((∃ k : Nat, k < l.length ∧ l.getD k 0 = a ∧ e = .returned (.int .i64 (k : Nat))) ∨ (a ∉ l ∧ e = .returned (.int .i64 (-1)))) ∧ w = w' :=
  place_raw T g x y v l a w h.at_ h.row h.few h.aid
/-! ### leave -/
set_option maxRecDepth 100000 in
set_option maxHeartbeats 8000000 in
theorem leave_any (T : TypeId) (g : Nat) (x y : Nat → Int) (v : Value) (l : List Int) (a : Int) (w : World) (h : IsT T w g x y v l) :
    Calls Tryd.prog 38 #[.pointer (some ⟨g, 0, none⟩), .int .i64 a] w fun e w' => e = .returned (.tuple #[]) ∧ ∃ l', TuE T g x y v w w' l' ∧ ∀ b, b ∈ l' ↔ b ∈ l ∧ b ≠ a := by
  have HX := Shut.mk h
  have HF := Shut.mk h.few
  clear h
  go_enter Tryd.func38, Tryd.ntmps38
  go_wp2_with (fail)
  refine (place_any T g x y v l a w HX.out).mono ?_
  rintro e w' ⟨he, rfl⟩
  rcases he with ⟨k, hk, hka, rfl⟩ | ⟨hna, rfl⟩
  · have HK := Shut.mk hk
    have HKA := Shut.mk hka
    have hk0 : (0 : Int) ≤ (k : Int) := by omega
    clear hk hka
    go_wp2_with (fail)
    refine (remove_any (obj_tu T (fun k => FootT g v k ∨ w.heap.size ≤ k) g x y) l k w (fun r w' => ∃ u, r = .returned u ∧ ∃ l', TuE T g x y v w w' l' ∧ ∀ b, b ∈ l' ↔ b ∈ l ∧ b ≠ a) HX.out.tu HK.out HX.out.heap ?_).mono ?_
    · intro w1 l1 h1 h2 h3 h4
      obtain ⟨f, e1, r, e2, hc⟩ := meth_pop T _ g x y w1 l1 _ h1
      rw [HKA.out] at h2
      have hn : (l1 ++ [a]).Nodup := h2.nodup_iff.2 HX.out.nd
      have hnl := List.nodup_append.1 hn
      refine ⟨f, e1, r, e2, hc.mono ?_⟩
      rintro r w2 ⟨rfl, h5, h6⟩
      refine ⟨⟨_, rfl⟩, _, rfl, l1, TuE.of (fun k hk => hk) h5 h3 hnl.1 (h4.trans h6 fun _ _ e => e), fun b => ⟨fun hb => ⟨h2.mem_iff.1 (List.mem_append_left _ hb), hnl.2.2 b hb a (List.mem_singleton.2 rfl)⟩, fun hb => ?_⟩⟩
      rcases List.mem_append.1 (h2.mem_iff.2 hb.1) with e | e
      · exact e
      · exact absurd (List.mem_singleton.1 e) hb.2
    rintro e w' ⟨u, rfl, hE⟩
    have HE := Shut.mk hE
    clear hE
    go_wp2_with (fail)
    refine bodyPost_end (results_none (fn := Tryd.f38) rfl _ _ _) rfl ?_
    exact ⟨rfl, HE.out⟩
  · have HNA := Shut.mk hna
    clear hna
    go_wp2_with (fail)
    refine bodyPost_end (results_none (fn := Tryd.f38) rfl _ _ _) rfl ?_
    exact ⟨rfl, l, HX.out.same, fun b => ⟨fun hb => ⟨hb, fun e => HNA.out (e ▸ hb)⟩, fun hb => hb.1⟩⟩
end Go.Proofs.YtkmblmnffnhpmaaDoor
