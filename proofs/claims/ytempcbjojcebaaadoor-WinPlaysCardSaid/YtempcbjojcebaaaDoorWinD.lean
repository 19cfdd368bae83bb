/-
  THE REFERENCE's WINDOW: its block, its list; muezzinref.Del.
-/
import Derived.Test.YtempcbjojcebaaaDoorWinC
import Derived.Test.YtempcbjojcebaaaDoorIntsA
import Derived.OwnWalk
namespace Go.Proofs.YtempcbjojcebaaaDoor
open Go.ChangeShapes Go.WideShapes Go.ChangeAt Go.RowKit Go.Deep
set_option linter.unusedVariables false
set_option linter.unusedSimpArgs false

theorem outI_wf (x : Wo) : ∀ a ∈ outI x, -9223372036854775808 ≤ a ∧ a ≤ 9223372036854775807 := by
  intro a ha
  obtain ⟨d, hd, rfl⟩ := List.mem_map.1 ha
  have := nm_lt x d
  omega
/-- append of one number to a row that begins anywhere. -/
theorem wpList_app_n {ops : Array Oper} {rest : List Oper} {o : Oper} {a : Act} {w : World} {Q : Exit → Act → World → Prop} (hgd : o.guard = none) (s x : Operand)
    (ho : o.op = .call { callee := .builtin .append, args := #[s, x], argTypes := #[39, 39] })
    (lv : Value) (l : List Int) (hs : a.eval s = lv) (hP : RowN w lv l) (u : Int) (ad : Addr) (c : Nat) (hx : a.eval x = .slice (some ad) 1 c) (hc : ∀ j q, [Value.int .i64 u][j]? = some q → w.cell? (ad.add j) = some q)
    (hk : l.length ≤ 1000000)
    (h : ∀ v w', RowN w' v (l ++ [u]) → Only (fun j => lv.ownBlock = some j) w w' → (∀ g, v.ownBlock = some g → lv.ownBlock = some g ∨ g = w.heap.size) → wpList Tryd.prog ops Q rest (a.put o.dst v) w') : wpList Tryd.prog ops Q (o :: rest) a w :=
  wpList_step fun _ hK => step_app_n hgd s x ho lv l hs hP u ad c hx hc hk fun v w' h1 h2 h3 => hK _ _ (h v w' h1 h2 h3)
theorem one_new (w : World) (u : Int) : ∀ j q, [Value.int .i64 u][j]? = some q → (w.alloc (Obj.cells #[.int .i64 u] 3 (0, 0))).cell? ((⟨w.heap.size, 0, none⟩ : Addr).add j) = some q := fun j q hq => by
  rw [Addr.add_mid]
  exact (block_range (MapKept.heap_alloc w (Obj.cells #[.int .i64 u] 3 (0, 0))).1) j q hq

/-! ### Del -/
theorem del_skip {xs : List Int} {v : Int} {k : Nat} (hk : k < xs.length) (e : xs.getD k 0 = v) : (xs.take (k + 1)).filter (fun a => a != v) = (xs.take k).filter fun a => a != v := by
  rw [take_snoc hk, List.filter_append, e]; simp
theorem del_more {xs : List Int} {v : Int} {k : Nat} (hk : k < xs.length) (e : xs.getD k 0 ≠ v) : (xs.take (k + 1)).filter (fun a => a != v) = (xs.take k).filter (fun a => a != v) ++ [xs.getD k 0] := by
  rw [take_snoc hk, List.filter_append, List.filter_cons, if_pos (by simpa using e)]; rfl
set_option maxRecDepth 100000 in
set_option maxHeartbeats 8000000 in
theorem refdel_any (A : Option Addr) (n c : Nat) (xs : List Int) (v : Int) (w : World) (h : RowB .i64 w A n xs) (hn : n ≤ 1000000) :
    Calls Tryd.prog 37 #[.slice A n c, .int .i64 v] w fun e w' => ∃ u, e = .returned u ∧ RowN w' u (xs.filter fun a => a != v) ∧ (∀ k, u.ownBlock = some k → w.heap.size ≤ k) ∧ Below w.heap.size w w' := by
  have HR := Shut.mk h
  have HL := Shut.mk h.len
  clear h
  go_enter Tryd.func37, Tryd.ntmps37
  go_wp2_with (fail)
  go_loopw [5, 6] (fun u fi wr => ∃ k : Nat, k ≤ n ∧ fi = .int .i64 k ∧ RowN wr u ((xs.take k).filter fun a => a != v) ∧ (∀ j, u.ownBlock = some j → w.heap.size ≤ j) ∧ Below w.heap.size w wr) (fun _ fi _ => n - (intOf fi).toNat)
  case atStart => exact ⟨0, Nat.zero_le _, rfl, RowN.nil _, (fun j hj => by cases hj), Below.refl _ _⟩
  case round =>
    obtain ⟨k, hk, rfl, hr, hf, hb⟩ := hrel
    have HRW := Shut.mk hr
    have HF := Shut.mk hf
    have HB := Shut.mk hb
    clear hr hf hb
    by_cases hlt : k < n
    · obtain ⟨b, off, rfl, hc⟩ := (HR.out.below HB.out).el k hlt
      have hi : (k : Int) < (n : Int) := by omega
      have hn9 : (k : Int) < 1000000 := by omega
      by_cases he : xs.getD k 0 = v
      · have HS := Shut.mk (del_skip (v := v) (by rw [HL.out]; exact hlt) he)
        rw [he] at hc
        clear he
        go_wp2
        go_roundw
        case rel => exact ⟨k + 1, by omega, by go_num, by rw [HS.out]; exact HRW.out, HF.out, HB.out⟩
        case measure => simp [intOf]; omega
      · have HS := Shut.mk (del_more (v := v) (by rw [HL.out]; exact hlt) he)
        have hb' : (xs.getD k 0 != v) = true := by simpa using he
        obtain ⟨L, hL⟩ : ∃ L, L = (xs.take k).filter fun a => a != v := ⟨_, rfl⟩
        have HLL := Shut.mk (show L.length ≤ 1000000 by rw [hL]; exact Nat.le_trans (List.length_filter_le _ _) (by simp; omega))
        rw [← hL] at HS HRW
        clear hL
        generalize xs.getD k 0 = q at *
        clear he
        have HA := Shut.mk ((Below.refl wr.heap.size wr).alloc (Nat.le_refl _) (Obj.cells #[.int .i64 q] 3 (0, 0)))
        have HR6 := Shut.mk (HRW.out.only (S := fun _ => False) (Only.of_quiet HA.out) (fun _ _ e => e))
        have HN6 := Shut.mk (one_new wr q)
        go_wp2_with (at_builtin; refine wpList_app_n rfl (.tmp 19) (.tmp 24) rfl u5 L rfl HR6.out q ⟨wr.heap.size, 0, none⟩ 1 rfl HN6.out HLL.out ?_; intro v' w2 hP hO hF)
        have HP := Shut.mk hP
        have HF2 := Shut.mk (show ∀ j, v'.ownBlock = some j → w.heap.size ≤ j from fun j hj => by
          rcases hF j hj with h1 | h1
          · exact HF.out j h1
          · have := HB.out.size; have := HA.out.size; omega)
        have HB2 := Shut.mk (show Below w.heap.size w w2 from (HB.out.trans (HA.out.mono HB.out.size)).trans (hO.below (fun i hi e => by have := HF.out i e; omega) (Nat.le_trans HB.out.size HA.out.size)))
        clear hP hO hF
        go_wp2_with (fail)
        go_roundw
        case rel => exact ⟨k + 1, by omega, by go_num, by rw [HS.out]; exact HP.out, HF2.out, HB2.out⟩
        case measure => simp [intOf]; omega
    · have e : xs.take k = xs := List.take_of_length_le (by rw [HL.out]; omega)
      rw [e] at HRW
      clear e
      go_wp2
      go_ret
      exact ⟨_, rfl, HRW.out, HF.out, HB.out⟩

/-! ### the window -/
theorem sizeRw : (Tryd.prog.info? 41).map (·.size) = some 4 := by kernel_rfl
/-- it lies at h, its list is v. -/
structure IsRw (w : World) (h : Nat) (v : Value) (x : Wo) : Prop where
  blk : w.heap[h]? = some (.cells #[.int .i64 ((x.st : Nat) : Int), .int .i64 ((x.gv : Nat) : Int), .int .i64 ((x.sz : Nat) : Int), v] 41 (0, 0))
  row : RowN w v (outI x)
  ap : ∀ k, v.ownBlock = some k → k ≠ h
/-- the blocks that it writes. -/
def FootR (h : Nat) (v : Value) (i : Nat) : Prop := i = h ∨ v.ownBlock = some i
theorem IsRw.only {S : Nat → Prop} {w w' : World} {h : Nat} {v : Value} {x : Wo} (hr : IsRw w h v x) (ho : Only S w w') (hn : ∀ k, FootR h v k → ¬ S k) : IsRw w' h v x :=
  ⟨ho.at_ hr.blk (hn h (.inl rfl)), hr.row.only ho fun k hk => hn k (.inr hk), hr.ap⟩
theorem IsRw.quiet {w w' : World} {h : Nat} {v : Value} {x : Wo} (hr : IsRw w h v x) (hb : Below w.heap.size w w') : IsRw w' h v x := hr.only (S := fun _ => False) (Only.of_quiet hb) fun _ _ e => e
theorem IsRw.lt {w : World} {h : Nat} {v : Value} {x : Wo} (hr : IsRw w h v x) : ∀ k, FootR h v k → k < w.heap.size := fun k hk => by
  rcases hk with rfl | hk
  · exact lt_blk hr.blk
  · exact hr.row.lt k hk
theorem IsRw.cell {w : World} {h : Nat} {v : Value} {x : Wo} (hr : IsRw w h v x) : w.cell? ⟨h, 0, none⟩ = some (.int .i64 ((x.st : Nat) : Int)) ∧ w.cell? ⟨h, 1, none⟩ = some (.int .i64 ((x.gv : Nat) : Int)) ∧ w.cell? ⟨h, 2, none⟩ = some (.int .i64 ((x.sz : Nat) : Int)) ∧ w.cell? ⟨h, 3, none⟩ = some v :=
  ⟨by simpa using (block_range hr.blk) 0 _ rfl, by simpa using (block_range hr.blk) 1 _ rfl, by simpa using (block_range hr.blk) 2 _ rfl, by simpa using (block_range hr.blk) 3 _ rfl⟩
/-- what a call of it leaves. -/
structure RwS (w : World) (h : Nat) (v : Value) (w' : World) (v' : Value) : Prop where
  only : Only (FootR h v) w w'
  fresh : ∀ k, FootR h v' k → FootR h v k ∨ w.heap.size ≤ k
set_option maxRecDepth 100000 in
set_option maxHeartbeats 4000000 in
theorem refnew_any (s n : Nat) (w : World) (hs : s < 4096) :
    Calls Tryd.prog 11 #[.int .i64 (s : Nat), .int .i64 (n : Nat)] w fun e w' => e = .returned (.pointer (some ⟨w.heap.size, 0, none⟩)) ∧ IsRw w' w.heap.size (.slice none 0 0) (newW s n) ∧ Below w.heap.size w w' := by
  have HB := Shut.mk ((Below.refl w.heap.size w).alloc (Nat.le_refl _) (Obj.cells #[.int .i64 ((s : Nat) : Int), .int .i64 0, .int .i64 ((n : Nat) : Int), .slice none 0 0] 41 (0, 0)))
  have HN := Shut.mk (MapKept.heap_alloc w (Obj.cells #[.int .i64 ((s : Nat) : Int), .int .i64 0, .int .i64 ((n : Nat) : Int), .slice none 0 0] 41 (0, 0))).1
  go_enter Tryd.func11, Tryd.ntmps11
  go_wp2_with (fail)
  go_ret
  exact ⟨rfl, ⟨HN.out, RowN.nil _, fun k hk => by cases hk⟩, HB.out⟩
/-- whether a start and a size may be. -/
def validB (s n : Int) : Bool := decide (0 ≤ s) && decide (s < 4096) && fitB n
set_option maxRecDepth 100000 in
set_option maxHeartbeats 4000000 in
theorem refvalid_any (s n : Int) (w : World) :
    Calls Tryd.prog 9 #[.int .i64 s, .int .i64 n] w fun e w' => e = .returned (.bool (validB s n)) ∧ w = w' := by
  by_cases h0 : 0 ≤ s
  · by_cases h1 : s < 4096
    · by_cases h2 : 1 ≤ n
      · have H := Shut.mk (show validB s n = decide (n ≤ 64) by unfold validB fitB; simp [h0, h1, h2])
        go_enter Tryd.func9, Tryd.ntmps9
        go_wp2
        go_ret
        exact ⟨ret_b H.out, rfl⟩
      · have H := Shut.mk (show validB s n = false by unfold validB fitB; simp [h2])
        have h3 : n < 1 := by omega
        go_enter Tryd.func9, Tryd.ntmps9
        go_wp2
        go_ret
        exact ⟨ret_b H.out, rfl⟩
    · have H := Shut.mk (show validB s n = false by unfold validB; simp [h1])
      go_enter Tryd.func9, Tryd.ntmps9
      go_wp2
      go_ret
      exact ⟨ret_b H.out, rfl⟩
  · have H := Shut.mk (show validB s n = false by unfold validB; simp [h0])
    have h3 : s < 0 := by omega
    go_enter Tryd.func9, Tryd.ntmps9
    go_wp2
    go_ret
    exact ⟨ret_b H.out, rfl⟩
set_option maxRecDepth 100000 in
set_option maxHeartbeats 4000000 in
theorem refahead_any (h : Nat) (v : Value) (x : Wo) (w : World) (hr : IsRw w h v x) (hi : InvW x) :
    Calls Tryd.prog 22 #[.pointer (some ⟨h, 0, none⟩)] w fun e w' => e = .returned (.int .i64 (nmW x x.gv : Nat)) ∧ ∃ n, w' = w.drewN n := by
  obtain ⟨c0, c1, -, -⟩ := hr.cell
  have HAD := Shut.mk (fun k => quiet_b (congrArg (Value.int .i64) (rd_nm x x.gv)) (refadd_any (x.st : Nat) (x.gv : Nat) (w.drewN k) (by have := hi.st; omega) (by have := hi.gv; have := hi.sz; omega)))
  clear hr hi
  go_enter Tryd.func22, Tryd.ntmps22
  go_wp2_with (fail)
  go_quiet ((go_at_call 38; exact HAD.out _))
  go_wp2_with (fail)
  go_ret
  exact ⟨rfl, _, rfl⟩
end Go.Proofs.YtempcbjojcebaaaDoor
