/-
  CONTRACTS of slices.Clone, of a row that begins anywhere: packets (their bodies shared), items, ints.
-/
import Derived.Test.YtndkmgcmegcieaaGreatDoorMgF
import Derived.Deep.AppendLies
namespace Go.Proofs.YtndkmgcmegcieaaGreatDoor
open Go.ChangeShapes Go.WideShapes Go.ChangeAt Go.RowKit Go.Deep
set_option linter.unusedVariables false
set_option linter.unusedSimpArgs false
theorem app_clone {ops : Array Oper} {rest : List Oper} {o : Oper} {a : Act} {w : World} {Q : Exit → Act → World → Prop} (hgd : o.guard = none) (s x : Operand) (t e : TypeId)
 (ho : o.op = .call { callee := .builtin .append, args := #[s, x], argTypes := #[t, t] }) (i0 : TypeInfo) (z : Value) (size bytes : Nat) (hu : Tryz.prog.underlying t = some (.slice e)) (hi0 : Tryz.prog.info? e = some i0) (hz0 : i0.zero = some z) (hz1 : i0.size = size) (hz2 : i0.bytes = bytes) (hzs : z.cells.size = size) (hsz : 0 < size)
 (hs : a.eval s = .slice (some ⟨w.heap.size, 0, none⟩) 0 0) (v : Value) (n : Nat) (xs : List Value) (hx : a.eval x = v) (hR : RowAt w e size v n xs) (h1 : ∀ u ∈ xs, u.oneCell' = true) (hk : n ≤ 100000) (hb : bytes ≤ 1000)
 (h : ∀ u w', Shut (RowAt w' e size u n xs) → Shut (Below w.heap.size w w') → Shut (∀ g, u.ownBlock = some g → w.heap.size ≤ g) → wpList Tryz.prog ops Q rest (a.put o.dst u) w') :
 wpList Tryz.prog ops Q (o :: rest) a (w.alloc (.cells #[] e)) := by
 have hb0 := (Below.refl w.heap.size w).alloc (Nat.le_refl _) (.cells #[] e)
 have hg0 : (w.alloc (.cells #[] e)).heap[w.heap.size]? = some (.cells #[] e (0, 0)) := (MapKept.heap_alloc w _).1
 rcases Nat.eq_zero_or_pos n with h0 | h0
 ·subst h0
  obtain ⟨A, c, rfl, -, -⟩ := hR.form
  obtain rfl : xs = [] := List.eq_nil_of_length_eq_zero (by rw [hR.1]; omega)
  refine wpList_plain hgd fun K hK => ?_
  have hrun : (Builtin.append_ #[t, t] o.type #[.slice (some ⟨w.heap.size, 0, none⟩) 0 0, .slice A 0 c]).run Tryz.prog (w.alloc (.cells #[] e)) = .ok (.slice (some ⟨w.heap.size, 0, none⟩) 0 0) (w.alloc (.cells #[] e)) := by
   cases A with
   | none => simp [Builtin.append_, run_underlying hu, sizeOf, typeInfo, hi0, Builtin.lenOf, Builtin.firstCells, storeCells, loadCells, loadCellsFrom]
   | some ad => simp [Builtin.append_, run_underlying hu, sizeOf, typeInfo, hi0, Builtin.lenOf, Builtin.firstCells, storeCells, loadCells, loadCellsFrom]
  unfold Oper.wp
  simp [execOp, ho, resolve, invoke, builtin, hs, hx, hrun, Result.andThen]
  exact hK _ _ (h _ _ ⟨⟨by simp, .inr ⟨w.heap.size, 0, 0, [], [], rfl, rfl, hg0, Nat.le_refl _, by unfold maxLen; omega, by simp⟩⟩⟩ ⟨hb0⟩ ⟨fun g hg => by cases hg; exact Nat.le_refl _⟩)
 ·have hR' : RowAt (w.alloc (.cells #[] e)) e size v n xs := hR.only (S := fun _ => False) (Only.of_quiet hb0) (fun _ _ e => e)
  obtain ⟨b, off, c, hv, hc, hn, hm⟩ := hR'.cells h0
  have hown : (w.alloc (.cells #[] e)).ownsRow w.heap.size e size (.slice (some ⟨w.heap.size, 0, none⟩) 0 0) 0 [] := by
   refine ⟨by simp, .inr ⟨w.heap.size, 0, #[], rfl, Nat.le_refl _, hg0, Nat.le_refl _, by unfold maxLen; omega, by simp, by simp⟩⟩
  refine wpList_append_lies _ hgd s x t ho w.heap.size e i0 z size bytes hu hi0 hz0 hz1 hz2 hzs hsz _ 0 [] hs hown ⟨b, off, none⟩ n c xs (by rw [hx, hv]) hR.1 (fun j v hv => ?_) h1 h0 (by unfold maxLen; omega) (by have : (0 + n) * bytes ≤ 100000 * 1000 := Nat.mul_le_mul (by omega) hb; omega) hb0.size _ rfl ?_
  ·rw [Addr.add_mid]; exact hc j v hv
  ·intro g cap w' hown' hgrow hor hlt
   rw [Nat.zero_add, List.nil_append] at hown'
   have hro : RowAt w' e size (.slice (some ⟨g, 0, none⟩) n cap) n xs := RowAt.of_owns hown'
   refine h _ w' ⟨?_⟩ ⟨hb0.trans ((Below.refl w.heap.size _).grown hgrow hb0.size (by intro q hq; cases hq; exact Nat.le_refl _))⟩ ⟨fun g' hg' => ?_⟩
   ·first | exact hro | (have := hro; simpa using this)
   ·have e1 : g' = g := by simpa [Value.ownBlock] using hg'.symm
    rw [e1]; exact (World.ownsRow.lt hown' g rfl).1
set_option maxRecDepth 100000 in
set_option maxHeartbeats 8000000 in
theorem clonepk_any (T : Nat → Prop) (w : World) (v : Value) (l : List Pk) (h : RowPk T w v l) (hl : l.length ≤ 100000) :
 Calls Tryz.prog 51 #[v] w fun e w' => ∃ u, e = .returned u ∧ RowPk T w' u l ∧ Below w.heap.size w w' ∧ ∀ g, u.ownBlock = some g → w.heap.size ≤ g := by
 obtain ⟨i0, hi0, hz0, hz1, hz2⟩ := info_parts' pkt_info
 obtain ⟨l', hrow, he, hx⟩ := h
 have hle : l'.length = l.length := by rw [← he, List.length_map]
 rw [← hle] at hl
 have HX := Shut.mk hx
 have H1 := Shut.mk (show ∀ u ∈ l'.flatMap (FK pkC), u.oneCell' = true from fun u hu => by
  obtain ⟨p, hp, hu⟩ := List.mem_flatMap.1 hu
  obtain ⟨a, m, c, e, -⟩ := hx p hp
  unfold FK at hu
  rw [e] at hu
  exact pkC_one _ _ _ _ u hu)
 clear hx hle
 have HR := Shut.mk hrow
 have HL := Shut.mk hl
 rcases hrow.2 with ⟨rfl, h0⟩ | ⟨g, o, cap, p1, p2, rfl, -, -, -, -, -⟩
 ·have HN := Shut.mk h0
  clear hrow h0
  have hq := Lib.run_eql_slice_nil (P := Tryz.prog) w 40 35 none 0 0 0 0 Tryz.underlying40
  simp only [Option.isNone_none] at hq
  go_enter Tryz.func51, Tryz.ntmps51
  go_wp2
  go_ret
  refine ⟨_, rfl, ⟨l', HR.out, he, HX.out⟩, Below.refl _ _, fun g hg => by cases hg⟩
 ·clear hrow
  have hq := Lib.run_eql_slice_nil (P := Tryz.prog) w 40 35 (some ⟨g, o, none⟩) l'.length cap 0 0 Tryz.underlying40
  simp only [Option.isNone_some] at hq
  go_enter Tryz.func51, Tryz.ntmps51
  go_wp2_with (first
   | (refine app_clone rfl (.tmp 5) (.tmp 6) 40 35 rfl i0 _ 5 56 Tryz.underlying40 hi0 hz0 hz1 hz2 rfl (by decide) rfl _ _ _ rfl HR.out H1.out HL.out (by decide) ?_
      intro u w1 HU HB HG))
  go_ret
  exact ⟨_, rfl, ⟨l', HU.out, he, fun p hp => (HX.out p hp).below HB.out⟩, HB.out, HG.out⟩
set_option maxRecDepth 100000 in
set_option maxHeartbeats 8000000 in
theorem cloneit_any (w : World) (v : Value) (l : List It) (h : RowIt w v l) (hl : l.length ≤ 100000) :
 Calls Tryz.prog 52 #[v] w fun e w' => ∃ u, e = .returned u ∧ RowIt w' u l ∧ Below w.heap.size w w' ∧ ∀ g, u.ownBlock = some g → w.heap.size ≤ g := by
 obtain ⟨i0, hi0, hz0, hz1, hz2⟩ := info_parts' item_info'
 have hrow : RowAt w 103 2 v l.length (l.flatMap itC) := h
 have H1 := Shut.mk (show ∀ u ∈ l.flatMap itC, u.oneCell' = true from fun u hu => by
  obtain ⟨p, hp, hu⟩ := List.mem_flatMap.1 hu
  simp [itC] at hu
  rcases hu with rfl | rfl <;> rfl)
 clear h
 have HR := Shut.mk hrow
 have HL := Shut.mk hl
 rcases hrow.2 with ⟨rfl, h0⟩ | ⟨g, o, cap, p1, p2, rfl, -, -, -, -, -⟩
 ·have HN := Shut.mk h0
  clear hrow h0
  have hq := Lib.run_eql_slice_nil (P := Tryz.prog) w 91 103 none 0 0 0 0 Tryz.underlying91
  simp only [Option.isNone_none] at hq
  go_enter Tryz.func52, Tryz.ntmps52
  go_wp2
  go_ret
  refine ⟨_, rfl, HR.out, Below.refl _ _, fun g hg => by cases hg⟩
 ·clear hrow
  have hq := Lib.run_eql_slice_nil (P := Tryz.prog) w 91 103 (some ⟨g, o, none⟩) l.length cap 0 0 Tryz.underlying91
  simp only [Option.isNone_some] at hq
  go_enter Tryz.func52, Tryz.ntmps52
  go_wp2_with (first
   | (refine app_clone rfl (.tmp 5) (.tmp 6) 91 103 rfl i0 _ 2 16 Tryz.underlying91 hi0 hz0 hz1 hz2 rfl (by decide) rfl _ _ _ rfl HR.out H1.out HL.out (by decide) ?_
      intro u w1 HU HB HG))
  go_ret
  exact ⟨_, rfl, HU.out, HB.out, HG.out⟩
set_option maxRecDepth 100000 in
set_option maxHeartbeats 8000000 in
theorem cloneint_any (w : World) (v : Value) (l : List Int) (h : RowN w v l) (hl : l.length ≤ 100000) :
 Calls Tryz.prog 53 #[v] w fun e w' => ∃ u, e = .returned u ∧ RowN w' u l ∧ Below w.heap.size w w' ∧ ∀ g, u.ownBlock = some g → w.heap.size ≤ g := by
 obtain ⟨i0, hi0, hz0, hz1, hz2⟩ := info_parts' int_info
 have hrow : RowAt w 3 1 v l.length (l.map (Value.int .i64)) := h
 have H1 := Shut.mk (show ∀ u ∈ l.map (Value.int .i64), u.oneCell' = true from fun u hu => by
  obtain ⟨p, hp, rfl⟩ := List.mem_map.1 hu
  rfl)
 clear h
 have HR := Shut.mk hrow
 have HL := Shut.mk hl
 rcases hrow.2 with ⟨rfl, h0⟩ | ⟨g, o, cap, p1, p2, rfl, -, -, -, -, -⟩
 ·have HN := Shut.mk h0
  clear hrow h0
  have hq := Lib.run_eql_slice_nil (P := Tryz.prog) w 88 3 none 0 0 0 0 Tryz.underlying88
  simp only [Option.isNone_none] at hq
  go_enter Tryz.func53, Tryz.ntmps53
  go_wp2
  go_ret
  refine ⟨_, rfl, HR.out, Below.refl _ _, fun g hg => by cases hg⟩
 ·clear hrow
  have hq := Lib.run_eql_slice_nil (P := Tryz.prog) w 88 3 (some ⟨g, o, none⟩) l.length cap 0 0 Tryz.underlying88
  simp only [Option.isNone_some] at hq
  go_enter Tryz.func53, Tryz.ntmps53
  go_wp2_with (first
   | (refine app_clone rfl (.tmp 5) (.tmp 6) 88 3 rfl i0 _ 1 8 Tryz.underlying88 hi0 hz0 hz1 hz2 rfl (by decide) rfl _ _ _ rfl HR.out H1.out HL.out (by decide) ?_
      intro u w1 HU HB HG))
  go_ret
  exact ⟨_, rfl, HU.out, HB.out, HG.out⟩
end Go.Proofs.YtndkmgcmegcieaaGreatDoor
