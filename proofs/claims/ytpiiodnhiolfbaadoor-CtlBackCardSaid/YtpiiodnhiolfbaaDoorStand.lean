/-
  append ONTO A ROW OF THE CALL's OWN: THE OLD SLICE STILL READS AS IT DID (whether there was room, or not).
-/
import Derived.Test.YtpiiodnhiolfbaaDoorApp
import Derived.Laws.OwnMore
import Derived.Maps.AppendAt
namespace Go.Proofs.YtpiiodnhiolfbaaDoor
open Go.ChangeShapes Go.WideShapes Go.ChangeAt Go.RowKit
set_option linter.unusedVariables false
set_option linter.unusedSimpArgs false

theorem app_stand {w : World} {ops : Array Oper} {rest : List Oper} {o : Oper} {a : Act} {Q : Exit → Act → World → Prop} (hgd : o.guard = none) (s x : Operand)
    (ho : o.op = .call { callee := .builtin .append, args := #[s, x], argTypes := #[32, 32] }) (B g n cap : Nat) (xs : List Int)
    (hs : a.eval s = .slice (some ⟨g, 0, none⟩) n cap) (hO : OwnB w B 5 .u8 g n cap xs) (ad : Addr) (m c : Nat) (ys : List Int) (hx : a.eval x = .slice (some ad) m c) (hl : ys.length = m)
    (hsrc : ∀ j u, (ys.map (Value.int .u8))[j]? = some u → w.cell? (ad.add j) = some u) (hm : n + m ≤ 1000000000) (hB : B ≤ w.heap.size)
    (h : ∀ g' cap' w', Hid (OwnB w' B 5 .u8 g' (n + m) cap' (xs ++ ys)) → Hid (Below B w w') → Hid (∀ i, i < n → w'.cell? ⟨g, i, none⟩ = some (.int .u8 (xs.getD i 0))) → Hid (∀ k, k < w.heap.size → k ≠ g → w'.heap[k]? = w.heap[k]?) → wpList Tryd.prog ops Q rest (a.put o.dst (.slice (some ⟨g', 0, none⟩) (n + m) cap')) w') : wpList Tryd.prog ops Q (o :: rest) a w := by
  obtain ⟨i0, hi0, hz0, hz1, hz2⟩ := info_parts byte_info
  have hbel : ∀ w', w.grownBy w' (Value.ownBlock (.slice (some ⟨g, 0, none⟩) n cap)) → Below B w w' := fun w' hgrow => (Below.refl B w).grown hgrow hB (by intro q hq; simp [Value.ownBlock] at hq; subst hq; exact hO.lt.1)
  have h1 : ∀ u ∈ ys.map (Value.int .u8), u.oneCell' = true := by intro u hu; simp at hu; obtain ⟨v, _, rfl⟩ := hu; rfl
  by_cases hr : n + m ≤ cap
  · obtain ⟨w', hrun, hown, hgrow⟩ := run_append_fits (P := Tryd.prog) w B 32 o.type 5 i0 1 Tryd.underlying32 hi0 hz1 g n cap _ hO ad m c (ys.map (Value.int .u8)) (by simp [hl]) hsrc h1 hr
    have hO' : OwnB w' B 5 .u8 g (n + m) cap (xs ++ ys) := by unfold OwnB; rw [List.map_append]; exact hown
    refine wpList_plain hgd fun _ hK => ?_
    unfold Oper.wp execOp
    simp only [ho, resolve, invoke, builtin, Sem.run_bind, Sem.run_pure, Result.andThen_ok, List.map_toArray, List.map_cons, List.map_nil, hs, hx, hrun]
    refine hK _ _ (h g cap w' (Lib.hid hO') (Lib.hid (hbel w' hgrow)) (Lib.hid fun i hi => ?_) (Lib.hid fun k hk hne => hgrow.block k hk (by simp [Value.ownBlock]; omega)))
    rw [hO'.cell i (by omega)]
    have := hO.len
    simp [List.getD, List.getElem?_append_left (show i < xs.length by omega)]
  · obtain ⟨v', w', hrun, hown, hgrow, hnil, hat⟩ := run_append_own_at (P := Tryd.prog) w B 32 o.type 5 i0 (.int .u8 0) 1 1 Tryd.underlying32 hi0 hz0 hz1 hz2 rfl (by omega) (.slice (some ⟨g, 0, none⟩) n cap) n _ hO ad m c (ys.map (Value.int .u8)) (by simp [hl]) hsrc h1 (by unfold maxLen; omega) (by omega) hB
    have hgr := run_append_grow (P := Tryd.prog) w 32 o.type 5 i0 (.int .u8 0) Tryd.underlying32 hi0 hz0 ⟨g, 0, none⟩ n cap (xs.map (Value.int .u8)) (by rw [hz1]; simp [hO.len]) (fun j v hj => by
      have hj' : j < n := by have := (List.getElem?_eq_some_iff.1 hj).1; have := hO.len; simp at *; omega
      rw [Addr.add_mid, Nat.zero_add, hO.cell j hj']
      simp only [List.getElem?_map, Option.map_eq_some_iff] at hj
      obtain ⟨y, hy, rfl⟩ := hj
      simp [List.getD, hy]) ad m c (ys.map (Value.int .u8)) (by rw [hz1]; simp [hl]) hsrc (by omega) (by omega) (by rw [hz2]; exact growslice_fits (by omega) (by omega))
    have he := hrun.symm.trans hgr
    injection he with hv hw
    have hblk : ∀ k, k < w.heap.size → w'.heap[k]? = w.heap[k]? := fun k hk => by rw [hw]; exact heap_alloc_old w.drew _ hk
    have hO' : OwnB w' B 5 .u8 w.heap.size (n + m) (grownCap w (n + m) cap 5) (xs ++ ys) := by rw [hv] at hown; unfold OwnB; rw [List.map_append]; exact hown
    rw [hv] at hrun
    refine wpList_plain hgd fun _ hK => ?_
    unfold Oper.wp execOp
    simp only [ho, resolve, invoke, builtin, Sem.run_bind, Sem.run_pure, Result.andThen_ok, List.map_toArray, List.map_cons, List.map_nil, hs, hx, hrun]
    refine hK _ _ (h _ _ w' (Lib.hid hO') (Lib.hid (hbel w' hgrow)) (Lib.hid fun i hi => ?_) (Lib.hid fun k hk hne => hblk k hk))
    exact (World.cell?_of_block (hblk g hO.lt.2)).trans (hO.cell i hi)
end Go.Proofs.YtpiiodnhiolfbaaDoor
