/-
  CONTRACT of tim.readMap.
-/
import Derived.Test.YtocghdjadojimaaDoorTimC
namespace Go.Proofs.YtocghdjadojimaaDoor
open Go.ChangeShapes Go.WideShapes Go.ChangeAt Go.RowKit
set_option linter.unusedVariables false
set_option linter.unusedSimpArgs false

theorem int_info : (Tryd.prog.info? 3).map (fun i => (i.zero, i.size, i.bytes)) = some (some (.int .i64 0), 1, 8) := by kernel_rfl
theorem saysTo_le (fst : Int) (ys : List Int) : ∀ m, (saysTo fst ys m).length ≤ m
  | 0 => by simp [saysTo]
  | m + 1 => by
    have := saysTo_le fst ys m
    rw [saysTo_succ, List.length_append]
    split
    · simp; omega
    · simp; omega
theorem saysTo_next (fst : Int) (ys : List Int) (k j : Nat) (hj : j < 8) : saysTo fst ys (8 * k + (j + 1)) = saysTo fst ys (8 * k + j) ++ (if ys.getD k 0 / 2 ^ j % 2 = 1 then [(fst + k) * 8 + j] else []) := by
  rw [← Nat.add_assoc, saysTo_succ, show (8 * k + j) / 8 = k by omega, show (8 * k + j) % 8 = j by omega, show 8 * fst + ((8 * k + j : Nat) : Int) = (fst + k) * 8 + j by omega]
theorem bit_nat : ∀ n : Nat, n < 256 → ∀ j : Nat, j < 8 → bits .and .u8 ((n : Int) / 2 ^ j) 1 = (n : Int) / 2 ^ j % 2 := by decide +kernel
theorem bit_of (v : Int) (j : Nat) (h : 0 ≤ v ∧ v ≤ 255) (hj : j < 8) : bits .and .u8 (v / 2 ^ j) 1 = v / 2 ^ j % 2 := by
  obtain ⟨m, rfl⟩ := Int.eq_ofNat_of_zero_le h.1
  exact bit_nat m (by omega) j hj
/-- a row of ints of the call's own, nil let in, as a row. -/
theorem own_ints {w : World} {base : Nat} {v : Value} {l : List Int} (h : w.ownsRow base 3 1 v l.length (l.map (Value.int .i64))) (hm : l.length ≤ maxLen) (hw : ∀ a ∈ l, -9223372036854775808 ≤ a ∧ a ≤ 9223372036854775807) :
    ∃ A k, v = .slice A l.length k ∧ RowB .i64 w A l.length l := by
  have hwf : ∀ i, i < l.length → IntKind.i64.min ≤ l.getD i 0 ∧ l.getD i 0 ≤ IntKind.i64.max := fun i hi => by
    have := hw _ (getD_mem hi)
    simpa [IntKind.min, IntKind.max, IntKind.signed, IntKind.bits] using this
  rcases h.2 with ⟨rfl, h0⟩ | ⟨g, cap, cur, rfl, hb, hg, hn, hc, hs, ht⟩
  · rw [h0]
    exact ⟨none, 0, rfl, ⟨h0, by unfold maxLen; omega, fun i hi => by omega, fun hp => by omega⟩⟩
  · refine ⟨_, _, rfl, ⟨rfl, hm, hwf, fun hp => ⟨g, 0, rfl, fun i hi => ?_⟩⟩⟩
    have hO : OwnB w base 3 .i64 g l.length cap l := h
    rw [Nat.zero_add]; exact hO.cell i hi

set_option maxRecDepth 100000 in
set_option maxHeartbeats 8000000 in
theorem readMap_own (fst : Int) (A : Option Addr) (n c : Nat) (ys : List Int) (w : World) (h : RowB .u8 w A n ys) (hn : n ≤ 1000) (h0 : 0 ≤ fst) (h1 : fst ≤ 255) :
    Calls Tryd.prog 24 #[.int .i64 fst, .slice A n c] w fun e w' => ∃ v, e = .returned v ∧ w'.ownsRow w.heap.size 3 1 v (says fst ys).length ((says fst ys).map (Value.int .i64)) ∧ Below w.heap.size w w' := by
  obtain ⟨i0, hi0, hz0, hz1, hz2⟩ := info_parts int_info
  have HR := Lib.hid h
  have HL := Lib.hid h.len
  clear h
  go_enter Tryd.func24, Tryd.ntmps24
  go_wp2
  go_loopw [5, 11] (fun v i wr => ∃ k : Nat, k ≤ n ∧ i = .int .i64 k ∧ wr.ownsRow w.heap.size 3 1 v (saysTo fst ys (8 * k)).length ((saysTo fst ys (8 * k)).map (Value.int .i64)) ∧ Below w.heap.size w wr) (fun _ i _ => n - (intOf i).toNat)
  case atStart => exact ⟨0, by omega, rfl, World.ownsRow_nil _ _ _ _, Below.refl _ _⟩
  case round =>
    obtain ⟨k, hk, rfl, hown, hbel⟩ := hrel
    have HO := Lib.hid hown
    have HB := Lib.hid hbel
    clear hown hbel
    by_cases hlt : k < n
    · obtain ⟨b, off, rfl, hc⟩ := (HR.out.below HB.out).el k hlt
      have hi : (k : Int) < (n : Int) := by omega
      have HY := Lib.hid (HR.out.wf8 k hlt)
      have HSN := Lib.hid (fun j hj => saysTo_next fst ys k j hj)
      have HSL := Lib.hid (fun m => saysTo_le fst ys m)
      have HBT := Lib.hid (fun j hj => bit_of (ys.getD k 0) j HY.out hj)
      generalize ys.getD k 0 = y at *
      go_wp2
      go_loopw [5, 16] (fun v i wr => ∃ j : Nat, j ≤ 8 ∧ i = .int .i64 j ∧ wr.ownsRow w.heap.size 3 1 v (saysTo fst ys (8 * k + j)).length ((saysTo fst ys (8 * k + j)).map (Value.int .i64)) ∧ Below w.heap.size w wr) (fun _ i _ => 8 - (intOf i).toNat)
      case atStart => exact ⟨0, by omega, rfl, HO.out, HB.out⟩
      case round =>
        obtain ⟨j, hj, rfl, hown, hbel⟩ := hrel
        clear HO HB hc
        have HO := Lib.hid hown
        have HB := Lib.hid hbel
        clear hown hbel
        by_cases hjt : j < 8
        · have hb := HBT.out j hjt
          have HS := Lib.hid (HSN.out j hjt)
          have HLL := Lib.hid (HSL.out (8 * k + j))
          generalize hV : y / 2 ^ j % 2 = V at *
          generalize saysTo fst ys (8 * k + j) = acc at *
          have hV01 : V = 0 ∨ V = 1 := by omega
          have HVV := Lib.hid hV
          clear hV
          rcases hV01 with rfl | rfl
          · go_wp2
            go_roundw
            case rel => exact ⟨j + 1, by omega, by go_num, by rw [HS.out]; simpa using HO.out, HB.out⟩
            case measure => simp [intOf]; omega
          · have hacc := HLL.out
            go_wp2_with (at_builtin; refine wpList_append_own _ rfl (.tmp 24) (.tmp 31) 22 rfl w.heap.size 3 i0 _ 1 8 Tryd.underlying22 hi0 hz0 hz1 hz2 rfl (by omega) u5 acc.length _ rfl (HO.out.alloc _) ⟨wr.heap.size, 0, none⟩ 1 1 [.int .i64 ((fst + k) * 8 + j)] rfl rfl (cell_one_new _ _ _) (by intro u hu; simp at hu; subst hu; rfl) (by unfold maxLen; omega) (by omega) (by have := HB.out.size; simp; omega) ?_; intro v' w2 hown' hgrow' _)
            have HO3 := Lib.hid (show w2.ownsRow w.heap.size 3 1 v' (acc ++ [(fst + k) * 8 + j]).length ((acc ++ [(fst + k) * 8 + (j : Int)]).map (Value.int .i64)) by rw [List.map_append, List.length_append]; exact hown')
            have HB3 := Lib.hid ((HB.out.alloc HB.out.size _).grown hgrow' (by have := HB.out.size; simp; omega) (by intro q hq; exact (HO.out.lt q hq).1))
            clear hown' hgrow'
            go_wp2
            go_roundw
            case rel => exact ⟨j + 1, by omega, by go_num, by rw [HS.out, if_pos rfl]; exact HO3.out, HB3.out⟩
            case measure => simp [intOf]; omega
        · have hj8 : j = 8 := by omega
          subst hj8
          go_wp2
          go_roundw
          case rel => exact ⟨k + 1, by omega, by go_num, HO.out, HB.out⟩
          case measure => simp [intOf]; omega
    · have hk' : k = n := by omega
      subst hk'
      have HS := Lib.hid (show saysTo fst ys (8 * k) = says fst ys by unfold says; rw [HL.out])
      rw [HS.out] at HO
      go_wp2
      go_ret
      exact ⟨_, rfl, HO.out, HB.out⟩
end Go.Proofs.YtocghdjadojimaaDoor
