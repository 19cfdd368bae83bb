/-
  CONTRACT of muezzinref.Bytes.
-/
import Derived.Test.YtaibopaagjodoaaBytesP
namespace Go.Proofs.Ytaibopaagjodoaa
open Go.ChangeShapes Go.WideShapes Go.ChangeAt Go.RowKit
set_option linter.unusedVariables false

set_option maxRecDepth 100000 in
set_option maxHeartbeats 4000000 in
theorem bytes_any (A : Option Addr) (n c : Nat) (xs : List Int) (w : World) (h : RowB .u8 w A n xs) (hn : n ≤ 1000000000) :
    Calls Try.prog 37 #[.slice A n c] w fun e w' => ∃ g cap, e = .returned (.slice (some ⟨g, 0, none⟩) n cap) ∧ OwnB w' w.heap.size 5 .u8 g n cap xs ∧ Below w.heap.size w w' := by
  obtain ⟨i0, hi0, hz0, hz1, hz2⟩ := info_parts byte_info
  have HR := Lib.hid h
  clear h
  go_enter Try.func37, Try.ntmps37
  go_wp2_with (at_make; refine wpList_make_own _ rfl _ _ 30 rfl w.heap.size 5 i0 (.int .u8 0) 1 Try.underlying30 hi0 hz0 hz1 _ _ _ n rfl rfl (by omega) (by rw [hz2]; omega) (by unfold maxLen; omega) (Nat.le_refl _) ?_; intro w1 hown1 hgrow1)
  have HO := Lib.hid (show OwnB w1 w.heap.size 5 .u8 w.heap.size 0 n (xs.take 0) by simpa [OwnB] using hown1)
  have HB := Lib.hid ((Below.refl w.heap.size w).grown hgrow1 (Nat.le_refl _) (by simp))
  clear hown1 hgrow1
  go_loopw [3, 4] (fun v i wr => ∃ k g cap : Nat, k ≤ n ∧ i = .int .i64 k ∧ v = .slice (some ⟨g, 0, none⟩) k cap ∧ OwnB wr w.heap.size 5 .u8 g k cap (xs.take k) ∧ Below w.heap.size w wr) (fun _ i _ => n - (intOf i).toNat)
  case atStart => exact ⟨0, _, _, by omega, rfl, rfl, HO.out, HB.out⟩
  case round =>
    obtain ⟨k, g, cap, hk, rfl, rfl, hown, hbel⟩ := hrel
    have HO2 := Lib.hid hown
    have HB2 := Lib.hid hbel
    clear hown hbel HO HB
    by_cases hlt : k < n
    · have HR2 := Lib.hid (show ∃ b off, A = some ⟨b, off, none⟩ ∧ wr.cell? ⟨b, off + k, none⟩ = some (.int .u8 (xs.getD k 0)) by
        obtain ⟨b, off, e, hc⟩ := HR.out.el k hlt
        exact ⟨b, off, e, (HB2.out.cell (cell_lt' hc)).trans hc⟩)
      obtain ⟨b, off, rfl, hc⟩ := HR2.out
      clear HR2
      have HS := Lib.hid (take_snoc (xs := xs) (k := k) (by rw [HR.out.len]; exact hlt))
      generalize xs.getD k 0 = v at *
      go_wp2_with (at_builtin; refine wpList_append_own _ rfl (.tmp 14) (.tmp 19) 30 rfl w.heap.size 5 i0 _ 1 1 Try.underlying30 hi0 hz0 hz1 hz2 rfl (by omega) (.slice (some ⟨g, 0, none⟩) k cap) k _ rfl (HO2.out.alloc _) ⟨wr.heap.size, 0, none⟩ 1 1 [.int .u8 v] rfl rfl (cell_one_new _ _ _) (by intro u hu; simp at hu; subst hu; rfl) (by unfold maxLen; omega) (by omega) (by have := HB2.out.size; simp; omega) ?_; intro v' w2 hown' hgrow' _)
      obtain ⟨g', cap', rfl, hg', _⟩ := World.ownsRow.form hown' (by omega)
      have HO3 := Lib.hid (show OwnB w2 w.heap.size 5 .u8 g' (k + 1) cap' (xs.take (k + 1)) by rw [HS.out]; unfold OwnB; rw [List.map_append]; exact hown')
      have HB3 := Lib.hid ((HB2.out.alloc HB2.out.size _).grown hgrow' (by have := HB2.out.size; simp; omega) (by intro q hq; simp [Value.ownBlock] at hq; subst hq; exact HO2.out.lt.1))
      clear hown' hgrow'
      go_wp2
      go_roundw
      case rel => exact ⟨k + 1, g', cap', by omega, by go_num, rfl, HO3.out, HB3.out⟩
      case measure => simp [intOf]; omega
    · have hk' : k = n := by omega
      subst hk'
      have HS := Lib.hid (show xs.take k = xs from List.take_of_length_le (by rw [HR.out.len]; omega))
      go_wp2
      go_ret
      exact ⟨g, cap, rfl, by have := HO2.out; rwa [HS.out] at this, HB2.out⟩
end Go.Proofs.Ytaibopaagjodoaa
