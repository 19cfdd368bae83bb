/-
  MATHS OF SESSIONS' FRAMES: what is read of a frame's own bytes; of bytes cut; of the other kind's.
-/
import Derived.Test.YtjgingfcfmpfaaaDoorActU
import Derived.Test.YtjgingfcfmpfaaaDoorActS
namespace Go.Proofs.YtjgingfcfmpfaaaDoor
open Go.ChangeShapes Go.WideShapes Go.ChangeAt Go.RowKit
set_option linter.unusedVariables false
set_option linter.unusedSimpArgs false

theorem lt_blk {w : World} {g : Nat} {o : Obj} (h : w.heap[g]? = some o) : g < w.heap.size := by
  by_cases hp : g < w.heap.size
  · exact hp
  · rw [Array.getElem?_eq_none (Nat.le_of_not_lt hp)] at h; cases h
theorem sameB_eq {xs ys : List Int} (h : sameB xs ys = true) : xs = ys := by simpa [sameB] using h
theorem rdAdd_fine {xs : List Int} {n : Nat} (h : rdAdd xs n = 0) : begA xs n 33 [0, 1] = 0 ∧ okAdd (decAdd xs) = true ∧ encAdd (decAdd xs) = xs ∧ outAdd xs n = decAdd xs := by
  by_cases h1 : begA xs n 33 [0, 1] = 0
  · cases h2 : (okAdd (decAdd xs) && sameB (encAdd (decAdd xs)) xs) with
    | false => rw [(rdAdd_bad h1 h2).1] at h; cases h
    | true => exact ⟨h1, (Bool.and_eq_true _ _ ▸ h2).1, sameB_eq (Bool.and_eq_true _ _ ▸ h2).2, (rdAdd_good h1 h2).2⟩
  · rw [(rdAdd_beg h1).1] at h; exact absurd h h1
theorem rdDel_fine {xs : List Int} {n : Nat} (h : rdDel xs n = 0) : begA xs n 30 [2] = 0 ∧ okDel (decDel xs) = true ∧ encDel (decDel xs) = xs ∧ outDel xs n = decDel xs := by
  by_cases h1 : begA xs n 30 [2] = 0
  · cases h2 : (okDel (decDel xs) && sameB (encDel (decDel xs)) xs) with
    | false => rw [(rdDel_bad h1 h2).1] at h; cases h
    | true => exact ⟨h1, (Bool.and_eq_true _ _ ▸ h2).1, sameB_eq (Bool.and_eq_true _ _ ▸ h2).2, (rdDel_good h1 h2).2⟩
  · rw [(rdDel_beg h1).1] at h; exact absurd h h1
theorem encAdd_0 (q : Adf) : (encAdd q).getD 0 0 = 208 := by unfold encAdd; split <;> rfl
theorem encAdd_24 (q : Adf) : (encAdd q).getD 24 0 = 3 := by unfold encAdd; split <;> rfl
theorem encAdd_25 (q : Adf) : (encAdd q).getD 25 0 ∈ [(0 : Int), 1] := by
  unfold encAdd
  split
  · exact List.mem_cons_of_mem _ (List.mem_singleton.2 rfl)
  · exact List.mem_cons.2 (.inl rfl)
theorem take_getD (xs : List Int) {k i : Nat} (h : i < k) : (xs.take k).getD i 0 = xs.getD i 0 := by simp [List.getD, h]
theorem cut_101 (q : Adf) {k : Nat} (hk : k < 33) : rdAdd ((encAdd q).take k) k = 101 ∧ outAdd ((encAdd q).take k) k = Go.Proofs.YtjgingfcfmpfaaaDoor.a0 := by
  have hb : begA ((encAdd q).take k) k 33 [0, 1] = 101 := by
    unfold begA
    by_cases h1 : k ≤ 25
    · rw [if_pos h1]
    · have h25 := encAdd_25 q
      rw [← take_getD (encAdd q) (k := k) (i := 25) (by omega)] at h25
      rw [if_neg h1, if_neg, if_pos (by omega)]
      simp only [not_or, Decidable.not_not]
      exact ⟨by rw [take_getD _ (by omega)]; exact encAdd_0 q, by rw [take_getD _ (by omega)]; exact encAdd_24 q, h25⟩
  have hne : begA ((encAdd q).take k) k 33 [0, 1] ≠ 0 := by rw [hb]; decide
  exact ⟨by rw [(rdAdd_beg hne).1, hb], (rdAdd_beg hne).2⟩
theorem Adf.mk_eq {t t' f f' b b' : A6} {ans : Bool} {tok tok' tid tid' size size' tmo tmo' seq seq' st st' : Int} (h1 : t = t') (h2 : f = f') (h3 : b = b') (h4 : tok = tok') (h5 : tid = tid') (h6 : size = size') (h7 : tmo = tmo') (h8 : seq = seq') (h9 : st = st') :
    Adf.mk t f b ans tok tid size tmo seq st = Adf.mk t' f' b' ans tok' tid' size' tmo' seq' st' := by subst h1 h2 h3 h4 h5 h6 h7 h8 h9; rfl
theorem Dlf.mk_eq {t t' f f' b b' : A6} {mine mine' : Bool} {tid tid' rs : Int} (h1 : t = t') (h2 : f = f') (h3 : b = b') (h4 : mine = mine') (h5 : tid = tid') : Dlf.mk t f b mine tid rs = Dlf.mk t' f' b' mine' tid' rs := by subst h1 h2 h3 h4 h5; rfl
theorem dec_encAdd (q : Adf) (hok : OkAdd q) : decAdd (encAdd q) = q := by
  obtain ⟨⟨t0, t1⟩, ⟨i0, i1⟩, ⟨s0, s1⟩, ⟨m0, m1⟩, ⟨a0, a1⟩, ⟨n0, n1⟩, hl⟩ := hok
  obtain ⟨t, f, b, ans, tok, tid, size, tmo, seq, st⟩ := q
  dsimp only at *
  cases ans
  · have hl2 : st = 0 := by simpa using hl
    have n27 : numAt (encAdd ⟨t, f, b, false, tok, tid, size, tmo, seq, st⟩) 27 = 2 + tid * 4 + size * 64 := by
      show (2 + tid * 4 + size * 64) % 256 + (2 + tid * 4 + size * 64) / 256 * 256 = _
      omega
    have n29 : numAt (encAdd ⟨t, f, b, false, tok, tid, size, tmo, seq, st⟩) 29 = tmo := by
      show tmo % 256 + tmo / 256 * 256 = _
      omega
    have n31 : numAt (encAdd ⟨t, f, b, false, tok, tid, size, tmo, seq, st⟩) 31 = seq * 16 := by
      show seq * 16 % 256 + seq * 16 / 256 * 256 = _
      omega
    have e25 : (encAdd ⟨t, f, b, false, tok, tid, size, tmo, seq, st⟩).getD 25 0 = 0 := rfl
    unfold decAdd
    rw [if_neg (by rw [e25]; decide), n27, n29, n31]
    exact Adf.mk_eq rfl rfl rfl rfl (by omega) (by omega) (by omega) (by omega) (by omega)
  · have hl2 : seq = 0 := by simpa using hl
    have n27 : numAt (encAdd ⟨t, f, b, true, tok, tid, size, tmo, seq, st⟩) 29 = 2 + tid * 4 + size * 64 := by
      show (2 + tid * 4 + size * 64) % 256 + (2 + tid * 4 + size * 64) / 256 * 256 = _
      omega
    have n29 : numAt (encAdd ⟨t, f, b, true, tok, tid, size, tmo, seq, st⟩) 31 = tmo := by
      show tmo % 256 + tmo / 256 * 256 = _
      omega
    have n31 : numAt (encAdd ⟨t, f, b, true, tok, tid, size, tmo, seq, st⟩) 27 = st := by
      show st % 256 + st / 256 * 256 = _
      omega
    have e25 : (encAdd ⟨t, f, b, true, tok, tid, size, tmo, seq, st⟩).getD 25 0 = 1 := rfl
    unfold decAdd
    rw [if_pos e25, n27, n29, n31]
    exact Adf.mk_eq rfl rfl rfl rfl (by omega) (by omega) (by omega) (by omega) (by omega)
/-- each number that a Del's identifier may give. -/
theorem mine_bit : ∀ n : Nat, n < 8 → (bits .and .i64 ((n : Int) * 4096 + 2048) 2048 != 0) = true ∧ (bits .and .i64 ((n : Int) * 4096 + 0) 2048 != 0) = false := by decide +kernel
theorem dec_encDel (q : Dlf) (hok : okDel q = true) : decDel (encDel q) = q := by
  obtain ⟨⟨k0, k1⟩, k2, k3⟩ := (okDel_iff q).1 hok
  obtain ⟨t, f, b, mine, tid, rs⟩ := q
  dsimp only at *
  have hm : 0 ≤ mineV ⟨t, f, b, mine, tid, rs⟩ ∧ mineV ⟨t, f, b, mine, tid, rs⟩ < 65536 := by unfold mineV; dsimp only; split <;> omega
  have n26 : numAt (encDel ⟨t, f, b, mine, tid, rs⟩) 26 = mineV ⟨t, f, b, mine, tid, rs⟩ := by
    show mineV ⟨t, f, b, mine, tid, rs⟩ % 256 + mineV ⟨t, f, b, mine, tid, rs⟩ / 256 * 256 = _
    omega
  have n28 : numAt (encDel ⟨t, f, b, mine, tid, rs⟩) 28 = rs := by
    show rs % 256 + rs / 256 * 256 = _
    omega
  unfold decDel
  rw [n26, n28]
  obtain ⟨i, rfl⟩ := Int.eq_ofNat_of_zero_le k0
  have hi : i < 8 := by omega
  refine Dlf.mk_eq rfl rfl rfl ?_ ?_
  · cases mine
    · exact (mine_bit i hi).2
    · exact (mine_bit i hi).1
  · cases mine
    · show ((i : Int) * 4096 + 0) / 4096 = _; omega
    · show ((i : Int) * 4096 + 2048) / 4096 = _; omega
theorem rdAdd_enc (q : Adf) (hok : okAdd q = true) : rdAdd (encAdd q) 33 = 0 ∧ outAdd (encAdd q) 33 = q := by
  have hd := dec_encAdd q ((okAdd_iff q).1 hok)
  have h := rdAdd_good (begA_is (xs := encAdd q) (n := 33) (size := 33) rfl (by omega) (encAdd_0 q) (encAdd_24 q) (encAdd_25 q)) (by rw [hd, hok, sameB_refl]; rfl)
  exact ⟨h.1, h.2.trans hd⟩
theorem rdDel_enc (q : Dlf) (hok : okDel q = true) : rdDel (encDel q) 30 = 0 ∧ outDel (encDel q) 30 = q := by
  have hd := dec_encDel q hok
  have h := rdDel_good (begA_is (xs := encDel q) (n := 30) (size := 30) (ks := [2]) rfl (by omega) rfl rfl (List.mem_singleton.2 rfl)) (by rw [hd, hok, sameB_refl]; rfl)
  exact ⟨h.1, h.2.trans hd⟩
theorem beg105 {xs : List Int} {n : Nat} {size : Int} {ks : List Int} (h1 : 25 < n) (h : xs.getD 25 0 ∉ ks) : begA xs n size ks = 105 := by
  unfold begA
  rw [if_neg (by omega), if_pos (.inr (.inr h))]
theorem rdDel_encAdd (q : Adf) : rdDel (encAdd q) 33 = 105 ∧ outDel (encAdd q) 33 = Go.Proofs.YtjgingfcfmpfaaaDoor.d0 := by
  have h25 := encAdd_25 q
  have hb : begA (encAdd q) 33 30 [2] = 105 := beg105 (by omega) (by
    simp only [List.mem_cons, List.not_mem_nil, or_false] at h25 ⊢
    omega)
  have hne : begA (encAdd q) 33 30 [2] ≠ 0 := by rw [hb]; decide
  exact ⟨by rw [(rdDel_beg hne).1, hb], (rdDel_beg hne).2⟩
theorem rdAdd_encDel (q : Dlf) : rdAdd (encDel q) 30 = 105 ∧ outAdd (encDel q) 30 = Go.Proofs.YtjgingfcfmpfaaaDoor.a0 := by
  have hb : begA (encDel q) 30 33 [0, 1] = 105 := beg105 (by omega) (by
    rw [show (encDel q).getD 25 0 = 2 from rfl]; decide)
  have hne : begA (encDel q) 30 33 [0, 1] ≠ 0 := by rw [hb]; decide
  exact ⟨by rw [(rdAdd_beg hne).1, hb], (rdAdd_beg hne).2⟩
end Go.Proofs.YtjgingfcfmpfaaaDoor
