/-
  readWindow said in one; CONTRACTS of ctl.ReadBar, ctl.ReadAck.
-/
import Derived.Test.YtpiiodnhiolfbaaDoorCtlF
import Derived.Test.YtpiiodnhiolfbaaDoorCtlG
namespace Go.Proofs.YtpiiodnhiolfbaaDoor
open Go.ChangeShapes Go.WideShapes Go.ChangeAt Go.RowKit
set_option linter.unusedVariables false
set_option linter.unusedSimpArgs false

def outW (xs : List Int) (n : Nat) (k size : Int) : Brf := if rdW xs n k size = 0 then decW xs else b0
theorem rdW_beg {xs : List Int} {n : Nat} {k size : Int} (h : begC xs n k size ≠ 0) : rdW xs n k size = begC xs n k size := by unfold rdW; rw [if_pos h]
theorem rdW_shape {xs : List Int} {n : Nat} {k size : Int} (h : begC xs n k size = 0) (hf : shB xs = false) : rdW xs n k size = 102 := by unfold rdW; rw [if_neg (by simp [h]), hf]; rfl
theorem rdW_good {xs : List Int} {n : Nat} {k size : Int} (h : begC xs n k size = 0) (hf : shB xs = true) : rdW xs n k size = 0 := by unfold rdW; rw [if_neg (by simp [h]), hf]; rfl
theorem rdW_fine {xs : List Int} {n : Nat} {k size : Int} (h : rdW xs n k size = 0) : begC xs n k size = 0 ∧ shB xs = true := by
  by_cases hb : begC xs n k size = 0
  · cases hf : shB xs
    · rw [rdW_shape hb hf] at h; cases h
    · exact ⟨hb, rfl⟩
  · rw [rdW_beg hb] at h; exact absurd h hb
theorem rw_all (A : Option Addr) (n c : Nat) (xs : List Int) (k : Int) (size : Int) (E : Nat → Addr) (w : World) (h : RowB .u8 w A n xs) (hS : Sent w E S4) (hsz : 20 ≤ size) (hnc : n ≤ c) :
    Calls Tryd.prog 38 #[.slice A n c, .int .u8 k, .int .i64 size] w fun e w' => e = .returned (.tuple #[(outW xs n k size).val, errV E (rdW xs n k size)]) ∧ Below w.heap.size w w' := by
  by_cases hb : begC xs n k size = 0
  · cases hf : shB xs
    · refine (rw_shape A n c xs k size E w h hS hsz hnc hb hf).mono ?_
      rintro e w' ⟨rfl, hB⟩
      have hr := rdW_shape hb hf
      exact ⟨by rw [outW, if_neg (by rw [hr]; decide), hr]; rfl, hB⟩
    · refine (rw_good A n c xs k size E w h hS hsz hnc hb hf).mono ?_
      rintro e w' ⟨rfl, hB⟩
      have hr := rdW_good hb hf
      exact ⟨by rw [outW, if_pos hr, hr]; rfl, hB⟩
  · refine (rw_beg A n c xs k size E w h hS hb).mono ?_
    rintro e w' ⟨rfl, hB⟩
    have hr := rdW_beg hb
    exact ⟨by rw [outW, if_neg (by rw [hr]; exact hb), hr, errV_pos E hb], hB⟩

set_option maxRecDepth 100000 in
set_option maxHeartbeats 8000000 in
theorem readBar_all (A : Option Addr) (n c : Nat) (xs : List Int) (E : Nat → Addr) (w : World) (h : RowB .u8 w A n xs) (hS : Sent w E S4) (hnc : n ≤ c) :
    Calls Tryd.prog 17 #[.slice A n c] w fun e w' => e = .returned (.tuple #[(outW xs n 132 20).val, errV E (rdW xs n 132 20)]) ∧ Below w.heap.size w w' := by
  have HB := Lib.hid ((Below.refl w.heap.size w).alloc (Nat.le_refl _) (.cells b0.cells 25))
  have HG := Lib.hid (heap_alloc_last w (.cells b0.cells 25))
  have HL := Lib.hid (show w.heap.size < (w.alloc (.cells b0.cells 25)).heap.size by simp)
  have HC := Lib.hid (rw_all A n c xs 132 20 E _ (h.below HB.out) (hS.below HB.out) (by omega) hnc)
  generalize errV E (rdW xs n 132 20) = r at *
  generalize outW xs n 132 20 = q at *
  clear h hS
  go_enter Tryd.func17, Tryd.ntmps17
  go_wp2_with (fail)
  refine HC.out.mono ?_
  rintro e w2 ⟨rfl, hB⟩
  have HG2 := Lib.hid ((hB.block _ HL.out).trans HG.out)
  have HB2 := Lib.hid (HB.out.trans (hB.mono HB.out.size))
  clear hB HC
  go_wp2_with (refine wpList_store_row rfl 25 (.tmp 2) (.tmp 6) rfl w.heap.size q.cells rfl rfl 25 b0.cells HG2.out sizeBar rfl q.oneCell ?_)
  have HGz := Lib.hid (setRow_heap w2 w.heap.size b0.cells q.cells 25 (0, 0) HG2.out)
  refine bodyPost_ret (v := .tuple #[q.val, r]) (results_cell_slot (p := 2) (q := 3) Tryd.results17 _ _ w.heap.size _ q.cells _ _ rfl HGz.out Tryd.underlying25 rfl sizeBar) rfl ⟨rfl, below_setRow HB2.out (Nat.le_refl _) _⟩

/-- the Ack of zeros; a map of bytes, so many of them read; the Ack that bytes say. -/
abbrev a0 : Akf := ⟨⟨0, 0, 0, 0, 0, 0⟩, ⟨0, 0, 0, 0, 0, 0⟩, 0, 0, 0⟩
def mapK (xs : List Int) : Nat → Int
  | 0 => 0
  | k + 1 => mapK xs k + xs.getD (20 + k) 0 * 256 ^ k
def decA (xs : List Int) : Akf := ⟨six xs 4, six xs 10, numAt xs 16 / 4096, numAt xs 18 / 16, mapK xs 8⟩
def outA (xs : List Int) (n : Nat) : Akf := if rdW xs n 148 28 = 0 then decA xs else a0

set_option maxRecDepth 100000 in
set_option maxHeartbeats 8000000 in
theorem readAck_bad (A : Option Addr) (n c : Nat) (xs : List Int) (E : Nat → Addr) (w : World) (h : RowB .u8 w A n xs) (hS : Sent w E S4) (hnc : n ≤ c) (hr : rdW xs n 148 28 ≠ 0) :
    Calls Tryd.prog 18 #[.slice A n c] w fun e w' => e = .returned (.tuple #[a0.val, errP (E (rdW xs n 148 28))]) ∧ Below w.heap.size w w' := by
  have HB := Lib.hid ((Below.refl w.heap.size w).alloc (Nat.le_refl _) (.cells a0.cells 28))
  have HG := Lib.hid (heap_alloc_last w (.cells a0.cells 28))
  have HL := Lib.hid (show w.heap.size < (w.alloc (.cells a0.cells 28)).heap.size by simp)
  have HC := Lib.hid (rw_all A n c xs 148 28 E _ (h.below HB.out) (hS.below HB.out) (by omega) hnc)
  rw [errV_pos E hr, outW, if_neg hr] at HC
  generalize E (rdW xs n 148 28) = a at *
  clear h hS hr
  go_enter Tryd.func18, Tryd.ntmps18
  go_wp2_with (fail)
  refine HC.out.mono ?_
  rintro e w2 ⟨rfl, hB⟩
  have HG2 := Lib.hid ((hB.block _ HL.out).trans HG.out)
  have HB2 := Lib.hid (HB.out.trans (hB.mono HB.out.size))
  have HL2 := Lib.hid (Nat.lt_of_lt_of_le HL.out hB.size)
  clear hB HC
  have HA3 := Lib.hid ((Below.refl w2.heap.size w2).alloc (Nat.le_refl _) (.cells b0.cells 25))
  have HG3 := Lib.hid ((HA3.out.block _ HL2.out).trans HG2.out)
  have HB3 := Lib.hid (HB2.out.trans (HA3.out.mono HB2.out.size))
  go_wp2_with (first
    | (refine wpList_store_row rfl 25 (.tmp 4) (.tmp 12) rfl w2.heap.size b0.cells rfl rfl 25 b0.cells (heap_alloc_last _ _) sizeBar rfl (Brf.oneCell _) ?_; rw [World.setRow_alloc_new]; generalize World.alloc w2 _ = w3 at *)
    | (refine wpList_store_row rfl 28 (.tmp 2) (.tmp 16) rfl w.heap.size a0.cells rfl rfl 28 a0.cells HG3.out sizeAck rfl a0.oneCell ?_; rw [setRow_same _ _ _ _ _ HG3.out]))
  refine bodyPost_ret (v := .tuple #[a0.val, errP a]) (results_cell_slot (p := 2) (q := 3) Tryd.results18 _ _ w.heap.size _ a0.cells _ _ rfl HG3.out Tryd.underlying28 rfl sizeAck) rfl ⟨rfl, HB3.out⟩

theorem or_map (k : Nat) (a b : Int) (a0 : 0 ≤ a) (ha : a < 2 ^ k) (b0 : 0 ≤ b) (hs : a + b * 2 ^ k < 18446744073709551616) : bits .or .u64 a (b * 2 ^ k) = a + b * 2 ^ k := by
  obtain ⟨A, rfl⟩ := Int.eq_ofNat_of_zero_le a0
  obtain ⟨B, rfl⟩ := Int.eq_ofNat_of_zero_le b0
  have ha' : A < 2 ^ k := by exact_mod_cast ha
  have hc0 : ((A + B * 2 ^ k : Nat) : Int) = (A : Int) + B * 2 ^ k := by simp
  have hs' : A + B * 2 ^ k < 18446744073709551616 := Int.ofNat_lt.1 (by rw [hc0]; exact hs)
  have hx : A ||| B * 2 ^ k = A + B * 2 ^ k := by
    have := Nat.shiftLeft_add_eq_or_of_lt ha' B
    rw [Nat.shiftLeft_eq] at this
    rw [Nat.or_comm, ← this]; omega
  have e : ∀ n : Nat, n < 18446744073709551616 → (BitVec.ofInt 64 (n : Int)).toNat = n := fun n hn => by
    rw [BitVec.toNat_ofInt, show ((2 ^ 64 : Nat) : Int) = 18446744073709551616 from rfl, Int.emod_eq_of_lt (by omega) (by omega)]
    exact Int.toNat_natCast n
  have hc : ((B : Int) * 2 ^ k) = ((B * 2 ^ k : Nat) : Int) := by simp
  rw [hc]
  show IntKind.u64.wrap ((BitVec.ofInt 64 (A : Int) ||| BitVec.ofInt 64 ((B * 2 ^ k : Nat) : Int)).toNat : Int) = _
  rw [BitVec.toNat_or, e A (by omega), e (B * 2 ^ k) (by omega), hx]
  have : IntKind.u64.wrap ((A + B * 2 ^ k : Nat) : Int) = ((A + B * 2 ^ k : Nat) : Int) := IntWalk.u64_in _ ⟨by omega, by omega⟩
  rw [this]; simp
theorem mapK_wf (xs : List Int) (h : ∀ i, i < 28 → 0 ≤ xs.getD i 0 ∧ xs.getD i 0 ≤ 255) : ∀ k, k ≤ 8 → 0 ≤ mapK xs k ∧ mapK xs k < 256 ^ k
  | 0, _ => by simp [mapK]
  | k + 1, hk => by
    have ih := mapK_wf xs h k (by omega)
    have hv := h (20 + k) (by omega)
    have hp : (0 : Int) < 256 ^ k := Int.pow_pos (by omega)
    have e : (256 : Int) ^ (k + 1) = 256 ^ k * 256 := Int.pow_succ ..
    simp only [mapK]
    rw [e]
    generalize (256 : Int) ^ k = p at *
    generalize xs.getD (20 + k) 0 = v at *
    have h1 : 0 ≤ v * p := Int.mul_nonneg hv.1 (by omega)
    have h2 : v * p ≤ 255 * p := Int.mul_le_mul_of_nonneg_right hv.2 (by omega)
    omega
theorem range6 {w : World} {g : Nat} {C : Array Value} {t : TypeId} {fr : Nat × Nat} (hg : w.heap[g]? = some (.cells C t fr)) (o : Nat) (a : A6) (h : ∀ j, j < 6 → C[o + j]? = a.cells[j]?) : w.rangeAt g o a.cells.toList := fun j v hv => by
  have hj : j < 6 := by have := (List.getElem?_eq_some_iff.1 hv).1; simpa using this
  rw [cell_of_row w g (o + j) _ _ _ hg, h j hj]
  simpa using hv
end Go.Proofs.YtpiiodnhiolfbaaDoor
