/-
  CONTRACTS of package crc (step, Sum) and of math/bits.Reverse8.
-/
import Derived.Test.YtejdmpdbapfomaaDoorBRow
import Derived.Test.YtejdmpdbapfomaaDoorCrcMath
import Derived.Test.YtejdmpdbapfomaaDoorNum
import Derived.WalkKit
import Derived.ProofKit
import Derived.OpenShut
import Derived.BigQuiet
import Derived.Deep.QuietTactic
import Derived.Outline
import Derived.Lib.Hide
namespace Go.Proofs.YtejdmpdbapfomaaDoor
open Go.ChangeShapes Go.WideShapes Go.ChangeAt Go.RowKit
set_option linter.unusedVariables false


/-- a register as a number, closed to the walk. -/
def rv (r : BitVec 8) : Int := (r.toNat : Int)
theorem rv_lo (r : BitVec 8) : 0 ≤ rv r := Int.natCast_nonneg _
theorem rv_hi (r : BitVec 8) : rv r < 256 := by have := r.isLt; unfold rv; omega
theorem rv_of (n : Nat) (h : n < 256) : rv (BitVec.ofNat 8 n) = n := by unfold rv; rw [BitVec.toNat_ofNat]; omega
def bv (b : Bool) : Int := if b then 1 else 0

theorem step_out : ∀ n : Nat, n < 256 → ∀ b : Bool, (bits .xor .u8 (rv (BitVec.ofNat 8 n) / 128) (bv b) == 1) = ((BitVec.ofNat 8 n).msb ^^ b) := by decide +kernel
theorem step_yes : ∀ n : Nat, n < 256 → ∀ b : Bool, ((BitVec.ofNat 8 n).msb ^^ b) = true → bits .xor .u8 (rv (BitVec.ofNat 8 n) * 2 % 256) 7 = rv (stp (BitVec.ofNat 8 n) b) := by decide +kernel
theorem step_no : ∀ n : Nat, n < 256 → ∀ b : Bool, ((BitVec.ofNat 8 n).msb ^^ b) = false → rv (BitVec.ofNat 8 n) * 2 % 256 = rv (stp (BitVec.ofNat 8 n) b) := by decide +kernel

theorem bit_nat : ∀ n : Nat, n < 256 → ∀ j : Nat, j < 8 → bits .and .u8 ((n : Int) / 2 ^ j) 1 = bv (n.testBit j) := by decide +kernel
theorem bit_of (v : Int) (j : Nat) (h0 : 0 ≤ v) (h1 : v ≤ 255) (hj : j < 8) : bits .and .u8 (v / 2 ^ j) 1 = bv (v.toNat.testBit j) := by
  obtain ⟨m, rfl⟩ := Int.eq_ofNat_of_zero_le h0
  exact bit_nat m (by omega) j hj

set_option maxRecDepth 100000 in
theorem step_any (r : BitVec 8) (b : Bool) (x : Int) (w : World) (hx : x = bv b) :
    Calls Tryd.prog 46 #[.int .u8 (rv r), .int .u8 x] w fun e w' => e = .returned (.int .u8 (rv (stp r b))) ∧ w = w' := by
  have h0 := rv_lo r
  have h1 := rv_hi r
  have ho := step_out r.toNat r.isLt b
  have hy := step_yes r.toNat r.isLt b
  have hn := step_no r.toNat r.isLt b
  rw [BitVec.ofNat_toNat, BitVec.setWidth_eq] at ho hy hn
  subst hx
  have x0 : 0 ≤ bv b := by cases b <;> decide
  have x1 : bv b < 2 := by cases b <;> decide
  cases hc : (r.msb ^^ b)
  · rw [hc] at ho
    have HN := Lib.hid (hn hc)
    clear hy hn hc
    go_enter Tryd.func46, Tryd.ntmps46
    go_wp2
    go_ret
    exact ⟨ret_int HN.out, rfl⟩
  · rw [hc] at ho
    have HN := Lib.hid (hy hc)
    clear hy hn hc
    go_enter Tryd.func46, Tryd.ntmps46
    go_wp2
    go_ret
    exact ⟨ret_int HN.out, rfl⟩

theorem not_nat : ∀ n : Nat, n < 256 → bits .xor .u8 (if IntKind.u8.signed = true then -1 else IntKind.u8.max) (rv (BitVec.ofNat 8 n)) = rv (~~~ BitVec.ofNat 8 n) := by decide +kernel
theorem not_of (r : BitVec 8) : bits .xor .u8 (if IntKind.u8.signed = true then -1 else IntKind.u8.max) (rv r) = rv (~~~ r) := by
  have h := not_nat r.toNat r.isLt
  rwa [BitVec.ofNat_toNat, BitVec.setWidth_eq] at h

set_option maxRecDepth 100000 in
theorem rev_any (r : BitVec 8) (x : Int) (w : World) (hx : x = rv r) :
    Calls Tryd.prog 47 #[.int .u8 x] w fun e w' => e = .returned (.int .u8 (rv r.reverse)) ∧ w = w' := by
  subst hx
  obtain ⟨n, hn, rfl⟩ : ∃ n : Nat, n < 256 ∧ BitVec.ofNat 8 n = r := ⟨r.toNat, r.isLt, by simp⟩
  rw [rv_of n hn]
  have hn' : (n : Int) < 256 := by omega
  have HT := Lib.hid (show ∀ n : Nat, (h : n < 256) → (((⟨#[0, 128, 64, 192, 32, 160, 96, 224, 16, 144, 80, 208, 48, 176, 112, 240, 8, 136, 72, 200, 40, 168, 104, 232, 24, 152, 88, 216, 56, 184, 120, 248, 4, 132, 68, 196, 36, 164, 100, 228, 20, 148, 84, 212, 52, 180, 116, 244, 12, 140, 76, 204, 44, 172, 108, 236, 28, 156, 92, 220, 60, 188, 124, 252, 2, 130, 66, 194, 34, 162, 98, 226, 18, 146, 82, 210, 50, 178, 114, 242, 10, 138, 74, 202, 42, 170, 106, 234, 26, 154, 90, 218, 58, 186, 122, 250, 6, 134, 70, 198, 38, 166, 102, 230, 22, 150, 86, 214, 54, 182, 118, 246, 14, 142, 78, 206, 46, 174, 110, 238, 30, 158, 94, 222, 62, 190, 126, 254, 1, 129, 65, 193, 33, 161, 97, 225, 17, 145, 81, 209, 49, 177, 113, 241, 9, 137, 73, 201, 41, 169, 105, 233, 25, 153, 89, 217, 57, 185, 121, 249, 5, 133, 69, 197, 37, 165, 101, 229, 21, 149, 85, 213, 53, 181, 117, 245, 13, 141, 77, 205, 45, 173, 109, 237, 29, 157, 93, 221, 61, 189, 125, 253, 3, 131, 67, 195, 35, 163, 99, 227, 19, 147, 83, 211, 51, 179, 115, 243, 11, 139, 75, 203, 43, 171, 107, 235, 27, 155, 91, 219, 59, 187, 123, 251, 7, 135, 71, 199, 39, 167, 103, 231, 23, 151, 87, 215, 55, 183, 119, 247, 15, 143, 79, 207, 47, 175, 111, 239, 31, 159, 95, 223, 63, 191, 127, 255]⟩ : ByteArray)[n]'h).toNat : Int) = rv (BitVec.ofNat 8 n).reverse by decide +kernel)
  go_enter Tryd.func47, Tryd.ntmps47
  go_wp2
  go_ret
  exact ⟨ret_int (HT.out n hn), rfl⟩

set_option maxRecDepth 100000 in
set_option maxHeartbeats 4000000 in
theorem sum_any (A : Option Addr) (n c : Nat) (xs : List Int) (w : World) (h : RowB .u8 w A n xs) :
    Calls Tryd.prog 42 #[.slice A n c] w fun e w' => e = .returned (.int .u8 (sum xs)) ∧ w = w' := by
  have hlen := h.le
  unfold maxLen at hlen
  have HR := Lib.hid h
  clear h
  go_enter Tryd.func42, Tryd.ntmps42
  go_wp2
  go_loop [3, 9] (fun r i => ∃ k : Nat, k ≤ n ∧ i = .int .i64 k ∧ r = .int .u8 (rv (reg (xs.take k)))) (fun _ i => n - (intOf i).toNat)
  case atStart => exact ⟨0, by omega, rfl, rfl⟩
  case round =>
    obtain ⟨k, hk, rfl, rfl⟩ := hrel
    by_cases hlt : k < n
    · obtain ⟨b, off, rfl, hc⟩ := HR.out.el k hlt
      obtain ⟨hw0, hw1⟩ := HR.out.wf8 k hlt
      generalize hv : xs.getD k 0 = v at *
      go_wp2
      go_loop [3, 13] (fun r i => ∃ j : Nat, j ≤ 8 ∧ i = .int .i64 j ∧ r = .int .u8 (rv (byt (reg (xs.take k)) v.toNat j))) (fun _ i => 8 - (intOf i).toNat)
      case atStart => exact ⟨0, by omega, rfl, rfl⟩
      case round =>
        obtain ⟨j, hj, rfl, rfl⟩ := hrel
        by_cases hjt : j < 8
        · have hb := Lib.hid (bit_of v j hw0 hw1 hjt)
          go_wp2_with (go_at_call 46; refine (step_any _ _ _ _ hb.out).mono ?_; rintro e w' ⟨rfl, rfl⟩)
          go_round
          case rel => exact ⟨j + 1, by omega, by go_num, rfl⟩
          case measure => simp [intOf]; omega
        · have hj8 : j = 8 := by omega
          subst hj8
          have HS := Lib.hid (bytes_take 255#8 xs k (by rw [HR.out.len]; exact hlt))
          rw [hv] at HS
          go_wp2
          go_round
          case rel => exact ⟨k + 1, by omega, by go_num, by rw [show reg (List.take (k + 1) xs) = _ from HS.out]; rfl⟩
          case measure => simp [intOf]; omega
    · have HS := Lib.hid (show xs.take k = xs from List.take_of_length_le (by rw [HR.out.len]; omega))
      rw [HS.out]
      clear HR HS
      go_wp2_with (go_at_call 47; refine (rev_any _ _ _ (not_of _)).mono ?_; rintro e w' ⟨rfl, rfl⟩)
      go_ret
      exact ⟨rfl, rfl⟩

/-! ### the document's own sum -/
theorem ref_x_nat : ∀ n : Nat, n < 256 → ∀ b : Bool, (bits .xor .i64 (bits .and .i64 (rv (BitVec.ofNat 8 n) / 128) 1) (bv b) == 1) = ((BitVec.ofNat 8 n).msb ^^ b) := by decide +kernel
theorem ref_yes_nat : ∀ n : Nat, n < 256 → ∀ b : Bool, ((BitVec.ofNat 8 n).msb ^^ b) = true → bits .xor .i64 (bits .and .i64 (rv (BitVec.ofNat 8 n) * 2) 255) 7 = rv (stp (BitVec.ofNat 8 n) b) := by decide +kernel
theorem ref_no_nat : ∀ n : Nat, n < 256 → ∀ b : Bool, ((BitVec.ofNat 8 n).msb ^^ b) = false → bits .and .i64 (rv (BitVec.ofNat 8 n) * 2) 255 = rv (stp (BitVec.ofNat 8 n) b) := by decide +kernel
theorem refbit_nat : ∀ n : Nat, n < 256 → ∀ j : Nat, j < 8 → bits .and .i64 ((n : Int) / 2 ^ j) 1 = bv (n.testBit j) := by decide +kernel
theorem refbit_of (v : Int) (j : Nat) (h0 : 0 ≤ v) (h1 : v ≤ 255) (hj : j < 8) : bits .and .i64 (v / 2 ^ j) 1 = bv (v.toNat.testBit j) := by
  obtain ⟨m, rfl⟩ := Int.eq_ofNat_of_zero_le h0
  exact refbit_nat m (by omega) j hj
/-- of the document's: the answer behind k bits. -/
def outk (r : BitVec 8) : Nat → BitVec 8
  | 0 => 0#8
  | k + 1 => if r.getLsbD k = false then outk r k ||| (128#8 >>> k) else outk r k
theorem outk_all : ∀ n : Nat, n < 256 → outk (BitVec.ofNat 8 n) 8 = (~~~ BitVec.ofNat 8 n).reverse := by decide +kernel
theorem ref_low_nat : ∀ n : Nat, n < 256 → ∀ j : Nat, j < 8 → (bits .and .i64 (rv (BitVec.ofNat 8 n) / 2 ^ j) 1 == 0) = !(BitVec.ofNat 8 n).getLsbD j := by decide +kernel
theorem ref_or_nat : ∀ n : Nat, n < 256 → ∀ j : Nat, j < 8 → bits .or .i64 (rv (BitVec.ofNat 8 n)) (128 / 2 ^ j) = rv (BitVec.ofNat 8 n ||| (128#8 >>> j)) := by decide +kernel
theorem bv8 {p : BitVec 8 → Prop} (h : ∀ n : Nat, n < 256 → p (BitVec.ofNat 8 n)) (r : BitVec 8) : p r := by
  have := h r.toNat r.isLt
  rwa [BitVec.ofNat_toNat, BitVec.setWidth_eq] at this
theorem ref_x (r : BitVec 8) (b : Bool) : (bits .xor .i64 (bits .and .i64 (rv r / 128) 1) (bv b) == 1) = (r.msb ^^ b) :=
  bv8 (p := fun r => ∀ b : Bool, (bits .xor .i64 (bits .and .i64 (rv r / 128) 1) (bv b) == 1) = (r.msb ^^ b)) ref_x_nat r b
theorem ref_yes (r : BitVec 8) (b : Bool) : (r.msb ^^ b) = true → bits .xor .i64 (bits .and .i64 (rv r * 2) 255) 7 = rv (stp r b) :=
  bv8 (p := fun r => ∀ b : Bool, (r.msb ^^ b) = true → bits .xor .i64 (bits .and .i64 (rv r * 2) 255) 7 = rv (stp r b)) ref_yes_nat r b
theorem ref_no (r : BitVec 8) (b : Bool) : (r.msb ^^ b) = false → bits .and .i64 (rv r * 2) 255 = rv (stp r b) :=
  bv8 (p := fun r => ∀ b : Bool, (r.msb ^^ b) = false → bits .and .i64 (rv r * 2) 255 = rv (stp r b)) ref_no_nat r b
theorem outk_8 (r : BitVec 8) : outk r 8 = (~~~ r).reverse := bv8 (p := fun r => outk r 8 = (~~~ r).reverse) outk_all r
theorem ref_low (r : BitVec 8) (j : Nat) (hj : j < 8) : (bits .and .i64 (rv r / 2 ^ j) 1 == 0) = !r.getLsbD j :=
  bv8 (p := fun r => ∀ j : Nat, j < 8 → (bits .and .i64 (rv r / 2 ^ j) 1 == 0) = !r.getLsbD j) ref_low_nat r j hj
theorem ref_or (r : BitVec 8) (j : Nat) (hj : j < 8) : bits .or .i64 (rv r) (128 / 2 ^ j) = rv (r ||| (128#8 >>> j)) :=
  bv8 (p := fun r => ∀ j : Nat, j < 8 → bits .or .i64 (rv r) (128 / 2 ^ j) = rv (r ||| (128#8 >>> j))) ref_or_nat r j hj

set_option maxRecDepth 100000 in
set_option maxHeartbeats 4000000 in
theorem refsum_any (A : Option Addr) (n c : Nat) (xs : List Int) (w : World) (h : RowB .u8 w A n xs) :
    Calls Tryd.prog 30 #[.slice A n c] w fun e w' => e = .returned (.int .u8 (sum xs)) ∧ w = w' := by
  have hlen := h.le
  unfold maxLen at hlen
  have HR := Lib.hid h
  clear h
  go_enter Tryd.func30, Tryd.ntmps30
  go_wp2
  go_loop [3, 4] (fun r i => ∃ k : Nat, k ≤ n ∧ i = .int .i64 k ∧ r = .int .i64 (rv (reg (xs.take k)))) (fun _ i => n - (intOf i).toNat)
  case atStart => exact ⟨0, by omega, rfl, rfl⟩
  case round =>
    obtain ⟨k, hk, rfl, rfl⟩ := hrel
    by_cases hlt : k < n
    · obtain ⟨b, off, rfl, hc⟩ := HR.out.el k hlt
      obtain ⟨hw0, hw1⟩ := HR.out.wf8 k hlt
      generalize hv : xs.getD k 0 = v at *
      go_wp2
      go_loop [3, 5] (fun r i => ∃ j : Nat, j ≤ 8 ∧ i = .int .i64 j ∧ r = .int .i64 (rv (byt (reg (xs.take k)) v.toNat j))) (fun _ i => 8 - (intOf i).toNat)
      case atStart => exact ⟨0, by omega, rfl, rfl⟩
      case round =>
        obtain ⟨j, hj, rfl, rfl⟩ := hrel
        by_cases hjt : j < 8
        · have hb := refbit_of v j hw0 hw1 hjt
          have h0 := rv_lo (byt (reg (xs.take k)) v.toNat j)
          have h1 := rv_hi (byt (reg (xs.take k)) v.toNat j)
          have HS := Lib.hid (show stp (byt (reg (xs.take k)) v.toNat j) (v.toNat.testBit j) = byt (reg (xs.take k)) v.toNat (j + 1) from rfl)
          generalize byt (reg (xs.take k)) v.toNat j = r at *
          generalize v.toNat.testBit j = q at *
          have hx := ref_x r q
          have hy := ref_yes r q
          have hn := ref_no r q
          cases hq : (r.msb ^^ q)
          case' false =>
            rw [hq] at hx
            have HN := Lib.hid (hn hq)
          case' true =>
            rw [hq] at hx
            have HN := Lib.hid (hy hq)
          all_goals
            clear hy hn hq
            go_wp2
            go_round
            case rel => exact ⟨j + 1, by omega, by go_num, by rw [← HS.out, ← HN.out]⟩
            case measure => simp [intOf]; omega
        · have hj8 : j = 8 := by omega
          subst hj8
          have HS := Lib.hid (bytes_take 255#8 xs k (by rw [HR.out.len]; exact hlt))
          rw [hv] at HS
          go_wp2
          go_round
          case rel => exact ⟨k + 1, by omega, by go_num, by rw [show reg (List.take (k + 1) xs) = _ from HS.out]; rfl⟩
          case measure => simp [intOf]; omega
    · have HS := Lib.hid (show xs.take k = xs from List.take_of_length_le (by rw [HR.out.len]; omega))
      rw [HS.out]
      clear HR HS
      go_wp2
      have HE := Lib.hid (show rv (outk (reg xs) 8) = sum xs by rw [outk_8]; rfl)
      generalize reg xs = r at *
      go_loop [7, 8] (fun o i => ∃ j : Nat, j ≤ 8 ∧ i = .int .i64 j ∧ o = .int .i64 (rv (outk r j))) (fun _ i => 8 - (intOf i).toNat)
      case atStart => exact ⟨0, by omega, rfl, rfl⟩
      case round =>
        obtain ⟨j, hj, rfl, rfl⟩ := hrel
        by_cases hjt : j < 8
        · have hb := ref_low r j hjt
          have ho := ref_or (outk r j) j hjt
          cases hq : r.getLsbD j
          case' false =>
            have HN := Lib.hid (show outk r (j + 1) = outk r j ||| (128#8 >>> j) by simp [outk, hq])
          case' true =>
            have HN := Lib.hid (show outk r (j + 1) = outk r j by simp [outk, hq])
          all_goals
            rw [hq] at hb
            simp only [Bool.not_true, Bool.not_false] at hb
            clear hq
            have h0 := rv_lo r
            have h1 := rv_hi r
            go_wp2
            go_round
            case rel => exact ⟨j + 1, by omega, by go_num, by rw [HN.out]⟩
            case measure => simp [intOf]; omega
        · have hj8 : j = 8 := by omega
          subst hj8
          have h0 := rv_lo (outk r 8)
          have h1 := rv_hi (outk r 8)
          generalize outk r 8 = o at *
          go_wp2
          go_ret
          exact ⟨ret_int HE.out, rfl⟩
end Go.Proofs.YtejdmpdbapfomaaDoor
