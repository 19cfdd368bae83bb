/-
  MORE OF THE SUM OF A DELIMITER, in plain words: what a turned bit, an unlike byte, lists that are taken apart from one another make of it. No program is named.
-/
import Derived.Test.YtbgaidcpljfkjaaCrcMath
import Derived.Laws.BitsLemmas
namespace Go.Proofs.Ytbgaidcpljfkjaa
set_option linter.unusedVariables false

/-! ### bytes taken apart (xor) -/
theorem xor_u8_nat (a b : Nat) (ha : a < 256) (hb : b < 256) : bits .xor .u8 (a : Int) (b : Int) = ((a ^^^ b : Nat) : Int) := by
  have hx : a ^^^ b < 2 ^ 8 := Nat.xor_lt_two_pow (by simpa using ha) (by simpa using hb)
  simp only [bits, BitVec.ofInt_natCast, BitVec.toNat_xor, BitVec.toNat_ofNat]
  rw [show a % 2 ^ IntKind.u8.bits = a from Nat.mod_eq_of_lt (by simpa [IntKind.bits] using ha), show b % 2 ^ IntKind.u8.bits = b from Nat.mod_eq_of_lt (by simpa [IntKind.bits] using hb)]
  exact wraps_u8 _ (Int.natCast_nonneg _) (by exact_mod_cast hx)
/-- closed to the walk. -/
def xr (a b : Int) : Int := ((a.toNat ^^^ b.toNat : Nat) : Int)
theorem xor_u8 (a b : Int) (ha : 0 ≤ a ∧ a ≤ 255) (hb : 0 ≤ b ∧ b ≤ 255) : bits .xor .u8 a b = xr a b := by
  obtain ⟨m, rfl⟩ := Int.eq_ofNat_of_zero_le ha.1
  obtain ⟨n, rfl⟩ := Int.eq_ofNat_of_zero_le hb.1
  exact xor_u8_nat m n (by omega) (by omega)
theorem xr_range (a b : Int) (ha : 0 ≤ a ∧ a ≤ 255) (hb : 0 ≤ b ∧ b ≤ 255) : 0 ≤ xr a b ∧ xr a b ≤ 255 := by
  have hx : a.toNat ^^^ b.toNat < 2 ^ 8 := Nat.xor_lt_two_pow (by omega) (by omega)
  unfold xr
  omega
theorem xr_toNat (a b : Int) : (xr a b).toNat = a.toNat ^^^ b.toNat := rfl
theorem xr_eq_zero (a b : Int) (ha : 0 ≤ a) (hb : 0 ≤ b) : xr a b = 0 ↔ a = b := by
  unfold xr
  constructor
  · intro h
    have h2 : a.toNat ^^^ b.toNat = 0 := by exact_mod_cast h
    have := congrArg (· ^^^ b.toNat) h2
    simp [Nat.xor_assoc] at this
    omega
  · rintro rfl; simp
theorem xr_same (a b : Int) (ha : 0 ≤ a) (hb : 0 ≤ b) : xr a b = a ↔ b = 0 := by
  unfold xr
  constructor
  · intro h
    have h2 : a.toNat ^^^ b.toNat = a.toNat ^^^ 0 := by rw [Nat.xor_zero]; omega
    have := congrArg (a.toNat ^^^ ·) h2
    simp [← Nat.xor_assoc] at this
    omega
  · rintro rfl; simp; omega

/-! ### registers -/
theorem run_inj (l : List Bool) (r r' : BitVec 8) (h : run r l = run r' l) : r = r' := by
  have key : ∀ n : Nat, ∀ d : BitVec 8, adv d n = 0#8 → d = 0#8 := by
    have one : ∀ n : Nat, n < 256 → stp (BitVec.ofNat 8 n) false = 0#8 → BitVec.ofNat 8 n = 0#8 := by decide +kernel
    intro n
    induction n with
    | zero => intro d h; exact h
    | succ n ih =>
      intro d h
      have := one d.toNat d.isLt
      rw [BitVec.ofNat_toNat, BitVec.setWidth_eq] at this
      exact this (ih _ h)
  have e := run_add l r (r ^^^ r')
  rw [← BitVec.xor_assoc, BitVec.xor_self, BitVec.zero_xor, ← h] at e
  have h0 : adv (r ^^^ r') l.length = 0#8 := by
    have := congrArg (run r l ^^^ ·) e
    simpa [← BitVec.xor_assoc] using this.symm
  have := key _ _ h0
  have h2 := congrArg (r ^^^ ·) this
  simpa [← BitVec.xor_assoc] using h2.symm
theorem bytes_inj (l : List Int) (r r' : BitVec 8) (h : bytes r l = bytes r' l) : r = r' := by
  rw [bytes_run, bytes_run] at h
  exact run_inj _ _ _ h
theorem bytes_append (r : BitVec 8) (p s : List Int) : bytes r (p ++ s) = bytes (bytes r p) s := by unfold bytes; rw [List.foldl_append]
theorem reverse_xor (x y : BitVec 8) : (x ^^^ y).reverse = x.reverse ^^^ y.reverse := by
  ext i hi
  simp [BitVec.getElem_reverse]
theorem sum_eq (xs ys : List Int) : sum xs = sum ys ↔ reg xs = reg ys := by
  unfold sum
  constructor
  · intro h
    have h2 : (~~~ reg xs).reverse = (~~~ reg ys).reverse := BitVec.eq_of_toNat_eq (by exact_mod_cast h)
    have h3 := congrArg BitVec.reverse h2
    rw [BitVec.reverse_reverse_eq, BitVec.reverse_reverse_eq] at h3
    exact BitVec.not_inj.1 h3
  · intro h; rw [h]

/-- one byte otherwise: an unlike sum. -/
theorem sum_set (xs : List Int) (k : Nat) (v : Int) (hk : k < xs.length) (h0 : 0 ≤ xs.getD k 0 ∧ xs.getD k 0 ≤ 255) (h1 : 0 ≤ v ∧ v ≤ 255) : sum xs = sum (xs.set k v) ↔ v = xs.getD k 0 := by
  rw [sum_eq]
  have e1 : xs = xs.take k ++ xs.getD k 0 :: xs.drop (k + 1) := by
    conv => lhs; rw [← List.take_append_drop k xs, List.drop_eq_getElem_cons hk]
    simp [List.getD, hk]
  have e2 : xs.set k v = xs.take k ++ v :: xs.drop (k + 1) := by
    rw [List.set_eq_take_append_cons_drop, if_pos hk]
  constructor
  · intro h
    unfold reg at h
    rw [e2] at h
    conv at h => lhs; rw [e1]
    rw [bytes_append, bytes_append] at h
    have h2 : byt (bytes 255#8 (xs.take k)) (xs.getD k 0).toNat 8 = byt (bytes 255#8 (xs.take k)) v.toNat 8 := bytes_inj (xs.drop (k + 1)) _ _ h
    have := byt_inj _ _ _ (by omega) (by omega) h2
    omega
  · intro h
    rw [e2, h]
    exact congrArg reg e1

/-! ### three lists at once -/
theorem stp_lin (r r' : BitVec 8) (b b' : Bool) : stp (r ^^^ r') (b ^^ b') = stp r b ^^^ stp r' b' := by
  rw [stp_add]
  have h0 : stp r (b ^^ b') = stp r b ^^^ (if b' = true then 7#8 else 0#8) := by
    cases b'
    · simp
    · rw [show (b ^^ true) = !b by cases b <;> rfl]; exact stp_flip r b
  have h1 : stp r' b' = stp r' false ^^^ (if b' = true then 7#8 else 0#8) := by
    cases b'
    · simp
    · exact stp_flip r' false
  rw [h0, h1, BitVec.xor_assoc, BitVec.xor_comm (if b' = true then 7#8 else 0#8) (stp r' false), ← BitVec.xor_assoc]
theorem byt_lin (r r' : BitVec 8) (c c' : Nat) : ∀ k, byt (r ^^^ r') (c ^^^ c') k = byt r c k ^^^ byt r' c' k
  | 0 => rfl
  | k + 1 => by
    show stp (byt (r ^^^ r') (c ^^^ c') k) ((c ^^^ c').testBit k) = stp (byt r c k) (c.testBit k) ^^^ stp (byt r' c' k) (c'.testBit k)
    rw [byt_lin r r' c c' k, Nat.testBit_xor, stp_lin]
theorem reg_lin (a b c d : List Int) (n : Nat) (ha : a.length = n) (hb : b.length = n) (hc : c.length = n) (hd : d.length = n)
    (h : ∀ i, i < n → d.getD i 0 = xr (xr (a.getD i 0) (b.getD i 0)) (c.getD i 0)) : ∀ k, k ≤ n → reg (d.take k) = (reg (a.take k) ^^^ reg (b.take k)) ^^^ reg (c.take k) := by
  intro k
  induction k with
  | zero => intro _; simp [reg, bytes]
  | succ k ih =>
    intro hk
    unfold reg at ih ⊢
    rw [bytes_take _ d k (by omega), bytes_take _ a k (by omega), bytes_take _ b k (by omega), bytes_take _ c k (by omega), ih (by omega), h k (by omega), xr_toNat, xr_toNat, byt_lin, byt_lin]
theorem sum_lin (a b c d : List Int) (n : Nat) (ha : a.length = n) (hb : b.length = n) (hc : c.length = n) (hd : d.length = n)
    (h : ∀ i, i < n → d.getD i 0 = xr (xr (a.getD i 0) (b.getD i 0)) (c.getD i 0)) : xr (xr (xr (sum a) (sum b)) (sum c)) (sum d) = 0 := by
  have e := reg_lin a b c d n ha hb hc hd h n (Nat.le_refl _)
  rw [List.take_of_length_le (by omega), List.take_of_length_le (by omega), List.take_of_length_le (by omega), List.take_of_length_le (by omega)] at e
  have key : ∀ x y z : BitVec 8, xr (xr (xr ((~~~ x).reverse.toNat : Int) ((~~~ y).reverse.toNat : Int)) ((~~~ z).reverse.toNat : Int)) ((~~~ ((x ^^^ y) ^^^ z)).reverse.toNat : Int) = 0 := by
    intro x y z
    unfold xr
    simp only [Int.toNat_natCast, ← BitVec.toNat_xor, ← reverse_xor]
    have : ~~~x ^^^ ~~~y ^^^ ~~~z ^^^ ~~~(x ^^^ y ^^^ z) = 0#8 := by
      ext i hi
      simp
    rw [this]
    rfl
  unfold sum
  rw [e]
  exact key _ _ _

/-! ### bits turned -/
theorem adv_adv (d : BitVec 8) : ∀ m n, adv (adv d m) n = adv d (m + n)
  | 0, n => by rw [Nat.zero_add]; rfl
  | m + 1, n => by rw [show m + 1 + n = (m + n) + 1 by omega]; exact adv_adv _ m n
theorem bitsAll_len (xs : List Int) : (bitsAll xs).length = 8 * xs.length := by
  induction xs with
  | nil => rfl
  | cons c xs ih =>
    show (bitsOf c.toNat ++ bitsAll xs).length = _
    rw [List.length_append, bitsOf_len, ih]
    simp; omega
theorem bytes_add (xs : List Int) (r d : BitVec 8) : bytes (r ^^^ d) xs = bytes r xs ^^^ adv d (8 * xs.length) := by
  rw [bytes_run, bytes_run, run_add, bitsAll_len]
theorem bitsOf_flip (c i : Nat) (hi : i < 8) : bitsOf (c ^^^ 2 ^ i) = (bitsOf c).modify i (!·) := by
  apply List.ext_getElem?
  intro j
  rw [List.getElem?_modify]
  unfold bitsOf
  by_cases hj : j < 8
  · by_cases h : i = j
    · subst h; simp [hj, Nat.testBit_xor]
    · simp [hj, Nat.testBit_xor, h]
  · simp [hj]
theorem byt_flip (r : BitVec 8) (c i : Nat) (hi : i < 8) : byt r (c ^^^ 2 ^ i) 8 = byt r c 8 ^^^ adv 7#8 (7 - i) := by
  rw [byt_run, byt_run, bitsOf_flip c i hi, run_flip _ _ _ (by rw [bitsOf_len]; exact hi), bitsOf_len]
def flip (xs : List Int) (i : Nat) : List Int := xs.set (i / 8) (xr (xs.getD (i / 8) 0) (2 ^ (i % 8)))
theorem bytes_flip (xs : List Int) : ∀ (r : BitVec 8) (i : Nat), i < 8 * xs.length → bytes r (flip xs i) = bytes r xs ^^^ adv 7#8 (8 * xs.length - 1 - i) := by
  induction xs with
  | nil => intro r i h; simp at h
  | cons c xs ih =>
    intro r i h
    by_cases hi : i < 8
    · have e : flip (c :: xs) i = xr c (2 ^ i) :: xs := by
        unfold flip
        rw [show i / 8 = 0 by omega, show i % 8 = i by omega]
        rfl
      rw [e]
      show bytes (byt r (xr c (2 ^ i)).toNat 8) xs = bytes (byt r c.toNat 8) xs ^^^ _
      rw [xr_toNat, show ((2 : Int) ^ i).toNat = 2 ^ i by rw [show ((2 : Int) ^ i) = ((2 ^ i : Nat) : Int) by simp]; rfl, byt_flip _ _ _ hi, bytes_add, adv_adv]
      congr 2
      simp; omega
    · have e : flip (c :: xs) i = c :: flip xs (i - 8) := by
        unfold flip
        rw [show i / 8 = (i - 8) / 8 + 1 by omega, show i % 8 = (i - 8) % 8 by omega]
        rfl
      rw [e]
      show bytes (byt r c.toNat 8) (flip xs (i - 8)) = bytes (byt r c.toNat 8) xs ^^^ _
      have h' : i - 8 < 8 * xs.length := by simp at h; omega
      rw [ih _ _ h']
      congr 2
      simp; omega
theorem flip_length (xs : List Int) (i : Nat) : (flip xs i).length = xs.length := by simp [flip]
theorem two_pow_range : ∀ j, j < 8 → 0 ≤ (2 : Int) ^ j ∧ (2 : Int) ^ j ≤ 255 := by decide
theorem flip_range (xs : List Int) (i n : Nat) (hl : xs.length = n) (hi : i < 8 * n) (hw : ∀ j, j < n → 0 ≤ xs.getD j 0 ∧ xs.getD j 0 ≤ 255) : ∀ j, j < n → 0 ≤ (flip xs i).getD j 0 ∧ (flip xs i).getD j 0 ≤ 255 := by
  intro j hj
  unfold flip
  by_cases h : i / 8 = j
  · have : (xs.set (i / 8) (xr (xs.getD (i / 8) 0) (2 ^ (i % 8)))).getD j 0 = xr (xs.getD (i / 8) 0) (2 ^ (i % 8)) := by
      subst h; simp [List.getD, show i / 8 < xs.length by omega]
    rw [this]
    exact xr_range _ _ (hw _ (by omega)) (two_pow_range _ (by omega))
  · have : (xs.set (i / 8) (xr (xs.getD (i / 8) 0) (2 ^ (i % 8)))).getD j 0 = xs.getD j 0 := by
      simp [List.getD, h]
    rw [this]; exact hw j hj

end Go.Proofs.Ytbgaidcpljfkjaa
