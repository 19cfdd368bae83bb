/-
  THE SUM OF A DELIMITER, in plain words: a register of eight bits. No program is named.
-/
import Derived.Test.YtlkoleannlpflaaDoorRows
namespace Go.Proofs.YtlkoleannlpflaaDoor
set_option linter.unusedVariables false

def stp (r : BitVec 8) (b : Bool) : BitVec 8 := (r <<< 1) ^^^ (if (r.msb ^^ b) = true then 7#8 else 0#8)
/-- behind the first k bits of c. -/
def byt (r : BitVec 8) (c : Nat) : Nat → BitVec 8
  | 0 => r
  | k + 1 => stp (byt r c k) (c.testBit k)
def bytes (r : BitVec 8) (bs : List Int) : BitVec 8 := bs.foldl (fun r c => byt r c.toNat 8) r
def reg (bs : List Int) : BitVec 8 := bytes 255#8 bs
def sum (bs : List Int) : Int := ((~~~ reg bs).reverse.toNat : Int)

theorem bytes_take (r : BitVec 8) (bs : List Int) (k : Nat) (h : k < bs.length) : bytes r (bs.take (k + 1)) = byt (bytes r (bs.take k)) (bs.getD k 0).toNat 8 := by
  unfold bytes
  rw [List.take_succ_eq_append_getElem h, List.foldl_append]
  simp [List.getD, h]

/-! ### one bit, a bit turned -/
theorem stp_flip (r : BitVec 8) (b : Bool) : stp r (!b) = stp r b ^^^ 7#8 := by
  unfold stp
  cases r.msb <;> cases b <;> simp [BitVec.xor_assoc]
theorem stp_add (r d : BitVec 8) (b : Bool) : stp (r ^^^ d) b = stp r b ^^^ stp d false := by
  unfold stp
  rw [BitVec.shiftLeft_xor_distrib, BitVec.msb_xor]
  cases r.msb <;> cases d.msb <;> cases b <;> simp <;> first | ac_rfl | (rw [eq_comm]; ac_nf; rw [← BitVec.xor_assoc, BitVec.xor_self, BitVec.zero_xor]) | (rw [← BitVec.xor_assoc 7#8 7#8, BitVec.xor_self, BitVec.zero_xor])
def adv (d : BitVec 8) : Nat → BitVec 8
  | 0 => d
  | n + 1 => adv (stp d false) n
def bitsOf (c : Nat) : List Bool := (List.range 8).map c.testBit
def bitsAll (bs : List Int) : List Bool := bs.flatMap fun c => bitsOf c.toNat
def run (r : BitVec 8) (l : List Bool) : BitVec 8 := l.foldl stp r
theorem run_add (l : List Bool) : ∀ r d : BitVec 8, run (r ^^^ d) l = run r l ^^^ adv d l.length := by
  induction l with
  | nil => intro r d; rfl
  | cons b l ih =>
    intro r d
    show run (stp (r ^^^ d) b) l = run (stp r b) l ^^^ adv (stp d false) l.length
    rw [stp_add, ih]
theorem run_flip (l : List Bool) : ∀ (r : BitVec 8) (i : Nat), i < l.length → run r (l.modify i (!·)) = run r l ^^^ adv 7#8 (l.length - 1 - i) := by
  induction l with
  | nil => intro r i h; simp at h
  | cons b l ih =>
    intro r i h
    cases i with
    | zero =>
      show run (stp r (!b)) l = run (stp r b) l ^^^ adv 7#8 (l.length + 1 - 1 - 0)
      rw [stp_flip, run_add]; rfl
    | succ i =>
      have h' : i < l.length := by simpa using h
      show run (stp r b) (l.modify i (!·)) = run (stp r b) l ^^^ adv 7#8 (l.length + 1 - 1 - (i + 1))
      rw [ih _ _ h']
      congr 2; omega
theorem byt_run (r : BitVec 8) (c : Nat) : byt r c 8 = run r (bitsOf c) := rfl
theorem bytes_run (bs : List Int) : ∀ r : BitVec 8, bytes r bs = run r (bitsAll bs) := by
  induction bs with
  | nil => intro r; rfl
  | cons c bs ih =>
    intro r
    show bytes (byt r c.toNat 8) bs = run r (bitsOf c.toNat ++ bitsAll bs)
    rw [ih, byt_run]; unfold run; rw [List.foldl_append]

/-! ### it fits -/
def unA (d : BitVec 8) : BitVec 8 := if d.getLsbD 0 = true then ((d ^^^ 7#8) >>> 1) ||| 128#8 else d >>> 1
def un8 (x : BitVec 8) : Nat := (unA (unA (unA (unA (unA (unA (unA (unA x)))))))).reverse.toNat
theorem byt_un : ∀ c : Nat, c < 256 → un8 (byt 0#8 c 8) = c := by decide +kernel
theorem byt_sum : ∀ n : Nat, n < 256 → byt (BitVec.ofNat 8 n) (~~~ BitVec.ofNat 8 n).reverse.toNat 8 = byt 0#8 255 8 := by decide +kernel
theorem bitsOf_len (c : Nat) : (bitsOf c).length = 8 := by simp [bitsOf]
theorem byt_zero (r : BitVec 8) (c : Nat) : byt r c 8 = byt 0#8 c 8 ^^^ adv r 8 := by
  rw [byt_run, byt_run]
  have h := run_add (bitsOf c) 0#8 r
  rw [BitVec.zero_xor, bitsOf_len] at h
  exact h
theorem xor_right {a b c : BitVec 8} (h : a ^^^ c = b ^^^ c) : a = b := by
  have := congrArg (· ^^^ c) h
  simpa [BitVec.xor_assoc] using this
theorem byt_inj (r : BitVec 8) (c d : Nat) (hc : c < 256) (hd : d < 256) (h : byt r c 8 = byt r d 8) : c = d := by
  rw [byt_zero r c, byt_zero r d] at h
  have h2 := xor_right h
  rw [← byt_un c hc, ← byt_un d hd, h2]
theorem byt_fits (r : BitVec 8) (c : Nat) (hc : c < 256) : byt r c 8 = byt 0#8 255 8 ↔ c = (~~~ r).reverse.toNat := by
  have h := byt_sum r.toNat r.isLt
  rw [BitVec.ofNat_toNat, BitVec.setWidth_eq] at h
  constructor
  · intro e
    exact byt_inj r _ _ hc (BitVec.isLt _) (e.trans h.symm)
  · rintro rfl
    exact h
theorem adv_ne : ∀ i : Nat, i < 120 → adv 7#8 i ≠ 0#8 := by decide +kernel
theorem adv_apart : ∀ i : Nat, i < 120 → ∀ k : Nat, k < 120 → (adv 7#8 i ^^^ adv 7#8 k = 0#8 ↔ i = k) := by decide +kernel
end Go.Proofs.YtlkoleannlpflaaDoor
