/-
  PLAIN MATHEMATICS OF A FRAME's BYTES; the contract of muezzinlaw3.first.
-/
import Derived.Test.YtogcpommidfmnaaDoorQosB
import Derived.Test.YtogcpommidfmnaaDoorQosE
import Derived.Test.YtogcpommidfmnaaDoorSameQ
namespace Go.Proofs.YtogcpommidfmnaaDoor
open Go.ChangeShapes Go.WideShapes Go.ChangeAt Go.RowKit
set_option linter.unusedVariables false
set_option linter.unusedSimpArgs false

/-! ### there and back -/
theorem enc_len (q : Qf) (xs : List Int) : (encQ q xs).length = 26 + xs.length := by simp [encQ, A6.l]; omega
theorem enc_drop (q : Qf) (xs : List Int) : (encQ q xs).drop 26 = xs := rfl
theorem traf_nat : ∀ n : Nat, n < 8 → ∀ e : Bool, bits .andNot .u8 (trafOf (n : Int) e) 16 = n ∧ (bits .and .u8 (trafOf (n : Int) e) 16 != 0) = e ∧ tfB (trafOf (n : Int) e) = true ∧ 0 ≤ trafOf (n : Int) e ∧ trafOf (n : Int) e ≤ 255 := by decide +kernel
theorem traf_of (tid : Int) (h0 : 0 ≤ tid) (h1 : tid < 8) (e : Bool) : bits .andNot .u8 (trafOf tid e) 16 = tid ∧ (bits .and .u8 (trafOf tid e) 16 != 0) = e ∧ tfB (trafOf tid e) = true ∧ 0 ≤ trafOf tid e ∧ trafOf tid e ≤ 255 := by
  obtain ⟨n, rfl⟩ := Int.eq_ofNat_of_zero_le h0
  exact traf_nat n (by omega) e
theorem flags_of : ∀ r m : Bool, (bits .and .u8 (flagsOf r m) 8 != 0) = r ∧ (bits .and .u8 (flagsOf r m) 32 != 0) = m ∧ ffB (flagsOf r m) = true ∧ 0 ≤ flagsOf r m ∧ flagsOf r m ≤ 255 := by decide +kernel
/-- what is read from a frame's bytes is that frame, its body where it was put. -/
theorem dec_enc (q : Qf) (xs : List Int) (h0 : 0 ≤ q.tid) (h1 : q.tid < 8) (h2 : 0 ≤ q.seq) (h3 : q.seq < 4096) (A : Option Addr) (n c : Nat) :
    decQ (encQ q xs) A n c = ⟨q.t, q.b, q.f, q.tid, q.seq, q.r, q.m, q.e, A, n, c⟩ := by
  obtain ⟨a1, a2, _⟩ := traf_of q.tid h0 h1 q.e
  obtain ⟨b1, b2, _⟩ := flags_of q.r q.m
  have e1 : (encQ q xs).getD 24 0 = trafOf q.tid q.e := rfl
  have e2 : (encQ q xs).getD 22 0 = q.seq * 16 % 256 := rfl
  have e3 : (encQ q xs).getD 23 0 = q.seq * 16 / 256 := rfl
  have e4 : (encQ q xs).getD 1 0 = flagsOf q.r q.m := rfl
  have e5 : q.seq * 16 % 256 / 16 + q.seq * 16 / 256 * 16 = q.seq := by omega
  unfold decQ
  rw [e1, e2, e3, e4, a1, a2, b1, b2, e5]
  rfl
theorem hf_enc (q : Qf) (xs : List Int) (h0 : 0 ≤ q.tid) (h1 : q.tid < 8) (h2 : 0 ≤ q.seq) : hfB (encQ q xs) = true := by
  obtain ⟨_, _, a3, _⟩ := traf_of q.tid h0 h1 q.e
  obtain ⟨_, _, b3, _⟩ := flags_of q.r q.m
  have e1 : (encQ q xs).getD 24 0 = trafOf q.tid q.e := rfl
  have e2 : (encQ q xs).getD 22 0 = q.seq * 16 % 256 := rfl
  have e4 : (encQ q xs).getD 1 0 = flagsOf q.r q.m := rfl
  have e5 : (encQ q xs).getD 2 0 = 0 := rfl
  have e6 : (encQ q xs).getD 3 0 = 0 := rfl
  have e7 : (encQ q xs).getD 25 0 = 0 := rfl
  have e8 : q.seq * 16 % 256 % 16 = 0 := by omega
  unfold hfB
  rw [e1, e2, e4, e5, e6, e7, a3, b3, e8]
  rfl
theorem enc_wf (q : Qf) (xs : List Int) (hok : q.okB = true) (ht : q.t.wf) (hb : q.b.wf) (hf : q.f.wf) (hx : ∀ i, i < xs.length → 0 ≤ xs.getD i 0 ∧ xs.getD i 0 ≤ 255) :
    ∀ i, i < 26 + xs.length → 0 ≤ (encQ q xs).getD i 0 ∧ (encQ q xs).getD i 0 ≤ 255 := by
  obtain ⟨k0, k1, k2, k3, _⟩ := q.ok_iff.1 hok
  obtain ⟨_, _, _, a4, a5⟩ := traf_of q.tid k0 k1 q.e
  obtain ⟨_, _, _, b4, b5⟩ := flags_of q.r q.m
  have hall : ∀ v ∈ encQ q xs, 0 ≤ v ∧ v ≤ 255 := by
    intro v hv
    unfold encQ at hv
    simp only [List.mem_append] at hv
    rcases hv with ((((hv | hv) | hv) | hv) | hv) | hv
    · simp at hv; rcases hv with rfl | rfl | rfl <;> omega
    · exact ht v hv
    · exact hb v hv
    · exact hf v hv
    · simp at hv; rcases hv with rfl | rfl | rfl | rfl <;> omega
    · obtain ⟨i, hi, rfl⟩ := List.mem_iff_getElem.1 hv
      have := hx i hi
      simpa [List.getD, hi] using this
  intro i hi
  have hl := enc_len q xs
  have : (encQ q xs).getD i 0 = (encQ q xs)[i]'(by omega) := by simp [List.getD, show i < (encQ q xs).length by omega]
  rw [this]
  exact hall _ (List.getElem_mem _)

theorem take_map (xs : List Int) (k : Nat) (h : k ≤ xs.length) : xs.take k = (List.range k).map fun i => xs.getD i 0 := by
  apply List.ext_getElem
  · simp; omega
  · intro i h1 h2
    simp at h1 h2
    simp [List.getD, show i < xs.length by omega]
theorem flags_nat : ∀ n : Nat, n < 256 → ffB (n : Int) = true → flagsOf (bits .and .u8 (n : Int) 8 != 0) (bits .and .u8 (n : Int) 32 != 0) = n := by decide +kernel
theorem traf_back_nat : ∀ n : Nat, n < 256 → tfB (n : Int) = true → trafOf (bits .andNot .u8 (n : Int) 16) (bits .and .u8 (n : Int) 16 != 0) = n ∧ 0 ≤ bits .andNot .u8 (n : Int) 16 ∧ bits .andNot .u8 (n : Int) 16 < 8 := by decide +kernel
/-- what is read has just these bytes; and it may be. -/
theorem enc_dec (xs : List Int) (hl : 26 ≤ xs.length) (hw : ∀ i, i < 26 → 0 ≤ xs.getD i 0 ∧ xs.getD i 0 ≤ 255) (hk : xs.getD 0 0 = 136) (hs : hfB xs = true) (A : Option Addr) (n c : Nat) :
    encQ (decQ xs A n c) (xs.drop 26) = xs ∧ (n ≤ 1500 → (decQ xs A n c).okB = true) := by
  unfold hfB at hs
  simp only [Bool.and_eq_true, beq_iff_eq] at hs
  obtain ⟨⟨⟨⟨⟨s1, s2⟩, s3⟩, s22⟩, s24⟩, s25⟩ := hs
  obtain ⟨l1, u1⟩ := hw 1 (by omega)
  obtain ⟨l22, u22⟩ := hw 22 (by omega)
  obtain ⟨l23, u23⟩ := hw 23 (by omega)
  obtain ⟨l24, u24⟩ := hw 24 (by omega)
  have f1 := u8all (p := fun v => ffB v = true → flagsOf (bits .and .u8 v 8 != 0) (bits .and .u8 v 32 != 0) = v) flags_nat _ l1 u1 s1
  obtain ⟨f2, f3, f4⟩ := u8all (p := fun v => tfB v = true → trafOf (bits .andNot .u8 v 16) (bits .and .u8 v 16 != 0) = v ∧ 0 ≤ bits .andNot .u8 v 16 ∧ bits .andNot .u8 v 16 < 8) traf_back_nat _ l24 u24 s24
  have f5 : (xs.getD 22 0 / 16 + xs.getD 23 0 * 16) * 16 % 256 = xs.getD 22 0 := by omega
  have f6 : (xs.getD 22 0 / 16 + xs.getD 23 0 * 16) * 16 / 256 = xs.getD 23 0 := by omega
  refine ⟨?_, fun hn => (Qf.ok_iff _).2 ⟨f3, f4, ?_, ?_, hn⟩⟩
  · conv => rhs; rw [← List.take_append_drop 26 xs, take_map xs 26 hl]
    show [136, flagsOf (bits .and .u8 (xs.getD 1 0) 8 != 0) (bits .and .u8 (xs.getD 1 0) 32 != 0), 0, 0] ++ (six xs 4).l ++ (six xs 10).l ++ (six xs 16).l ++ [(xs.getD 22 0 / 16 + xs.getD 23 0 * 16) * 16 % 256, (xs.getD 22 0 / 16 + xs.getD 23 0 * 16) * 16 / 256, trafOf (bits .andNot .u8 (xs.getD 24 0) 16) (bits .and .u8 (xs.getD 24 0) 16 != 0), 0] ++ xs.drop 26 = _
    rw [f1, f2, f5, f6]
    congr 1
    show [136, xs.getD 1 0, 0, 0] ++ (six xs 4).l ++ (six xs 10).l ++ (six xs 16).l ++ [xs.getD 22 0, xs.getD 23 0, xs.getD 24 0, 0] = [xs.getD 0 0, xs.getD 1 0, xs.getD 2 0, xs.getD 3 0] ++ (six xs 4).l ++ (six xs 10).l ++ (six xs 16).l ++ [xs.getD 22 0, xs.getD 23 0, xs.getD 24 0, xs.getD 25 0]
    rw [hk, s2, s3, s25]
  · show 0 ≤ xs.getD 22 0 / 16 + xs.getD 23 0 * 16
    omega
  · show xs.getD 22 0 / 16 + xs.getD 23 0 * 16 < 4096
    omega
/-- frames that are the same have the same bytes. -/
theorem enc_same {q p : Qf} {xs ys : List Int} (h : sameQ q p xs ys = true) : encQ q xs = encQ p ys := by
  unfold sameQ at h
  simp only [Bool.and_eq_true, beq_iff_eq, sameB, decide_eq_true_eq] at h
  obtain ⟨⟨⟨⟨⟨⟨⟨⟨h1, h2⟩, h3⟩, h4⟩, h5⟩, h6⟩, h7⟩, h8⟩, h9⟩ := h
  unfold encQ
  rw [h1, h2, h3, h4, h5, h6, h7, h8, h9]
theorem same_refl (q : Qf) (xs : List Int) (A : Option Addr) (n c : Nat) : sameQ ⟨q.t, q.b, q.f, q.tid, q.seq, q.r, q.m, q.e, A, n, c⟩ q xs xs = true := by
  simp [sameQ, sameB]
end Go.Proofs.YtogcpommidfmnaaDoor
