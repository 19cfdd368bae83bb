/-
  PLAIN MATHEMATICS OF CONTROL FRAMES' BYTES.
-/
import Derived.Test.YtpiiodnhiolfbaaDoorCtlC
import Derived.Test.YtpiiodnhiolfbaaDoorCtlH
import Derived.Test.YtpiiodnhiolfbaaDoorCtlJ
import Derived.Test.YtpiiodnhiolfbaaDoorCtlS
namespace Go.Proofs.YtpiiodnhiolfbaaDoor
open Go.ChangeShapes Go.WideShapes Go.ChangeAt Go.RowKit
set_option linter.unusedVariables false
set_option linter.unusedSimpArgs false

theorem all_wf {xs : List Int} {n : Nat} (hl : xs.length = n) (h : ∀ v ∈ xs, 0 ≤ v ∧ v ≤ 255) : ∀ i, i < n → 0 ≤ xs.getD i 0 ∧ xs.getD i 0 ≤ 255 := by
  intro i hi
  exact h _ (mem_getD (by omega))
theorem take_map (xs : List Int) (k : Nat) (h : k ≤ xs.length) : xs.take k = (List.range k).map fun i => xs.getD i 0 := by
  apply List.ext_getElem
  · simp; omega
  · intro i h1 h2
    simp at h1 h2
    simp [List.getD, show i < xs.length by omega]
theorem list_map (xs : List Int) (k : Nat) (h : xs.length = k) : xs = (List.range k).map fun i => xs.getD i 0 := by
  have := take_map xs k (by omega)
  rwa [List.take_of_length_le (by omega)] at this

/-! ### Bar, and the beginning of an Ack -/
theorem encW_len (k : Int) (t f : A6) (tid seq : Int) : (encW k t f tid seq).length = 20 := rfl
theorem encW_mem (k : Int) (t f : A6) (tid seq : Int) (hk : 0 ≤ k ∧ k ≤ 255) (ht : t.wf) (hf : f.wf) (hok : okTS tid seq = true) : ∀ v ∈ encW k t f tid seq, 0 ≤ v ∧ v ≤ 255 := by
  obtain ⟨k0, k1, k2, k3⟩ := (okTS_iff _ _).1 hok
  intro v hv
  unfold encW at hv
  simp only [List.mem_append] at hv
  rcases hv with (((hv | hv) | hv) | hv) | hv
  · simp at hv; rcases hv with rfl | rfl <;> omega
  · exact ht v hv
  · exact hf v hv
  · simp at hv; rcases hv with rfl | rfl <;> omega
  · simp at hv; rcases hv with rfl | rfl <;> omega
theorem decW_enc (k : Int) (t f : A6) (tid seq : Int) (hok : okTS tid seq = true) (ys : List Int) : decW (encW k t f tid seq ++ ys) = ⟨t, f, tid, seq⟩ := by
  obtain ⟨k0, k1, k2, k3⟩ := (okTS_iff _ _).1 hok
  have e1 : numAt (encW k t f tid seq ++ ys) 16 / 4096 = tid := by
    show ((4 + tid * 4096) % 256 + (4 + tid * 4096) / 256 * 256) / 4096 = tid
    omega
  have e2 : numAt (encW k t f tid seq ++ ys) 18 / 16 = seq := by
    show (seq * 16 % 256 + seq * 16 / 256 * 256) / 16 = seq
    omega
  unfold decW
  rw [e1, e2]
  rfl
theorem shB_enc (k : Int) (t f : A6) (tid seq : Int) (hok : okTS tid seq = true) (ys : List Int) : shB (encW k t f tid seq ++ ys) = true := by
  obtain ⟨k0, k1, k2, k3⟩ := (okTS_iff _ _).1 hok
  have e1 : numAt (encW k t f tid seq ++ ys) 16 = 4 + tid * 4096 := by
    show ((4 + tid * 4096) % 256 + (4 + tid * 4096) / 256 * 256) = 4 + tid * 4096
    omega
  have e2 : numAt (encW k t f tid seq ++ ys) 18 = seq * 16 := by
    show (seq * 16 % 256 + seq * 16 / 256 * 256) = seq * 16
    omega
  unfold shB
  rw [e1, e2, show (4 + tid * 4096) / 4096 = tid by omega, show seq * 16 / 16 = seq by omega, hok, show (4 + tid * 4096) % 4096 = 4 by omega, show seq * 16 % 16 = 0 by omega]
  rfl
/-- what is read has just these bytes. -/
theorem encW_dec (xs : List Int) (k : Int) (hl : 20 ≤ xs.length) (hw : ∀ i, i < 20 → 0 ≤ xs.getD i 0 ∧ xs.getD i 0 ≤ 255) (hk : xs.getD 0 0 = k) (hs : shB xs = true) :
    encW k (six xs 4) (six xs 10) (numAt xs 16 / 4096) (numAt xs 18 / 16) = xs.take 20 ∧ okTS (numAt xs 16 / 4096) (numAt xs 18 / 16) = true := by
  unfold shB at hs
  simp only [Bool.and_eq_true, beq_iff_eq] at hs
  obtain ⟨⟨⟨⟨⟨s1, s2⟩, s3⟩, s4⟩, s5⟩, s6⟩ := hs
  refine ⟨?_, s6⟩
  obtain ⟨l16, u16⟩ := hw 16 (by omega)
  obtain ⟨l17, u17⟩ := hw 17 (by omega)
  obtain ⟨l18, u18⟩ := hw 18 (by omega)
  obtain ⟨l19, u19⟩ := hw 19 (by omega)
  have d16 : numAt xs 16 = xs.getD 16 0 + xs.getD 17 0 * 256 := rfl
  have d18 : numAt xs 18 = xs.getD 18 0 + xs.getD 19 0 * 256 := rfl
  have f1 : (4 + numAt xs 16 / 4096 * 4096) % 256 = xs.getD 16 0 := by omega
  have f2 : (4 + numAt xs 16 / 4096 * 4096) / 256 = xs.getD 17 0 := by omega
  have f3 : numAt xs 18 / 16 * 16 % 256 = xs.getD 18 0 := by omega
  have f4 : numAt xs 18 / 16 * 16 / 256 = xs.getD 19 0 := by omega
  rw [take_map xs 20 hl]
  unfold encW
  rw [f1, f2, f3, f4]
  show [k, 0, 0, 0] ++ (six xs 4).l ++ (six xs 10).l ++ [xs.getD 16 0, xs.getD 17 0] ++ [xs.getD 18 0, xs.getD 19 0] = [xs.getD 0 0, xs.getD 1 0, xs.getD 2 0, xs.getD 3 0] ++ (six xs 4).l ++ (six xs 10).l ++ [xs.getD 16 0, xs.getD 17 0] ++ [xs.getD 18 0, xs.getD 19 0]
  rw [hk, s1, s2, s3]
/-- whether bytes are those of what they say. -/
theorem sameB_W (xs : List Int) (k : Int) (hl : xs.length = 20) (hw : ∀ i, i < 20 → 0 ≤ xs.getD i 0 ∧ xs.getD i 0 ≤ 255) (hk : xs.getD 0 0 = k) (hok : okTS (numAt xs 16 / 4096) (numAt xs 18 / 16) = true) :
    sameB xs (encW k (six xs 4) (six xs 10) (numAt xs 16 / 4096) (numAt xs 18 / 16)) = shB xs := by
  cases hs : shB xs
  · unfold sameB
    refine decide_eq_false fun h => ?_
    have h2 := shB_enc k (six xs 4) (six xs 10) _ _ hok []
    rw [List.append_nil, ← h, hs] at h2
    cases h2
  · have := (encW_dec xs k (by omega) hw hk hs).1
    rw [List.take_of_length_le (by omega)] at this
    rw [this]
    simp [sameB]

/-! ### Ack -/
theorem encA_len (q : Akf) : (encA q).length = 28 := rfl
theorem mapB_mem (m : Int) : ∀ v ∈ mapB m, 0 ≤ v ∧ v ≤ 255 := by
  intro v hv
  simp only [mapB, List.mem_cons, List.not_mem_nil, or_false] at hv
  rcases hv with rfl | rfl | rfl | rfl | rfl | rfl | rfl | rfl <;> omega
theorem encA_wf (q : Akf) (ht : q.t.wf) (hf : q.f.wf) (hok : okTS q.tid q.seq = true) : ∀ i, i < 28 → 0 ≤ (encA q).getD i 0 ∧ (encA q).getD i 0 ≤ 255 :=
  all_wf (encA_len q) fun v hv => by
    rcases List.mem_append.1 hv with hv | hv
    · exact encW_mem 148 _ _ _ _ (by omega) ht hf hok v hv
    · exact mapB_mem _ v hv
theorem mapK_enc (q : Akf) (h0 : 0 ≤ q.map) (h1 : q.map ≤ 18446744073709551615) : mapK (encA q) 8 = q.map := by
  have e0 : mapK (encA q) 1 = q.map % 256 := by
    show 0 + q.map % 256 * 1 = q.map % 256
    omega
  have e1 : mapK (encA q) 2 = q.map % 65536 := by
    show mapK (encA q) 1 + q.map / 256 % 256 * 256 = q.map % 65536
    rw [e0]; omega
  have e2 : mapK (encA q) 3 = q.map % 16777216 := by
    show mapK (encA q) 2 + q.map / 65536 % 256 * 65536 = q.map % 16777216
    rw [e1]; omega
  have e3 : mapK (encA q) 4 = q.map % 4294967296 := by
    show mapK (encA q) 3 + q.map / 16777216 % 256 * 16777216 = q.map % 4294967296
    rw [e2]; omega
  have e4 : mapK (encA q) 5 = q.map % 1099511627776 := by
    show mapK (encA q) 4 + q.map / 4294967296 % 256 * 4294967296 = q.map % 1099511627776
    rw [e3]; omega
  have e5 : mapK (encA q) 6 = q.map % 281474976710656 := by
    show mapK (encA q) 5 + q.map / 1099511627776 % 256 * 1099511627776 = q.map % 281474976710656
    rw [e4]; omega
  have e6 : mapK (encA q) 7 = q.map % 72057594037927936 := by
    show mapK (encA q) 6 + q.map / 281474976710656 % 256 * 281474976710656 = q.map % 72057594037927936
    rw [e5]; omega
  show mapK (encA q) 7 + q.map / 72057594037927936 % 256 * 72057594037927936 = q.map
  rw [e6]; omega
theorem decA_enc (q : Akf) (hok : okTS q.tid q.seq = true) (h0 : 0 ≤ q.map) (h1 : q.map ≤ 18446744073709551615) : decA (encA q) = q := by
  have e := decW_enc 148 q.t q.f q.tid q.seq hok (mapB q.map)
  have m := mapK_enc q h0 h1
  unfold decW at e
  unfold decA
  rw [m]
  change (⟨six (encA q) 4, six (encA q) 10, numAt (encA q) 16 / 4096, numAt (encA q) 18 / 16⟩ : Brf) = _ at e
  injection e with e1 e2 e3 e4
  rw [e1, e2, e3, e4]
theorem mapB_dec (xs : List Int) (hl : xs.length = 28) (hw : ∀ i, i < 28 → 0 ≤ xs.getD i 0 ∧ xs.getD i 0 ≤ 255) : mapB (mapK xs 8) = xs.drop 20 ∧ 0 ≤ mapK xs 8 ∧ mapK xs 8 ≤ 18446744073709551615 := by
  have hm := mapK_wf xs hw
  have b1 := hm 1 (by omega)
  have b2 := hm 2 (by omega)
  have b3 := hm 3 (by omega)
  have b4 := hm 4 (by omega)
  have b5 := hm 5 (by omega)
  have b6 := hm 6 (by omega)
  have b7 := hm 7 (by omega)
  have b8 := hm 8 (by omega)
  have e1 : mapK xs 1 = 0 + xs.getD 20 0 * 1 := rfl
  have e2 : mapK xs 2 = mapK xs 1 + xs.getD 21 0 * 256 := rfl
  have e3 : mapK xs 3 = mapK xs 2 + xs.getD 22 0 * 65536 := rfl
  have e4 : mapK xs 4 = mapK xs 3 + xs.getD 23 0 * 16777216 := rfl
  have e5 : mapK xs 5 = mapK xs 4 + xs.getD 24 0 * 4294967296 := rfl
  have e6 : mapK xs 6 = mapK xs 5 + xs.getD 25 0 * 1099511627776 := rfl
  have e7 : mapK xs 7 = mapK xs 6 + xs.getD 26 0 * 281474976710656 := rfl
  have e8 : mapK xs 8 = mapK xs 7 + xs.getD 27 0 * 72057594037927936 := rfl
  have hd : xs.drop 20 = [xs.getD 20 0, xs.getD 21 0, xs.getD 22 0, xs.getD 23 0, xs.getD 24 0, xs.getD 25 0, xs.getD 26 0, xs.getD 27 0] := by
    conv => lhs; rw [list_map xs 28 hl]
    rfl
  rw [hd]
  obtain ⟨l0, u0⟩ := hw 20 (by omega)
  obtain ⟨l1, u1⟩ := hw 21 (by omega)
  obtain ⟨l2, u2⟩ := hw 22 (by omega)
  obtain ⟨l3, u3⟩ := hw 23 (by omega)
  obtain ⟨l4, u4⟩ := hw 24 (by omega)
  obtain ⟨l5, u5⟩ := hw 25 (by omega)
  obtain ⟨l6, u6⟩ := hw 26 (by omega)
  obtain ⟨l7, u7⟩ := hw 27 (by omega)
  clear hw hm hd
  generalize xs.getD 20 0 = v0 at *
  generalize xs.getD 21 0 = v1 at *
  generalize xs.getD 22 0 = v2 at *
  generalize xs.getD 23 0 = v3 at *
  generalize xs.getD 24 0 = v4 at *
  generalize xs.getD 25 0 = v5 at *
  generalize xs.getD 26 0 = v6 at *
  generalize xs.getD 27 0 = v7 at *
  generalize mapK xs 8 = m8 at *
  generalize mapK xs 7 = m7 at *
  generalize mapK xs 6 = m6 at *
  generalize mapK xs 5 = m5 at *
  generalize mapK xs 4 = m4 at *
  generalize mapK xs 3 = m3 at *
  generalize mapK xs 2 = m2 at *
  generalize mapK xs 1 = m1 at *
  refine ⟨?_, by omega, by omega⟩
  have g1 : m8 % 256 = v0 := by omega
  have g2 : m8 / 256 % 256 = v1 := by omega
  have g3 : m8 / 65536 % 256 = v2 := by omega
  have g4 : m8 / 16777216 % 256 = v3 := by omega
  have g5 : m8 / 4294967296 % 256 = v4 := by omega
  have g6 : m8 / 1099511627776 % 256 = v5 := by omega
  have g7 : m8 / 281474976710656 % 256 = v6 := by omega
  have g8 : m8 / 72057594037927936 % 256 = v7 := by omega
  unfold mapB
  rw [g1, g2, g3, g4, g5, g6, g7, g8]
theorem encA_dec (xs : List Int) (hl : xs.length = 28) (hw : ∀ i, i < 28 → 0 ≤ xs.getD i 0 ∧ xs.getD i 0 ≤ 255) (hk : xs.getD 0 0 = 148) (hs : shB xs = true) : encA (decA xs) = xs := by
  have h1 := (encW_dec xs 148 (by omega) (fun i hi => hw i (by omega)) hk hs).1
  have h2 := (mapB_dec xs hl hw).1
  show encW 148 (six xs 4) (six xs 10) (numAt xs 16 / 4096) (numAt xs 18 / 16) ++ mapB (mapK xs 8) = xs
  rw [h1, h2, List.take_append_drop]
theorem sameB_A (xs : List Int) (hl : xs.length = 28) (hw : ∀ i, i < 28 → 0 ≤ xs.getD i 0 ∧ xs.getD i 0 ≤ 255) (hk : xs.getD 0 0 = 148) (hok : okTS (numAt xs 16 / 4096) (numAt xs 18 / 16) = true) :
    sameB xs (encA (decA xs)) = shB xs := by
  cases hs : shB xs
  · unfold sameB
    refine decide_eq_false fun h => ?_
    have h2 := shB_enc 148 (six xs 4) (six xs 10) _ _ hok (mapB (mapK xs 8))
    have h3 : encW 148 (six xs 4) (six xs 10) (numAt xs 16 / 4096) (numAt xs 18 / 16) ++ mapB (mapK xs 8) = xs := h.symm
    rw [h3, hs] at h2
    cases h2
  · rw [encA_dec xs hl hw hk hs]
    simp [sameB]

/-! ### Poll -/
theorem encP_len (q : Plf) : (encP q).length = 16 := rfl
theorem encP_wf (q : Plf) (hb : q.b.wf) (hf : q.f.wf) (hok : okAID q.aid = true) : ∀ i, i < 16 → 0 ≤ (encP q).getD i 0 ∧ (encP q).getD i 0 ≤ 255 :=
  all_wf (encP_len q) fun v hv => by
    obtain ⟨k0, k1⟩ := (okAID_iff _).1 hok
    unfold encP at hv
    simp only [List.mem_append] at hv
    rcases hv with ((hv | hv) | hv) | hv
    · simp at hv; rcases hv with rfl | rfl <;> omega
    · simp at hv; rcases hv with rfl | rfl <;> omega
    · exact hb v hv
    · exact hf v hv
theorem numP_enc (q : Plf) (hok : okAID q.aid = true) : numAt (encP q) 2 = 49152 + q.aid := by
  obtain ⟨k0, k1⟩ := (okAID_iff _).1 hok
  show (49152 + q.aid) % 256 + (49152 + q.aid) / 256 * 256 = 49152 + q.aid
  omega
theorem decP_enc (q : Plf) (hok : okAID q.aid = true) : decP (encP q) = q := by
  unfold decP
  rw [numP_enc q hok, show 49152 + q.aid - 49152 = q.aid by omega]
  rfl

/-! ### what reading says of what was written -/
theorem rdW_enc (k : Int) (q : Brf) (hok : okTS q.tid q.seq = true) : rdW (encW k q.t q.f q.tid q.seq) 20 k 20 = 0 := by
  have := shB_enc k q.t q.f q.tid q.seq hok []
  rw [List.append_nil] at this
  exact rdW_good (begC_is rfl fun _ => rfl) this
theorem outW_enc (k : Int) (q : Brf) (hok : okTS q.tid q.seq = true) : outW (encW k q.t q.f q.tid q.seq) 20 k 20 = q := by
  have := decW_enc k q.t q.f q.tid q.seq hok []
  rw [List.append_nil] at this
  rw [outW, if_pos (rdW_enc k q hok), this]
theorem rdA_enc (q : Akf) (hok : okTS q.tid q.seq = true) : rdW (encA q) 28 148 28 = 0 :=
  rdW_good (begC_is rfl fun _ => rfl) (shB_enc 148 q.t q.f q.tid q.seq hok (mapB q.map))
theorem outA_enc (q : Akf) (hok : okTS q.tid q.seq = true) (h0 : 0 ≤ q.map) (h1 : q.map ≤ 18446744073709551615) : outA (encA q) 28 = q := by
  rw [outA, if_pos (rdA_enc q hok), decA_enc q hok h0 h1]
theorem rdP_enc (q : Plf) (hok : okAID q.aid = true) : rdP (encP q) 16 = 0 := by
  obtain ⟨k0, k1⟩ := (okAID_iff _).1 hok
  have hb : begC (encP q) 16 164 16 = 0 := begC_is rfl fun _ => rfl
  unfold rdP
  rw [if_neg (by simp [hb]), if_neg, if_pos]
  · rw [numP_enc q hok, show 49152 + q.aid - 49152 = q.aid by omega]; exact hok
  · rw [numP_enc q hok]
    rintro (h | h)
    · exact h rfl
    · omega
theorem outP_enc (q : Plf) (hok : okAID q.aid = true) : outP (encP q) 16 = q := by
  rw [outP, if_pos (rdP_enc q hok), decP_enc q hok]
theorem begC_kind {xs : List Int} {n : Nat} {k size : Int} (h0 : 0 < n) (h : xs.getD 0 0 ≠ k) : begC xs n k size = 105 := by unfold begC; rw [if_pos ⟨h0, h⟩]
theorem begC_end {xs : List Int} {n : Nat} {k size : Int} (h0 : 0 < n → xs.getD 0 0 = k) (h : (n : Int) < size) : begC xs n k size = 101 := by
  unfold begC; rw [if_neg (fun hh => hh.2 (h0 hh.1)), if_pos h]
theorem begC_long {xs : List Int} {n : Nat} {k size : Int} (h0 : 0 < n → xs.getD 0 0 = k) (h : size < (n : Int)) : begC xs n k size = 102 := by
  unfold begC; rw [if_neg (fun hh => hh.2 (h0 hh.1)), if_neg (by omega), if_pos h]
theorem rdP_beg {xs : List Int} {n : Nat} (h : begC xs n 164 16 ≠ 0) : rdP xs n = begC xs n 164 16 := by unfold rdP; rw [if_pos h]
end Go.Proofs.YtpiiodnhiolfbaaDoor
