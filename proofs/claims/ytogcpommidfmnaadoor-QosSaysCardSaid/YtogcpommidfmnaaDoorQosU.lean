/-
  Bytes, QoSBytes, Read, ReadQoS, each said in one: the answer, its code, its body's row.
-/
import Derived.Test.YtogcpommidfmnaaDoorQosY
import Derived.Test.YtogcpommidfmnaaDoorQosZ
import Derived.Test.YtogcpommidfmnaaDoorQosV
import Derived.Test.YtogcpommidfmnaaDoorQosF
namespace Go.Proofs.YtogcpommidfmnaaDoor
open Go.ChangeShapes Go.WideShapes Go.ChangeAt Go.RowKit
set_option linter.unusedVariables false

def codeB (q : Qf) : Nat := if q.okB = true then 0 else 103
def outB (q : Qf) (xs : List Int) : List Int := if q.okB = true then encQ q xs else []
theorem bytes_all (q : Qf) (xs : List Int) (E : Nat → Addr) (w : World) (hx : RowB .u8 w q.A q.n xs) (hnil : q.A = none → q.c = 0) (ht : q.t.wf) (hb : q.b.wf) (hf : q.f.wf) (hS : Sent w E S14) :
    Calls Tryd.prog 10 #[q.val] w fun e w' => ∃ A n c, e = .returned (.tuple #[.slice A n c, errV E (codeB q)]) ∧ RowB .u8 w' A n (outB q xs) ∧ Below w.heap.size w w' := by
  by_cases hok : q.okB = true
  · refine (bytes_yes q xs w hok hx hnil).mono ?_
    rintro e w' ⟨g, cap, rfl, hO, hB⟩
    refine ⟨_, _, _, by rw [codeB, if_pos hok]; rfl, ?_, hB⟩
    rw [outB, if_pos hok]
    exact hO.row8 (fun i hi => enc_wf q xs hok ht hb hf (fun i hi => hx.wf8 i (by rw [← hx.len]; exact hi)) i (by rw [hx.len]; exact hi))
  · refine (bytes_no q E w (by simpa using hok) (hS.at_ 103 (by decide))).mono ?_
    rintro e w' ⟨rfl, hB⟩
    refine ⟨none, 0, 0, by rw [codeB, if_neg hok]; rfl, ?_, hB⟩
    rw [outB, if_neg hok]
    exact RowB.nil
theorem ref_all (q : Qf) (xs : List Int) (w : World) (hx : RowB .u8 w q.A q.n xs) (hnil : q.A = none → q.c = 0) (ht : q.t.wf) (hb : q.b.wf) (hf : q.f.wf) :
    Calls Tryd.prog 14 #[q.val] w fun e w' => ∃ A n c, e = .returned (.tuple #[.slice A n c, .int .i64 (codeB q)]) ∧ RowB .u8 w' A n (outB q xs) ∧ Below w.heap.size w w' := by
  by_cases hok : q.okB = true
  · refine (ref_yes q xs w hok hx hnil).mono ?_
    rintro e w' ⟨g, cap, rfl, hO, hB⟩
    refine ⟨_, _, _, by rw [codeB, if_pos hok]; rfl, ?_, hB⟩
    rw [outB, if_pos hok]
    exact hO.row8 (fun i hi => enc_wf q xs hok ht hb hf (fun i hi => hx.wf8 i (by rw [← hx.len]; exact hi)) i (by rw [hx.len]; exact hi))
  · refine (ref_no q w (by simpa using hok)).mono ?_
    rintro e w' ⟨rfl, hB⟩
    refine ⟨none, 0, 0, by rw [codeB, if_neg hok]; rfl, ?_, hB⟩
    rw [outB, if_neg hok]
    exact RowB.nil
theorem codeB_14 (q : Qf) : codeB q = 0 ∨ codeB q ∈ S14 := by
  unfold codeB; split
  · exact .inl rfl
  · exact .inr (by decide)
theorem rd_all14 (xs : List Int) (n : Nat) : rdB xs n = 0 ∨ rdB xs n ∈ S14 := (rd_in xs n).imp id (four14 _)

/-- a frame with another body. -/
def Qf.body (q : Qf) (A : Option Addr) (n c : Nat) : Qf := ⟨q.t, q.b, q.f, q.tid, q.seq, q.r, q.m, q.e, A, n, c⟩
def outR (xs : List Int) (n : Nat) : Qf := if rdB xs n = 0 then decQ xs none 0 0 else q0
def outY (xs : List Int) (n : Nat) : List Int := if rdB xs n = 0 then xs.drop 26 else []
theorem drop_wf {w : World} {A : Option Addr} {n : Nat} {xs : List Int} (h : RowB .u8 w A n xs) : ∀ i, i < n - 26 → 0 ≤ (xs.drop 26).getD i 0 ∧ (xs.drop 26).getD i 0 ≤ 255 := fun i hi => by
  rw [show (xs.drop 26).getD i 0 = xs.getD (26 + i) 0 by simp [List.getD]]; exact h.wf8 _ (by omega)
theorem read_all (A : Option Addr) (n c : Nat) (xs : List Int) (E : Nat → Addr) (w : World) (h : RowB .u8 w A n xs) (hnc : n ≤ c) (hS : Sent w E S14) :
    Calls Tryd.prog 12 #[.slice A n c] w fun e w' => ∃ A' n' c', e = .returned (.tuple #[((outR xs n).body A' n' c').val, errV E (rdB xs n)]) ∧ RowB .u8 w' A' n' (outY xs n) ∧ Below w.heap.size w w' := by
  by_cases hr : rdB xs n = 0
  · refine (read_good A n c xs w h hnc hr).mono ?_
    rintro e w' ⟨g, cap, rfl, hO, hB⟩
    refine ⟨_, _, _, by rw [outR, if_pos hr, hr]; rfl, ?_, hB⟩
    rw [outY, if_pos hr]
    exact hO.row8 (drop_wf h)
  · refine (read_bad A n c xs E w h (hS.four four14) hr).mono ?_
    rintro e w' ⟨rfl, hB⟩
    refine ⟨none, 0, 0, by rw [outR, if_neg hr, errV_pos E hr]; rfl, ?_, hB⟩
    rw [outY, if_neg hr]
    exact RowB.nil
theorem refread_all (A : Option Addr) (n c : Nat) (xs : List Int) (w : World) (h : RowB .u8 w A n xs) (hnc : n ≤ c) (hn : n ≤ 1600) :
    Calls Tryd.prog 15 #[.slice A n c] w fun e w' => ∃ A' n' c', e = .returned (.tuple #[((outR xs n).body A' n' c').val, .int .i64 (rdB xs n)]) ∧ RowB .u8 w' A' n' (outY xs n) ∧ Below w.heap.size w w' := by
  by_cases h1 : n < 26
  · have hr : rdB xs n = 101 := by unfold rdB; rw [if_pos h1]
    refine (ref_end A n c w h1).mono ?_
    rintro e w' ⟨rfl, hB⟩
    refine ⟨none, 0, 0, by rw [outR, if_neg (by rw [hr]; decide), hr]; rfl, ?_, hB⟩
    rw [outY, if_neg (by rw [hr]; decide)]
    exact RowB.nil
  · by_cases h2 : xs.getD 0 0 = 136
    · refine (ref_read A n c xs w h (by omega) hn hnc h2).mono ?_
      rintro e w' ⟨hB, hbad, hgood⟩
      by_cases hr : rdB xs n = 0
      · obtain ⟨g, cap, rfl, hO⟩ := hgood hr
        refine ⟨_, _, _, by rw [outR, if_pos hr, hr]; rfl, ?_, hB⟩
        rw [outY, if_pos hr]
        exact hO.row8 (drop_wf h)
      · refine ⟨none, 0, 0, by rw [hbad hr, outR, if_neg hr]; rfl, ?_, hB⟩
        rw [outY, if_neg hr]
        exact RowB.nil
    · have hr : rdB xs n = 105 := by unfold rdB; rw [if_neg h1, if_pos h2]
      refine (ref_kind A n c xs w h (by omega) h2).mono ?_
      rintro e w' ⟨rfl, hB⟩
      refine ⟨none, 0, 0, by rw [outR, if_neg (by rw [hr]; decide), hr]; rfl, ?_, hB⟩
      rw [outY, if_neg (by rw [hr]; decide)]
      exact RowB.nil
theorem body_same (q : Qf) (ys : List Int) (A A' : Option Addr) (n n' c c' : Nat) : sameQ (q.body A n c) (q.body A' n' c') ys ys = true := same_refl (q.body A' n' c') ys A n c
theorem sameB_refl (ys : List Int) : sameB ys ys = true := by simp [sameB]
end Go.Proofs.YtogcpommidfmnaaDoor
