/-
  CONTRACT of ctl.readWindow.
-/
import Derived.Test.YtpiiodnhiolfbaaDoorCtlB
namespace Go.Proofs.YtpiiodnhiolfbaaDoor
open Go.ChangeShapes Go.WideShapes Go.ChangeAt Go.RowKit
set_option linter.unusedVariables false
set_option linter.unusedSimpArgs false

theorem quiet_left {P : Program} {f : FuncId} {args : Array Value} {w : World} {n : Nat} {v : Value}
    (h : Calls P f args (w.drewN n) fun e w' => e = .returned v ∧ ∃ m, w' = (w.drewN n).drewN m) : Calls P f args (w.drewN n) fun e w'' => e = .returned v ∧ ∃ m, w'' = w.drewN m :=
  h.mono fun _ _ ⟨he, m, hm⟩ => ⟨he, n + m, by rw [hm]; simp [World.drewN, Nat.add_assoc]⟩
/-- the number of two bytes, from o on. -/
def numAt (xs : List Int) (o : Nat) : Int := xs.getD o 0 + xs.getD (o + 1) 0 * 256
theorem numAt_wf {w : World} {A : Option Addr} {n : Nat} {xs : List Int} (h : RowB .u8 w A n xs) (o : Nat) (ho : o + 2 ≤ n) : 0 ≤ numAt xs o ∧ numAt xs o ≤ 65535 := by
  have h0 := h.wf8 o (by omega)
  have h1 := h.wf8 (o + 1) (by omega)
  unfold numAt
  omega
theorem drop_getD (xs : List Int) (m i : Nat) : (xs.drop m).getD i 0 = xs.getD (m + i) 0 := by simp [List.getD]
theorem number_off (o : Nat) (b off n c : Nat) (xs : List Int) (w : World) (h : RowB .u8 w (some ⟨b, off, none⟩) n xs) (ho : o + 2 ≤ n) :
    Calls Tryd.prog 40 #[.slice (some ⟨b, off + o, none⟩) (n - o) (c - o)] w fun e w' => e = .returned (.int .i64 (numAt xs o)) ∧ ∃ m, w' = w.drewN m := by
  have := number_at b (off + o) (n - o) (c - o) (xs.drop o) w (drop_row h o (by omega)) (by omega)
  rw [drop_getD, drop_getD] at this
  exact this

theorem RowB.at_ {k : IntKind} {w : World} {b off n : Nat} {xs : List Int} (h : RowB k w (some ⟨b, off, none⟩) n xs) (i : Nat) (hi : i < n) : w.cell? ⟨b, off + i, none⟩ = some (.int k (xs.getD i 0)) := by
  obtain ⟨b', off', e, hc⟩ := h.el i hi
  cases e
  exact hc

/-- the Bar of zeros. -/
abbrev b0 : Brf := ⟨⟨0, 0, 0, 0, 0, 0⟩, ⟨0, 0, 0, 0, 0, 0⟩, 0, 0⟩
/-- the Bar that bytes say. -/
def decW (xs : List Int) : Brf := ⟨six xs 4, six xs 10, numAt xs 16 / 4096, numAt xs 18 / 16⟩
/-- the form of a Bar, and of an Ack. -/
def shB (xs : List Int) : Bool := xs.getD 1 0 == 0 && xs.getD 2 0 == 0 && xs.getD 3 0 == 0 && numAt xs 16 % 4096 == 4 && numAt xs 18 % 16 == 0 && okTS (numAt xs 16 / 4096) (numAt xs 18 / 16)
/-- what reading answers; 0: a frame. -/
def rdW (xs : List Int) (n : Nat) (k size : Int) : Nat := if begC xs n k size ≠ 0 then begC xs n k size else if shB xs = true then 0 else 102
theorem begC_4 (xs : List Int) (n : Nat) (k size : Int) : begC xs n k size = 0 ∨ begC xs n k size ∈ S4 := by
  unfold begC
  split
  · exact .inr (by decide)
  split
  · exact .inr (by decide)
  split
  · exact .inr (by decide)
  · exact .inl rfl
theorem rdW_4 (xs : List Int) (n : Nat) (k size : Int) : rdW xs n k size = 0 ∨ rdW xs n k size ∈ S4 := by
  unfold rdW
  split
  · exact begC_4 xs n k size
  split
  · exact .inl rfl
  · exact .inr (by decide)
theorem begC_fine {xs : List Int} {n : Nat} {k size : Int} (h : begC xs n k size = 0) (hs : 0 < size) : (n : Int) = size ∧ xs.getD 0 0 = k := by
  unfold begC at h
  by_cases h1 : 0 < n ∧ xs.getD 0 0 ≠ k
  · rw [if_pos h1] at h; cases h
  · rw [if_neg h1] at h
    by_cases h2 : (n : Int) < size
    · rw [if_pos h2] at h; cases h
    · rw [if_neg h2] at h
      by_cases h3 : size < (n : Int)
      · rw [if_pos h3] at h; cases h
      · refine ⟨by omega, ?_⟩
        by_cases h4 : xs.getD 0 0 = k
        · exact h4
        · exact absurd ⟨by omega, h4⟩ h1
theorem begC_is {xs : List Int} {n : Nat} {k size : Int} (h : (n : Int) = size) (h0 : 0 < n → xs.getD 0 0 = k) : begC xs n k size = 0 := by
  unfold begC
  rw [if_neg (fun hh => hh.2 (h0 hh.1)), if_neg (by omega), if_neg (by omega)]

set_option maxRecDepth 100000 in
set_option maxHeartbeats 8000000 in
theorem rw_beg (A : Option Addr) (n c : Nat) (xs : List Int) (k : Int) (size : Int) (E : Nat → Addr) (w : World) (h : RowB .u8 w A n xs) (hS : Sent w E S4) (hb : begC xs n k size ≠ 0) :
    Calls Tryd.prog 38 #[.slice A n c, .int .u8 k, .int .i64 size] w fun e w' => e = .returned (.tuple #[b0.val, errP (E (begC xs n k size))]) ∧ Below w.heap.size w w' := by
  have HB := Lib.hid ((Below.refl w.heap.size w).alloc (Nat.le_refl _) (.cells b0.cells 25))
  have HC := Lib.hid (begins_any A n c xs k size E _ (h.below HB.out) (hS.below HB.out))
  rw [errV_pos E hb] at HC
  generalize E (begC xs n k size) = a at *
  have HG := Lib.hid (heap_alloc_last w (.cells b0.cells 25))
  clear h hS hb
  go_enter Tryd.func38, Tryd.ntmps38
  go_wp2_with (fail)
  refine HC.out.mono ?_
  rintro e w2 ⟨rfl, rfl⟩
  generalize w.alloc (.cells b0.cells 25) = w1 at *
  go_wp2_with (refine wpList_store_row rfl 25 (.tmp 6) (.tmp 18) rfl w.heap.size b0.cells rfl rfl 25 b0.cells HG.out sizeBar rfl b0.oneCell ?_; rw [setRow_same _ _ _ _ _ HG.out])
  refine bodyPost_ret (v := .tuple #[b0.val, errP a]) (results_cell_slot (p := 6) (q := 7) Tryd.results38 _ _ w.heap.size _ b0.cells _ _ rfl HG.out Tryd.underlying25 rfl sizeBar) rfl ⟨rfl, HB.out⟩

end Go.Proofs.YtpiiodnhiolfbaaDoor
