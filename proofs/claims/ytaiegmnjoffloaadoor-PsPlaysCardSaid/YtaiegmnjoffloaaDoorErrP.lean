/-
  api's ERRORS AS THE PACKAGE's VARIABLES HOLD THEM; contracts of muezzinsee.Is and all beneath it.
-/
import Derived.Test.YtaiegmnjoffloaaDoorBytesP
import Derived.LaidEql
import Derived.Deep.AppendLies
import Derived.Deep.RegionHeld3
import Derived.Deep.DrawnRows
namespace Go.Proofs.YtaiegmnjoffloaaDoor
open Go.ChangeShapes Go.WideShapes Go.ChangeAt Go.RowKit
set_option linter.unusedVariables false

/-- the variable of an error, by the error's number. -/
def gOf : Nat → Nat
  | 101 => 4
  | 102 => 5
  | 103 => 0
  | 104 => 6
  | 105 => 7
  | 106 => 8
  | 107 => 2
  | 108 => 1
  | 109 => 9
  | 110 => 3
  | 111 => 10
  | 112 => 11
  | 113 => 12
  | 114 => 13
  | _ => 0
/-- an error of errors.New, by where it lies. -/
abbrev errP (a : Addr) : Value := .iface 85 (.pointer (some a))
/-- the error of a number; 0: none. -/
def errV (E : Nat → Addr) (c : Nat) : Value := if c = 0 then .nilIface else errP (E c)
theorem errV_zero (E : Nat → Addr) : errV E 0 = .nilIface := rfl
theorem errV_pos (E : Nat → Addr) {c : Nat} (h : c ≠ 0) : errV E c = errP (E c) := by simp [errV, h]
/-- the variables of the errors S hold them; no two are one. -/
structure Sent (w : World) (E : Nat → Addr) (S : List Nat) : Prop where
  at_ : ∀ c ∈ S, w.cell? ⟨gOf c, 0, none⟩ = some (errP (E c))
  apart : ∀ c ∈ S, ∀ d ∈ S, E c = E d → c = d
  froz : ∀ c ∈ S, ∃ cs t, w.heap[(E c).block]? = some (.cells cs t (0, 0))
theorem Sent.below {w w' : World} {E : Nat → Addr} {S : List Nat} (h : Sent w E S) (hb : Below w.heap.size w w') : Sent w' E S :=
  ⟨fun c hc => (hb.cell (cell_lt' (h.at_ c hc))).trans (h.at_ c hc), h.apart, fun c hc => by
    obtain ⟨cs, t, e⟩ := h.froz c hc
    refine ⟨cs, t, (hb.block _ ?_).trans e⟩
    by_cases hp : (E c).block < w.heap.size
    · exact hp
    · rw [Array.getElem?_eq_none (Nat.le_of_not_lt hp)] at e; cases e⟩
theorem Sent.drewN {w : World} {E : Nat → Addr} {S : List Nat} (h : Sent w E S) (n : Nat) : Sent (w.drewN n) E S := ⟨h.at_, h.apart, h.froz⟩
theorem Sent.sub {w : World} {E : Nat → Addr} {S T : List Nat} (h : Sent w E S) (ht : ∀ c ∈ T, c ∈ S) : Sent w E T :=
  ⟨fun c hc => h.at_ c (ht c hc), fun c hc d hd => h.apart c (ht c hc) d (ht d hd), fun c hc => h.froz c (ht c hc)⟩
/-- the four that package qos answers. -/
def S4 : List Nat := [101, 102, 103, 105]
def S14 : List Nat := [101, 102, 103, 104, 105, 106, 107, 108, 109, 110, 111, 112, 113, 114]
theorem mem14 {c : Nat} (h0 : 101 ≤ c) (h1 : c ≤ 114) : c ∈ S14 := by
  obtain ⟨k, rfl⟩ : ∃ k, c = 101 + k := ⟨c - 101, by omega⟩
  have : k < 14 := by omega
  match k, this with
  | 0, _ | 1, _ | 2, _ | 3, _ | 4, _ | 5, _ | 6, _ | 7, _ | 8, _ | 9, _ | 10, _ | 11, _ | 12, _ | 13, _ => decide
theorem le14 {c : Nat} (h : c ∈ S14) : 101 ≤ c ∧ c ≤ 114 := by
  revert h; unfold S14; simp; omega

theorem compErr : ∃ i, Tryd.prog.info? 85 = some i ∧ i.comparable = true := by
  have : (Tryd.prog.info? 85).map (·.comparable) = some true := by kernel_rfl
  exact Option.map_eq_some_iff.1 this
theorem sizeErr : ∃ j, Tryd.prog.info? 103 = some j ∧ j.size = 1 := by
  have : (Tryd.prog.info? 103).map (·.size) = some 1 := by kernel_rfl
  exact Option.map_eq_some_iff.1 this

set_option maxRecDepth 100000 in
set_option maxHeartbeats 4000000 in
theorem alike_any (E : Nat → Addr) (c d : Nat) (w : World) (hS : Sent w E S14) (hc : c ∈ S14) (hd : d ∈ S14) :
    Calls Tryd.prog 46 #[errP (E c), errP (E d)] w fun e w' => e = .returned (.bool (c == d)) ∧ w = w' := by
  obtain ⟨i, hi, hcmp⟩ := compErr
  obtain ⟨j, hj, hsz⟩ := sizeErr
  obtain ⟨c1, t1, b1⟩ := hS.froz c hc
  obtain ⟨c2, t2, b2⟩ := hS.froz d hd
  by_cases he : c = d
  · subst he
    have hq := run_eql_iface_ptr_same w (E c) Tryd.underlying44 Tryd.underlying85 hi hcmp hj
    have HS := Lib.hid (show (c == c) = true by simp)
    clear hi hj hcmp hsz b1 b2 hS hc hd
    generalize E c = a at *
    go_enter Tryd.func46, Tryd.ntmps46
    go_wp2
    go_ret
    exact ⟨ret_b HS.out, rfl⟩
  · have hne : E c ≠ E d := fun h => he (hS.apart c hc d hd h)
    have hq := run_eql_iface_ptr_other w Tryd.underlying44 Tryd.underlying85 hi hcmp hj (by omega) hne b1 b2
    have HS := Lib.hid (show (c == d) = false by simpa using he)
    clear hi hj hcmp hsz b1 b2 hS hc hd
    generalize E c = a at *
    generalize E d = b at *
    clear hne
    go_enter Tryd.func46, Tryd.ntmps46
    go_wp2
    go_ret
    exact ⟨ret_b HS.out, rfl⟩

/-- the fourteen, as the list has them. -/
def fourteen (E : Nat → Addr) : Array Value := #[errP (E 101), errP (E 102), errP (E 103), errP (E 104), errP (E 105), errP (E 106), errP (E 107), errP (E 108), errP (E 109), errP (E 110), errP (E 111), errP (E 112), errP (E 113), errP (E 114)]
theorem fourteen_get (E : Nat → Addr) (i : Nat) (h : i < 14) : (fourteen E)[i]? = some (errP (E (101 + i))) := by
  match i, h with
  | 0, _ | 1, _ | 2, _ | 3, _ | 4, _ | 5, _ | 6, _ | 7, _ | 8, _ | 9, _ | 10, _ | 11, _ | 12, _ | 13, _ => rfl

set_option maxRecDepth 100000 in
set_option maxHeartbeats 4000000 in
theorem sentinels_any (E : Nat → Addr) (w : World) (hS : Sent w E S14) :
    Calls Tryd.prog 45 #[] w fun e w' => e = .returned (.slice (some ⟨w.heap.size, 0, none⟩) 14 14) ∧ w' = w.alloc (.cells (fourteen E) 44) := by
  have h101 := hS.at_ 101 (by decide)
  have h102 := hS.at_ 102 (by decide)
  have h103 := hS.at_ 103 (by decide)
  have h104 := hS.at_ 104 (by decide)
  have h105 := hS.at_ 105 (by decide)
  have h106 := hS.at_ 106 (by decide)
  have h107 := hS.at_ 107 (by decide)
  have h108 := hS.at_ 108 (by decide)
  have h109 := hS.at_ 109 (by decide)
  have h110 := hS.at_ 110 (by decide)
  have h111 := hS.at_ 111 (by decide)
  have h112 := hS.at_ 112 (by decide)
  have h113 := hS.at_ 113 (by decide)
  have h114 := hS.at_ 114 (by decide)
  simp only [gOf] at h101 h102 h103 h104 h105 h106 h107 h108 h109 h110 h111 h112 h113 h114
  clear hS
  have HF := Lib.hid (show fourteen E = #[errP (E 101), errP (E 102), errP (E 103), errP (E 104), errP (E 105), errP (E 106), errP (E 107), errP (E 108), errP (E 109), errP (E 110), errP (E 111), errP (E 112), errP (E 113), errP (E 114)] from rfl)
  generalize fourteen E = fs at *
  generalize E 101 = e1 at *
  generalize E 102 = e2 at *
  generalize E 103 = e3 at *
  generalize E 104 = e4 at *
  generalize E 105 = e5 at *
  generalize E 106 = e6 at *
  generalize E 107 = e7 at *
  generalize E 108 = e8 at *
  generalize E 109 = e9 at *
  generalize E 110 = e10 at *
  generalize E 111 = e11 at *
  generalize E 112 = e12 at *
  generalize E 113 = e13 at *
  generalize E 114 = e14 at *
  go_enter Tryd.func45, Tryd.ntmps45
  go_wp2
  go_ret
  exact ⟨rfl, by rw [HF.out]⟩

set_option maxRecDepth 100000 in
set_option maxHeartbeats 4000000 in
theorem sentinel_any (E : Nat → Addr) (c : Nat) (w : World) (hS : Sent w E S14) (hc : c ∈ S14) :
    Calls Tryd.prog 43 #[errP (E c)] w fun e w' => e = .returned (.int .i64 c) ∧ Below w.heap.size w w' := by
  have HB := Lib.hid ((Below.refl w.heap.size w).alloc (Nat.le_refl _) (.cells (fourteen E) 44))
  have hS1 := hS.below ((Below.refl w.heap.size w).alloc (Nat.le_refl _) (.cells (fourteen E) 44))
  have hl := le14 hc
  obtain ⟨j, rfl⟩ : ∃ j, c = 101 + j := ⟨c - 101, by omega⟩
  have hj : j < 14 := by omega
  have HC := Lib.hid hc
  have HS := Lib.hid hS
  have HS1 := Lib.hid hS1
  have HCell := Lib.hid (show ∀ i : Nat, i < 14 → (w.alloc (.cells (fourteen E) 44)).cell? ⟨w.heap.size, i, none⟩ = some (errP (E (101 + i))) by
    intro i hi
    have := fourteen_get E i hi
    have hh := heap_alloc_new w (.cells (fourteen E) 44)
    simp only [World.cell?, hh]
    exact this)
  have HR := Lib.hid (show Ending.returned (.int .i64 ((101 + j : Nat) : Int)) = .returned (.int .i64 (101 + (j : Int))) by rw [Int.natCast_add]; rfl)
  clear hc hS hS1 hl
  go_enter Tryd.func43, Tryd.ntmps43
  go_wp2_with (go_at_call 45; refine (sentinels_any E _ HS.out).mono ?_; rintro e w1 ⟨rfl, rfl⟩)
  have hz : w.heap.size < (w.alloc (.cells (fourteen E) 44)).heap.size := by simp
  generalize hw1 : w.alloc (.cells (fourteen E) 44) = w1 at *
  clear hw1
  go_loop [4] (fun i => ∃ k : Nat, k ≤ j ∧ i = .int .i64 k) (fun i => 14 - (intOf i).toNat)
  case atStart => exact ⟨0, by omega, rfl⟩
  case round =>
    obtain ⟨k, hk, rfl⟩ := hrel
    have hcell := HCell.out k (by omega)
    have hkl : (k : Int) < 14 := by omega
    by_cases hlt : k = j
    · subst hlt
      have HA := Lib.hid (alike_any E (101 + k) (101 + k) w1 HS1.out (mem14 (by omega) (by omega)) (mem14 (by omega) (by omega)))
      rw [show (101 + k == 101 + k) = true by simp] at HA
      generalize E (101 + k) = a at *
      go_wp2_with (go_at_call 46; refine HA.out.mono ?_; rintro e w2 ⟨rfl, rfl⟩)
      go_ret
      exact ⟨HR.out.symm, HB.out⟩
    · have HA := Lib.hid (alike_any E (101 + j) (101 + k) w1 HS1.out (mem14 (by omega) (by omega)) (mem14 (by omega) (by omega)))
      rw [show (101 + j == 101 + k) = false by simp; omega] at HA
      generalize E (101 + k) = a at *
      generalize E (101 + j) = b at *
      go_wp2_with (go_at_call 46; refine HA.out.mono ?_; rintro e w2 ⟨rfl, rfl⟩)
      go_round
      case rel => exact ⟨k + 1, by omega, by go_num⟩
      case measure => simp [intOf]; omega

/-- a fault as a value. -/
abbrev faultV (c : Int) : Value := .agg #[.int .i64 c, .bool false, .int .i64 0]
set_option maxRecDepth 100000 in
set_option maxHeartbeats 4000000 in
theorem bare_any (c : Int) (w : World) :
    Calls Tryd.prog 33 #[.int .i64 c] w fun e w' => e = .returned (faultV c) ∧ Below w.heap.size w w' := by
  go_enter Tryd.func33, Tryd.ntmps33
  go_wp2
  refine bodyPost_ret (v := faultV c) (by simp [results, Tryd.results33, go_sem]) rfl ⟨rfl, ?_⟩
  exact (Below.refl _ _).alloc (Nat.le_refl _) _
theorem none_any (w : World) :
    Calls Tryd.prog 42 #[] w fun e w' => e = .returned (faultV 0) ∧ Below w.heap.size w w' := by
  go_enter Tryd.func42, Tryd.ntmps42
  go_wp2
  refine bodyPost_ret (v := faultV 0) (by simp [results, Tryd.results42, go_sem]) rfl ⟨rfl, ?_⟩
  exact (Below.refl _ _).alloc (Nat.le_refl _) _

theorem bcell {B : Nat} {W w1 : World} (hb : Below B W w1) : (∀ b o, b < B → w1.cell? ⟨b, o, none⟩ = W.cell? ⟨b, o, none⟩) ∧ (∀ b o, b < B → w1.frozen? ⟨b, o, none⟩ = W.frozen? ⟨b, o, none⟩) :=
  ⟨fun b o h => hb.cell (p := ⟨b, o, none⟩) h, fun b o h => hb.frozen (p := ⟨b, o, none⟩) h⟩

set_option maxRecDepth 100000 in
set_option maxHeartbeats 4000000 in
theorem fault_nil (w : World) :
    Calls Tryd.prog 41 #[.nilIface] w fun e w' => e = .returned (faultV 0) ∧ Below w.heap.size w w' := by
  go_enter Tryd.func41, Tryd.ntmps41
  go_wp2_with (fail)
  refine (none_any _).mono ?_
  rintro e w1 ⟨rfl, hB⟩
  obtain ⟨hc, hf⟩ := bcell hB
  have hz : w.heap.size < w1.heap.size := by have := hB.size; simp at this; omega
  have HB := Lib.hid hB
  clear hB
  simp only [World.size_alloc] at hc hf
  go_wp2
  refine bodyPost_ret (v := faultV 0) (by simp [results, Tryd.results41, go_sem, hc]) rfl ⟨rfl, ?_⟩
  exact (((((Below.refl _ _).alloc (Nat.le_refl _) _).trans (HB.out.mono (by simp))).setCell (Nat.le_refl _) _).setCell (Nat.le_refl _) _).setCell (Nat.le_refl _) _

/-- 'x, ok := e.(*T)', e's dynamic type another one: (nil, false). -/
theorem run_typeAssert_other {P : Program} {w : World} {t xT asserted te : TypeId} {v : Value} {j : TypeInfo} (hu : P.underlying asserted = some (.pointer te)) (hj : P.info? asserted = some j) (hz : j.zero = some (.pointer none)) (hne : t ≠ asserted) :
    (Instr.typeAssert (.iface t v) xT asserted true).run P w = .ok (.tuple #[.pointer none, .bool false]) w := by
  simp [Instr.typeAssert, run_underlying hu, typeInfo, hj, zeroValue, hz, hne]
theorem zeroAt : ∃ j, Tryd.prog.info? 76 = some j ∧ j.zero = some (.pointer none) := by
  have : (Tryd.prog.info? 76).map (·.zero) = some (some (.pointer none)) := by kernel_rfl
  exact Option.map_eq_some_iff.1 this

set_option maxRecDepth 100000 in
set_option maxHeartbeats 4000000 in
theorem fault_err (E : Nat → Addr) (c : Nat) (w : World) (hS : Sent w E S14) (hc : c ∈ S14) :
    Calls Tryd.prog 41 #[errP (E c)] w fun e w' => e = .returned (faultV c) ∧ Below w.heap.size w w' := by
  have HS := Lib.hid (hS.below ((Below.refl w.heap.size w).alloc (Nat.le_refl _) (Obj.cells #[Value.int IntKind.i64 0, Value.bool false, Value.int IntKind.i64 0] 69)))
  have HC := Lib.hid hc
  clear hS hc
  obtain ⟨j, hj, hz⟩ := zeroAt
  have ht := run_typeAssert_other (P := Tryd.prog) (w := w.alloc (Obj.cells #[Value.int IntKind.i64 0, Value.bool false, Value.int IntKind.i64 0] 69)) (t := 85) (xT := 44) (v := .pointer (some (E c))) Tryd.underlying76 hj hz (by decide)
  clear hj hz
  go_enter Tryd.func41, Tryd.ntmps41
  go_wp2_with (fail)
  refine (sentinel_any E c _ HS.out HC.out).mono ?_
  rintro e w1 ⟨rfl, hB⟩
  have HB1 := Lib.hid hB
  clear hB
  go_wp2_with (fail)
  refine (bare_any _ _).mono ?_
  rintro e w2 ⟨rfl, hB⟩
  have HB := Lib.hid (HB1.out.trans (hB.mono HB1.out.size))
  clear hB HB1
  obtain ⟨hc, hf⟩ := bcell HB.out
  have hz : w.heap.size < w2.heap.size := by have := HB.out.size; simp at this; omega
  simp only [World.size_alloc] at hc hf
  go_wp2
  refine bodyPost_ret (v := faultV c) (by simp [results, Tryd.results41, go_sem, hc]) rfl ⟨rfl, ?_⟩
  exact (((((Below.refl _ _).alloc (Nat.le_refl _) _).trans (HB.out.mono (by simp))).setCell (Nat.le_refl _) _).setCell (Nat.le_refl _) _).setCell (Nat.le_refl _) _

set_option maxRecDepth 100000 in
set_option maxHeartbeats 4000000 in
theorem sameFault_any (c d : Int) (w : World) :
    Calls Tryd.prog 40 #[faultV c, faultV d] w fun e w' => e = .returned (.bool (c == d)) ∧ Below w.heap.size w w' := by
  have HB := Lib.hid (((Below.refl w.heap.size w).alloc (Nat.le_refl _) (.cells #[.int .i64 c, .bool false, .int .i64 0] 69)).alloc (by simp) (.cells #[.int .i64 d, .bool false, .int .i64 0] 69))
  by_cases h : c = d
  · subst h
    have HS := Lib.hid (show (c == c) = true by simp)
    go_enter Tryd.func40, Tryd.ntmps40
    go_wp2
    go_ret
    exact ⟨ret_b HS.out, HB.out⟩
  · have hq : (c == d) = false := by simpa using h
    have HS := Lib.hid hq
    go_enter Tryd.func40, Tryd.ntmps40
    go_wp2
    go_ret
    exact ⟨ret_b HS.out, HB.out⟩

set_option maxRecDepth 100000 in
set_option maxHeartbeats 4000000 in
theorem same_of (c d : Int) (e0 : Value) (w : World)
    (hF : Hid (∀ w' : World, Below w.heap.size w w' → Calls Tryd.prog 41 #[e0] w' fun e w'' => e = .returned (faultV c) ∧ Below w'.heap.size w' w'')) :
    Calls Tryd.prog 32 #[e0, faultV d] w fun e w' => e = .returned (.bool (c == d)) ∧ Below w.heap.size w w' := by
  have HB0 := Lib.hid ((Below.refl w.heap.size w).alloc (Nat.le_refl _) (.cells #[.int .i64 d, .bool false, .int .i64 0] 69))
  go_enter Tryd.func32, Tryd.ntmps32
  go_wp2_with (fail)
  go_region_held3 (fun w' => w'.cell? ⟨w.heap.size, 0, none⟩ = some (.int .i64 d) ∧ w'.cell? ⟨w.heap.size, 1, none⟩ = some (.bool false) ∧ w'.cell? ⟨w.heap.size, 2, none⟩ = some (.int .i64 0)) (go_keep)
    (first | (go_at_call 41; refine (hF.out _ ?_).mono ?_; exact HB0.out.drew; rintro e w1 ⟨rfl, hB⟩; obtain ⟨hc, hf⟩ := bcell hB; have hz : w.heap.size < w1.heap.size := (by have := hB.size; simp at this; omega)) | (go_at_call 40; refine (sameFault_any _ _ _).mono ?_; rintro e w2 ⟨rfl, hB2⟩; obtain ⟨hc2, hf2⟩ := bcell hB2))
  have HB2 := Lib.hid (HB0.out.drew.trans ((hB.trans (hB2.mono hB.size)).mono (by simp)))
  clear hB hB2 hc hf hc2 hf2
  go_wp2
  go_ret
  exact ⟨rfl, HB2.out⟩

set_option maxRecDepth 100000 in
set_option maxHeartbeats 4000000 in
theorem is_of (c d : Int) (e0 : Value) (w : World)
    (hF : Hid (∀ w' : World, Below w.heap.size w w' → Calls Tryd.prog 41 #[e0] w' fun e w'' => e = .returned (faultV c) ∧ Below w'.heap.size w' w'')) :
    Calls Tryd.prog 10 #[e0, .int .i64 d] w fun e w' => e = .returned (.bool (c == d)) ∧ Below w.heap.size w w' := by
  go_enter Tryd.func10, Tryd.ntmps10
  go_wp2_with (fail)
  refine (bare_any _ _).mono ?_
  rintro e w1 ⟨rfl, hB⟩
  have HB := Lib.hid hB
  clear hB
  go_wp2_with (fail)
  refine (same_of c d e0 w1 (Lib.hid fun w' hb => hF.out w' (HB.out.trans (hb.mono HB.out.size)))).mono ?_
  rintro e w2 ⟨rfl, hB⟩
  have HB2 := Lib.hid (HB.out.trans (hB.mono HB.out.size))
  clear hB
  go_wp2
  go_ret
  exact ⟨rfl, HB2.out⟩

/-- muezzinsee.Is, at none and at each of the fourteen. -/
theorem is_any (E : Nat → Addr) (c : Nat) (d : Int) (w : World) (hS : Sent w E S14) (hc : c = 0 ∨ c ∈ S14) :
    Calls Tryd.prog 10 #[errV E c, .int .i64 d] w fun e w' => e = .returned (.bool ((c : Int) == d)) ∧ Below w.heap.size w w' := by
  rcases hc with rfl | hc
  · exact is_of 0 d .nilIface w (Lib.hid fun w' hb => fault_nil w')
  · rw [errV_pos E (show c ≠ 0 by have := le14 hc; omega)]
    exact is_of c d _ w (Lib.hid fun w' hb => fault_err E c w' (hS.below hb) hc)
end Go.Proofs.YtaiegmnjoffloaaDoor
