/-
  CONTRACTS of tim.Read, tim.Has.
-/
import Derived.Test.YtocghdjadojimaaDoorTimD
namespace Go.Proofs.YtocghdjadojimaaDoor
open Go.ChangeShapes Go.WideShapes Go.ChangeAt Go.RowKit
set_option linter.unusedVariables false
set_option linter.unusedSimpArgs false

theorem sizeTim : (Tryd.prog.info? 24).map (·.size) = some 4 := by kernel_rfl
theorem Tm.oneCell (q : Tm) (A : Option Addr) (n k : Nat) : (q.cells A n k).all (·.oneCell') = true := by simp [Value.oneCell']
abbrev t0 : Tm := ⟨0, 0, false, []⟩
abbrev t0c : Array Value := t0.cells none 0 0
/-- what bytes say; what Read answers. -/
def decT (xs : List Int) : Tm := ⟨xs.getD 2 0, xs.getD 3 0, xs.getD 4 0 % 2 != 0, says (xs.getD 4 0 - xs.getD 4 0 % 2) (xs.drop 5)⟩
def rdT (xs : List Int) (n : Nat) : Nat := if frmT xs n ≠ 0 then frmT xs n else if okT (decT xs) = true then (if sameB (encT (decT xs)) xs = true then 0 else 102) else 103
def outT (xs : List Int) (n : Nat) : Tm := if rdT xs n = 0 then decT xs else t0
theorem rdT_beg {xs : List Int} {n : Nat} (h : frmT xs n ≠ 0) : rdT xs n = frmT xs n ∧ outT xs n = t0 := by
  have e : rdT xs n = frmT xs n := by unfold rdT; rw [if_pos h]
  exact ⟨e, by unfold outT; rw [e, if_neg h]⟩
theorem rdT_no {xs : List Int} {n : Nat} (h : frmT xs n = 0) (h1 : okT (decT xs) = false) : rdT xs n = 103 ∧ outT xs n = t0 := by
  have e : rdT xs n = 103 := by unfold rdT; rw [if_neg (by simp [h]), if_neg (by simp [h1])]
  exact ⟨e, by unfold outT; rw [e]; rfl⟩
theorem rdT_bad {xs : List Int} {n : Nat} (h : frmT xs n = 0) (h1 : okT (decT xs) = true) (h2 : sameB (encT (decT xs)) xs = false) : rdT xs n = 102 ∧ outT xs n = t0 := by
  have e : rdT xs n = 102 := by unfold rdT; rw [if_neg (by simp [h]), if_pos h1, if_neg (by simp [h2])]
  exact ⟨e, by unfold outT; rw [e]; rfl⟩
theorem rdT_good {xs : List Int} {n : Nat} (h : frmT xs n = 0) (h1 : okT (decT xs) = true) (h2 : sameB (encT (decT xs)) xs = true) : rdT xs n = 0 ∧ outT xs n = decT xs := by
  have e : rdT xs n = 0 := by unfold rdT; rw [if_neg (by simp [h]), if_pos h1, if_pos h2]
  exact ⟨e, by unfold outT; rw [if_pos e]⟩
theorem rdT_4 (xs : List Int) (n : Nat) : rdT xs n = 0 ∨ rdT xs n ∈ S4 := by
  unfold rdT
  split
  · rename_i h
    rcases frmT_4 xs n with h' | h'
    · exact absurd h' h
    · exact .inr h'
  · split
    · split
      · exact .inl rfl
      · exact .inr (by decide)
    · exact .inr (by decide)
theorem low_nat : ∀ n : Nat, n < 256 → bits .and .i64 (n : Int) 1 = (n : Int) % 2 ∧ bits .andNot .i64 (n : Int) 1 = (n : Int) - (n : Int) % 2 := by decide +kernel
theorem low_of (v : Int) (h : 0 ≤ v ∧ v ≤ 255) : bits .and .i64 v 1 = v % 2 ∧ bits .andNot .i64 v 1 = v - v % 2 := by
  obtain ⟨m, rfl⟩ := Int.eq_ofNat_of_zero_le h.1
  exact low_nat m (by omega)
theorem says_len (fst : Int) (ys : List Int) : (says fst ys).length ≤ 8 * ys.length := saysTo_le fst ys _
theorem says_in {fst : Int} {ys : List Int} (h0 : 0 ≤ fst) (h1 : fst ≤ 255) (h2 : ys.length ≤ 1000) : ∀ a ∈ says fst ys, -9223372036854775808 ≤ a ∧ a ≤ 9223372036854775807 := by
  intro a ha
  have := (says_pair fst ys _).2 a ha
  omega
theorem RowB.other {k : IntKind} {w w' : World} {A : Option Addr} {n h4 : Nat} {xs : List Int} (h : RowB k w A n xs) (hne : ∀ b o, A = some ⟨b, o, none⟩ → b ≠ h4) (hw : ∀ b, b ≠ h4 → w'.heap[b]? = w.heap[b]?) : RowB k w' A n xs :=
  ⟨h.len, h.le, h.wf, fun hp => by
    obtain ⟨b, off, e, hc⟩ := h.cells hp
    exact ⟨b, off, e, fun i hi => (World.cell?_of_block (hw b (hne b off e))).trans (hc i hi)⟩⟩
theorem readMap_any (fst : Int) (A : Option Addr) (n c : Nat) (ys : List Int) (w : World) (h : RowB .u8 w A n ys) (hn : n ≤ 1000) (h0 : 0 ≤ fst) (h1 : fst ≤ 255) :
    Calls Tryd.prog 24 #[.int .i64 fst, .slice A n c] w fun e w' => ∃ A' k', e = .returned (.slice A' (says fst ys).length k') ∧ RowB .i64 w' A' (says fst ys).length (says fst ys) ∧ (∀ b o, A' = some ⟨b, o, none⟩ → w.heap.size ≤ b) ∧ Below w.heap.size w w' := by
  have hl := h.len
  refine (readMap_own fst A n c ys w h hn h0 h1).mono ?_
  rintro e w' ⟨v, rfl, hO, hB⟩
  obtain ⟨A', k', rfl, hR⟩ := own_ints hO (by have := says_len fst ys; unfold maxLen; omega) (says_in h0 h1 (by omega))
  exact ⟨A', k', rfl, hR, fun b o e => by subst e; exact (World.ownsRow.lt hO b rfl).1, hB⟩

/-- the Bytes call in one. -/
theorem bytes_all (q : Tm) (A : Option Addr) (n c : Nat) (E : Nat → Addr) (w : World) (h : RowB .i64 w A n q.l) (hS : Sent w E S4) :
    Calls Tryd.prog 9 #[q.val A n c] w fun e w' => ∃ B m k, e = .returned (.tuple #[.slice B m k, errV E (codeB (okT q))]) ∧ RowB .u8 w' B m (outB (okT q) (encT q)) ∧ m ≤ k ∧ Below w.heap.size w w' := by
  cases hok : okT q
  · refine (bytes_no q A n c E w h hok hS).mono ?_
    rintro e w' ⟨rfl, hB⟩
    exact ⟨none, 0, 0, rfl, RowB.nil, Nat.le_refl _, hB⟩
  · refine (bytes_yes q A n c w h hok).mono ?_
    rintro e w' ⟨g, cap, rfl, hO, hB⟩
    exact ⟨_, _, _, rfl, hO.row8 (all_wf (encT_len q) (encT_wf q hok)), hO.cap_le, hB⟩

set_option maxRecDepth 100000 in
set_option maxHeartbeats 8000000 in
theorem read_beg (A : Option Addr) (n c : Nat) (xs : List Int) (E : Nat → Addr) (w : World) (h : RowB .u8 w A n xs) (hS : Sent w E S4) (hb : frmT xs n ≠ 0) :
    Calls Tryd.prog 11 #[.slice A n c] w fun e w' => e = .returned (.tuple #[.agg t0c, errP (E (frmT xs n))]) ∧ Below w.heap.size w w' := by
  have HB := Lib.hid ((Below.refl w.heap.size w).alloc (Nat.le_refl _) (.cells t0c 24))
  have HG := Lib.hid (heap_alloc_last w (.cells t0c 24))
  have HC := Lib.hid (frame_any A n c xs E (w.alloc (.cells t0c 24)) (h.below HB.out) (hS.below HB.out))
  rw [errV_pos E hb] at HC
  generalize E (frmT xs n) = a at *
  clear h hS hb
  go_enter Tryd.func11, Tryd.ntmps11
  go_wp2_with (fail)
  refine HC.out.mono ?_
  rintro e w2 ⟨rfl, rfl⟩
  generalize World.alloc w _ = w1 at *
  go_wp2_with (refine wpList_store_row rfl 24 (.tmp 2) (.tmp 13) rfl w.heap.size t0c rfl rfl 24 t0c HG.out sizeTim rfl (t0.oneCell none 0 0) ?_; rw [setRow_same _ _ _ _ _ HG.out])
  refine bodyPost_ret (v := .tuple #[.agg t0c, errP a]) (results_cell_slot (p := 2) (q := 3) Tryd.results11 _ _ w.heap.size _ t0c _ _ rfl HG.out Tryd.underlying24 rfl sizeTim) rfl ⟨rfl, HB.out⟩
/-- what Read hands back. -/
def OutT (E : Nat → Addr) (xs : List Int) (n : Nat) (w : World) (e : Ending) (w' : World) : Prop := ∃ A' k', e = .returned (.tuple #[(outT xs n).val A' (outT xs n).l.length k', errV E (rdT xs n)]) ∧ RowB .i64 w' A' (outT xs n).l.length (outT xs n).l ∧ Below w.heap.size w w'
theorem OutT.of {E : Nat → Addr} {xs : List Int} {n : Nat} {w : World} {e : Ending} {w' : World} (A' : Option Addr) (k' : Nat) (h1 : e = .returned (.tuple #[(outT xs n).val A' (outT xs n).l.length k', errV E (rdT xs n)])) (h2 : RowB .i64 w' A' (outT xs n).l.length (outT xs n).l) (h3 : Below w.heap.size w w') : OutT E xs n w e w' := ⟨A', k', h1, h2, h3⟩
set_option maxRecDepth 100000 in
set_option maxHeartbeats 8000000 in
theorem read_fit (A : Option Addr) (n c : Nat) (xs : List Int) (E : Nat → Addr) (w : World) (h : RowB .u8 w A n xs) (hS : Sent w E S4) (hnc : n ≤ c) (hb : frmT xs n = 0) :
    Calls Tryd.prog 11 #[.slice A n c] w fun e w' => OutT E xs n w e w' := by
  obtain ⟨b1, b2, b3, b4⟩ := frmT_fine hb
  have hl := h.len
  have x1 := h.wf8 1 (by omega)
  obtain ⟨N, rfl⟩ : ∃ N, n = N + 5 := ⟨n - 5, by omega⟩
  obtain ⟨C, rfl⟩ : ∃ C, c = C + 5 := ⟨c - 5, by omega⟩
  have hN1 : 1 ≤ N := by omega
  have hN2 : N ≤ 252 := by omega
  have hNC : N ≤ C := by omega
  clear b1 b2 b3 b4 x1 hnc
  obtain ⟨b, off, rfl, -⟩ := h.cells (by omega)
  have HR := Lib.hid h
  have HS := Lib.hid hS
  have HB := Lib.hid ((Below.refl w.heap.size w).alloc (Nat.le_refl _) (.cells t0c 24))
  have HG := Lib.hid (heap_alloc_last w (.cells t0c 24))
  have HC := Lib.hid (frame_any (some ⟨b, off, none⟩) (N + 5) (C + 5) xs E (w.alloc (.cells t0c 24)) (h.below HB.out) (hS.below HB.out))
  rw [hb, errV_zero] at HC
  have HD := Lib.hid (show decT xs = ⟨xs.getD 2 0, xs.getD 3 0, xs.getD 4 0 % 2 != 0, says (xs.getD 4 0 - xs.getD 4 0 % 2) (xs.drop 5)⟩ from rfl)
  have HNO := Lib.hid (fun h1 => rdT_no (n := N + 5) hb h1)
  have HBAD := Lib.hid (fun h1 h2 => rdT_bad (n := N + 5) hb h1 h2)
  have HGOOD := Lib.hid (fun h1 h2 => rdT_good (n := N + 5) hb h1 h2)
  have W4 := Lib.hid (h.wf8 4 (by omega))
  have W2 := Lib.hid (h.wf8 2 (by omega))
  have W3 := Lib.hid (h.wf8 3 (by omega))
  have HX := Lib.hid (low_of _ W4.out)
  have HQ2 := Lib.hid (fun (w' : World) (hB : Below w.heap.size w w') => (h.below hB).at_ 2 (by omega))
  have HQ3 := Lib.hid (fun (w' : World) (hB : Below w.heap.size w w') => (h.below hB).at_ 3 (by omega))
  have HQ4 := Lib.hid (fun (w' : World) (hB : Below w.heap.size w w') => (h.below hB).at_ 4 (by omega))
  have HM := Lib.hid (fun (w' : World) (hB : Below w.heap.size w w') => readMap_any (xs.getD 4 0 - xs.getD 4 0 % 2) (some ⟨b, off + 5, none⟩) N C (xs.drop 5) w' (by have := drop_row (h.below hB) 5 (by omega); simpa using this) (by omega) (by have := W4.out; omega) (by have := W4.out; omega))
  have HLL := Lib.hid (show (says (xs.getD 4 0 - xs.getD 4 0 % 2) (xs.drop 5)).length ≤ 8 * N by have := says_len (xs.getD 4 0 - xs.getD 4 0 % 2) (xs.drop 5); rw [List.length_drop] at this; omega)
  generalize hL : says (xs.getD 4 0 - xs.getD 4 0 % 2) (xs.drop 5) = L at *
  generalize xs.getD 2 0 = v2 at *
  generalize xs.getD 3 0 = v3 at *
  generalize xs.getD 4 0 = v4 at *
  obtain ⟨hx1, hx2⟩ := HX.out
  have y2 : IntKind.i64.wrap v2 = v2 := IntWalk.i64_in _ ⟨by have := W2.out; omega, by have := W2.out; omega⟩
  have y3 : IntKind.i64.wrap v3 = v3 := IntWalk.i64_in _ ⟨by have := W3.out; omega, by have := W3.out; omega⟩
  have he0 := HS.out.at_ 102 (by decide)
  simp only [gOf] at he0
  have HE0 := Lib.hid he0
  clear he0
  generalize hF : v4 - v4 % 2 = F at *
  have hv4 := W4.out
  clear h hS hb hL hF HX hl
  go_enter Tryd.func11, Tryd.ntmps11
  go_wp2_with (fail)
  refine HC.out.mono ?_
  rintro e w2 ⟨rfl, rfl⟩
  generalize World.alloc w _ = w1 at *
  clear HC
  have c4 := HQ4.out w1 HB.out
  have hi4 : (4 : Int) < ((N + 5 : Nat) : Int) := by omega
  have hi2 : (2 : Int) < ((N + 5 : Nat) : Int) := by omega
  have hi3 : (3 : Int) < ((N + 5 : Nat) : Int) := by omega
  have hi5 : (5 : Int) ≤ ((N + 5 : Nat) : Int) := by omega
  have hi6 : ((N + 5 : Nat) : Int) ≤ ((C + 5 : Nat) : Int) := by omega
  have hj4 : (4 : Int) < (N : Int) + 5 := by omega
  have hj2 : (2 : Int) < (N : Int) + 5 := by omega
  have hj3 : (3 : Int) < (N : Int) + 5 := by omega
  have hj5 : (5 : Int) ≤ (N : Int) + 5 := by omega
  have hj6 : (N : Int) + 5 ≤ (C : Int) + 5 := by omega
  have d5 : (C = 0) = False := by simp; omega
  have d6 : (C + 5 = 5) = False := by simp; omega
  have n5 : N + 5 - 5 = N := by omega
  have n6 : C + 5 - 5 = C := by omega
  go_wp2
  refine wp_region_held_drew (S := fun w' => Below w1.heap.size w1 w') (by kernel_rfl) (Below.refl _ _).drew (fun hHeld => ?_)
  have HQ2' := Lib.hid (fun (w' : World) (hB : Below w1.heap.size w1 w') => HQ2.out w' (HB.out.trans (hB.mono HB.out.size)))
  have HQ3' := Lib.hid (fun (w' : World) (hB : Below w1.heap.size w1 w') => HQ3.out w' (HB.out.trans (hB.mono HB.out.size)))
  have HM' := Lib.hid (fun (w' : World) (hB : Below w1.heap.size w1 w') => HM.out w' (HB.out.trans (hB.mono HB.out.size)))
  clear c4 HQ2 HQ3 HQ4 HM
  generalize World.drew w1 = w2 at *
  have HB2 := Lib.hid hHeld
  have HSZ := Lib.hid (lt_blk HG.out)
  refine wpAnyH_take (i := 0) (v := ?_) rfl (by kernel_rfl) (by kernel_rfl) (by kernel_rfl) (fun _ _ _ h => h) (Or.inl ⟨by rfl, ?_⟩) (by assumption) ?_
  rotate_left
  · intro w hSw
    clear hSw
    go_simp
    try with_reducible rfl
  try simp only [Act.put, List.getElem_toArray, List.getElem_cons_zero, List.getElem_cons_succ, List.setIfInBounds_toArray, List.set_cons_zero, List.set_cons_succ]
  refine wpAnyH_take (i := 1) (v := ?_) rfl (by kernel_rfl) (by kernel_rfl) (by kernel_rfl) (fun _ _ _ h => h) (Or.inl ⟨by rfl, ?_⟩) (by assumption) ?_
  rotate_left
  · intro w hSw
    clear hSw
    go_simp
    try with_reducible rfl
  try simp only [Act.put, List.getElem_toArray, List.getElem_cons_zero, List.getElem_cons_succ, List.setIfInBounds_toArray, List.set_cons_zero, List.set_cons_succ]
  refine wpAnyH_take (i := 2) (v := ?_) rfl (by kernel_rfl) (by kernel_rfl) (by kernel_rfl) (fun _ _ _ h => h) (Or.inl ⟨by rfl, ?_⟩) (by assumption) ?_
  rotate_left
  · intro w hSw
    have c := HQ2'.out w hSw
    clear hSw
    go_simp
    try with_reducible rfl
  try simp only [Act.put, List.getElem_toArray, List.getElem_cons_zero, List.getElem_cons_succ, List.setIfInBounds_toArray, List.set_cons_zero, List.set_cons_succ]
  refine wpAnyH_take (i := 3) (v := ?_) rfl (by kernel_rfl) (by kernel_rfl) (by kernel_rfl) (fun _ _ _ h => h) (Or.inl ⟨by rfl, ?_⟩) (by assumption) ?_
  rotate_left
  · intro w hSw
    clear hSw
    go_simp
    try with_reducible rfl
  try simp only [Act.put, List.getElem_toArray, List.getElem_cons_zero, List.getElem_cons_succ, List.setIfInBounds_toArray, List.set_cons_zero, List.set_cons_succ]
  refine wpAnyH_take (i := 4) (v := ?_) rfl (by kernel_rfl) (by kernel_rfl) (by kernel_rfl) (fun _ _ _ h => h) (Or.inl ⟨by rfl, ?_⟩) (by assumption) ?_
  rotate_left
  · intro w hSw
    clear hSw
    go_simp
    try with_reducible rfl
  try simp only [Act.put, List.getElem_toArray, List.getElem_cons_zero, List.getElem_cons_succ, List.setIfInBounds_toArray, List.set_cons_zero, List.set_cons_succ]
  refine wpAnyH_take (i := 5) (v := ?_) rfl (by kernel_rfl) (by kernel_rfl) (by kernel_rfl) (fun _ _ _ h => h) (Or.inl ⟨by rfl, ?_⟩) (by assumption) ?_
  rotate_left
  · intro w hSw
    clear hSw
    go_simp
    try with_reducible rfl
  try simp only [Act.put, List.getElem_toArray, List.getElem_cons_zero, List.getElem_cons_succ, List.setIfInBounds_toArray, List.set_cons_zero, List.set_cons_succ]
  refine wpAnyH_take (i := 6) (v := ?_) rfl (by kernel_rfl) (by kernel_rfl) (by kernel_rfl) (fun _ _ _ h => h) (Or.inl ⟨by rfl, ?_⟩) (by assumption) ?_
  rotate_left
  · intro w hSw
    have c := HQ3'.out w hSw
    clear hSw
    go_simp
    try with_reducible rfl
  try simp only [Act.put, List.getElem_toArray, List.getElem_cons_zero, List.getElem_cons_succ, List.setIfInBounds_toArray, List.set_cons_zero, List.set_cons_succ]
  refine wpAnyH_take (i := 7) (v := ?_) rfl (by kernel_rfl) (by kernel_rfl) (by kernel_rfl) (fun _ _ _ h => h) (Or.inl ⟨by rfl, ?_⟩) (by assumption) ?_
  rotate_left
  · intro w hSw
    clear hSw
    go_simp
    try with_reducible rfl
  try simp only [Act.put, List.getElem_toArray, List.getElem_cons_zero, List.getElem_cons_succ, List.setIfInBounds_toArray, List.set_cons_zero, List.set_cons_succ]
  refine wpAnyH_take (i := 8) (v := ?_) rfl (by kernel_rfl) (by kernel_rfl) (by kernel_rfl) (fun _ _ _ h => h) (Or.inl ⟨by rfl, ?_⟩) (by assumption) ?_
  rotate_left
  · intro w hSw
    clear hSw
    go_simp
    try with_reducible rfl
  try simp only [Act.put, List.getElem_toArray, List.getElem_cons_zero, List.getElem_cons_succ, List.setIfInBounds_toArray, List.set_cons_zero, List.set_cons_succ]
  refine wpAnyH_take (i := 9) (v := ?_) rfl (by kernel_rfl) (by kernel_rfl) (by kernel_rfl) (fun _ _ _ h => h) (Or.inl ⟨by rfl, ?_⟩) (by assumption) ?_
  rotate_left
  · intro w hSw
    clear hSw
    go_simp
    try with_reducible rfl
  try simp only [Act.put, List.getElem_toArray, List.getElem_cons_zero, List.getElem_cons_succ, List.setIfInBounds_toArray, List.set_cons_zero, List.set_cons_succ]
  refine wpAnyH_take (i := 10) (v := ?_) rfl (by kernel_rfl) (by kernel_rfl) (by kernel_rfl) (fun _ _ _ h => h) (Or.inl ⟨by rfl, ?_⟩) (by assumption) ?_
  rotate_left
  · intro w hSw
    clear hSw
    go_simp
    try with_reducible rfl
  try simp only [Act.put, List.getElem_toArray, List.getElem_cons_zero, List.getElem_cons_succ, List.setIfInBounds_toArray, List.set_cons_zero, List.set_cons_succ]
  refine wpAnyH_take (i := 11) (v := ?_) rfl (by kernel_rfl) (by kernel_rfl) (by kernel_rfl) (fun _ _ _ h => h) (Or.inl ⟨by rfl, ?_⟩) (by assumption) ?_
  rotate_left
  · intro w hSw
    clear hSw
    go_simp
    try with_reducible rfl
  try simp only [Act.put, List.getElem_toArray, List.getElem_cons_zero, List.getElem_cons_succ, List.setIfInBounds_toArray, List.set_cons_zero, List.set_cons_succ]
  refine wpAnyH_take (i := 12) (v := ?_) rfl (by kernel_rfl) (by kernel_rfl) (by kernel_rfl) (fun _ _ _ h => h) (Or.inl ⟨by rfl, ?_⟩) (by assumption) ?_
  rotate_left
  · intro w hSw
    clear hSw
    go_simp
    try with_reducible rfl
  try simp only [Act.put, List.getElem_toArray, List.getElem_cons_zero, List.getElem_cons_succ, List.setIfInBounds_toArray, List.set_cons_zero, List.set_cons_succ]
  refine wpAnyH_take (i := 13) (v := ?_) rfl (by kernel_rfl) (by kernel_rfl) (by kernel_rfl) (fun _ _ _ h => h) (Or.inl ⟨by rfl, ?_⟩) (by assumption) ?_
  rotate_left
  · intro w hSw
    clear hSw
    go_simp
    try with_reducible rfl
  try simp only [Act.put, List.getElem_toArray, List.getElem_cons_zero, List.getElem_cons_succ, List.setIfInBounds_toArray, List.set_cons_zero, List.set_cons_succ]
  refine wpAnyH_take (i := 14) (v := ?_) rfl (by kernel_rfl) (by kernel_rfl) (by kernel_rfl) (fun _ _ _ h => h) (Or.inl ⟨by rfl, ?_⟩) (by assumption) ?_
  rotate_left
  · intro w hSw
    clear hSw
    go_simp
    try with_reducible rfl
  try simp only [Act.put, List.getElem_toArray, List.getElem_cons_zero, List.getElem_cons_succ, List.setIfInBounds_toArray, List.set_cons_zero, List.set_cons_succ]
  refine wpAnyH_ready (rs := [15, 17]) (by kernel_rfl) (by simp) ?_
  refine AllReadyH.cons rfl (fun K hK => ?_) (AllReadyH.cons rfl (fun K hK => ?_) AllReadyH.nil)
  · go_simp
    refine (HM'.out _ HB2.out).mono ?_
    rintro e' w31 ⟨A', k', rfl, hR, hA, hb⟩
    have HR31 := Lib.hid hR
    have HA31 := Lib.hid hA
    have HB31 := Lib.hid (HB2.out.trans (hb.mono HB2.out.size))
    have HK31 := Lib.hid hb
    clear hb hHeld hR hA
    refine hK.out _ _ HB31.out (fun hHeld => ?_)
    clear hK K
    try simp only [Act.put, List.getElem_toArray, List.getElem_cons_zero, List.getElem_cons_succ, List.setIfInBounds_toArray, List.set_cons_zero, List.set_cons_succ]
    refine wpAnyH_take (i := 16) (v := .agg ((Tm.mk v2 v3 (v4 % 2 != 0) L).cells A' L.length k')) rfl (by kernel_rfl) (by kernel_rfl) (by kernel_rfl) (fun _ _ _ h => h) (Or.inl ⟨by rfl, ?_⟩) (by assumption) ?_
    · intro w hSw
      clear hSw
      go_simp
    try simp only [Act.put, List.getElem_toArray, List.getElem_cons_zero, List.getElem_cons_succ, List.setIfInBounds_toArray, List.set_cons_zero, List.set_cons_succ]
    refine wpAnyH_ready (rs := [17]) (by kernel_rfl) (by simp) ?_
    refine AllReadyH.cons rfl (fun K hK => ?_) AllReadyH.nil
    have HZ39 := Lib.hid (heap_alloc_last w31 (.cells t0c 24))
    have HB39 := Lib.hid (HB31.out.alloc HB31.out.size (.cells t0c 24))
    have HE39 := Lib.hid (show w31.heap.size < (w31.alloc (.cells t0c 24)).heap.size by simp)
    have HK39 := Lib.hid ((Below.refl w31.heap.size w31).alloc (Nat.le_refl _) (.cells t0c 24))
    have HGE := Lib.hid HB31.out.size
    clear hHeld
    go_simp
    refine hK.out _ _ HB39.out (fun hHeld => ?_)
    clear hK K
    dsimp only [t0c, t0, Tm.cells] at HZ39 HB39 HE39 HK39 hHeld
    generalize World.alloc w31 _ = w39 at *
    try simp only [Act.put, List.getElem_toArray, List.getElem_cons_zero, List.getElem_cons_succ, List.setIfInBounds_toArray, List.set_cons_zero, List.set_cons_succ]
    have HQE := Lib.hid (Nat.le_refl w31.heap.size)
    obtain ⟨h4, hh4⟩ : ∃ h4, h4 = w31.heap.size := ⟨_, rfl⟩
    rw [← hh4] at HZ39 HE39 HGE ⊢
    have HQE := Lib.hid (show w31.heap.size ≤ h4 by omega)
    clear hh4
    refine wpAnyH_ready (rs := [18]) (by kernel_rfl) (by simp) ?_
    refine AllReadyH.cons rfl (fun K hK => ?_) AllReadyH.nil
    rw [if_pos (by rfl)]
    refine wp_store_row _ _ _ rfl _ ((Tm.mk v2 v3 (v4 % 2 != 0) L).cells A' L.length k') rfl rfl 24 t0c HZ39.out sizeTim rfl (Tm.oneCell _ _ _ _) ?_
    have HBZ := Lib.hid (below_setRow HB39.out HGE.out ((Tm.mk v2 v3 (v4 % 2 != 0) L).cells A' L.length k'))
    have HFZ := Lib.hid (setRow_heap _ _ _ ((Tm.mk v2 v3 (v4 % 2 != 0) L).cells A' L.length k') _ _ HZ39.out)
    have HRZ := Lib.hid (HR31.out.below (below_setRow HK39.out HQE.out ((Tm.mk v2 v3 (v4 % 2 != 0) L).cells A' L.length k')))
    have HAZ := Lib.hid (show ∀ b o, A' = some ⟨b, o, none⟩ → w1.heap.size ≤ b from fun b o e => Nat.le_trans HB2.out.size (HA31.out b o e))
    clear hHeld
    refine hK.out _ _ HBZ.out (fun hHeld => ?_)
    clear hK K hHeld
    refine wpAnyH_done (by kernel_rfl) ?_ _
    try simp only [Act.put, List.getElem_toArray, List.getElem_cons_zero, List.getElem_cons_succ, List.setIfInBounds_toArray, List.set_cons_zero, List.set_cons_succ]
    generalize World.setRow _ _ _ = w5 at *
    have T0 := Lib.hid (HB.out.trans (HBZ.out.mono HB.out.size))
    have T1 := Lib.hid ((HBZ.out.block _ (lt_blk HG.out)).trans HG.out)
    have HLh := Lib.hid (Nat.lt_of_lt_of_le (lt_blk HG.out) HGE.out)
    clear HB HG HBZ HGE HM' HQ2' HQ3' HB2
    have HB := T0
    have HG := T1
    clear T0 T1
    go_wp2_with (refine wpList_load_row rfl 24 (.tmp 6) rfl h4 rfl 24 ((Tm.mk v2 v3 (v4 % 2 != 0) L).cells A' L.length k') (0, 0) _ HFZ.out Tryd.underlying24 rfl sizeTim ?_)
    cases hok : okT (Tm.mk v2 v3 (v4 % 2 != 0) L)
    · refine (bytes_no (Tm.mk v2 v3 (v4 % 2 != 0) L) A' L.length k' E w5 HRZ.out hok (HS.out.below HB.out)).mono ?_
      rintro e w8 ⟨rfl, hB⟩
      have T0 := Lib.hid (HB.out.trans (hB.mono HB.out.size))
      have T1 := Lib.hid ((hB.block _ (lt_blk HG.out)).trans HG.out)
      clear hB HFZ HB HG
      have HB := T0
      have HG := T1
      clear T0 T1
      have HEQ := Lib.hid (HNO.out (by rw [HD.out]; exact hok))
      generalize hE3 : E 103 = a3 at *
      have HE3 := Lib.hid hE3
      clear hE3
      go_wp2_with (refine wpList_store_row rfl 24 (.tmp 2) (.tmp 43) rfl w.heap.size t0c rfl rfl 24 t0c HG.out sizeTim rfl (t0.oneCell none 0 0) ?_; rw [setRow_same _ _ _ _ _ HG.out])
      refine bodyPost_ret (v := .tuple #[.agg t0c, errP a3]) (results_cell_slot (p := 2) (q := 3) Tryd.results11 _ _ w.heap.size _ t0c _ _ rfl HG.out Tryd.underlying24 rfl sizeTim) rfl (OutT.of none 0 (by rw [HEQ.out.1, HEQ.out.2, ← HE3.out]; rfl) (by rw [HEQ.out.2]; exact RowB.nil) HB.out)
    · refine (bytes_yes (Tm.mk v2 v3 (v4 % 2 != 0) L) A' L.length k' w5 HRZ.out hok).mono ?_
      rintro e w8 ⟨g, cap, rfl, hO, hB⟩
      have HY := Lib.hid (hO.row8 (all_wf (encT_len _) (encT_wf _ hok)))
      have T0 := Lib.hid (HB.out.trans (hB.mono HB.out.size))
      have T1 := Lib.hid ((hB.block _ (lt_blk HG.out)).trans HG.out)
      have T2 := Lib.hid ((hB.block _ (lt_blk HFZ.out)).trans HFZ.out)
      have T3 := Lib.hid (HRZ.out.below hB)
      clear hB hO HB HG HFZ HRZ
      have HB := T0
      have HG := T1
      have HF := T2
      have HRZ := T3
      clear T0 T1 T2 T3
      go_wp2_with (fail)
      refine (equal_any g 0 (lenB L + 5) cap b off (N + 5) (C + 5) (encT (Tm.mk v2 v3 (v4 % 2 != 0) L)) xs w8 HY.out (HR.out.below HB.out) (by omega) (by omega)).mono ?_
      rintro e w9 ⟨rfl, rfl⟩
      cases hsm : sameB (encT (Tm.mk v2 v3 (v4 % 2 != 0) L)) xs
      · have HEQ := Lib.hid (HBAD.out (by rw [HD.out]; exact hok) (by rw [HD.out]; exact hsm))
        have he := below_at HB.out HE0.out
        clear HF HRZ HY
        generalize hE2 : E 102 = a at *
        have HE2 := Lib.hid hE2
        clear hE2
        go_wp2
        refine wp_region_held_drew (S := fun w' => w' = w8.drew) (by kernel_rfl) rfl (fun hHeld => ?_)
        refine wpAnyH_take (i := 0) (v := .agg t0c) rfl (by kernel_rfl) (by kernel_rfl) (by kernel_rfl) (fun _ _ _ h => h) (Or.inl ⟨by rfl, ?_⟩) (by assumption) ?_
        · intro w hSw
          go_simp
        refine wpAnyH_take (i := 1) (v := errP a) rfl (by kernel_rfl) (by kernel_rfl) (by kernel_rfl) (fun _ _ _ h => h) (Or.inl ⟨by rfl, ?_⟩) (by assumption) ?_
        · rintro w rfl
          go_simp
        refine wpAnyH_ready (rs := [2]) (by kernel_rfl) (by simp) ?_
        refine AllReadyH.cons rfl (fun K hK => ?_) AllReadyH.nil
        rw [if_pos (by rfl)]
        refine wp_store_row _ _ _ rfl w.heap.size t0c rfl rfl _ t0c HG.out sizeTim rfl (t0.oneCell none 0 0) ?_
        rw [setRow_same _ _ _ _ _ (show w8.drew.heap[w.heap.size]? = _ from HG.out)]
        refine hK.out _ _ rfl (fun hHeld => ?_)
        refine wpAnyH_take (i := 3) (v := errP a) rfl (by kernel_rfl) (by kernel_rfl) (by kernel_rfl) (fun _ _ _ h => h) (Or.inl ⟨by rfl, ?_⟩) (by assumption) ?_
        · rintro w rfl
          go_simp
        refine wpAnyH_done (by kernel_rfl) ?_ _
        simp only [Act.put, List.setIfInBounds_toArray, List.set_cons_zero, List.set_cons_succ]
        go_wp2
        refine bodyPost_ret (v := .tuple #[.agg t0c, errP a]) (results_cell_slot (p := 2) (q := 3) Tryd.results11 _ _ w.heap.size _ t0c _ _ rfl (show w8.drew.heap[w.heap.size]? = _ from HG.out) Tryd.underlying24 rfl sizeTim) rfl (OutT.of none 0 (by rw [HEQ.out.1, HEQ.out.2, ← HE2.out]; rfl) (by rw [HEQ.out.2]; exact RowB.nil) HB.out.drew)
      · have HEQ := Lib.hid (HGOOD.out (by rw [HD.out]; exact hok) (by rw [HD.out]; exact hsm))
        rw [HD.out] at HEQ
        have HNE := Lib.hid (show ∀ b o, A' = some ⟨b, o, none⟩ → b ≠ w.heap.size from fun b o e => by have := HAZ.out b o e; have := HSZ.out; omega)
        go_wp2_with (first | (refine wpList_load_row rfl 24 (.tmp 6) rfl h4 rfl 24 ((Tm.mk v2 v3 (v4 % 2 != 0) L).cells A' L.length k') (0, 0) _ HF.out Tryd.underlying24 rfl sizeTim ?_) | (refine wpList_store_row rfl 24 (.tmp 2) (.tmp 51) rfl w.heap.size ((Tm.mk v2 v3 (v4 % 2 != 0) L).cells A' L.length k') rfl rfl 24 t0c HG.out sizeTim rfl (Tm.oneCell _ _ _ _) ?_))
        have HGz := Lib.hid (setRow_heap w8 w.heap.size t0c ((Tm.mk v2 v3 (v4 % 2 != 0) L).cells A' L.length k') 24 (0, 0) HG.out)
        have HRN := Lib.hid (HRZ.out.other (w' := w8.setRow w.heap.size ((Tm.mk v2 v3 (v4 % 2 != 0) L).cells A' L.length k')) HNE.out (fun b hb => setRow_other w8 w.heap.size b _ hb))
        refine bodyPost_ret (v := .tuple #[.agg ((Tm.mk v2 v3 (v4 % 2 != 0) L).cells A' L.length k'), .nilIface]) (results_cell_slot (p := 2) (q := 3) Tryd.results11 _ _ w.heap.size _ ((Tm.mk v2 v3 (v4 % 2 != 0) L).cells A' L.length k') _ _ rfl HGz.out Tryd.underlying24 rfl sizeTim) rfl (OutT.of A' k' (by rw [HEQ.out.1, HEQ.out.2]; rfl) (by rw [HEQ.out.2]; exact HRN.out) (below_setRow HB.out (Nat.le_refl _) _))
  · have HZ38 := Lib.hid (heap_alloc_last w2 (.cells t0c 24))
    have HB38 := Lib.hid (HB2.out.alloc HB2.out.size (.cells t0c 24))
    have HE38 := Lib.hid (show w2.heap.size < (w2.alloc (.cells t0c 24)).heap.size by simp)
    have HK38 := Lib.hid ((Below.refl w2.heap.size w2).alloc (Nat.le_refl _) (.cells t0c 24))
    have HGE := Lib.hid HB2.out.size
    clear hHeld
    go_simp
    refine hK.out _ _ HB38.out (fun hHeld => ?_)
    clear hK K
    dsimp only [t0c, t0, Tm.cells] at HZ38 HB38 HE38 HK38 hHeld
    generalize World.alloc w2 _ = w38 at *
    try simp only [Act.put, List.getElem_toArray, List.getElem_cons_zero, List.getElem_cons_succ, List.setIfInBounds_toArray, List.set_cons_zero, List.set_cons_succ]
    generalize w2.heap.size = h4 at *
    refine wpAnyH_ready (rs := [15]) (by kernel_rfl) (by simp) ?_
    refine AllReadyH.cons rfl (fun K hK => ?_) AllReadyH.nil
    go_simp
    refine (HM'.out _ HB38.out).mono ?_
    rintro e' w39 ⟨A', k', rfl, hR, hA, hb⟩
    have HR39 := Lib.hid hR
    have HA39 := Lib.hid hA
    have HB39 := Lib.hid (HB38.out.trans (hb.mono HB38.out.size))
    have HK39 := Lib.hid hb
    clear hb hHeld hR hA
    refine hK.out _ _ HB39.out (fun hHeld => ?_)
    clear hK K
    try simp only [Act.put, List.getElem_toArray, List.getElem_cons_zero, List.getElem_cons_succ, List.setIfInBounds_toArray, List.set_cons_zero, List.set_cons_succ]
    refine wpAnyH_take (i := 16) (v := .agg ((Tm.mk v2 v3 (v4 % 2 != 0) L).cells A' L.length k')) rfl (by kernel_rfl) (by kernel_rfl) (by kernel_rfl) (fun _ _ _ h => h) (Or.inl ⟨by rfl, ?_⟩) (by assumption) ?_
    · intro w hSw
      clear hSw
      go_simp
    try simp only [Act.put, List.getElem_toArray, List.getElem_cons_zero, List.getElem_cons_succ, List.setIfInBounds_toArray, List.set_cons_zero, List.set_cons_succ]
    have HZ39 := Lib.hid ((HK39.out.block h4 HE38.out).trans HZ38.out)
    have HNE4 := Lib.hid (show ∀ b o, A' = some ⟨b, o, none⟩ → b ≠ h4 from fun b o e => by have := HA39.out b o e; have := HE38.out; omega)
    refine wpAnyH_ready (rs := [18]) (by kernel_rfl) (by simp) ?_
    refine AllReadyH.cons rfl (fun K hK => ?_) AllReadyH.nil
    rw [if_pos (by rfl)]
    refine wp_store_row _ _ _ rfl _ ((Tm.mk v2 v3 (v4 % 2 != 0) L).cells A' L.length k') rfl rfl 24 t0c HZ39.out sizeTim rfl (Tm.oneCell _ _ _ _) ?_
    have HBZ := Lib.hid (below_setRow HB39.out HGE.out ((Tm.mk v2 v3 (v4 % 2 != 0) L).cells A' L.length k'))
    have HFZ := Lib.hid (setRow_heap _ _ _ ((Tm.mk v2 v3 (v4 % 2 != 0) L).cells A' L.length k') _ _ HZ39.out)
    have HRZ := Lib.hid (HR39.out.other (w' := World.setRow _ h4 ((Tm.mk v2 v3 (v4 % 2 != 0) L).cells A' L.length k')) HNE4.out (fun b hb => setRow_other w39 h4 b _ hb))
    have HAZ := Lib.hid (show ∀ b o, A' = some ⟨b, o, none⟩ → w1.heap.size ≤ b from fun b o e => Nat.le_trans HB38.out.size (HA39.out b o e))
    clear hHeld
    refine hK.out _ _ HBZ.out (fun hHeld => ?_)
    clear hK K hHeld
    refine wpAnyH_done (by kernel_rfl) ?_ _
    try simp only [Act.put, List.getElem_toArray, List.getElem_cons_zero, List.getElem_cons_succ, List.setIfInBounds_toArray, List.set_cons_zero, List.set_cons_succ]
    generalize World.setRow _ _ _ = w5 at *
    have T0 := Lib.hid (HB.out.trans (HBZ.out.mono HB.out.size))
    have T1 := Lib.hid ((HBZ.out.block _ (lt_blk HG.out)).trans HG.out)
    have HLh := Lib.hid (Nat.lt_of_lt_of_le (lt_blk HG.out) HGE.out)
    clear HB HG HBZ HGE HM' HQ2' HQ3' HB2
    have HB := T0
    have HG := T1
    clear T0 T1
    go_wp2_with (refine wpList_load_row rfl 24 (.tmp 6) rfl h4 rfl 24 ((Tm.mk v2 v3 (v4 % 2 != 0) L).cells A' L.length k') (0, 0) _ HFZ.out Tryd.underlying24 rfl sizeTim ?_)
    cases hok : okT (Tm.mk v2 v3 (v4 % 2 != 0) L)
    · refine (bytes_no (Tm.mk v2 v3 (v4 % 2 != 0) L) A' L.length k' E w5 HRZ.out hok (HS.out.below HB.out)).mono ?_
      rintro e w8 ⟨rfl, hB⟩
      have T0 := Lib.hid (HB.out.trans (hB.mono HB.out.size))
      have T1 := Lib.hid ((hB.block _ (lt_blk HG.out)).trans HG.out)
      clear hB HFZ HB HG
      have HB := T0
      have HG := T1
      clear T0 T1
      have HEQ := Lib.hid (HNO.out (by rw [HD.out]; exact hok))
      generalize hE3 : E 103 = a3 at *
      have HE3 := Lib.hid hE3
      clear hE3
      go_wp2_with (refine wpList_store_row rfl 24 (.tmp 2) (.tmp 43) rfl w.heap.size t0c rfl rfl 24 t0c HG.out sizeTim rfl (t0.oneCell none 0 0) ?_; rw [setRow_same _ _ _ _ _ HG.out])
      refine bodyPost_ret (v := .tuple #[.agg t0c, errP a3]) (results_cell_slot (p := 2) (q := 3) Tryd.results11 _ _ w.heap.size _ t0c _ _ rfl HG.out Tryd.underlying24 rfl sizeTim) rfl (OutT.of none 0 (by rw [HEQ.out.1, HEQ.out.2, ← HE3.out]; rfl) (by rw [HEQ.out.2]; exact RowB.nil) HB.out)
    · refine (bytes_yes (Tm.mk v2 v3 (v4 % 2 != 0) L) A' L.length k' w5 HRZ.out hok).mono ?_
      rintro e w8 ⟨g, cap, rfl, hO, hB⟩
      have HY := Lib.hid (hO.row8 (all_wf (encT_len _) (encT_wf _ hok)))
      have T0 := Lib.hid (HB.out.trans (hB.mono HB.out.size))
      have T1 := Lib.hid ((hB.block _ (lt_blk HG.out)).trans HG.out)
      have T2 := Lib.hid ((hB.block _ (lt_blk HFZ.out)).trans HFZ.out)
      have T3 := Lib.hid (HRZ.out.below hB)
      clear hB hO HB HG HFZ HRZ
      have HB := T0
      have HG := T1
      have HF := T2
      have HRZ := T3
      clear T0 T1 T2 T3
      go_wp2_with (fail)
      refine (equal_any g 0 (lenB L + 5) cap b off (N + 5) (C + 5) (encT (Tm.mk v2 v3 (v4 % 2 != 0) L)) xs w8 HY.out (HR.out.below HB.out) (by omega) (by omega)).mono ?_
      rintro e w9 ⟨rfl, rfl⟩
      cases hsm : sameB (encT (Tm.mk v2 v3 (v4 % 2 != 0) L)) xs
      · have HEQ := Lib.hid (HBAD.out (by rw [HD.out]; exact hok) (by rw [HD.out]; exact hsm))
        have he := below_at HB.out HE0.out
        clear HF HRZ HY
        generalize hE2 : E 102 = a at *
        have HE2 := Lib.hid hE2
        clear hE2
        go_wp2
        refine wp_region_held_drew (S := fun w' => w' = w8.drew) (by kernel_rfl) rfl (fun hHeld => ?_)
        refine wpAnyH_take (i := 0) (v := .agg t0c) rfl (by kernel_rfl) (by kernel_rfl) (by kernel_rfl) (fun _ _ _ h => h) (Or.inl ⟨by rfl, ?_⟩) (by assumption) ?_
        · intro w hSw
          go_simp
        refine wpAnyH_take (i := 1) (v := errP a) rfl (by kernel_rfl) (by kernel_rfl) (by kernel_rfl) (fun _ _ _ h => h) (Or.inl ⟨by rfl, ?_⟩) (by assumption) ?_
        · rintro w rfl
          go_simp
        refine wpAnyH_ready (rs := [2]) (by kernel_rfl) (by simp) ?_
        refine AllReadyH.cons rfl (fun K hK => ?_) AllReadyH.nil
        rw [if_pos (by rfl)]
        refine wp_store_row _ _ _ rfl w.heap.size t0c rfl rfl _ t0c HG.out sizeTim rfl (t0.oneCell none 0 0) ?_
        rw [setRow_same _ _ _ _ _ (show w8.drew.heap[w.heap.size]? = _ from HG.out)]
        refine hK.out _ _ rfl (fun hHeld => ?_)
        refine wpAnyH_take (i := 3) (v := errP a) rfl (by kernel_rfl) (by kernel_rfl) (by kernel_rfl) (fun _ _ _ h => h) (Or.inl ⟨by rfl, ?_⟩) (by assumption) ?_
        · rintro w rfl
          go_simp
        refine wpAnyH_done (by kernel_rfl) ?_ _
        simp only [Act.put, List.setIfInBounds_toArray, List.set_cons_zero, List.set_cons_succ]
        go_wp2
        refine bodyPost_ret (v := .tuple #[.agg t0c, errP a]) (results_cell_slot (p := 2) (q := 3) Tryd.results11 _ _ w.heap.size _ t0c _ _ rfl (show w8.drew.heap[w.heap.size]? = _ from HG.out) Tryd.underlying24 rfl sizeTim) rfl (OutT.of none 0 (by rw [HEQ.out.1, HEQ.out.2, ← HE2.out]; rfl) (by rw [HEQ.out.2]; exact RowB.nil) HB.out.drew)
      · have HEQ := Lib.hid (HGOOD.out (by rw [HD.out]; exact hok) (by rw [HD.out]; exact hsm))
        rw [HD.out] at HEQ
        have HNE := Lib.hid (show ∀ b o, A' = some ⟨b, o, none⟩ → b ≠ w.heap.size from fun b o e => by have := HAZ.out b o e; have := HSZ.out; omega)
        go_wp2_with (first | (refine wpList_load_row rfl 24 (.tmp 6) rfl h4 rfl 24 ((Tm.mk v2 v3 (v4 % 2 != 0) L).cells A' L.length k') (0, 0) _ HF.out Tryd.underlying24 rfl sizeTim ?_) | (refine wpList_store_row rfl 24 (.tmp 2) (.tmp 51) rfl w.heap.size ((Tm.mk v2 v3 (v4 % 2 != 0) L).cells A' L.length k') rfl rfl 24 t0c HG.out sizeTim rfl (Tm.oneCell _ _ _ _) ?_))
        have HGz := Lib.hid (setRow_heap w8 w.heap.size t0c ((Tm.mk v2 v3 (v4 % 2 != 0) L).cells A' L.length k') 24 (0, 0) HG.out)
        have HRN := Lib.hid (HRZ.out.other (w' := w8.setRow w.heap.size ((Tm.mk v2 v3 (v4 % 2 != 0) L).cells A' L.length k')) HNE.out (fun b hb => setRow_other w8 w.heap.size b _ hb))
        refine bodyPost_ret (v := .tuple #[.agg ((Tm.mk v2 v3 (v4 % 2 != 0) L).cells A' L.length k'), .nilIface]) (results_cell_slot (p := 2) (q := 3) Tryd.results11 _ _ w.heap.size _ ((Tm.mk v2 v3 (v4 % 2 != 0) L).cells A' L.length k') _ _ rfl HGz.out Tryd.underlying24 rfl sizeTim) rfl (OutT.of A' k' (by rw [HEQ.out.1, HEQ.out.2]; rfl) (by rw [HEQ.out.2]; exact HRN.out) (below_setRow HB.out (Nat.le_refl _) _))
theorem read_all (A : Option Addr) (n c : Nat) (xs : List Int) (E : Nat → Addr) (w : World) (h : RowB .u8 w A n xs) (hS : Sent w E S4) (hnc : n ≤ c) :
    Calls Tryd.prog 11 #[.slice A n c] w fun e w' => OutT E xs n w e w' := by
  by_cases hb : frmT xs n = 0
  · exact read_fit A n c xs E w h hS hnc hb
  · refine (read_beg A n c xs E w h hS hb).mono ?_
    rintro e w' ⟨rfl, hB⟩
    exact OutT.of none 0 (by rw [(rdT_beg hb).1, (rdT_beg hb).2, errV_pos E hb]; rfl) (by rw [(rdT_beg hb).2]; exact RowB.nil) hB

/-- is a number in the Tim that bytes are? -/
def hasT (xs : List Int) (n : Nat) (a : Int) : Bool := rdT xs n == 0 && decide (a ∈ (outT xs n).l)
set_option maxRecDepth 100000 in
set_option maxHeartbeats 8000000 in
theorem has_any (A : Option Addr) (n c : Nat) (xs : List Int) (a : Int) (E : Nat → Addr) (w : World) (h : RowB .u8 w A n xs) (hS : Sent w E S4) (hnc : n ≤ c) :
    Calls Tryd.prog 16 #[.slice A n c, .int .i64 a] w fun e w' => e = .returned (.bool (hasT xs n a)) ∧ Below w.heap.size w w' := by
  have HC := Lib.hid (read_all A n c xs E w h hS hnc)
  clear h hS hnc
  by_cases hr : rdT xs n = 0
  · have HV := Lib.hid (show decide (a ∈ (outT xs n).l) = hasT xs n a by unfold hasT; rw [hr]; simp)
    go_enter Tryd.func16, Tryd.ntmps16
    go_wp2_with (fail)
    refine HC.out.mono ?_
    rintro e w1 ⟨A', k', rfl, hR, hB⟩
    rw [hr, errV_zero]
    generalize outT xs n = q at *
    obtain ⟨qc, qp, qg, l⟩ := q
    dsimp only at *
    have HB := Lib.hid (hB.alloc hB.size (.cells ((Tm.mk qc qp qg l).cells A' l.length k') 24))
    have HR := Lib.hid (hR.below ((Below.refl w1.heap.size w1).alloc (Nat.le_refl _) (.cells ((Tm.mk qc qp qg l).cells A' l.length k') 24)))
    clear hB hR
    go_wp2_with (fail)
    refine (contains_any A' l.length k' l a _ HR.out).mono ?_
    rintro e w2 ⟨rfl, rfl⟩
    go_wp2
    go_ret
    exact ⟨ret_b HV.out.symm, HB.out⟩
  · have HV := Lib.hid (show hasT xs n a = false by unfold hasT; simp [hr])
    go_enter Tryd.func16, Tryd.ntmps16
    go_wp2_with (fail)
    refine HC.out.mono ?_
    rintro e w1 ⟨A', k', rfl, hR, hB⟩
    rw [errV_pos E hr]
    generalize outT xs n = q at *
    obtain ⟨qc, qp, qg, l⟩ := q
    dsimp only at *
    have HB := Lib.hid (hB.alloc hB.size (.cells ((Tm.mk qc qp qg l).cells A' l.length k') 24))
    clear hB hR
    go_wp2
    go_ret
    exact ⟨ret_b HV.out, HB.out⟩
end Go.Proofs.YtocghdjadojimaaDoor
