/-
  CONTRACT of act.DelBytes; what an Add's and a Del's bytes are.
-/
import Derived.Test.YtjgingfcfmpfaaaDoorActA
import Derived.Deep.RegionHeld3
import Derived.Deep.DrawnRows
namespace Go.Proofs.YtjgingfcfmpfaaaDoor
open Go.ChangeShapes Go.WideShapes Go.ChangeAt Go.RowKit
set_option linter.unusedVariables false
set_option linter.unusedSimpArgs false

/-- an Add's bytes; a Del's. -/
def par (q : Adf) : Int := 2 + q.tid * 4 + q.size * 64
def encAdd (q : Adf) : List Int := if q.ans = true then encH 1 q.t q.f q.b ++ [q.tok] ++ [q.st % 256, q.st / 256] ++ [par q % 256, par q / 256] ++ [q.tmo % 256, q.tmo / 256]
  else encH 0 q.t q.f q.b ++ [q.tok] ++ [par q % 256, par q / 256] ++ [q.tmo % 256, q.tmo / 256] ++ [q.seq * 16 % 256, q.seq * 16 / 256]
def mineV (q : Dlf) : Int := q.tid * 4096 + (if q.mine = true then 2048 else 0)
def encDel (q : Dlf) : List Int := encH 2 q.t q.f q.b ++ [mineV q % 256, mineV q / 256] ++ [q.rs % 256, q.rs / 256]
set_option maxRecDepth 100000 in
set_option maxHeartbeats 8000000 in
theorem del_no (q : Dlf) (E : Nat → Addr) (w : World) (hok : okDel q = false) (hS : Sent w E S4) :
    Calls Tryd.prog 9 #[q.val] w fun e w' => e = .returned (.tuple #[.slice none 0 0, errP (E 103)]) ∧ Below w.heap.size w w' := by
  have he := hS.at_ 103 (by decide)
  simp only [gOf] at he
  generalize E 103 = a at *
  have HB := Lib.hid ((Below.refl w.heap.size w).alloc (Nat.le_refl _) (.cells q.cells 27))
  have HZ := Lib.hid (show w.heap.size < (w.alloc (.cells q.cells 27)).heap.size by simp)
  have hC := cells_new w q.cells 27
  have c19 := hC 19
  have c20 := hC 20
  have HC := Lib.hid hC
  dsimp only [Dlf.cells] at c19 c20
  clear hC
  have he2 := cell?_alloc_old (.cells q.cells 27) he
  clear he hS
  cases h1 : upT 7 q.tid
  · go_enter Tryd.func9, Tryd.ntmps9
    go_wp2_with (fail)
    refine (upTo_is h1 _).mono ?_
    rintro e w2 ⟨rfl, rfl⟩
    go_wp2
    go_quiet (fail)
    go_wp2
    go_ret2
    exact ⟨rfl, below_drewN HB.out _⟩
  · have h2 : upT 65535 q.rs = false := by unfold okDel at hok; rw [h1] at hok; simpa using hok
    go_enter Tryd.func9, Tryd.ntmps9
    go_wp2_with (fail)
    refine (upTo_is h1 _).mono ?_
    rintro e w2 ⟨rfl, rfl⟩
    go_wp2_with (fail)
    refine (upTo_is h2 _).mono ?_
    rintro e w2 ⟨rfl, rfl⟩
    go_wp2
    go_quiet (fail)
    go_wp2
    go_ret2
    exact ⟨rfl, below_drewN HB.out _⟩

set_option maxRecDepth 100000 in
set_option maxHeartbeats 8000000 in
theorem del_yes (q : Dlf) (w : World) (hok : okDel q = true) :
    Calls Tryd.prog 9 #[q.val] w fun e w' => ∃ g cap, e = .returned (.tuple #[.slice (some ⟨g, 0, none⟩) 30 cap, .nilIface]) ∧ OwnB w' w.heap.size 5 .u8 g 30 cap (encDel q) ∧ Below w.heap.size w w' := by
  have hk := (okDel_iff q).1 hok
  obtain ⟨⟨k0, k1⟩, k2, k3⟩ := hk
  have h1 : upT 7 q.tid = true := (upT_iff _ _).2 ⟨k0, k1⟩
  have h2 : upT 65535 q.rs = true := (upT_iff _ _).2 ⟨k2, k3⟩
  have x1 : IntKind.i64.wrap (q.tid * 4096) = q.tid * 4096 := IntWalk.i64_in _ ⟨by omega, by omega⟩
  have x2 : IntKind.i64.wrap (q.tid * 4096 + 2048) = q.tid * 4096 + 2048 := IntWalk.i64_in _ ⟨by omega, by omega⟩
  have HB := Lib.hid ((Below.refl w.heap.size w).alloc (Nat.le_refl _) (.cells q.cells 27))
  have HZ := Lib.hid (show w.heap.size < (w.alloc (.cells q.cells 27)).heap.size by simp)
  have hC := cells_new w q.cells 27
  have c19 := hC 19
  have c20 := hC 20
  have HC := Lib.hid hC
  dsimp only [Dlf.cells] at c19 c20
  clear hC
  have HQB := Lib.hid (show ∀ w' : World, w'.cell? ⟨w.heap.size, 18, none⟩ = q.cells[18]? → w'.cell? ⟨w.heap.size, 18, none⟩ = some (.bool q.mine) from fun _ h => h)
  cases hm : q.mine
  · have HV := Lib.hid (show mineV q = q.tid * 4096 by unfold mineV; rw [hm]; simp)
    have HE := Lib.hid (show encH 2 q.t q.f q.b ++ [mineV q % 256, mineV q / 256] ++ [q.rs % 256, q.rs / 256] = encDel q from rfl)
    rw [HV.out] at HE
    rw [hm] at HQB
    go_enter Tryd.func9, Tryd.ntmps9
    go_wp2_with (fail)
    refine (upTo_is h1 _).mono ?_
    rintro e w2 ⟨rfl, rfl⟩
    go_wp2_with (fail)
    refine (upTo_is h2 _).mono ?_
    rintro e w2 ⟨rfl, rfl⟩
    have HQ := Lib.hid (show ∀ (w' : World) (i : Nat), Below (w.alloc (.cells q.cells 27)).heap.size (w.alloc (.cells q.cells 27)) w' → w'.cell? ⟨w.heap.size, i, none⟩ = q.cells[i]? from
      fun w' i hb => (hb.cell HZ.out).trans (HC.out i))
    have HRG := Lib.hid (show ∀ (w' : World) (o : Nat) (x : A6), Below (w.alloc (.cells q.cells 27)).heap.size (w.alloc (.cells q.cells 27)) w' → (∀ j u, (x.l.map (Value.int .u8))[j]? = some u → q.cells[o + j]? = some u) → w'.rangeAt w.heap.size o x.cells.toList from
      fun w' o x hb hx j v hv => (HQ.out w' (o + j) hb).trans (hx j v (show (x.l.map (Value.int .u8))[j]? = some v from hv)))
    generalize hw1 : w.alloc (.cells q.cells 27) = w1 at *
    clear hw1
    have c18 := HQB.out w1 (HC.out 18)
    go_wp2_with (first | (refine wpList_load_mid rfl 23 (.tmp 24) rfl w.heap.size 0 rfl q.t.cells.toList _ (HRG.out w1 0 q.t (Below.refl _ _) (src6 (six_in rfl rfl rfl rfl rfl rfl))) Tryd.underlying23 rfl size6 ?_) | (refine wpList_load_mid rfl 23 (.tmp 26) rfl w.heap.size 6 rfl q.f.cells.toList _ (HRG.out w1 6 q.f (Below.refl _ _) (src6 (six_in rfl rfl rfl rfl rfl rfl))) Tryd.underlying23 rfl size6 ?_) | (refine wpList_load_mid rfl 23 (.tmp 28) rfl w.heap.size 12 rfl q.b.cells.toList _ (HRG.out w1 12 q.b (Below.refl _ _) (src6 (six_in rfl rfl rfl rfl rfl rfl))) Tryd.underlying23 rfl size6 ?_))
    refine (head_own 2 30 q.t q.f q.b w1 (by omega) (by omega) (by omega) (by omega)).mono ?_
    rintro e' w3 ⟨g3, cap3, rfl, hO, hb⟩
    have HO3 := Lib.hid hO
    have HB3 := Lib.hid hb
    clear hO hb
    clear c18 c19 c20
    have c19 := HQ.out w3 19 HB3.out
    dsimp only [Dlf.cells] at c19
    go_wp2
    clear c19
    have HB4 := Lib.hid HB3.out.drew
    have HO4 := Lib.hid (World.ownsRow.drew HO3.out)
    refine wp_region_held_drew (S := fun w' => Below w1.heap.size w1 w') (by kernel_rfl) HB4.out (fun hHeld => ?_)
    generalize World.drew w3 = w4 at *
    refine wpAnyH_take (i := 0) (v := ?_) rfl (by kernel_rfl) (by kernel_rfl) (by kernel_rfl) (fun _ _ _ h => h) (Or.inl ⟨by rfl, ?_⟩) (by assumption) ?_
    rotate_left
    · intro w hSw
      clear hSw
      go_simp
      try with_reducible rfl
    try simp only [Act.put, List.getElem_toArray, List.getElem_cons_zero, List.getElem_cons_succ, List.setIfInBounds_toArray, List.set_cons_zero, List.set_cons_succ]
    refine wpAnyH_take (i := 1) (v := ?_) rfl (by kernel_rfl) (by kernel_rfl) (by kernel_rfl) (fun _ _ _ h => h) (Or.inl ⟨by rfl, ?_⟩) (by assumption) ?_
    rotate_left
    · intro w hSw
      clear hSw
      go_simp
      try with_reducible rfl
    try simp only [Act.put, List.getElem_toArray, List.getElem_cons_zero, List.getElem_cons_succ, List.setIfInBounds_toArray, List.set_cons_zero, List.set_cons_succ]
    refine wpAnyH_take (i := 3) (v := ?_) rfl (by kernel_rfl) (by kernel_rfl) (by kernel_rfl) (fun _ _ _ h => h) (Or.inl ⟨by rfl, ?_⟩) (by assumption) ?_
    rotate_left
    · intro w hSw
      clear hSw
      go_simp
      try with_reducible rfl
    try simp only [Act.put, List.getElem_toArray, List.getElem_cons_zero, List.getElem_cons_succ, List.setIfInBounds_toArray, List.set_cons_zero, List.set_cons_succ]
    refine wpAnyH_take (i := 4) (v := ?_) rfl (by kernel_rfl) (by kernel_rfl) (by kernel_rfl) (fun _ _ _ h => h) (Or.inl ⟨by rfl, ?_⟩) (by assumption) ?_
    rotate_left
    · intro w hSw
      have c := HQ.out w 20 hSw
      dsimp only [Dlf.cells] at c
      clear hSw
      go_simp
      try with_reducible rfl
    try simp only [Act.put, List.getElem_toArray, List.getElem_cons_zero, List.getElem_cons_succ, List.setIfInBounds_toArray, List.set_cons_zero, List.set_cons_succ]
    refine wpAnyH_ready (rs := [2]) (by kernel_rfl) (by simp) ?_
    refine AllReadyH.cons rfl (fun K hK => ?_) AllReadyH.nil
    go_simp
    refine (twoA_own w1.heap.size g3 26 cap3 _ (q.tid * 4096) _ HO4.out HB4.out.size (by omega) (by omega) (by omega)).mono ?_
    rintro e' w5 ⟨g5, cap5, rfl, hO, hb⟩
    have HO5 := Lib.hid hO
    have HB5 := Lib.hid (HB4.out.trans hb)
    clear hO hb 
    clear hHeld
    refine hK.out _ _ HB5.out (fun hHeld => ?_)
    clear hK K
    try simp only [Act.put, List.getElem_toArray, List.getElem_cons_zero, List.getElem_cons_succ, List.setIfInBounds_toArray, List.set_cons_zero, List.set_cons_succ]
    refine wpAnyH_ready (rs := [5]) (by kernel_rfl) (by simp) ?_
    refine AllReadyH.cons rfl (fun K hK => ?_) AllReadyH.nil
    go_simp
    refine (twoA_own w1.heap.size g5 28 cap5 _ q.rs _ HO5.out HB5.out.size (by omega) (by omega) (by omega)).mono ?_
    rintro e' w6 ⟨g6, cap6, rfl, hO, hb⟩
    have HO6 := Lib.hid hO
    have HB6 := Lib.hid (HB5.out.trans hb)
    clear hO hb 
    clear hHeld
    refine hK.out _ _ HB6.out (fun hHeld => ?_)
    clear hK K
    try simp only [Act.put, List.getElem_toArray, List.getElem_cons_zero, List.getElem_cons_succ, List.setIfInBounds_toArray, List.set_cons_zero, List.set_cons_succ]
    refine wpAnyH_take (i := 6) (v := ?_) rfl (by kernel_rfl) (by kernel_rfl) (by kernel_rfl) (fun _ _ _ h => h) (Or.inl ⟨by rfl, ?_⟩) (by assumption) ?_
    rotate_left
    · intro w hSw
      clear hSw
      go_simp
      try with_reducible rfl
    try simp only [Act.put, List.getElem_toArray, List.getElem_cons_zero, List.getElem_cons_succ, List.setIfInBounds_toArray, List.set_cons_zero, List.set_cons_succ]
    refine wpAnyH_take (i := 7) (v := ?_) rfl (by kernel_rfl) (by kernel_rfl) (by kernel_rfl) (fun _ _ _ h => h) (Or.inl ⟨by rfl, ?_⟩) (by assumption) ?_
    rotate_left
    · intro w hSw
      clear hSw
      go_simp
      try with_reducible rfl
    try simp only [Act.put, List.getElem_toArray, List.getElem_cons_zero, List.getElem_cons_succ, List.setIfInBounds_toArray, List.set_cons_zero, List.set_cons_succ]
    refine wpAnyH_done (by kernel_rfl) ?_ _
    clear hHeld
    go_wp2
    go_ret2
    refine ⟨g6, cap6, rfl, ?_, HB.out.trans (HB6.out.mono HB.out.size)⟩
    have h2 := HO6.out
    rw [HE.out] at h2
    exact h2.base HB.out.size
  · have HV := Lib.hid (show mineV q = q.tid * 4096 + 2048 by unfold mineV; rw [hm]; simp)
    have HE := Lib.hid (show encH 2 q.t q.f q.b ++ [mineV q % 256, mineV q / 256] ++ [q.rs % 256, q.rs / 256] = encDel q from rfl)
    rw [HV.out] at HE
    rw [hm] at HQB
    go_enter Tryd.func9, Tryd.ntmps9
    go_wp2_with (fail)
    refine (upTo_is h1 _).mono ?_
    rintro e w2 ⟨rfl, rfl⟩
    go_wp2_with (fail)
    refine (upTo_is h2 _).mono ?_
    rintro e w2 ⟨rfl, rfl⟩
    have HQ := Lib.hid (show ∀ (w' : World) (i : Nat), Below (w.alloc (.cells q.cells 27)).heap.size (w.alloc (.cells q.cells 27)) w' → w'.cell? ⟨w.heap.size, i, none⟩ = q.cells[i]? from
      fun w' i hb => (hb.cell HZ.out).trans (HC.out i))
    have HRG := Lib.hid (show ∀ (w' : World) (o : Nat) (x : A6), Below (w.alloc (.cells q.cells 27)).heap.size (w.alloc (.cells q.cells 27)) w' → (∀ j u, (x.l.map (Value.int .u8))[j]? = some u → q.cells[o + j]? = some u) → w'.rangeAt w.heap.size o x.cells.toList from
      fun w' o x hb hx j v hv => (HQ.out w' (o + j) hb).trans (hx j v (show (x.l.map (Value.int .u8))[j]? = some v from hv)))
    generalize hw1 : w.alloc (.cells q.cells 27) = w1 at *
    clear hw1
    have c18 := HQB.out w1 (HC.out 18)
    go_wp2_with (first | (refine wpList_load_mid rfl 23 (.tmp 24) rfl w.heap.size 0 rfl q.t.cells.toList _ (HRG.out w1 0 q.t (Below.refl _ _) (src6 (six_in rfl rfl rfl rfl rfl rfl))) Tryd.underlying23 rfl size6 ?_) | (refine wpList_load_mid rfl 23 (.tmp 26) rfl w.heap.size 6 rfl q.f.cells.toList _ (HRG.out w1 6 q.f (Below.refl _ _) (src6 (six_in rfl rfl rfl rfl rfl rfl))) Tryd.underlying23 rfl size6 ?_) | (refine wpList_load_mid rfl 23 (.tmp 28) rfl w.heap.size 12 rfl q.b.cells.toList _ (HRG.out w1 12 q.b (Below.refl _ _) (src6 (six_in rfl rfl rfl rfl rfl rfl))) Tryd.underlying23 rfl size6 ?_))
    refine (head_own 2 30 q.t q.f q.b w1 (by omega) (by omega) (by omega) (by omega)).mono ?_
    rintro e' w3 ⟨g3, cap3, rfl, hO, hb⟩
    have HO3 := Lib.hid hO
    have HB3 := Lib.hid hb
    clear hO hb
    clear c18 c19 c20
    have c19 := HQ.out w3 19 HB3.out
    dsimp only [Dlf.cells] at c19
    go_wp2
    clear c19
    have HB4 := Lib.hid HB3.out.drew
    have HO4 := Lib.hid (World.ownsRow.drew HO3.out)
    refine wp_region_held_drew (S := fun w' => Below w1.heap.size w1 w') (by kernel_rfl) HB4.out (fun hHeld => ?_)
    generalize World.drew w3 = w4 at *
    refine wpAnyH_take (i := 0) (v := ?_) rfl (by kernel_rfl) (by kernel_rfl) (by kernel_rfl) (fun _ _ _ h => h) (Or.inl ⟨by rfl, ?_⟩) (by assumption) ?_
    rotate_left
    · intro w hSw
      clear hSw
      go_simp
      try with_reducible rfl
    try simp only [Act.put, List.getElem_toArray, List.getElem_cons_zero, List.getElem_cons_succ, List.setIfInBounds_toArray, List.set_cons_zero, List.set_cons_succ]
    refine wpAnyH_take (i := 1) (v := ?_) rfl (by kernel_rfl) (by kernel_rfl) (by kernel_rfl) (fun _ _ _ h => h) (Or.inl ⟨by rfl, ?_⟩) (by assumption) ?_
    rotate_left
    · intro w hSw
      clear hSw
      go_simp
      try with_reducible rfl
    try simp only [Act.put, List.getElem_toArray, List.getElem_cons_zero, List.getElem_cons_succ, List.setIfInBounds_toArray, List.set_cons_zero, List.set_cons_succ]
    refine wpAnyH_take (i := 3) (v := ?_) rfl (by kernel_rfl) (by kernel_rfl) (by kernel_rfl) (fun _ _ _ h => h) (Or.inl ⟨by rfl, ?_⟩) (by assumption) ?_
    rotate_left
    · intro w hSw
      clear hSw
      go_simp
      try with_reducible rfl
    try simp only [Act.put, List.getElem_toArray, List.getElem_cons_zero, List.getElem_cons_succ, List.setIfInBounds_toArray, List.set_cons_zero, List.set_cons_succ]
    refine wpAnyH_take (i := 4) (v := ?_) rfl (by kernel_rfl) (by kernel_rfl) (by kernel_rfl) (fun _ _ _ h => h) (Or.inl ⟨by rfl, ?_⟩) (by assumption) ?_
    rotate_left
    · intro w hSw
      have c := HQ.out w 20 hSw
      dsimp only [Dlf.cells] at c
      clear hSw
      go_simp
      try with_reducible rfl
    try simp only [Act.put, List.getElem_toArray, List.getElem_cons_zero, List.getElem_cons_succ, List.setIfInBounds_toArray, List.set_cons_zero, List.set_cons_succ]
    refine wpAnyH_ready (rs := [2]) (by kernel_rfl) (by simp) ?_
    refine AllReadyH.cons rfl (fun K hK => ?_) AllReadyH.nil
    go_simp
    refine (twoA_own w1.heap.size g3 26 cap3 _ (q.tid * 4096 + 2048) _ HO4.out HB4.out.size (by omega) (by omega) (by omega)).mono ?_
    rintro e' w5 ⟨g5, cap5, rfl, hO, hb⟩
    have HO5 := Lib.hid hO
    have HB5 := Lib.hid (HB4.out.trans hb)
    clear hO hb 
    clear hHeld
    refine hK.out _ _ HB5.out (fun hHeld => ?_)
    clear hK K
    try simp only [Act.put, List.getElem_toArray, List.getElem_cons_zero, List.getElem_cons_succ, List.setIfInBounds_toArray, List.set_cons_zero, List.set_cons_succ]
    refine wpAnyH_ready (rs := [5]) (by kernel_rfl) (by simp) ?_
    refine AllReadyH.cons rfl (fun K hK => ?_) AllReadyH.nil
    go_simp
    refine (twoA_own w1.heap.size g5 28 cap5 _ q.rs _ HO5.out HB5.out.size (by omega) (by omega) (by omega)).mono ?_
    rintro e' w6 ⟨g6, cap6, rfl, hO, hb⟩
    have HO6 := Lib.hid hO
    have HB6 := Lib.hid (HB5.out.trans hb)
    clear hO hb 
    clear hHeld
    refine hK.out _ _ HB6.out (fun hHeld => ?_)
    clear hK K
    try simp only [Act.put, List.getElem_toArray, List.getElem_cons_zero, List.getElem_cons_succ, List.setIfInBounds_toArray, List.set_cons_zero, List.set_cons_succ]
    refine wpAnyH_take (i := 6) (v := ?_) rfl (by kernel_rfl) (by kernel_rfl) (by kernel_rfl) (fun _ _ _ h => h) (Or.inl ⟨by rfl, ?_⟩) (by assumption) ?_
    rotate_left
    · intro w hSw
      clear hSw
      go_simp
      try with_reducible rfl
    try simp only [Act.put, List.getElem_toArray, List.getElem_cons_zero, List.getElem_cons_succ, List.setIfInBounds_toArray, List.set_cons_zero, List.set_cons_succ]
    refine wpAnyH_take (i := 7) (v := ?_) rfl (by kernel_rfl) (by kernel_rfl) (by kernel_rfl) (fun _ _ _ h => h) (Or.inl ⟨by rfl, ?_⟩) (by assumption) ?_
    rotate_left
    · intro w hSw
      clear hSw
      go_simp
      try with_reducible rfl
    try simp only [Act.put, List.getElem_toArray, List.getElem_cons_zero, List.getElem_cons_succ, List.setIfInBounds_toArray, List.set_cons_zero, List.set_cons_succ]
    refine wpAnyH_done (by kernel_rfl) ?_ _
    clear hHeld
    go_wp2
    go_ret2
    refine ⟨g6, cap6, rfl, ?_, HB.out.trans (HB6.out.mono HB.out.size)⟩
    have h2 := HO6.out
    rw [HE.out] at h2
    exact h2.base HB.out.size
end Go.Proofs.YtjgingfcfmpfaaaDoor
