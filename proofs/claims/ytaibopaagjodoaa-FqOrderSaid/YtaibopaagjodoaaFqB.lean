/-
  CONTRACTS of the reference's flow: its bytes, its Items; of SamePackets.
-/
import Derived.Test.YtaibopaagjodoaaFqA
namespace Go.Proofs.Ytaibopaagjodoaa
open Go.ChangeShapes Go.WideShapes Go.ChangeAt Go.RowKit Go.Deep
set_option linter.unusedVariables false
set_option linter.unusedSimpArgs false

theorem item_info : (Try.prog.info? 82).map (fun i => (i.zero, i.size, i.bytes)) = some (some (.agg #[.int .i64 0, .int .i64 0]), 2, 16) := by kernel_rfl
theorem itC_one' (u : It) : ∀ v ∈ itC u, v.oneCell' = true := by
  intro v hv
  simp [itC] at hv
  rcases hv with rfl | rfl <;> rfl
theorem items_snoc {l : List Pk} {k : Nat} (hk : k < l.length) : itemsF (l.take (k + 1)) = itemsF (l.take k) ++ [⟨(l.getD k pk00.1).at_, (l.getD k pk00.1).body.length⟩] := by
  rw [take_snoc' hk pk00.1]
  simp [itemsF]
theorem owns_cell {w w' : World} {v : Value} {b o : Nat} {x : Value} (hg : w.grownBy w' v.ownBlock) (h : w.cell? ⟨b, o, none⟩ = some x) (hn : v.ownBlock ≠ some b) : w'.cell? ⟨b, o, none⟩ = some x := by
  rw [hg.cell_far _ (by simpa using cell_lt' h) (Ne.symm hn)]; exact h
set_option maxRecDepth 100000 in
set_option maxHeartbeats 8000000 in
theorem items_any (T : Nat → Prop) (A : Option Addr) (c : Nat) (l : List Pk) (w : World) (h : RowP T w A l) (hn : l.length ≤ 100000) :
    Calls Try.prog 53 #[.slice A l.length c] w fun e w' => ∃ B cap, e = .returned (.slice B l.length cap) ∧ RowS itC 2 it00 w' B l.length (itemsF l) ∧ Below w.heap.size w w' := by
  obtain ⟨i0, hi0, hz0, hz1, hz2⟩ := info_parts' item_info
  have HR := Shut.mk h
  clear h
  go_enter Try.func53, Try.ntmps53
  go_wp2
  go_loopw [3, 4] (fun u i wr => ∃ k : Nat, k ≤ l.length ∧ i = .int .i64 k ∧ OwnS itC 2 wr w.heap.size 82 u k (itemsF (l.take k)) ∧ Below w.heap.size w wr) (fun _ i _ => l.length - (intOf i).toNat)
  case atStart => exact ⟨0, by omega, rfl, OwnS.nil _ _ _, Below.refl _ _⟩
  case round =>
    obtain ⟨k, hk, rfl, hown, hbel⟩ := hrel
    have HO := Shut.mk hown
    have HB := Shut.mk hbel
    clear hown hbel
    by_cases hlt : k < l.length
    · obtain ⟨b, off, aa, m, cc, rfl, hrg, hrb, hmc, -⟩ := HR.out.el k hlt
      have HS := Shut.mk (items_snoc hlt)
      have HM := Shut.mk (show ((l.getD k pk00.1).body.length : Int) = m by rw [hrb.len])
      have hml := hrb.le
      unfold maxLen at hml
      have hlb : b < w.heap.size := cell_lt' (hrg 0 _ rfl)
      have g3 : wr.cell? ⟨b, off + k * 5 + 3, none⟩ = some (.int .i64 (l.getD k pk00.1).at_) := (HB.out.cell hlb).trans (hrg 3 _ rfl)
      have g4 : wr.cell? ⟨b, off + k * 5 + 4, none⟩ = some (.slice aa m cc) := (HB.out.cell hlb).trans (hrg 4 _ rfl)
      clear hrg hrb hmc
      rw [HM.out] at HS
      clear HM
      generalize (l.getD k pk00.1).at_ = pa at *
      have ne3 : u3.ownBlock ≠ some b := fun h => by have := (World.ownsRow.lt HO.out.1 b h).1; omega
      have lbr : b < wr.heap.size := cell_lt' g3
      go_wp2_with (fail)
      go_region_held3 (fun w' => w'.cell? ⟨b, off + k * 5 + 3, none⟩ = some (.int .i64 pa) ∧ w'.cell? ⟨b, off + k * 5 + 4, none⟩ = some (.slice aa m cc))
        (first
          | go_keep
          | (go_split_ands
             refine ⟨?_, ?_⟩
             · (rw [hgrow.cell_far _ (by simp; omega) (Ne.symm ne3)]; assumption)
             · (rw [hgrow.cell_far _ (by simp; omega) (Ne.symm ne3)]; assumption)))
        ((refine step_append_lies _ (by rfl) _ _ _ (by rfl) w.heap.size 82 i0 _ 2 16 Try.underlying64 hi0 hz0 hz1 hz2 rfl (by omega) u3 k _ (by rfl) ((HO.out.1.alloc _).drew)
            ⟨wr.heap.size, 0, none⟩ 1 1 [.int .i64 pa, .int .i64 m] (by rfl) (by rfl) (World.news_of_block (cs := #[.int .i64 pa, .int .i64 m]) (t := 82) (fr := (0, 0)) (heap_alloc_new wr _)) (itC_one' ⟨pa, m⟩)
            (by omega) (by unfold maxLen; omega) (by omega) (by have := HB.out.size; simp; omega) (wr.heap.size + 1) (by simp) ?_; intro gg cap w2 hown1 hgrow hat hlt2))
      have HO2 := Shut.mk (show OwnS itC 2 w2 w.heap.size 82 (.slice (some ⟨gg, 0, none⟩) (k + 1) cap) (k + 1) (itemsF (l.take (k + 1))) by
        rw [HS.out]
        refine ⟨by rw [List.flatMap_append]; simpa [itC] using hown1, ?_⟩
        rw [List.length_append, itemsF_len, List.length_take]; simp; omega)
      have HW2 := Shut.mk (show Below w.heap.size w w2 from (HB.out.alloc HB.out.size _).drew.grown hgrow (by have := HB.out.size; simp; omega) (by intro q hq; exact (World.ownsRow.lt HO.out.1 q hq).1))
      clear hown1 hgrow hat hlt2 g3 g4
      go_wp2
      go_roundw
      case rel => exact ⟨k + 1, by omega, by go_num, HO2.out, HW2.out⟩
      case measure => simp [intOf]; omega
    · have hk' : k = l.length := by omega
      subst hk'
      have HS := Shut.mk (show l.take l.length = l from List.take_length)
      have HX := Shut.mk (OwnS.row (d := it00) HO.out (fun _ => rfl) (by unfold maxLen; omega))
      obtain ⟨B, cap, rfl, hrow, -⟩ := HX.out
      rw [HS.out] at hrow
      clear HX HO
      go_wp2
      go_ret
      exact ⟨B, cap, rfl, hrow, HB.out⟩

theorem bytes_snoc' {l : List Pk} {k : Nat} (hk : k < l.length) : bytesF (l.take (k + 1)) = bytesF (l.take k) + ((l.getD k pk00.1).body.length : Int) := by
  rw [take_snoc' hk pk00.1, bytesF_snoc]
theorem bytes_low : ∀ (l : List Pk), (∀ p ∈ l, p.body.length ≤ 1000000) → 0 ≤ bytesF l ∧ bytesF l ≤ 1000000 * (l.length : Int)
  | [], _ => by simp [bytesF]
  | p :: l, h => by
    have := bytes_low l fun q hq => h q (List.mem_cons_of_mem _ hq)
    have hp := h p List.mem_cons_self
    rw [bytesF_cons, List.length_cons]
    omega
set_option maxRecDepth 100000 in
set_option maxHeartbeats 8000000 in
/-- the bytes of a flow. -/
theorem flbytes_any (T : Nat → Prop) (g o : Nat) (A : Option Addr) (c : Nat) (l : List Pk) (w : World) (hc : w.cell? ⟨g, o, none⟩ = some (.slice A l.length c)) (h : RowP T w A l) (hn : l.length ≤ 100000) (hb : ∀ p ∈ l, p.body.length ≤ 1000000) :
    Calls Try.prog 52 #[.pointer (some ⟨g, o, none⟩)] w fun e w' => e = .returned (.int .i64 (bytesF l)) ∧ w = w' := by
  have HR := Shut.mk h
  have HLW := Shut.mk (show ∀ k, 0 ≤ bytesF (l.take k) ∧ bytesF (l.take k) ≤ 1000000 * (l.length : Int) from fun k => by
    have := bytes_low (l.take k) fun p hp => hb p (List.mem_of_mem_take hp)
    rw [List.length_take] at this
    omega)
  clear h hb
  go_enter Try.func52, Try.ntmps52
  go_wp2
  go_loop [3, 4] (fun v i => ∃ k : Nat, k ≤ l.length ∧ i = .int .i64 k ∧ v = .int .i64 (bytesF (l.take k))) (fun _ i => l.length - (intOf i).toNat)
  case atStart => exact ⟨0, by omega, rfl, rfl⟩
  case round =>
    obtain ⟨k, hk, rfl, rfl⟩ := hrel
    by_cases hlt : k < l.length
    · obtain ⟨b, off, aa, m, cc, rfl, hrg, hrb, hmc, -⟩ := HR.out.el k hlt
      have HS := Shut.mk (bytes_snoc' hlt)
      have HM := Shut.mk (show ((l.getD k pk00.1).body.length : Int) = m by rw [hrb.len])
      have hml := hrb.le
      unfold maxLen at hml
      have g4 : w.cell? ⟨b, off + k * 5 + 4, none⟩ = some (.slice aa m cc) := hrg 4 _ rfl
      have b0 := (HLW.out k).1
      have b1 := (HLW.out k).2
      have b2 := (HLW.out (k + 1)).2
      rw [HS.out, HM.out] at b2
      rw [HM.out] at HS
      clear hrg hrb hmc HM
      generalize bytesF (l.take k) = v at *
      go_wp2
      go_round
      case rel => exact ⟨k + 1, by omega, by go_num, by rw [HS.out]⟩
      case measure => simp [intOf]; omega
    · have hk' : k = l.length := by omega
      subst hk'
      have HS := Shut.mk (show l.take l.length = l from List.take_length)
      go_wp2
      go_ret
      exact ⟨rfl, rfl⟩
set_option maxRecDepth 100000 in
set_option maxHeartbeats 8000000 in
/-- SamePackets of one row of packets, wherever they lie. -/
theorem samepkts_any (T U : Nat → Prop) (A B : Option Addr) (ca cb : Nat) (l : List Pk) (w : World) (ha : RowP T w A l) (hb : RowP U w B l) (hn : l.length ≤ 100000) :
    Calls Try.prog 20 #[.slice A l.length ca, .slice B l.length cb] w fun e w' => e = .returned (.bool true) ∧ Below w.heap.size w w' := by
  have HA := Shut.mk ha
  have HB := Shut.mk hb
  clear ha hb
  have hne : ((l.length : Int) != (l.length : Int)) = false := by simp
  go_enter Try.func20, Try.ntmps20
  go_wp2
  go_loopw [5] (fun i wr => ∃ k : Nat, k ≤ l.length ∧ i = .int .i64 k ∧ Below w.heap.size w wr) (fun i _ => l.length - (intOf i).toNat)
  case atStart => exact ⟨0, by omega, rfl, Below.refl _ _⟩
  case round =>
    obtain ⟨k, hk, rfl, hbel⟩ := hrel
    have HW := Shut.mk hbel
    by_cases hlt : k < l.length
    · obtain ⟨b, off, aa, m, cc, rfl, hrg, hrb, -⟩ := (RowK.below HA.out hbel).el k hlt
      obtain ⟨b', off', aa', m', cc', rfl, hrg', hrb', -⟩ := (RowK.below HB.out hbel).el k hlt
      generalize l.getD k pk00.1 = p at *
      obtain ⟨pi, pf, pt, pa, pb⟩ := p
      have HX := Shut.mk hrb
      have HY := Shut.mk hrb'
      have HG := Shut.mk hrg
      have HG' := Shut.mk hrg'
      clear hrb hrb' hrg hrg' hbel
      go_wp2_with (fail)
      refine wp_region_held_drew (S := fun w' => Below wr.heap.size wr w') (by kernel_rfl) (Below.refl _ _).drew (fun hHeld => ?_)
      generalize World.drew wr = w5 at *
      have HZ5 := Lib.hid hHeld
      refine wpAnyH_take (i := 0) (v := ?_) rfl (by kernel_rfl) (by kernel_rfl) (by kernel_rfl) (fun _ _ _ h => h) (Or.inl ⟨by rfl, ?_⟩) (by assumption) ?_
      rotate_left
      · intro w hSw
        clear hSw
        go_simp
        try with_reducible rfl
      try simp only [Act.put, List.getElem_toArray, List.getElem_cons_zero, List.getElem_cons_succ, List.setIfInBounds_toArray, List.set_cons_zero, List.set_cons_succ]
      refine wpAnyH_take (i := 1) (v := ?_) rfl (by kernel_rfl) (by kernel_rfl) (by kernel_rfl) (fun _ _ _ h => h) (Or.inl ⟨by rfl, ?_⟩) (by assumption) ?_
      rotate_left
      · intro w hSw
        clear hSw
        go_simp
        try with_reducible rfl
      try simp only [Act.put, List.getElem_toArray, List.getElem_cons_zero, List.getElem_cons_succ, List.setIfInBounds_toArray, List.set_cons_zero, List.set_cons_succ]
      refine wpAnyH_take (i := 2) (v := ?_) rfl (by kernel_rfl) (by kernel_rfl) (by kernel_rfl) (fun _ _ _ h => h) (Or.inl ⟨by rfl, ?_⟩) (by assumption) ?_
      rotate_left
      · intro w hSw
        clear hSw
        go_simp
        try with_reducible rfl
      try simp only [Act.put, List.getElem_toArray, List.getElem_cons_zero, List.getElem_cons_succ, List.setIfInBounds_toArray, List.set_cons_zero, List.set_cons_succ]
      refine wpAnyH_take (i := 3) (v := .agg #[Value.int .i64 pi, .int .u32 pf, .int .i64 pt, .int .i64 pa, .slice aa m cc]) rfl (by kernel_rfl) (by kernel_rfl) (by kernel_rfl) (fun _ _ _ h => h) (yieldsIf_load_mid (by rfl) 32 (.tmp 20) rfl b (off + k * 5) rfl (#[Value.int .i64 pi, .int .u32 pf, .int .i64 pt, .int .i64 pa, .slice aa m cc]).toList _ (fun w' hw' => range_below (B := 0) HG.out hw') Try.underlying32 rfl size5) (by assumption) ?_
      try simp only [Act.put, List.getElem_toArray, List.getElem_cons_zero, List.getElem_cons_succ, List.setIfInBounds_toArray, List.set_cons_zero, List.set_cons_succ]
      refine wpAnyH_take (i := 4) (v := ?_) rfl (by kernel_rfl) (by kernel_rfl) (by kernel_rfl) (fun _ _ _ h => h) (Or.inl ⟨by rfl, ?_⟩) (by assumption) ?_
      rotate_left
      · intro w hSw
        clear hSw
        go_simp
        try with_reducible rfl
      try simp only [Act.put, List.getElem_toArray, List.getElem_cons_zero, List.getElem_cons_succ, List.setIfInBounds_toArray, List.set_cons_zero, List.set_cons_succ]
      refine wpAnyH_take (i := 5) (v := ?_) rfl (by kernel_rfl) (by kernel_rfl) (by kernel_rfl) (fun _ _ _ h => h) (Or.inl ⟨by rfl, ?_⟩) (by assumption) ?_
      rotate_left
      · intro w hSw
        clear hSw
        go_simp
        try with_reducible rfl
      try simp only [Act.put, List.getElem_toArray, List.getElem_cons_zero, List.getElem_cons_succ, List.setIfInBounds_toArray, List.set_cons_zero, List.set_cons_succ]
      refine wpAnyH_take (i := 6) (v := ?_) rfl (by kernel_rfl) (by kernel_rfl) (by kernel_rfl) (fun _ _ _ h => h) (Or.inl ⟨by rfl, ?_⟩) (by assumption) ?_
      rotate_left
      · intro w hSw
        clear hSw
        go_simp
        try with_reducible rfl
      try simp only [Act.put, List.getElem_toArray, List.getElem_cons_zero, List.getElem_cons_succ, List.setIfInBounds_toArray, List.set_cons_zero, List.set_cons_succ]
      refine wpAnyH_take (i := 7) (v := .agg #[Value.int .i64 pi, .int .u32 pf, .int .i64 pt, .int .i64 pa, .slice aa' m' cc']) rfl (by kernel_rfl) (by kernel_rfl) (by kernel_rfl) (fun _ _ _ h => h) (yieldsIf_load_mid (by rfl) 32 (.tmp 24) rfl b' (off' + k * 5) rfl (#[Value.int .i64 pi, .int .u32 pf, .int .i64 pt, .int .i64 pa, .slice aa' m' cc']).toList _ (fun w' hw' => range_below (B := 0) HG'.out hw') Try.underlying32 rfl size5) (by assumption) ?_
      try simp only [Act.put, List.getElem_toArray, List.getElem_cons_zero, List.getElem_cons_succ, List.setIfInBounds_toArray, List.set_cons_zero, List.set_cons_succ]
      refine wpAnyH_ready (rs := [8]) (by kernel_rfl) (by simp) ?_
      refine AllReadyH.cons rfl (fun K hK => ?_) AllReadyH.nil
      go_simp
      refine (samepkt_any ⟨pi, pf, pt, pa, pb⟩ aa aa' m cc m' cc' w5 (RowB.below HX.out HZ5.out) (RowB.below HY.out HZ5.out)).mono ?_
      rintro e' w6 ⟨rfl, hb⟩
      have HZ6 := Lib.hid (HZ5.out.trans (hb.mono HZ5.out.size))
      clear hb hHeld HZ5
      refine hK.out _ _ HZ6.out (fun hHeld => ?_)
      clear hK K
      try simp only [Act.put, List.getElem_toArray, List.getElem_cons_zero, List.getElem_cons_succ, List.setIfInBounds_toArray, List.set_cons_zero, List.set_cons_succ]
      refine wpAnyH_take (i := 9) (v := ?_) rfl (by kernel_rfl) (by kernel_rfl) (by kernel_rfl) (fun _ _ _ h => h) (Or.inl ⟨by rfl, ?_⟩) (by assumption) ?_
      rotate_left
      · intro w hSw
        clear hSw
        go_simp
        try with_reducible rfl
      try simp only [Act.put, List.getElem_toArray, List.getElem_cons_zero, List.getElem_cons_succ, List.setIfInBounds_toArray, List.set_cons_zero, List.set_cons_succ]
      refine wpAnyH_done (by kernel_rfl) ?_ _
      try simp only [Act.put, List.getElem_toArray, List.getElem_cons_zero, List.getElem_cons_succ, List.setIfInBounds_toArray, List.set_cons_zero, List.set_cons_succ]
      have HBW := Shut.mk (HW.out.trans (HZ6.out.mono HW.out.size))
      go_wp2
      refine ⟨⟨k + 1, by omega, by go_num, HBW.out⟩, by simp [intOf]; omega⟩
    · have hk' : k = l.length := by omega
      subst hk'
      go_wp2
      go_ret
      exact ⟨rfl, HW.out⟩
end Go.Proofs.Ytaibopaagjodoaa
