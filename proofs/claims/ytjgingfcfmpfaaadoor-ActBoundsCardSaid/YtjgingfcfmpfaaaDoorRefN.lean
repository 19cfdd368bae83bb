/-
  CONTRACTS of package muezzinref1's small functions: out, two, addr, num, six.
-/
import Derived.Test.YtjgingfcfmpfaaaDoorSix
namespace Go.Proofs.YtjgingfcfmpfaaaDoor
open Go.ChangeShapes Go.WideShapes Go.ChangeAt Go.RowKit
set_option linter.unusedVariables false
set_option linter.unusedSimpArgs false

theorem out_any (x m : Int) (w : World) :
    Calls Tryd.prog 25 #[.int .i64 x, .int .i64 m] w fun e w' => e = .returned (.bool (decide (x < 0) || decide (m < x))) ∧ w = w' := by
  by_cases h : x < 0
  · have hd : decide (x < 0) = true := by simpa using h
    have HV := Lib.hid (show (decide (x < 0) || decide (m < x)) = true by simp [h])
    go_enter Tryd.func25, Tryd.ntmps25
    go_wp2
    go_ret
    exact ⟨ret_b HV.out, rfl⟩
  · have hd : decide (x < 0) = false := by simpa using h
    have HV := Lib.hid (show (decide (x < 0) || decide (m < x)) = decide (m < x) by simp [h])
    generalize (decide (x < 0) || decide (m < x)) = r at HV ⊢
    go_enter Tryd.func25, Tryd.ntmps25
    go_wp2
    go_ret
    exact ⟨ret_b HV.out, rfl⟩

set_option maxHeartbeats 2000000 in
theorem two_own (B g n cap : Nat) (xs : List Int) (v : Int) (w : World) (hO : OwnB w B 5 .u8 g n cap xs) (hB : B ≤ w.heap.size) (h0 : 0 ≤ v) (h1 : v < 65536) (hn : n ≤ 100000) :
    Calls Tryd.prog 27 #[.slice (some ⟨g, 0, none⟩) n cap, .int .i64 v] w fun e w' => ∃ g' cap', e = .returned (.slice (some ⟨g', 0, none⟩) (n + 2) cap') ∧ OwnB w' B 5 .u8 g' (n + 2) cap' (xs ++ [v % 256, v / 256]) ∧ Below B w w' := by
  have x1 : IntKind.u8.wrap v = v % 256 := by rw [IntKind.wrap_u8]
  have x2 : IntKind.u8.wrap (v / 256) = v / 256 := IntWalk.u8_in _ ⟨by omega, by omega⟩
  have HO := Lib.hid hO
  have HZ := Lib.hid hB
  clear hO hB
  go_enter Tryd.func27, Tryd.ntmps27
  go_wp2_with (refine app_own rfl (.tmp 5) (.tmp 11) rfl B g n cap xs rfl (World.ownsRow.alloc HO.out _) ⟨w.heap.size, 0, none⟩ 2 2 [v % 256, v / 256] rfl rfl (World.news_of_block (cs := #[.int .u8 (v % 256), .int .u8 (v / 256)]) (t := 5) (fr := (0, 0)) (heap_alloc_new w _)) (by omega) (by have := HZ.out; simp; omega) ?_; intro g' cap' w' hO' hb')
  go_ret
  exact ⟨g', cap', rfl, hO'.out, ((Below.refl B w).alloc HZ.out _).trans hb'.out⟩

/-- an append onto a row of the call's own: and every other block is as it was. -/
theorem app_keep {w : World} {ops : Array Oper} {rest : List Oper} {o : Oper} {a : Act} {Q : Exit → Act → World → Prop} (hgd : o.guard = none) (s x : Operand)
    (ho : o.op = .call { callee := .builtin .append, args := #[s, x], argTypes := #[28, 28] }) (B g n cap : Nat) (xs : List Int)
    (hs : a.eval s = .slice (some ⟨g, 0, none⟩) n cap) (hO : OwnB w B 5 .u8 g n cap xs) (ad : Addr) (m c : Nat) (ys : List Int) (hx : a.eval x = .slice (some ad) m c) (hl : ys.length = m)
    (hsrc : ∀ j u, (ys.map (Value.int .u8))[j]? = some u → w.cell? (ad.add j) = some u) (hm : n + m ≤ 1000000000) (hB : B ≤ w.heap.size)
    (h : ∀ g' cap' w', Hid (OwnB w' B 5 .u8 g' (n + m) cap' (xs ++ ys)) → Hid (Below B w w') → Hid (∀ k, k < w.heap.size → k ≠ g → w'.heap[k]? = w.heap[k]? ∧ g' ≠ k) → wpList Tryd.prog ops Q rest (a.put o.dst (.slice (some ⟨g', 0, none⟩) (n + m) cap')) w') : wpList Tryd.prog ops Q (o :: rest) a w := by
  obtain ⟨i0, hi0, hz0, hz1, hz2⟩ := info_parts byte_info
  refine wpList_append_own_at _ hgd s x 28 ho B 5 i0 _ 1 1 Tryd.underlying28 hi0 hz0 hz1 hz2 rfl (by omega) (.slice (some ⟨g, 0, none⟩) n cap) n _ hs hO ad m c (ys.map (Value.int .u8)) hx (by simp [hl]) hsrc (by intro u hu; simp at hu; obtain ⟨v, _, rfl⟩ := hu; rfl) (by unfold maxLen; omega) (by omega) hB ?_
  intro v' w' hown hgrow hnil hat
  rcases hown.2 with ⟨hv, _⟩ | ⟨g', cap', cur, hv, _⟩
  · exact absurd (hnil.1 hv).1 (by simp)
  subst hv
  refine h g' cap' w' (show OwnB _ _ _ _ _ _ _ _ by unfold OwnB; rw [List.map_append]; exact hown) ((Below.refl B w).grown hgrow hB (by intro q hq; simp [Value.ownBlock] at hq; subst hq; exact hO.lt.1)) fun k hk hne => ⟨hgrow.block k hk (by simp [Value.ownBlock]; omega), ?_⟩
  simp [Value.ownBlock] at hat
  omega

set_option maxRecDepth 100000 in
set_option maxHeartbeats 4000000 in
theorem addr_own (B g0 n cap0 : Nat) (xs : List Int) (a : A6) (w : World) (hO : OwnB w B 5 .u8 g0 n cap0 xs) (hB : B ≤ w.heap.size) (hn : n ≤ 100000) :
    Calls Tryd.prog 39 #[.slice (some ⟨g0, 0, none⟩) n cap0, a.val] w fun e w' => ∃ g' cap', e = .returned (.slice (some ⟨g', 0, none⟩) (n + 6) cap') ∧ OwnB w' B 5 .u8 g' (n + 6) cap' (xs ++ a.l) ∧ Below B w w' := by
  have HB1 := Lib.hid ((Below.refl B w).alloc hB (.cells a.cells 23))
  have HO1 := Lib.hid (show OwnB (w.alloc (.cells a.cells 23)) B 5 .u8 g0 n cap0 (xs ++ a.l.take 0) by rw [List.take_zero, List.append_nil]; exact World.ownsRow.alloc hO _)
  have HG1 := Lib.hid (heap_alloc_last w (.cells a.cells 23))
  have HL1 := Lib.hid (show g0 ≠ w.heap.size from Nat.ne_of_lt hO.lt.2)
  clear hO hB
  go_enter Tryd.func39, Tryd.ntmps39
  go_wp2
  generalize World.alloc w _ = w1 at *
  generalize hh : w.heap.size = h at *
  clear hh
  go_loopw [0, 5] (fun v i wr => ∃ k g cap : Nat, k ≤ 6 ∧ i = .int .i64 k ∧ v = .slice (some ⟨g, 0, none⟩) (n + k) cap ∧ OwnB wr B 5 .u8 g (n + k) cap (xs ++ a.l.take k) ∧ Below B w wr ∧ wr.heap[h]? = some (.cells a.cells 23 (0, 0)) ∧ g ≠ h) (fun _ i _ => 6 - (intOf i).toNat)
  case atStart => exact ⟨0, g0, cap0, by omega, rfl, rfl, HO1.out, HB1.out, HG1.out, HL1.out⟩
  case round =>
    obtain ⟨k, g, cap, hk, rfl, rfl, hown, hbel, hblk, hne⟩ := hrel
    have HO := Lib.hid hown
    have HB := Lib.hid hbel
    have HG := Lib.hid hblk
    have HN := Lib.hid hne
    have HH := Lib.hid (show h < wr.heap.size from by
      by_cases hp : h < wr.heap.size
      · exact hp
      · rw [Array.getElem?_eq_none (Nat.le_of_not_lt hp)] at hblk; cases hblk)
    clear hown hbel hne HO1 HB1 HG1 HL1
    by_cases hlt : k < 6
    · have c1 := (cell_of_row wr h k _ _ _ hblk).trans (a.get k hlt)
      have hi : (k : Int) < 6 := by omega
      have HS := Lib.hid (take_snoc (xs := a.l) (k := k) (by rw [a.len]; exact hlt))
      clear hblk
      generalize a.l.getD k 0 = v at *
      go_wp2_with (refine app_keep rfl (.tmp 10) (.tmp 14) rfl B g (n + k) cap _ rfl (World.ownsRow.alloc HO.out _) ⟨wr.heap.size, 0, none⟩ 1 1 [v] rfl rfl (World.news_of_block (cs := #[.int .u8 v]) (t := 5) (fr := (0, 0)) (heap_alloc_new wr _)) (by omega) (by have := HB.out.size; have := HH.out; have h1 := HO.out.lt; simp; omega) ?_; intro g2 cap2 w2 hO2 hb2 hk2)
      have HO2 := Lib.hid (show OwnB w2 B 5 .u8 g2 (n + (k + 1)) cap2 (xs ++ a.l.take (k + 1)) by rw [HS.out, ← List.append_assoc]; exact hO2.out)
      have HB2 := Lib.hid ((HB.out.alloc (by have := HH.out; have h1 := HO.out.lt; omega) _).trans hb2.out)
      have HG2 := Lib.hid (hk2.out h (by have := HH.out; simp; omega) (Ne.symm HN.out))
      clear hO2 hb2 hk2
      go_wp2
      go_roundw
      case rel => exact ⟨k + 1, g2, cap2, by omega, by go_num, rfl, HO2.out, HB2.out, HG2.out.1.trans ((heap_alloc_old wr _ HH.out).trans HG.out), HG2.out.2⟩
      case measure => simp [intOf]; omega
    · have hk' : k = 6 := by omega
      subst hk'
      clear hblk
      go_wp2
      go_ret
      exact ⟨g, cap, rfl, by have := HO.out; rwa [show a.l.take 6 = a.l from rfl] at this, HB.out⟩

theorem or_two_nat (a b : Nat) (ha : a < 256) (hb : b < 256) : bits .or .i64 (a : Int) ((b * 256 : Nat) : Int) = ((a + b * 256 : Nat) : Int) := by
  have hx : a ||| b * 256 = a + b * 256 := by
    have := Nat.shiftLeft_add_eq_or_of_lt (show a < 2 ^ 8 by omega) b
    rw [Nat.shiftLeft_eq] at this
    rw [Nat.or_comm, ← this]; omega
  have e : ∀ n : Nat, n < 65536 → (BitVec.ofInt 64 (n : Int)).toNat = n := fun n hn => by simp [BitVec.toNat_ofInt]; omega
  show IntKind.i64.wrap ((BitVec.ofInt 64 (a : Int) ||| BitVec.ofInt 64 ((b * 256 : Nat) : Int)).toNat : Int) = _
  rw [BitVec.toNat_or, e a (by omega), e (b * 256) (by omega), hx]
  exact IntWalk.i64_in _ ⟨by omega, by omega⟩
theorem or_two (a b : Int) (a0 : 0 ≤ a) (a1 : a ≤ 255) (b0 : 0 ≤ b) (b1 : b ≤ 255) : bits .or .i64 a (b * 256) = a + b * 256 := by
  obtain ⟨A, rfl⟩ := Int.eq_ofNat_of_zero_le a0
  obtain ⟨B, rfl⟩ := Int.eq_ofNat_of_zero_le b0
  have := or_two_nat A B (by omega) (by omega)
  simpa using this

set_option maxRecDepth 100000 in
set_option maxHeartbeats 4000000 in
theorem num_any (b off n c : Nat) (xs : List Int) (w : World) (h : RowB .u8 w (some ⟨b, off, none⟩) n xs) (hn : 2 ≤ n) :
    Calls Tryd.prog 35 #[.slice (some ⟨b, off, none⟩) n c] w fun e w' => e = .returned (.int .i64 (xs.getD 0 0 + xs.getD 1 0 * 256)) ∧ ∃ m, w' = w.drewN m := by
  obtain ⟨b', off', e, hc⟩ := h.cells (by omega)
  cases e
  have c0 := hc 0 (by omega)
  rw [Nat.add_zero] at c0
  have c1 := hc 1 (by omega)
  obtain ⟨l0, u0⟩ := h.wf8 0 (by omega)
  obtain ⟨l1, u1⟩ := h.wf8 1 (by omega)
  have HV := Lib.hid (or_two _ _ l0 u0 l1 u1)
  clear hc h
  generalize xs.getD 0 0 = v0 at *
  generalize xs.getD 1 0 = v1 at *
  have b0 : (0 : Int) < (n : Int) := by omega
  have b1 : (1 : Int) < (n : Int) := by omega
  have x0 := IntWalk.i64_in v0 ⟨by omega, by omega⟩
  have x1 := IntWalk.i64_in v1 ⟨by omega, by omega⟩
  have x2 := IntWalk.i64_in (v1 * 256) ⟨by omega, by omega⟩
  go_enter Tryd.func35, Tryd.ntmps35
  go_wp2
  go_quiet (fail)
  go_wp2
  go_ret
  exact ⟨by rw [← HV.out]; rfl, _, rfl⟩

/-- six bytes, so many of them read. -/
def sixk (xs : List Int) : Nat → A6
  | 0 => ⟨0, 0, 0, 0, 0, 0⟩
  | 1 => ⟨xs.getD 0 0, 0, 0, 0, 0, 0⟩
  | 2 => ⟨xs.getD 0 0, xs.getD 1 0, 0, 0, 0, 0⟩
  | 3 => ⟨xs.getD 0 0, xs.getD 1 0, xs.getD 2 0, 0, 0, 0⟩
  | 4 => ⟨xs.getD 0 0, xs.getD 1 0, xs.getD 2 0, xs.getD 3 0, 0, 0⟩
  | 5 => ⟨xs.getD 0 0, xs.getD 1 0, xs.getD 2 0, xs.getD 3 0, xs.getD 4 0, 0⟩
  | _ => six xs 0
theorem A6.oneCell (a : A6) : a.cells.all (·.oneCell') = true := by simp [Value.oneCell']
theorem size6 : (Tryd.prog.info? 23).map (·.size) = some 6 := by kernel_rfl
theorem results_cell1 {P : Program} {fn : Func} {p : Tmp} {ty : TypeId} (h : fn.results = #[.cell p ty]) (tmps : Array Value) (w : World) (g : Nat) (t : TypeId) (cs : Array Value) (fr : Nat × Nat) (d : TypeDesc)
    (hp : tmps.getD p undef = .pointer (some ⟨g, 0, none⟩)) (hg : w.heap[g]? = some (.cells cs t fr))
    (hu : P.underlying ty = some d) (hd : (match d with | .struct _ | .array _ _ => true | _ => false) = true) (hi : (P.info? ty).map (·.size) = some cs.size) :
    (results fn tmps).run P w = .ok (.agg cs) w := by
  have hp' : tmps[p]?.getD undef = .pointer (some ⟨g, 0, none⟩) := by simpa using hp
  simp [results, h, hp', asAddr, run_loadVar_row w g t ty cs fr d hg hu hd hi]

set_option maxRecDepth 100000 in
set_option maxHeartbeats 4000000 in
theorem six_any (b off n c : Nat) (xs : List Int) (w : World) (h : RowB .u8 w (some ⟨b, off, none⟩) n xs) (hn : 6 ≤ n) :
    Calls Tryd.prog 34 #[.slice (some ⟨b, off, none⟩) n c] w fun e w' => e = .returned (six xs 0).val ∧ Below w.heap.size w w' := by
  have HB1 := Lib.hid (((Below.refl w.heap.size w).alloc (Nat.le_refl _) (.cells (sixk xs 0).cells 23)).alloc (by simp) (.cells (sixk xs 0).cells 23))
  have HG1 := Lib.hid (show ((w.alloc (.cells (sixk xs 0).cells 23)).alloc (.cells (sixk xs 0).cells 23)).heap[w.heap.size]? = some (.cells (sixk xs 0).cells 23 (0, 0)) from (heap_alloc_old _ _ (by simp)).trans (heap_alloc_new w _))
  have HG2 := Lib.hid (show ((w.alloc (.cells (sixk xs 0).cells 23)).alloc (.cells (sixk xs 0).cells 23)).heap[w.heap.size + 1]? = some (.cells (sixk xs 0).cells 23 (0, 0)) from by have := heap_alloc_new (w.alloc (.cells (sixk xs 0).cells 23)) (.cells (sixk xs 0).cells 23); rwa [show (w.alloc (.cells (sixk xs 0).cells 23)).heap.size = w.heap.size + 1 by simp] at this)
  have HR := Lib.hid h
  clear h
  go_enter Tryd.func34, Tryd.ntmps34
  go_wp2
  dsimp only [sixk] at HB1 HG1 HG2
  generalize World.alloc (World.alloc w _) _ = w1 at *
  go_loopw [4] (fun i wr => ∃ k : Int, (k = 0 ∨ k = 1 ∨ k = 2 ∨ k = 3 ∨ k = 4 ∨ k = 5 ∨ k = 6) ∧ i = .int .i64 k ∧ Below w.heap.size w wr ∧ wr.heap[w.heap.size]? = some (.cells (sixk xs 0).cells 23 (0, 0)) ∧ wr.heap[w.heap.size + 1]? = some (.cells (sixk xs k.toNat).cells 23 (0, 0))) (fun i _ => 6 - (intOf i).toNat)
  case atStart => exact ⟨0, by simp, rfl, HB1.out, HG1.out, HG2.out⟩
  case round =>
    obtain ⟨k, hk, rfl, hbel, hb1, hb2⟩ := hrel
    have HB := Lib.hid hbel
    have HZ := Lib.hid hb1
    have HA := Lib.hid hb2
    have hR := (HR.out.below hbel)
    obtain ⟨b', off', e, hc⟩ := hR.cells (by omega)
    cases e
    have HC := Lib.hid hc
    clear hbel hb1 hb2 hR hc HB1 HG1 HG2 HR
    rcases hk with rfl | rfl | rfl | rfl | rfl | rfl | rfl
    · have c0 := HC.out 0 (by omega)
      rw [Nat.add_zero] at c0
      have bk : (0 : Int) < (n : Int) := by omega
      go_wp2_with (refine wpList_store_into rfl 5 (.tmp 14) (.tmp 13) rfl (w.heap.size + 1) 0 (.int .u8 (xs.getD 0 0)) rfl rfl rfl 23 (sixk xs 0).cells (sixk xs 1).cells HA.out sizeU8 (show 0 < 6 by decide) rfl ?_)
      have HB2 := Lib.hid (below_setRow HB.out (Nat.le_succ _) (sixk xs 1).cells)
      have HZ2 := Lib.hid ((setRow_other wr (w.heap.size + 1) w.heap.size (sixk xs 1).cells (Nat.ne_of_lt (Nat.lt_succ_self _))).trans HZ.out)
      have HA2 := Lib.hid (setRow_heap wr (w.heap.size + 1) _ (sixk xs 1).cells _ _ HA.out)
      generalize World.setRow _ _ _ = w2 at *
      go_wp2
      go_roundw
      case rel => exact ⟨1, by simp, by go_num, HB2.out, HZ2.out, HA2.out⟩
      case measure => simp [intOf]
    · have c1 := HC.out 1 (by omega)
      skip
      have bk : (1 : Int) < (n : Int) := by omega
      go_wp2_with (refine wpList_store_into rfl 5 (.tmp 14) (.tmp 13) rfl (w.heap.size + 1) 1 (.int .u8 (xs.getD 1 0)) rfl rfl rfl 23 (sixk xs 1).cells (sixk xs 2).cells HA.out sizeU8 (show 1 < 6 by decide) rfl ?_)
      have HB2 := Lib.hid (below_setRow HB.out (Nat.le_succ _) (sixk xs 2).cells)
      have HZ2 := Lib.hid ((setRow_other wr (w.heap.size + 1) w.heap.size (sixk xs 2).cells (Nat.ne_of_lt (Nat.lt_succ_self _))).trans HZ.out)
      have HA2 := Lib.hid (setRow_heap wr (w.heap.size + 1) _ (sixk xs 2).cells _ _ HA.out)
      generalize World.setRow _ _ _ = w2 at *
      go_wp2
      go_roundw
      case rel => exact ⟨2, by simp, by go_num, HB2.out, HZ2.out, HA2.out⟩
      case measure => simp [intOf]
    · have c2 := HC.out 2 (by omega)
      skip
      have bk : (2 : Int) < (n : Int) := by omega
      go_wp2_with (refine wpList_store_into rfl 5 (.tmp 14) (.tmp 13) rfl (w.heap.size + 1) 2 (.int .u8 (xs.getD 2 0)) rfl rfl rfl 23 (sixk xs 2).cells (sixk xs 3).cells HA.out sizeU8 (show 2 < 6 by decide) rfl ?_)
      have HB2 := Lib.hid (below_setRow HB.out (Nat.le_succ _) (sixk xs 3).cells)
      have HZ2 := Lib.hid ((setRow_other wr (w.heap.size + 1) w.heap.size (sixk xs 3).cells (Nat.ne_of_lt (Nat.lt_succ_self _))).trans HZ.out)
      have HA2 := Lib.hid (setRow_heap wr (w.heap.size + 1) _ (sixk xs 3).cells _ _ HA.out)
      generalize World.setRow _ _ _ = w2 at *
      go_wp2
      go_roundw
      case rel => exact ⟨3, by simp, by go_num, HB2.out, HZ2.out, HA2.out⟩
      case measure => simp [intOf]
    · have c3 := HC.out 3 (by omega)
      skip
      have bk : (3 : Int) < (n : Int) := by omega
      go_wp2_with (refine wpList_store_into rfl 5 (.tmp 14) (.tmp 13) rfl (w.heap.size + 1) 3 (.int .u8 (xs.getD 3 0)) rfl rfl rfl 23 (sixk xs 3).cells (sixk xs 4).cells HA.out sizeU8 (show 3 < 6 by decide) rfl ?_)
      have HB2 := Lib.hid (below_setRow HB.out (Nat.le_succ _) (sixk xs 4).cells)
      have HZ2 := Lib.hid ((setRow_other wr (w.heap.size + 1) w.heap.size (sixk xs 4).cells (Nat.ne_of_lt (Nat.lt_succ_self _))).trans HZ.out)
      have HA2 := Lib.hid (setRow_heap wr (w.heap.size + 1) _ (sixk xs 4).cells _ _ HA.out)
      generalize World.setRow _ _ _ = w2 at *
      go_wp2
      go_roundw
      case rel => exact ⟨4, by simp, by go_num, HB2.out, HZ2.out, HA2.out⟩
      case measure => simp [intOf]
    · have c4 := HC.out 4 (by omega)
      skip
      have bk : (4 : Int) < (n : Int) := by omega
      go_wp2_with (refine wpList_store_into rfl 5 (.tmp 14) (.tmp 13) rfl (w.heap.size + 1) 4 (.int .u8 (xs.getD 4 0)) rfl rfl rfl 23 (sixk xs 4).cells (sixk xs 5).cells HA.out sizeU8 (show 4 < 6 by decide) rfl ?_)
      have HB2 := Lib.hid (below_setRow HB.out (Nat.le_succ _) (sixk xs 5).cells)
      have HZ2 := Lib.hid ((setRow_other wr (w.heap.size + 1) w.heap.size (sixk xs 5).cells (Nat.ne_of_lt (Nat.lt_succ_self _))).trans HZ.out)
      have HA2 := Lib.hid (setRow_heap wr (w.heap.size + 1) _ (sixk xs 5).cells _ _ HA.out)
      generalize World.setRow _ _ _ = w2 at *
      go_wp2
      go_roundw
      case rel => exact ⟨5, by simp, by go_num, HB2.out, HZ2.out, HA2.out⟩
      case measure => simp [intOf]
    · have c5 := HC.out 5 (by omega)
      skip
      have bk : (5 : Int) < (n : Int) := by omega
      go_wp2_with (refine wpList_store_into rfl 5 (.tmp 14) (.tmp 13) rfl (w.heap.size + 1) 5 (.int .u8 (xs.getD 5 0)) rfl rfl rfl 23 (sixk xs 5).cells (sixk xs 6).cells HA.out sizeU8 (show 5 < 6 by decide) rfl ?_)
      have HB2 := Lib.hid (below_setRow HB.out (Nat.le_succ _) (sixk xs 6).cells)
      have HZ2 := Lib.hid ((setRow_other wr (w.heap.size + 1) w.heap.size (sixk xs 6).cells (Nat.ne_of_lt (Nat.lt_succ_self _))).trans HZ.out)
      have HA2 := Lib.hid (setRow_heap wr (w.heap.size + 1) _ (sixk xs 6).cells _ _ HA.out)
      generalize World.setRow _ _ _ = w2 at *
      go_wp2
      go_roundw
      case rel => exact ⟨6, by simp, by go_num, HB2.out, HZ2.out, HA2.out⟩
      case measure => simp [intOf]
    · go_wp2_with (first
        | (refine wpList_load_row rfl 23 (.tmp 3) rfl (w.heap.size + 1) rfl 23 (six xs 0).cells (0, 0) _ HA.out Tryd.underlying23 rfl size6 ?_)
        | (refine wpList_store_row rfl 23 (.tmp 2) (.tmp 15) rfl w.heap.size (six xs 0).cells rfl rfl 23 (sixk xs 0).cells HZ.out size6 rfl (A6.oneCell _) ?_))
      have HY := Lib.hid (setRow_heap wr w.heap.size (sixk xs 0).cells (six xs 0).cells 23 (0, 0) HZ.out)
      refine bodyPost_ret (v := (six xs 0).val) (results_cell1 (p := 2) Tryd.results34 _ _ w.heap.size _ (six xs 0).cells _ _ rfl HY.out Tryd.underlying23 rfl size6) rfl ⟨rfl, below_setRow HB.out (Nat.le_refl _) _⟩
end Go.Proofs.YtjgingfcfmpfaaaDoor
