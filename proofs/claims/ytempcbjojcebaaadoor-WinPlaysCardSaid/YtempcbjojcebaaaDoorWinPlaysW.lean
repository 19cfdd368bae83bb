/-
  The walk of muezzin/muezzinlaw15.WinPlays: the Go text returns true.
-/
import Derived.Test.YtempcbjojcebaaaDoorWinF
import Derived.Test.YtempcbjojcebaaaDoorDoW
import Derived.Test.YtempcbjojcebaaaDoorErrP
import Derived.LoopTactic
import Derived.Deep.CutRange
import Derived.Deep.CutBlock
import Derived.WalkKit
import Derived.ProofKit
import Derived.Below
namespace Go.Proofs.YtempcbjojcebaaaDoor.winPlays
open Go.ChangeShapes Go.WideShapes Go.ChangeAt Go.RowKit Go.Deep
set_option linter.unusedVariables false
set_option linter.unusedSimpArgs false


open Go.Proofs.YtempcbjojcebaaaDoor
theorem inv_line {st gv sz : Nat} (h : st < 4096) (h1 : 1 ≤ sz) (h2 : sz ≤ 64) (hg : gv ≤ sz) : InvW (lineW st gv sz) where
  st := h
  sz := ⟨h1, h2⟩
  gv := hg
  up := List.pairwise_lt_range
  lt := fun d hd => List.mem_range.1 hd
  first := by
    show frontW _ (List.range gv) = 0
    cases gv with
    | zero => rfl
    | succ n => rw [List.range_succ_eq_map]; rfl
theorem below_only {B : Nat} {g : Nat} {a b c : World} (h : Below B a b) (hB : B ≤ a.heap.size) (hg : B ≤ g) (ho : Only (· = g) b c) : Below B a c :=
  h.trans (ho.below (fun i hi e => by omega) (Nat.le_trans hB h.size))

theorem outI_at (x : Wo) {k : Nat} (hk : k < x.ds.length) : (outI x).getD k 0 = ((nmW x (x.ds.getD k 0) : Nat) : Int) := by
  unfold outI
  simp [List.getD, hk]
theorem ds_mem (x : Wo) {k : Nat} (hk : k < x.ds.length) : x.ds.getD k 0 ∈ x.ds := by
  have : x.ds.getD k 0 = x.ds[k] := by simp [List.getD, hk]
  rw [this]; exact List.getElem_mem hk
theorem wf_i64 {n : Int} (h : (Lit.int .i64 n).wf = true) : -9223372036854775808 ≤ n ∧ n ≤ 9223372036854775807 := by
  have h' : IntKind.i64.min ≤ n ∧ n ≤ IntKind.i64.max := by simpa [Lit.wf] using h
  have a : IntKind.i64.min = -9223372036854775808 := by decide
  have b : IntKind.i64.max = 9223372036854775807 := by decide
  rw [a, b] at h'
  exact h'
theorem inv_resize {x : Wo} (hi : InvW x) {n : Nat} (hf : fitB (n : Int) = true) (hd : x.ds = []) : InvW ⟨x.st, x.gv, n, x.ds⟩ where
  st := hi.st
  sz := by unfold fitB at hf; simp at hf; dsimp only; omega
  gv := by rw [show (Wo.mk x.st x.gv n x.ds).gv = x.gv from rfl, inv_none hi hd]; exact Nat.zero_le _
  up := hi.up
  lt := hi.lt
  first := hi.first
/-- the window at g, the reference's at h: they stand for x and y. -/
structure WP (w wx : World) (g h : Nat) (v : Value) (x y : Wo) : Prop where
  win : IsWin wx g x
  rw : IsRw wx h v y
  ng : ∀ k, FootR h v k → k ≠ g ∧ w.heap.size ≤ k
  gw : w.heap.size ≤ g
  bel : Below w.heap.size w wx
theorem WP.quiet {w wx wy : World} {g h : Nat} {v : Value} {x y : Wo} (p : WP w wx g h v x y) (hb : Below wx.heap.size wx wy) : WP w wy g h v x y :=
  ⟨p.win.below hb, p.rw.quiet hb, p.ng, p.gw, p.bel.trans (hb.mono p.bel.size)⟩
theorem WP.code {w wx wy : World} {g h : Nat} {v : Value} {x y x' : Wo} (p : WP w wx g h v x y) (ho : Only (· = g) wx wy) (hx : IsWin wy g x') : WP w wy g h v x' y :=
  ⟨hx, p.rw.only ho fun k hk e => (p.ng k hk).1 e, p.ng, p.gw, below_only p.bel (Nat.le_refl _) p.gw ho⟩
theorem WP.ref {w wx wy : World} {g h : Nat} {v v' : Value} {x y y' : Wo} (p : WP w wx g h v x y) (hs : RwS wx h v wy v') (hy : IsRw wy h v' y') : WP w wy g h v' x y' :=
  ⟨p.win.only hs.only fun e => (p.ng g e).1 rfl, hy, fun k hk => by
    rcases hs.fresh k hk with h1 | h1
    · exact p.ng k h1
    · have := p.win.lt; have := p.bel.size; exact ⟨by omega, by omega⟩, p.gw, p.bel.trans (hs.only.below (fun i hi e => by have := (p.ng i e).2; omega) p.bel.size)⟩
/-- a copy at c, which neither of the two touches. -/
structure CP (wx : World) (g h : Nat) (v : Value) (c : Nat) (z : Wo) : Prop where
  win : IsWin wx c z
  ng : c ≠ g
  nr : ∀ k, FootR h v k → k ≠ c
theorem CP.quiet {wx wy : World} {g h c : Nat} {v : Value} {z : Wo} (p : CP wx g h v c z) (hb : Below wx.heap.size wx wy) : CP wy g h v c z := ⟨p.win.below hb, p.ng, p.nr⟩
theorem CP.code {wx wy : World} {g h c : Nat} {v : Value} {z : Wo} (p : CP wx g h v c z) (ho : Only (· = g) wx wy) : CP wy g h v c z := ⟨p.win.only ho fun e => p.ng e, p.ng, p.nr⟩
theorem CP.ref {wx wy : World} {g h c : Nat} {v v' : Value} {z : Wo} (p : CP wx g h v c z) (hs : RwS wx h v wy v') : CP wy g h v' c z :=
  ⟨p.win.only hs.only fun e => p.nr c e rfl, p.ng, fun k hk => by
    rcases hs.fresh k hk with h1 | h1
    · exact p.nr k h1
    · have := p.win.lt; omega⟩

/-! ### THE WALK -/
set_option maxRecDepth 100000 in
set_option maxHeartbeats 8000000 in
theorem walk (n0 : Int) (n1 : Int) (a2 : Option Addr) (len2 cap2 : Nat) (l2 : List (Int × Int)) (w : World) (E : Nat → Addr) (hS : Sent w E [101, 102, 103, 104, 105, 106, 107, 108, 109, 110, 111, 112, 113, 114]) (hT : Tab64 w) (w0 : (Lit.int .i64 n0).wf = true) (w1 : (Lit.int .i64 n1).wf = true) (w2 : RowS doC 2 (0, 0) w a2 len2 l2 ∧ len2 ≤ cap2 ∧ ∀ u ∈ l2, okDo2 u) :
    Calls Tryd.prog 3 #[.int .i64 n0, .int .i64 n1, .slice a2 len2 cap2] w fun e w' => e = .returned (.bool true) ∧ Below w.heap.size w w' := by
  have HS := Shut.mk hS
  have HT := Shut.mk hT
  have W0 := Shut.mk (wf_i64 w0)
  have W1 := Shut.mk (wf_i64 w1)
  clear hS hT w0 w1
  obtain ⟨hr2, hc2, hok2⟩ := w2
  have HR2 := Shut.mk hr2
  have HOK := Shut.mk hok2
  have HL2 := Shut.mk hr2.len
  clear hr2 hc2 hok2
  go_enter Tryd.func3, Tryd.ntmps3
  go_wp2_with (fail)
  refine (first_any w).mono ?_
  rintro e wa ⟨rfl, hBa⟩
  have HBa := Shut.mk hBa
  clear hBa
  go_wp2_with (fail)
  by_cases hval : 0 ≤ n0 ∧ n0 < 4096 ∧ 1 ≤ n1 ∧ n1 ≤ 64
  rotate_left
  · refine (new_no n0 n1 hval wa E ((HS.out.below HBa.out).at_ 103 (by decide))).mono ?_
    rintro e wb ⟨rfl, hb⟩
    have HBb := Shut.mk (HBa.out.trans (hb.mono HBa.out.size))
    have hvf : validB n0 n1 = false := by unfold validB fitB; simp; omega
    have HV := Shut.mk (refvalid_any n0 n1 wb)
    rw [hvf] at HV
    clear hb hvf hval
    go_wp2_with (fail)
    refine HV.out.mono ?_
    rintro e wn ⟨rfl, rfl⟩
    go_wp2_with (fail)
    refine (is_any E 103 103 wb (HS.out.below HBb.out) (.inr (by decide))).mono ?_
    rintro e wc ⟨rfl, hb⟩
    have HBc := Shut.mk (HBb.out.trans (hb.mono HBb.out.size))
    clear hb
    go_wp2_with (fail)
    go_ret
    exact ⟨rfl, HBc.out⟩
  obtain ⟨s, hs⟩ := Int.eq_ofNat_of_zero_le hval.1
  obtain ⟨z, hz⟩ := Int.eq_ofNat_of_zero_le (show 0 ≤ n1 by omega)
  subst hs
  subst hz
  have Hs := Shut.mk (show s < 4096 by omega)
  have HZ := Shut.mk (show 1 ≤ z ∧ z ≤ 64 by omega)
  have hz1 := HZ.out.1
  have hz2 := HZ.out.2
  have hvt : validB (s : Int) (z : Int) = true := by unfold validB fitB; simp; omega
  clear hval
  refine (new_ok s z Hs.out (by omega) (by omega) wa).mono ?_
  rintro e wb ⟨rfl, hx, hb⟩
  obtain ⟨g, hg⟩ : ∃ g, g = wa.heap.size := ⟨_, rfl⟩
  rw [← hg] at hx ⊢
  have HGW := Shut.mk (show w.heap.size ≤ g by have := HBa.out.size; omega)
  have HXb := Shut.mk hx
  have HGT := Shut.mk (show g ≠ 3 from fun e => by have h1 := cell_lt' (HT.out 0 (by decide)); have h2 := HGW.out; have h3 : 3 < w.heap.size := h1; omega)
  have HBb := Shut.mk (HBa.out.trans (hb.mono HBa.out.size))
  clear hx hb hg HBa
  have HI0 := Shut.mk (inv_new Hs.out HZ.out.1 HZ.out.2)
  have HV := Shut.mk (refvalid_any (s : Int) (z : Int) wb)
  rw [hvt] at HV
  clear hvt
  go_wp2_with (fail)
  refine HV.out.mono ?_
  rintro e wn ⟨rfl, rfl⟩
  rcases Nat.lt_or_ge 200 len2 with hN | hN
  · have hN' : (200 : Int) < (len2 : Int) := by omega
    go_wp2_with (fail)
    go_ret
    exact ⟨rfl, HBb.out⟩
  have hN1 : ¬ (200 : Int) < (len2 : Int) := by omega
  have hN2 : ¬ 200 < len2 := by omega
  go_wp2_with (fail)
  refine (refnew_any s z wb Hs.out).mono ?_
  rintro e wc ⟨rfl, hx, hb⟩
  obtain ⟨h, hh⟩ : ∃ h, h = wb.heap.size := ⟨_, rfl⟩
  rw [← hh] at hx ⊢
  have HP0 := Shut.mk (show WP w wc g h (.slice none 0 0) (newW s z) (newW s z) from ⟨HXb.out.below hb, hx, (fun k hk => by
    rcases hk with rfl | hk
    · have h1 := HXb.out.lt; have h2 := HBb.out.size; omega
    · cases hk), HGW.out, HBb.out.trans (hb.mono HBb.out.size)⟩)
  have HN := Shut.mk hN
  clear hx hb hh HBb HXb HV hN1 hN2 hN
  go_wp2_with (fail)
  go_loopw [11, 12, 13, 14, 15, 16, 17, 18] (fun fi _ _ _ _ _ _ _ wr => ∃ (i : Nat) (x : Wo) (v : Value), i ≤ len2 ∧ fi = .int .i64 i ∧ Shut (InvW x) ∧ Shut (WP w wr g h v x x)) (fun fi _ _ _ _ _ _ _ _ => len2 - (intOf fi).toNat)
  case atStart => exact ⟨0, newW s z, _, Nat.zero_le _, rfl, HI0, HP0⟩
  case round =>
    clear HI0 HP0
    obtain ⟨i, x, v, hi, rfl, HI, HP⟩ := hrel
    by_cases hin : i < len2
    · have hin2 : (i : Int) < (len2 : Int) := by omega
      go_wp2_with (fail)
      refine (clone_any g x wr HP.out.win).mono ?_
      rintro e w2 ⟨rfl, hx, hb⟩
      obtain ⟨c, hc⟩ : ∃ c, c = wr.heap.size := ⟨_, rfl⟩
      rw [← hc] at hx ⊢
      have HP2 := Shut.mk (HP.out.quiet hb)
      have HC2 := Shut.mk (show CP w2 g h v c x from ⟨hx, by have := HP.out.win.lt; omega, fun k hk => by have := HP.out.rw.lt k hk; omega⟩)
      clear hx hb hc
      go_wp2_with (fail)
      refine (ahead_any c x w2 HC2.out.win).mono ?_
      rintro e wn ⟨rfl, rfl⟩
      obtain ⟨b2, off2, rfl, hrg⟩ := (HR2.out.below HP2.out.bel).el i hin
      have hk1 : w2.cell? ⟨b2, off2 + i * 2, none⟩ = some (.int .i64 (l2.getD i (0, 0)).1) := by simpa using hrg 0 _ rfl
      have hk2 : w2.cell? ⟨b2, off2 + i * 2 + 1, none⟩ = some (.int .i64 (l2.getD i (0, 0)).2) := by simpa using hrg 1 _ rfl
      obtain ⟨ka, kb, hu, hwa, hwb⟩ := HOK.out (l2.getD i (0, 0)) (by
        have e : l2.getD i (0, 0) = l2[i]'(by rw [HL2.out]; exact hin) := by simp [List.getD, show i < l2.length by rw [HL2.out]; exact hin]
        rw [e]; exact List.getElem_mem _)
      rw [hu] at hk1 hk2
      dsimp only at hk1 hk2
      have HWB := Shut.mk hwb
      clear hrg hu hwa hwb
      go_upto_block 2 with (fail)
      go_cut [14, 15, 16, 17, 18] from 84 to 149 (fun _ _ _ _ _ wx => ∃ (y : Wo) (v : Value), Shut (InvW y) ∧ Shut (WP w wx g h v y y) ∧ Shut (CP wx g h v c x))
      case first =>
        by_cases hka : ka = 1
        · subst hka
          by_cases hgz : x.gv < x.sz
          · go_wp2_with (fail)
            refine (next_ok g x w2 HP2.out.win HI.out hgz).mono ?_
            rintro e w3 ⟨rfl, hx, ho⟩
            have HP3 := Shut.mk (HP2.out.code ho hx)
            have HC3 := Shut.mk (HC2.out.code ho)
            clear hx ho
            go_wp2_with (fail)
            refine (refnext_ok h v x w3 HP3.out.rw HI.out hgz).mono ?_
            rintro e w4 ⟨rfl, v4, hx, ho⟩
            have HP4 := Shut.mk (HP3.out.ref ho hx)
            have HC4 := Shut.mk (HC3.out.ref ho)
            clear hx ho
            go_wp2_with (fail)
            go_meet
            exact ⟨nextW x, v4, ⟨inv_next HI.out hgz⟩, HP4, HC4⟩
          · go_wp2_with (fail)
            refine (next_no g x w2 HP2.out.win HI.out hgz).mono ?_
            rintro e w3 ⟨rfl, n3, hn3⟩
            have HP3 := Shut.mk (show WP w w3 g h v x x by rw [hn3]; exact HP2.out.quiet (below_drewN (Below.refl _ _) n3))
            have HC3 := Shut.mk (show CP w3 g h v c x by rw [hn3]; exact HC2.out.quiet (below_drewN (Below.refl _ _) n3))
            clear hn3
            go_wp2_with (fail)
            refine (refnext_no h v x w3 HP3.out.rw hgz).mono ?_
            rintro e w4 ⟨rfl, n4, hn4⟩
            have HP4 := Shut.mk (show WP w w4 g h v x x by rw [hn4]; exact HP3.out.quiet (below_drewN (Below.refl _ _) n4))
            have HC4 := Shut.mk (show CP w4 g h v c x by rw [hn4]; exact HC3.out.quiet (below_drewN (Below.refl _ _) n4))
            clear hn4
            go_wp2_with (fail)
            go_meet
            exact ⟨x, v, HI, HP4, HC4⟩
        · have hka1 : (ka == 1) = false := by simpa using hka
          by_cases hk2' : ka = 2
          · subst hk2'
            go_wp2_with (fail)
            cases hob : outB_ x kb with
            | true =>
              obtain ⟨d, hd, hm⟩ : ∃ d ∈ x.ds, kb = ((nmW x d : Nat) : Int) := by unfold outB_ at hob; exact of_decide_eq_true hob
              have HD := Shut.mk hd
              have HM := Shut.mk hm
              clear hob hm hd
              have hdn := done_ok g x d w2 HP2.out.win HI.out HD.out (HT.out.below HP2.out.bel) HGT.out
              rw [← HM.out] at hdn
              refine hdn.mono ?_
              clear hdn
              rintro e w6 ⟨rfl, hx, ho⟩
              have HP6 := Shut.mk (HP2.out.code ho hx)
              have HC6 := Shut.mk (HC2.out.code ho)
              clear hx ho
              go_wp2_with (fail)
              have hdn := refdone_ok h v x d w6 HP6.out.rw HI.out HD.out
              rw [← HM.out] at hdn
              refine hdn.mono ?_
              clear hdn
              rintro e w7 ⟨rfl, v7, hx, ho⟩
              have HP7 := Shut.mk (HP6.out.ref ho hx)
              have HC7 := Shut.mk (HC6.out.ref ho)
              clear hx ho
              go_wp2_with (fail)
              have hz0 := is_any E 0 0 w7 (HS.out.below HP7.out.bel) (.inl rfl)
              rw [errV_zero] at hz0
              refine hz0.mono ?_
              clear hz0
              rintro e w8 ⟨rfl, hb8⟩
              have HP8 := Shut.mk (HP7.out.quiet hb8)
              have HC8 := Shut.mk (HC7.out.quiet hb8)
              clear hb8
              go_wp2_with (fail)
              go_meet
              exact ⟨doneW x d, v7, ⟨inv_done HI.out d⟩, HP8, HC8⟩
            | false =>
              have HOB := Shut.mk hob
              clear hob
              refine (done_no g x kb w2 HP2.out.win HI.out HOB.out E ((HS.out.below HP2.out.bel).at_ 107 (by decide))).mono ?_
              rintro e w6 ⟨rfl, n6, hn6⟩
              have HP6 := Shut.mk (show WP w w6 g h v x x by rw [hn6]; exact HP2.out.quiet (below_drewN (Below.refl _ _) n6))
              have HC6 := Shut.mk (show CP w6 g h v c x by rw [hn6]; exact HC2.out.quiet (below_drewN (Below.refl _ _) n6))
              clear hn6
              go_wp2_with (fail)
              refine (refdone_no h v x kb w6 HP6.out.rw HI.out HOB.out).mono ?_
              rintro e w7 ⟨rfl, hw7⟩
              subst hw7
              go_wp2_with (fail)
              refine (is_any E 107 107 w6 (HS.out.below HP6.out.bel) (.inr (by decide))).mono ?_
              rintro e w8 ⟨rfl, hb8⟩
              have HP8 := Shut.mk (HP6.out.quiet hb8)
              have HC8 := Shut.mk (HC6.out.quiet hb8)
              clear hb8
              go_wp2_with (fail)
              go_meet
              exact ⟨x, v, HI, HP8, HC8⟩
          · have hka2 : (ka == 2) = false := by simpa using hk2'
            by_cases hk3 : ka = 3
            · subst hk3
              obtain ⟨A3, c3, hv, hc3, -⟩ := HP2.out.rw.row.form
              rw [outI_len] at hv hc3
              have hcell : w2.cell? ⟨h, 3, none⟩ = some v := HP2.out.rw.cell.2.2.2
              rw [hv] at hcell
              have HRB := Shut.mk (show RowB .i64 w2 A3 x.ds.length (outI x) by
                have h1 := HP2.out.rw.row
                rw [hv] at h1
                have h2 := RowN.row (A := A3) (c := c3) (l := outI x) (w := w2) (by rw [outI_len]; exact h1) (by rw [outI_len]; have := out_len HI.out; have := HI.out.gv; have := HI.out.sz; unfold maxLen; omega) (outI_wf x)
                rwa [outI_len] at h2)
              have HLE := Shut.mk (show x.ds.length ≤ 64 by have := out_len HI.out; have := HI.out.gv; have := HI.out.sz; omega)
              obtain ⟨n, hn⟩ : ∃ n, n = x.ds.length := ⟨_, rfl⟩
              rw [← hn] at HRB HLE hc3 hcell
              have HN9 := Shut.mk hn
              clear hn hv
              by_cases hp : 0 < n
              · have hp2 : (0 : Int) < (n : Int) := by omega
                have hm0 := nmod_lo kb n (by omega)
                have hm1 := nmod_hi kb n (by omega)
                obtain ⟨q, hnm⟩ := Int.eq_ofNat_of_zero_le hm0
                have HNU := Shut.mk (fun k => quiet_b (congrArg (Value.int .i64) hnm) (number_any kb n (w2.drewN k) HWB.out (by omega) (by have := HLE.out; omega)))
                rw [hnm] at hm1
                clear hm0 hnm
                have hqn : q < n := by omega
                obtain ⟨b4, off4, rfl, hcq⟩ := HRB.out.el q hqn
                rw [outI_at x (by rw [← HN9.out]; exact hqn)] at hcq
                obtain ⟨d0, hd0⟩ : ∃ d, d = x.ds.getD q 0 := ⟨_, rfl⟩
                rw [← hd0] at hcq
                clear hd0
                go_wp2_with (fail)
                go_quiet ((go_at_call 16; exact HNU.out _))
                go_wp2_with (fail)
                generalize hq : World.drewN w2 _ = w5
                have HP5 := Shut.mk (show WP w w5 g h v x x by rw [← hq]; exact HP2.out.quiet (below_drewN (Below.refl _ _) _))
                have HC5 := Shut.mk (show CP w5 g h v c x by rw [← hq]; exact HC2.out.quiet (below_drewN (Below.refl _ _) _))
                clear hq hcq hcell hk1 hk2
                obtain ⟨m, hm⟩ : ∃ m : Int, m = ((nmW x d0 : Nat) : Int) := ⟨_, rfl⟩
                rw [← hm]
                clear hm
                cases hob : outB_ x m with
                | true =>
                  obtain ⟨d, hd, hm⟩ : ∃ d ∈ x.ds, m = ((nmW x d : Nat) : Int) := by unfold outB_ at hob; exact of_decide_eq_true hob
                  have HD := Shut.mk hd
                  have HM := Shut.mk hm
                  clear hob hm hd
                  have hdn := done_ok g x d w5 HP5.out.win HI.out HD.out (HT.out.below HP5.out.bel) HGT.out
                  rw [← HM.out] at hdn
                  refine hdn.mono ?_
                  clear hdn
                  rintro e w6 ⟨rfl, hx, ho⟩
                  have HP6 := Shut.mk (HP5.out.code ho hx)
                  have HC6 := Shut.mk (HC5.out.code ho)
                  clear hx ho
                  go_wp2_with (fail)
                  have hdn := refdone_ok h v x d w6 HP6.out.rw HI.out HD.out
                  rw [← HM.out] at hdn
                  refine hdn.mono ?_
                  clear hdn
                  rintro e w7 ⟨rfl, v7, hx, ho⟩
                  have HP7 := Shut.mk (HP6.out.ref ho hx)
                  have HC7 := Shut.mk (HC6.out.ref ho)
                  clear hx ho
                  go_wp2_with (fail)
                  have hz0 := is_any E 0 0 w7 (HS.out.below HP7.out.bel) (.inl rfl)
                  rw [errV_zero] at hz0
                  refine hz0.mono ?_
                  clear hz0
                  rintro e w8 ⟨rfl, hb8⟩
                  have HP8 := Shut.mk (HP7.out.quiet hb8)
                  have HC8 := Shut.mk (HC7.out.quiet hb8)
                  clear hb8
                  go_wp2_with (fail)
                  go_meet
                  exact ⟨doneW x d, v7, ⟨inv_done HI.out d⟩, HP8, HC8⟩
                | false =>
                  have HOB := Shut.mk hob
                  clear hob
                  refine (done_no g x m w5 HP5.out.win HI.out HOB.out E ((HS.out.below HP5.out.bel).at_ 107 (by decide))).mono ?_
                  rintro e w6 ⟨rfl, n6, hn6⟩
                  have HP6 := Shut.mk (show WP w w6 g h v x x by rw [hn6]; exact HP5.out.quiet (below_drewN (Below.refl _ _) n6))
                  have HC6 := Shut.mk (show CP w6 g h v c x by rw [hn6]; exact HC5.out.quiet (below_drewN (Below.refl _ _) n6))
                  clear hn6
                  go_wp2_with (fail)
                  refine (refdone_no h v x m w6 HP6.out.rw HI.out HOB.out).mono ?_
                  rintro e w7 ⟨rfl, hw7⟩
                  subst hw7
                  go_wp2_with (fail)
                  refine (is_any E 107 107 w6 (HS.out.below HP6.out.bel) (.inr (by decide))).mono ?_
                  rintro e w8 ⟨rfl, hb8⟩
                  have HP8 := Shut.mk (HP6.out.quiet hb8)
                  have HC8 := Shut.mk (HC6.out.quiet hb8)
                  clear hb8
                  go_wp2_with (fail)
                  go_meet
                  exact ⟨x, v, HI, HP8, HC8⟩
              · obtain rfl : n = 0 := by omega
                go_wp2_with (fail)
                cases hob : outB_ x kb with
                | true =>
                  obtain ⟨d, hd, hm⟩ : ∃ d ∈ x.ds, kb = ((nmW x d : Nat) : Int) := by unfold outB_ at hob; exact of_decide_eq_true hob
                  have HD := Shut.mk hd
                  have HM := Shut.mk hm
                  clear hob hm hd
                  have hdn := done_ok g x d w2 HP2.out.win HI.out HD.out (HT.out.below HP2.out.bel) HGT.out
                  rw [← HM.out] at hdn
                  refine hdn.mono ?_
                  clear hdn
                  rintro e w6 ⟨rfl, hx, ho⟩
                  have HP6 := Shut.mk (HP2.out.code ho hx)
                  have HC6 := Shut.mk (HC2.out.code ho)
                  clear hx ho
                  go_wp2_with (fail)
                  have hdn := refdone_ok h v x d w6 HP6.out.rw HI.out HD.out
                  rw [← HM.out] at hdn
                  refine hdn.mono ?_
                  clear hdn
                  rintro e w7 ⟨rfl, v7, hx, ho⟩
                  have HP7 := Shut.mk (HP6.out.ref ho hx)
                  have HC7 := Shut.mk (HC6.out.ref ho)
                  clear hx ho
                  go_wp2_with (fail)
                  have hz0 := is_any E 0 0 w7 (HS.out.below HP7.out.bel) (.inl rfl)
                  rw [errV_zero] at hz0
                  refine hz0.mono ?_
                  clear hz0
                  rintro e w8 ⟨rfl, hb8⟩
                  have HP8 := Shut.mk (HP7.out.quiet hb8)
                  have HC8 := Shut.mk (HC7.out.quiet hb8)
                  clear hb8
                  go_wp2_with (fail)
                  go_meet
                  exact ⟨doneW x d, v7, ⟨inv_done HI.out d⟩, HP8, HC8⟩
                | false =>
                  have HOB := Shut.mk hob
                  clear hob
                  refine (done_no g x kb w2 HP2.out.win HI.out HOB.out E ((HS.out.below HP2.out.bel).at_ 107 (by decide))).mono ?_
                  rintro e w6 ⟨rfl, n6, hn6⟩
                  have HP6 := Shut.mk (show WP w w6 g h v x x by rw [hn6]; exact HP2.out.quiet (below_drewN (Below.refl _ _) n6))
                  have HC6 := Shut.mk (show CP w6 g h v c x by rw [hn6]; exact HC2.out.quiet (below_drewN (Below.refl _ _) n6))
                  clear hn6
                  go_wp2_with (fail)
                  refine (refdone_no h v x kb w6 HP6.out.rw HI.out HOB.out).mono ?_
                  rintro e w7 ⟨rfl, hw7⟩
                  subst hw7
                  go_wp2_with (fail)
                  refine (is_any E 107 107 w6 (HS.out.below HP6.out.bel) (.inr (by decide))).mono ?_
                  rintro e w8 ⟨rfl, hb8⟩
                  have HP8 := Shut.mk (HP6.out.quiet hb8)
                  have HC8 := Shut.mk (HC6.out.quiet hb8)
                  clear hb8
                  go_wp2_with (fail)
                  go_meet
                  exact ⟨x, v, HI, HP8, HC8⟩
            · have hka3 : (ka == 3) = false := by simpa using hk3
              cases hft : fitB kb with
              | false =>
                have HFT := Shut.mk hft
                clear hft
                go_wp2_with (fail)
                refine (resize_range g kb w2 HFT.out E ((HS.out.below HP2.out.bel).at_ 103 (by decide))).mono ?_
                rintro e w6 ⟨rfl, hw6⟩
                subst hw6
                go_wp2_with (fail)
                refine (refresize_range h kb w2 HFT.out).mono ?_
                rintro e w7 ⟨rfl, hw7⟩
                subst hw7
                go_wp2_with (fail)
                refine (is_any E 103 103 w2 (HS.out.below HP2.out.bel) (.inr (by decide))).mono ?_
                rintro e w8 ⟨rfl, hb8⟩
                have HP8 := Shut.mk (HP2.out.quiet hb8)
                have HC8 := Shut.mk (HC2.out.quiet hb8)
                clear hb8
                go_wp2_with (fail)
                go_meet
                exact ⟨x, v, HI, HP8, HC8⟩
              | true =>
                have HFT := Shut.mk hft
                clear hft
                by_cases hds : x.ds = []
                · have HDS := Shut.mk hds
                  obtain ⟨n, hn⟩ : ∃ n : Nat, kb = (n : Int) := ⟨kb.toNat, by have h1 := HFT.out; unfold fitB at h1; simp at h1; omega⟩
                  have HM := Shut.mk hn
                  have HFN := Shut.mk (show fitB (n : Int) = true by rw [← hn]; exact HFT.out)
                  clear hds hn
                  go_wp2_with (fail)
                  have hdn := resize_ok g x n w2 HP2.out.win HFN.out HDS.out
                  rw [← HM.out] at hdn
                  refine hdn.mono ?_
                  clear hdn
                  rintro e w6 ⟨rfl, hx, ho⟩
                  have HP6 := Shut.mk (HP2.out.code ho hx)
                  have HC6 := Shut.mk (HC2.out.code ho)
                  clear hx ho
                  go_wp2_with (fail)
                  have hdn := refresize_ok h v x n w6 HP6.out.rw HFN.out HDS.out
                  rw [← HM.out] at hdn
                  refine hdn.mono ?_
                  clear hdn
                  rintro e w7 ⟨rfl, hx, ho⟩
                  have HP7 := Shut.mk (HP6.out.ref ho hx)
                  have HC7 := Shut.mk (HC6.out.ref ho)
                  clear hx ho
                  go_wp2_with (fail)
                  have hz0 := is_any E 0 0 w7 (HS.out.below HP7.out.bel) (.inl rfl)
                  rw [errV_zero] at hz0
                  refine hz0.mono ?_
                  clear hz0
                  rintro e w8 ⟨rfl, hb8⟩
                  have HP8 := Shut.mk (HP7.out.quiet hb8)
                  have HC8 := Shut.mk (HC7.out.quiet hb8)
                  clear hb8
                  go_wp2_with (fail)
                  go_meet
                  exact ⟨⟨x.st, x.gv, n, x.ds⟩, v, ⟨inv_resize HI.out HFN.out HDS.out⟩, HP8, HC8⟩
                · have HDS := Shut.mk hds
                  clear hds
                  go_wp2_with (fail)
                  refine (resize_state g x kb w2 HP2.out.win HFT.out HDS.out E ((HS.out.below HP2.out.bel).at_ 110 (by decide))).mono ?_
                  rintro e w6 ⟨rfl, hw6⟩
                  subst hw6
                  go_wp2_with (fail)
                  refine (refresize_state h v x kb w2 HP2.out.rw HFT.out HDS.out).mono ?_
                  rintro e w7 ⟨rfl, hw7⟩
                  subst hw7
                  go_wp2_with (fail)
                  refine (is_any E 110 110 w2 (HS.out.below HP2.out.bel) (.inr (by decide))).mono ?_
                  rintro e w8 ⟨rfl, hb8⟩
                  have HP8 := Shut.mk (HP2.out.quiet hb8)
                  have HC8 := Shut.mk (HC2.out.quiet hb8)
                  clear hb8
                  go_wp2_with (fail)
                  go_meet
                  exact ⟨x, v, HI, HP8, HC8⟩
      case rest =>
        clear HI
        obtain ⟨y, v, HI, HP3, HC3⟩ := hcut
        clear HP HP2 HC2 hk1 hk2 HWB
        obtain ⟨A3, c3, hv, hc3, -⟩ := HP3.out.rw.row.form
        subst hv
        have HLE := Shut.mk (show y.ds.length ≤ 64 by have := out_len HI.out; have := HI.out.gv; have := HI.out.sz; omega)
        have HRW0 := HP3.out.rw.row.row (by rw [outI_len]; have h1 := HLE.out; unfold maxLen; omega) (outI_wf y)
        have HSB := Shut.mk (show sameB (outI y) (outI y) = true by simp [sameB])
        obtain ⟨w5, hw5⟩ : ∃ wq, wq = World.drew wc := ⟨_, rfl⟩
        have HWw5 := Shut.mk hw5
        have HDw5 := Shut.mk (show Below wc.heap.size wc w5 by rw [hw5]; exact (Below.refl _ _).drew)
        have HP5 := Shut.mk (HP3.out.quiet HDw5.out)
        have HC5 := Shut.mk (HC3.out.quiet HDw5.out)
        have HRW := Shut.mk (HRW0.below HDw5.out)
        clear hw5 HRW0 hc3
        go_upto_region 30 with (fail)
        refine wp_region_D (fun w' => Below w5.heap.size w5 w') 38 (by kernel_rfl) (show Below w5.heap.size w5 (World.drew wc) by rw [HWw5.out]; exact Below.refl _ _) (fun hHeld hC => ?_)
        rw [← HWw5.out] at hHeld ⊢
        refine wpAnyD_pure (i := 0) (v := ?_) rfl hC (by kernel_rfl) (by kernel_rfl) (by kernel_rfl) (by decide) (fun _ _ _ h => h) (Or.inl ⟨by rfl, ?_⟩) (fun _ => hHeld) ?_
        rotate_left
        · intro w hSw
          clear hSw
          go_simp
          try with_reducible rfl
        try simp only [Act.put, List.getElem_toArray, List.getElem_cons_zero, List.getElem_cons_succ, List.setIfInBounds_toArray, List.set_cons_zero, List.set_cons_succ]
        clear hC
        intro hC
        refine wpAnyD_pure (i := 2) (v := ?_) rfl hC (by kernel_rfl) (by kernel_rfl) (by kernel_rfl) (by decide) (fun _ _ _ h => h) (Or.inl ⟨by rfl, ?_⟩) (fun _ => hHeld) ?_
        rotate_left
        · intro w hSw
          clear hSw
          go_simp
          try with_reducible rfl
        try simp only [Act.put, List.getElem_toArray, List.getElem_cons_zero, List.getElem_cons_succ, List.setIfInBounds_toArray, List.set_cons_zero, List.set_cons_succ]
        clear hC
        intro hC
        refine wpAnyD_pure (i := 3) (v := ?_) rfl hC (by kernel_rfl) (by kernel_rfl) (by kernel_rfl) (by decide) (fun _ _ _ h => h) (Or.inl ⟨by rfl, ?_⟩) (fun _ => hHeld) ?_
        rotate_left
        · intro w hSw
          clear hSw
          go_simp
          try with_reducible rfl
        try simp only [Act.put, List.getElem_toArray, List.getElem_cons_zero, List.getElem_cons_succ, List.setIfInBounds_toArray, List.set_cons_zero, List.set_cons_succ]
        clear hC
        intro hC
        refine wpAnyD_pure (i := 4) (v := ?_) rfl hC (by kernel_rfl) (by kernel_rfl) (by kernel_rfl) (by decide) (fun _ _ _ h => h) (Or.inl ⟨by rfl, ?_⟩) (fun _ => hHeld) ?_
        rotate_left
        · intro w hSw
          clear hSw
          go_simp
          try with_reducible rfl
        try simp only [Act.put, List.getElem_toArray, List.getElem_cons_zero, List.getElem_cons_succ, List.setIfInBounds_toArray, List.set_cons_zero, List.set_cons_succ]
        clear hC
        intro hC
        refine wpAnyD_take (i := 5) (v := ?_) 40 rfl (by kernel_rfl) hC (by kernel_rfl) (by kernel_rfl) (by kernel_rfl) (by decide) (fun _ _ _ h => h) (Or.inl ⟨by rfl, ?_⟩) (fun _ => hHeld) ?_
        rotate_left
        · intro w hSw
          have hz := (show w.cell? ⟨h, 0, none⟩ = some (.int .i64 ((y.st : Nat) : Int)) from below_at hSw HP5.out.rw.cell.1)
          clear hSw
          go_simp
          try with_reducible rfl
        try simp only [Act.put, List.getElem_toArray, List.getElem_cons_zero, List.getElem_cons_succ, List.setIfInBounds_toArray, List.set_cons_zero, List.set_cons_succ]
        clear hC
        intro hC
        refine wpAnyD_one (i := 1) (by kernel_rfl) rfl hC (fun K hK => ?_)
        clear hC
        go_simp
        refine (start_any g y w5 (HP5.out.win.below hHeld)).mono ?_
        rintro e' wv1 ⟨rfl, hwv1⟩
        subst hwv1
        have hHeld2 := hHeld
        clear hHeld
        have hHeld := hHeld2
        clear hHeld2
        refine hK.out _ _ (fun _ => hHeld) (fun hC => ?_)
        clear hK K
        try simp only [Act.put, List.getElem_toArray, List.getElem_cons_zero, List.getElem_cons_succ, List.setIfInBounds_toArray, List.set_cons_zero, List.set_cons_succ]
        refine wpAnyD_pure (i := 6) (v := ?_) rfl hC (by kernel_rfl) (by kernel_rfl) (by kernel_rfl) (by decide) (fun _ _ _ h => h) (Or.inl ⟨by rfl, ?_⟩) (fun _ => hHeld) ?_
        rotate_left
        · intro w hSw
          clear hSw
          go_simp
          try with_reducible rfl
        try simp only [Act.put, List.getElem_toArray, List.getElem_cons_zero, List.getElem_cons_succ, List.setIfInBounds_toArray, List.set_cons_zero, List.set_cons_succ]
        clear hC
        intro hC
        refine wpAnyD_pure (i := 7) (v := ?_) rfl hC (by kernel_rfl) (by kernel_rfl) (by kernel_rfl) (by decide) (fun _ _ _ h => h) (Or.inl ⟨by rfl, ?_⟩) (fun _ => hHeld) ?_
        rotate_left
        · intro w hSw
          clear hSw
          go_simp
          try with_reducible rfl
        try simp only [Act.put, List.getElem_toArray, List.getElem_cons_zero, List.getElem_cons_succ, List.setIfInBounds_toArray, List.set_cons_zero, List.set_cons_succ]
        clear hC
        intro hC
        refine wpAnyD_pure (i := 8) (v := ?_) rfl hC (by kernel_rfl) (by kernel_rfl) (by kernel_rfl) (by decide) (fun _ _ _ h => h) (Or.inl ⟨by rfl, ?_⟩) (fun _ => hHeld) ?_
        rotate_left
        · intro w hSw
          clear hSw
          go_simp
          try with_reducible rfl
        try simp only [Act.put, List.getElem_toArray, List.getElem_cons_zero, List.getElem_cons_succ, List.setIfInBounds_toArray, List.set_cons_zero, List.set_cons_succ]
        clear hC
        intro hC
        refine wpAnyD_pure (i := 10) (v := ?_) rfl hC (by kernel_rfl) (by kernel_rfl) (by kernel_rfl) (by decide) (fun _ _ _ h => h) (Or.inl ⟨by rfl, ?_⟩) (fun _ => hHeld) ?_
        rotate_left
        · intro w hSw
          clear hSw
          go_simp
          try with_reducible rfl
        try simp only [Act.put, List.getElem_toArray, List.getElem_cons_zero, List.getElem_cons_succ, List.setIfInBounds_toArray, List.set_cons_zero, List.set_cons_succ]
        clear hC
        intro hC
        refine wpAnyD_one (i := 9) (by kernel_rfl) rfl hC (fun K hK => ?_)
        clear hC
        go_simp
        refine (ahead_any g y w5 (HP5.out.win.below hHeld)).mono ?_
        rintro e' wv1 ⟨rfl, hwv1⟩
        subst hwv1
        have hHeld2 := hHeld
        clear hHeld
        have hHeld := hHeld2
        clear hHeld2
        refine hK.out _ _ (fun _ => hHeld) (fun hC => ?_)
        clear hK K
        try simp only [Act.put, List.getElem_toArray, List.getElem_cons_zero, List.getElem_cons_succ, List.setIfInBounds_toArray, List.set_cons_zero, List.set_cons_succ]
        refine wpAnyD_one (i := 11) (by kernel_rfl) rfl hC (fun K hK => ?_)
        clear hC
        go_simp
        refine (refahead_any h _ y w5 (HP5.out.rw.quiet hHeld) HI.out).mono ?_
        rintro e' wv1 ⟨rfl, kd, hkd⟩
        have HKD := Shut.mk (show Below w5.heap.size w5 wv1 by rw [hkd]; exact below_drewN (Below.refl _ _) _)
        clear hkd
        have hHeld2 := hHeld.trans (HKD.out.mono hHeld.size)
        clear hHeld
        have hHeld := hHeld2
        clear hHeld2
        refine hK.out _ _ (fun _ => hHeld) (fun hC => ?_)
        clear hK K
        try simp only [Act.put, List.getElem_toArray, List.getElem_cons_zero, List.getElem_cons_succ, List.setIfInBounds_toArray, List.set_cons_zero, List.set_cons_succ]
        refine wpAnyD_pure (i := 12) (v := ?_) rfl hC (by kernel_rfl) (by kernel_rfl) (by kernel_rfl) (by decide) (fun _ _ _ h => h) (Or.inl ⟨by rfl, ?_⟩) (fun _ => hHeld) ?_
        rotate_left
        · intro w hSw
          clear hSw
          go_simp
          try with_reducible rfl
        try simp only [Act.put, List.getElem_toArray, List.getElem_cons_zero, List.getElem_cons_succ, List.setIfInBounds_toArray, List.set_cons_zero, List.set_cons_succ]
        clear hC
        intro hC
        refine wpAnyD_pure (i := 13) (v := ?_) rfl hC (by kernel_rfl) (by kernel_rfl) (by kernel_rfl) (by decide) (fun _ _ _ h => h) (Or.inl ⟨by rfl, ?_⟩) (fun _ => hHeld) ?_
        rotate_left
        · intro w hSw
          clear hSw
          go_simp
          try with_reducible rfl
        try simp only [Act.put, List.getElem_toArray, List.getElem_cons_zero, List.getElem_cons_succ, List.setIfInBounds_toArray, List.set_cons_zero, List.set_cons_succ]
        clear hC
        intro hC
        refine wpAnyD_pure (i := 14) (v := ?_) rfl hC (by kernel_rfl) (by kernel_rfl) (by kernel_rfl) (by decide) (fun _ _ _ h => h) (Or.inl ⟨by rfl, ?_⟩) (fun _ => hHeld) ?_
        rotate_left
        · intro w hSw
          clear hSw
          go_simp
          try with_reducible rfl
        try simp only [Act.put, List.getElem_toArray, List.getElem_cons_zero, List.getElem_cons_succ, List.setIfInBounds_toArray, List.set_cons_zero, List.set_cons_succ]
        clear hC
        intro hC
        refine wpAnyD_pure (i := 15) (v := ?_) rfl hC (by kernel_rfl) (by kernel_rfl) (by kernel_rfl) (by decide) (fun _ _ _ h => h) (Or.inl ⟨by rfl, ?_⟩) (fun _ => hHeld) ?_
        rotate_left
        · intro w hSw
          clear hSw
          go_simp
          try with_reducible rfl
        try simp only [Act.put, List.getElem_toArray, List.getElem_cons_zero, List.getElem_cons_succ, List.setIfInBounds_toArray, List.set_cons_zero, List.set_cons_succ]
        clear hC
        intro hC
        refine wpAnyD_pure (i := 17) (v := ?_) rfl hC (by kernel_rfl) (by kernel_rfl) (by kernel_rfl) (by decide) (fun _ _ _ h => h) (Or.inl ⟨by rfl, ?_⟩) (fun _ => hHeld) ?_
        rotate_left
        · intro w hSw
          clear hSw
          go_simp
          try with_reducible rfl
        try simp only [Act.put, List.getElem_toArray, List.getElem_cons_zero, List.getElem_cons_succ, List.setIfInBounds_toArray, List.set_cons_zero, List.set_cons_succ]
        clear hC
        intro hC
        refine wpAnyD_pure (i := 18) (v := ?_) rfl hC (by kernel_rfl) (by kernel_rfl) (by kernel_rfl) (by decide) (fun _ _ _ h => h) (Or.inl ⟨by rfl, ?_⟩) (fun _ => hHeld) ?_
        rotate_left
        · intro w hSw
          clear hSw
          go_simp
          try with_reducible rfl
        try simp only [Act.put, List.getElem_toArray, List.getElem_cons_zero, List.getElem_cons_succ, List.setIfInBounds_toArray, List.set_cons_zero, List.set_cons_succ]
        clear hC
        intro hC
        refine wpAnyD_pure (i := 19) (v := ?_) rfl hC (by kernel_rfl) (by kernel_rfl) (by kernel_rfl) (by decide) (fun _ _ _ h => h) (Or.inl ⟨by rfl, ?_⟩) (fun _ => hHeld) ?_
        rotate_left
        · intro w hSw
          clear hSw
          go_simp
          try with_reducible rfl
        try simp only [Act.put, List.getElem_toArray, List.getElem_cons_zero, List.getElem_cons_succ, List.setIfInBounds_toArray, List.set_cons_zero, List.set_cons_succ]
        clear hC
        intro hC
        refine wpAnyD_take (i := 20) (v := ?_) 40 rfl (by kernel_rfl) hC (by kernel_rfl) (by kernel_rfl) (by kernel_rfl) (by decide) (fun _ _ _ h => h) (Or.inl ⟨by rfl, ?_⟩) (fun _ => hHeld) ?_
        rotate_left
        · intro w hSw
          have hz := (show w.cell? ⟨h, 2, none⟩ = some (.int .i64 ((y.sz : Nat) : Int)) from below_at hSw HP5.out.rw.cell.2.2.1)
          clear hSw
          go_simp
          try with_reducible rfl
        try simp only [Act.put, List.getElem_toArray, List.getElem_cons_zero, List.getElem_cons_succ, List.setIfInBounds_toArray, List.set_cons_zero, List.set_cons_succ]
        clear hC
        intro hC
        refine wpAnyD_one (i := 16) (by kernel_rfl) rfl hC (fun K hK => ?_)
        clear hC
        go_simp
        refine (size_any g y wv1 (HP5.out.win.below hHeld)).mono ?_
        rintro e' wv2 ⟨rfl, hwv2⟩
        subst hwv2
        have hHeld2 := hHeld
        clear hHeld
        have hHeld := hHeld2
        clear hHeld2
        refine hK.out _ _ (fun _ => hHeld) (fun hC => ?_)
        clear hK K
        try simp only [Act.put, List.getElem_toArray, List.getElem_cons_zero, List.getElem_cons_succ, List.setIfInBounds_toArray, List.set_cons_zero, List.set_cons_succ]
        refine wpAnyD_pure (i := 21) (v := ?_) rfl hC (by kernel_rfl) (by kernel_rfl) (by kernel_rfl) (by decide) (fun _ _ _ h => h) (Or.inl ⟨by rfl, ?_⟩) (fun _ => hHeld) ?_
        rotate_left
        · intro w hSw
          clear hSw
          go_simp
          try with_reducible rfl
        try simp only [Act.put, List.getElem_toArray, List.getElem_cons_zero, List.getElem_cons_succ, List.setIfInBounds_toArray, List.set_cons_zero, List.set_cons_succ]
        clear hC
        intro hC
        refine wpAnyD_pure (i := 22) (v := ?_) rfl hC (by kernel_rfl) (by kernel_rfl) (by kernel_rfl) (by decide) (fun _ _ _ h => h) (Or.inl ⟨by rfl, ?_⟩) (fun _ => hHeld) ?_
        rotate_left
        · intro w hSw
          clear hSw
          go_simp
          try with_reducible rfl
        try simp only [Act.put, List.getElem_toArray, List.getElem_cons_zero, List.getElem_cons_succ, List.setIfInBounds_toArray, List.set_cons_zero, List.set_cons_succ]
        clear hC
        intro hC
        refine wpAnyD_pure (i := 23) (v := ?_) rfl hC (by kernel_rfl) (by kernel_rfl) (by kernel_rfl) (by decide) (fun _ _ _ h => h) (Or.inl ⟨by rfl, ?_⟩) (fun _ => hHeld) ?_
        rotate_left
        · intro w hSw
          clear hSw
          go_simp
          try with_reducible rfl
        try simp only [Act.put, List.getElem_toArray, List.getElem_cons_zero, List.getElem_cons_succ, List.setIfInBounds_toArray, List.set_cons_zero, List.set_cons_succ]
        clear hC
        intro hC
        refine wpAnyD_pure (i := 24) (v := ?_) rfl hC (by kernel_rfl) (by kernel_rfl) (by kernel_rfl) (by decide) (fun _ _ _ h => h) (Or.inl ⟨by rfl, ?_⟩) (fun _ => hHeld) ?_
        rotate_left
        · intro w hSw
          clear hSw
          go_simp
          try with_reducible rfl
        try simp only [Act.put, List.getElem_toArray, List.getElem_cons_zero, List.getElem_cons_succ, List.setIfInBounds_toArray, List.set_cons_zero, List.set_cons_succ]
        clear hC
        intro hC
        refine wpAnyD_pure (i := 26) (v := ?_) rfl hC (by kernel_rfl) (by kernel_rfl) (by kernel_rfl) (by decide) (fun _ _ _ h => h) (Or.inl ⟨by rfl, ?_⟩) (fun _ => hHeld) ?_
        rotate_left
        · intro w hSw
          clear hSw
          go_simp
          try with_reducible rfl
        try simp only [Act.put, List.getElem_toArray, List.getElem_cons_zero, List.getElem_cons_succ, List.setIfInBounds_toArray, List.set_cons_zero, List.set_cons_succ]
        clear hC
        intro hC
        refine wpAnyD_pure (i := 27) (v := ?_) rfl hC (by kernel_rfl) (by kernel_rfl) (by kernel_rfl) (by decide) (fun _ _ _ h => h) (Or.inl ⟨by rfl, ?_⟩) (fun _ => hHeld) ?_
        rotate_left
        · intro w hSw
          clear hSw
          go_simp
          try with_reducible rfl
        try simp only [Act.put, List.getElem_toArray, List.getElem_cons_zero, List.getElem_cons_succ, List.setIfInBounds_toArray, List.set_cons_zero, List.set_cons_succ]
        clear hC
        intro hC
        refine wpAnyD_pure (i := 28) (v := ?_) rfl hC (by kernel_rfl) (by kernel_rfl) (by kernel_rfl) (by decide) (fun _ _ _ h => h) (Or.inl ⟨by rfl, ?_⟩) (fun _ => hHeld) ?_
        rotate_left
        · intro w hSw
          clear hSw
          go_simp
          try with_reducible rfl
        try simp only [Act.put, List.getElem_toArray, List.getElem_cons_zero, List.getElem_cons_succ, List.setIfInBounds_toArray, List.set_cons_zero, List.set_cons_succ]
        clear hC
        intro hC
        refine wpAnyD_take (i := 29) (v := ?_) 40 rfl (by kernel_rfl) hC (by kernel_rfl) (by kernel_rfl) (by kernel_rfl) (by decide) (fun _ _ _ h => h) (Or.inl ⟨by rfl, ?_⟩) (fun _ => hHeld) ?_
        rotate_left
        · intro w hSw
          have hz := (show w.cell? ⟨h, 3, none⟩ = some (.slice A3 (outI y).length c3) from below_at hSw HP5.out.rw.cell.2.2.2)
          clear hSw
          go_simp
          try with_reducible rfl
        try simp only [Act.put, List.getElem_toArray, List.getElem_cons_zero, List.getElem_cons_succ, List.setIfInBounds_toArray, List.set_cons_zero, List.set_cons_succ]
        clear hC
        intro hC
        refine wpAnyD_one (i := 25) (by kernel_rfl) rfl hC (fun K hK => ?_)
        clear hC
        go_simp
        refine (out_any g y wv1 (HP5.out.win.below hHeld) HI.out ((HT.out.below HP5.out.bel).below hHeld)).mono ?_
        rintro e' wv2 ⟨q, rfl, hr, -, hb⟩
        obtain ⟨A4, c4, rfl, hc4, -⟩ := hr.form
        have HKD := Shut.mk hb
        have HRO := Shut.mk (hr.row (by rw [outI_len]; have h1 := HLE.out; unfold maxLen; omega) (outI_wf y))
        clear hr hb hc4
        have hHeld2 := hHeld.trans (HKD.out.mono hHeld.size)
        clear hHeld
        have hHeld := hHeld2
        clear hHeld2
        refine hK.out _ _ (fun _ => hHeld) (fun hC => ?_)
        clear hK K
        try simp only [Act.put, List.getElem_toArray, List.getElem_cons_zero, List.getElem_cons_succ, List.setIfInBounds_toArray, List.set_cons_zero, List.set_cons_succ]
        refine wpAnyD_one (i := 30) (by kernel_rfl) rfl hC (fun K hK => ?_)
        clear hC
        go_simp
        refine (sameInts_any A4 A3 (outI y).length c4 (outI y).length c3 (outI y) (outI y) wv2 HRO.out (HRW.out.below hHeld)).mono ?_
        rintro e' wv3 ⟨rfl, kd, hkd⟩
        have HKD := Shut.mk (show Below wv2.heap.size wv2 wv3 by rw [hkd]; exact below_drewN (Below.refl _ _) _)
        clear hkd
        rw [HSB.out]
        have hHeld2 := hHeld.trans (HKD.out.mono hHeld.size)
        clear hHeld
        have hHeld := hHeld2
        clear hHeld2
        refine hK.out _ _ (fun _ => hHeld) (fun hC => ?_)
        clear hK K
        try simp only [Act.put, List.getElem_toArray, List.getElem_cons_zero, List.getElem_cons_succ, List.setIfInBounds_toArray, List.set_cons_zero, List.set_cons_succ]
        refine wpAnyD_pure (i := 31) (v := ?_) rfl hC (by kernel_rfl) (by kernel_rfl) (by kernel_rfl) (by decide) (fun _ _ _ h => h) (Or.inl ⟨by rfl, ?_⟩) (fun _ => hHeld) ?_
        rotate_left
        · intro w hSw
          clear hSw
          go_simp
          try with_reducible rfl
        try simp only [Act.put, List.getElem_toArray, List.getElem_cons_zero, List.getElem_cons_succ, List.setIfInBounds_toArray, List.set_cons_zero, List.set_cons_succ]
        clear hC
        intro hC
        refine wpAnyD_pure (i := 32) (v := ?_) rfl hC (by kernel_rfl) (by kernel_rfl) (by kernel_rfl) (by decide) (fun _ _ _ h => h) (Or.inl ⟨by rfl, ?_⟩) (fun _ => hHeld) ?_
        rotate_left
        · intro w hSw
          clear hSw
          go_simp
          try with_reducible rfl
        try simp only [Act.put, List.getElem_toArray, List.getElem_cons_zero, List.getElem_cons_succ, List.setIfInBounds_toArray, List.set_cons_zero, List.set_cons_succ]
        clear hC
        intro hC
        refine wpAnyD_pure (i := 33) (v := ?_) rfl hC (by kernel_rfl) (by kernel_rfl) (by kernel_rfl) (by decide) (fun _ _ _ h => h) (Or.inl ⟨by rfl, ?_⟩) (fun _ => hHeld) ?_
        rotate_left
        · intro w hSw
          clear hSw
          go_simp
          try with_reducible rfl
        try simp only [Act.put, List.getElem_toArray, List.getElem_cons_zero, List.getElem_cons_succ, List.setIfInBounds_toArray, List.set_cons_zero, List.set_cons_succ]
        clear hC
        intro hC
        refine wpAnyD_pure (i := 34) (v := ?_) rfl hC (by kernel_rfl) (by kernel_rfl) (by kernel_rfl) (by decide) (fun _ _ _ h => h) (Or.inl ⟨by rfl, ?_⟩) (fun _ => hHeld) ?_
        rotate_left
        · intro w hSw
          clear hSw
          go_simp
          try with_reducible rfl
        try simp only [Act.put, List.getElem_toArray, List.getElem_cons_zero, List.getElem_cons_succ, List.setIfInBounds_toArray, List.set_cons_zero, List.set_cons_succ]
        clear hC
        intro hC
        refine wpAnyD_pure (i := 36) (v := ?_) rfl hC (by kernel_rfl) (by kernel_rfl) (by kernel_rfl) (by decide) (fun _ _ _ h => h) (Or.inl ⟨by rfl, ?_⟩) (fun _ => hHeld) ?_
        rotate_left
        · intro w hSw
          clear hSw
          go_simp
          try with_reducible rfl
        try simp only [Act.put, List.getElem_toArray, List.getElem_cons_zero, List.getElem_cons_succ, List.setIfInBounds_toArray, List.set_cons_zero, List.set_cons_succ]
        clear hC
        intro hC
        refine wpAnyD_one (i := 35) (by kernel_rfl) rfl hC (fun K hK => ?_)
        clear hC
        go_simp
        refine (ahead_any c x wv3 (HC5.out.win.below hHeld)).mono ?_
        rintro e' wv4 ⟨rfl, hwv4⟩
        subst hwv4
        have hHeld2 := hHeld
        clear hHeld
        have hHeld := hHeld2
        clear hHeld2
        refine hK.out _ _ (fun _ => hHeld) (fun hC => ?_)
        clear hK K
        try simp only [Act.put, List.getElem_toArray, List.getElem_cons_zero, List.getElem_cons_succ, List.setIfInBounds_toArray, List.set_cons_zero, List.set_cons_succ]
        refine wpAnyD_pure (i := 37) (v := ?_) rfl hC (by kernel_rfl) (by kernel_rfl) (by kernel_rfl) (by decide) (fun _ _ _ h => h) (Or.inl ⟨by rfl, ?_⟩) (fun _ => hHeld) ?_
        rotate_left
        · intro w hSw
          clear hSw
          go_simp
          try with_reducible rfl
        try simp only [Act.put, List.getElem_toArray, List.getElem_cons_zero, List.getElem_cons_succ, List.setIfInBounds_toArray, List.set_cons_zero, List.set_cons_succ]
        clear hC
        intro hC
        refine wpAnyD_one (i := 38) (by kernel_rfl) rfl hC (fun K hK => ?_)
        clear hC
        go_simp
        refine hK.out _ _ (past (by kernel_rfl)) (fun hC => ?_)
        clear hK K
        try simp only [Act.put, List.getElem_toArray, List.getElem_cons_zero, List.getElem_cons_succ, List.setIfInBounds_toArray, List.set_cons_zero, List.set_cons_succ]
        refine wpAnyD_done (by kernel_rfl) ?_ _
        try simp only [Act.put, List.getElem_toArray, List.getElem_cons_zero, List.getElem_cons_succ, List.setIfInBounds_toArray, List.set_cons_zero, List.set_cons_succ]
        have HPN := Shut.mk (HP5.out.quiet hHeld)
        clear hHeld hC
        go_wp2_with (fail)
        go_roundw
        case rel => exact ⟨i + 1, y, _, by omega, by go_num, HI, HPN⟩
        case measure => simp [intOf]; omega
    · have hi' : i = len2 := by omega
      subst hi'
      go_wp2_with (fail)
      go_ret
      exact ⟨rfl, HP.out.bel⟩

end Go.Proofs.YtempcbjojcebaaaDoor.winPlays
