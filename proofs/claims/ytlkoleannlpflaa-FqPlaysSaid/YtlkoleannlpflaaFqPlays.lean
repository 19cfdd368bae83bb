/-
  muezzin/muezzinlaw13.FqPlays returns true, for all arguments; no condition.
-/
import Derived.Test.YtlkoleannlpflaaFqPc
import Derived.Test.YtlkoleannlpflaaOpenQ
import Derived.Deep.CutRange
import Derived.Deep.CutBlock
import Derived.WalkKit
import Derived.ProofKit
import Derived.OpenShut
import Derived.ChangeOld
import Derived.Below
namespace Go.Proofs.Ytlkoleannlpflaa.fqPlays
open Go.ChangeShapes Go.WideShapes Go.ChangeAt Go.RowKit Go.Deep
set_option linter.unusedVariables false
set_option linter.unusedSimpArgs false

theorem own : ownKnob Try.prog.godebug = none := by kernel_rfl
theorem laidOut : laidOutB Try.prog = true := by kernel_rfl

theorem size7 : (Try.prog.info? 34).map (·.size) = some 7 := by kernel_rfl
theorem sizeL : (Try.prog.info? 2).map (·.size) = some 1 := by kernel_rfl
theorem do_range {w : World} {g : Nat} {tt : TypeId} {fr : Nat × Nat} {a b c d e f u : Value} (h : w.heap[g]? = some (.cells #[a, b, c, d, e, f, u] tt fr)) : w.rangeAt g 2 [c, d, e, f, u] := fun j v hv => by
  have h9 := block_range h (2 + j) v (by rw [Nat.add_comm]; exact hv)
  rwa [Nat.zero_add] at h9
theorem do_one (a b c d e f : Int) (u : Value) (hu : u.oneCell' = true) : (#[.int .i64 a, .int .i64 b, .int .i64 c, .int .u32 d, .int .i64 e, .int .i64 f, u] : Array Value).all (·.oneCell') = true := by
  have h1 : ∀ k n, (Value.int k n).oneCell' = true := fun _ _ => rfl
  simp [h1, hu]
/-! ### THE WALK -/
set_option maxRecDepth 100000 in
set_option maxHeartbeats 8000000 in
theorem walk (n0 : Int) (n1 : Int) (n2 : Int) (a3 : Option Addr) (cap3 : Nat) (l3 : List Dop) (w : World) (w0 : (Lit.int .u32 n0).wf = true) (w1 : (Lit.int .i64 n1).wf = true) (w2 : (Lit.int .i64 n2).wf = true) (w3 : RowDo (fun k => k < w.heap.size) w a3 l3.length l3 ∧ l3.length ≤ cap3 ∧ ∀ d ∈ l3, okDo d) :
    Calls Try.prog 3 #[.int .u32 n0, .int .i64 n1, .int .i64 n2, .slice a3 l3.length cap3] w fun e w' => e = .returned (.bool true) ∧ Below w.heap.size w w' := by
  obtain ⟨hr3, hc3, hok3⟩ := w3
  have HR := Shut.mk hr3
  have HOK := Shut.mk hok3
  have hle := hr3.le
  have HLE := Shut.mk hle
  have hw0 : 0 ≤ n0 ∧ n0 ≤ 4294967295 := by simpa [Lit.wf, IntKind.min, IntKind.max, IntKind.signed, IntKind.bits] using w0
  obtain ⟨sd, rfl⟩ := uv_of hw0.1 hw0.2
  obtain ⟨n, hn⟩ : ∃ n : Nat, n = l3.length := ⟨_, rfl⟩
  have HN := Shut.mk hn
  rw [← hn]
  clear w0 w1 w2 hr3 hc3 hok3 hle hw0 hn
  go_enter Try.func3, Try.ntmps3
  go_wp2_with (fail)
  refine (first_any w).mono ?_
  rintro e wa ⟨rfl, hBa⟩
  have HBa := Shut.mk hBa
  clear hBa
  go_wp2_with (fail)
  have hlight := light_any _ a3 cap3 l3 wa (RowK.below HR.out HBa.out) HLE.out
  rw [← HN.out] at hlight
  refine hlight.mono ?_
  rintro e wl ⟨⟨bl, rfl, hl⟩, rfl⟩
  clear hlight
  cases bl with
  | false =>
    go_wp2_with (fail)
    go_ret
    exact ⟨rfl, HBa.out⟩
  | true =>
  have HLI := Shut.mk (hl rfl)
  clear hl
  cases d1 : decide (n1 < 0)
  rotate_left
  · go_wp2_with (fail)
    go_ret
    exact ⟨rfl, HBa.out⟩
  cases d2 : decide (1073741824 < n1)
  rotate_left
  · go_wp2_with (fail)
    go_ret
    exact ⟨rfl, HBa.out⟩
  cases d3 : decide (n2 < 0)
  rotate_left
  · go_wp2_with (fail)
    go_ret
    exact ⟨rfl, HBa.out⟩
  cases d4 : decide (1073741824 < n2)
  rotate_left
  · go_wp2_with (fail)
    go_ret
    exact ⟨rfl, HBa.out⟩
  go_wp2_with (fail)
  clear d1 d2 d3 d4
  refine (new_any (uv sd) n1 n2 wa).mono ?_
  rintro e wb ⟨rfl, hQ, hB⟩
  have HQ := Shut.mk hQ
  have HB := Shut.mk hB
  have HXL := Shut.mk (show wa.heap.size < wb.heap.size from hQ.lt)
  clear hQ hB
  go_wp2_with (fail)
  refine (refnew_any (uv sd) n1 n2 wb).mono ?_
  rintro e wc ⟨rfl, hR, hB⟩
  obtain ⟨x, hx⟩ : ∃ x : Rq, x = ⟨wa.heap.size, uv sd, n1, n2⟩ := ⟨_, rfl⟩
  obtain ⟨y, hy⟩ : ∃ y : Rq, y = ⟨wb.heap.size, uv sd, n1, n2⟩ := ⟨_, rfl⟩
  have HXS := Shut.mk (show x.seed = uv sd ∧ x.tg = n1 ∧ x.iv = n2 by rw [hx]; exact ⟨rfl, rfl, rfl⟩)
  have HYS := Shut.mk (show y.seed = uv sd ∧ y.tg = n1 ∧ y.iv = n2 by rw [hy]; exact ⟨rfl, rfl, rfl⟩)
  have HPW := Shut.mk (show PW w x y wc (fun _ => False) (fun _ => False) (fun _ => False) VZ V00 quZ quZ from
    { cq := by rw [hx]; exact HQ.out.quiet hB
      rq := by rw [hy]; exact hR
      bel := (HBa.out.trans (HB.out.mono HBa.out.size)).trans (hB.mono (Nat.le_trans HBa.out.size HB.out.size))
      cnew := fun k hk => by
        rcases hk with e | ⟨j, hj, e⟩
        · rw [e, hx]; exact HBa.out.size
        · cases e
      rnew := fun k hk => by
        rcases hk with e | ⟨j, hj, e⟩
        · rw [e, hy]; exact Nat.le_trans HBa.out.size HB.out.size
        · cases e
      ap := fun k hk e => by
        rcases hk with e1 | ⟨j, hj, e1⟩
        · rcases e with e2 | ⟨j, hj, e2⟩
          · rw [hx] at e1; rw [hy] at e2; have := HXL.out; dsimp only at e1 e2; omega
          · cases e2
        · cases e1
      c1 := fun _ _ e => e
      c2 := fun _ _ e => e
      la := fun _ e => e.elim })
  rw [show wa.heap.size = x.g by rw [hx], show wb.heap.size = y.g by rw [hy]]
  clear hR hB HQ HB HXL hx hy HBa
  go_wp2_with (fail)
  go_loopw [12, 13] (fun s12 s13 wr => ∃ (k : Nat) (t : Int) (T T2 : Nat → Prop) (V V2 : Nat → Value) (q : Qu), k ≤ n ∧ s13 = .int .i64 (k : Int) ∧ s12 = .int .i64 t ∧ Shut (PW w x y wr (fun _ => False) T T2 V V2 q q) ∧ Shut (Mo (bkQ sd) k q) ∧ Shut (0 ≤ t ∧ t ≤ (k : Int) * 1048576)) (fun _ s13 _ => n - (intOf s13).toNat)
  case atStart => exact ⟨0, 0, _, _, _, _, _, Nat.zero_le _, rfl, rfl, HPW, ⟨mo_Z _⟩, ⟨by omega, by omega⟩⟩
  case round =>
    clear HPW
    obtain ⟨k, t, T, T2, V, V2, q, hk, rfl, rfl, HPW, HMO, HTI⟩ := hrel
    by_cases hlt : k < n
    rotate_left
    · have e0 : decide ((k : Int) < (n : Int)) = false := by simp; omega
      have e1 : decide (k < n) = false := by simpa using hlt
      clear hlt hk
      go_wp2_with (fail)
      go_ret
      exact ⟨rfl, HPW.out.bel⟩
    have HKN := Shut.mk hlt
    have e0 : decide ((k : Int) < (n : Int)) = true := by simp; omega
    have e1 : decide (k < n) = true := by simpa using hlt
    have hki : (k : Int) < (n : Int) := by omega
    have hkb : k ≤ 80 := by have := HLI.out.1; have := HN.out; omega
    have HKB := Shut.mk (show k < 80 by have := HLI.out.1; have := HN.out; omega)
    obtain ⟨b, off, aa, mm, cc, rfl, hrg, hrb, hmc, -⟩ := RowK.el (RowK.below HR.out HPW.out.bel) k (by rw [← HN.out]; exact hlt)
    obtain ⟨b2, off2, aa2, mm2, cc2, hA2, hrg2, hrb2, -, -⟩ := RowK.el HR.out k (by rw [← HN.out]; exact hlt)
    have hbod := HLI.out.2 k (by rw [← HN.out]; exact hlt)
    have hdm : l3.getD k do00.1 ∈ l3 := by
      have e : l3.getD k do00.1 = l3[k]'(by rw [← HN.out]; exact hlt) := by simp [List.getD, show k < l3.length by rw [← HN.out]; exact hlt]
      rw [e]; exact List.getElem_mem _
    have hdok := HOK.out _ hdm
    generalize l3.getD k do00.1 = d at *
    obtain ⟨dk, dn, pi, pf, pt, pa, pb⟩ := d
    dsimp only at hbod hdok
    have hpf : 0 ≤ pf ∧ pf ≤ 4294967295 := by have := hdok.2.2.1; simpa [Lit.wf, IntKind.min, IntKind.max, IntKind.signed, IntKind.bits] using this
    have HDN := Shut.mk (show (Lit.int .i64 dn).wf = true from hdok.1.2)
    obtain ⟨fa, rfl⟩ := uv_of hpf.1 hpf.2
    have HRG := Shut.mk (show wr.rangeAt b (off + k * 7) [Value.int .i64 dk, .int .i64 dn, .int .i64 pi, .int .u32 (uv fa), .int .i64 pt, .int .i64 pa, Value.slice aa mm cc] from hrg)
    have HARG := Shut.mk (show ∀ w', Below w.heap.size w w' → RowB .u8 w' aa mm pb from fun w' hb => by
      have h1 := hrg 6 _ rfl
      have h2 := below_at HPW.out.bel (hrg2 6 _ rfl)
      cases hA2
      rw [h1] at h2
      cases h2
      exact (show RowB .u8 w aa mm pb from hrb2).below hb)
    have HMM := Shut.mk (show mm = pb.length ∧ mm ≤ 200 from ⟨(show RowB .u8 wr aa mm pb from hrb).len.symm, by have := (show RowB .u8 wr aa mm pb from hrb).len; omega⟩)
    clear hrg hrb hmc hrg2 hrb2 hA2 hbod hdm hdok hpf hlt hk
    obtain ⟨gd, hgd⟩ : ∃ g, g = wr.heap.size := ⟨_, rfl⟩
    have HGD := Shut.mk hgd
    have HAd := Shut.mk ((Below.refl wr.heap.size wr).alloc (Nat.le_refl _) (Obj.cells #[Value.int .i64 0, .int .i64 0, .int .i64 0, .int .u32 0, .int .i64 0, .int .i64 0, Value.slice none 0 0] 34 (0, 0)))
    have HXd := Shut.mk (show (wr.alloc (Obj.cells #[Value.int .i64 0, .int .i64 0, .int .i64 0, .int .u32 0, .int .i64 0, .int .i64 0, Value.slice none 0 0] 34 (0, 0))).heap[gd]? = some (Obj.cells #[Value.int .i64 0, .int .i64 0, .int .i64 0, .int .u32 0, .int .i64 0, .int .i64 0, Value.slice none 0 0] 34 (0, 0)) by rw [hgd]; exact (MapKept.heap_alloc wr (Obj.cells #[Value.int .i64 0, .int .i64 0, .int .i64 0, .int .u32 0, .int .i64 0, .int .i64 0, Value.slice none 0 0] 34 (0, 0))).1)
    obtain ⟨w1, hw1⟩ : ∃ w4, w4 = (wr.alloc (Obj.cells #[Value.int .i64 0, .int .i64 0, .int .i64 0, .int .u32 0, .int .i64 0, .int .i64 0, Value.slice none 0 0] 34 (0, 0))).setRow gd #[Value.int .i64 dk, .int .i64 dn, .int .i64 pi, .int .u32 (uv fa), .int .i64 pt, .int .i64 pa, Value.slice aa mm cc] := ⟨_, rfl⟩
    have HDB := Shut.mk (show w1.heap[gd]? = some (Obj.cells #[Value.int .i64 dk, .int .i64 dn, .int .i64 pi, .int .u32 (uv fa), .int .i64 pt, .int .i64 pa, Value.slice aa mm cc] 34 (0, 0)) by rw [hw1]; exact setRow_heap _ gd _ #[Value.int .i64 dk, .int .i64 dn, .int .i64 pi, .int .u32 (uv fa), .int .i64 pt, .int .i64 pa, Value.slice aa mm cc] _ (0, 0) HXd.out)
    have HBd := Shut.mk (show Below wr.heap.size wr w1 by rw [hw1]; exact below_setRow HAd.out (by omega) _)
    have HW1 := Shut.mk hw1.symm
    have HPW1 := Shut.mk (HPW.out.quiet_la (La' := (· = gd)) HBd.out fun j hj => .inr (.inl ⟨by omega, by have := lt_blk HDB.out; omega⟩))
    have HTG := Shut.mk (show (∀ j, T j → j < gd) ∧ (∀ j, T2 j → j < gd) from ⟨fun j hj => by have := HPW.out.cq.there j hj; omega, fun j hj => by have := HPW.out.rq.there j hj; omega⟩)
    have HWG := Shut.mk (show w.heap.size ≤ gd from by have := HPW.out.bel.size; omega)
    clear hgd hw1 HPW
    go_wp2_with (first
      | (refine wpList_load_mid rfl 34 (.tmp 76) rfl b (off + k * 7) rfl [Value.int .i64 dk, .int .i64 dn, .int .i64 pi, .int .u32 (uv fa), .int .i64 pt, .int .i64 pa, Value.slice aa mm cc] _ HRG.out Try.underlying34 rfl size7 ?_)
      | (refine wpList_store_row rfl 34 (.tmp 14) (.tmp 77) rfl gd #[Value.int .i64 dk, .int .i64 dn, .int .i64 pi, .int .u32 (uv fa), .int .i64 pt, .int .i64 pa, Value.slice aa mm cc] (by show Value.pointer (some ⟨wr.heap.size, 0, none⟩) = _; rw [HGD.out]) rfl 34 _ HXd.out size7 rfl (do_one _ _ _ _ _ _ _ rfl) ?_
         rw [HW1.out, ← HGD.out]))
    clear e0 e1 hki HRG HXd HAd HBd
    refine (clone_w HPW1.out HDB.out HMO.out).mono ?_
    rintro e w2 ⟨U, rfl, hp, hfz, hb⟩
    obtain ⟨z, hz⟩ : ∃ z : Rq, z = ⟨w1.heap.size, x.seed, x.tg, x.iv⟩ := ⟨_, rfl⟩
    rw [← hz] at hp hfz
    rw [show w1.heap.size = z.g by rw [hz]] at hfz ⊢
    have HPD := Shut.mk hp
    have HZG := Shut.mk (show ¬ FootC z U gd from fun e => by have h1 := hfz gd e; have h2 := lt_blk HDB.out; rw [hz] at h1; dsimp only at h1; omega)
    clear hp hfz hb hz HPW1
    obtain ⟨T0, hT0⟩ : ∃ T0, T0 = T := ⟨_, rfl⟩
    obtain ⟨qc, hqc⟩ : ∃ qc, qc = q := ⟨_, rfl⟩
    have HPD := Shut.mk (show PD w x y gd #[Value.int .i64 dk, .int .i64 dn, .int .i64 pi, .int .u32 (uv fa), .int .i64 pt, .int .i64 pa, Value.slice aa mm cc] z T0 U qc w2 T T2 V V2 q q by rw [hT0, hqc]; exact HPD.out)
    have HGT := Shut.mk (show ¬ T gd ∧ ¬ T2 gd ∧ ¬ T0 gd ∧ ¬ FootC z U gd from ⟨fun e => by have := HTG.out.1 gd e; omega, fun e => by have := HTG.out.2 gd e; omega, fun e => by rw [hT0] at e; have := HTG.out.1 gd e; omega, HZG.out⟩)
    have HLC := Shut.mk (show ∀ j, j < 16 → (qc.fl j).pk.length ≤ 10000 by rw [hqc]; exact fun j hj => by have := HMO.out.few.len j hj; omega)
    clear hT0 hqc HTG HZG HDB
    go_wp2_with (fail)
    refine (len_any T0 w2 z U qc HPD.out.cl HLC.out).mono ?_
    rintro e w3 ⟨rfl, rfl⟩
    obtain ⟨ln, hln⟩ : ∃ ln, ln = lenTo qc 16 := ⟨_, rfl⟩
    have HLN := Shut.mk hln
    rw [← hln]
    clear hln
    have hkd : w2.cell? ⟨gd, 0, none⟩ = some (.int .i64 dk) := by have := block_range HPD.out.db 0 _ rfl; simpa using this
    go_upto_block 2 with (fail)
    go_cut [12, 17, 18, 19, 20, 21, 22, 23, 24, 25, 26] from 84 to 156 (fun s12 _ _ _ _ _ _ _ _ _ _ wx => ∃ (t' at' : Int) (T' T2' : Nat → Prop) (V' V2' : Nat → Value) (q' : Qu), s12 = .int .i64 t' ∧ Shut (PD w x y gd #[Value.int .i64 dk, .int .i64 dn, .int .i64 pi, .int .u32 (uv fa), .int .i64 pt, .int .i64 at', Value.slice aa mm cc] z T0 U qc wx T' T2' V' V2' q' q') ∧ Shut (Mo (bkQ sd) (k + 1) q') ∧ Shut (0 ≤ t' ∧ t' ≤ ((k : Int) + 1) * 1048576))
    case first =>
      clear hkd
      by_cases hk1 : dk = 1
      · subst hk1
        have HFLW := Shut.mk (show 0 ≤ uv fa ∧ uv fa ≤ 4294967295 from ⟨uv_lo fa, uv_hi fa⟩)
        have HST := Shut.mk (HPD.out.store #[Value.int .i64 1, .int .i64 dn, .int .i64 pi, .int .u32 (uv fa), .int .i64 pt, .int .i64 t, Value.slice aa mm cc] HWG.out HGT.out)
        obtain ⟨w3, hw3⟩ : ∃ w3, w3 = w2.setRow gd #[Value.int .i64 1, .int .i64 dn, .int .i64 pi, .int .u32 (uv fa), .int .i64 pt, .int .i64 t, Value.slice aa mm cc] := ⟨_, rfl⟩
        rw [← hw3] at HST
        have HW3 := Shut.mk hw3.symm
        clear hw3
        go_wp2_with (refine wpList_store_into rfl 2 (.tmp 111) (.tmp 109) rfl gd 5 (.int .i64 t) rfl rfl rfl 34 #[Value.int .i64 1, .int .i64 dn, .int .i64 pi, .int .u32 (uv fa), .int .i64 pt, .int .i64 pa, Value.slice aa mm cc] #[Value.int .i64 1, .int .i64 dn, .int .i64 pi, .int .u32 (uv fa), .int .i64 pt, .int .i64 t, Value.slice aa mm cc] HPD.out.db sizeL (by show 5 < 7; omega) rfl ?_; rw [HW3.out])
        obtain ⟨w5, hw5⟩ : ∃ wD, wD = World.drew w3 := ⟨_, rfl⟩
        have HW5 := Shut.mk hw5
        have HP5 := Shut.mk (HST.out.quiet (show Below w3.heap.size w3 w5 by rw [hw5]; exact (Below.refl _ _).drew))
        clear hw5
        refine wp_region_D (fun w' => w'.heap[gd]? = some (.cells #[Value.int .i64 1, .int .i64 dn, .int .i64 pi, .int .u32 (uv fa), .int .i64 pt, .int .i64 t, Value.slice aa mm cc] 34 (0, 0))) 7 (by kernel_rfl) (show (World.drew w3).heap[gd]? = some (.cells #[Value.int .i64 1, .int .i64 dn, .int .i64 pi, .int .u32 (uv fa), .int .i64 pt, .int .i64 t, Value.slice aa mm cc] 34 (0, 0)) from HST.out.db) (fun hHeld hC => ?_)
        rw [← HW5.out] at hHeld ⊢
        refine wpAnyD_pure (i := 0) (v := ?_) rfl hC (by kernel_rfl) (by kernel_rfl) (by kernel_rfl) (by decide) (fun _ _ _ h => h) (Or.inl ⟨by rfl, ?_⟩) (fun _ => hHeld) ?_
        rotate_left
        · intro w hSw
          clear hSw
          go_simp
          try with_reducible rfl
        try simp only [Act.put, List.getElem_toArray, List.getElem_cons_zero, List.getElem_cons_succ, List.setIfInBounds_toArray, List.set_cons_zero, List.set_cons_succ]
        clear hC
        intro hC
        refine wpAnyD_pure (i := 1) (v := ?_) rfl hC (by kernel_rfl) (by kernel_rfl) (by kernel_rfl) (by decide) (fun _ _ _ h => h) (Or.inl ⟨by rfl, ?_⟩) (fun _ => hHeld) ?_
        rotate_left
        · intro w hSw
          clear hSw
          go_simp
          try with_reducible rfl
        try simp only [Act.put, List.getElem_toArray, List.getElem_cons_zero, List.getElem_cons_succ, List.setIfInBounds_toArray, List.set_cons_zero, List.set_cons_succ]
        clear hC
        intro hC
        refine wpAnyD_take (i := 2) (v := .agg ([Value.int .i64 pi, .int .u32 (uv fa), .int .i64 pt, .int .i64 t, Value.slice aa mm cc]).toArray) 40 rfl (by kernel_rfl) hC (by kernel_rfl) (by kernel_rfl) (by kernel_rfl) (by decide) (fun _ _ _ h => h) (yieldsIf_load_mid (by rfl) 32 (.tmp 113) rfl gd (2) rfl ([Value.int .i64 pi, .int .u32 (uv fa), .int .i64 pt, .int .i64 t, Value.slice aa mm cc]) _ (fun w' hSw => do_range hSw) Try.underlying32 rfl size5) (fun _ => hHeld) ?_
        try simp only [Act.put, List.getElem_toArray, List.getElem_cons_zero, List.getElem_cons_succ, List.setIfInBounds_toArray, List.set_cons_zero, List.set_cons_succ]
        clear hC
        intro hC
        refine wpAnyD_pure (i := 4) (v := ?_) rfl hC (by kernel_rfl) (by kernel_rfl) (by kernel_rfl) (by decide) (fun _ _ _ h => h) (Or.inl ⟨by rfl, ?_⟩) (fun _ => hHeld) ?_
        rotate_left
        · intro w hSw
          clear hSw
          go_simp
          try with_reducible rfl
        try simp only [Act.put, List.getElem_toArray, List.getElem_cons_zero, List.getElem_cons_succ, List.setIfInBounds_toArray, List.set_cons_zero, List.set_cons_succ]
        clear hC
        intro hC
        refine wpAnyD_pure (i := 5) (v := ?_) rfl hC (by kernel_rfl) (by kernel_rfl) (by kernel_rfl) (by decide) (fun _ _ _ h => h) (Or.inl ⟨by rfl, ?_⟩) (fun _ => hHeld) ?_
        rotate_left
        · intro w hSw
          clear hSw
          go_simp
          try with_reducible rfl
        try simp only [Act.put, List.getElem_toArray, List.getElem_cons_zero, List.getElem_cons_succ, List.setIfInBounds_toArray, List.set_cons_zero, List.set_cons_succ]
        clear hC
        intro hC
        refine wpAnyD_take (i := 6) (v := .agg ([Value.int .i64 pi, .int .u32 (uv fa), .int .i64 pt, .int .i64 t, Value.slice aa mm cc]).toArray) 40 rfl (by kernel_rfl) hC (by kernel_rfl) (by kernel_rfl) (by kernel_rfl) (by decide) (fun _ _ _ h => h) (yieldsIf_load_mid (by rfl) 32 (.tmp 117) rfl gd (2) rfl ([Value.int .i64 pi, .int .u32 (uv fa), .int .i64 pt, .int .i64 t, Value.slice aa mm cc]) _ (fun w' hSw => do_range hSw) Try.underlying32 rfl size5) (fun _ => hHeld) ?_
        try simp only [Act.put, List.getElem_toArray, List.getElem_cons_zero, List.getElem_cons_succ, List.setIfInBounds_toArray, List.set_cons_zero, List.set_cons_succ]
        clear hC
        intro hC
        refine wpAnyD_one (i := 3) (by kernel_rfl) rfl hC (fun K hK => ?_)
        clear hC
        go_simp
        refine (put_c HP5.out HMO.out HXS.out.1 ⟨pi, uv fa, pt, t, pb⟩ aa mm cc (HARG.out _ HP5.out.pw.bel) (by have := HMM.out.2; omega) HFLW.out).mono ?_
        rintro e' w1 ⟨rfl, T', V', hP⟩
        have HP6 := Shut.mk hP
        clear hP
        have hHeld2 := HP6.out.db
        clear hHeld
        have hHeld := hHeld2
        clear hHeld2
        refine hK.out _ _ (fun _ => hHeld) (fun hC => ?_)
        clear hK K
        try simp only [Act.put, List.getElem_toArray, List.getElem_cons_zero, List.getElem_cons_succ, List.setIfInBounds_toArray, List.set_cons_zero, List.set_cons_succ]
        refine wpAnyD_one (i := 7) (by kernel_rfl) rfl hC (fun K hK => ?_)
        clear hC
        go_simp
        refine (put_r HP6.out HMO.out HYS.out.1 ⟨pi, uv fa, pt, t, pb⟩ aa mm cc (HARG.out _ HP6.out.pw.bel) (by have := HMM.out.2; omega) HFLW.out).mono ?_
        rintro e' w2 ⟨rfl, T2', V2', hP⟩
        have HP7 := Shut.mk hP
        clear hP
        refine hK.out _ _ (past (by kernel_rfl)) (fun hC => ?_)
        clear hK K
        try simp only [Act.put, List.getElem_toArray, List.getElem_cons_zero, List.getElem_cons_succ, List.setIfInBounds_toArray, List.set_cons_zero, List.set_cons_succ]
        refine wpAnyD_pure (i := 8) (v := ?_) rfl hC (by kernel_rfl) (by kernel_rfl) (by kernel_rfl) (by decide) (fun _ _ _ h => h) (Or.inl ⟨by rfl, ?_⟩) (past (by kernel_rfl)) ?_
        rotate_left
        · intro w hSw
          clear hSw
          go_simp
          try with_reducible rfl
        try simp only [Act.put, List.getElem_toArray, List.getElem_cons_zero, List.getElem_cons_succ, List.setIfInBounds_toArray, List.set_cons_zero, List.set_cons_succ]
        clear hC
        intro hC
        refine wpAnyD_done (by kernel_rfl) ?_ _
        try simp only [Act.put, List.getElem_toArray, List.getElem_cons_zero, List.getElem_cons_succ, List.setIfInBounds_toArray, List.set_cons_zero, List.set_cons_succ]
        clear hC hHeld
        go_wp2_with (fail)
        go_meet
        exact ⟨t, t, T', T2', V', V2', putQ (bkQ sd) q ⟨pi, uv fa, pt, t, pb⟩, rfl, ⟨HP7.out⟩, ⟨mo_put HMO.out (bkQ_lt sd) (by have := HKB.out; omega) ⟨HTI.out.1, by have := HTI.out.2; have := HKB.out; show t ≤ 4503599627370496; omega, by have := HMM.out; show pb.length ≤ 1000000; omega⟩⟩, ⟨HTI.out.1, by have := HTI.out.2; omega⟩⟩
      have e1 : (dk == 1) = false := by simpa using hk1
      clear hk1
      by_cases hk2 : dk = 2
      · subst hk2
        have hnd : w2.cell? ⟨gd, 1, none⟩ = some (.int .i64 dn) := by have := block_range HPD.out.db 1 _ rfl; simpa using this
        have m0 := nmod_lo dn 1048576 (by omega)
        have m1 := nmod_hi dn 1048576 (by omega)
        go_wp2_with (fail)
        refine (number_any dn 1048576 w2 HDN.out (by omega) (by omega)).mono ?_
        rintro e w' ⟨rfl, rfl⟩
        generalize nmod dn 1048576 = s at *
        obtain ⟨t2, ht2⟩ : ∃ t2, t2 = t + s := ⟨_, rfl⟩
        have HT2 := Shut.mk (show 0 ≤ t2 ∧ t2 ≤ ((k : Int) + 1) * 1048576 from by have := HTI.out; omega)
        have yt : IntKind.i64.wrap (t + s) = t2 := by rw [IntWalk.i64_in _ ⟨by have := HTI.out; omega, by have := HTI.out; have := HKB.out; omega⟩, ht2]
        have HTM := Shut.mk (show t2 + 1073741824 ≤ 4503599627370496 from by have := HT2.out; have := HKB.out; omega)
        obtain ⟨r, ds, q', hT⟩ := takes_is (bk := bkQ sd) ⟨t2, clampR n1 0 1073741824, clampR n2 0 1073741824⟩ (mu q + 1) q [] (Nat.lt_succ_self _) HMO.out.inv
        have HTK := Shut.mk hT
        have HDL := Shut.mk (takes_len hT HMO.out.inv (bkQ_lt sd) HMO.out.few)
        clear ht2 hT m0 m1 hnd
        go_wp2_with (fail)
        clear yt
        refine (take_c (bkQ_lt sd) HPD.out HMO.out t2 HT2.out.1 HTM.out (by rw [HXS.out.2.1, HXS.out.2.2]; exact HTK.out)).mono ?_
        rintro e wk ⟨V', p0, b0, v0, late0, T3, A0, c0, hP, rfl, hA, hL, hT3, hsz⟩
        have hle := hL.eq
        subst hle
        have HL4 := Shut.mk hL
        have HT3 := Shut.mk hT3
        clear hL hT3
        obtain ⟨A1, m1, c1, rfl, -⟩ := hA.form
        obtain ⟨qi, qf, qt, qa, qb⟩ := p0
        have HP4 := Shut.mk hP
        have HA4 := Shut.mk hA
        have HS24 := Shut.mk hsz
        have HRS := Shut.mk (show ∀ j, FootR y V2 j → j < w2.heap.size from fun j hj => HPD.out.pw.rq.lts hj)
        clear hP hA hsz
        unfold pkV
        dsimp only
        obtain ⟨s17, hs17⟩ : ∃ s, s = wk.heap.size := ⟨_, rfl⟩
        have HSs17 := Shut.mk hs17
        have HAw6 := Shut.mk ((Below.refl wk.heap.size wk).alloc (Nat.le_refl _) (Obj.cells #[Value.int .i64 0, .int .u32 0, .int .i64 0, .int .i64 0, Value.slice none 0 0] 32 (0, 0)))
        have HXw6 := Shut.mk (show (wk.alloc (Obj.cells #[Value.int .i64 0, .int .u32 0, .int .i64 0, .int .i64 0, Value.slice none 0 0] 32 (0, 0))).heap[s17]? = some (Obj.cells #[Value.int .i64 0, .int .u32 0, .int .i64 0, .int .i64 0, Value.slice none 0 0] 32 (0, 0)) by rw [hs17]; exact (MapKept.heap_alloc wk (Obj.cells #[Value.int .i64 0, .int .u32 0, .int .i64 0, .int .i64 0, Value.slice none 0 0] 32 (0, 0))).1)
        obtain ⟨w6, hw6⟩ : ∃ w4, w4 = (wk.alloc (Obj.cells #[Value.int .i64 0, .int .u32 0, .int .i64 0, .int .i64 0, Value.slice none 0 0] 32 (0, 0))).setRow s17 #[Value.int .i64 qi, .int .u32 qf, .int .i64 qt, .int .i64 qa, Value.slice A1 m1 c1] := ⟨_, rfl⟩
        have HYw6 := Shut.mk (show w6.heap[s17]? = some (Obj.cells #[Value.int .i64 qi, .int .u32 qf, .int .i64 qt, .int .i64 qa, Value.slice A1 m1 c1] 32 (0, 0)) by rw [hw6]; exact setRow_heap _ s17 _ #[Value.int .i64 qi, .int .u32 qf, .int .i64 qt, .int .i64 qa, Value.slice A1 m1 c1] _ (0, 0) HXw6.out)
        have HBw6 := Shut.mk (show Below wk.heap.size wk w6 by rw [hw6]; exact below_setRow HAw6.out (by omega) _)
        have HWw6 := Shut.mk hw6
        clear hw6 hs17
        have HP6 := Shut.mk (HP4.out.quiet HBw6.out)
        have HA6 := Shut.mk (HA4.out.below HBw6.out)
        have HL6 := Shut.mk (HL4.out.below HBw6.out)
        go_wp2_with (first
          | (refine wpList_store_row rfl 32 (.tmp 17) (.tmp 132) rfl s17 #[Value.int .i64 qi, .int .u32 qf, .int .i64 qt, .int .i64 qa, Value.slice A1 m1 c1] (by show Value.pointer (some ⟨wk.heap.size, 0, none⟩) = _; rw [HSs17.out]) rfl 32 _ HXw6.out size5 rfl (pkt_one _ _ _ _ _ _ _) ?_
             rw [show World.setRow (World.alloc wk _) s17 _ = w6 from HWw6.out.symm, ← HSs17.out]))
        refine (take_r (bkQ_lt sd) HP6.out HMO.out t2 HT2.out.1 HTM.out (by rw [HYS.out.2.1, HYS.out.2.2]; exact HTK.out)).mono ?_
        rintro e w7 ⟨V2', p1, b1, v1, late1, A2, c2, hP7, rfl, hA7, hL7, hO7⟩
        obtain ⟨e1, e2⟩ := HA6.out.same hA7
        subst e1 e2
        obtain ⟨A3, m3, c3, rfl, -⟩ := hA7.form
        have hle := hL7.eq
        subst hle
        have HP7 := Shut.mk hP7
        have HA7 := Shut.mk hA7
        have HL7 := Shut.mk hL7
        have HA8 := Shut.mk (HA6.out.only hO7 fun j hj e => by have := HRS.out j e; have := hj.1; omega)
        have HL8 := Shut.mk (HL6.out.only hO7 (fun j hj e => by have := HRS.out j e; have := hj.1; omega) (fun j hj e => by have := HRS.out j e; have := (HT3.out j hj).1; omega))
        have HY8 := Shut.mk (hO7.at_ HYw6.out (fun e => by have := HRS.out _ e; have := HSs17.out; have := HS24.out; omega))
        clear hP7 hA7 hL7 hO7
        unfold pkV
        dsimp only
        obtain ⟨s20, hs20⟩ : ∃ s, s = w7.heap.size := ⟨_, rfl⟩
        have HSs20 := Shut.mk hs20
        have HAw8 := Shut.mk ((Below.refl w7.heap.size w7).alloc (Nat.le_refl _) (Obj.cells #[Value.int .i64 0, .int .u32 0, .int .i64 0, .int .i64 0, Value.slice none 0 0] 32 (0, 0)))
        have HXw8 := Shut.mk (show (w7.alloc (Obj.cells #[Value.int .i64 0, .int .u32 0, .int .i64 0, .int .i64 0, Value.slice none 0 0] 32 (0, 0))).heap[s20]? = some (Obj.cells #[Value.int .i64 0, .int .u32 0, .int .i64 0, .int .i64 0, Value.slice none 0 0] 32 (0, 0)) by rw [hs20]; exact (MapKept.heap_alloc w7 (Obj.cells #[Value.int .i64 0, .int .u32 0, .int .i64 0, .int .i64 0, Value.slice none 0 0] 32 (0, 0))).1)
        obtain ⟨w8, hw8⟩ : ∃ w4, w4 = (w7.alloc (Obj.cells #[Value.int .i64 0, .int .u32 0, .int .i64 0, .int .i64 0, Value.slice none 0 0] 32 (0, 0))).setRow s20 #[Value.int .i64 qi, .int .u32 qf, .int .i64 qt, .int .i64 qa, Value.slice A3 m3 c3] := ⟨_, rfl⟩
        have HYw8 := Shut.mk (show w8.heap[s20]? = some (Obj.cells #[Value.int .i64 qi, .int .u32 qf, .int .i64 qt, .int .i64 qa, Value.slice A3 m3 c3] 32 (0, 0)) by rw [hw8]; exact setRow_heap _ s20 _ #[Value.int .i64 qi, .int .u32 qf, .int .i64 qt, .int .i64 qa, Value.slice A3 m3 c3] _ (0, 0) HXw8.out)
        have HBw8 := Shut.mk (show Below w7.heap.size w7 w8 by rw [hw8]; exact below_setRow HAw8.out (by omega) _)
        have HWw8 := Shut.mk hw8
        clear hw8 hs20
        have HP9 := Shut.mk (HP7.out.quiet HBw8.out)
        have HA9 := Shut.mk (HA7.out.below HBw8.out)
        have HL9 := Shut.mk (HL7.out.below HBw8.out)
        have HAX := Shut.mk (HA8.out.below HBw8.out)
        have HLX := Shut.mk (HL8.out.below HBw8.out)
        have HYX := Shut.mk ((HBw8.out.block _ (lt_blk HY8.out)).trans HY8.out)
        obtain ⟨Ax, mx, cx, ex, hrx⟩ := HAX.out.form
        cases ex
        obtain ⟨Ay, my, cy, ey, hry⟩ := HA9.out.form
        cases ey
        have HRX := Shut.mk hrx
        have HRY := Shut.mk hry
        clear hrx hry
        go_wp2_with (first
          | (refine wpList_store_row rfl 32 (.tmp 20) (.tmp 139) rfl s20 #[Value.int .i64 qi, .int .u32 qf, .int .i64 qt, .int .i64 qa, Value.slice A3 m3 c3] (by show Value.pointer (some ⟨w7.heap.size, 0, none⟩) = _; rw [HSs20.out]) rfl 32 _ HXw8.out size5 rfl (pkt_one _ _ _ _ _ _ _) ?_
             rw [show World.setRow (World.alloc w7 _) s20 _ = w8 from HWw8.out.symm, ← HSs20.out])
          | (refine wpList_load_if (by rfl) 32 (.tmp 17) rfl s17 rfl 32 #[Value.int .i64 qi, .int .u32 qf, .int .i64 qt, .int .i64 qa, Value.slice A1 m1 c1] (0, 0) _ HYX.out Try.underlying32 rfl size5 ?_)
          | (refine wpList_load_if (by rfl) 32 (.tmp 20) rfl s20 rfl 32 #[Value.int .i64 qi, .int .u32 qf, .int .i64 qt, .int .i64 qa, Value.slice A3 m3 c3] (0, 0) _ HYw8.out Try.underlying32 rfl size5 ?_))
        refine (samepkt_any ⟨qi, qf, qt, qa, qb⟩ A1 A3 m1 c1 m3 c3 w8 HRX.out HRY.out).mono ?_
        rintro e w9 ⟨rfl, hb9⟩
        have HP10 := Shut.mk (HP9.out.quiet hb9)
        have HS9 := Shut.mk (samepkts_any T3 T2 A0 A2 c0 c2 ds w9 (RowK.below HLX.out.row hb9) (RowK.below HL9.out.row hb9) (by have := HDL.out; omega))
        clear hb9
        go_wp2_with (fail)
        refine HS9.out.mono ?_
        rintro e w10 ⟨rfl, hb10⟩
        have HP11 := Shut.mk (HP10.out.quiet hb10)
        clear hb10
        go_wp2_with (fail)
        go_meet
        exact ⟨t2, pa, T, T2, V', V2', q', rfl, ⟨HP11.out⟩, ⟨(mo_take HMO.out HTK.out HT2.out.1 HTM.out).up (Nat.le_succ k)⟩, ⟨HT2.out⟩⟩
      have e2 : (dk == 2) = false := by simpa using hk2
      clear hk2
      have hnd : w2.cell? ⟨gd, 1, none⟩ = some (.int .i64 dn) := by have := block_range HPD.out.db 1 _ rfl; simpa using this
      have HWF := Shut.mk (show ∀ j, j < 16 → ∀ a ∈ (q.fl j).pk, wf8 a.body from fun j hj a ha => HPD.out.pw.cq.wf hj ha)
      go_wp2_with (fail)
      clear hnd
      refine (drop_c HPD.out HMO.out dn).mono ?_
      rintro e wk ⟨V', p0, b0, v0, hP, rfl, hA, hsz⟩
      obtain ⟨A1, m1, c1, rfl, -⟩ := hA.form
      obtain ⟨qi, qf, qt, qa, qb⟩ := p0
      have HP4 := Shut.mk hP
      have HA4 := Shut.mk hA
      have HS24 := Shut.mk hsz
      have HRS := Shut.mk (show ∀ j, FootR y V2 j → j < w2.heap.size from fun j hj => HPD.out.pw.rq.lts hj)
      clear hP hA hsz
      unfold pkV
      dsimp only
      obtain ⟨s23, hs23⟩ : ∃ s, s = wk.heap.size := ⟨_, rfl⟩
      have HSs23 := Shut.mk hs23
      have HAw6 := Shut.mk ((Below.refl wk.heap.size wk).alloc (Nat.le_refl _) (Obj.cells #[Value.int .i64 0, .int .u32 0, .int .i64 0, .int .i64 0, Value.slice none 0 0] 32 (0, 0)))
      have HXw6 := Shut.mk (show (wk.alloc (Obj.cells #[Value.int .i64 0, .int .u32 0, .int .i64 0, .int .i64 0, Value.slice none 0 0] 32 (0, 0))).heap[s23]? = some (Obj.cells #[Value.int .i64 0, .int .u32 0, .int .i64 0, .int .i64 0, Value.slice none 0 0] 32 (0, 0)) by rw [hs23]; exact (MapKept.heap_alloc wk (Obj.cells #[Value.int .i64 0, .int .u32 0, .int .i64 0, .int .i64 0, Value.slice none 0 0] 32 (0, 0))).1)
      obtain ⟨w6, hw6⟩ : ∃ w4, w4 = (wk.alloc (Obj.cells #[Value.int .i64 0, .int .u32 0, .int .i64 0, .int .i64 0, Value.slice none 0 0] 32 (0, 0))).setRow s23 #[Value.int .i64 qi, .int .u32 qf, .int .i64 qt, .int .i64 qa, Value.slice A1 m1 c1] := ⟨_, rfl⟩
      have HYw6 := Shut.mk (show w6.heap[s23]? = some (Obj.cells #[Value.int .i64 qi, .int .u32 qf, .int .i64 qt, .int .i64 qa, Value.slice A1 m1 c1] 32 (0, 0)) by rw [hw6]; exact setRow_heap _ s23 _ #[Value.int .i64 qi, .int .u32 qf, .int .i64 qt, .int .i64 qa, Value.slice A1 m1 c1] _ (0, 0) HXw6.out)
      have HBw6 := Shut.mk (show Below wk.heap.size wk w6 by rw [hw6]; exact below_setRow HAw6.out (by omega) _)
      have HWw6 := Shut.mk hw6
      clear hw6 hs23
      have HP6 := Shut.mk (HP4.out.quiet HBw6.out)
      have HA6 := Shut.mk (HA4.out.below HBw6.out)
      have hnd : w6.cell? ⟨gd, 1, none⟩ = some (.int .i64 dn) := by have := block_range HP6.out.db 1 _ rfl; simpa using this
      go_wp2_with (first
        | (refine wpList_store_row rfl 32 (.tmp 23) (.tmp 89) rfl s23 #[Value.int .i64 qi, .int .u32 qf, .int .i64 qt, .int .i64 qa, Value.slice A1 m1 c1] (by show Value.pointer (some ⟨wk.heap.size, 0, none⟩) = _; rw [HSs23.out]) rfl 32 _ HXw6.out size5 rfl (pkt_one _ _ _ _ _ _ _) ?_
           rw [show World.setRow (World.alloc wk _) s23 _ = w6 from HWw6.out.symm, ← HSs23.out]))
      clear hnd
      refine (drop_r HP6.out HMO.out HWF.out dn).mono ?_
      rintro e w7 ⟨V2', p1, b1, v1, hP7, rfl, hA7, hO7⟩
      obtain ⟨e1, e2⟩ := HA6.out.same hA7
      subst e1 e2
      obtain ⟨A3, m3, c3, rfl, -⟩ := hA7.form
      have HP7 := Shut.mk hP7
      have HA7 := Shut.mk hA7
      have HA8 := Shut.mk (HA6.out.only hO7 fun j hj e => by have := HRS.out j e; have := hj.1; omega)
      have HY8 := Shut.mk (hO7.at_ HYw6.out (fun e => by have := HRS.out _ e; have := HSs23.out; have := HS24.out; omega))
      clear hP7 hA7 hO7
      unfold pkV
      dsimp only
      obtain ⟨s25, hs25⟩ : ∃ s, s = w7.heap.size := ⟨_, rfl⟩
      have HSs25 := Shut.mk hs25
      have HAw8 := Shut.mk ((Below.refl w7.heap.size w7).alloc (Nat.le_refl _) (Obj.cells #[Value.int .i64 0, .int .u32 0, .int .i64 0, .int .i64 0, Value.slice none 0 0] 32 (0, 0)))
      have HXw8 := Shut.mk (show (w7.alloc (Obj.cells #[Value.int .i64 0, .int .u32 0, .int .i64 0, .int .i64 0, Value.slice none 0 0] 32 (0, 0))).heap[s25]? = some (Obj.cells #[Value.int .i64 0, .int .u32 0, .int .i64 0, .int .i64 0, Value.slice none 0 0] 32 (0, 0)) by rw [hs25]; exact (MapKept.heap_alloc w7 (Obj.cells #[Value.int .i64 0, .int .u32 0, .int .i64 0, .int .i64 0, Value.slice none 0 0] 32 (0, 0))).1)
      obtain ⟨w8, hw8⟩ : ∃ w4, w4 = (w7.alloc (Obj.cells #[Value.int .i64 0, .int .u32 0, .int .i64 0, .int .i64 0, Value.slice none 0 0] 32 (0, 0))).setRow s25 #[Value.int .i64 qi, .int .u32 qf, .int .i64 qt, .int .i64 qa, Value.slice A3 m3 c3] := ⟨_, rfl⟩
      have HYw8 := Shut.mk (show w8.heap[s25]? = some (Obj.cells #[Value.int .i64 qi, .int .u32 qf, .int .i64 qt, .int .i64 qa, Value.slice A3 m3 c3] 32 (0, 0)) by rw [hw8]; exact setRow_heap _ s25 _ #[Value.int .i64 qi, .int .u32 qf, .int .i64 qt, .int .i64 qa, Value.slice A3 m3 c3] _ (0, 0) HXw8.out)
      have HBw8 := Shut.mk (show Below w7.heap.size w7 w8 by rw [hw8]; exact below_setRow HAw8.out (by omega) _)
      have HWw8 := Shut.mk hw8
      clear hw8 hs25
      have HP9 := Shut.mk (HP7.out.quiet HBw8.out)
      have HA9 := Shut.mk (HA7.out.below HBw8.out)
      have HAX := Shut.mk (HA8.out.below HBw8.out)
      have HYX := Shut.mk ((HBw8.out.block _ (lt_blk HY8.out)).trans HY8.out)
      obtain ⟨Ax, mx, cx, ex, hrx⟩ := HAX.out.form
      cases ex
      obtain ⟨Ay, my, cy, ey, hry⟩ := HA9.out.form
      cases ey
      have HRX := Shut.mk hrx
      have HRY := Shut.mk hry
      clear hrx hry
      go_wp2_with (first
        | (refine wpList_store_row rfl 32 (.tmp 25) (.tmp 96) rfl s25 #[Value.int .i64 qi, .int .u32 qf, .int .i64 qt, .int .i64 qa, Value.slice A3 m3 c3] (by show Value.pointer (some ⟨w7.heap.size, 0, none⟩) = _; rw [HSs25.out]) rfl 32 _ HXw8.out size5 rfl (pkt_one _ _ _ _ _ _ _) ?_
           rw [show World.setRow (World.alloc w7 _) s25 _ = w8 from HWw8.out.symm, ← HSs25.out])
        | (refine wpList_load_if (by rfl) 32 (.tmp 23) rfl s23 rfl 32 #[Value.int .i64 qi, .int .u32 qf, .int .i64 qt, .int .i64 qa, Value.slice A1 m1 c1] (0, 0) _ HYX.out Try.underlying32 rfl size5 ?_)
        | (refine wpList_load_if (by rfl) 32 (.tmp 25) rfl s25 rfl 32 #[Value.int .i64 qi, .int .u32 qf, .int .i64 qt, .int .i64 qa, Value.slice A3 m3 c3] (0, 0) _ HYw8.out Try.underlying32 rfl size5 ?_))
      refine (samepkt_any ⟨qi, qf, qt, qa, qb⟩ A1 A3 m1 c1 m3 c3 w8 HRX.out HRY.out).mono ?_
      rintro e w9 ⟨rfl, hb9⟩
      have HP10 := Shut.mk (HP9.out.quiet hb9)
      clear hb9
      go_wp2_with (fail)
      go_meet
      exact ⟨t, pa, T, T2, V', V2', dropM q dn, rfl, ⟨HP10.out⟩, ⟨(mo_dropM HMO.out dn).up (Nat.le_succ k)⟩, ⟨HTI.out.1, by have := HTI.out.2; omega⟩⟩
    case rest =>
      obtain ⟨t', at', T', T2', V', V2', q', rfl, HP, HM2, HTI2⟩ := hcut
      have HWF := Shut.mk (show ∀ j, j < 16 → ∀ a ∈ (q'.fl j).pk, wf8 a.body from fun j hj a ha => HP.out.pw.cq.wf hj ha)
      have HAQ := Shut.mk (show lenTo q' 16 = (allQ q').length ∧ (allQ q').length ≤ 16000 from ⟨(len_all q' 16).symm, by have := allTo_len HM2.out.few 16 (Nat.le_refl _); exact this⟩)
      go_wp2_with (fail)
      refine (fat_any T' wc x V' q' HP.out.pw.cq HM2.out.few).mono ?_
      rintro e w2a ⟨⟨o, ho, rfl⟩, hb⟩
      have HP2 := Shut.mk (HP.out.quiet hb)
      have HO := Shut.mk ho
      clear hb ho
      go_wp2_with (fail)
      refine (reffat_any T2' w2a y V2' q' HP2.out.pw.rq HM2.out.fewQ).mono ?_
      rintro e w' ⟨⟨o2, ho2, rfl⟩, rfl⟩
      have HO2 := Shut.mk (fat_one HO.out ho2)
      rw [← HO2.out]
      clear ho2
      have hnd : w2a.cell? ⟨gd, 1, none⟩ = some (.int .i64 dn) := by have := block_range HP2.out.db 1 _ rfl; simpa using this
      go_wp2_with (fail)
      clear hnd
      refine (head_c HP2.out HM2.out dn).mono ?_
      rintro e wk ⟨p0, b0, v0, rfl, hA, hb⟩
      obtain ⟨A1, m1, c1, rfl, -⟩ := hA.form
      obtain ⟨qi, qf, qt, qa, qb⟩ := p0
      have HP4 := Shut.mk (HP2.out.quiet hb)
      have HA4 := Shut.mk hA
      clear hA hb
      unfold pkV
      dsimp only
      obtain ⟨s31, hs31⟩ : ∃ s, s = wk.heap.size := ⟨_, rfl⟩
      have HSs31 := Shut.mk hs31
      have HAw6 := Shut.mk ((Below.refl wk.heap.size wk).alloc (Nat.le_refl _) (Obj.cells #[Value.int .i64 0, .int .u32 0, .int .i64 0, .int .i64 0, Value.slice none 0 0] 32 (0, 0)))
      have HXw6 := Shut.mk (show (wk.alloc (Obj.cells #[Value.int .i64 0, .int .u32 0, .int .i64 0, .int .i64 0, Value.slice none 0 0] 32 (0, 0))).heap[s31]? = some (Obj.cells #[Value.int .i64 0, .int .u32 0, .int .i64 0, .int .i64 0, Value.slice none 0 0] 32 (0, 0)) by rw [hs31]; exact (MapKept.heap_alloc wk (Obj.cells #[Value.int .i64 0, .int .u32 0, .int .i64 0, .int .i64 0, Value.slice none 0 0] 32 (0, 0))).1)
      obtain ⟨w6, hw6⟩ : ∃ w4, w4 = (wk.alloc (Obj.cells #[Value.int .i64 0, .int .u32 0, .int .i64 0, .int .i64 0, Value.slice none 0 0] 32 (0, 0))).setRow s31 #[Value.int .i64 qi, .int .u32 qf, .int .i64 qt, .int .i64 qa, Value.slice A1 m1 c1] := ⟨_, rfl⟩
      have HYw6 := Shut.mk (show w6.heap[s31]? = some (Obj.cells #[Value.int .i64 qi, .int .u32 qf, .int .i64 qt, .int .i64 qa, Value.slice A1 m1 c1] 32 (0, 0)) by rw [hw6]; exact setRow_heap _ s31 _ #[Value.int .i64 qi, .int .u32 qf, .int .i64 qt, .int .i64 qa, Value.slice A1 m1 c1] _ (0, 0) HXw6.out)
      have HBw6 := Shut.mk (show Below wk.heap.size wk w6 by rw [hw6]; exact below_setRow HAw6.out (by omega) _)
      have HWw6 := Shut.mk hw6
      clear hw6 hs31
      have HP6 := Shut.mk (HP4.out.quiet HBw6.out)
      have HA6 := Shut.mk (HA4.out.below HBw6.out)
      have hnd : w6.cell? ⟨gd, 1, none⟩ = some (.int .i64 dn) := by have := block_range HP6.out.db 1 _ rfl; simpa using this
      go_wp2_with (first
        | (refine wpList_store_row rfl 32 (.tmp 31) (.tmp 172) rfl s31 #[Value.int .i64 qi, .int .u32 qf, .int .i64 qt, .int .i64 qa, Value.slice A1 m1 c1] (by show Value.pointer (some ⟨wk.heap.size, 0, none⟩) = _; rw [HSs31.out]) rfl 32 _ HXw6.out size5 rfl (pkt_one _ _ _ _ _ _ _) ?_
           rw [show World.setRow (World.alloc wk _) s31 _ = w6 from HWw6.out.symm, ← HSs31.out]))
      clear hnd
      refine (head_r HP6.out HM2.out HWF.out dn).mono ?_
      rintro e w7 ⟨p1, b1, v1, rfl, hA7, hb7⟩
      obtain ⟨e1, e2⟩ := HA6.out.same hA7
      subst e1 e2
      obtain ⟨A3, m3, c3, rfl, -⟩ := hA7.form
      have HP7 := Shut.mk (HP6.out.quiet hb7)
      have HA7 := Shut.mk hA7
      have HA8 := Shut.mk (HA6.out.below hb7)
      have HY8 := Shut.mk ((hb7.block _ (lt_blk HYw6.out)).trans HYw6.out)
      clear hA7 hb7
      unfold pkV
      dsimp only
      obtain ⟨s33, hs33⟩ : ∃ s, s = w7.heap.size := ⟨_, rfl⟩
      have HSs33 := Shut.mk hs33
      have HAw8 := Shut.mk ((Below.refl w7.heap.size w7).alloc (Nat.le_refl _) (Obj.cells #[Value.int .i64 0, .int .u32 0, .int .i64 0, .int .i64 0, Value.slice none 0 0] 32 (0, 0)))
      have HXw8 := Shut.mk (show (w7.alloc (Obj.cells #[Value.int .i64 0, .int .u32 0, .int .i64 0, .int .i64 0, Value.slice none 0 0] 32 (0, 0))).heap[s33]? = some (Obj.cells #[Value.int .i64 0, .int .u32 0, .int .i64 0, .int .i64 0, Value.slice none 0 0] 32 (0, 0)) by rw [hs33]; exact (MapKept.heap_alloc w7 (Obj.cells #[Value.int .i64 0, .int .u32 0, .int .i64 0, .int .i64 0, Value.slice none 0 0] 32 (0, 0))).1)
      obtain ⟨w8, hw8⟩ : ∃ w4, w4 = (w7.alloc (Obj.cells #[Value.int .i64 0, .int .u32 0, .int .i64 0, .int .i64 0, Value.slice none 0 0] 32 (0, 0))).setRow s33 #[Value.int .i64 qi, .int .u32 qf, .int .i64 qt, .int .i64 qa, Value.slice A3 m3 c3] := ⟨_, rfl⟩
      have HYw8 := Shut.mk (show w8.heap[s33]? = some (Obj.cells #[Value.int .i64 qi, .int .u32 qf, .int .i64 qt, .int .i64 qa, Value.slice A3 m3 c3] 32 (0, 0)) by rw [hw8]; exact setRow_heap _ s33 _ #[Value.int .i64 qi, .int .u32 qf, .int .i64 qt, .int .i64 qa, Value.slice A3 m3 c3] _ (0, 0) HXw8.out)
      have HBw8 := Shut.mk (show Below w7.heap.size w7 w8 by rw [hw8]; exact below_setRow HAw8.out (by omega) _)
      have HWw8 := Shut.mk hw8
      clear hw8 hs33
      have HP9 := Shut.mk (HP7.out.quiet HBw8.out)
      have HA9 := Shut.mk (HA7.out.below HBw8.out)
      have HAX := Shut.mk (HA8.out.below HBw8.out)
      have HYX := Shut.mk ((HBw8.out.block _ (lt_blk HY8.out)).trans HY8.out)
      obtain ⟨Ax, mx, cx, ex, hrx⟩ := HAX.out.form
      cases ex
      obtain ⟨Ay, my, cy, ey, hry⟩ := HA9.out.form
      cases ey
      have HRX := Shut.mk hrx
      have HRY := Shut.mk hry
      clear hrx hry
      go_wp2_with (first
        | (refine wpList_store_row rfl 32 (.tmp 33) (.tmp 179) rfl s33 #[Value.int .i64 qi, .int .u32 qf, .int .i64 qt, .int .i64 qa, Value.slice A3 m3 c3] (by show Value.pointer (some ⟨w7.heap.size, 0, none⟩) = _; rw [HSs33.out]) rfl 32 _ HXw8.out size5 rfl (pkt_one _ _ _ _ _ _ _) ?_
           rw [show World.setRow (World.alloc w7 _) s33 _ = w8 from HWw8.out.symm, ← HSs33.out])
        | (refine wpList_load_if (by rfl) 32 (.tmp 31) rfl s31 rfl 32 #[Value.int .i64 qi, .int .u32 qf, .int .i64 qt, .int .i64 qa, Value.slice A1 m1 c1] (0, 0) _ HYX.out Try.underlying32 rfl size5 ?_)
        | (refine wpList_load_if (by rfl) 32 (.tmp 33) rfl s33 rfl 32 #[Value.int .i64 qi, .int .u32 qf, .int .i64 qt, .int .i64 qa, Value.slice A3 m3 c3] (0, 0) _ HYw8.out Try.underlying32 rfl size5 ?_))
      refine (samepkt_any ⟨qi, qf, qt, qa, qb⟩ A1 A3 m1 c1 m3 c3 w8 HRX.out HRY.out).mono ?_
      rintro e w9 ⟨rfl, hb9⟩
      have HP10 := Shut.mk (HP9.out.quiet hb9)
      clear hb9
      go_wp2_with (fail)
      refine (len_any T' w9 x V' q' HP10.out.pw.cq (fun j hj => by have := HM2.out.few.len j hj; omega)).mono ?_
      rintro e w' ⟨rfl, rfl⟩
      rw [HAQ.out.1]
      go_wp2_with (fail)
      refine (reflen_any T2' w9 y V2' q' HP10.out.pw.rq HM2.out.few.len).mono ?_
      rintro e w11 ⟨rfl, hb⟩
      have HP11 := Shut.mk (HP10.out.quiet hb)
      clear hb
      go_wp2_with (fail)
      refine (bytes_q_any T' w11 x V' q' HP11.out.pw.cq (fun j hj => by have := HM2.out.few.len j hj; omega) (fun j hj a ha => (HM2.out.few.el j hj a ha).2.2)).mono ?_
      rintro e w' ⟨rfl, rfl⟩
      go_wp2_with (fail)
      refine (refbytes_any T2' w11 y V2' q' HP11.out.pw.rq HM2.out.fewQ).mono ?_
      rintro e w' ⟨rfl, rfl⟩
      rw [show bytesTo q' 16 = bytTo q' 16 from rfl]
      go_wp2_with (fail)
      refine (all_any T' w11 x V' q' HP11.out.pw.cq HM2.out.few).mono ?_
      rintro e w12 ⟨u1, T3, rfl, hO, hT3, hb⟩
      obtain ⟨A5, c5, hL5⟩ := Late.of hO (by have := HAQ.out.2; omega)
      have hle := hL5.eq
      subst hle
      have HL5 := Shut.mk hL5
      have HP12 := Shut.mk (HP11.out.quiet hb)
      clear hb hO hT3 hL5
      go_wp2_with (fail)
      refine (refall_any T2' w12 y V2' q' HP12.out.pw.rq HM2.out.few.len).mono ?_
      rintro e w13 ⟨u2, rfl, hO, hb⟩
      obtain ⟨A6, c6, hL6⟩ := Late.of hO (by have := HAQ.out.2; omega)
      have hle := hL6.eq
      subst hle
      have HL6 := Shut.mk hL6
      have HLX := Shut.mk (HL5.out.below hb)
      have HP13 := Shut.mk (HP12.out.quiet hb)
      clear hb hO hL6
      go_wp2_with (fail)
      refine (samepkts_any T3 T2' A5 A6 c5 c6 (allQ q') w13 HLX.out.row HL6.out.row (by have := HAQ.out.2; omega)).mono ?_
      rintro e w14 ⟨rfl, hb⟩
      have HP14 := Shut.mk (HP13.out.quiet hb)
      clear hb
      go_wp2_with (fail)
      refine (len_any T0 w14 z U qc HP14.out.cl HLC.out).mono ?_
      rintro e w' ⟨rfl, rfl⟩
      rw [← HLN.out]
      have hkb2 : k ≤ 80 := by have := HKB.out; omega
      go_wp2_with (fail)
      go_roundw
      case rel => exact ⟨k + 1, t', T', T2', V', V2', q', by have := HKN.out; omega, by go_num, rfl, ⟨HP14.out.pw.quiet_la (Below.refl _ _) (fun _ e => e.elim)⟩, HM2, ⟨HTI2.out.1, by have := HTI2.out.2; omega⟩⟩
      case measure => have := HKN.out; simp [intOf]; omega

/-! ### THE ROW -/
set_option maxRecDepth 100000 in
theorem lifted (os : Os) (started : os.Started) (H : Type) (enc : TypeId × Value → H) :
    ReturnsInHanded {} Try.checked os 3 .any (Rows.fqPlaysSpec.pre6 enc Try.prog Try.f3 Rows.fqPlaysRow.domain false) (Rows.fqPlaysSpec.post enc Try.prog Try.f3 false true false false) := by
  refine returnsInHanded_of_change (C := Try.checked) own started (by kernel_rfl) Try.func3
    (ChangeSpec.witness6 (enc := enc) (C := Try.checked) false ⟨#[], #[.int .u32 0, .int .i64 0, .int .i64 0, .slice none 0 0], []⟩ 8 (by kernel_rfl) (by kernel_rfl) (by kernel_rfl) (by kernel_rfl)) ?_
  intro W base args ds gs before hval0 hW hcnd _
  have hval : ∀ (j : Nat) t v, Try.f3.params[j]? = some t → args[j]? = some v → Value.okWide Try.prog W .any base t v := hval0
  have hW' := hW
  obtain ⟨p, q, hA0, hV, rfl, hfz, hnd⟩ := hW
  have hA : DataW.TrodAll enc Try.prog W 0 (fun _ => true) true Try.f3.params.toList args.toList ds p := hA0
  rw [Try.params3] at hA hval
  obtain ⟨v0, vs0, d0, ds0, p0, q0', hargs, rfl, rfl, h0, r0⟩ := trodAll_cons hA
  obtain ⟨v1, vs1, d1, ds1, p1, q1', rfl, rfl, rfl, h1, r1⟩ := trodAll_cons r0
  obtain ⟨v2, vs2, d2, ds2, p2, q2', rfl, rfl, rfl, h2, r2⟩ := trodAll_cons r1
  obtain ⟨v3, vs3, d3, ds3, p3, q3', rfl, rfl, rfl, h3, r3⟩ := trodAll_cons r2
  obtain ⟨rfl, rfl, rfl⟩ := trodAll_nil r3
  obtain rfl : args = #[v0, v1, v2, v3] := by cases args; simp_all
  obtain ⟨rfl, rfl⟩ := trodVars_none hV
  have k0 := h0
  have lt0 : ∀ x ∈ p0, x.block < W.heap.size := by obtain ⟨m, hm⟩ := k0; exact DataW.trod_lt m _ _ _ hm
  have k1 := h1
  have lt1 : ∀ x ∈ p1, x.block < W.heap.size := by obtain ⟨m, hm⟩ := k1; exact DataW.trod_lt m _ _ _ hm
  have k2 := h2
  have lt2 : ∀ x ∈ p2, x.block < W.heap.size := by obtain ⟨m, hm⟩ := k2; exact DataW.trod_lt m _ _ _ hm
  have k3 := h3
  have lt3 : ∀ x ∈ p3, x.block < W.heap.size := by obtain ⟨m, hm⟩ := k3; exact DataW.trod_lt m _ _ _ hm
  obtain ⟨n0, rfl, rfl, rfl, w0⟩ := open_int Try.underlying22 (hval 0 22 v0 rfl rfl) h0
  obtain ⟨n1, rfl, rfl, rfl, w1⟩ := open_int Try.underlying2 (hval 1 2 v1 rfl rfl) h1
  obtain ⟨n2, rfl, rfl, rfl, w2⟩ := open_int Try.underlying2 (hval 2 2 v2 rfl rfl) h2
  obtain ⟨a3, len3, cap3, rfl⟩ := okWide_slice Try.underlying23 (hval 3 23 v3 rfl rfl)
  obtain ⟨l3, rfl, w3⟩ : ∃ l : List Dop, len3 = l.length ∧ RowDo (fun k => k < W.heap.size) W a3 l.length l ∧ l.length ≤ cap3 ∧ ∀ d ∈ l, okDo d := by
    obtain ⟨fuel, hf⟩ := h3
    obtain ⟨A, c, l, e, hr⟩ := open_dos (v := .slice a3 len3 cap3) hf
    cases e
    exact ⟨l, rfl, hr⟩
  clear hA0 hval0
  refine (walk n0 n1 n2 a3 cap3 l3 W w0 w1 w2 w3).mono fun e W' ⟨he, bel⟩ => ?_
  subst he
  exact ⟨_, rfl, _, _, _, [], _, [], hW', trodAll_mk1 (shut_bool Try.underlying4 _), (trodAll_cons_mk (Below.trod laidOut (by kernel_rfl) (of_decide_eq_true (by kernel_rfl)) k0 bel lt0) (trodAll_cons_mk (Below.trod laidOut (by kernel_rfl) (of_decide_eq_true (by kernel_rfl)) k1 bel lt1) (trodAll_cons_mk (Below.trod laidOut (by kernel_rfl) (of_decide_eq_true (by kernel_rfl)) k2 bel lt2) (trodAll_cons_mk (Below.trod laidOut (by kernel_rfl) (of_decide_eq_true (by kernel_rfl)) k3 bel lt3) trodAll_mk0)))), rfl, bel.frame _, fun h => by cases h⟩

theorem over : Rows.fqPlaysRow.holds Try.pinned (OpenSpec.ofChange Rows.fqPlaysSpec) :=
  OpenClaim.holds_of_wide 3 Try.f3 rfl rfl rfl rfl rfl rfl rfl ⟨rfl, rfl, rfl, rfl, rfl⟩ rfl rfl rfl rfl rfl (by kernel_rfl) Try.func3 (by kernel_rfl)
    (of_decide_eq_true (by kernel_rfl)) (by unfold Func.isWrapper; first | (rw [if_pos (by decide +kernel)]; kernel_rfl) | (rw [if_neg (by decide +kernel)]; exact ⟨rfl, rfl⟩))
    (fun os started H enc _ => lifted os started H enc)
theorem proved : Rows.FqPlaysSaid := over
#print axioms proved
end Go.Proofs.Ytlkoleannlpflaa.fqPlays
