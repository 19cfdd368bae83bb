/-
  The walk of muezzin/muezzinlaw14.PoolPlays: the Go text returns true.
-/
import Derived.Test.YtndkmgcmegcieaaGreatDoorMgG
import Derived.Test.YtndkmgcmegcieaaGreatDoorOpenDo
import Derived.Test.YtndkmgcmegcieaaGreatDoorPoolH
import Derived.Test.YtndkmgcmegcieaaGreatDoorErrP
import Derived.Deep.CutRange
import Derived.Deep.CutBlock
import Derived.WalkKit
import Derived.ProofKit
import Derived.Below
namespace Go.Proofs.YtndkmgcmegcieaaGreatDoor.poolPlays
open Go.ChangeShapes Go.WideShapes Go.ChangeAt Go.RowKit Go.Deep
set_option linter.unusedVariables false
set_option linter.unusedSimpArgs false
open Go.Proofs.YtndkmgcmegcieaaGreatDoor
theorem size9 : (Tryz.prog.info? 37).map (·.size) = some 9 := by kernel_rfl
theorem sizeL : (Tryz.prog.info? 2).map (·.size) = some 1 := by kernel_rfl
theorem do_range9 {w : World} {g : Nat} {tt : TypeId} {fr : Nat × Nat} {a b c d e f h i u : Value} (hh : w.heap[g]? = some (.cells #[a, b, c, d, e, f, h, i, u] tt fr)) : w.rangeAt g 4 [e, f, h, i, u] := fun j v hv => by
 have h9 := block_range hh (4 + j) v (by rw [Nat.add_comm]; exact hv)
 rwa [Nat.zero_add] at h9
set_option maxRecDepth 100000 in
set_option maxHeartbeats 8000000 in
theorem walk (n0 : Int) (n1 : Int) (n2 : Int) (a3 : Option Addr) (cap3 : Nat) (l3 : List Dop) (w : World) (E : Nat → Addr) (hS : Sent w E [101, 102, 103, 104, 105, 106, 107, 108, 109, 110, 111, 112, 113, 114]) (w0 : (Lit.int .u32 n0).wf = true) (w1 : (Lit.int .i64 n1).wf = true) (w2 : (Lit.int .i64 n2).wf = true) (w3 : RowDo (fun k => k < w.heap.size) w a3 l3.length l3 ∧ l3.length ≤ cap3 ∧ ∀ d ∈ l3, okDo d) :
 Calls Tryz.prog 3 #[.int .u32 n0, .int .i64 n1, .int .i64 n2, .slice a3 l3.length cap3] w fun e w' => e = .returned (.bool true) ∧ Below w.heap.size w w' := by
 obtain ⟨hr3, hc3, hok3⟩ := w3
 have HR := Shut.mk hr3
 have HOK := Shut.mk hok3
 have hle := hr3.le
 have HLE := Shut.mk hle
 have HS := Shut.mk hS
 have hw0 : 0 ≤ n0 ∧ n0 ≤ 4294967295 := by simpa [Lit.wf, IntKind.min, IntKind.max, IntKind.signed, IntKind.bits] using w0
 obtain ⟨sd, rfl⟩ := uv_of hw0.1 hw0.2
 obtain ⟨n, hn⟩ : ∃ n : Nat, n = l3.length := ⟨_, rfl⟩
 have HN := Shut.mk hn
 rw [← hn] at hle ⊢
 clear w0 w1 w2 hr3 hc3 hok3 hw0 hn hS
 go_enter Tryz.func3, Tryz.ntmps3
 go_wp2_with (fail)
 refine (first_p_any w).mono ?_
 rintro e wa ⟨rfl, hBa⟩
 have HBa := Shut.mk hBa
 clear hBa
 go_wp2_with (fail)
 by_cases hk : (1 ≤ n1 ∧ n1 ≤ 512) ∧ (1 ≤ n2 ∧ n2 ≤ 1048576)
 rotate_left
 ·refine (new_no_any (uv sd) 50 1000 n1 n2 hk wa E (HS.out.below HBa.out)).mono ?_
  rintro e wb ⟨rfl, hb⟩
  have HBb := Shut.mk (HBa.out.trans (hb.mono HBa.out.size))
  clear hb
  obtain ⟨ev, hev⟩ : ∃ v, v = errV E 103 := ⟨_, rfl⟩
  have HIS := Shut.mk (is_any E 103 103 wb (HS.out.below HBb.out) (.inr (by decide)))
  rw [← hev] at HIS ⊢
  clear hev
  rcases (by omega : n1 < 1 ∨ (1 ≤ n1 ∧ 512 < n1) ∨ ((1 ≤ n1 ∧ n1 ≤ 512) ∧ n2 < 1) ∨ ((1 ≤ n1 ∧ n1 ≤ 512) ∧ (1 ≤ n2 ∧ 1048576 < n2))) with h1 | ⟨h1, h2⟩ | ⟨⟨h1, h2⟩, h3⟩ | ⟨⟨h1, h2⟩, h3, h4⟩
  ·clear hk
   go_wp2_with (fail)
   refine HIS.out.mono ?_
   rintro e wd ⟨rfl, hb⟩
   have HBd := Shut.mk (HBb.out.trans (hb.mono HBb.out.size))
   clear hb
   go_wp2_with (fail)
   go_ret
   exact ⟨rfl, HBd.out⟩
  ·have c1 : ¬ n1 < 1 := by omega
   clear hk
   go_wp2_with (fail)
   refine HIS.out.mono ?_
   rintro e wd ⟨rfl, hb⟩
   have HBd := Shut.mk (HBb.out.trans (hb.mono HBb.out.size))
   clear hb
   go_wp2_with (fail)
   go_ret
   exact ⟨rfl, HBd.out⟩
  ·have c1 : ¬ n1 < 1 := by omega
   have c2 : ¬ 512 < n1 := by omega
   clear hk
   go_wp2_with (fail)
   refine HIS.out.mono ?_
   rintro e wd ⟨rfl, hb⟩
   have HBd := Shut.mk (HBb.out.trans (hb.mono HBb.out.size))
   clear hb
   go_wp2_with (fail)
   go_ret
   exact ⟨rfl, HBd.out⟩
  ·have c1 : ¬ n1 < 1 := by omega
   have c2 : ¬ 512 < n1 := by omega
   have c3 : ¬ n2 < 1 := by omega
   clear hk
   go_wp2_with (fail)
   refine HIS.out.mono ?_
   rintro e wd ⟨rfl, hb⟩
   have HBd := Shut.mk (HBb.out.trans (hb.mono HBb.out.size))
   clear hb
   go_wp2_with (fail)
   go_ret
   exact ⟨rfl, HBd.out⟩
 obtain ⟨hd, hhd⟩ : ∃ hd : Hd, hd = ⟨sd, 50, 1000, n1, n2⟩ := ⟨_, rfl⟩
 have HHD := Shut.mk hhd
 have HMP := Shut.mk (show 1 ≤ hd.mp ∧ 1 ≤ hd.mb by rw [hhd]; exact ⟨hk.1.1, hk.2.1⟩)
 refine (show Calls Tryz.prog 5 #[.int .u32 (uv sd), .int .i64 50, .int .i64 1000, .int .i64 n1, .int .i64 n2] wa fun e w' => e = .returned (.tuple #[.pointer (some ⟨wa.heap.size, 0, none⟩), .nilIface]) ∧ IsPool (fun _ => False) w' wa.heap.size hd X0 ∧ Below wa.heap.size wa w' by rw [hhd]; exact new_p_any ⟨sd, 50, 1000, n1, n2⟩ wa hk.1 hk.2).mono ?_
 rintro e wb ⟨rfl, hP, hB⟩
 have HP := Shut.mk hP
 have HBb := Shut.mk hB
 clear hP hB
 obtain ⟨⟨k1, k2⟩, k3, k4⟩ := hk
 have c1 : ¬ n1 < 1 := by omega
 have c2 : ¬ 512 < n1 := by omega
 have c3 : ¬ n2 < 1 := by omega
 have c4 : ¬ 1048576 < n2 := by omega
 clear k1 k2 k3 k4
 by_cases h50 : 50 < n
 ·have h50i : (50 : Int) < (n : Int) := by omega
  have HBE := Shut.mk (HBa.out.trans (HBb.out.mono HBa.out.size))
  go_wp2_with (fail)
  go_ret
  exact ⟨rfl, HBE.out⟩
 have h50i : ¬ (50 : Int) < (n : Int) := by omega
 have HN50 := Shut.mk (show n ≤ 50 by omega)
 go_wp2_with (fail)
 clear h50 h50i c1 c2 c3 c4
 refine (show Calls Tryz.prog 7 #[.int .u32 (uv sd), .int .i64 50, .int .i64 1000, .int .i64 n1, .int .i64 n2] wb fun e w' => e = .returned (.pointer (some ⟨wb.heap.size, 0, none⟩)) ∧ ∃ X, RNew wb wb.heap.size hd 136 w' X by rw [hhd]; exact newpool_any ⟨sd, 50, 1000, n1, n2⟩ wb).mono ?_
 rintro e wc ⟨rfl, Y0, hR⟩
 obtain ⟨g, hg⟩ : ∃ g, g = wa.heap.size := ⟨_, rfl⟩
 obtain ⟨gr, hgr⟩ : ∃ g, g = wb.heap.size := ⟨_, rfl⟩
 have HFZ := Shut.mk hR.full
 have HQW := Shut.mk (show QPw w g gr hd wc (fun _ => False) (fun _ => False) (fun _ => False) X0 Y0 from
  {cq := by rw [hg]; exact HP.out.quiet hR.bel
   rq := by rw [hgr]; exact hR.is
   bel := (HBa.out.trans (HBb.out.mono HBa.out.size)).trans (hR.bel.mono (Nat.le_trans HBa.out.size HBb.out.size))
   cnew := fun k hk => by
    rcases hk with e | ⟨j, s, hj, hs, e⟩
    ·rw [e, hg]; exact HBa.out.size
    ·cases hs
   rnew := fun k hk => Nat.le_trans (Nat.le_trans HBa.out.size HBb.out.size) (hR.new k (by rw [hgr] at hk; exact hk))
   ap := fun k hk e => by
    rcases hk with e1 | ⟨j, s, hj, hs, e1⟩
    ·have h1 := hR.new k (by rw [hgr] at e; exact e)
     have h2 := HP.out.lt
     omega
    ·cases hs
   c1 := fun _ _ e => e
   c2 := fun _ _ e => e
   la := fun _ e => e.elim })
 rw [← hg, ← hgr]
 clear hR hg hgr HP HBb HBa hhd
 go_wp2_with (fail)
 go_loopw [13, 14] (fun s13 s14 wr => ∃ (k : Nat) (t : Int) (T T2 : Nat → Prop) (X Y : Nat → Option Qs), k ≤ n ∧ s14 = .int .i64 (k : Int) ∧ s13 = .int .i64 t ∧ Shut (QPw w g gr hd wr (fun _ => False) T T2 X Y) ∧ Shut (FullR Y ∧ mR Y = mOf X) ∧ Shut ((allP (mOf X) 128).length ≤ k) ∧ Shut (0 ≤ t ∧ t ≤ (k : Int) * 4000)) (fun _ s14 _ => n - (intOf s14).toNat)
 case atStart => exact ⟨0, 0, _, _, _, _, Nat.zero_le _, rfl, rfl, HQW, ⟨HFZ.out.1, HFZ.out.2⟩, ⟨by rw [mOf_X0, allP_M0]; exact Nat.le_refl _⟩, ⟨by omega, by omega⟩⟩
 case round =>
  clear HQW HFZ
  obtain ⟨k, t, T, T2, X, Y, hk, rfl, rfl, HPW, HFS, HTL, HTI⟩ := hrel
  by_cases hlt : k < n
  rotate_left
  ·have e0 : decide ((k : Int) < (n : Int)) = false := by simp; omega
   have e1 : decide (k < n) = false := by simpa using hlt
   clear hlt hk
   go_wp2_with (fail)
   go_ret
   exact ⟨rfl, HPW.out.bel⟩
  have HKN := Shut.mk hlt
  have e0 : decide ((k : Int) < (n : Int)) = true := by simp; omega
  have e1 : decide (k < n) = true := by simpa using hlt
  have hki : (k : Int) < (n : Int) := by omega
  have HKB := Shut.mk (show k < 50 by have := HN50.out; omega)
  have hkb : k ≤ 50 := by have := HKB.out; omega
  obtain ⟨b, off, aa, mm, cc, rfl, hrg, hrb, hmc, -⟩ := RowK.el (RowK.below HR.out HPW.out.bel) k (by rw [← HN.out]; exact hlt)
  obtain ⟨b2, off2, aa2, mm2, cc2, hA2, hrg2, hrb2, -, hlt2⟩ := RowK.el HR.out k (by rw [← HN.out]; exact hlt)
  have hdm : l3.getD k do00.1 ∈ l3 := by
   have e : l3.getD k do00.1 = l3[k]'(by rw [← HN.out]; exact hlt) := by simp [List.getD, show k < l3.length by rw [← HN.out]; exact hlt]
   rw [e]; exact List.getElem_mem _
  have hdok := HOK.out _ hdm
  generalize l3.getD k do00.1 = d at *
  obtain ⟨dk, da, db, dn, pi, pf, pt, pa, pb⟩ := d
  try dsimp only at hdok
  have hpf : 0 ≤ pf ∧ pf ≤ 4294967295 := by have := hdok.2.2.1; simpa [Lit.wf, IntKind.min, IntKind.max, IntKind.signed, IntKind.bits] using this
  have HDN := Shut.mk (show (Lit.int .i64 dn).wf = true from hdok.1.2.2.2)
  obtain ⟨fa, rfl⟩ := uv_of hpf.1 hpf.2
  have HRG := Shut.mk (show wr.rangeAt b (off + k * 9) [Value.int .i64 dk, .int .i64 da, .int .i64 db, .int .i64 dn, .int .i64 pi, .int .u32 (uv fa), .int .i64 pt, .int .i64 pa, Value.slice aa mm cc] from hrg)
  have HAA := (show aa = aa2 ∧ mm = mm2 from by
   have h1 := hrg 8 _ rfl
   have h2 := below_at HPW.out.bel (hrg2 8 _ rfl)
   cases hA2
   rw [h1] at h2
   cases h2
   exact ⟨rfl, rfl⟩)
  obtain ⟨rfl, rfl⟩ := HAA
  have HARG := Shut.mk (show ∀ w', Below w.heap.size w w' → RowB .u8 w' aa mm pb from fun w' hb => (show RowB .u8 w aa mm pb from hrb2).below hb)
  have HABL := Shut.mk (show 0 < mm → ∀ p, aa = some p → p.block < w.heap.size from fun h p hp => hlt2 h p hp)
  have HML := Shut.mk (show mm = pb.length from (show RowB .u8 wr aa mm pb from hrb).len.symm)
  clear hrg hrb hmc hrg2 hrb2 hA2 hdm hdok hpf hlt hk hlt2
  obtain ⟨gd, hgd⟩ : ∃ g, g = wr.heap.size := ⟨_, rfl⟩
  have HGD := Shut.mk hgd
  obtain ⟨w1, hw1⟩ : ∃ w4, w4 = wr.alloc (Obj.cells #[Value.int .i64 dk, .int .i64 da, .int .i64 db, .int .i64 dn, .int .i64 pi, .int .u32 (uv fa), .int .i64 pt, .int .i64 pa, Value.slice aa mm cc] 37 (0, 0)) := ⟨_, rfl⟩
  have HDB := Shut.mk (show w1.heap[gd]? = some (Obj.cells #[Value.int .i64 dk, .int .i64 da, .int .i64 db, .int .i64 dn, .int .i64 pi, .int .u32 (uv fa), .int .i64 pt, .int .i64 pa, Value.slice aa mm cc] 37 (0, 0)) by rw [hw1, hgd]; exact (MapKept.heap_alloc wr _).1)
  have HBd := Shut.mk (show Below wr.heap.size wr w1 by rw [hw1]; exact (Below.refl wr.heap.size wr).alloc (Nat.le_refl _) _)
  have HW1 := Shut.mk hw1.symm
  have HPW1 := Shut.mk (HPW.out.quiet_la (La' := (· = gd)) HBd.out fun j hj => .inr (.inl ⟨by omega, by have := lt_blk HDB.out; omega⟩))
  have HTG := Shut.mk (show (∀ j, T j → j < gd) ∧ (∀ j, T2 j → j < gd) from ⟨fun j hj => by have := HPW.out.cq.there j hj; omega, fun j hj => by have := HPW.out.rq.there j hj; omega⟩)
  have HWG := Shut.mk (show w.heap.size ≤ gd from by have := HPW.out.bel.size; omega)
  have hbody : w1.cell? ⟨gd, 8, none⟩ = some (.slice aa mm cc) := by have := block_range HDB.out 8 _ rfl; simpa using this
  clear hgd hw1 HPW
  by_cases hm200 : 200 < mm
  ·have hm200i : (200 : Int) < (mm : Int) := by omega
   go_wp2_with (first
    | (refine wpList_load_mid rfl 37 (.tmp 83) rfl b (off + k * 9) rfl [Value.int .i64 dk, .int .i64 da, .int .i64 db, .int .i64 dn, .int .i64 pi, .int .u32 (uv fa), .int .i64 pt, .int .i64 pa, Value.slice aa mm cc] _ HRG.out Tryz.underlying37 rfl size9 ?_))
   rw [HW1.out]
   go_ret
   exact ⟨rfl, HPW1.out.bel⟩
  have hm200i : ¬ (200 : Int) < (mm : Int) := by omega
  have HMM := Shut.mk (show mm ≤ 200 by omega)
  go_wp2_with (first
   | (refine wpList_load_mid rfl 37 (.tmp 83) rfl b (off + k * 9) rfl [Value.int .i64 dk, .int .i64 da, .int .i64 db, .int .i64 dn, .int .i64 pi, .int .u32 (uv fa), .int .i64 pt, .int .i64 pa, Value.slice aa mm cc] _ HRG.out Tryz.underlying37 rfl size9 ?_))
  rw [HW1.out, ← HGD.out]
  clear e0 e1 hki HRG HBd hbody hm200 hm200i
  refine (qclone HPW1.out HDB.out).mono ?_
  rintro e w2 ⟨Z, rfl, hp, -, hfz, hb⟩
  obtain ⟨gz, hz⟩ : ∃ z, z = w1.heap.size := ⟨_, rfl⟩
  rw [← hz] at hp hfz
  rw [← hz]
  have HPD := Shut.mk hp
  have HZG := Shut.mk (show ¬ FootP gz Z gd from fun e => by have h1 := hfz gd e; have h2 := lt_blk HDB.out; omega)
  clear hp hfz hb hz HPW1
  obtain ⟨T0, hT0⟩ : ∃ T0, T0 = T := ⟨_, rfl⟩
  have HPD := Shut.mk (show QPd w g gr hd gd #[Value.int .i64 dk, .int .i64 da, .int .i64 db, .int .i64 dn, .int .i64 pi, .int .u32 (uv fa), .int .i64 pt, .int .i64 pa, Value.slice aa mm cc] gz T0 Z w2 T T2 X Y by rw [hT0]; exact HPD.out)
  have HGT := Shut.mk (show ¬ T gd ∧ ¬ T2 gd ∧ ¬ T0 gd ∧ ¬ FootP gz Z gd from ⟨fun e => by have := HTG.out.1 gd e; omega, fun e => by have := HTG.out.2 gd e; omega, fun e => by rw [hT0] at e; have := HTG.out.1 gd e; omega, HZG.out⟩)
  clear hT0 HTG HZG HDB
  go_wp2_with (fail)
  refine (len_p_any HPD.out.cl).mono ?_
  rintro e w2b ⟨rfl, hb⟩
  have HPD := Shut.mk (HPD.out.quiet hb)
  clear hb
  obtain ⟨w2, hw2⟩ : ∃ w2, w2 = w2b := ⟨_, rfl⟩
  rw [← hw2] at HPD ⊢
  clear hw2
  obtain ⟨ln, hln⟩ : ∃ ln, ln = (allP (mOf Z) 128).length := ⟨_, rfl⟩
  have HLN := Shut.mk hln
  rw [← hln]
  clear hln
  have hkd : w2.cell? ⟨gd, 0, none⟩ = some (.int .i64 dk) := by have := block_range HPD.out.db 0 _ rfl; simpa using this
  go_upto_block 2 with (fail)
  go_cut [13, 18, 19, 20, 21, 22, 23, 24, 25, 26, 27] from 97 to 183 (fun s13 _ _ _ _ _ _ _ _ _ _ wx => ∃ (t' at' : Int) (T' T2' : Nat → Prop) (X' Y' : Nat → Option Qs), s13 = .int .i64 t' ∧ Shut (QPd w g gr hd gd #[Value.int .i64 dk, .int .i64 da, .int .i64 db, .int .i64 dn, .int .i64 pi, .int .u32 (uv fa), .int .i64 pt, .int .i64 at', Value.slice aa mm cc] gz T0 Z wx T' T2' X' Y') ∧ Shut (FullR Y' ∧ mR Y' = mOf X') ∧ Shut ((allP (mOf X') 128).length ≤ k + 1) ∧ Shut (0 ≤ t' ∧ t' ≤ ((k : Int) + 1) * 4000))
  case first =>
   clear hkd
   by_cases hk1 : dk = 1
   ·subst hk1
    have HFLW := Shut.mk (show 0 ≤ uv fa ∧ uv fa ≤ 4294967295 from ⟨uv_lo fa, uv_hi fa⟩)
    have HST := Shut.mk (HPD.out.store #[Value.int .i64 1, .int .i64 da, .int .i64 db, .int .i64 dn, .int .i64 pi, .int .u32 (uv fa), .int .i64 pt, .int .i64 t, Value.slice aa mm cc] HWG.out HGT.out)
    obtain ⟨w3, hw3⟩ : ∃ w3, w3 = w2.setRow gd #[Value.int .i64 1, .int .i64 da, .int .i64 db, .int .i64 dn, .int .i64 pi, .int .u32 (uv fa), .int .i64 pt, .int .i64 t, Value.slice aa mm cc] := ⟨_, rfl⟩
    rw [← hw3] at HST
    have HW3 := Shut.mk hw3.symm
    clear hw3
    have hca : w3.cell? ⟨gd, 1, none⟩ = some (.int .i64 da) := by have := block_range HST.out.db 1 _ rfl; simpa using this
    go_wp2_with (first
     | (refine wpList_store_into rfl 2 (.tmp 111) (.tmp 109) rfl gd 7 (.int .i64 t) rfl rfl rfl 37 #[Value.int .i64 1, .int .i64 da, .int .i64 db, .int .i64 dn, .int .i64 pi, .int .u32 (uv fa), .int .i64 pt, .int .i64 pa, Value.slice aa mm cc] #[Value.int .i64 1, .int .i64 da, .int .i64 db, .int .i64 dn, .int .i64 pi, .int .u32 (uv fa), .int .i64 pt, .int .i64 t, Value.slice aa mm cc] HPD.out.db sizeL (by show 7 < 9; omega) rfl ?_; rw [HW3.out])
     | (refine wpList_load_mid rfl 35 (.tmp 116) rfl gd 4 rfl [Value.int .i64 pi, .int .u32 (uv fa), .int .i64 pt, .int .i64 t, Value.slice aa mm cc] _ (do_range9 HST.out.db) Tryz.underlying35 rfl size5 ?_))
    clear hca
    by_cases hkn : knownP da pt
    ·obtain ⟨a, τ, ha, hτ, hda, hpt⟩ := knownP_in hkn
     have HDA := Shut.mk hda
     have HPT := Shut.mk hpt
     have HTA := Shut.mk ha
     have HTT := Shut.mk hτ
     have HAT := Shut.mk (show 0 ≤ t ∧ t ≤ 4503599627370496 from ⟨HTI.out.1, by have := HTI.out.2; have := HKB.out; omega⟩)
     have HM6 := Shut.mk (show mm ≤ 1000000 by have := HMM.out; omega)
     have HK8 := Shut.mk (show 8 * a + τ < 128 by omega)
     clear hda hpt ha hτ hkn
     refine (qput_c HST.out HMP.out a τ HTA.out HTT.out da pt HDA.out HPT.out pi (uv fa) t pb aa mm cc (HARG.out _ HST.out.pw.bel) HM6.out HFLW.out HAT.out (by have := HTL.out; have := HKB.out; omega) (fun h p hp e => by have h1 := HABL.out h p hp; have h2 := HST.out.pw.cnew _ e; omega)).mono ?_
     rintro e w4 ⟨T', X', ds, u, T3, A', c', hP, rfl, hL, hT3, hsz, hSh⟩
     have HP4 := Shut.mk hP
     have hle := hL.eq
     subst hle
     have HL4 := Shut.mk hL
     have HT3 := Shut.mk hT3
     have HSH := Shut.mk hSh
     have HRS := Shut.mk (show ∀ j, FootL gr Y j → j < w3.heap.size from fun j hj => HST.out.pw.rq.lts hj)
     have hca : w4.cell? ⟨gd, 1, none⟩ = some (.int .i64 da) := by have := block_range HP4.out.db 1 _ rfl; simpa using this
     clear hP hL hT3 hSh
     go_wp2_with (first
      | (refine wpList_load_mid rfl 35 (.tmp 125) rfl gd 4 rfl [Value.int .i64 pi, .int .u32 (uv fa), .int .i64 pt, .int .i64 t, Value.slice aa mm cc] _ (do_range9 HP4.out.db) Tryz.underlying35 rfl size5 ?_))
     clear hca
     refine (qput_r HP4.out HFS.out.1 HMP.out a τ HTA.out HTT.out da pt HDA.out HPT.out pi (uv fa) t pb aa mm cc (HARG.out _ HP4.out.pw.bel) HM6.out HFLW.out HAT.out (by rw [HFS.out.2]; have := HTL.out; have := HKB.out; omega)).mono ?_
     rintro e w5 ⟨T2', Y', ds2, u2, T4, A5, c5, hP, hF, rfl, hL, hO, hSh⟩
     rw [HFS.out.2] at hSh
     obtain ⟨rfl, hM⟩ := shr_same HSH.out hSh
     have HP5 := Shut.mk hP
     have hle := hL.eq
     subst hle
     have HL5 := Shut.mk hL
     have HL6 := Shut.mk (HL4.out.only hO (fun j hj e => by have := HRS.out j e; have := hj.1; omega) (fun j hj e => by have := HRS.out j e; have := (HT3.out j hj).1; omega))
     have HFS2 := Shut.mk (show FullR Y' ∧ mR Y' = mOf X' from ⟨hF, hM⟩)
     have HTL2 := Shut.mk (show ds2.length + (allP (mOf X') 128).length = (allP (mOf X) 128).length + 1 from by
      have h1 := (shr_perm HSH.out).1.length_eq
      have h2 : (allP (updF (mOf X) (8 * a + τ) (putQ (bkQ hd.seed) (mOf X (8 * a + τ)) ⟨pi, uv fa, (τ : Nat), t, pb⟩)) 128).length = (allP (mOf X) 128).length + 1 := (allP_put (bkQ_lt hd.seed) (mOf X) HK8.out ⟨pi, uv fa, (τ : Nat), t, pb⟩).length_eq
      rw [List.length_append] at h1
      omega)
     have HDSL := Shut.mk (show ds2.length ≤ 100000 by have := HTL2.out; have := HTL.out; have := HKB.out; omega)
     have HSP := Shut.mk (samepkts_any T3 T4 A' A5 c' c5 ds2 w5 HL6.out.row HL5.out.row HDSL.out)
     clear hP hF hL hO hSh hM
     obtain ⟨dl, hdl⟩ : ∃ dl, dl = ds2.length := ⟨_, rfl⟩
     rw [← hdl] at HSP ⊢
     have HDLE := Shut.mk hdl
     clear hdl
     go_wp2_with (fail)
     refine HSP.out.mono ?_
     rintro e w6 ⟨rfl, hb⟩
     have HP6 := Shut.mk (HP5.out.quiet hb)
     clear hb
     go_wp2_with (fail)
     refine (show Calls Tryz.prog 6 #[.nilIface, .int .i64 0] w6 fun e w' => e = .returned (.bool true) ∧ Below w6.heap.size w6 w' from is_any E 0 0 w6 (HS.out.below HP6.out.pw.bel) (.inl rfl)).mono ?_
     rintro e w7 ⟨rfl, hb⟩
     have HP7 := Shut.mk (HP6.out.quiet hb)
     clear hb
     go_wp2_with (fail)
     go_meet
     exact ⟨t, t, T', T2', X', Y', rfl, ⟨HP7.out⟩, ⟨HFS2.out⟩, ⟨by have := HTL2.out; have := HTL.out; omega⟩, ⟨HTI.out.1, by have := HTI.out.2; omega⟩⟩
    ·have HKN2 := Shut.mk hkn
     clear hkn
     refine (put_no_any da pt HKN2.out g w3 E (HS.out.below HST.out.pw.bel) pi (uv fa) t aa mm cc).mono ?_
     rintro e w4 ⟨rfl, hb⟩
     have HP4 := Shut.mk (HST.out.quiet hb)
     clear hb
     obtain ⟨ev, hev⟩ : ∃ v, v = errV E 103 := ⟨_, rfl⟩
     have HEV := Shut.mk hev
     rw [← hev]
     clear hev
     have hca : w4.cell? ⟨gd, 1, none⟩ = some (.int .i64 da) := by have := block_range HP4.out.db 1 _ rfl; simpa using this
     go_wp2_with (first
      | (refine wpList_load_mid rfl 35 (.tmp 125) rfl gd 4 rfl [Value.int .i64 pi, .int .u32 (uv fa), .int .i64 pt, .int .i64 t, Value.slice aa mm cc] _ (do_range9 HP4.out.db) Tryz.underlying35 rfl size5 ?_))
     clear hca
     refine (refput_p_no w4 gr da pt HKN2.out pi (uv fa) t aa mm cc).mono ?_
     rintro e w5 ⟨rfl, hb⟩
     have HP5 := Shut.mk (HP4.out.quiet hb)
     clear hb
     go_wp2_with (fail)
     refine (samepkts_any (fun _ => False) (fun _ => False) none none 0 0 [] w5 (RowK.nil _ _ _) (RowK.nil _ _ _) (by decide)).mono ?_
     rintro e w6 ⟨rfl, hb⟩
     have HP6 := Shut.mk (HP5.out.quiet hb)
     clear hb
     go_wp2_with (fail)
     refine (show Calls Tryz.prog 6 #[ev, .int .i64 103] w6 fun e w' => e = .returned (.bool true) ∧ Below w6.heap.size w6 w' by rw [HEV.out]; exact is_any E 103 103 w6 (HS.out.below HP6.out.pw.bel) (.inr (by decide))).mono ?_
     rintro e w7 ⟨rfl, hb⟩
     have HP7 := Shut.mk (HP6.out.quiet hb)
     clear hb
     go_wp2_with (fail)
     go_meet
     exact ⟨t, t, T, T2, X, Y, rfl, ⟨HP7.out⟩, ⟨HFS.out⟩, ⟨by have := HTL.out; omega⟩, ⟨HTI.out.1, by have := HTI.out.2; omega⟩⟩
   have e1 : (dk == 1) = false := by simpa using hk1
   clear hk1
   by_cases hk2 : dk = 2
   ·subst hk2
    have hnd : w2.cell? ⟨gd, 3, none⟩ = some (.int .i64 dn) := by have := block_range HPD.out.db 3 _ rfl; simpa using this
    have m0 := nmod_lo dn 4000 (by omega)
    have m1 := nmod_hi dn 4000 (by omega)
    go_wp2_with (fail)
    clear hnd
    refine (number_any dn 4000 w2 HDN.out (by omega) (by omega)).mono ?_
    rintro e w' ⟨rfl, rfl⟩
    generalize nmod dn 4000 = s at *
    obtain ⟨t2, ht2⟩ : ∃ t2, t2 = t + s := ⟨_, rfl⟩
    have HT2 := Shut.mk (show 0 ≤ t2 ∧ t2 ≤ ((k : Int) + 1) * 4000 from by have := HTI.out; omega)
    have yt : IntKind.i64.wrap (t + s) = t2 := by rw [IntWalk.i64_in _ ⟨by have := HTI.out; omega, by have := HTI.out; have := HKB.out; omega⟩, ht2]
    have HTM := Shut.mk (show t2 + 1073741824 ≤ 4503599627370496 from by have := HT2.out; have := HKB.out; omega)
    obtain ⟨r, ds, MQ, hT⟩ := tkm_is hd (mOf X) da db t2 (fun k hk => pool_inv HPD.out.pw.cq hk)
    have HTK := Shut.mk hT
    have HDL := Shut.mk (tkm_len hT (fun k hk => pool_inv HPD.out.pw.cq hk) (fun k hk => pool_few HPD.out.pw.cq hk))
    clear ht2 hT m0 m1
    have hca : w2.cell? ⟨gd, 1, none⟩ = some (.int .i64 da) := by have := block_range HPD.out.db 1 _ rfl; simpa using this
    have hcb : w2.cell? ⟨gd, 2, none⟩ = some (.int .i64 db) := by have := block_range HPD.out.db 2 _ rfl; simpa using this
    go_wp2_with (fail)
    clear yt hca hcb
    refine (qtk_c HPD.out da db t2 HT2.out.1 HTM.out r ds MQ HTK.out).mono ?_
    rintro e wk ⟨X', p0, b0, v0, late0, T3, A0, c0, hP, hMX, rfl, hA, hL, hT3, hsz⟩
    have hle := hL.eq
    subst hle
    have HL4 := Shut.mk hL
    have HT3 := Shut.mk hT3
    have HMX := Shut.mk hMX
    clear hL hT3 hMX
    obtain ⟨A1, m1, c1, rfl, -⟩ := hA.form
    obtain ⟨qi, qf, qt, qa, qb⟩ := p0
    have HP4 := Shut.mk hP
    have HA4 := Shut.mk hA
    have HS24 := Shut.mk hsz
    have HRS := Shut.mk (show ∀ j, FootL gr Y j → j < w2.heap.size from fun j hj => HPD.out.pw.rq.lts hj)
    clear hP hA hsz
    unfold pkV
    dsimp only
    obtain ⟨s22, hs22⟩ : ∃ s, s = wk.heap.size := ⟨_, rfl⟩
    have HSs22 := Shut.mk hs22
    have HAw6 := Shut.mk ((Below.refl wk.heap.size wk).alloc (Nat.le_refl _) (Obj.cells #[Value.int .i64 0, .int .u32 0, .int .i64 0, .int .i64 0, Value.slice none 0 0] 35 (0, 0)))
    have HXw6 := Shut.mk (show (wk.alloc (Obj.cells #[Value.int .i64 0, .int .u32 0, .int .i64 0, .int .i64 0, Value.slice none 0 0] 35 (0, 0))).heap[s22]? = some (Obj.cells #[Value.int .i64 0, .int .u32 0, .int .i64 0, .int .i64 0, Value.slice none 0 0] 35 (0, 0)) by rw [hs22]; exact (MapKept.heap_alloc wk (Obj.cells #[Value.int .i64 0, .int .u32 0, .int .i64 0, .int .i64 0, Value.slice none 0 0] 35 (0, 0))).1)
    obtain ⟨w6, hw6⟩ : ∃ w4, w4 = (wk.alloc (Obj.cells #[Value.int .i64 0, .int .u32 0, .int .i64 0, .int .i64 0, Value.slice none 0 0] 35 (0, 0))).setRow s22 #[Value.int .i64 qi, .int .u32 qf, .int .i64 qt, .int .i64 qa, Value.slice A1 m1 c1] := ⟨_, rfl⟩
    have HYw6 := Shut.mk (show w6.heap[s22]? = some (Obj.cells #[Value.int .i64 qi, .int .u32 qf, .int .i64 qt, .int .i64 qa, Value.slice A1 m1 c1] 35 (0, 0)) by rw [hw6]; exact setRow_heap _ s22 _ #[Value.int .i64 qi, .int .u32 qf, .int .i64 qt, .int .i64 qa, Value.slice A1 m1 c1] _ (0, 0) HXw6.out)
    have HBw6 := Shut.mk (show Below wk.heap.size wk w6 by rw [hw6]; exact below_setRow HAw6.out (by omega) _)
    have HWw6 := Shut.mk hw6
    clear hw6 hs22
    have HP6 := Shut.mk (HP4.out.quiet HBw6.out)
    have HA6 := Shut.mk (HA4.out.below HBw6.out)
    have HL6 := Shut.mk (HL4.out.below HBw6.out)
    have hca : w6.cell? ⟨gd, 1, none⟩ = some (.int .i64 da) := by have := block_range HP6.out.db 1 _ rfl; simpa using this
    have hcb : w6.cell? ⟨gd, 2, none⟩ = some (.int .i64 db) := by have := block_range HP6.out.db 2 _ rfl; simpa using this
    go_wp2_with (first
     | (refine wpList_store_row rfl 35 (.tmp 22) (.tmp 155) rfl s22 #[Value.int .i64 qi, .int .u32 qf, .int .i64 qt, .int .i64 qa, Value.slice A1 m1 c1] (by show Value.pointer (some ⟨wk.heap.size, 0, none⟩) = _; rw [HSs22.out]) rfl 35 _ HXw6.out size5 rfl (pkt_one _ _ _ _ _ _ _) ?_
        rw [show World.setRow (World.alloc wk _) s22 _ = w6 from HWw6.out.symm, ← HSs22.out]))
    clear hca hcb
    refine (qtk_r HP6.out HFS.out.1 da db t2 HT2.out.1 HTM.out r ds MQ (by rw [HFS.out.2]; exact HTK.out)).mono ?_
    rintro e w7 ⟨Y', p1, b1, v1, late1, T4, A2, c2, hP7, hF7, hMY, rfl, hA7, hL7, hO7⟩
    obtain ⟨e1, e2⟩ := HA6.out.same hA7
    subst e1 e2
    obtain ⟨A3, m3, c3, rfl, -⟩ := hA7.form
    have hle := hL7.eq
    subst hle
    have HP7 := Shut.mk hP7
    have HA7 := Shut.mk hA7
    have HL7 := Shut.mk hL7
    have HFS2 := Shut.mk (show FullR Y' ∧ mR Y' = mOf X' from ⟨hF7, by rw [hMY, HMX.out]⟩)
    have HA8 := Shut.mk (HA6.out.only hO7 fun j hj e => by have := HRS.out j e; have := hj.1; omega)
    have HL8 := Shut.mk (HL6.out.only hO7 (fun j hj e => by have := HRS.out j e; have := hj.1; omega) (fun j hj e => by have := HRS.out j e; have := (HT3.out j hj).1; omega))
    have HY8 := Shut.mk (hO7.at_ HYw6.out (fun e => by have := HRS.out _ e; have := HSs22.out; have := HS24.out; omega))
    clear hP7 hA7 hL7 hO7 hF7 hMY
    unfold pkV
    dsimp only
    obtain ⟨s25, hs25⟩ : ∃ s, s = w7.heap.size := ⟨_, rfl⟩
    have HSs25 := Shut.mk hs25
    have HAw8 := Shut.mk ((Below.refl w7.heap.size w7).alloc (Nat.le_refl _) (Obj.cells #[Value.int .i64 0, .int .u32 0, .int .i64 0, .int .i64 0, Value.slice none 0 0] 35 (0, 0)))
    have HXw8 := Shut.mk (show (w7.alloc (Obj.cells #[Value.int .i64 0, .int .u32 0, .int .i64 0, .int .i64 0, Value.slice none 0 0] 35 (0, 0))).heap[s25]? = some (Obj.cells #[Value.int .i64 0, .int .u32 0, .int .i64 0, .int .i64 0, Value.slice none 0 0] 35 (0, 0)) by rw [hs25]; exact (MapKept.heap_alloc w7 (Obj.cells #[Value.int .i64 0, .int .u32 0, .int .i64 0, .int .i64 0, Value.slice none 0 0] 35 (0, 0))).1)
    obtain ⟨w8, hw8⟩ : ∃ w4, w4 = (w7.alloc (Obj.cells #[Value.int .i64 0, .int .u32 0, .int .i64 0, .int .i64 0, Value.slice none 0 0] 35 (0, 0))).setRow s25 #[Value.int .i64 qi, .int .u32 qf, .int .i64 qt, .int .i64 qa, Value.slice A3 m3 c3] := ⟨_, rfl⟩
    have HYw8 := Shut.mk (show w8.heap[s25]? = some (Obj.cells #[Value.int .i64 qi, .int .u32 qf, .int .i64 qt, .int .i64 qa, Value.slice A3 m3 c3] 35 (0, 0)) by rw [hw8]; exact setRow_heap _ s25 _ #[Value.int .i64 qi, .int .u32 qf, .int .i64 qt, .int .i64 qa, Value.slice A3 m3 c3] _ (0, 0) HXw8.out)
    have HBw8 := Shut.mk (show Below w7.heap.size w7 w8 by rw [hw8]; exact below_setRow HAw8.out (by omega) _)
    have HWw8 := Shut.mk hw8
    clear hw8 hs25
    have HP9 := Shut.mk (HP7.out.quiet HBw8.out)
    have HA9 := Shut.mk (HA7.out.below HBw8.out)
    have HL9 := Shut.mk (HL7.out.below HBw8.out)
    have HAX := Shut.mk (HA8.out.below HBw8.out)
    have HLX := Shut.mk (HL8.out.below HBw8.out)
    have HYX := Shut.mk ((HBw8.out.block _ (lt_blk HY8.out)).trans HY8.out)
    obtain ⟨Ax, mx, cx, ex, hrx⟩ := HAX.out.form
    cases ex
    obtain ⟨Ay, my, cy, ey, hry⟩ := HA9.out.form
    cases ey
    have HRX := Shut.mk hrx
    have HRY := Shut.mk hry
    clear hrx hry
    go_wp2_with (first
     | (refine wpList_store_row rfl 35 (.tmp 25) (.tmp 166) rfl s25 #[Value.int .i64 qi, .int .u32 qf, .int .i64 qt, .int .i64 qa, Value.slice A3 m3 c3] (by show Value.pointer (some ⟨w7.heap.size, 0, none⟩) = _; rw [HSs25.out]) rfl 35 _ HXw8.out size5 rfl (pkt_one _ _ _ _ _ _ _) ?_
        rw [show World.setRow (World.alloc w7 _) s25 _ = w8 from HWw8.out.symm, ← HSs25.out])
     | (refine wpList_load_if (by rfl) 35 (.tmp 22) rfl s22 rfl 35 #[Value.int .i64 qi, .int .u32 qf, .int .i64 qt, .int .i64 qa, Value.slice A1 m1 c1] (0, 0) _ HYX.out Tryz.underlying35 rfl size5 ?_)
     | (refine wpList_load_if (by rfl) 35 (.tmp 25) rfl s25 rfl 35 #[Value.int .i64 qi, .int .u32 qf, .int .i64 qt, .int .i64 qa, Value.slice A3 m3 c3] (0, 0) _ HYw8.out Tryz.underlying35 rfl size5 ?_))
    refine (samepkt_any ⟨qi, qf, qt, qa, qb⟩ A1 A3 m1 c1 m3 c3 w8 HRX.out HRY.out).mono ?_
    rintro e w9 ⟨rfl, hb9⟩
    have HP10 := Shut.mk (HP9.out.quiet hb9)
    have HS9 := Shut.mk (samepkts_any T3 T4 A0 A2 c0 c2 ds w9 (RowK.below HLX.out.row hb9) (RowK.below HL9.out.row hb9) (by have := HDL.out.1; omega))
    clear hb9
    go_wp2_with (fail)
    refine HS9.out.mono ?_
    rintro e w10 ⟨rfl, hb10⟩
    have HP11 := Shut.mk (HP10.out.quiet hb10)
    clear hb10
    go_wp2_with (fail)
    go_meet
    exact ⟨t2, pa, T, T2, X', Y', rfl, ⟨HP11.out⟩, ⟨HFS2.out⟩, ⟨by have := HDL.out.2; have := HTL.out; rw [HMX.out]; omega⟩, ⟨HT2.out⟩⟩
   have e2 : (dk == 2) = false := by simpa using hk2
   clear hk2
   obtain ⟨ds, MQ, hD⟩ := drm_is (mOf X) da
   have HDM := Shut.mk hD
   have HDL := Shut.mk (drm_len hD)
   clear hD
   go_wp2_with (fail)
   refine wp_region_D (fun w' => w'.heap[gd]? = some (Obj.cells #[Value.int .i64 dk, .int .i64 da, .int .i64 db, .int .i64 dn, .int .i64 pi, .int .u32 (uv fa), .int .i64 pt, .int .i64 pa, Value.slice aa mm cc] 37 (0, 0))) 7 (by kernel_rfl) (show (World.drew w2).heap[gd]? = some (Obj.cells #[Value.int .i64 dk, .int .i64 da, .int .i64 db, .int .i64 dn, .int .i64 pi, .int .u32 (uv fa), .int .i64 pt, .int .i64 pa, Value.slice aa mm cc] 37 (0, 0)) from HPD.out.db) (fun hHeld hC => ?_)
   obtain ⟨w5, hw5⟩ : ∃ w5, w5 = World.drew w2 := ⟨_, rfl⟩
   have HP5 := Shut.mk (HPD.out.quiet (show Below w2.heap.size w2 w5 by rw [hw5]; exact (Below.refl _ _).drew))
   rw [← hw5] at hHeld ⊢
   clear hw5
   refine dP 0 hC hHeld ?_; clear hC; intro hC
   refine dP 1 hC hHeld ?_; clear hC; intro hC
   refine dT 2 hC hHeld (fun w hSw => (show w.cell? ⟨gd, 1, none⟩ = some (.int .i64 da) from by have := block_range hSw 1 _ rfl; simpa using this)) ?_; clear hC; intro hC
   refine dP 4 hC hHeld ?_; clear hC; intro hC
   refine dP 5 hC hHeld ?_; clear hC; intro hC
   refine dT 6 hC hHeld (fun w hSw => (show w.cell? ⟨gd, 1, none⟩ = some (.int .i64 da) from by have := block_range hSw 1 _ rfl; simpa using this)) ?_; clear hC; intro hC
   refine wpAnyD_one (i := 3) (by kernel_rfl) rfl hC (fun K hK => ?_)
   clear hC
   go_simp
   refine (qdr_c HP5.out da (by have := HTL.out; have := HKB.out; omega) ds MQ HDM.out).mono ?_
   rintro e' we1 ⟨X', u1, T3, A0, c0, hP, rfl, hMX, hL, hT3, hsz⟩
   have hle := hL.eq
   subst hle
   have HL4 := Shut.mk hL
   have HT3 := Shut.mk hT3
   have HMX := Shut.mk hMX
   have HP4 := Shut.mk hP
   have HRS := Shut.mk (show ∀ j, FootL gr Y j → j < w5.heap.size from fun j hj => HP5.out.pw.rq.lts hj)
   clear hL hT3 hMX hP hsz
   have hHeld2 := HP4.out.db
   clear hHeld
   have hHeld := hHeld2
   clear hHeld2
   refine hK.out _ _ (fun _ => hHeld) (fun hC => ?_)
   clear hK K
   try simp only [Act.put, sG1, sG2, sG3, sG4, sG5, sG6]
   refine wpAnyD_one (i := 7) (by kernel_rfl) rfl hC (fun K hK => ?_)
   clear hC
   go_simp
   refine (qdr_r HP4.out HFS.out.1 da (by rw [HFS.out.2]; have := HTL.out; have := HKB.out; omega) ds MQ (by rw [HFS.out.2]; exact HDM.out)).mono ?_
   rintro e' we2 ⟨Y', u2, T4, A2, c2, hP, hF7, rfl, hMY, hL, hO⟩
   have hle := hL.eq
   subst hle
   have HL7 := Shut.mk hL
   have HL8 := Shut.mk (HL4.out.only hO (fun j hj e => by have := HRS.out j e; have := hj.1; omega) (fun j hj e => by have := HRS.out j e; have := (HT3.out j hj).1; omega))
   have HP7 := Shut.mk hP
   have HFS2 := Shut.mk (show FullR Y' ∧ mR Y' = mOf X' from ⟨hF7, by rw [hMY, HMX.out]⟩)
   clear hL hP hO hF7 hMY
   refine hK.out _ _ (past (by kernel_rfl)) (fun hC => ?_)
   clear hK K
   try simp only [Act.put, sG1, sG2, sG3, sG4, sG5, sG6]
   refine wpAnyD_one (i := 8) (by kernel_rfl) rfl hC (fun K hK => ?_)
   clear hC
   go_simp
   refine (samepkts_any T3 T4 A0 A2 c0 c2 ds we2 HL8.out.row HL7.out.row (by have := HDL.out.1; have := HTL.out; have := HKB.out; omega)).mono ?_
   rintro e' we3 ⟨rfl, hb⟩
   have HP8 := Shut.mk (HP7.out.quiet hb)
   clear hb
   refine hK.out _ _ (past (by kernel_rfl)) (fun hC => ?_)
   clear hK K
   try simp only [Act.put, sG1, sG2, sG3, sG4, sG5, sG6]
   refine dQ 9 hC ?_; clear hC; intro hC
   refine wpAnyD_done (by kernel_rfl) ?_ _
   try simp only [Act.put, sG1, sG2, sG3, sG4, sG5, sG6]
   clear hC hHeld
   go_wp2_with (fail)
   go_meet
   exact ⟨t, pa, T, T2, X', Y', rfl, ⟨HP8.out⟩, ⟨HFS2.out⟩, ⟨by have := HDL.out.2; have := HTL.out; rw [HMX.out]; omega⟩, ⟨HTI.out.1, by have := HTI.out.2; omega⟩⟩
  case rest =>
   obtain ⟨t', at', T', T2', X', Y', rfl, HP, HFS2, HTL2, HTI2⟩ := hcut
   obtain ⟨n1, hn1⟩ : ∃ n : Nat, n = (allP (mOf X') 128).length := ⟨_, rfl⟩
   obtain ⟨b1, hb1⟩ : ∃ n : Int, n = bytesF (allP (mOf X') 128) := ⟨_, rfl⟩
   obtain ⟨hs, hhs⟩ := bool_of (knownP da db ∧ allQ (mOf X' (8 * (da - 1).toNat + db.toNat)) ≠ [])
   obtain ⟨w5, hw5⟩ : ∃ w5, w5 = World.drew wc := ⟨_, rfl⟩
   have HWw5 := Shut.mk hw5
   have HP5 := Shut.mk (HP.out.quiet (show Below wc.heap.size wc w5 by rw [hw5]; exact (Below.refl _ _).drew))
   have HCA := Shut.mk (show w5.cell? ⟨gd, 1, none⟩ = some (.int .i64 da) by have := block_range HP5.out.db 1 _ rfl; simpa using this)
   have HCB := Shut.mk (show w5.cell? ⟨gd, 2, none⟩ = some (.int .i64 db) by have := block_range HP5.out.db 2 _ rfl; simpa using this)
   have H1 := Shut.mk (fun (wx : World) (h : Below w5.heap.size w5 wx) => (show Calls Tryz.prog 9 #[.pointer (some ⟨g, 0, none⟩)] wx fun e w' => e = .returned (.int .i64 ((n1 : Nat) : Int)) ∧ Below wx.heap.size wx w' from by rw [hn1]; exact len_p_any (HP5.out.quiet h).pw.cq))
   have H2 := Shut.mk (fun (wx : World) (h : Below w5.heap.size w5 wx) => (show Calls Tryz.prog 19 #[.pointer (some ⟨gr, 0, none⟩)] wx fun e w' => e = .returned (.int .i64 ((n1 : Nat) : Int)) ∧ Below wx.heap.size wx w' from by rw [hn1, ← HFS2.out.2]; exact reflen_p_any (HP5.out.quiet h).pw.rq HFS2.out.1))
   have H3 := Shut.mk (fun (wx : World) (h : Below w5.heap.size w5 wx) => (show Calls Tryz.prog 20 #[.pointer (some ⟨g, 0, none⟩)] wx fun e w' => e = .returned (.int .i64 b1) ∧ Below wx.heap.size wx w' from by rw [hb1]; exact byt_p_any (HP5.out.quiet h).pw.cq))
   have H4 := Shut.mk (fun (wx : World) (h : Below w5.heap.size w5 wx) => (show Calls Tryz.prog 21 #[.pointer (some ⟨gr, 0, none⟩)] wx fun e w' => e = .returned (.int .i64 b1) ∧ Below wx.heap.size wx w' from by rw [hb1, ← HFS2.out.2]; exact refbyt_p_any (HP5.out.quiet h).pw.rq HFS2.out.1))
   have H5 := Shut.mk (fun (wx : World) (h : Below w5.heap.size w5 wx) => (show Calls Tryz.prog 22 #[.pointer (some ⟨g, 0, none⟩), .int .i64 da, .int .i64 db] wx fun e w' => e = .returned (.bool hs) ∧ Below wx.heap.size wx w' from by exact (has_p_any (HP5.out.quiet h).pw.cq da db hs hhs).mono fun _ _ ⟨h1, h2⟩ => ⟨h1, by rw [h2]; exact Below.refl _ _⟩))
   have H6 := Shut.mk (fun (wx : World) (h : Below w5.heap.size w5 wx) => (show Calls Tryz.prog 23 #[.pointer (some ⟨gr, 0, none⟩), .int .i64 da, .int .i64 db] wx fun e w' => e = .returned (.bool hs) ∧ Below wx.heap.size wx w' from by exact refhas_p_any (HP5.out.quiet h).pw.rq HFS2.out.1 da db hs (by rw [HFS2.out.2]; exact hhs)))
   have H7 := Shut.mk (fun (wx : World) (h : Below w5.heap.size w5 wx) => (show Calls Tryz.prog 9 #[.pointer (some ⟨gz, 0, none⟩)] wx fun e w' => e = .returned (.int .i64 ((ln : Nat) : Int)) ∧ Below wx.heap.size wx w' from by rw [HLN.out]; exact len_p_any (HP5.out.quiet h).cl))
   clear hn1 hb1 hhs hw5
   go_wp2_with (fail)
   refine wp_region_D (fun w' => Below w5.heap.size w5 w') 29 (by kernel_rfl) (show Below w5.heap.size w5 (World.drew wc) by rw [HWw5.out]; exact Below.refl _ _) (fun hHeld hC => ?_)
   rw [← HWw5.out] at hHeld ⊢
   refine dP 0 hC hHeld ?_; clear hC; intro hC
   refine dP 2 hC hHeld ?_; clear hC; intro hC
   refine wpAnyD_one (i := 1) (by kernel_rfl) rfl hC (fun K hK => ?_)
   clear hC
   go_simp
   refine (H1.out _ hHeld).mono ?_
   rintro e' we1 ⟨rfl, hb⟩
   have hHeld2 := hHeld.trans (hb.mono hHeld.size)
   clear hb
   clear hHeld
   have hHeld := hHeld2
   clear hHeld2
   refine hK.out _ _ (fun _ => hHeld) (fun hC => ?_)
   clear hK K
   try simp only [Act.put, sG1, sG2, sG3, sG4, sG5, sG6]
   refine wpAnyD_one (i := 3) (by kernel_rfl) rfl hC (fun K hK => ?_)
   clear hC
   go_simp
   refine (H2.out _ hHeld).mono ?_
   rintro e' we2 ⟨rfl, hb⟩
   have hHeld2 := hHeld.trans (hb.mono hHeld.size)
   clear hb
   clear hHeld
   have hHeld := hHeld2
   clear hHeld2
   refine hK.out _ _ (fun _ => hHeld) (fun hC => ?_)
   clear hK K
   try simp only [Act.put, sG1, sG2, sG3, sG4, sG5, sG6]
   refine dP 4 hC hHeld ?_; clear hC; intro hC
   refine dP 5 hC hHeld ?_; clear hC; intro hC
   refine dP 6 hC hHeld ?_; clear hC; intro hC
   refine dP 8 hC hHeld ?_; clear hC; intro hC
   refine wpAnyD_one (i := 7) (by kernel_rfl) rfl hC (fun K hK => ?_)
   clear hC
   go_simp
   refine (H3.out _ hHeld).mono ?_
   rintro e' we3 ⟨rfl, hb⟩
   have hHeld2 := hHeld.trans (hb.mono hHeld.size)
   clear hb
   clear hHeld
   have hHeld := hHeld2
   clear hHeld2
   refine hK.out _ _ (fun _ => hHeld) (fun hC => ?_)
   clear hK K
   try simp only [Act.put, sG1, sG2, sG3, sG4, sG5, sG6]
   refine wpAnyD_one (i := 9) (by kernel_rfl) rfl hC (fun K hK => ?_)
   clear hC
   go_simp
   refine (H4.out _ hHeld).mono ?_
   rintro e' we4 ⟨rfl, hb⟩
   have hHeld2 := hHeld.trans (hb.mono hHeld.size)
   clear hb
   clear hHeld
   have hHeld := hHeld2
   clear hHeld2
   refine hK.out _ _ (fun _ => hHeld) (fun hC => ?_)
   clear hK K
   try simp only [Act.put, sG1, sG2, sG3, sG4, sG5, sG6]
   refine dP 10 hC hHeld ?_; clear hC; intro hC
   refine dP 11 hC hHeld ?_; clear hC; intro hC
   refine dP 12 hC hHeld ?_; clear hC; intro hC
   refine dP 13 hC hHeld ?_; clear hC; intro hC
   refine dP 14 hC hHeld ?_; clear hC; intro hC
   refine dT 15 hC hHeld (fun w hSw => (show w.cell? ⟨gd, 1, none⟩ = some (.int .i64 da) from below_at hSw HCA.out)) ?_; clear hC; intro hC
   refine dP 16 hC hHeld ?_; clear hC; intro hC
   refine dT 17 hC hHeld (fun w hSw => (show w.cell? ⟨gd, 2, none⟩ = some (.int .i64 db) from below_at hSw HCB.out)) ?_; clear hC; intro hC
   refine dP 19 hC hHeld ?_; clear hC; intro hC
   refine dP 20 hC hHeld ?_; clear hC; intro hC
   refine dT 21 hC hHeld (fun w hSw => (show w.cell? ⟨gd, 1, none⟩ = some (.int .i64 da) from below_at hSw HCA.out)) ?_; clear hC; intro hC
   refine dP 22 hC hHeld ?_; clear hC; intro hC
   refine dT 23 hC hHeld (fun w hSw => (show w.cell? ⟨gd, 2, none⟩ = some (.int .i64 db) from below_at hSw HCB.out)) ?_; clear hC; intro hC
   refine wpAnyD_one (i := 18) (by kernel_rfl) rfl hC (fun K hK => ?_)
   clear hC
   go_simp
   refine (H5.out _ hHeld).mono ?_
   rintro e' we5 ⟨rfl, hb⟩
   have hHeld2 := hHeld.trans (hb.mono hHeld.size)
   clear hb
   clear hHeld
   have hHeld := hHeld2
   clear hHeld2
   refine hK.out _ _ (fun _ => hHeld) (fun hC => ?_)
   clear hK K
   try simp only [Act.put, sG1, sG2, sG3, sG4, sG5, sG6]
   refine wpAnyD_one (i := 24) (by kernel_rfl) rfl hC (fun K hK => ?_)
   clear hC
   go_simp
   refine (H6.out _ hHeld).mono ?_
   rintro e' we6 ⟨rfl, hb⟩
   have hHeld2 := hHeld.trans (hb.mono hHeld.size)
   clear hb
   clear hHeld
   have hHeld := hHeld2
   clear hHeld2
   refine hK.out _ _ (fun _ => hHeld) (fun hC => ?_)
   clear hK K
   try simp only [Act.put, sG1, sG2, sG3, sG4, sG5, sG6]
   refine dP 25 hC hHeld ?_; clear hC; intro hC
   refine dP 26 hC hHeld ?_; clear hC; intro hC
   refine dP 27 hC hHeld ?_; clear hC; intro hC
   refine dP 28 hC hHeld ?_; clear hC; intro hC
   refine dP 30 hC hHeld ?_; clear hC; intro hC
   refine wpAnyD_one (i := 29) (by kernel_rfl) rfl hC (fun K hK => ?_)
   clear hC
   go_simp
   refine (H7.out _ hHeld).mono ?_
   rintro e' we7 ⟨rfl, hb⟩
   have HB9 := Shut.mk (hHeld.trans (hb.mono hHeld.size))
   clear hb
   refine hK.out _ _ (past (by kernel_rfl)) (fun hC => ?_)
   clear hK K
   try simp only [Act.put, sG1, sG2, sG3, sG4, sG5, sG6]
   refine dQ 31 hC ?_; clear hC; intro hC
   refine dQ 32 hC ?_; clear hC; intro hC
   refine wpAnyD_done (by kernel_rfl) ?_ _
   try simp only [Act.put, sG1, sG2, sG3, sG4, sG5, sG6]
   clear hC hHeld
   have HPN := Shut.mk (HP5.out.quiet HB9.out)
   have hkb2 : k ≤ 50 := by have := HKB.out; omega
   go_wp2_with (fail)
   go_roundw
   case rel => exact ⟨k + 1, t', T', T2', X', Y', by have := HKN.out; omega, by go_num, rfl, ⟨HPN.out.pw.quiet_la (Below.refl _ _) (fun _ e => e.elim)⟩, HFS2, HTL2, ⟨HTI2.out.1, by have := HTI2.out.2; omega⟩⟩
   case measure => have := HKN.out; simp [intOf]; omega
end Go.Proofs.YtndkmgcmegcieaaGreatDoor.poolPlays
