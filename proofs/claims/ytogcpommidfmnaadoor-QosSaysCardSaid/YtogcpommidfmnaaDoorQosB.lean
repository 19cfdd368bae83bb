/-
  CONTRACT of qos.Bytes.
-/
import Derived.Test.YtogcpommidfmnaaDoorQosO
import Derived.Test.YtogcpommidfmnaaDoorApp
import Derived.StillTailTactics
import Derived.IntWalk
namespace Go.Proofs.YtogcpommidfmnaaDoor
open Go.ChangeShapes Go.WideShapes Go.ChangeAt Go.RowKit
set_option linter.unusedVariables false
set_option linter.unusedSimpArgs false

/-- a boxed frame's cell, in every world in which what was there then stands. -/
theorem q_at {w w' : World} {q : Qf} {T : TypeId} {B : Nat} (hb : Below B (w.alloc (.cells q.cells T)) w') (hB : w.heap.size < B) (i : Nat) : w'.cell? ⟨w.heap.size, i, none⟩ = q.cells[i]? :=
  (hb.cell (p := ⟨w.heap.size, i, none⟩) hB).trans (World.cell?_alloc_mark w q.cells T (0, 0) i)

set_option maxRecDepth 100000 in
set_option maxHeartbeats 8000000 in
theorem bytes_no (q : Qf) (E : Nat → Addr) (w : World) (hok : q.okB = false) (he : w.cell? ⟨0, 0, none⟩ = some (errP (E 103))) :
    Calls Tryd.prog 10 #[q.val] w fun e w' => e = .returned (.tuple #[.slice none 0 0, errP (E 103)]) ∧ Below w.heap.size w w' := by
  generalize E 103 = a at *
  have HB0 := Lib.hid ((Below.refl w.heap.size w).alloc (Nat.le_refl _) (.cells q.cells 26))
  have HE := Lib.hid (cell?_alloc_old (.cells q.cells 26) he)
  have HI := Lib.hid (inRange_any q (w.alloc (.cells q.cells 26)))
  rw [hok] at HI
  clear hok he
  go_enter Tryd.func10, Tryd.ntmps10
  go_wp2_with (refine wpList_load_row rfl 26 (.tmp 1) rfl w.heap.size rfl 26 q.cells (0, 0) _ (heap_alloc_last w _) Tryd.underlying26 rfl size26 ?_)
  refine HI.out.mono ?_
  rintro e w2 ⟨rfl, hB⟩
  have HB := Lib.hid (HB0.out.trans (hB.mono HB0.out.size))
  have he2 := (hB.cell (cell_lt' HE.out)).trans HE.out
  clear hB
  go_wp2_with (fail)
  go_quiet (fail)
  go_wp2
  go_ret2
  exact ⟨rfl, below_drewN HB.out _⟩

theorem q_src {w' : World} {h : Nat} {q : Qf} (o : Nat) (l : List Int) (H : ∀ i, w'.cell? ⟨h, i, none⟩ = q.cells[i]?) (hl : ∀ j u, (l.map (Value.int .u8))[j]? = some u → q.cells[o + j]? = some u) :
    ∀ j u, (l.map (Value.int .u8))[j]? = some u → w'.cell? ((⟨h, o, none⟩ : Addr).add j) = some u := by
  intro j u hu
  rw [Addr.add_mid]
  exact (H _).trans (hl j u hu)
theorem src6 {a : A6} {cs : Array Value} {o : Nat} (h : ∀ j, j < 6 → cs[o + j]? = some (.int .u8 (a.l.getD j 0))) : ∀ j u, (a.l.map (Value.int .u8))[j]? = some u → cs[o + j]? = some u := by
  intro j u hu
  have hj : j < 6 := by have := (List.getElem?_eq_some_iff.1 hu).1; simpa [A6.l] using this
  rw [h j hj]
  simp only [List.getElem?_map, Option.map_eq_some_iff] at hu
  obtain ⟨x, hx, rfl⟩ := hu
  simp [List.getD, hx]
theorem six_in {P : Nat → Prop} (h0 : P 0) (h1 : P 1) (h2 : P 2) (h3 : P 3) (h4 : P 4) (h5 : P 5) : ∀ j, j < 6 → P j := by
  intro j hj
  match j, hj with
  | 0, _ => exact h0
  | 1, _ => exact h1
  | 2, _ => exact h2
  | 3, _ => exact h3
  | 4, _ => exact h4
  | 5, _ => exact h5
/-- the byte of flags; the byte of traffic. -/
def flagsOf (r m : Bool) : Int := bits .or .u8 (bits .or .u8 2 (fl r 8)) (fl m 32)
def trafOf (tid : Int) (e : Bool) : Int := bits .or .u8 tid (fl e 16)
/-- a frame's bytes, its body's being xs. -/
def encQ (q : Qf) (xs : List Int) : List Int := [136, flagsOf q.r q.m, 0, 0] ++ q.t.l ++ q.b.l ++ q.f.l ++ [q.seq * 16 % 256, q.seq * 16 / 256, trafOf q.tid q.e, 0] ++ xs

set_option maxRecDepth 100000 in
set_option maxHeartbeats 8000000 in
theorem bytes_yes (q : Qf) (xs : List Int) (w : World) (hok : q.okB = true) (hx : RowB .u8 w q.A q.n xs) (hnil : q.A = none → q.c = 0) :
    Calls Tryd.prog 10 #[q.val] w fun e w' => ∃ g cap, e = .returned (.tuple #[.slice (some ⟨g, 0, none⟩) (26 + q.n) cap, .nilIface]) ∧ OwnB w' w.heap.size 5 .u8 g (26 + q.n) cap (encQ q xs) ∧ Below w.heap.size w w' := by
  obtain ⟨k0, k1, k2, k3, k4⟩ := q.ok_iff.1 hok
  obtain ⟨t, bb, f, tid, seq, r, m, e, A, n, c⟩ := q
  simp only at k0 k1 k2 k3 k4 hx hnil
  have HN := Lib.hid hnil
  clear hnil
  have HB0 := Lib.hid ((Below.refl w.heap.size w).alloc (Nat.le_refl _) (.cells (Qf.mk t bb f tid seq r m e A n c).cells 26))
  have HI := Lib.hid (inRange_any (Qf.mk t bb f tid seq r m e A n c) (w.alloc (.cells (Qf.mk t bb f tid seq r m e A n c).cells 26)))
  rw [hok] at HI
  have HX := Lib.hid hx
  have k4' : (n : Int) ≤ 1500 := by omega
  obtain ⟨i0, hi0, hz0, hz1, hz2⟩ := info_parts byte_info
  clear hok hx
  go_enter Tryd.func10, Tryd.ntmps10
  go_wp2_with (refine wpList_load_row rfl 26 (.tmp 1) rfl w.heap.size rfl 26 (Qf.mk t bb f tid seq r m e A n c).cells (0, 0) _ (heap_alloc_last w _) Tryd.underlying26 rfl size26 ?_)
  refine HI.out.mono ?_
  rintro e' w2 ⟨rfl, hB⟩
  have HB := Lib.hid (HB0.out.trans (hB.mono HB0.out.size))
  have HL := Lib.hid (show w.heap.size < w2.heap.size by have := hB.size; simp at this; omega)
  have HQ := Lib.hid (show ∀ (w' : World) (i : Nat), Below w2.heap.size w2 w' → w'.cell? ⟨w.heap.size, i, none⟩ = (Qf.mk t bb f tid seq r m e A n c).cells[i]? from
    fun w' i hb => q_at (hB.trans (hb.mono hB.size)) (by simp) i)
  have HX2 := Lib.hid (HX.out.below HB.out)
  clear hB HI HB0 HX
  have q19 := HQ.out w2 19 (Below.refl _ _)
  have q23 := HQ.out w2 23 (Below.refl _ _)
  dsimp only [Qf.cells] at q19 q23
  go_wp2_with (fail)
  refine (len_any (n : Int) _ (by omega) (by omega)).mono ?_
  rintro e' w3 ⟨rfl, rfl⟩
  rw [show (26 + max (n : Int) 0) = ((26 + n : Nat) : Int) by omega]
  go_wp2_with (at_make; refine wpList_make_own _ rfl _ _ 24 rfl w2.heap.size 5 i0 (.int .u8 0) 1 Tryd.underlying24 hi0 hz0 hz1 _ _ _ (26 + n) rfl rfl (by omega) (by rw [hz2]; omega) (by unfold maxLen; omega) (Nat.le_refl _) ?_; intro w3 hown1 hgrow1)
  have HO3 := Lib.hid (show OwnB w3 w2.heap.size 5 .u8 w2.heap.size 0 (26 + n) [] from hown1)
  have HB3 := Lib.hid ((Below.refl w2.heap.size w2).grown hgrow1 (Nat.le_refl _) (by simp))
  clear hown1 hgrow1 q19 q23
  have q20 := HQ.out w3 20 HB3.out
  have q21 := HQ.out w3 21 HB3.out
  dsimp only [Qf.cells] at q20 q21
  have HK := Lib.hid (show ∀ (o : Obj) (w' : World), Below w2.heap.size (w3.alloc o).drew w' → w'.cell? ⟨w.heap.size, 20, none⟩ = some (.bool r) ∧ w'.cell? ⟨w.heap.size, 21, none⟩ = some (.bool m) from
    fun o w' hb => ⟨HQ.out w' 20 ((HB3.out.alloc HB3.out.size o).drew.trans hb), HQ.out w' 21 ((HB3.out.alloc HB3.out.size o).drew.trans hb)⟩)
  have HZ3 := Lib.hid HB3.out.size
  go_region_held3 (fun w' => w'.cell? ⟨w.heap.size, 20, none⟩ = some (.bool r) ∧ w'.cell? ⟨w.heap.size, 21, none⟩ = some (.bool m))
    (first | go_keep | exact HK.out _ _ hb4.out)
    (first | (go_at_call 21; refine (bit_any _ _ _).mono ?_; rintro e' w' ⟨rfl, rfl⟩) | (refine step_app_own rfl (.tmp 18) (.tmp 27) rfl w2.heap.size w2.heap.size 0 (26 + n) [] (by rfl) (World.ownsRow.drew (World.ownsRow.alloc HO3.out _)) ⟨w3.heap.size, 0, none⟩ 4 4 [136, flagsOf r m, 0, 0] (by rfl) rfl (by omega) (World.news_of_block (cs := #[.int .u8 136, .int .u8 (flagsOf r m), .int .u8 0, .int .u8 0]) (t := 5) (fr := (0, 0)) (heap_alloc_new w3 _)) (by omega) (by have := HZ3.out; simp; omega) ?_; intro g4 cap4 w4 hO4 hb4))
  have HO4 := hO4
  have HB4 := Lib.hid ((HB3.out.alloc HB3.out.size _).drew.trans hb4.out)
  clear hO4 hb4 HO3 HB3 HK HZ3 q20 q21
  rw [Nat.zero_add]
  have HS4 := Lib.hid (fun i => HQ.out w4 i HB4.out)
  go_wp2_with (first
    | (refine app_own rfl (.tmp 29) (.tmp 31) rfl w2.heap.size g4 4 cap4 _ rfl HO4.out ⟨w.heap.size, 0, none⟩ 6 6 t.l rfl rfl (q_src 0 t.l HS4.out (src6 (six_in rfl rfl rfl rfl rfl rfl))) (by omega) HB4.out.size ?_; intro g5 cap5 w5 hO5 hb5; have HB5 := Lib.hid (HB4.out.trans hb5.out); have HS5 := Lib.hid (fun i => HQ.out w5 i HB5.out); clear hb5)
    | (refine app_own rfl (.tmp 33) (.tmp 35) rfl w2.heap.size g5 10 cap5 _ rfl hO5.out ⟨w.heap.size, 6, none⟩ 6 6 bb.l rfl rfl (q_src 6 bb.l HS5.out (src6 (six_in rfl rfl rfl rfl rfl rfl))) (by omega) HB5.out.size ?_; intro g6 cap6 w6 hO6 hb6; have HB6 := Lib.hid (HB5.out.trans hb6.out); have HS6 := Lib.hid (fun i => HQ.out w6 i HB6.out); clear hb6)
    | (refine app_own rfl (.tmp 37) (.tmp 39) rfl w2.heap.size g6 16 cap6 _ rfl hO6.out ⟨w.heap.size, 12, none⟩ 6 6 f.l rfl rfl (q_src 12 f.l HS6.out (src6 (six_in rfl rfl rfl rfl rfl rfl))) (by omega) HB6.out.size ?_; intro g7 cap7 w7 hO7 hb7; have HB7 := Lib.hid (HB6.out.trans hb7.out); clear hb7))
  clear HO4 HB4 HS4 hO5 HB5 HS5 hO6 HB6 HS6
  have q18 := HQ.out w7 18 HB7.out
  have q22 := HQ.out w7 22 HB7.out
  dsimp only [Qf.cells] at q18 q22
  have HK := Lib.hid (show ∀ (o : Obj) (w' : World), Below w2.heap.size (w7.alloc o).drew w' → w'.cell? ⟨w.heap.size, 18, none⟩ = some (.int .i64 tid) ∧ w'.cell? ⟨w.heap.size, 22, none⟩ = some (.bool e) from
    fun o w' hb => ⟨HQ.out w' 18 ((HB7.out.alloc HB7.out.size o).drew.trans hb), HQ.out w' 22 ((HB7.out.alloc HB7.out.size o).drew.trans hb)⟩)
  have HZ7 := Lib.hid HB7.out.size
  have x1 : IntKind.u8.wrap (seq * 16) = seq * 16 % 256 := by rw [IntKind.wrap_u8]
  have x2 : IntKind.u8.wrap (seq * 16 / 256) = seq * 16 / 256 := IntWalk.u8_in _ ⟨by omega, by omega⟩
  have x3 : IntKind.u8.wrap tid = tid := IntWalk.u8_in _ ⟨by omega, by omega⟩
  go_region_held3 (fun w' => w'.cell? ⟨w.heap.size, 18, none⟩ = some (.int .i64 tid) ∧ w'.cell? ⟨w.heap.size, 22, none⟩ = some (.bool e))
    (first | go_keep | exact HK.out _ _ hb8.out)
    (first | (go_at_call 21; refine (bit_any _ _ _).mono ?_; rintro e' w' ⟨rfl, rfl⟩) | (refine step_app_own rfl (.tmp 41) (.tmp 54) rfl w2.heap.size g7 22 cap7 _ (by rfl) (World.ownsRow.drew (World.ownsRow.alloc hO7.out _)) ⟨w7.heap.size, 0, none⟩ 4 4 [seq * 16 % 256, seq * 16 / 256, trafOf tid e, 0] (by rfl) rfl (by omega) (World.news_of_block (cs := #[.int .u8 (seq * 16 % 256), .int .u8 (seq * 16 / 256), .int .u8 (trafOf tid e), .int .u8 0]) (t := 5) (fr := (0, 0)) (heap_alloc_new w7 _)) (by omega) (by have := HZ7.out; simp; omega) ?_; intro g8 cap8 w8 hO8 hb8))
  clear x1 x2 x3 q18 q22
  have HB8 := Lib.hid ((HB7.out.alloc HB7.out.size _).drew.trans hb8.out)
  have q23 := HQ.out w8 23 HB8.out
  dsimp only [Qf.cells] at q23
  have HX8 := Lib.hid (HX2.out.below HB8.out)
  clear hb8 HB7 hO7 HK HZ7
  have HE := Lib.hid (show ([] ++ [136, flagsOf r m, 0, 0] ++ t.l ++ bb.l ++ f.l ++ [seq * 16 % 256, seq * 16 / 256, trafOf tid e, 0] ++ xs) = encQ (Qf.mk t bb f tid seq r m e A n c) xs by simp [encQ])
  go_wp2_with (refine app_row rfl (.tmp 56) (.tmp 58) rfl w2.heap.size g8 26 cap8 _ rfl hO8.out A n c xs rfl HX8.out HN.out (by omega) HB8.out.size ?_; intro g9 cap9 w9 hO9 hb9)
  go_ret2
  refine ⟨g9, cap9, rfl, ?_, HB.out.trans ((HB8.out.trans hb9.out).mono HB.out.size)⟩
  rw [← HE.out]
  exact hO9.out.base HB.out.size
end Go.Proofs.YtogcpommidfmnaaDoor
