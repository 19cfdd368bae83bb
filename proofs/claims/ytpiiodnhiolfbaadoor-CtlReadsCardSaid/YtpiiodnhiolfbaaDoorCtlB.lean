/-
  CONTRACTS of package ctl's writing: window, BarBytes.
-/
import Derived.Test.YtpiiodnhiolfbaaDoorCtlA
import Derived.StillTailTactics
namespace Go.Proofs.YtpiiodnhiolfbaaDoor
open Go.ChangeShapes Go.WideShapes Go.ChangeAt Go.RowKit
set_option linter.unusedVariables false
set_option linter.unusedSimpArgs false

/-- what a Bar is, and an Ack begins with. -/
def encW (k : Int) (t f : A6) (tid seq : Int) : List Int := [k, 0, 0, 0] ++ t.l ++ f.l ++ [(4 + tid * 4096) % 256, (4 + tid * 4096) / 256] ++ [seq * 16 % 256, seq * 16 / 256]
theorem a_src {w' : World} {h : Nat} {cs : Array Value} (o : Nat) (l : List Int) (H : ∀ i, w'.cell? ⟨h, i, none⟩ = cs[i]?) (hl : ∀ j u, (l.map (Value.int .u8))[j]? = some u → cs[o + j]? = some u) :
    ∀ j u, (l.map (Value.int .u8))[j]? = some u → w'.cell? ((⟨h, o, none⟩ : Addr).add j) = some u := by
  intro j u hu
  rw [Addr.add_mid]
  exact (H _).trans (hl j u hu)

set_option maxRecDepth 100000 in
set_option maxHeartbeats 8000000 in
theorem window_own (k : Int) (size : Nat) (t f : A6) (tid seq : Int) (w : World) (hs : 20 ≤ size) (hs2 : size ≤ 1000) (h0 : 0 ≤ tid) (h1 : tid < 8) (h2 : 0 ≤ seq) (h3 : seq < 4096) :
    Calls Tryd.prog 30 #[.int .u8 k, .int .i64 (size : Int), t.val, f.val, .int .i64 tid, .int .i64 seq] w fun e w' => ∃ g cap, e = .returned (.slice (some ⟨g, 0, none⟩) 20 cap) ∧ OwnB w' w.heap.size 5 .u8 g 20 cap (encW k t f tid seq) ∧ Below w.heap.size w w' := by
  obtain ⟨i0, hi0, hz0, hz1, hz2⟩ := info_parts byte_info
  have HB0 := Lib.hid (((Below.refl w.heap.size w).alloc (Nat.le_refl _) (.cells t.cells 23)).alloc (by simp) (.cells f.cells 23))
  have HT := Lib.hid (show ∀ i, ((w.alloc (.cells t.cells 23)).alloc (.cells f.cells 23)).cell? ⟨w.heap.size, i, none⟩ = t.cells[i]? from
    fun i => ((((Below.refl (w.heap.size + 1) (w.alloc (.cells t.cells 23)))).alloc (by simp) (.cells f.cells 23)).cell (p := ⟨w.heap.size, i, none⟩) (Nat.lt_succ_self _)).trans (cells_new w _ _ i))
  have HF := Lib.hid (show ∀ i, ((w.alloc (.cells t.cells 23)).alloc (.cells f.cells 23)).cell? ⟨w.heap.size + 1, i, none⟩ = f.cells[i]? from
    fun i => by have := cells_new (w.alloc (.cells t.cells 23)) f.cells 23 i; rwa [show (w.alloc (.cells t.cells 23)).heap.size = w.heap.size + 1 by simp] at this)
  have HZ := Lib.hid (show w.heap.size + 1 < ((w.alloc (.cells t.cells 23)).alloc (.cells f.cells 23)).heap.size by simp)
  have x1 : IntKind.i64.wrap (tid * 4096) = tid * 4096 := IntWalk.i64_in _ ⟨by omega, by omega⟩
  have x2 : IntKind.i64.wrap (4 + tid * 4096) = 4 + tid * 4096 := IntWalk.i64_in _ ⟨by omega, by omega⟩
  have x3 : IntKind.i64.wrap (seq * 16) = seq * 16 := IntWalk.i64_in _ ⟨by omega, by omega⟩
  have b0 : (0 : Int) ≤ (size : Int) := by omega
  go_enter Tryd.func30, Tryd.ntmps30
  go_wp2_with (first
    | (at_make; generalize World.alloc (World.alloc w _) _ = w2 at *; refine wpList_make_own _ rfl _ _ 32 rfl w2.heap.size 5 i0 (.int .u8 0) 1 Tryd.underlying32 hi0 hz0 hz1 _ _ _ size rfl rfl (by omega) (by rw [hz2]; omega) (by unfold maxLen; omega) (Nat.le_refl _) ?_; intro w3 hown1 hgrow1; have HO3 := Lib.hid (show OwnB w3 w2.heap.size 5 .u8 w2.heap.size 0 size [] from hown1); have HB3 := Lib.hid ((Below.refl w2.heap.size w2).grown hgrow1 (Nat.le_refl _) (by simp)); clear hown1 hgrow1)
    | (refine app_own rfl (.tmp 16) (.tmp 18) rfl w2.heap.size w2.heap.size 0 size [] rfl (World.ownsRow.alloc HO3.out _) ⟨w3.heap.size, 0, none⟩ 4 4 [k, 0, 0, 0] rfl rfl (World.news_of_block (cs := #[.int .u8 k, .int .u8 0, .int .u8 0, .int .u8 0]) (t := 5) (fr := (0, 0)) (heap_alloc_new w3 _)) (by omega) (by have := HB3.out.size; simp; omega) ?_; intro g4 cap4 w4 hO4 hb4; have HB4 := Lib.hid ((HB3.out.alloc HB3.out.size _).trans hb4.out); clear hb4; rw [Nat.zero_add]; have HT4 := Lib.hid (fun i => (HB4.out.cell (p := ⟨w.heap.size, i, none⟩) (by have := HZ.out; simp only; omega)).trans (HT.out i)))
    | (refine app_own rfl (.tmp 20) (.tmp 21) rfl w2.heap.size g4 4 cap4 _ rfl hO4.out ⟨w.heap.size, 0, none⟩ 6 6 t.l rfl rfl (a_src 0 t.l HT4.out (src6 (six_in rfl rfl rfl rfl rfl rfl))) (by omega) HB4.out.size ?_; intro g5 cap5 w5 hO5 hb5; have HB5 := Lib.hid (HB4.out.trans hb5.out); clear hb5; have HF5 := Lib.hid (fun i => (HB5.out.cell (p := ⟨w.heap.size + 1, i, none⟩) HZ.out).trans (HF.out i)))
    | (refine app_own rfl (.tmp 23) (.tmp 24) rfl w2.heap.size g5 10 cap5 _ rfl hO5.out ⟨w.heap.size + 1, 0, none⟩ 6 6 f.l rfl rfl (a_src 0 f.l HF5.out (src6 (six_in rfl rfl rfl rfl rfl rfl))) (by omega) HB5.out.size ?_; intro g6 cap6 w6 hO6 hb6; have HB6 := Lib.hid (HB5.out.trans hb6.out); clear hb6))
  refine (twoC_own w2.heap.size g6 16 cap6 _ (4 + tid * 4096) w6 hO6.out HB6.out.size (by omega) (by omega) (by omega)).mono ?_
  rintro e w7 ⟨g7, cap7, rfl, hO, hb⟩
  have HO7 := Lib.hid hO
  have HB7 := Lib.hid (HB6.out.trans hb)
  clear hO hb
  go_wp2_with (fail)
  refine (twoC_own w2.heap.size g7 18 cap7 _ (seq * 16) w7 HO7.out HB7.out.size (by omega) (by omega) (by omega)).mono ?_
  rintro e w8 ⟨g8, cap8, rfl, hO, hb⟩
  have HO8 := Lib.hid hO
  have HB8 := Lib.hid (HB7.out.trans hb)
  clear hO hb
  go_wp2
  go_ret
  exact ⟨g8, cap8, rfl, HO8.out.base HB0.out.size, HB0.out.trans (HB8.out.mono HB0.out.size)⟩

def codeB (ok : Bool) : Nat := if ok = true then 0 else 103
def outB (ok : Bool) (xs : List Int) : List Int := if ok = true then xs else []
theorem codeB_4 (ok : Bool) : codeB ok = 0 ∨ codeB ok ∈ S4 := by cases ok <;> first | exact .inl rfl | exact .inr (by decide)
theorem four14 : ∀ c ∈ S4, c ∈ S14 := by decide
theorem Sent.four {w : World} {E : Nat → Addr} (h : Sent w E S14) : Sent w E S4 := h.sub four14
/-- a boxed struct's cells, in every world in which what was there then stands. -/
theorem b_at {w w' : World} {cs : Array Value} {T : TypeId} {B : Nat} (hb : Below B (w.alloc (.cells cs T)) w') (hB : w.heap.size < B) (i : Nat) : w'.cell? ⟨w.heap.size, i, none⟩ = cs[i]? :=
  (hb.cell (p := ⟨w.heap.size, i, none⟩) hB).trans (World.cell?_alloc_mark w cs T (0, 0) i)

set_option maxRecDepth 100000 in
set_option maxHeartbeats 8000000 in
theorem bar_no (q : Brf) (E : Nat → Addr) (w : World) (hok : okTS q.tid q.seq = false) (hS : Sent w E S4) :
    Calls Tryd.prog 9 #[q.val] w fun e w' => e = .returned (.tuple #[.slice none 0 0, errP (E 103)]) ∧ Below w.heap.size w w' := by
  have he := hS.at_ 103 (by decide)
  simp only [gOf] at he
  generalize E 103 = a at *
  have HB0 := Lib.hid ((Below.refl w.heap.size w).alloc (Nat.le_refl _) (.cells q.cells 25))
  have he2 := cell?_alloc_old (.cells q.cells 25) he
  have HI := Lib.hid (inRange_any q.tid q.seq (w.alloc (.cells q.cells 25)))
  rw [hok] at HI
  clear hok he hS
  go_enter Tryd.func9, Tryd.ntmps9
  go_wp2_with (fail)
  refine HI.out.mono ?_
  rintro e w2 ⟨rfl, rfl⟩
  go_wp2_with (fail)
  go_quiet (fail)
  go_wp2
  go_ret2
  exact ⟨rfl, below_drewN HB0.out _⟩

set_option maxRecDepth 100000 in
set_option maxHeartbeats 8000000 in
theorem bar_yes (q : Brf) (w : World) (hok : okTS q.tid q.seq = true) :
    Calls Tryd.prog 9 #[q.val] w fun e w' => ∃ g cap, e = .returned (.tuple #[.slice (some ⟨g, 0, none⟩) 20 cap, .nilIface]) ∧ OwnB w' w.heap.size 5 .u8 g 20 cap (encW 132 q.t q.f q.tid q.seq) ∧ Below w.heap.size w w' := by
  obtain ⟨k0, k1, k2, k3⟩ := (okTS_iff _ _).1 hok
  have HB0 := Lib.hid ((Below.refl w.heap.size w).alloc (Nat.le_refl _) (.cells q.cells 25))
  have HI := Lib.hid (inRange_any q.tid q.seq (w.alloc (.cells q.cells 25)))
  rw [hok] at HI
  clear hok
  have HW := Lib.hid (window_own 132 20 q.t q.f q.tid q.seq (w.alloc (.cells q.cells 25)) (by omega) (by omega) k0 k1 k2 k3)
  go_enter Tryd.func9, Tryd.ntmps9
  go_wp2_with (fail)
  refine HI.out.mono ?_
  rintro e w2 ⟨rfl, rfl⟩
  go_wp2_with (fail)
  refine HW.out.mono ?_
  rintro e w3 ⟨g, cap, rfl, hO, hB⟩
  have HO := Lib.hid (hO.base HB0.out.size)
  have HB := Lib.hid (HB0.out.trans (hB.mono HB0.out.size))
  clear hO hB
  go_wp2
  go_ret2
  exact ⟨g, cap, rfl, HO.out, HB.out⟩
end Go.Proofs.YtpiiodnhiolfbaaDoor
