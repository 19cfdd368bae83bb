/-
  The walk of muezzin/muezzinlaw3.QosBits: the Go text returns true.
-/
import Derived.Test.YtogcpommidfmnaaDoorQosF
import Derived.Test.YtogcpommidfmnaaDoorOpen
import Derived.Test.YtogcpommidfmnaaDoorErr
import Derived.WalkKit
import Derived.ProofKit
import Derived.Below
import Derived.Test.YtogcpommidfmnaaDoorInto
import Derived.BigRegion
import Derived.LoopTactic
namespace Go.Proofs.YtogcpommidfmnaaDoor.qosBits
open Go.ChangeShapes Go.WideShapes Go.ChangeAt Go.RowKit Go.Joins
set_option linter.unusedVariables false
set_option linter.unusedSimpArgs false

theorem rd_enc (q : Qf) (xs : List Int) (n : Nat) (h0 : 0 ≤ q.tid) (h1 : q.tid < 8) (h2 : 0 ≤ q.seq) (hn : 26 ≤ n) (hn2 : n ≤ 1526) : rdB (encQ q xs) n = 0 := by
  have e0 : (encQ q xs).getD 0 0 = 136 := rfl
  unfold rdB
  rw [if_neg (by omega), e0, hf_enc q _ h0 h1 h2, if_neg (by simp), if_neg (by simp), if_neg (show ¬ 1526 < n by omega)]
theorem turn_r : ∀ r m : Bool, bits .xor .u8 (flagsOf r m) 8 = flagsOf (!r) m := by decide +kernel
theorem turn_m : ∀ r m : Bool, bits .xor .u8 (flagsOf r m) 32 = flagsOf r (!m) := by decide +kernel
theorem turn_e_nat : ∀ n : Nat, n < 8 → ∀ e : Bool, bits .xor .u8 (trafOf (n : Int) e) 16 = trafOf (n : Int) (!e) := by decide +kernel
theorem turn_e (tid : Int) (h0 : 0 ≤ tid) (h1 : tid < 8) (e : Bool) : bits .xor .u8 (trafOf tid e) 16 = trafOf tid (!e) := by
  obtain ⟨n, rfl⟩ := Int.eq_ofNat_of_zero_le h0
  exact turn_e_nat n (by omega) e

/-! ### THE WALK -/
set_option maxRecDepth 100000 in
set_option maxHeartbeats 8000000 in
theorem walk (f0 : Qf) (z0 : List Int) (w : World) (E : Nat → Addr) (hS : Sent w E [101, 102, 103, 105]) (w0 : IsQf w f0 z0) :
    Calls Tryd.prog 8 #[f0.val] w fun e w' => e = .returned (.bool true) ∧ Below w.heap.size w w' := by
  have HX := Lib.hid (RowB.of_row w0.row)
  have HN := Lib.hid w0.nil
  have HWt := Lib.hid (And.intro w0.t (And.intro w0.b w0.f))
  have HS := Lib.hid hS
  have HLC := Lib.hid w0.row.len_cap.1
  generalize z0.take f0.n = xs at HX
  clear w0 hS
  have HB0 := Lib.hid ((Below.refl w.heap.size w).alloc (Nat.le_refl _) (.cells f0.cells 26))
  have HZ0 := Lib.hid (show w.heap.size < (w.alloc (.cells f0.cells 26)).heap.size by simp)
  have HG0 := Lib.hid (heap_alloc_last w (.cells f0.cells 26))
  by_cases h60 : (60 : Int) < (f0.n : Int)
  · go_enter Tryd.func8, Tryd.ntmps8
    go_wp2_with (fail)
    refine (first_any _).mono ?_
    rintro e w1 ⟨rfl, hB⟩
    have HB1 := Lib.hid hB
    have c23 := q_at hB HZ0.out 23
    dsimp only [Qf.cells] at c23
    clear hB
    go_wp2
    go_ret
    exact ⟨rfl, HB0.out.trans (HB1.out.mono HB0.out.size)⟩
  have hd60 : decide ((60 : Int) < (f0.n : Int)) = false := by simpa using h60
  have h60' : f0.n ≤ 60 := by omega
  clear h60
  go_enter Tryd.func8, Tryd.ntmps8
  go_wp2_with (fail)
  refine (first_any _).mono ?_
  rintro e w1 ⟨rfl, hB⟩
  have HB1 := Lib.hid hB
  have c23 := q_at hB HZ0.out 23
  dsimp only [Qf.cells] at c23
  clear hB
  have HG1 := Lib.hid ((HB1.out.block _ HZ0.out).trans HG0.out)
  have HS1 := Lib.hid (HS.out.below (HB0.out.trans (HB1.out.mono HB0.out.size)))
  have HX1 := Lib.hid (HX.out.below (HB0.out.trans (HB1.out.mono HB0.out.size)))
  go_wp2_with (refine wpList_load_row rfl 26 (.tmp 1) rfl w.heap.size rfl 26 f0.cells (0, 0) _ HG1.out Tryd.underlying26 rfl size26 ?_)
  clear hd60 c23
  by_cases hok : f0.okB = true
  case neg =>
    refine (bytes_no f0 E w1 (by simpa using hok) (HS1.out.at_ 103 (by decide))).mono ?_
    rintro e w2 ⟨rfl, hB⟩
    have HB2 := Lib.hid (HB1.out.trans (hB.mono HB1.out.size))
    clear hB
    go_wp2
    go_ret
    exact ⟨rfl, HB0.out.trans (HB2.out.mono HB0.out.size)⟩
  have HK := Lib.hid (f0.ok_iff.1 hok)
  refine (bytes_yes f0 xs w1 hok HX1.out HN.out).mono ?_
  rintro e w2 ⟨g, cap, rfl, hO, hB⟩
  have HLX := Lib.hid (show 26 + xs.length = 26 + f0.n by rw [HX.out.len])
  have HLL := Lib.hid ((enc_len f0 xs).trans HLX.out)
  have HWF := Lib.hid (show ∀ r m e : Bool, ∀ i, i < 26 + f0.n → 0 ≤ (encQ ⟨f0.t, f0.b, f0.f, f0.tid, f0.seq, r, m, e, f0.A, f0.n, f0.c⟩ xs).getD i 0 ∧ (encQ ⟨f0.t, f0.b, f0.f, f0.tid, f0.seq, r, m, e, f0.A, f0.n, f0.c⟩ xs).getD i 0 ≤ 255 from fun r m e i hi => enc_wf ⟨f0.t, f0.b, f0.f, f0.tid, f0.seq, r, m, e, f0.A, f0.n, f0.c⟩ xs hok HWt.out.1 HWt.out.2.1 HWt.out.2.2 (fun i hi => HX.out.wf8 i (by rw [← HX.out.len]; exact hi)) i (by rw [HLX.out]; exact hi))
  have HW := Lib.hid (HWF.out f0.r f0.m f0.e)
  have HRD := Lib.hid (fun r m e => rd_enc ⟨f0.t, f0.b, f0.f, f0.tid, f0.seq, r, m, e, f0.A, f0.n, f0.c⟩ xs (26 + f0.n) HK.out.1 HK.out.2.1 HK.out.2.2.1 (by omega) (by omega))
  have HDE := Lib.hid (fun r m e A n c => dec_enc ⟨f0.t, f0.b, f0.f, f0.tid, f0.seq, r, m, e, f0.A, f0.n, f0.c⟩ xs HK.out.1 HK.out.2.1 HK.out.2.2.1 HK.out.2.2.2.1 A n c)
  obtain ⟨L, hL⟩ : ∃ L, L = encQ f0 xs := ⟨_, rfl⟩
  rw [← hL] at hO HLL
  rw [show encQ ⟨f0.t, f0.b, f0.f, f0.tid, f0.seq, f0.r, f0.m, f0.e, f0.A, f0.n, f0.c⟩ xs = L from hL.symm] at HW
  have HLe := Lib.hid hL
  have HO2 := Lib.hid hO
  have HB2 := Lib.hid (HB1.out.trans (hB.mono HB1.out.size))
  clear hok hL hO hB
  have HB4 := Lib.hid ((HB2.out.alloc HB2.out.size (.cells #[.int .i64 1, .int .i64 1, .int .i64 24] 3)).alloc (by have := HB2.out.size; simp at *; omega) (.cells #[.int .u8 8, .int .u8 32, .int .u8 16] 5))
  have HO4 := Lib.hid (HO2.out.below (((Below.refl w2.heap.size w2).alloc (Nat.le_refl _) (.cells #[.int .i64 1, .int .i64 1, .int .i64 24] 3)).alloc (by simp) (.cells #[.int .u8 8, .int .u8 32, .int .u8 16] 5)) HO2.out.lt.2)
  have HA4 := Lib.hid (show ∀ i : Nat, ((w2.alloc (.cells #[.int .i64 1, .int .i64 1, .int .i64 24] 3)).alloc (.cells #[.int .u8 8, .int .u8 32, .int .u8 16] 5)).cell? ⟨w2.heap.size, i, none⟩ = (#[.int .i64 1, .int .i64 1, .int .i64 24] : Array Value)[i]? from
    fun i => (((Below.refl (w2.heap.size + 1) (w2.alloc (.cells #[.int .i64 1, .int .i64 1, .int .i64 24] 3))).alloc (by simp) (.cells #[.int .u8 8, .int .u8 32, .int .u8 16] 5)).cell (p := ⟨w2.heap.size, i, none⟩) (Nat.lt_succ_self _)).trans (World.cell?_alloc_mark w2 _ _ (0, 0) i))
  have HC4 := Lib.hid (show ∀ i : Nat, ((w2.alloc (.cells #[.int .i64 1, .int .i64 1, .int .i64 24] 3)).alloc (.cells #[.int .u8 8, .int .u8 32, .int .u8 16] 5)).cell? ⟨w2.heap.size + 1, i, none⟩ = (#[.int .u8 8, .int .u8 32, .int .u8 16] : Array Value)[i]? from
    fun i => by have := World.cell?_alloc_mark (w2.alloc (.cells #[.int .i64 1, .int .i64 1, .int .i64 24] 3)) #[.int .u8 8, .int .u8 32, .int .u8 16] 5 (0, 0) i; rwa [show (w2.alloc (.cells #[.int .i64 1, .int .i64 1, .int .i64 24] 3)).heap.size = w2.heap.size + 1 by simp] at this)
  have HZ4 := Lib.hid (show w2.heap.size + 1 < ((w2.alloc (.cells #[.int .i64 1, .int .i64 1, .int .i64 24] 3)).alloc (.cells #[.int .u8 8, .int .u8 32, .int .u8 16] 5)).heap.size by simp)
  go_wp2_with (fail)
  generalize hw4 : World.alloc (World.alloc w2 _) _ = w4 at *
  clear hw4
  go_loopw [8] (fun i wr => ∃ k : Int, (k = 0 ∨ k = 1 ∨ k = 2 ∨ k = 3) ∧ i = .int .i64 k ∧ Below w4.heap.size w4 wr) (fun i _ => 3 - (intOf i).toNat)
  case atStart => exact ⟨0, by simp, rfl, Below.refl _ _⟩
  case round =>
    obtain ⟨k, hk, rfl, hbel⟩ := hrel
    have HBr := Lib.hid (HB4.out.trans (hbel.mono HB4.out.size))
    have HOr := Lib.hid (HO4.out.below hbel (Nat.lt_of_lt_of_le HO4.out.lt.2 (Nat.le_refl _)))
    have HAr := Lib.hid (fun i => (hbel.cell (p := ⟨w2.heap.size, i, none⟩) (Nat.lt_trans (Nat.lt_succ_self _) HZ4.out)).trans (HA4.out i))
    have HCr := Lib.hid (fun i => (hbel.cell (p := ⟨w2.heap.size + 1, i, none⟩) HZ4.out).trans (HC4.out i))
    have HBw := Lib.hid hbel
    clear hbel
    rcases hk with rfl | rfl | rfl | rfl
    · go_wp2_with (fail)
      refine (bytes_any _ _ _ L wr (HOr.out.row8 HW.out) (by omega)).mono ?_
      rintro e w5 ⟨g5, cap5, rfl, hO, hB⟩
      have hA := (hB.cell (cell_lt' (HAr.out 0))).trans (HAr.out 0)
      have hC := (hB.cell (cell_lt' (HCr.out 0))).trans (HCr.out 0)
      have hX5 := hO.cell 1 (by omega)
      have hF5 := hO.frozen 1
      rw [show L.getD 1 0 = flagsOf f0.r f0.m by rw [HLe.out]; rfl] at hX5
      have hx := turn_r f0.r f0.m
      have HBw5 := Lib.hid (HBw.out.trans (hB.mono HBw.out.size))
      have HO6 := Lib.hid (hO.set 1 (flagsOf (!f0.r) f0.m))
      rw [show L.set 1 (flagsOf (!f0.r) f0.m) = encQ (⟨f0.t, f0.b, f0.f, f0.tid, f0.seq, (!f0.r), f0.m, f0.e, f0.A, f0.n, f0.c⟩ : Qf) xs by rw [HLe.out]; rfl] at HO6
      have HLT := Lib.hid hO.lt
      have HBw6 := Lib.hid (HBw5.out.setCell (p := ⟨g5, 1, none⟩) (Nat.le_trans HBw.out.size hO.lt.1) (.int .u8 (flagsOf (!f0.r) f0.m)))
      have hb5 : (1 : Int) < 26 + (f0.n : Int) := by omega
      clear hO hB
      go_wp2_with (fail)
      go_region
      have HO6' := Lib.hid (show OwnB (World.drew (w5.setCell ⟨g5, 1, none⟩ (.int .u8 (flagsOf (!f0.r) f0.m)))) wr.heap.size 5 .u8 g5 (26 + f0.n) cap5 (encQ (⟨f0.t, f0.b, f0.f, f0.tid, f0.seq, (!f0.r), f0.m, f0.e, f0.A, f0.n, f0.c⟩ : Qf) xs) from HO6.out)
      have HBw6' := Lib.hid (show Below w4.heap.size w4 (World.drew (w5.setCell ⟨g5, 1, none⟩ (.int .u8 (flagsOf (!f0.r) f0.m)))) from HBw6.out.drew)
      generalize World.drew _ = w6 at *
      clear hA hC hX5 hF5 hx hb5 HO6 HBw6
      have HB6 := Lib.hid (HB4.out.trans (HBw6'.out.mono HB4.out.size))
      go_wp2_with (fail)
      refine (read_good _ _ _ (encQ (⟨f0.t, f0.b, f0.f, f0.tid, f0.seq, (!f0.r), f0.m, f0.e, f0.A, f0.n, f0.c⟩ : Qf) xs) w6 (HO6'.out.row8 (HWF.out (!f0.r) f0.m f0.e)) HO6'.out.cap_le (HRD.out (!f0.r) f0.m f0.e)).mono ?_
      rintro e w7 ⟨g7, cap7, rfl, hO, hB⟩
      rw [HDE.out (!f0.r) f0.m f0.e]
      have HR7 := Lib.hid (hO.row8 (fun i hi => HX.out.wf8 i (by omega)))
      rw [enc_drop] at HR7
      have HB7 := Lib.hid (HB6.out.trans (hB.mono HB6.out.size))
      have HBw7 := Lib.hid (HBw6'.out.trans (hB.mono HBw6'.out.size))
      generalize hp : (⟨f0.t, f0.b, f0.f, f0.tid, f0.seq, (!f0.r), f0.m, f0.e, some ⟨g7, 0, none⟩, 26 + f0.n - 26, cap7⟩ : Qf) = p at *
      have HSQ := Lib.hid (show sameQ p (⟨f0.t, f0.b, f0.f, f0.tid, f0.seq, (!f0.r), f0.m, f0.e, f0.A, f0.n, f0.c⟩ : Qf) xs xs = true by rw [← hp]; exact same_refl (⟨f0.t, f0.b, f0.f, f0.tid, f0.seq, (!f0.r), f0.m, f0.e, f0.A, f0.n, f0.c⟩ : Qf) xs _ _ _)
      have HPA := Lib.hid (show p.A = some ⟨g7, 0, none⟩ ∧ p.n = 26 + f0.n - 26 by rw [← hp]; exact ⟨rfl, rfl⟩)
      clear hO hB hp
      have c20 := q_at HB7.out HZ0.out 20
      dsimp only [Qf.cells] at c20
      have hlt7 : w.heap.size < w7.heap.size := Nat.lt_of_lt_of_le HZ0.out HB7.out.size
      have HG8 := Lib.hid ((Below.heap_alloc w7 (.cells p.cells 26) _ hlt7).trans ((HB7.out.block _ HZ0.out).trans HG0.out))
      have HP9 := Lib.hid (show ((w7.alloc (.cells p.cells 26)).alloc (.cells (⟨f0.t, f0.b, f0.f, f0.tid, f0.seq, (!f0.r), f0.m, f0.e, f0.A, f0.n, f0.c⟩ : Qf).cells 26)).heap[w7.heap.size]? = some (.cells p.cells 26 (0, 0)) from (Below.heap_alloc _ _ _ (by simp)).trans (heap_alloc_last w7 _))
      have HF9 := Lib.hid (show ((w7.alloc (.cells p.cells 26)).alloc (.cells (⟨f0.t, f0.b, f0.f, f0.tid, f0.seq, (!f0.r), f0.m, f0.e, f0.A, f0.n, f0.c⟩ : Qf).cells 26)).heap[w7.heap.size + 1]? = some (.cells (⟨f0.t, f0.b, f0.f, f0.tid, f0.seq, (!f0.r), f0.m, f0.e, f0.A, f0.n, f0.c⟩ : Qf).cells 26 (0, 0)) from by have := heap_alloc_last (w7.alloc (.cells p.cells 26)) (.cells (⟨f0.t, f0.b, f0.f, f0.tid, f0.seq, (!f0.r), f0.m, f0.e, f0.A, f0.n, f0.c⟩ : Qf).cells 26); rwa [show (w7.alloc (.cells p.cells 26)).heap.size = w7.heap.size + 1 by simp] at this)
      have HFA := Lib.hid (show ∀ c : Array Value, ((w7.alloc (.cells p.cells 26)).alloc (.cells c 26)).heap[w7.heap.size + 1]? = some (.cells c 26 (0, 0)) from fun c => by have := heap_alloc_last (w7.alloc (.cells p.cells 26)) (.cells c 26); rwa [show (w7.alloc (.cells p.cells 26)).heap.size = w7.heap.size + 1 by simp] at this)
      have HSA := Lib.hid (show ∀ c c' : Array Value, ((w7.alloc (.cells p.cells 26)).alloc (.cells c 26)).setRow (w7.heap.size + 1) c' = (w7.alloc (.cells p.cells 26)).alloc (.cells c' 26) from fun c c' => by have := World.setRow_alloc_new (w7.alloc (.cells p.cells 26)) c c' 26; rwa [show (w7.alloc (.cells p.cells 26)).heap.size = w7.heap.size + 1 by simp] at this)
      have HBw9 := Lib.hid ((HBw7.out.alloc HBw7.out.size (.cells p.cells 26)).alloc (by have := HBw7.out.size; simp; omega) (.cells (⟨f0.t, f0.b, f0.f, f0.tid, f0.seq, (!f0.r), f0.m, f0.e, f0.A, f0.n, f0.c⟩ : Qf).cells 26))
      have HR9 := Lib.hid (HR7.out.below (((Below.refl w7.heap.size w7).alloc (Nat.le_refl _) (.cells p.cells 26)).alloc (by simp) (.cells (⟨f0.t, f0.b, f0.f, f0.tid, f0.seq, (!f0.r), f0.m, f0.e, f0.A, f0.n, f0.c⟩ : Qf).cells 26)))
      have HX9 := Lib.hid (HX.out.below (HB0.out.trans ((HB4.out.trans (HBw9.out.mono HB4.out.size)).mono HB0.out.size)))
      go_wp2_with (first
        | (refine wpList_store_row rfl 26 (.tmp 10) (.tmp 63) rfl w7.heap.size p.cells rfl rfl 26 Go.Proofs.YtogcpommidfmnaaDoor.q0.cells (heap_alloc_last _ _) size26 rfl (Qf.oneCell _) ?_; rw [World.setRow_alloc_new])
        | (refine wpList_load_row rfl 26 (.tmp 1) rfl w.heap.size rfl 26 f0.cells (0, 0) _ HG8.out Tryd.underlying26 rfl size26 ?_)
        | (refine wpList_store_row rfl 26 (.tmp 12) (.tmp 65) rfl (w7.heap.size + 1) f0.cells rfl rfl 26 Go.Proofs.YtogcpommidfmnaaDoor.q0.cells (HFA.out _) size26 rfl (Qf.oneCell _) ?_; rw [HSA.out])
        | (refine wpList_store_into (by rfl) 4 (.tmp 76) (.tmp 75) rfl (w7.heap.size + 1) 20 (.bool (!f0.r)) rfl rfl rfl 26 f0.cells (⟨f0.t, f0.b, f0.f, f0.tid, f0.seq, (!f0.r), f0.m, f0.e, f0.A, f0.n, f0.c⟩ : Qf).cells (HFA.out _) (by kernel_rfl) (show 20 < 24 by decide) rfl ?_; rw [HSA.out])
        | (refine wpList_load_if (by rfl) 26 (.tmp 10) rfl w7.heap.size rfl 26 p.cells (0, 0) _ HP9.out Tryd.underlying26 rfl size26 ?_)
        | (refine wpList_load_if (by rfl) 26 (.tmp 12) rfl (w7.heap.size + 1) rfl 26 (⟨f0.t, f0.b, f0.f, f0.tid, f0.seq, (!f0.r), f0.m, f0.e, f0.A, f0.n, f0.c⟩ : Qf).cells (0, 0) _ HF9.out Tryd.underlying26 rfl size26 ?_))
      refine (sameQ_any p (⟨f0.t, f0.b, f0.f, f0.tid, f0.seq, (!f0.r), f0.m, f0.e, f0.A, f0.n, f0.c⟩ : Qf) xs xs _ (by rw [HPA.out.1, HPA.out.2]; exact (by have := HR9.out; rwa [show 26 + f0.n - 26 = f0.n by omega] at this ⊢)) HX9.out).mono ?_
      rintro e w10 ⟨rfl, hB⟩
      rw [HSQ.out]
      have HBwA := Lib.hid (HBw9.out.trans (hB.mono HBw9.out.size))
      clear hB c20 hlt7
      go_wp2
      go_roundw
      case rel => exact ⟨0+1, by simp, by go_num, HBwA.out⟩
      case measure => simp [intOf]
    · go_wp2_with (fail)
      refine (bytes_any _ _ _ L wr (HOr.out.row8 HW.out) (by omega)).mono ?_
      rintro e w5 ⟨g5, cap5, rfl, hO, hB⟩
      have hA := (hB.cell (cell_lt' (HAr.out 1))).trans (HAr.out 1)
      have hC := (hB.cell (cell_lt' (HCr.out 1))).trans (HCr.out 1)
      have hX5 := hO.cell 1 (by omega)
      have hF5 := hO.frozen 1
      rw [show L.getD 1 0 = flagsOf f0.r f0.m by rw [HLe.out]; rfl] at hX5
      have hx := turn_m f0.r f0.m
      have HBw5 := Lib.hid (HBw.out.trans (hB.mono HBw.out.size))
      have HO6 := Lib.hid (hO.set 1 (flagsOf f0.r (!f0.m)))
      rw [show L.set 1 (flagsOf f0.r (!f0.m)) = encQ (⟨f0.t, f0.b, f0.f, f0.tid, f0.seq, f0.r, (!f0.m), f0.e, f0.A, f0.n, f0.c⟩ : Qf) xs by rw [HLe.out]; rfl] at HO6
      have HLT := Lib.hid hO.lt
      have HBw6 := Lib.hid (HBw5.out.setCell (p := ⟨g5, 1, none⟩) (Nat.le_trans HBw.out.size hO.lt.1) (.int .u8 (flagsOf f0.r (!f0.m))))
      have hb5 : (1 : Int) < 26 + (f0.n : Int) := by omega
      clear hO hB
      go_wp2_with (fail)
      go_region
      have HO6' := Lib.hid (show OwnB (World.drew (w5.setCell ⟨g5, 1, none⟩ (.int .u8 (flagsOf f0.r (!f0.m))))) wr.heap.size 5 .u8 g5 (26 + f0.n) cap5 (encQ (⟨f0.t, f0.b, f0.f, f0.tid, f0.seq, f0.r, (!f0.m), f0.e, f0.A, f0.n, f0.c⟩ : Qf) xs) from HO6.out)
      have HBw6' := Lib.hid (show Below w4.heap.size w4 (World.drew (w5.setCell ⟨g5, 1, none⟩ (.int .u8 (flagsOf f0.r (!f0.m))))) from HBw6.out.drew)
      generalize World.drew _ = w6 at *
      clear hA hC hX5 hF5 hx hb5 HO6 HBw6
      have HB6 := Lib.hid (HB4.out.trans (HBw6'.out.mono HB4.out.size))
      go_wp2_with (fail)
      refine (read_good _ _ _ (encQ (⟨f0.t, f0.b, f0.f, f0.tid, f0.seq, f0.r, (!f0.m), f0.e, f0.A, f0.n, f0.c⟩ : Qf) xs) w6 (HO6'.out.row8 (HWF.out f0.r (!f0.m) f0.e)) HO6'.out.cap_le (HRD.out f0.r (!f0.m) f0.e)).mono ?_
      rintro e w7 ⟨g7, cap7, rfl, hO, hB⟩
      rw [HDE.out f0.r (!f0.m) f0.e]
      have HR7 := Lib.hid (hO.row8 (fun i hi => HX.out.wf8 i (by omega)))
      rw [enc_drop] at HR7
      have HB7 := Lib.hid (HB6.out.trans (hB.mono HB6.out.size))
      have HBw7 := Lib.hid (HBw6'.out.trans (hB.mono HBw6'.out.size))
      generalize hp : (⟨f0.t, f0.b, f0.f, f0.tid, f0.seq, f0.r, (!f0.m), f0.e, some ⟨g7, 0, none⟩, 26 + f0.n - 26, cap7⟩ : Qf) = p at *
      have HSQ := Lib.hid (show sameQ p (⟨f0.t, f0.b, f0.f, f0.tid, f0.seq, f0.r, (!f0.m), f0.e, f0.A, f0.n, f0.c⟩ : Qf) xs xs = true by rw [← hp]; exact same_refl (⟨f0.t, f0.b, f0.f, f0.tid, f0.seq, f0.r, (!f0.m), f0.e, f0.A, f0.n, f0.c⟩ : Qf) xs _ _ _)
      have HPA := Lib.hid (show p.A = some ⟨g7, 0, none⟩ ∧ p.n = 26 + f0.n - 26 by rw [← hp]; exact ⟨rfl, rfl⟩)
      clear hO hB hp
      have c21 := q_at HB7.out HZ0.out 21
      dsimp only [Qf.cells] at c21
      have hlt7 : w.heap.size < w7.heap.size := Nat.lt_of_lt_of_le HZ0.out HB7.out.size
      have HG8 := Lib.hid ((Below.heap_alloc w7 (.cells p.cells 26) _ hlt7).trans ((HB7.out.block _ HZ0.out).trans HG0.out))
      have HP9 := Lib.hid (show ((w7.alloc (.cells p.cells 26)).alloc (.cells (⟨f0.t, f0.b, f0.f, f0.tid, f0.seq, f0.r, (!f0.m), f0.e, f0.A, f0.n, f0.c⟩ : Qf).cells 26)).heap[w7.heap.size]? = some (.cells p.cells 26 (0, 0)) from (Below.heap_alloc _ _ _ (by simp)).trans (heap_alloc_last w7 _))
      have HF9 := Lib.hid (show ((w7.alloc (.cells p.cells 26)).alloc (.cells (⟨f0.t, f0.b, f0.f, f0.tid, f0.seq, f0.r, (!f0.m), f0.e, f0.A, f0.n, f0.c⟩ : Qf).cells 26)).heap[w7.heap.size + 1]? = some (.cells (⟨f0.t, f0.b, f0.f, f0.tid, f0.seq, f0.r, (!f0.m), f0.e, f0.A, f0.n, f0.c⟩ : Qf).cells 26 (0, 0)) from by have := heap_alloc_last (w7.alloc (.cells p.cells 26)) (.cells (⟨f0.t, f0.b, f0.f, f0.tid, f0.seq, f0.r, (!f0.m), f0.e, f0.A, f0.n, f0.c⟩ : Qf).cells 26); rwa [show (w7.alloc (.cells p.cells 26)).heap.size = w7.heap.size + 1 by simp] at this)
      have HFA := Lib.hid (show ∀ c : Array Value, ((w7.alloc (.cells p.cells 26)).alloc (.cells c 26)).heap[w7.heap.size + 1]? = some (.cells c 26 (0, 0)) from fun c => by have := heap_alloc_last (w7.alloc (.cells p.cells 26)) (.cells c 26); rwa [show (w7.alloc (.cells p.cells 26)).heap.size = w7.heap.size + 1 by simp] at this)
      have HSA := Lib.hid (show ∀ c c' : Array Value, ((w7.alloc (.cells p.cells 26)).alloc (.cells c 26)).setRow (w7.heap.size + 1) c' = (w7.alloc (.cells p.cells 26)).alloc (.cells c' 26) from fun c c' => by have := World.setRow_alloc_new (w7.alloc (.cells p.cells 26)) c c' 26; rwa [show (w7.alloc (.cells p.cells 26)).heap.size = w7.heap.size + 1 by simp] at this)
      have HBw9 := Lib.hid ((HBw7.out.alloc HBw7.out.size (.cells p.cells 26)).alloc (by have := HBw7.out.size; simp; omega) (.cells (⟨f0.t, f0.b, f0.f, f0.tid, f0.seq, f0.r, (!f0.m), f0.e, f0.A, f0.n, f0.c⟩ : Qf).cells 26))
      have HR9 := Lib.hid (HR7.out.below (((Below.refl w7.heap.size w7).alloc (Nat.le_refl _) (.cells p.cells 26)).alloc (by simp) (.cells (⟨f0.t, f0.b, f0.f, f0.tid, f0.seq, f0.r, (!f0.m), f0.e, f0.A, f0.n, f0.c⟩ : Qf).cells 26)))
      have HX9 := Lib.hid (HX.out.below (HB0.out.trans ((HB4.out.trans (HBw9.out.mono HB4.out.size)).mono HB0.out.size)))
      go_wp2_with (first
        | (refine wpList_store_row rfl 26 (.tmp 10) (.tmp 63) rfl w7.heap.size p.cells rfl rfl 26 Go.Proofs.YtogcpommidfmnaaDoor.q0.cells (heap_alloc_last _ _) size26 rfl (Qf.oneCell _) ?_; rw [World.setRow_alloc_new])
        | (refine wpList_load_row rfl 26 (.tmp 1) rfl w.heap.size rfl 26 f0.cells (0, 0) _ HG8.out Tryd.underlying26 rfl size26 ?_)
        | (refine wpList_store_row rfl 26 (.tmp 12) (.tmp 65) rfl (w7.heap.size + 1) f0.cells rfl rfl 26 Go.Proofs.YtogcpommidfmnaaDoor.q0.cells (HFA.out _) size26 rfl (Qf.oneCell _) ?_; rw [HSA.out])
        | (refine wpList_store_into (by rfl) 4 (.tmp 82) (.tmp 81) rfl (w7.heap.size + 1) 21 (.bool (!f0.m)) rfl rfl rfl 26 f0.cells (⟨f0.t, f0.b, f0.f, f0.tid, f0.seq, f0.r, (!f0.m), f0.e, f0.A, f0.n, f0.c⟩ : Qf).cells (HFA.out _) (by kernel_rfl) (show 21 < 24 by decide) rfl ?_; rw [HSA.out])
        | (refine wpList_load_if (by rfl) 26 (.tmp 10) rfl w7.heap.size rfl 26 p.cells (0, 0) _ HP9.out Tryd.underlying26 rfl size26 ?_)
        | (refine wpList_load_if (by rfl) 26 (.tmp 12) rfl (w7.heap.size + 1) rfl 26 (⟨f0.t, f0.b, f0.f, f0.tid, f0.seq, f0.r, (!f0.m), f0.e, f0.A, f0.n, f0.c⟩ : Qf).cells (0, 0) _ HF9.out Tryd.underlying26 rfl size26 ?_))
      refine (sameQ_any p (⟨f0.t, f0.b, f0.f, f0.tid, f0.seq, f0.r, (!f0.m), f0.e, f0.A, f0.n, f0.c⟩ : Qf) xs xs _ (by rw [HPA.out.1, HPA.out.2]; exact (by have := HR9.out; rwa [show 26 + f0.n - 26 = f0.n by omega] at this ⊢)) HX9.out).mono ?_
      rintro e w10 ⟨rfl, hB⟩
      rw [HSQ.out]
      have HBwA := Lib.hid (HBw9.out.trans (hB.mono HBw9.out.size))
      clear hB c21 hlt7
      go_wp2
      go_roundw
      case rel => exact ⟨1+1, by simp, by go_num, HBwA.out⟩
      case measure => simp [intOf]
    · go_wp2_with (fail)
      refine (bytes_any _ _ _ L wr (HOr.out.row8 HW.out) (by omega)).mono ?_
      rintro e w5 ⟨g5, cap5, rfl, hO, hB⟩
      have hA := (hB.cell (cell_lt' (HAr.out 2))).trans (HAr.out 2)
      have hC := (hB.cell (cell_lt' (HCr.out 2))).trans (HCr.out 2)
      have hX5 := hO.cell 24 (by omega)
      have hF5 := hO.frozen 24
      rw [show L.getD 24 0 = trafOf f0.tid f0.e by rw [HLe.out]; rfl] at hX5
      have hx := turn_e f0.tid HK.out.1 HK.out.2.1 f0.e
      have HBw5 := Lib.hid (HBw.out.trans (hB.mono HBw.out.size))
      have HO6 := Lib.hid (hO.set 24 (trafOf f0.tid (!f0.e)))
      rw [show L.set 24 (trafOf f0.tid (!f0.e)) = encQ (⟨f0.t, f0.b, f0.f, f0.tid, f0.seq, f0.r, f0.m, (!f0.e), f0.A, f0.n, f0.c⟩ : Qf) xs by rw [HLe.out]; rfl] at HO6
      have HLT := Lib.hid hO.lt
      have HBw6 := Lib.hid (HBw5.out.setCell (p := ⟨g5, 24, none⟩) (Nat.le_trans HBw.out.size hO.lt.1) (.int .u8 (trafOf f0.tid (!f0.e))))
      have hb5 : (24 : Int) < 26 + (f0.n : Int) := by omega
      clear hO hB
      go_wp2_with (fail)
      go_region
      have HO6' := Lib.hid (show OwnB (World.drew (w5.setCell ⟨g5, 24, none⟩ (.int .u8 (trafOf f0.tid (!f0.e))))) wr.heap.size 5 .u8 g5 (26 + f0.n) cap5 (encQ (⟨f0.t, f0.b, f0.f, f0.tid, f0.seq, f0.r, f0.m, (!f0.e), f0.A, f0.n, f0.c⟩ : Qf) xs) from HO6.out)
      have HBw6' := Lib.hid (show Below w4.heap.size w4 (World.drew (w5.setCell ⟨g5, 24, none⟩ (.int .u8 (trafOf f0.tid (!f0.e))))) from HBw6.out.drew)
      generalize World.drew _ = w6 at *
      clear hA hC hX5 hF5 hx hb5 HO6 HBw6
      have HB6 := Lib.hid (HB4.out.trans (HBw6'.out.mono HB4.out.size))
      go_wp2_with (fail)
      refine (read_good _ _ _ (encQ (⟨f0.t, f0.b, f0.f, f0.tid, f0.seq, f0.r, f0.m, (!f0.e), f0.A, f0.n, f0.c⟩ : Qf) xs) w6 (HO6'.out.row8 (HWF.out f0.r f0.m (!f0.e))) HO6'.out.cap_le (HRD.out f0.r f0.m (!f0.e))).mono ?_
      rintro e w7 ⟨g7, cap7, rfl, hO, hB⟩
      rw [HDE.out f0.r f0.m (!f0.e)]
      have HR7 := Lib.hid (hO.row8 (fun i hi => HX.out.wf8 i (by omega)))
      rw [enc_drop] at HR7
      have HB7 := Lib.hid (HB6.out.trans (hB.mono HB6.out.size))
      have HBw7 := Lib.hid (HBw6'.out.trans (hB.mono HBw6'.out.size))
      generalize hp : (⟨f0.t, f0.b, f0.f, f0.tid, f0.seq, f0.r, f0.m, (!f0.e), some ⟨g7, 0, none⟩, 26 + f0.n - 26, cap7⟩ : Qf) = p at *
      have HSQ := Lib.hid (show sameQ p (⟨f0.t, f0.b, f0.f, f0.tid, f0.seq, f0.r, f0.m, (!f0.e), f0.A, f0.n, f0.c⟩ : Qf) xs xs = true by rw [← hp]; exact same_refl (⟨f0.t, f0.b, f0.f, f0.tid, f0.seq, f0.r, f0.m, (!f0.e), f0.A, f0.n, f0.c⟩ : Qf) xs _ _ _)
      have HPA := Lib.hid (show p.A = some ⟨g7, 0, none⟩ ∧ p.n = 26 + f0.n - 26 by rw [← hp]; exact ⟨rfl, rfl⟩)
      clear hO hB hp
      have c22 := q_at HB7.out HZ0.out 22
      dsimp only [Qf.cells] at c22
      have hlt7 : w.heap.size < w7.heap.size := Nat.lt_of_lt_of_le HZ0.out HB7.out.size
      have HG8 := Lib.hid ((Below.heap_alloc w7 (.cells p.cells 26) _ hlt7).trans ((HB7.out.block _ HZ0.out).trans HG0.out))
      have HP9 := Lib.hid (show ((w7.alloc (.cells p.cells 26)).alloc (.cells (⟨f0.t, f0.b, f0.f, f0.tid, f0.seq, f0.r, f0.m, (!f0.e), f0.A, f0.n, f0.c⟩ : Qf).cells 26)).heap[w7.heap.size]? = some (.cells p.cells 26 (0, 0)) from (Below.heap_alloc _ _ _ (by simp)).trans (heap_alloc_last w7 _))
      have HF9 := Lib.hid (show ((w7.alloc (.cells p.cells 26)).alloc (.cells (⟨f0.t, f0.b, f0.f, f0.tid, f0.seq, f0.r, f0.m, (!f0.e), f0.A, f0.n, f0.c⟩ : Qf).cells 26)).heap[w7.heap.size + 1]? = some (.cells (⟨f0.t, f0.b, f0.f, f0.tid, f0.seq, f0.r, f0.m, (!f0.e), f0.A, f0.n, f0.c⟩ : Qf).cells 26 (0, 0)) from by have := heap_alloc_last (w7.alloc (.cells p.cells 26)) (.cells (⟨f0.t, f0.b, f0.f, f0.tid, f0.seq, f0.r, f0.m, (!f0.e), f0.A, f0.n, f0.c⟩ : Qf).cells 26); rwa [show (w7.alloc (.cells p.cells 26)).heap.size = w7.heap.size + 1 by simp] at this)
      have HFA := Lib.hid (show ∀ c : Array Value, ((w7.alloc (.cells p.cells 26)).alloc (.cells c 26)).heap[w7.heap.size + 1]? = some (.cells c 26 (0, 0)) from fun c => by have := heap_alloc_last (w7.alloc (.cells p.cells 26)) (.cells c 26); rwa [show (w7.alloc (.cells p.cells 26)).heap.size = w7.heap.size + 1 by simp] at this)
      have HSA := Lib.hid (show ∀ c c' : Array Value, ((w7.alloc (.cells p.cells 26)).alloc (.cells c 26)).setRow (w7.heap.size + 1) c' = (w7.alloc (.cells p.cells 26)).alloc (.cells c' 26) from fun c c' => by have := World.setRow_alloc_new (w7.alloc (.cells p.cells 26)) c c' 26; rwa [show (w7.alloc (.cells p.cells 26)).heap.size = w7.heap.size + 1 by simp] at this)
      have HBw9 := Lib.hid ((HBw7.out.alloc HBw7.out.size (.cells p.cells 26)).alloc (by have := HBw7.out.size; simp; omega) (.cells (⟨f0.t, f0.b, f0.f, f0.tid, f0.seq, f0.r, f0.m, (!f0.e), f0.A, f0.n, f0.c⟩ : Qf).cells 26))
      have HR9 := Lib.hid (HR7.out.below (((Below.refl w7.heap.size w7).alloc (Nat.le_refl _) (.cells p.cells 26)).alloc (by simp) (.cells (⟨f0.t, f0.b, f0.f, f0.tid, f0.seq, f0.r, f0.m, (!f0.e), f0.A, f0.n, f0.c⟩ : Qf).cells 26)))
      have HX9 := Lib.hid (HX.out.below (HB0.out.trans ((HB4.out.trans (HBw9.out.mono HB4.out.size)).mono HB0.out.size)))
      go_wp2_with (first
        | (refine wpList_store_row rfl 26 (.tmp 10) (.tmp 63) rfl w7.heap.size p.cells rfl rfl 26 Go.Proofs.YtogcpommidfmnaaDoor.q0.cells (heap_alloc_last _ _) size26 rfl (Qf.oneCell _) ?_; rw [World.setRow_alloc_new])
        | (refine wpList_load_row rfl 26 (.tmp 1) rfl w.heap.size rfl 26 f0.cells (0, 0) _ HG8.out Tryd.underlying26 rfl size26 ?_)
        | (refine wpList_store_row rfl 26 (.tmp 12) (.tmp 65) rfl (w7.heap.size + 1) f0.cells rfl rfl 26 Go.Proofs.YtogcpommidfmnaaDoor.q0.cells (HFA.out _) size26 rfl (Qf.oneCell _) ?_; rw [HSA.out])
        | (refine wpList_store_into (by rfl) 4 (.tmp 70) (.tmp 69) rfl (w7.heap.size + 1) 22 (.bool (!f0.e)) rfl rfl rfl 26 f0.cells (⟨f0.t, f0.b, f0.f, f0.tid, f0.seq, f0.r, f0.m, (!f0.e), f0.A, f0.n, f0.c⟩ : Qf).cells (HFA.out _) (by kernel_rfl) (show 22 < 24 by decide) rfl ?_; rw [HSA.out])
        | (refine wpList_load_if (by rfl) 26 (.tmp 10) rfl w7.heap.size rfl 26 p.cells (0, 0) _ HP9.out Tryd.underlying26 rfl size26 ?_)
        | (refine wpList_load_if (by rfl) 26 (.tmp 12) rfl (w7.heap.size + 1) rfl 26 (⟨f0.t, f0.b, f0.f, f0.tid, f0.seq, f0.r, f0.m, (!f0.e), f0.A, f0.n, f0.c⟩ : Qf).cells (0, 0) _ HF9.out Tryd.underlying26 rfl size26 ?_))
      refine (sameQ_any p (⟨f0.t, f0.b, f0.f, f0.tid, f0.seq, f0.r, f0.m, (!f0.e), f0.A, f0.n, f0.c⟩ : Qf) xs xs _ (by rw [HPA.out.1, HPA.out.2]; exact (by have := HR9.out; rwa [show 26 + f0.n - 26 = f0.n by omega] at this ⊢)) HX9.out).mono ?_
      rintro e w10 ⟨rfl, hB⟩
      rw [HSQ.out]
      have HBwA := Lib.hid (HBw9.out.trans (hB.mono HBw9.out.size))
      clear hB c22 hlt7
      go_wp2
      go_roundw
      case rel => exact ⟨2+1, by simp, by go_num, HBwA.out⟩
      case measure => simp [intOf]
    · go_wp2
      go_ret
      exact ⟨rfl, HB0.out.trans (HBr.out.mono HB0.out.size)⟩

end Go.Proofs.YtogcpommidfmnaaDoor.qosBits
