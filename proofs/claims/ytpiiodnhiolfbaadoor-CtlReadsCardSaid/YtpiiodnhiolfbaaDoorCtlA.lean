/-
  CONTROL FRAMES AS VALUES OF THEIR PARTS; contracts of the small functions of package ctl, and of the reference's kind and Kind.
-/
import Derived.Test.YtpiiodnhiolfbaaDoorRefN
namespace Go.Proofs.YtpiiodnhiolfbaaDoor
open Go.ChangeShapes Go.WideShapes Go.ChangeAt Go.RowKit
set_option linter.unusedVariables false
set_option linter.unusedSimpArgs false

/-- a Bar's parts; an Ack's; a Poll's. -/
structure Brf where
  (t f : A6)
  (tid seq : Int)
structure Akf where
  (t f : A6)
  (tid seq map : Int)
structure Plf where
  (aid : Int)
  (b f : A6)
abbrev Brf.cells (q : Brf) : Array Value := #[.int .u8 q.t.x0, .int .u8 q.t.x1, .int .u8 q.t.x2, .int .u8 q.t.x3, .int .u8 q.t.x4, .int .u8 q.t.x5,
  .int .u8 q.f.x0, .int .u8 q.f.x1, .int .u8 q.f.x2, .int .u8 q.f.x3, .int .u8 q.f.x4, .int .u8 q.f.x5, .int .i64 q.tid, .int .i64 q.seq]
abbrev Brf.val (q : Brf) : Value := .agg q.cells
abbrev Akf.cells (q : Akf) : Array Value := #[.int .u8 q.t.x0, .int .u8 q.t.x1, .int .u8 q.t.x2, .int .u8 q.t.x3, .int .u8 q.t.x4, .int .u8 q.t.x5,
  .int .u8 q.f.x0, .int .u8 q.f.x1, .int .u8 q.f.x2, .int .u8 q.f.x3, .int .u8 q.f.x4, .int .u8 q.f.x5, .int .i64 q.tid, .int .i64 q.seq, .int .u64 q.map]
abbrev Akf.val (q : Akf) : Value := .agg q.cells
abbrev Plf.cells (q : Plf) : Array Value := #[.int .i64 q.aid, .int .u8 q.b.x0, .int .u8 q.b.x1, .int .u8 q.b.x2, .int .u8 q.b.x3, .int .u8 q.b.x4, .int .u8 q.b.x5,
  .int .u8 q.f.x0, .int .u8 q.f.x1, .int .u8 q.f.x2, .int .u8 q.f.x3, .int .u8 q.f.x4, .int .u8 q.f.x5]
abbrev Plf.val (q : Plf) : Value := .agg q.cells
theorem Brf.oneCell (q : Brf) : q.cells.all (·.oneCell') = true := by simp [Value.oneCell']
theorem Akf.oneCell (q : Akf) : q.cells.all (·.oneCell') = true := by simp [Value.oneCell']
theorem Plf.oneCell (q : Plf) : q.cells.all (·.oneCell') = true := by simp [Value.oneCell']
theorem sizeBar : (Tryd.prog.info? 25).map (·.size) = some 14 := by kernel_rfl
theorem sizeAck : (Tryd.prog.info? 28).map (·.size) = some 15 := by kernel_rfl
theorem sizePoll : (Tryd.prog.info? 30).map (·.size) = some 13 := by kernel_rfl

theorem ret_vv {a b : Value} (h : b = a) : Ending.returned a = .returned b := by rw [h]

/-- an identifier and a number may be. -/
def okTS (tid seq : Int) : Bool := decide (0 ≤ tid) && decide (tid < 8) && decide (0 ≤ seq) && decide (seq < 4096)
theorem okTS_iff (tid seq : Int) : okTS tid seq = true ↔ 0 ≤ tid ∧ tid < 8 ∧ 0 ≤ seq ∧ seq < 4096 := by simp [okTS, and_assoc]
def okAID (a : Int) : Bool := decide (1 ≤ a) && decide (a ≤ 2007)
theorem okAID_iff (a : Int) : okAID a = true ↔ 1 ≤ a ∧ a ≤ 2007 := by simp [okAID]

set_option maxRecDepth 100000 in
set_option maxHeartbeats 4000000 in
theorem inRange_any (tid seq : Int) (w : World) :
    Calls Tryd.prog 29 #[.int .i64 tid, .int .i64 seq] w fun e w' => e = .returned (.bool (okTS tid seq)) ∧ w = w' := by
  have HU := Lib.hid (show okTS tid seq = (decide (0 ≤ tid) && decide (tid < 8) && decide (0 ≤ seq) && decide (seq < 4096)) from rfl)
  generalize okTS tid seq = r at *
  cases h0 : decide (0 ≤ tid)
  · have HV := Lib.hid (show r = false by rw [HU.out, h0]; simp)
    go_enter Tryd.func29, Tryd.ntmps29
    go_wp2
    go_ret
    exact ⟨ret_b HV.out, rfl⟩
  cases h1 : decide (tid < 8)
  · have HV := Lib.hid (show r = false by rw [HU.out, h1]; simp)
    go_enter Tryd.func29, Tryd.ntmps29
    go_wp2
    go_ret
    exact ⟨ret_b HV.out, rfl⟩
  cases h2 : decide (0 ≤ seq)
  · have HV := Lib.hid (show r = false by rw [HU.out, h2]; simp)
    go_enter Tryd.func29, Tryd.ntmps29
    go_wp2
    go_ret
    exact ⟨ret_b HV.out, rfl⟩
  · have HV := Lib.hid (show r = decide (seq < 4096) by rw [HU.out, h0, h1, h2]; simp)
    go_enter Tryd.func29, Tryd.ntmps29
    go_wp2
    go_ret
    exact ⟨ret_b HV.out, rfl⟩

set_option maxRecDepth 100000 in
set_option maxHeartbeats 4000000 in
theorem mayBeAID_any (a : Int) (w : World) :
    Calls Tryd.prog 31 #[.int .i64 a] w fun e w' => e = .returned (.bool (okAID a)) ∧ w = w' := by
  have HU := Lib.hid (show okAID a = (decide (1 ≤ a) && decide (a ≤ 2007)) from rfl)
  generalize okAID a = r at *
  cases h0 : decide (1 ≤ a)
  · have HV := Lib.hid (show r = false by rw [HU.out, h0]; simp)
    go_enter Tryd.func31, Tryd.ntmps31
    go_wp2
    go_ret
    exact ⟨ret_b HV.out, rfl⟩
  · have HV := Lib.hid (show r = decide (a ≤ 2007) by rw [HU.out, h0]; simp)
    go_enter Tryd.func31, Tryd.ntmps31
    go_wp2
    go_ret
    exact ⟨ret_b HV.out, rfl⟩

set_option maxHeartbeats 2000000 in
theorem twoC_own (B g n cap : Nat) (xs : List Int) (v : Int) (w : World) (hO : OwnB w B 5 .u8 g n cap xs) (hB : B ≤ w.heap.size) (h0 : 0 ≤ v) (h1 : v < 65536) (hn : n ≤ 100000) :
    Calls Tryd.prog 32 #[.slice (some ⟨g, 0, none⟩) n cap, .int .i64 v] w fun e w' => ∃ g' cap', e = .returned (.slice (some ⟨g', 0, none⟩) (n + 2) cap') ∧ OwnB w' B 5 .u8 g' (n + 2) cap' (xs ++ [v % 256, v / 256]) ∧ Below B w w' := by
  have x1 : IntKind.u8.wrap v = v % 256 := by rw [IntKind.wrap_u8]
  have x2 : IntKind.u8.wrap (v / 256) = v / 256 := IntWalk.u8_in _ ⟨by omega, by omega⟩
  have HO := Lib.hid hO
  have HZ := Lib.hid hB
  clear hO hB
  go_enter Tryd.func32, Tryd.ntmps32
  go_wp2_with (refine app_own rfl (.tmp 5) (.tmp 11) rfl B g n cap xs rfl (World.ownsRow.alloc HO.out _) ⟨w.heap.size, 0, none⟩ 2 2 [v % 256, v / 256] rfl rfl (World.news_of_block (cs := #[.int .u8 (v % 256), .int .u8 (v / 256)]) (t := 5) (fr := (0, 0)) (heap_alloc_new w _)) (by omega) (by have := HZ.out; simp; omega) ?_; intro g' cap' w' hO' hb')
  go_ret
  exact ⟨g', cap', rfl, hO'.out, ((Below.refl B w).alloc HZ.out _).trans hb'.out⟩

set_option maxRecDepth 100000 in
set_option maxHeartbeats 4000000 in
theorem number_at (b off n c : Nat) (xs : List Int) (w : World) (h : RowB .u8 w (some ⟨b, off, none⟩) n xs) (hn : 2 ≤ n) :
    Calls Tryd.prog 40 #[.slice (some ⟨b, off, none⟩) n c] w fun e w' => e = .returned (.int .i64 (xs.getD 0 0 + xs.getD 1 0 * 256)) ∧ ∃ m, w' = w.drewN m := by
  obtain ⟨b', off', e, hc⟩ := h.cells (by omega)
  cases e
  have c0 := hc 0 (by omega)
  rw [Nat.add_zero] at c0
  have c1 := hc 1 (by omega)
  obtain ⟨l0, u0⟩ := h.wf8 0 (by omega)
  obtain ⟨l1, u1⟩ := h.wf8 1 (by omega)
  clear hc h
  generalize xs.getD 0 0 = v0 at *
  generalize xs.getD 1 0 = v1 at *
  have b0 : (0 : Int) < (n : Int) := by omega
  have b1 : (1 : Int) < (n : Int) := by omega
  have x0 := IntWalk.i64_in v0 ⟨by omega, by omega⟩
  have x1 := IntWalk.i64_in v1 ⟨by omega, by omega⟩
  have x2 := IntWalk.i64_in (v1 * 256) ⟨by omega, by omega⟩
  have x3 := IntWalk.i64_in (v0 + v1 * 256) ⟨by omega, by omega⟩
  go_enter Tryd.func40, Tryd.ntmps40
  go_wp2
  go_quiet (fail)
  go_wp2
  go_ret
  exact ⟨rfl, _, rfl⟩

/-- what the first byte and the length say; 0: nothing amiss. -/
def begC (xs : List Int) (n : Nat) (k size : Int) : Nat := if 0 < n ∧ xs.getD 0 0 ≠ k then 105 else if (n : Int) < size then 101 else if size < (n : Int) then 102 else 0

set_option maxRecDepth 100000 in
set_option maxHeartbeats 4000000 in
theorem begins_any (A : Option Addr) (n c : Nat) (xs : List Int) (k size : Int) (E : Nat → Addr) (w : World) (h : RowB .u8 w A n xs) (hS : Sent w E S4) :
    Calls Tryd.prog 39 #[.slice A n c, .int .u8 k, .int .i64 size] w fun e w' => e = .returned (errV E (begC xs n k size)) ∧ w = w' := by
  have h101 := hS.at_ 101 (by decide)
  have h102 := hS.at_ 102 (by decide)
  have h105 := hS.at_ 105 (by decide)
  simp only [gOf] at h101 h102 h105
  have hle := h.le
  unfold maxLen at hle
  have HK := Lib.hid (show 0 < n → ∃ b off, A = some ⟨b, off, none⟩ ∧ w.cell? ⟨b, off, none⟩ = some (.int .u8 (xs.getD 0 0)) from fun hp => by
    obtain ⟨b, off, e, hc⟩ := h.el 0 hp
    exact ⟨b, off, e, by simpa using hc⟩)
  have HE := Lib.hid (show errV E (begC xs n k size) = if 0 < n ∧ xs.getD 0 0 ≠ k then errP (E 105) else if (n : Int) < size then errP (E 101) else if size < (n : Int) then errP (E 102) else .nilIface by
    unfold begC
    split
    · rfl
    split
    · rfl
    split
    · rfl
    · rfl)
  generalize errV E (begC xs n k size) = r at *
  generalize E 101 = e1 at *
  generalize E 102 = e2 at *
  generalize E 105 = e5 at *
  clear hS h
  cases hp : decide ((0 : Int) < (n : Int))
  · have hn : ¬0 < n := by simp at hp; omega
    have HE2 := Lib.hid (show r = if (n : Int) < size then errP e1 else if size < (n : Int) then errP e2 else .nilIface by rw [HE.out, if_neg (fun h => hn h.1)])
    clear HE HK
    cases h1 : decide ((n : Int) < size)
    · cases h2 : decide (size < (n : Int))
      · have HV := Lib.hid (show r = .nilIface by rw [HE2.out, if_neg (of_decide_eq_false h1), if_neg (of_decide_eq_false h2)])
        go_enter Tryd.func39, Tryd.ntmps39
        go_wp2
        go_ret
        exact ⟨ret_vv HV.out, rfl⟩
      · have HV := Lib.hid (show r = errP e2 by rw [HE2.out, if_neg (of_decide_eq_false h1), if_pos (of_decide_eq_true h2)])
        go_enter Tryd.func39, Tryd.ntmps39
        go_wp2
        go_ret
        exact ⟨ret_vv HV.out, rfl⟩
    · have HV := Lib.hid (show r = errP e1 by rw [HE2.out, if_pos (of_decide_eq_true h1)])
      go_enter Tryd.func39, Tryd.ntmps39
      go_wp2
      go_ret
      exact ⟨ret_vv HV.out, rfl⟩
  · have hn : 0 < n := by simp at hp; omega
    have hn' : (0 : Int) < (n : Int) := by omega
    obtain ⟨b, off, rfl, hc⟩ := HK.out hn
    clear HK
    cases hk : (xs.getD 0 0 != k)
    · have HE2 := Lib.hid (show r = if (n : Int) < size then errP e1 else if size < (n : Int) then errP e2 else .nilIface by rw [HE.out, if_neg (fun h => by simp at hk; exact h.2 hk)])
      generalize xs.getD 0 0 = v0 at *
      clear HE
      cases h1 : decide ((n : Int) < size)
      · cases h2 : decide (size < (n : Int))
        · have HV := Lib.hid (show r = .nilIface by rw [HE2.out, if_neg (of_decide_eq_false h1), if_neg (of_decide_eq_false h2)])
          go_enter Tryd.func39, Tryd.ntmps39
          go_wp2
          go_ret
          exact ⟨ret_vv HV.out, rfl⟩
        · have HV := Lib.hid (show r = errP e2 by rw [HE2.out, if_neg (of_decide_eq_false h1), if_pos (of_decide_eq_true h2)])
          go_enter Tryd.func39, Tryd.ntmps39
          go_wp2
          go_ret
          exact ⟨ret_vv HV.out, rfl⟩
      · have HV := Lib.hid (show r = errP e1 by rw [HE2.out, if_pos (of_decide_eq_true h1)])
        go_enter Tryd.func39, Tryd.ntmps39
        go_wp2
        go_ret
        exact ⟨ret_vv HV.out, rfl⟩
    · have HV := Lib.hid (show r = errP e5 by rw [HE.out, if_pos ⟨hn, by simpa using hk⟩])
      generalize xs.getD 0 0 = v0 at *
      go_enter Tryd.func39, Tryd.ntmps39
      go_wp2
      go_ret
      exact ⟨ret_vv HV.out, rfl⟩

set_option maxRecDepth 100000 in
set_option maxHeartbeats 4000000 in
theorem kind_any (A : Option Addr) (n c : Nat) (xs : List Int) (k size : Int) (w : World) (h : RowB .u8 w A n xs) :
    Calls Tryd.prog 41 #[.slice A n c, .int .u8 k, .int .i64 size] w fun e w' => e = .returned (.int .i64 (begC xs n k size)) ∧ w = w' := by
  have hle := h.le
  unfold maxLen at hle
  have HK := Lib.hid (show 0 < n → ∃ b off, A = some ⟨b, off, none⟩ ∧ w.cell? ⟨b, off, none⟩ = some (.int .u8 (xs.getD 0 0)) from fun hp => by
    obtain ⟨b, off, e, hc⟩ := h.el 0 hp
    exact ⟨b, off, e, by simpa using hc⟩)
  have HE := Lib.hid (show Value.int .i64 (begC xs n k size) = if 0 < n ∧ xs.getD 0 0 ≠ k then .int .i64 105 else if (n : Int) < size then .int .i64 101 else if size < (n : Int) then .int .i64 102 else .int .i64 0 by
    unfold begC
    split
    · rfl
    split
    · rfl
    split
    · rfl
    · rfl)
  generalize Value.int .i64 (begC xs n k size) = r at *
  clear h
  cases hp : decide ((0 : Int) < (n : Int))
  · have hn : ¬0 < n := by simp at hp; omega
    have HE2 := Lib.hid (show r = if (n : Int) < size then .int .i64 101 else if size < (n : Int) then .int .i64 102 else .int .i64 0 by rw [HE.out, if_neg (fun h => hn h.1)])
    clear HE HK
    cases h1 : decide ((n : Int) < size)
    · cases h2 : decide (size < (n : Int))
      · have HV := Lib.hid (show r = .int .i64 0 by rw [HE2.out, if_neg (of_decide_eq_false h1), if_neg (of_decide_eq_false h2)])
        go_enter Tryd.func41, Tryd.ntmps41
        go_wp2
        go_ret
        exact ⟨ret_vv HV.out, rfl⟩
      · have HV := Lib.hid (show r = .int .i64 102 by rw [HE2.out, if_neg (of_decide_eq_false h1), if_pos (of_decide_eq_true h2)])
        go_enter Tryd.func41, Tryd.ntmps41
        go_wp2
        go_ret
        exact ⟨ret_vv HV.out, rfl⟩
    · have HV := Lib.hid (show r = .int .i64 101 by rw [HE2.out, if_pos (of_decide_eq_true h1)])
      go_enter Tryd.func41, Tryd.ntmps41
      go_wp2
      go_ret
      exact ⟨ret_vv HV.out, rfl⟩
  · have hn : 0 < n := by simp at hp; omega
    have hn' : (0 : Int) < (n : Int) := by omega
    obtain ⟨b, off, rfl, hc⟩ := HK.out hn
    clear HK
    cases hk : (xs.getD 0 0 != k)
    · have HE2 := Lib.hid (show r = if (n : Int) < size then .int .i64 101 else if size < (n : Int) then .int .i64 102 else .int .i64 0 by rw [HE.out, if_neg (fun h => by simp at hk; exact h.2 hk)])
      generalize xs.getD 0 0 = v0 at *
      clear HE
      cases h1 : decide ((n : Int) < size)
      · cases h2 : decide (size < (n : Int))
        · have HV := Lib.hid (show r = .int .i64 0 by rw [HE2.out, if_neg (of_decide_eq_false h1), if_neg (of_decide_eq_false h2)])
          go_enter Tryd.func41, Tryd.ntmps41
          go_wp2
          go_ret
          exact ⟨ret_vv HV.out, rfl⟩
        · have HV := Lib.hid (show r = .int .i64 102 by rw [HE2.out, if_neg (of_decide_eq_false h1), if_pos (of_decide_eq_true h2)])
          go_enter Tryd.func41, Tryd.ntmps41
          go_wp2
          go_ret
          exact ⟨ret_vv HV.out, rfl⟩
      · have HV := Lib.hid (show r = .int .i64 101 by rw [HE2.out, if_pos (of_decide_eq_true h1)])
        go_enter Tryd.func41, Tryd.ntmps41
        go_wp2
        go_ret
        exact ⟨ret_vv HV.out, rfl⟩
    · have HV := Lib.hid (show r = .int .i64 105 by rw [HE.out, if_pos ⟨hn, by simpa using hk⟩])
      generalize xs.getD 0 0 = v0 at *
      go_enter Tryd.func41, Tryd.ntmps41
      go_wp2
      go_ret
      exact ⟨ret_vv HV.out, rfl⟩

def kindC (xs : List Int) (n : Nat) : Int := if 0 < n ∧ (xs.getD 0 0 = 132 ∨ xs.getD 0 0 = 148 ∨ xs.getD 0 0 = 164 ∨ xs.getD 0 0 = 136 ∨ xs.getD 0 0 = 208) then xs.getD 0 0 else 0
set_option maxRecDepth 100000 in
set_option maxHeartbeats 4000000 in
theorem kindC_any (A : Option Addr) (n c : Nat) (xs : List Int) (w : World) (h : RowB .u8 w A n xs) :
    Calls Tryd.prog 26 #[.slice A n c] w fun e w' => e = .returned (.int .i64 (kindC xs n)) ∧ w = w' := by
  have hle := h.le
  unfold maxLen at hle
  have HE := Lib.hid (show kindC xs n = if 0 < n ∧ (xs.getD 0 0 = 132 ∨ xs.getD 0 0 = 148 ∨ xs.getD 0 0 = 164 ∨ xs.getD 0 0 = 136 ∨ xs.getD 0 0 = 208) then xs.getD 0 0 else 0 from rfl)
  generalize kindC xs n = r at *
  rcases Nat.eq_zero_or_pos n with rfl | hp
  · have HV := Lib.hid (show Value.int .i64 r = .int .i64 0 by rw [HE.out, if_neg (fun h => absurd h.1 (by omega))])
    clear HE h
    go_enter Tryd.func26, Tryd.ntmps26
    go_wp2
    go_ret
    exact ⟨ret_vv HV.out, rfl⟩
  · obtain ⟨b, off, rfl, hc⟩ := h.el 0 hp
    rw [Nat.add_zero] at hc
    obtain ⟨l0, u0⟩ := h.wf8 0 hp
    have hn' : (0 : Int) < (n : Int) := by omega
    have hz : ((n : Int) == 0) = false := by simp; omega
    clear h
    generalize xs.getD 0 0 = v at *
    by_cases e0 : v = 132
    · subst e0
      have HV := Lib.hid (show Value.int .i64 r = .int .i64 132 by rw [HE.out, if_pos ⟨hp, by decide⟩])
      clear HE
      go_enter Tryd.func26, Tryd.ntmps26
      go_wp2
      go_ret
      exact ⟨ret_vv HV.out, rfl⟩
    have f0 : (v == 132) = false := by simpa using e0
    by_cases e1 : v = 148
    · subst e1
      have HV := Lib.hid (show Value.int .i64 r = .int .i64 148 by rw [HE.out, if_pos ⟨hp, by decide⟩])
      clear HE
      go_enter Tryd.func26, Tryd.ntmps26
      go_wp2
      go_ret
      exact ⟨ret_vv HV.out, rfl⟩
    have f1 : (v == 148) = false := by simpa using e1
    by_cases e2 : v = 164
    · subst e2
      have HV := Lib.hid (show Value.int .i64 r = .int .i64 164 by rw [HE.out, if_pos ⟨hp, by decide⟩])
      clear HE
      go_enter Tryd.func26, Tryd.ntmps26
      go_wp2
      go_ret
      exact ⟨ret_vv HV.out, rfl⟩
    have f2 : (v == 164) = false := by simpa using e2
    by_cases e3 : v = 136
    · subst e3
      have HV := Lib.hid (show Value.int .i64 r = .int .i64 136 by rw [HE.out, if_pos ⟨hp, by decide⟩])
      clear HE
      go_enter Tryd.func26, Tryd.ntmps26
      go_wp2
      go_ret
      exact ⟨ret_vv HV.out, rfl⟩
    have f3 : (v == 136) = false := by simpa using e3
    by_cases e4 : v = 208
    · subst e4
      have HV := Lib.hid (show Value.int .i64 r = .int .i64 208 by rw [HE.out, if_pos ⟨hp, by decide⟩])
      clear HE
      go_enter Tryd.func26, Tryd.ntmps26
      go_wp2
      go_ret
      exact ⟨ret_vv HV.out, rfl⟩
    have f4 : (v == 208) = false := by simpa using e4
    have HV := Lib.hid (show Value.int .i64 r = .int .i64 0 by rw [HE.out, if_neg (fun h => by rcases h.2 with h | h | h | h | h <;> first | exact e0 h | exact e1 h | exact e2 h | exact e3 h | exact e4 h)])
    clear HE e0 e1 e2 e3 e4
    go_enter Tryd.func26, Tryd.ntmps26
    go_wp2
    go_ret
    exact ⟨ret_vv HV.out, rfl⟩
set_option maxRecDepth 100000 in
set_option maxHeartbeats 4000000 in
theorem kindR_any (A : Option Addr) (n c : Nat) (xs : List Int) (w : World) (h : RowB .u8 w A n xs) :
    Calls Tryd.prog 27 #[.slice A n c] w fun e w' => e = .returned (.int .i64 (kindC xs n)) ∧ w = w' := by
  have hle := h.le
  unfold maxLen at hle
  have HE := Lib.hid (show kindC xs n = if 0 < n ∧ (xs.getD 0 0 = 132 ∨ xs.getD 0 0 = 148 ∨ xs.getD 0 0 = 164 ∨ xs.getD 0 0 = 136 ∨ xs.getD 0 0 = 208) then xs.getD 0 0 else 0 from rfl)
  generalize kindC xs n = r at *
  rcases Nat.eq_zero_or_pos n with rfl | hp
  · have HV := Lib.hid (show Value.int .i64 r = .int .i64 0 by rw [HE.out, if_neg (fun h => absurd h.1 (by omega))])
    clear HE h
    go_enter Tryd.func27, Tryd.ntmps27
    go_wp2
    go_ret
    exact ⟨ret_vv HV.out, rfl⟩
  · obtain ⟨b, off, rfl, hc⟩ := h.el 0 hp
    rw [Nat.add_zero] at hc
    obtain ⟨l0, u0⟩ := h.wf8 0 hp
    have hn' : (0 : Int) < (n : Int) := by omega
    have hz : ((n : Int) == 0) = false := by simp; omega
    clear h
    generalize xs.getD 0 0 = v at *
    by_cases e0 : v = 132
    · subst e0
      have HV := Lib.hid (show Value.int .i64 r = .int .i64 132 by rw [HE.out, if_pos ⟨hp, by decide⟩])
      clear HE
      go_enter Tryd.func27, Tryd.ntmps27
      go_wp2
      go_ret
      exact ⟨ret_vv HV.out, rfl⟩
    have f0 : (v == 132) = false := by simpa using e0
    by_cases e1 : v = 148
    · subst e1
      have HV := Lib.hid (show Value.int .i64 r = .int .i64 148 by rw [HE.out, if_pos ⟨hp, by decide⟩])
      clear HE
      go_enter Tryd.func27, Tryd.ntmps27
      go_wp2
      go_ret
      exact ⟨ret_vv HV.out, rfl⟩
    have f1 : (v == 148) = false := by simpa using e1
    by_cases e2 : v = 164
    · subst e2
      have HV := Lib.hid (show Value.int .i64 r = .int .i64 164 by rw [HE.out, if_pos ⟨hp, by decide⟩])
      clear HE
      go_enter Tryd.func27, Tryd.ntmps27
      go_wp2
      go_ret
      exact ⟨ret_vv HV.out, rfl⟩
    have f2 : (v == 164) = false := by simpa using e2
    by_cases e3 : v = 136
    · subst e3
      have HV := Lib.hid (show Value.int .i64 r = .int .i64 136 by rw [HE.out, if_pos ⟨hp, by decide⟩])
      clear HE
      go_enter Tryd.func27, Tryd.ntmps27
      go_wp2
      go_ret
      exact ⟨ret_vv HV.out, rfl⟩
    have f3 : (v == 136) = false := by simpa using e3
    by_cases e4 : v = 208
    · subst e4
      have HV := Lib.hid (show Value.int .i64 r = .int .i64 208 by rw [HE.out, if_pos ⟨hp, by decide⟩])
      clear HE
      go_enter Tryd.func27, Tryd.ntmps27
      go_wp2
      go_ret
      exact ⟨ret_vv HV.out, rfl⟩
    have f4 : (v == 208) = false := by simpa using e4
    have HV := Lib.hid (show Value.int .i64 r = .int .i64 0 by rw [HE.out, if_neg (fun h => by rcases h.2 with h | h | h | h | h <;> first | exact e0 h | exact e1 h | exact e2 h | exact e3 h | exact e4 h)])
    clear HE e0 e1 e2 e3 e4
    go_enter Tryd.func27, Tryd.ntmps27
    go_wp2
    go_ret
    exact ⟨ret_vv HV.out, rfl⟩
end Go.Proofs.YtpiiodnhiolfbaaDoor
