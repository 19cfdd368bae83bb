/-
  CONTRACTS of muezzinref.SameBar, SameAck, SamePoll.
-/
import Derived.Test.YtpiiodnhiolfbaaDoorCtlA
namespace Go.Proofs.YtpiiodnhiolfbaaDoor
open Go.ChangeShapes Go.WideShapes Go.ChangeAt Go.RowKit
set_option linter.unusedVariables false
set_option linter.unusedSimpArgs false

def sameW (q p : Brf) : Bool := sameB q.t.l p.t.l && sameB q.f.l p.f.l && q.tid == p.tid && q.seq == p.seq
def sameA (q p : Akf) : Bool := sameB q.t.l p.t.l && sameB q.f.l p.f.l && q.tid == p.tid && q.seq == p.seq && q.map == p.map
def sameP (q p : Plf) : Bool := q.aid == p.aid && sameB q.b.l p.b.l && sameB q.f.l p.f.l
theorem A6.eq_of {a b : A6} (h : sameB a.l b.l = true) : a = b := by
  obtain ⟨a0, a1, a2, a3, a4, a5⟩ := a
  obtain ⟨b0, b1, b2, b3, b4, b5⟩ := b
  simp [sameB, A6.l] at h
  obtain ⟨rfl, rfl, rfl, rfl, rfl, rfl⟩ := h
  rfl
theorem sameW_refl (q : Brf) : sameW q q = true := by simp [sameW, sameB]
theorem sameA_refl (q : Akf) : sameA q q = true := by simp [sameA, sameB]
theorem sameP_refl (q : Plf) : sameP q q = true := by simp [sameP, sameB]
theorem sameA_eq {q p : Akf} (h : sameA q p = true) : q = p := by
  simp only [sameA, Bool.and_eq_true, beq_iff_eq] at h
  obtain ⟨⟨⟨⟨h1, h2⟩, h3⟩, h4⟩, h5⟩ := h
  have e1 := A6.eq_of h1
  have e2 := A6.eq_of h2
  obtain ⟨t, f, tid, seq, m⟩ := q
  obtain ⟨t', f', tid', seq', m'⟩ := p
  simp at e1 e2 h3 h4 h5
  subst e1 e2 h3 h4 h5
  rfl

set_option maxRecDepth 100000 in
set_option maxHeartbeats 8000000 in
theorem sameBar_any (q p : Brf) (w : World) :
    Calls Tryd.prog 23 #[q.val, p.val] w fun e w' => e = .returned (.bool (sameW q p)) ∧ Below w.heap.size w w' := by
  have HB := Lib.hid (((Below.refl w.heap.size w).alloc (Nat.le_refl _) (.cells q.cells 25)).alloc (by simp) (.cells p.cells 25))
  have HU := Lib.hid (show sameW q p = (sameB q.t.l p.t.l && sameB q.f.l p.f.l && q.tid == p.tid && q.seq == p.seq) from rfl)
  generalize sameW q p = res at HU ⊢
  go_enter Tryd.func23, Tryd.ntmps23
  go_wp2_with (fail)
  refine (sameAddr_any q.t p.t _).mono ?_
  rintro e w1 ⟨rfl, hB⟩
  cases hs1 : sameB q.t.l p.t.l
  · have HB1 := Lib.hid hB
    clear hB
    have HU2 := Lib.hid (show res = false by rw [HU.out, hs1]; simp)
    go_wp2
    go_ret
    exact ⟨ret_b HU2.out, HB.out.trans (HB1.out.mono (by simp; omega))⟩
  have HB1 := Lib.hid hB
  clear hB
  obtain ⟨hc, hf⟩ := bcell HB1.out
  have hz : w.heap.size + 1 < w1.heap.size := by have := HB1.out.size; simp at this; omega
  clear hf
  simp only [World.size_alloc] at hc
  go_wp2_with (fail)
  refine (sameAddr_any q.f p.f _).mono ?_
  rintro e w2 ⟨rfl, hB⟩
  cases hs2 : sameB q.f.l p.f.l
  · have HB2 := Lib.hid (HB1.out.trans (hB.mono HB1.out.size))
    clear hB
    have HU2 := Lib.hid (show res = false by rw [HU.out, hs1, hs2]; simp)
    go_wp2
    go_ret
    exact ⟨ret_b HU2.out, HB.out.trans (HB2.out.mono (by simp; omega))⟩
  have HB2 := Lib.hid (HB1.out.trans (hB.mono HB1.out.size))
  clear hB hc hz
  obtain ⟨hc, hf⟩ := bcell HB2.out
  have hz : w.heap.size + 1 < w2.heap.size := by have := HB2.out.size; simp at this; omega
  clear hf
  simp only [World.size_alloc] at hc
  cases hi0 : (q.tid == p.tid)
  · have HU2 := Lib.hid (show res = false by rw [HU.out, hs1, hs2, hi0]; simp)
    go_wp2
    go_ret
    exact ⟨ret_b HU2.out, HB.out.trans (HB2.out.mono (by simp; omega))⟩
  have HU2 := Lib.hid (show res = (q.seq == p.seq) by rw [HU.out, hs1, hs2, hi0]; simp)
  go_wp2
  go_ret
  exact ⟨ret_b HU2.out, HB.out.trans (HB2.out.mono (by simp; omega))⟩

set_option maxRecDepth 100000 in
set_option maxHeartbeats 8000000 in
theorem sameAck_any (q p : Akf) (w : World) :
    Calls Tryd.prog 24 #[q.val, p.val] w fun e w' => e = .returned (.bool (sameA q p)) ∧ Below w.heap.size w w' := by
  have HB := Lib.hid (((Below.refl w.heap.size w).alloc (Nat.le_refl _) (.cells q.cells 28)).alloc (by simp) (.cells p.cells 28))
  have HU := Lib.hid (show sameA q p = (sameB q.t.l p.t.l && sameB q.f.l p.f.l && q.tid == p.tid && q.seq == p.seq && q.map == p.map) from rfl)
  generalize sameA q p = res at HU ⊢
  go_enter Tryd.func24, Tryd.ntmps24
  go_wp2_with (fail)
  refine (sameAddr_any q.t p.t _).mono ?_
  rintro e w1 ⟨rfl, hB⟩
  cases hs1 : sameB q.t.l p.t.l
  · have HB1 := Lib.hid hB
    clear hB
    have HU2 := Lib.hid (show res = false by rw [HU.out, hs1]; simp)
    go_wp2
    go_ret
    exact ⟨ret_b HU2.out, HB.out.trans (HB1.out.mono (by simp; omega))⟩
  have HB1 := Lib.hid hB
  clear hB
  obtain ⟨hc, hf⟩ := bcell HB1.out
  have hz : w.heap.size + 1 < w1.heap.size := by have := HB1.out.size; simp at this; omega
  clear hf
  simp only [World.size_alloc] at hc
  go_wp2_with (fail)
  refine (sameAddr_any q.f p.f _).mono ?_
  rintro e w2 ⟨rfl, hB⟩
  cases hs2 : sameB q.f.l p.f.l
  · have HB2 := Lib.hid (HB1.out.trans (hB.mono HB1.out.size))
    clear hB
    have HU2 := Lib.hid (show res = false by rw [HU.out, hs1, hs2]; simp)
    go_wp2
    go_ret
    exact ⟨ret_b HU2.out, HB.out.trans (HB2.out.mono (by simp; omega))⟩
  have HB2 := Lib.hid (HB1.out.trans (hB.mono HB1.out.size))
  clear hB hc hz
  obtain ⟨hc, hf⟩ := bcell HB2.out
  have hz : w.heap.size + 1 < w2.heap.size := by have := HB2.out.size; simp at this; omega
  clear hf
  simp only [World.size_alloc] at hc
  cases hi0 : (q.tid == p.tid)
  · have HU2 := Lib.hid (show res = false by rw [HU.out, hs1, hs2, hi0]; simp)
    go_wp2
    go_ret
    exact ⟨ret_b HU2.out, HB.out.trans (HB2.out.mono (by simp; omega))⟩
  cases hi1 : (q.seq == p.seq)
  · have HU2 := Lib.hid (show res = false by rw [HU.out, hs1, hs2, hi0, hi1]; simp)
    go_wp2
    go_ret
    exact ⟨ret_b HU2.out, HB.out.trans (HB2.out.mono (by simp; omega))⟩
  have HU2 := Lib.hid (show res = (q.map == p.map) by rw [HU.out, hs1, hs2, hi0, hi1]; simp)
  go_wp2
  go_ret
  exact ⟨ret_b HU2.out, HB.out.trans (HB2.out.mono (by simp; omega))⟩

set_option maxRecDepth 100000 in
set_option maxHeartbeats 8000000 in
theorem samePoll_any (q p : Plf) (w : World) :
    Calls Tryd.prog 25 #[q.val, p.val] w fun e w' => e = .returned (.bool (sameP q p)) ∧ Below w.heap.size w w' := by
  have HB := Lib.hid (((Below.refl w.heap.size w).alloc (Nat.le_refl _) (.cells q.cells 30)).alloc (by simp) (.cells p.cells 30))
  have HU := Lib.hid (show sameP q p = (q.aid == p.aid && sameB q.b.l p.b.l && sameB q.f.l p.f.l) from rfl)
  generalize sameP q p = res at HU ⊢
  cases h0 : (q.aid == p.aid)
  · have HU2 := Lib.hid (show res = false by rw [HU.out, h0]; simp)
    go_enter Tryd.func25, Tryd.ntmps25
    go_wp2
    go_ret
    exact ⟨ret_b HU2.out, HB.out⟩
  go_enter Tryd.func25, Tryd.ntmps25
  go_wp2_with (fail)
  refine (sameAddr_any q.b p.b _).mono ?_
  rintro e w1 ⟨rfl, hB⟩
  cases hs1 : sameB q.b.l p.b.l
  · have HB1 := Lib.hid hB
    clear hB
    have HU2 := Lib.hid (show res = false by rw [HU.out, h0, hs1]; simp)
    go_wp2
    go_ret
    exact ⟨ret_b HU2.out, HB.out.trans (HB1.out.mono (by simp; omega))⟩
  have HB1 := Lib.hid hB
  clear hB
  obtain ⟨hc, hf⟩ := bcell HB1.out
  have hz : w.heap.size + 1 < w1.heap.size := by have := HB1.out.size; simp at this; omega
  clear hf
  simp only [World.size_alloc] at hc
  go_wp2_with (fail)
  refine (sameAddr_any q.f p.f _).mono ?_
  rintro e w2 ⟨rfl, hB⟩
  cases hs2 : sameB q.f.l p.f.l
  · have HB2 := Lib.hid (HB1.out.trans (hB.mono HB1.out.size))
    clear hB
    have HU2 := Lib.hid (show res = false by rw [HU.out, h0, hs1, hs2]; simp)
    go_wp2
    go_ret
    exact ⟨ret_b HU2.out, HB.out.trans (HB2.out.mono (by simp; omega))⟩
  have HB2 := Lib.hid (HB1.out.trans (hB.mono HB1.out.size))
  clear hB hc hz
  obtain ⟨hc, hf⟩ := bcell HB2.out
  have hz : w.heap.size + 1 < w2.heap.size := by have := HB2.out.size; simp at this; omega
  clear hf
  simp only [World.size_alloc] at hc
  have HU2 := Lib.hid (show res = true by rw [HU.out, h0, hs1, hs2]; simp)
  go_wp2
  go_ret
  exact ⟨ret_b HU2.out, HB.out.trans (HB2.out.mono (by simp; omega))⟩
end Go.Proofs.YtpiiodnhiolfbaaDoor
