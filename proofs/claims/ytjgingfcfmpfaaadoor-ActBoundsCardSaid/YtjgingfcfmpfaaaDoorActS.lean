/-
  CONTRACTS of muezzinref.SameAdd, SameDel.
-/
import Derived.Test.YtjgingfcfmpfaaaDoorActA
namespace Go.Proofs.YtjgingfcfmpfaaaDoor
open Go.ChangeShapes Go.WideShapes Go.ChangeAt Go.RowKit
set_option linter.unusedVariables false
set_option linter.unusedSimpArgs false

def sameAd (q p : Adf) : Bool := sameB q.t.l p.t.l && sameB q.f.l p.f.l && sameB q.b.l p.b.l && q.ans == p.ans && q.tok == p.tok && q.tid == p.tid && q.size == p.size && q.tmo == p.tmo && q.seq == p.seq && q.st == p.st
def sameDl (q p : Dlf) : Bool := sameB q.t.l p.t.l && sameB q.f.l p.f.l && sameB q.b.l p.b.l && q.mine == p.mine && q.tid == p.tid && q.rs == p.rs
theorem A6.eq_of {a b : A6} (h : sameB a.l b.l = true) : a = b := by
  obtain ⟨a0, a1, a2, a3, a4, a5⟩ := a
  obtain ⟨b0, b1, b2, b3, b4, b5⟩ := b
  simp [sameB, A6.l] at h
  obtain ⟨rfl, rfl, rfl, rfl, rfl, rfl⟩ := h
  rfl
theorem sameAd_refl (q : Adf) : sameAd q q = true := by simp [sameAd, sameB]
theorem sameDl_refl (q : Dlf) : sameDl q q = true := by simp [sameDl, sameB]
theorem sameAd_eq {q p : Adf} (h : sameAd q p = true) : q = p := by
  simp only [sameAd, Bool.and_eq_true, beq_iff_eq] at h
  obtain ⟨⟨⟨⟨⟨⟨⟨⟨⟨h1, h2⟩, h3⟩, h4⟩, h5⟩, h6⟩, h7⟩, h8⟩, h9⟩, h10⟩ := h
  have e1 := A6.eq_of h1
  have e2 := A6.eq_of h2
  have e3 := A6.eq_of h3
  obtain ⟨t, f, b, ans, tok, tid, size, tmo, seq, st⟩ := q
  obtain ⟨t', f', b', ans', tok', tid', size', tmo', seq', st'⟩ := p
  simp at e1 e2 e3 h4 h5 h6 h7 h8 h9 h10
  subst e1 e2 e3 h4 h5 h6 h7 h8 h9 h10
  rfl

set_option maxRecDepth 100000 in
set_option maxHeartbeats 8000000 in
theorem sameAdd_any (q p : Adf) (w : World) :
    Calls Tryd.prog 18 #[q.val, p.val] w fun e w' => e = .returned (.bool (sameAd q p)) ∧ Below w.heap.size w w' := by
  have HB := Lib.hid (((Below.refl w.heap.size w).alloc (Nat.le_refl _) (.cells q.cells 25)).alloc (by simp) (.cells p.cells 25))
  have HU := Lib.hid (show sameAd q p = (sameB q.t.l p.t.l && sameB q.f.l p.f.l && sameB q.b.l p.b.l && q.ans == p.ans && q.tok == p.tok && q.tid == p.tid && q.size == p.size && q.tmo == p.tmo && q.seq == p.seq && q.st == p.st) from rfl)
  generalize sameAd q p = res at HU ⊢
  go_enter Tryd.func18, Tryd.ntmps18
  go_wp2_with (fail)
  refine (sameAddr_any q.t p.t _).mono ?_
  rintro e w1 ⟨rfl, hB⟩
  cases hs1 : sameB q.t.l p.t.l
  · have HB1 := Lib.hid hB
    clear hB
    have HU2 := Lib.hid (show res = false by rw [HU.out, hs1]; simp)
    go_wp2
    go_ret
    exact ⟨ret_b HU2.out, HB.out.trans (HB1.out.mono (by simp; omega))⟩
  have HB1 := Lib.hid hB
  clear hB
  obtain ⟨hc, hf⟩ := bcell HB1.out
  have hz : w.heap.size + 1 < w1.heap.size := by have := HB1.out.size; simp at this; omega
  clear hf
  simp only [World.size_alloc] at hc
  go_wp2_with (fail)
  refine (sameAddr_any q.f p.f _).mono ?_
  rintro e w2 ⟨rfl, hB⟩
  cases hs2 : sameB q.f.l p.f.l
  · have HB2 := Lib.hid (HB1.out.trans (hB.mono HB1.out.size))
    clear hB
    have HU2 := Lib.hid (show res = false by rw [HU.out, hs1, hs2]; simp)
    go_wp2
    go_ret
    exact ⟨ret_b HU2.out, HB.out.trans (HB2.out.mono (by simp; omega))⟩
  have HB2 := Lib.hid (HB1.out.trans (hB.mono HB1.out.size))
  clear hB hc hz
  obtain ⟨hc, hf⟩ := bcell HB2.out
  have hz : w.heap.size + 1 < w2.heap.size := by have := HB2.out.size; simp at this; omega
  clear hf
  simp only [World.size_alloc] at hc
  go_wp2_with (fail)
  refine (sameAddr_any q.b p.b _).mono ?_
  rintro e w3 ⟨rfl, hB⟩
  cases hs3 : sameB q.b.l p.b.l
  · have HB3 := Lib.hid (HB2.out.trans (hB.mono HB2.out.size))
    clear hB
    have HU2 := Lib.hid (show res = false by rw [HU.out, hs1, hs2, hs3]; simp)
    go_wp2
    go_ret
    exact ⟨ret_b HU2.out, HB.out.trans (HB3.out.mono (by simp; omega))⟩
  have HB3 := Lib.hid (HB2.out.trans (hB.mono HB2.out.size))
  clear hB hc hz
  obtain ⟨hc, hf⟩ := bcell HB3.out
  have hz : w.heap.size + 1 < w3.heap.size := by have := HB3.out.size; simp at this; omega
  clear hf
  simp only [World.size_alloc] at hc
  cases hi0 : (q.ans == p.ans)
  · have HU2 := Lib.hid (show res = false by rw [HU.out, hs1, hs2, hs3, hi0]; simp)
    go_wp2
    go_ret
    exact ⟨ret_b HU2.out, HB.out.trans (HB3.out.mono (by simp; omega))⟩
  cases hi1 : (q.tok == p.tok)
  · have HU2 := Lib.hid (show res = false by rw [HU.out, hs1, hs2, hs3, hi0, hi1]; simp)
    go_wp2
    go_ret
    exact ⟨ret_b HU2.out, HB.out.trans (HB3.out.mono (by simp; omega))⟩
  cases hi2 : (q.tid == p.tid)
  · have HU2 := Lib.hid (show res = false by rw [HU.out, hs1, hs2, hs3, hi0, hi1, hi2]; simp)
    go_wp2
    go_ret
    exact ⟨ret_b HU2.out, HB.out.trans (HB3.out.mono (by simp; omega))⟩
  cases hi3 : (q.size == p.size)
  · have HU2 := Lib.hid (show res = false by rw [HU.out, hs1, hs2, hs3, hi0, hi1, hi2, hi3]; simp)
    go_wp2
    go_ret
    exact ⟨ret_b HU2.out, HB.out.trans (HB3.out.mono (by simp; omega))⟩
  cases hi4 : (q.tmo == p.tmo)
  · have HU2 := Lib.hid (show res = false by rw [HU.out, hs1, hs2, hs3, hi0, hi1, hi2, hi3, hi4]; simp)
    go_wp2
    go_ret
    exact ⟨ret_b HU2.out, HB.out.trans (HB3.out.mono (by simp; omega))⟩
  cases hi5 : (q.seq == p.seq)
  · have HU2 := Lib.hid (show res = false by rw [HU.out, hs1, hs2, hs3, hi0, hi1, hi2, hi3, hi4, hi5]; simp)
    go_wp2
    go_ret
    exact ⟨ret_b HU2.out, HB.out.trans (HB3.out.mono (by simp; omega))⟩
  have HU2 := Lib.hid (show res = (q.st == p.st) by rw [HU.out, hs1, hs2, hs3, hi0, hi1, hi2, hi3, hi4, hi5]; simp)
  go_wp2
  go_ret
  exact ⟨ret_b HU2.out, HB.out.trans (HB3.out.mono (by simp; omega))⟩

set_option maxRecDepth 100000 in
set_option maxHeartbeats 8000000 in
theorem sameDel_any (q p : Dlf) (w : World) :
    Calls Tryd.prog 19 #[q.val, p.val] w fun e w' => e = .returned (.bool (sameDl q p)) ∧ Below w.heap.size w w' := by
  have HB := Lib.hid (((Below.refl w.heap.size w).alloc (Nat.le_refl _) (.cells q.cells 27)).alloc (by simp) (.cells p.cells 27))
  have HU := Lib.hid (show sameDl q p = (sameB q.t.l p.t.l && sameB q.f.l p.f.l && sameB q.b.l p.b.l && q.mine == p.mine && q.tid == p.tid && q.rs == p.rs) from rfl)
  generalize sameDl q p = res at HU ⊢
  go_enter Tryd.func19, Tryd.ntmps19
  go_wp2_with (fail)
  refine (sameAddr_any q.t p.t _).mono ?_
  rintro e w1 ⟨rfl, hB⟩
  cases hs1 : sameB q.t.l p.t.l
  · have HB1 := Lib.hid hB
    clear hB
    have HU2 := Lib.hid (show res = false by rw [HU.out, hs1]; simp)
    go_wp2
    go_ret
    exact ⟨ret_b HU2.out, HB.out.trans (HB1.out.mono (by simp; omega))⟩
  have HB1 := Lib.hid hB
  clear hB
  obtain ⟨hc, hf⟩ := bcell HB1.out
  have hz : w.heap.size + 1 < w1.heap.size := by have := HB1.out.size; simp at this; omega
  clear hf
  simp only [World.size_alloc] at hc
  go_wp2_with (fail)
  refine (sameAddr_any q.f p.f _).mono ?_
  rintro e w2 ⟨rfl, hB⟩
  cases hs2 : sameB q.f.l p.f.l
  · have HB2 := Lib.hid (HB1.out.trans (hB.mono HB1.out.size))
    clear hB
    have HU2 := Lib.hid (show res = false by rw [HU.out, hs1, hs2]; simp)
    go_wp2
    go_ret
    exact ⟨ret_b HU2.out, HB.out.trans (HB2.out.mono (by simp; omega))⟩
  have HB2 := Lib.hid (HB1.out.trans (hB.mono HB1.out.size))
  clear hB hc hz
  obtain ⟨hc, hf⟩ := bcell HB2.out
  have hz : w.heap.size + 1 < w2.heap.size := by have := HB2.out.size; simp at this; omega
  clear hf
  simp only [World.size_alloc] at hc
  go_wp2_with (fail)
  refine (sameAddr_any q.b p.b _).mono ?_
  rintro e w3 ⟨rfl, hB⟩
  cases hs3 : sameB q.b.l p.b.l
  · have HB3 := Lib.hid (HB2.out.trans (hB.mono HB2.out.size))
    clear hB
    have HU2 := Lib.hid (show res = false by rw [HU.out, hs1, hs2, hs3]; simp)
    go_wp2
    go_ret
    exact ⟨ret_b HU2.out, HB.out.trans (HB3.out.mono (by simp; omega))⟩
  have HB3 := Lib.hid (HB2.out.trans (hB.mono HB2.out.size))
  clear hB hc hz
  obtain ⟨hc, hf⟩ := bcell HB3.out
  have hz : w.heap.size + 1 < w3.heap.size := by have := HB3.out.size; simp at this; omega
  clear hf
  simp only [World.size_alloc] at hc
  cases hi0 : (q.mine == p.mine)
  · have HU2 := Lib.hid (show res = false by rw [HU.out, hs1, hs2, hs3, hi0]; simp)
    go_wp2
    go_ret
    exact ⟨ret_b HU2.out, HB.out.trans (HB3.out.mono (by simp; omega))⟩
  cases hi1 : (q.tid == p.tid)
  · have HU2 := Lib.hid (show res = false by rw [HU.out, hs1, hs2, hs3, hi0, hi1]; simp)
    go_wp2
    go_ret
    exact ⟨ret_b HU2.out, HB.out.trans (HB3.out.mono (by simp; omega))⟩
  have HU2 := Lib.hid (show res = (q.rs == p.rs) by rw [HU.out, hs1, hs2, hs3, hi0, hi1]; simp)
  go_wp2
  go_ret
  exact ⟨ret_b HU2.out, HB.out.trans (HB3.out.mono (by simp; omega))⟩
end Go.Proofs.YtjgingfcfmpfaaaDoor
