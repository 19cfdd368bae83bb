/-
  A [][]byte THAT CAME IN, OPENED: each of its parts takes no more than memory has.
-/
import Derived.Test.YtejdmpdbapfomaaDoorRowP
import Derived.Deep.MidRow
import Derived.OpenShut
import Derived.SizedLaws
import Derived.Lib.SmallJoins
namespace Go.Proofs.YtejdmpdbapfomaaDoor
open Go.ChangeShapes Go.WideShapes Go.ChangeAt Go.RowKit Go.Deep
set_option linter.unusedVariables false

theorem weightsAll_mem {H : Type} {P : Program} {e : TypeId} : ∀ {l : List (DataW H)} {d : DataW H} {n : Nat}, d ∈ l → n ∈ d.weights P e → n ∈ DataW.weightsAll P e l
  | x :: r, d, n, hd, hn => by
    simp only [DataW.weightsAll, List.mem_append]
    rcases List.mem_cons.1 hd with rfl | h
    · exact .inl hn
    · exact .inr (weightsAll_mem h hn)
theorem parts_sized {H : Type} {enc : TypeId × Value → H} {P : Program} {w : World} {base : Nat} {spare : Nat → Bool} {held : Bool} {t e u : TypeId} {fuel : Nat} {x : DataW H × List MemPlace}
    (ht : P.underlying t = some (.slice e)) (he : P.underlying e = some (.slice u)) (hu : P.underlying u = some (.int .u8)) (hc : P.cellsOf e = 1) (hcu : P.cellsOf u = 1) (hbu : P.bytesOf u = 1)
    {A : Option Addr} {n c : Nat} (h : DataW.trod enc P w base spare held fuel t [.slice A n c] = some x) (hz : ∀ m ∈ x.1.weights P t, m ≤ reachBytes) {xss : List (List Int)} (hR : RowP w A n xss) : ∀ p ∈ xss, p.length ≤ 140737488355328 := by
  intro p hp
  obtain ⟨i, hi, rfl⟩ := List.getElem_of_mem hp
  have hin : i < n := by have := hR.len; omega
  obtain ⟨b, off, a, m, cc, rfl, hcell, hr, -⟩ := hR.el i hin
  have e1 : xss.getD i [] = xss[i] := by simp [List.getD, hi]
  rw [← e1, hr.len]
  rcases open_slice1 ht hc h with ⟨h0, -⟩ | ⟨ad, len, cap, mm, k, V, D, Pl, h0, hb, hl, hm, hmm, hx, hel⟩
  · simp at h0
  · simp only [List.cons.injEq, and_true, Value.slice.injEq, Option.some.injEq] at h0
    obtain ⟨rfl, rfl, rfl⟩ := h0
    have hlm : n ≤ mm := by rw [hmm]; split <;> omega
    obtain ⟨hV, hD⟩ := hel i (by omega)
    have hV' : V i = .slice a m cc := by
      have h1 : (⟨b, off, none⟩ : Addr).add i = ⟨b, off + i, none⟩ := Addr.add_mid b off i
      rw [h1, hcell] at hV
      exact (Option.some.inj hV).symm
    rw [hV'] at hD
    have hmem : D i ∈ (List.range n).map D := List.mem_map.2 ⟨i, List.mem_range.2 hin, rfl⟩
    rcases open_ints he hu hcu hD with ⟨hcs, -⟩ | ⟨y, l2, c2, zs, hcs, -, hl2, -, hzl, hx2, -, -⟩
    · simp only [List.cons.injEq, and_true, Value.slice.injEq] at hcs
      omega
    · simp only [List.cons.injEq, and_true, Value.slice.injEq] at hcs
      obtain ⟨-, rfl, rfl⟩ := hcs
      have hDi : D i = .slice (lits .u8 (zs.take m)) (lits .u8 (zs.drop m)) := congrArg Prod.fst hx2
      have hw : ((lits (H := H) .u8 (zs.take m)).length + (lits (H := H) .u8 (zs.drop m)).length) * P.bytesOf u ∈ (D i).weights P e := by
        rw [hDi]; simp [DataW.weights, he]
      have hall := hz _ (by
        rw [hx]
        simp only [DataW.weights, ht]
        exact List.mem_cons_of_mem _ (List.mem_append_left _ (weightsAll_mem hmem hw)))
      have hrl : reachBytes < 140737488355328 := by decide
      have hge : m ≤ zs.length := by rw [hzl]; split <;> omega
      rw [hbu, Nat.mul_one] at hall
      simp only [lits, List.length_map, List.length_take, List.length_drop] at hall
      omega
theorem bytesU8 : Tryd.prog.bytesOf 5 = 1 := by kernel_rfl
end Go.Proofs.YtejdmpdbapfomaaDoor
