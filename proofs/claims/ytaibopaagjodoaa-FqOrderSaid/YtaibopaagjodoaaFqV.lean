/-
  FQ's QUEUE IN A LAW: all of it in new memory; a Put, a Take of it; zero bytes; the maths of one flow alone (FqFresh).
-/
import Derived.Test.YtaibopaagjodoaaFqU
import Derived.Test.YtaibopaagjodoaaBytesQ
namespace Go.Proofs.Ytaibopaagjodoaa
open Go.ChangeShapes Go.WideShapes Go.ChangeAt Go.RowKit Go.Deep
set_option linter.unusedVariables false
set_option linter.unusedSimpArgs false

/-- a queue all of whose memory is newer than w0. -/
structure QW (bk : Int → Nat) (w0 : World) (x : Rq) (T : Nat → Prop) (w : World) (V : Nat → Value) (q : Qu) : Prop where
  is : IsCq T w x V q
  inv : InvQ bk q
  few : FewC q
  bel : Below w0.heap.size w0 w
  new : ∀ k, FootC x V k → w0.heap.size ≤ k
section
variable {bk : Int → Nat} {w0 w w' : World} {x : Rq} {T T' : Nat → Prop} {V V' : Nat → Value} {q q' : Qu}
theorem QW.quiet (h : QW bk w0 x T w V q) (hb : Below w.heap.size w w') : QW bk w0 x T w' V q := ⟨h.is.quiet hb, h.inv, h.few, h.bel.trans (hb.mono h.bel.size), h.new⟩
theorem QW.call (h : QW bk w0 x T w V q) (hQ : IsCq T' w' x V' q') (hC : CqS T w x V T' w' V') (hI : InvQ bk q') (hF : FewC q') : QW bk w0 x T' w' V' q' :=
  ⟨hQ, hI, hF, h.bel.trans (hC.only.below (fun i hi e => by have := h.new i e; omega) h.bel.size), fun k hk => by
    rcases hC.fresh k hk with h1 | h1
    · exact h.new k h1
    · exact Nat.le_trans h.bel.size h1⟩
theorem QW.start {sd : BitVec 32} {tg iv : Int} (hw : Below w0.heap.size w0 w) (hQ : IsCq (fun _ => False) w' ⟨w.heap.size, uv sd, tg, iv⟩ VZ quZ) (hB : Below w.heap.size w w') : QW bk w0 ⟨w.heap.size, uv sd, tg, iv⟩ (fun _ => False) w' VZ quZ :=
  ⟨hQ, inv_Z _, few_quZ, hw.trans (hB.mono hw.size), fun k hk => by
    rcases hk with e | ⟨j, hj, e⟩
    · have : k = w.heap.size := e
      rw [this]; exact hw.size
    · cases e⟩
end
theorem qput {sd : BitVec 32} {w0 w : World} {x : Rq} {T : Nat → Prop} {V : Nat → Value} {q : Qu} (h : QW (bkQ sd) w0 x T w V q) (hsd : x.seed = uv sd) (p : Pk) (A : Option Addr) (m cp : Nat) (hb : RowB .u8 w A m p.body) (hm : m ≤ 1000000)
    (hf : 0 ≤ p.flow ∧ p.flow ≤ 4294967295) (hat : 0 ≤ p.at_ ∧ p.at_ ≤ 4503599627370496) (hl : (q.fl (bkQ sd p.flow)).pk.length < 1000) :
    Calls Try.prog 14 #[.pointer (some ⟨x.g, 0, none⟩), pkV p (.slice A m cp)] w fun e w' => e = .returned (.int .i64 (bkQ sd p.flow : Nat)) ∧ ∃ T' V', QW (bkQ sd) w0 x T' w' V' (putQ (bkQ sd) q p) ∧ CqS T w x V T' w' V' := by
  have hln := lists_len h.inv
  rw [List.length_append] at hln
  refine (put_any sd T w x V q h.is hsd p A m cp hb hm hf (fun b hb => by have := h.few.len b hb; omega) (fun b hb y hy => (h.few.el b hb y hy).2.2) (by omega) (by omega) h.inv.lt).mono ?_
  rintro e w' ⟨rfl, T', V', hQ, hC⟩
  exact ⟨rfl, T', V', h.call hQ hC (inv_put (bkQ_lt sd) h.inv) (few_put (bkQ_lt sd _) h.few hl ⟨hat.1, hat.2, by have := hb.len; omega⟩), hC⟩
/-- what a taking in a law answers. -/
def TookE (w w' : World) (r : Option Pk) (late v : Value) (e : Ending) : Prop :=
  (r = none ∧ v = .slice none 0 0 ∧ e = .returned (.tuple #[pkV pk00.1 v, late, .bool false])) ∨
  ∃ p, r = some p ∧ e = .returned (.tuple #[pkV p v, late, .bool true]) ∧ OwnV w' w.heap.size v p.body
theorem qtake {bk : Int → Nat} (hbk : ∀ f, bk f < 16) {w0 w : World} {x : Rq} {T : Nat → Prop} {V : Nat → Value} {q : Qu} (h : QW bk w0 x T w V q) (t : Int) (ht0 : 0 ≤ t) (htM : t + 1073741824 ≤ 4503599627370496)
    (r : Option Pk) (ds : List Pk) (q' : Qu) (hT : Takes ⟨t, clampR x.tg 0 1073741824, clampR x.iv 0 1073741824⟩ q [] r ds q') :
    Calls Try.prog 17 #[.pointer (some ⟨x.g, 0, none⟩), .int .i64 t] w fun e w' => ∃ V' late T2 v, QW bk w0 x T w' V' q' ∧ CqS T w x V T w' V' ∧ OwnP T2 w' w.heap.size late ds ∧ (∀ k, T2 k → w.heap.size ≤ k ∧ k < w'.heap.size) ∧
      (∀ k, FootC x V' k → late.ownBlock ≠ some k ∧ ¬ T2 k ∧ v.ownBlock ≠ some k) ∧ (∀ k, v.ownBlock = some k → ¬ T2 k ∧ late.ownBlock ≠ some k) ∧ TookE w w' r late v e := by
  refine (take_any bk hbk T w x V q h.is h.inv h.few t ht0 htM r ds q' hT).mono ?_
  rintro e w' ⟨V', late, T2, v, hQ, hC, hO, hT2, hap, hE⟩
  refine ⟨V', late, T2, v, h.call hQ hC (takes_keep hT h.inv).1 (takes_few hT ht0 htM h.inv h.few), hC, hO, hT2, hap, ?_, ?_⟩
  · rcases hE with ⟨-, rfl, -⟩ | ⟨p, -, -, -, h5⟩
    · intro k hk; cases hk
    · exact h5
  · rcases hE with ⟨e1, e2, e3⟩ | ⟨p, e1, e2, e3, -⟩
    · exact .inl ⟨e1, e2, e3⟩
    · exact .inr ⟨p, e1, e2, e3⟩
theorem TookE.form {w w' : World} {r : Option Pk} {late v : Value} {e : Ending} (h : TookE w w' r late v e) : ∃ p0 A m c b, v = .slice A m c ∧ e = .returned (.tuple #[pkV p0 v, late, .bool b]) := by
  rcases h with ⟨-, rfl, rfl⟩ | ⟨p, -, rfl, ho⟩
  · exact ⟨_, none, 0, 0, _, rfl, rfl⟩
  · obtain ⟨A, c, rfl, -⟩ := owns_form ho
    exact ⟨p, A, _, c, _, rfl, rfl⟩
theorem TookE.some_ {w w' : World} {p : Pk} {late v : Value} {e : Ending} (h : TookE w w' (some p) late v e) : ∃ A c, v = .slice A p.body.length c ∧ e = .returned (.tuple #[pkV p v, late, .bool true]) ∧ OwnV w' w.heap.size v p.body := by
  rcases h with ⟨h0, -⟩ | ⟨q, h0, rfl, ho⟩
  · cases h0
  · cases h0
    obtain ⟨A, c, rfl, -⟩ := owns_form ho
    exact ⟨A, c, rfl, rfl, ho⟩
/-! ### zero bytes -/
def zer (n : Nat) : List Int := List.replicate n 0
theorem zer_len (n : Nat) : (zer n).length = n := by simp [zer]
theorem zer_row {w w' : World} {n : Nat} {g : Nat} (h : w'.ownsRow w.heap.size 5 1 (.slice (some ⟨g, 0, none⟩) n n) n (madeCells (Value.int .u8 0).cells (n * 1)).toList) : RowB .u8 w' (some ⟨g, 0, none⟩) n (zer n) := by
  have e : (madeCells (Value.int .u8 0).cells (n * 1)).toList = (zer n).map (Value.int .u8) := by
    unfold zer
    rw [Nat.mul_one, List.map_replicate]; exact toList_madeCells_one _ _
  rw [e] at h
  have hO : OwnB w' w.heap.size 5 .u8 g n n (zer n) := h
  refine hO.row fun i hi => ?_
  have : (zer n).getD i 0 = 0 := by simp [zer, List.getD, hi]
  rw [this]
  exact ⟨by decide, by decide⟩

/-! ### one flow alone -/
/-- it is the only one that is listed. -/
def Only0 (b : Nat) (q : Qu) : Prop := (q.fresh = [b] ∧ q.elder = []) ∨ (q.fresh = [] ∧ q.elder = [b])
theorem only0_first {b : Nat} {q : Qu} (h : Only0 b q) : ∃ nw, firstQ q = some (b, nw) := by
  rcases h with ⟨h1, h2⟩ | ⟨h1, h2⟩
  · exact ⟨true, by unfold firstQ; rw [h1]⟩
  · exact ⟨false, by unfold firstQ; rw [h1, h2]⟩
theorem only0_turn {b : Nat} {q : Qu} (h : Only0 b q) : Only0 b (turnQ q b) := by
  rcases h with ⟨h1, h2⟩ | ⟨h1, h2⟩
  · right
    unfold turnQ
    rw [h1, h2]
    simp [delL]
  · right
    unfold turnQ
    rw [h1, h2]
    simp [delL]
/-- the next one of it, whole. -/
theorem one_take {P : Pl} {b : Nat} {q : Qu} {ds : List Pk} {o : Option Pk} {ds' : List Pk} {q' : Qu} (h : Takes P q ds o ds' q') : ∀ {p : Pk} {r : List Pk}, Only0 b q → CalmF P (q.fl b) → (q.fl b).pk = p :: r → 300 ≤ p.body.length → (q.fl b).df ≤ 300 →
    o = some p ∧ ds' = ds ∧ Only0 b q' ∧ (q'.fl b).pk = r ∧ (q'.fl b).df ≤ 0 ∧ (q'.fl b).cd.on = false ∧ ∀ k, k ≠ b → q'.fl k = q.fl k := by
  induction h with
  | none h1 =>
    intro p r h0 _ _ _ _
    obtain ⟨nw, h2⟩ := only0_first h0
    rw [h1] at h2; cases h2
  | @turn q ds c nw o ds' q' h1 hd ht ih =>
    intro p r h0 hc hp hb hdf
    obtain ⟨nw', h2⟩ := only0_first h0
    rw [h1] at h2; cases h2
    have e1 : ((turnQ q b).fl b).pk = (q.fl b).pk ∧ ((turnQ q b).fl b).cd = (q.fl b).cd ∧ ((turnQ q b).fl b).df = (q.fl b).df + 300 := by simp [turnQ, setF_same]
    obtain ⟨i1, i2, i3, i4, i5, i6, i7⟩ := ih (p := p) (r := r) (only0_turn h0) ⟨by rw [e1.2.1]; exact hc.1, by rw [e1.1]; exact hc.2⟩ (by rw [e1.1]; exact hp) hb (by rw [e1.2.2]; omega)
    refine ⟨i1, i2, i3, i4, i5, i6, fun k hk => ?_⟩
    rw [i7 k hk]
    simp [turnQ, setF_other _ _ hk]
  | @gone q ds c nw cd n o ds' q' h1 hd hp' ht ih =>
    intro p r h0 hc hp hb hdf
    obtain ⟨nw', h2⟩ := only0_first h0
    rw [h1] at h2; cases h2
    rw [pull_calmF hc hp] at hp'
    cases hp'
  | @took q ds c nw cd n h1 hd hp' =>
    intro p r h0 hc hp hb hdf
    obtain ⟨nw', h2⟩ := only0_first h0
    rw [h1] at h2; cases h2
    rw [pull_calmF hc hp] at hp'
    simp only [Prod.mk.injEq, and_true] at hp'
    obtain ⟨rfl, rfl⟩ := hp'
    refine ⟨by rw [hp]; rfl, by simp, h0, by rw [took_pk hp], by rw [took_pk hp]; dsimp only; omega, by rw [took_pk hp]; rfl, fun k hk => took_other hk⟩
end Go.Proofs.Ytaibopaagjodoaa
