/-
  FOR FqPlays: each call on fq's queue and on the reference's, in the words of the two side by side.
-/
import Derived.Test.YtlkoleannlpflaaFqPa
import Derived.Test.YtlkoleannlpflaaFqRg
import Derived.Test.YtlkoleannlpflaaFqCn
namespace Go.Proofs.Ytlkoleannlpflaa
open Go.ChangeShapes Go.WideShapes Go.ChangeAt Go.RowKit Go.Deep
set_option linter.unusedVariables false
set_option linter.unusedSimpArgs false

def wf8 (xs : List Int) : Prop := ∀ i, i < xs.length → IntKind.u8.min ≤ xs.getD i 0 ∧ xs.getD i 0 ≤ IntKind.u8.max
theorem IsCq.wf {T : Nat → Prop} {w : World} {x : Rq} {V : Nat → Value} {q : Qu} (h : IsCq T w x V q) {b : Nat} (hb : b < 16) {p : Pk} (hp : p ∈ (q.fl b).pk) : wf8 p.body := by
  obtain ⟨l', h1, h2, h3⟩ := h.pk b hb
  rw [← h2] at hp
  obtain ⟨y, hy, rfl⟩ := List.mem_map.1 hp
  obtain ⟨a, m, c, -, hr, -⟩ := h3 y hy
  intro i hi
  exact hr.wf i (by rw [← hr.len]; exact hi)
theorem taken_mem {bk : Int → Nat} {P : Pl} {q q' : Qu} {p : Pk} {ds : List Pk} (ht : Takes P q [] (some p) ds q') (hI : InvQ bk q) : p ∈ (q.fl (bk p.flow)).pk := by
  have h := (takes_keep ht hI).2.1 (bk p.flow)
  have h1 : p ∈ outOf bk (bk p.flow) (ds ++ (some p).toList) := by unfold outOf; simp
  have h2 : p ∈ outOf bk (bk p.flow) [] ++ (q.fl (bk p.flow)).pk := by rw [← h]; exact List.mem_append_left _ h1
  simpa [outOf] using h2
def New (w w' : World) (k : Nat) : Prop := w.heap.size ≤ k ∧ k < w'.heap.size
/-- one packet, or none, as it is answered. -/
def AnsP (N : Nat → Prop) (w : World) (l : Option Pk) (p0 : Pk) (b : Bool) (v : Value) : Prop := ((l = none ∧ p0 = pk00.1 ∧ b = false) ∨ (l = some p0 ∧ b = true)) ∧ ElK N w v p0.body
section
variable {N N' S : Nat → Prop} {w w' : World} {l : Option Pk} {p p' : Pk} {b b' : Bool} {v v' : Value}
theorem AnsP.none_ (N : Nat → Prop) (w : World) : AnsP N w none pk00.1 false (.slice none 0 0) := ⟨.inl ⟨rfl, rfl, rfl⟩, ElK.nil _ _⟩
theorem AnsP.same (h : AnsP N w l p b v) (h' : AnsP N' w' l p' b' v') : p' = p ∧ b' = b := by
  rcases h.1 with ⟨e1, e2, e3⟩ | ⟨e1, e2⟩
  · rcases h'.1 with ⟨-, e5, e6⟩ | ⟨e4, -⟩
    · exact ⟨e5.trans e2.symm, e6.trans e3.symm⟩
    · rw [e1] at e4; cases e4
  · rcases h'.1 with ⟨e4, -⟩ | ⟨e4, e5⟩
    · rw [e1] at e4; cases e4
    · rw [e1] at e4; cases e4; exact ⟨rfl, e5.trans e2.symm⟩
theorem AnsP.only (h : AnsP N w l p b v) (ho : Only S w w') (hs : ∀ k, N k → ¬ S k) : AnsP N w' l p b v := ⟨h.1, h.2.only ho hs⟩
theorem AnsP.below (h : AnsP N w l p b v) (hb : Below w.heap.size w w') : AnsP N w' l p b v := ⟨h.1, h.2.below hb⟩
theorem AnsP.form (h : AnsP N w l p b v) : ∃ A m c, v = .slice A m c ∧ RowB .u8 w A m p.body := by
  obtain ⟨A, m, c, e, hr, -⟩ := h.2
  exact ⟨A, m, c, e, hr⟩
end
theorem own_blk {w : World} {B : Nat} {A : Option Addr} {n c size : Nat} {e : TypeId} {xs : List Value} (h : w.ownsRow B e size (.slice A n c) n xs) : ∀ a, A = some a → B ≤ a.block ∧ a.block < w.heap.size := fun a ha => by
  subst ha
  exact World.ownsRow.lt h a.block rfl
/-- a row of packets that is answered. -/
structure Late (T3 N : Nat → Prop) (w : World) (ds : List Pk) (late : Value) (A : Option Addr) (c : Nat) : Prop where
  eq : late = .slice A ds.length c
  row : RowP T3 w A ds
  blk : ∀ a, A = some a → N a.block
section
variable {T3 N S : Nat → Prop} {w w' : World} {ds : List Pk} {late : Value} {A : Option Addr} {c : Nat}
theorem Late.only (h : Late T3 N w ds late A c) (ho : Only S w w') (h1 : ∀ k, N k → ¬ S k) (h2 : ∀ k, T3 k → ¬ S k) : Late T3 N w' ds late A c := ⟨h.eq, RowK.only h.row ho (fun a ha => h1 _ (h.blk a ha)) h2, h.blk⟩
theorem Late.below (h : Late T3 N w ds late A c) (hb : Below w.heap.size w w') : Late T3 N w' ds late A c := ⟨h.eq, RowK.below h.row hb, h.blk⟩
theorem Late.of {B : Nat} (h : OwnP T3 w B late ds) (hl : ds.length ≤ 100000) : ∃ A c, Late T3 (fun k => B ≤ k ∧ k < w.heap.size) w ds late A c := by
  obtain ⟨A, c, e, hr, -, -⟩ := h.row (by unfold maxLen; omega)
  obtain ⟨l', ho, -⟩ := h
  refine ⟨A, c, e, hr, fun a ha => ?_⟩
  subst e
  subst ha
  exact World.ownsRow.lt ho.1 a.block rfl
end
def dropM (q : Qu) (b : Int) : Qu := if pkAt q b = [] then q else dropQ q b.toNat
theorem mo_dropM {bk : Int → Nat} {i : Nat} {q : Qu} (h : Mo bk i q) (b : Int) : Mo bk i (dropM q b) := by
  unfold dropM
  split
  · exact h
  · rename_i hn
    refine mo_drop h ?_
    by_cases hb : 0 ≤ b ∧ b < 16
    · omega
    · exact absurd (by unfold pkAt; rw [if_neg hb]) hn
theorem dropM_in {q : Qu} {n : Nat} (hn : n < 16) {p : Pk} {r : List Pk} (h : (q.fl n).pk = p :: r) : dropM q (n : Int) = dropQ q n ∧ (pkAt q (n : Int)).head? = some p := by
  have e : pkAt q (n : Int) = p :: r := by rw [pkAt_in q hn, h]
  refine ⟨?_, by rw [e]; rfl⟩
  unfold dropM
  rw [if_neg (by rw [e]; simp), Int.toNat_natCast]
theorem has_no {q : Qu} {b : Int} (h : hasQ q b = false) : pkAt q b = [] := by
  unfold hasQ at h
  simpa using h
section
variable {w0 w : World} {x y z : Rq} {gd : Nat} {dc : Array Value} {T T2 T0 : Nat → Prop} {V V2 U : Nat → Value} {q p qc : Qu} {i : Nat}
theorem put_c {sd : BitVec 32} (h : PD w0 x y gd dc z T0 U qc w T T2 V V2 q p) (hm : Mo (bkQ sd) i q) (hsd : x.seed = uv sd) (a : Pk) (A : Option Addr) (m cp : Nat) (hb : RowB .u8 w A m a.body) (hm2 : m ≤ 1000000) (hf : 0 ≤ a.flow ∧ a.flow ≤ 4294967295) :
    Calls Try.prog 10 #[.pointer (some ⟨x.g, 0, none⟩), pkV a (.slice A m cp)] w fun e w' => e = .returned (.int .i64 (bkQ sd a.flow : Nat)) ∧ ∃ T' V', PD w0 x y gd dc z T0 U qc w' T' T2 V' V2 (putQ (bkQ sd) q a) p := by
  have hln := lists_len hm.inv
  rw [List.length_append] at hln
  refine (put_any sd T w x V q h.pw.cq hsd a A m cp hb hm2 hf (fun b hb => by have := hm.few.len b hb; omega) (fun b hb y hy => (hm.few.el b hb y hy).2.2) (by omega) (by omega) hm.inv.lt).mono ?_
  rintro e w' ⟨rfl, T', V', hQ, hC⟩
  exact ⟨rfl, T', V', h.code hQ hC⟩
theorem put_r {sd : BitVec 32} (h : PD w0 x y gd dc z T0 U qc w T T2 V V2 q p) (hm : Mo (bkQ sd) i p) (hsd : y.seed = uv sd) (a : Pk) (A : Option Addr) (m cp : Nat) (hb : RowB .u8 w A m a.body) (hm2 : m ≤ 1000000) (hf : 0 ≤ a.flow ∧ a.flow ≤ 4294967295) :
    Calls Try.prog 11 #[.pointer (some ⟨y.g, 0, none⟩), pkV a (.slice A m cp)] w fun e w' => e = .returned (.int .i64 (bkQ sd a.flow : Nat)) ∧ ∃ T2' V2', PD w0 x y gd dc z T0 U qc w' T T2' V V2' q (putQ (bkQ sd) p a) := by
  have hln := lists_len hm.inv
  rw [List.length_append] at hln
  refine (refput_any sd T2 w y V2 p h.pw.rq hsd a A m cp hb hm2 hf (fun b hb => by have := hm.few.len b hb; omega) (by omega) (by omega) hm.inv.lt).mono ?_
  rintro e w' ⟨rfl, T', V', hQ, hC⟩
  exact ⟨rfl, T', V', h.ref hQ hC⟩
theorem take_c {bk : Int → Nat} (hbk : ∀ f, bk f < 16) (h : PD w0 x y gd dc z T0 U qc w T T2 V V2 q p) (hm : Mo bk i q) (t : Int) (ht0 : 0 ≤ t) (htM : t + 1073741824 ≤ 4503599627370496) {r : Option Pk} {ds : List Pk} {q' : Qu} (hT : Takes ⟨t, clampR x.tg 0 1073741824, clampR x.iv 0 1073741824⟩ q [] r ds q') :
    Calls Try.prog 13 #[.pointer (some ⟨x.g, 0, none⟩), .int .i64 t] w fun e w' => ∃ V' p0 b v late T3 A c, PD w0 x y gd dc z T0 U qc w' T T2 V' V2 q' p ∧ e = .returned (.tuple #[pkV p0 v, late, .bool b]) ∧
      AnsP (New w w') w' r p0 b v ∧ Late T3 (New w w') w' ds late A c ∧ (∀ k, T3 k → New w w' k) ∧ w.heap.size ≤ w'.heap.size := by
  have hlen := takes_len hT hm.inv hbk hm.few
  refine (take_any bk hbk T w x V q h.pw.cq hm.inv hm.few t ht0 htM r ds q' hT).mono ?_
  rintro e w' ⟨V', late, T3, v, hQ, hC, hO, hT2, hap, hE⟩
  obtain ⟨A, c, hL⟩ := Late.of hO (by omega)
  rcases hE with ⟨rfl, rfl, rfl⟩ | ⟨p1, rfl, rfl, hv, -⟩
  · exact ⟨V', pk00.1, false, _, late, T3, A, c, h.code hQ hC, rfl, AnsP.none_ _ _, hL, hT2, hC.only.size⟩
  · have hmem := taken_mem hT hm.inv
    have hlb := (hm.few.el _ (hbk _) p1 hmem).2.2
    refine ⟨V', p1, true, v, late, T3, A, c, h.code hQ hC, rfl, ⟨.inr ⟨rfl, rfl⟩, OwnV.el hv (by unfold maxLen; omega) (h.pw.cq.wf (hbk _) hmem) fun g hg => World.ownsRow.lt hv g hg⟩, hL, hT2, hC.only.size⟩
theorem take_r {bk : Int → Nat} (hbk : ∀ f, bk f < 16) (h : PD w0 x y gd dc z T0 U qc w T T2 V V2 q p) (hm : Mo bk i p) (t : Int) (ht0 : 0 ≤ t) (htM : t + 1073741824 ≤ 4503599627370496) {r : Option Pk} {ds : List Pk} {p' : Qu} (hT : Takes ⟨t, clampR y.tg 0 1073741824, clampR y.iv 0 1073741824⟩ p [] r ds p') :
    Calls Try.prog 14 #[.pointer (some ⟨y.g, 0, none⟩), .int .i64 t] w fun e w' => ∃ V2' p0 b v late A c, PD w0 x y gd dc z T0 U qc w' T T2 V V2' q p' ∧ e = .returned (.tuple #[pkV p0 v, late, .bool b]) ∧
      AnsP T2 w' r p0 b v ∧ Late T2 (New w w') w' ds late A c ∧ Only (FootR y V2) w w' := by
  have hlen := takes_len hT hm.inv hbk hm.few
  refine (reftake_any bk hbk T2 w y V2 p h.pw.rq hm.inv hm.few t ht0 htM r ds p' hT).mono ?_
  rintro e w' ⟨V', late, v, hQ, hC, hO, hE⟩
  obtain ⟨A, c, hL⟩ := Late.of hO (by omega)
  rcases hE with ⟨rfl, rfl, rfl⟩ | ⟨p1, rfl, rfl, hv⟩
  · exact ⟨V', pk00.1, false, _, late, A, c, h.ref hQ hC, rfl, AnsP.none_ _ _, hL, hC.only⟩
  · exact ⟨V', p1, true, v, late, A, c, h.ref hQ hC, rfl, ⟨.inr ⟨rfl, rfl⟩, hv⟩, hL, hC.only⟩
theorem drop_c {bk : Int → Nat} (h : PD w0 x y gd dc z T0 U qc w T T2 V V2 q p) (hm : Mo bk i q) (k : Int) :
    Calls Try.prog 17 #[.pointer (some ⟨x.g, 0, none⟩), .int .i64 k] w fun e w' => ∃ V' p0 b v, PD w0 x y gd dc z T0 U qc w' T T2 V' V2 (dropM q k) p ∧ e = .returned (.tuple #[pkV p0 v, .bool b]) ∧ AnsP (New w w') w' (pkAt q k).head? p0 b v ∧ w.heap.size ≤ w'.heap.size := by
  refine (drophead_any T w x V q h.pw.cq hm.few k).mono ?_
  rintro e w' (⟨h1, rfl, hb⟩ | ⟨n, p1, r, v, V', hn, rfl, hp, rfl, hv, hQ, hC, -⟩)
  · have e1 := has_no h1
    exact ⟨V, pk00.1, false, _, by unfold dropM; rw [if_pos e1]; exact h.quiet hb, rfl, by rw [e1]; exact AnsP.none_ _ _, hb.size⟩
  · obtain ⟨e1, e2⟩ := dropM_in hn hp
    have hmem : p1 ∈ (q.fl n).pk := by rw [hp]; exact List.mem_cons_self
    refine ⟨V', p1, true, v, by rw [e1]; exact h.code hQ hC, rfl, ⟨.inr ⟨e2, rfl⟩, OwnV.el hv (by have := (hm.few.el n hn p1 hmem).2.2; unfold maxLen; omega) (h.pw.cq.wf hn hmem) fun g hg => World.ownsRow.lt hv g hg⟩, hC.only.size⟩
theorem drop_r {bk : Int → Nat} (h : PD w0 x y gd dc z T0 U qc w T T2 V V2 q p) (hm : Mo bk i p) (hw : ∀ b, b < 16 → ∀ a ∈ (p.fl b).pk, wf8 a.body) (k : Int) :
    Calls Try.prog 18 #[.pointer (some ⟨y.g, 0, none⟩), .int .i64 k] w fun e w' => ∃ V2' p0 b v, PD w0 x y gd dc z T0 U qc w' T T2 V V2' q (dropM p k) ∧ e = .returned (.tuple #[pkV p0 v, .bool b]) ∧ AnsP (New w w') w' (pkAt p k).head? p0 b v ∧ Only (FootR y V2) w w' := by
  refine (refdrop_any T2 w y V2 p h.pw.rq (fun b hb => by have := hm.few.len b hb; omega) (fun b hb a ha => (hm.few.el b hb a ha).2.2) k).mono ?_
  rintro e w' (⟨e1, rfl, hb⟩ | ⟨n, p1, r, v, V', hn, rfl, hp, rfl, hv, hQ, hC⟩)
  · exact ⟨V2, pk00.1, false, _, by unfold dropM; rw [if_pos e1]; exact h.quiet hb, rfl, by rw [e1]; exact AnsP.none_ _ _, Only.of_quiet hb⟩
  · obtain ⟨e1, e2⟩ := dropM_in hn hp
    have hmem : p1 ∈ (p.fl n).pk := by rw [hp]; exact List.mem_cons_self
    exact ⟨V', p1, true, v, by rw [e1]; exact h.ref hQ hC, rfl, ⟨.inr ⟨e2, rfl⟩, OwnV.el hv (by have := (hm.few.el n hn p1 hmem).2.2; unfold maxLen; omega) (hw n hn p1 hmem) fun g hg => World.ownsRow.lt hv g hg⟩, hC.only⟩
theorem head_c {bk : Int → Nat} (h : PD w0 x y gd dc z T0 U qc w T T2 V V2 q p) (hm : Mo bk i q) (k : Int) :
    Calls Try.prog 21 #[.pointer (some ⟨x.g, 0, none⟩), .int .i64 k] w fun e w' => ∃ p0 b v, e = .returned (.tuple #[pkV p0 v, .bool b]) ∧ AnsP (New w w') w' (pkAt q k).head? p0 b v ∧ Below w.heap.size w w' := by
  refine (chead_any T w x V q h.pw.cq hm.few k).mono ?_
  rintro e w' ⟨h1, hb⟩
  rcases h1 with ⟨h1, rfl⟩ | ⟨n, p1, r, v, hn, rfl, hp, rfl, hv⟩
  · have e1 := has_no h1
    exact ⟨pk00.1, false, _, rfl, by rw [e1]; exact AnsP.none_ _ _, hb⟩
  · obtain ⟨e1, e2⟩ := dropM_in hn hp
    have hmem : p1 ∈ (q.fl n).pk := by rw [hp]; exact List.mem_cons_self
    exact ⟨p1, true, v, rfl, ⟨.inr ⟨e2, rfl⟩, OwnV.el hv (by have := (hm.few.el n hn p1 hmem).2.2; unfold maxLen; omega) (h.pw.cq.wf hn hmem) fun g hg => World.ownsRow.lt hv g hg⟩, hb⟩
theorem head_r {bk : Int → Nat} (h : PD w0 x y gd dc z T0 U qc w T T2 V V2 q p) (hm : Mo bk i p) (hw : ∀ b, b < 16 → ∀ a ∈ (p.fl b).pk, wf8 a.body) (k : Int) :
    Calls Try.prog 22 #[.pointer (some ⟨y.g, 0, none⟩), .int .i64 k] w fun e w' => ∃ p0 b v, e = .returned (.tuple #[pkV p0 v, .bool b]) ∧ AnsP (New w w') w' (pkAt p k).head? p0 b v ∧ Below w.heap.size w w' := by
  refine (refhead_any T2 w y V2 p h.pw.rq (fun b hb => by have := hm.few.len b hb; omega) (fun b hb a ha => by have := (hm.few.el b hb a ha).2.2; omega) k).mono ?_
  rintro e w' ⟨h1, hb⟩
  rcases h1 with ⟨e1, rfl⟩ | ⟨p1, r, g, cap, hl, rfl, hO⟩
  · exact ⟨pk00.1, false, _, rfl, by rw [e1]; exact AnsP.none_ _ _, hb⟩
  · have hk : 0 ≤ k ∧ k < 16 := by
      by_cases hk : 0 ≤ k ∧ k < 16
      · exact hk
      · unfold pkAt at hl; rw [if_neg hk] at hl; cases hl
    have hmem : p1 ∈ (p.fl k.toNat).pk := by unfold pkAt at hl; rw [if_pos hk] at hl; rw [hl]; exact List.mem_cons_self
    have hv : OwnV w' w.heap.size (.slice (some ⟨g, 0, none⟩) p1.body.length cap) p1.body := hO
    exact ⟨p1, true, _, rfl, ⟨.inr ⟨by rw [hl]; rfl, rfl⟩, OwnV.el hv (by have := (hm.few.el _ (by omega) p1 hmem).2.2; unfold maxLen; omega) (hw _ (by omega) p1 hmem) fun g hg => World.ownsRow.lt hv g hg⟩, hb⟩
/-- the copy. -/
theorem clone_w {bk : Int → Nat} (h : PW w0 x y w (· = gd) T T2 V V2 q q) (hdb : w.heap[gd]? = some (.cells dc 34 (0, 0))) (hm : Mo bk i q) :
    Calls Try.prog 8 #[.pointer (some ⟨x.g, 0, none⟩)] w fun e w' => ∃ U, e = .returned (.pointer (some ⟨w.heap.size, 0, none⟩)) ∧ PD w0 x y gd dc ⟨w.heap.size, x.seed, x.tg, x.iv⟩ T U q w' T T2 V V2 q q ∧ (∀ k, FootC ⟨w.heap.size, x.seed, x.tg, x.iv⟩ U k → w.heap.size ≤ k) ∧ Below w.heap.size w w' := by
  have hln := lists_len hm.inv
  rw [List.length_append] at hln
  refine (clone_q_any T w x V q h.cq hm.few ⟨by omega, by omega⟩).mono ?_
  rintro e w' ⟨U, rfl, hQ, hb, hf⟩
  refine ⟨U, rfl, ⟨h.quiet_la hb fun k hk => ?_, (hb.block _ (lt_blk hdb)).trans hdb, hQ⟩, hf, hb⟩
  rcases hk with h1 | h1 | h1
  · exact .inl h1
  · exact .inr (.inl ⟨hf k h1, hQ.lts h1⟩)
  · exact .inr (.inr h1)
end
end Go.Proofs.Ytlkoleannlpflaa
