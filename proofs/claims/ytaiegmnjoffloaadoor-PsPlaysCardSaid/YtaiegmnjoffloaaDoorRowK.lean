/-
  A ROW OF STRUCTS THAT BEAR A SLICE OF BYTES EACH (packets, frames), AS A LIST; with a footprint T (the blocks of its bodies). F says of each one its cells, its slice value given; body its bytes. No program is named.
-/
import Derived.Test.YtaiegmnjoffloaaDoorOnly
namespace Go.Proofs.YtaiegmnjoffloaaDoor
open Go.ChangeShapes Go.WideShapes Go.ChangeAt Go.RowKit Go.Deep
set_option linter.unusedVariables false
set_option linter.unusedSimpArgs false

theorem RowB.only0 {k : IntKind} {S : Nat → Prop} {w w' : World} {A : Option Addr} {n : Nat} {xs : List Int} (h : RowB k w A n xs) (ho : Only S w w') (hn : 0 < n → ∀ p, A = some p → ¬ S p.block) : RowB k w' A n xs :=
  ⟨h.len, h.le, h.wf, fun hp => by
    obtain ⟨b, off, e, h1⟩ := h.cells hp
    have hb : ¬ S b := hn hp _ e
    exact ⟨b, off, e, fun i hi => ho.cell (h1 i hi) hb⟩⟩
/-- a slice value that holds these bytes, in a block of T. -/
def ElK (T : Nat → Prop) (w : World) (v : Value) (xs : List Int) : Prop := ∃ a m c, v = .slice a m c ∧ RowB .u8 w a m xs ∧ m ≤ c ∧ (0 < m → ∀ p, a = some p → T p.block)
section
variable {T U S : Nat → Prop} {w w' : World} {v : Value} {xs : List Int}
theorem ElK.nil (T : Nat → Prop) (w : World) : ElK T w (.slice none 0 0) [] := ⟨none, 0, 0, rfl, RowB.nil, Nat.le_refl _, fun h => by omega⟩
theorem ElK.of {a : Option Addr} {m c : Nat} (h : RowB .u8 w a m xs) (hc : m ≤ c) (ht : 0 < m → ∀ p, a = some p → T p.block) : ElK T w (.slice a m c) xs := ⟨a, m, c, rfl, h, hc, ht⟩
theorem ElK.below (h : ElK T w v xs) (hb : Below w.heap.size w w') : ElK T w' v xs := by
  obtain ⟨a, m, c, rfl, hr, hc, ht⟩ := h
  exact ⟨a, m, c, rfl, hr.below hb, hc, ht⟩
theorem ElK.drewN (h : ElK T w v xs) (n : Nat) : ElK T (w.drewN n) v xs := by
  obtain ⟨a, m, c, rfl, hr, hc, ht⟩ := h
  exact ⟨a, m, c, rfl, hr.drewN n, hc, ht⟩
theorem ElK.only (h : ElK T w v xs) (ho : Only S w w') (hs : ∀ k, T k → ¬ S k) : ElK T w' v xs := by
  obtain ⟨a, m, c, rfl, hr, hc, ht⟩ := h
  exact ⟨a, m, c, rfl, hr.only0 ho fun hp p e => hs _ (ht hp p e), hc, ht⟩
theorem ElK.mono (h : ElK T w v xs) (hs : ∀ k, k < w.heap.size → T k → U k) : ElK U w v xs := by
  obtain ⟨a, m, c, rfl, hr, hc, ht⟩ := h
  refine ⟨a, m, c, rfl, hr, hc, fun hp p e => ?_⟩
  obtain ⟨b, off, e2, h1⟩ := hr.cells hp
  rw [e] at e2
  obtain rfl := Option.some.inj e2
  exact hs _ (cell_lt' (h1 0 hp)) (ht hp _ e)
end
def FK {α : Type} (F : α → Value → List Value) : α × Value → List Value := fun p => F p.1 p.2
/-- the slice value '.slice A n c' holds the structs l; their bodies lie in T. -/
def RowK {α : Type} (F : α → Value → List Value) (body : α → List Int) (sz : Nat) (d : α × Value) (T : Nat → Prop) (w : World) (A : Option Addr) (n : Nat) (l : List α) : Prop :=
  ∃ l' : List (α × Value), RowS (FK F) sz d w A n l' ∧ l'.map Prod.fst = l ∧ ∀ p ∈ l', ElK T w p.2 (body p.1)
/-- the same, of the call's own: it grows by append; its own block is none of T. -/
def OwnK {α : Type} (F : α → Value → List Value) (body : α → List Int) (sz : Nat) (T : Nat → Prop) (w : World) (base : Nat) (e : TypeId) (v : Value) (n : Nat) (l : List α) : Prop :=
  ∃ l' : List (α × Value), OwnS (FK F) sz w base e v n l' ∧ l'.map Prod.fst = l ∧ (∀ p ∈ l', ElK T w p.2 (body p.1)) ∧ ∀ g, v.ownBlock = some g → ¬ T g
section
variable {α : Type} {F : α → Value → List Value} {body : α → List Int} {sz : Nat} {d : α × Value} {T U S : Nat → Prop} {w w' : World} {A : Option Addr} {n : Nat} {l : List α}
theorem RowK.nil (T : Nat → Prop) (w : World) (A : Option Addr) : RowK F body sz d T w A 0 [] := ⟨[], RowS.nil, rfl, fun p hp => (by cases hp)⟩
theorem RowK.len (h : RowK F body sz d T w A n l) : l.length = n := by
  obtain ⟨l', hr, rfl, -⟩ := h
  rw [List.length_map]; exact hr.len
theorem RowK.le (h : RowK F body sz d T w A n l) : n ≤ maxLen := by
  obtain ⟨l', hr, -, -⟩ := h
  exact hr.le
theorem getD_fst (l' : List (α × Value)) (d : α × Value) (i : Nat) : (l'.map Prod.fst).getD i d.1 = (l'.getD i d).1 := by
  unfold List.getD
  rw [List.getElem?_map]
  cases l'[i]? <;> rfl
/-- element i. -/
theorem RowK.el (h : RowK F body sz d T w A n l) (i : Nat) (hi : i < n) :
    ∃ b off a m c, A = some ⟨b, off, none⟩ ∧ w.rangeAt b (off + i * sz) (F (l.getD i d.1) (.slice a m c)) ∧ RowB .u8 w a m (body (l.getD i d.1)) ∧ m ≤ c ∧ (0 < m → ∀ p, a = some p → T p.block) := by
  obtain ⟨l', hr, rfl, hx⟩ := h
  obtain ⟨b, off, e, hc⟩ := hr.el i hi
  have hl := hr.len
  have hm : l'.getD i d ∈ l' := by
    have : l'.getD i d = l'[i]'(by omega) := by simp [List.getD, show i < l'.length by omega]
    rw [this]; exact List.getElem_mem _
  obtain ⟨a, m, c, ev, h1, h2, h3⟩ := hx _ hm
  refine ⟨b, off, a, m, c, e, ?_, ?_, h2, h3⟩
  · rw [getD_fst, ← ev]; exact hc
  · rw [getD_fst]; exact h1
theorem RowK.below (h : RowK F body sz d T w A n l) (hb : Below w.heap.size w w') : RowK F body sz d T w' A n l := by
  obtain ⟨l', hr, e, hx⟩ := h
  exact ⟨l', hr.below hb, e, fun p hp => (hx p hp).below hb⟩
theorem RowK.drewN (h : RowK F body sz d T w A n l) (m : Nat) : RowK F body sz d T (w.drewN m) A n l := by
  obtain ⟨l', hr, e, hx⟩ := h
  exact ⟨l', hr.drewN m, e, fun p hp => (hx p hp).drewN m⟩
theorem RowK.only (h : RowK F body sz d T w A n l) (ho : Only S w w') (hA : ∀ p, A = some p → ¬ S p.block) (hs : ∀ k, T k → ¬ S k) : RowK F body sz d T w' A n l := by
  obtain ⟨l', hr, e, hx⟩ := h
  exact ⟨l', hr.only ho hA, e, fun p hp => (hx p hp).only ho hs⟩
theorem RowK.mono (h : RowK F body sz d T w A n l) (hs : ∀ k, k < w.heap.size → T k → U k) : RowK F body sz d U w A n l := by
  obtain ⟨l', hr, e, hx⟩ := h
  exact ⟨l', hr, e, fun p hp => (hx p hp).mono hs⟩
theorem RowK.first (h : RowK F body sz d T w A n l) (m : Nat) (hm : m ≤ n) : RowK F body sz d T w A m (l.take m) := by
  obtain ⟨l', hr, rfl, hx⟩ := h
  exact ⟨l'.take m, hr.first m hm, List.map_take.symm ▸ rfl, fun p hp => hx p (List.mem_of_mem_take hp)⟩
/-- its rest from k on. -/
theorem RowS.rest {β : Type} {G : β → List Value} {d : β} {l : List β} {b off : Nat} (h : RowS G sz d w (some ⟨b, off, none⟩) n l) (k : Nat) (hk : k ≤ n) : RowS G sz d w (some ⟨b, off + k * sz, none⟩) (n - k) (l.drop k) := by
  have hl := h.len
  have hle := h.le
  refine ⟨by rw [List.length_drop]; omega, by omega, fun hp => ?_⟩
  obtain ⟨b', off', e, h1⟩ := h.els (by omega)
  cases e
  refine ⟨b, off + k * sz, rfl, fun i hi => ?_⟩
  have hg : (l.drop k).getD i d = l.getD (k + i) d := by simp [List.getD, List.getElem?_drop]
  rw [hg, Nat.add_assoc, ← Nat.add_mul]
  exact h1 (k + i) (by omega)
theorem RowK.rest {b off : Nat} (h : RowK F body sz d T w (some ⟨b, off, none⟩) n l) (k : Nat) (hk : k ≤ n) : RowK F body sz d T w (some ⟨b, off + k * sz, none⟩) (n - k) (l.drop k) := by
  obtain ⟨l', hr, rfl, hx⟩ := h
  exact ⟨l'.drop k, hr.rest k hk, by rw [List.map_drop], fun p hp => hx p (List.mem_of_mem_drop hp)⟩
theorem OwnK.nil (T : Nat → Prop) (w : World) (base : Nat) (e : TypeId) : OwnK F body sz T w base e (.slice none 0 0) 0 [] := ⟨[], OwnS.nil w base e, rfl, fun p hp => (by cases hp), fun g hg => (by cases hg)⟩
section
variable {base : Nat} {e : TypeId} {v : Value}
theorem OwnK.below (h : OwnK F body sz T w base e v n l) (hb : Below w.heap.size w w') : OwnK F body sz T w' base e v n l := by
  obtain ⟨l', ho, e1, hx, hg⟩ := h
  exact ⟨l', ho.below hb, e1, fun p hp => (hx p hp).below hb, hg⟩
theorem OwnK.drewN (h : OwnK F body sz T w base e v n l) (m : Nat) : OwnK F body sz T (w.drewN m) base e v n l := h.below (below_drewN (Below.refl _ _) m)
theorem OwnK.only (h : OwnK F body sz T w base e v n l) (ho : Only S w w') (hg : ∀ g, v.ownBlock = some g → ¬ S g) (hs : ∀ k, T k → ¬ S k) : OwnK F body sz T w' base e v n l := by
  obtain ⟨l', h1, e1, hx, h2⟩ := h
  exact ⟨l', ⟨owns_only h1.1 ho hg, h1.2⟩, e1, fun p hp => (hx p hp).only ho hs, h2⟩
theorem OwnK.mono (h : OwnK F body sz T w base e v n l) (hs : ∀ k, k < w.heap.size → T k → U k) (hg : ∀ g, v.ownBlock = some g → ¬ U g) : OwnK F body sz U w base e v n l := by
  obtain ⟨l', h1, e1, hx, h2⟩ := h
  exact ⟨l', h1, e1, fun p hp => (hx p hp).mono hs, hg⟩
theorem OwnK.len (h : OwnK F body sz T w base e v n l) : l.length = n := by
  obtain ⟨l', ⟨-, hl⟩, rfl, -⟩ := h
  rw [List.length_map]; exact hl
/-- as a row. -/
theorem OwnK.row (h : OwnK F body sz T w base e v n l) (hF : ∀ a u, (F a u).length = sz) (hn : n ≤ maxLen) : ∃ A c, v = .slice A n c ∧ RowK F body sz d T w A n l ∧ n ≤ c := by
  obtain ⟨l', h1, e1, hx, -⟩ := h
  obtain ⟨A, c, ev, hr, hc⟩ := h1.row (d := d) (fun p => hF p.1 p.2) hn
  exact ⟨A, c, ev, ⟨l', hr, e1, hx⟩, hc⟩
/-- one more: what append leaves. -/
theorem OwnK.snoc {g cap : Nat} {u : α} {x : Value} {l' : List (α × Value)} (h : OwnS (FK F) sz w base e v n l') (he : l'.map Prod.fst = l) (hx : ∀ p ∈ l', ElK T w p.2 (body p.1)) (hT : ∀ g, v.ownBlock = some g → ¬ T g) (hlt : ∀ k, T k → k < w.heap.size)
    (hown : w'.ownsRow base e sz (.slice (some ⟨g, 0, none⟩) (n + 1) cap) (n + 1) (l'.flatMap (FK F) ++ F u x)) (hgrow : w.grownBy w' v.ownBlock) (hg : v.ownBlock = some g ∨ g = w.heap.size) (hu : ElK T w x (body u)) :
    OwnK F body sz T w' base e (.slice (some ⟨g, 0, none⟩) (n + 1) cap) (n + 1) (l ++ [u]) := by
  have hO : Only (fun k => v.ownBlock = some k) w w' := (Only.refl _ w).grown hgrow fun k hk _ => hk
  have hs : ∀ k, T k → ¬ v.ownBlock = some k := fun k hk e => hT k e hk
  refine ⟨l' ++ [(u, x)], ⟨?_, by simp [h.2]⟩, by simp [he], fun p hp => ?_, fun g' hg' => ?_⟩
  · rw [List.flatMap_append]
    simpa [FK] using hown
  · rcases List.mem_append.1 hp with hp | hp
    · exact (hx p hp).only hO hs
    · rw [List.mem_singleton.1 hp]; exact hu.only hO hs
  · have e1 : g' = g := by simpa [Value.ownBlock] using hg'.symm
    rw [e1]
    rcases hg with h1 | h1
    · exact hT g h1
    · intro ht; have := hlt g ht; omega
theorem app_k {P : Program} {ops : Array Oper} {rest : List Oper} {o : Oper} {a : Act} {Q : Exit → Act → World → Prop} (hgd : o.guard = none) (s x : Operand) (t : TypeId)
    (ho : o.op = .call { callee := .builtin .append, args := #[s, x], argTypes := #[t, t] }) (e : TypeId) (i : TypeInfo) (z : Value) (bytes : Nat) (ht : P.underlying t = some (.slice e)) (hi : P.info? e = some i) (hz : i.zero = some z) (hsize : i.size = sz) (hby : i.bytes = bytes) (hzs : z.cells.size = sz) (hsz : 0 < sz)
    (B k : Nat) (lv : Value) (hs : a.eval s = lv) (hP : OwnK F body sz T w B e lv k l) (u : α) (y : Value) (ad : Addr) (c : Nat) (hx : a.eval x = .slice (some ad) 1 c) (hF : (F u y).length = sz) (hc : ∀ j q, (F u y)[j]? = some q → w.cell? (ad.add j) = some q) (h1 : ∀ q ∈ F u y, q.oneCell' = true) (hu : ElK T w y (body u))
    (hlt : ∀ k, T k → k < w.heap.size) (hk : k + 1 ≤ 1000000000) (hbt : (k + 1) * bytes ≤ 140737488355328) (hB : B ≤ w.heap.size)
    (h : ∀ g' cap' w', Hid (OwnK F body sz T w' B e (.slice (some ⟨g', 0, none⟩) (k + 1) cap') (k + 1) (l ++ [u])) → Hid (Below B w w') → Hid (Only (fun j => lv.ownBlock = some j) w w') → Hid (lv.ownBlock = some g' ∨ g' = w.heap.size) → wpList P ops Q rest (a.put o.dst (.slice (some ⟨g', 0, none⟩) (k + 1) cap')) w') : wpList P ops Q (o :: rest) a w := by
  obtain ⟨l', hP1, hP2, hP3, hP4⟩ := hP
  refine wpList_append_lies w hgd s x t ho B e i z sz bytes ht hi hz hsize hby hzs hsz lv k _ hs hP1.1 ad 1 c (F u y) hx (by rw [hF, Nat.one_mul]) hc h1 (by omega) (by unfold maxLen; omega) hbt hB w.heap.size rfl ?_
  intro g cap w' hown hgrow hor _
  have hor' : lv.ownBlock = some g ∨ g = w.heap.size := hor
  exact h g cap w' (OwnK.snoc hP1 hP2 hP3 hP4 hlt hown hgrow hor' hu) ((Below.refl B w).grown hgrow hB (by intro q hq; exact (World.ownsRow.lt hP1.1 q hq).1)) ((Only.refl _ w).grown hgrow fun k hk _ => hk) hor'
end
end
end Go.Proofs.YtaiegmnjoffloaaDoor
