/-
  PACKETS IN ROWS, NUMBERS IN ROWS; contracts of the reference's helpers on them: Has, Del, Packet, Packets, SamePacket.
-/
import Derived.Test.YtaibopaagjodoaaBytesQ
import Derived.Test.YtaibopaagjodoaaRowK
import Derived.Test.YtaibopaagjodoaaFqM
import Derived.Test.YtaibopaagjodoaaCodA
import Derived.Deep.CutRange
import Derived.StillTailTactics
import Derived.Deep.QuietTactic
import Derived.Deep.RegionHeld3
namespace Go.Proofs.Ytaibopaagjodoaa
open Go.ChangeShapes Go.WideShapes Go.ChangeAt Go.RowKit Go.Deep
set_option linter.unusedVariables false
set_option linter.unusedSimpArgs false

/-! ### numbers -/
theorem notmem_step' {xs : List Int} {k : Nat} {v : Int} (h : v ∉ xs.take k) (hk : k < xs.length) (he : xs.getD k 0 ≠ v) : v ∉ xs.take (k + 1) := by
  rw [take_snoc hk]
  intro hm
  rcases List.mem_append.1 hm with hm | hm
  · exact h hm
  · exact he (List.mem_singleton.1 hm).symm
set_option maxRecDepth 100000 in
set_option maxHeartbeats 8000000 in
theorem has_any (A : Option Addr) (n c : Nat) (xs : List Int) (v : Int) (w : World) (h : RowB .i64 w A n xs) :
    Calls Try.prog 35 #[.slice A n c, .int .i64 v] w fun e w' => e = .returned (.bool (decide (v ∈ xs))) ∧ w = w' := by
  have hl := h.len
  have hle := h.le
  unfold maxLen at hle
  have HC := Lib.hid (fun i hi => h.el i hi)
  have HL := Lib.hid hl
  clear h hl
  go_enter Try.func35, Try.ntmps35
  go_wp2
  go_loop [5] (fun i => ∃ k : Nat, k ≤ n ∧ i = .int .i64 k ∧ v ∉ xs.take k) (fun i => n - (intOf i).toNat)
  case atStart => exact ⟨0, by omega, rfl, by simp⟩
  case round =>
    obtain ⟨k, hk, rfl, hnot⟩ := hrel
    by_cases hlt : k < n
    · obtain ⟨b, off, rfl, hc⟩ := HC.out k hlt
      have hi : (k : Int) < (n : Int) := by omega
      by_cases he : xs.getD k 0 = v
      · have HS := Lib.hid (show decide (v ∈ xs) = true from decide_eq_true (by rw [← he]; exact mem_getD (by rw [HL.out]; exact hlt)))
        rw [he] at hc
        clear he hnot
        go_wp2
        go_ret
        exact ⟨ret_b HS.out, rfl⟩
      · have HS := Lib.hid (notmem_step' hnot (by rw [HL.out]; exact hlt) he)
        have hb' : (xs.getD k 0 == v) = false := by simpa using he
        generalize xs.getD k 0 = x at *
        clear he hnot
        go_wp2
        go_round
        case rel => exact ⟨k + 1, by omega, by go_num, HS.out⟩
        case measure => simp [intOf]; omega
    · have HS := Lib.hid (show decide (v ∈ xs) = false by
        rw [List.take_of_length_le (by rw [HL.out]; omega)] at hnot
        exact decide_eq_false hnot)
      clear hnot
      go_wp2
      go_ret
      exact ⟨ret_b HS.out, rfl⟩

/-- a number as a struct of one cell. -/
def iC (x : Int) : List Value := [.int .i64 x]
/-- numbers of the call's own. -/
def OwnN (w : World) (B : Nat) (v : Value) (l : List Int) : Prop := OwnS iC 1 w B 3 v l.length l
theorem info_parts' {i : Option TypeInfo} {z : Option Value} {s b : Nat} (h : i.map (fun i => (i.zero, i.size, i.bytes)) = some (z, s, b)) : ∃ i0, i = some i0 ∧ i0.zero = z ∧ i0.size = s ∧ i0.bytes = b := by
  cases i with
  | none => simp at h
  | some i => simp at h; exact ⟨i, rfl, h.1, h.2.1, h.2.2⟩
theorem int_info : (Try.prog.info? 3).map (fun i => (i.zero, i.size, i.bytes)) = some (some (.int .i64 0), 1, 8) := by kernel_rfl
theorem pkt_info : (Try.prog.info? 32).map (fun i => (i.zero, i.size, i.bytes)) = some (some (.agg #[.int .i64 0, .int .u32 0, .int .i64 0, .int .i64 0, .slice none 0 0]), 5, 56) := by kernel_rfl
theorem OwnN.nil (w : World) (B : Nat) : OwnN w B (.slice none 0 0) [] := OwnS.nil w B _
theorem OwnN.row {w : World} {B : Nat} {v : Value} {l : List Int} (h : OwnN w B v l) (hl : l.length ≤ maxLen) (hw : ∀ x ∈ l, -9223372036854775808 ≤ x ∧ x ≤ 9223372036854775807) :
    ∃ A c, v = .slice A l.length c ∧ RowB .i64 w A l.length l ∧ l.length ≤ c := by
  obtain ⟨A, c, e, hr, hc⟩ := OwnS.row (d := 0) h (fun _ => rfl) hl
  refine ⟨A, c, e, ⟨hr.len, hr.le, fun i hi => ?_, fun hp => ?_⟩, hc⟩
  · have hm : l.getD i 0 ∈ l := mem_getD hi
    have := hw _ hm
    have a : IntKind.i64.min = -9223372036854775808 := by decide
    have b : IntKind.i64.max = 9223372036854775807 := by decide
    rw [a, b]; exact this
  · obtain ⟨b, off, e, h1⟩ := hr.els hp
    exact ⟨b, off, e, fun i hi => by have := h1 i hi 0 _ rfl; simpa using this⟩
theorem filter_one {x v : Int} (h : x ≠ v) : [x].filter (· != v) = [x] := by simp [h]
/-- append of one number. -/
theorem app_n {ops : Array Oper} {rest : List Oper} {o : Oper} {a : Act} {w : World} {Q : Exit → Act → World → Prop} (hgd : o.guard = none) (s x : Operand)
    (ho : o.op = .call { callee := .builtin .append, args := #[s, x], argTypes := #[50, 50] })
    (B : Nat) (lv : Value) (l : List Int) (hs : a.eval s = lv) (hP : OwnN w B lv l) (u : Int) (ad : Addr) (c : Nat) (hx : a.eval x = .slice (some ad) 1 c) (hc : w.cell? ad = some (.int .i64 u))
    (hk : l.length ≤ 1000000) (hB : B ≤ w.heap.size)
    (h : ∀ v w', Shut (OwnN w' B v (l ++ [u])) → Shut (Below B w w') → Shut (Only (fun j => lv.ownBlock = some j) w w') → Shut (∀ g, v.ownBlock = some g → lv.ownBlock = some g ∨ g = w.heap.size) → wpList Try.prog ops Q rest (a.put o.dst v) w') : wpList Try.prog ops Q (o :: rest) a w := by
  obtain ⟨i0, hi0, hz0, hz1, hz2⟩ := info_parts' int_info
  refine wpList_append_lies w hgd s x 50 ho B 3 i0 _ 1 8 Try.underlying50 hi0 hz0 hz1 hz2 rfl (by omega) lv l.length _ hs hP.1 ad 1 c (iC u) hx rfl (fun j v hv => ?_) (by intro v hv; simp [iC] at hv; subst hv; rfl) (by omega) (by unfold maxLen; omega) (by omega) hB w.heap.size rfl ?_
  · match j, hv with
    | 0, hv => cases hv; simpa [Addr.add] using hc
  · intro g cap w' hown hgrow hor hlt
    have hor' : lv.ownBlock = some g ∨ g = w.heap.size := hor
    refine h _ w' ⟨⟨?_, rfl⟩⟩ ⟨(Below.refl B w).grown hgrow hB (by intro q hq; exact (World.ownsRow.lt hP.1 q hq).1)⟩ ⟨(Only.refl _ w).grown hgrow fun k hk _ => hk⟩ ⟨fun g' hg' => ?_⟩
    · rw [List.flatMap_append, List.length_append]
      simpa using hown
    · have e1 : g' = g := by simpa [Value.ownBlock] using hg'.symm
      rw [e1]; exact hor'
set_option maxRecDepth 100000 in
set_option maxHeartbeats 8000000 in
theorem del_any (A : Option Addr) (n c : Nat) (xs : List Int) (v : Int) (w : World) (h : RowB .i64 w A n xs) (hn : n ≤ 100000) :
    Calls Try.prog 50 #[.slice A n c, .int .i64 v] w fun e w' => ∃ u, e = .returned u ∧ OwnN w' w.heap.size u (xs.filter (· != v)) ∧ Below w.heap.size w w' := by
  have hl := h.len
  have HR := Lib.hid h
  clear h
  go_enter Try.func50, Try.ntmps50
  go_wp2
  go_loopw [5, 6] (fun u i wr => ∃ k : Nat, k ≤ n ∧ i = .int .i64 k ∧ OwnN wr w.heap.size u ((xs.take k).filter (· != v)) ∧ Below w.heap.size w wr) (fun _ i _ => n - (intOf i).toNat)
  case atStart => exact ⟨0, by omega, rfl, OwnN.nil _ _, Below.refl _ _⟩
  case round =>
    obtain ⟨k, hk, rfl, hown, hbel⟩ := hrel
    have HO := Shut.mk hown
    have HB := Shut.mk hbel
    clear hown hbel
    by_cases hlt : k < n
    · have HR2 := Lib.hid (show ∃ b off, A = some ⟨b, off, none⟩ ∧ wr.cell? ⟨b, off + k, none⟩ = some (.int .i64 (xs.getD k 0)) by
        obtain ⟨b, off, e, hc⟩ := HR.out.el k hlt
        exact ⟨b, off, e, (HB.out.cell (cell_lt' hc)).trans hc⟩)
      obtain ⟨b, off, rfl, hc⟩ := HR2.out
      have HCW := Shut.mk hc
      clear HR2
      have HS := Shut.mk (take_snoc (xs := xs) (k := k) (by rw [HR.out.len]; exact hlt))
      have HL := Shut.mk (show ((xs.take k).filter (· != v)).length ≤ 100000 from Nat.le_trans (List.length_filter_le _ _) (by rw [List.length_take]; omega))
      by_cases he : xs.getD k 0 = v
      · have HE := Shut.mk (show (xs.take (k + 1)).filter (· != v) = (xs.take k).filter (· != v) by rw [HS.out, List.filter_append, he]; simp)
        rw [he] at hc
        have hne : (v != v) = false := by simp
        clear he HCW
        go_wp2
        go_roundw
        case rel => exact ⟨k + 1, by omega, by go_num, by rw [HE.out]; exact HO.out, HB.out⟩
        case measure => simp [intOf]; omega
      · have hne : (xs.getD k 0 != v) = true := bne_iff_ne.2 he
        have HE := Shut.mk (show (xs.take (k + 1)).filter (· != v) = (xs.take k).filter (· != v) ++ [xs.getD k 0] by rw [HS.out, List.filter_append, filter_one he])
        generalize xs.getD k 0 = x at *
        clear he
        have HA1 := Shut.mk (show (wr.alloc (.cells #[.int .i64 x] 3 (0, 0))).cell? ⟨wr.heap.size, 0, none⟩ = some (.int .i64 x) by have := cell_one_new wr (.int .i64 x) 3 0 _ rfl; rwa [Addr.add_mid] at this)
        have HB2 := Shut.mk (HB.out.alloc HB.out.size (.cells #[.int .i64 x] 3 (0, 0)))
        have HO2 := Shut.mk (show OwnN (wr.alloc (.cells #[.int .i64 x] 3 (0, 0))) w.heap.size _ _ from OwnS.below HO.out ((Below.refl _ wr).alloc (Nat.le_refl _) _))
        go_wp2_with (refine app_n rfl (.tmp 19) (.tmp 24) rfl w.heap.size _ _ rfl HO2.out x ⟨wr.heap.size, 0, none⟩ 1 rfl HA1.out (by have := HL.out; omega) HB2.out.size ?_; intro u2 w2 HO3 HB3 HY HZ)
        go_roundw
        case rel => exact ⟨k + 1, by omega, by go_num, by rw [HE.out]; exact HO3.out, HB2.out.trans HB3.out⟩
        case measure => simp [intOf]; omega
    · have hk' : k = n := by omega
      subst hk'
      have HS := Shut.mk (show xs.take k = xs from List.take_of_length_le (by rw [HR.out.len]; omega))
      go_wp2
      go_ret
      exact ⟨_, rfl, by have := HO.out; rwa [HS.out] at this, HB.out⟩

/-! ### packets -/
theorem take_snoc' {α : Type} {l : List α} {k : Nat} (h : k < l.length) (d : α) : l.take (k + 1) = l.take k ++ [l.getD k d] := by
  rw [List.take_succ_eq_append_getElem h]
  simp [List.getD, h]
/-- the cells of a packet, its slice value given. -/
def pkC (p : Pk) (v : Value) : List Value := [.int .i64 p.id, .int .u32 p.flow, .int .i64 p.tid, .int .i64 p.at_, v]
def pk00 : Pk × Value := (⟨0, 0, 0, 0, []⟩, .slice none 0 0)
/-- a packet's value. -/
def pkV (p : Pk) (v : Value) : Value := .agg #[.int .i64 p.id, .int .u32 p.flow, .int .i64 p.tid, .int .i64 p.at_, v]
theorem pkC_len (p : Pk) (v : Value) : (pkC p v).length = 5 := rfl
theorem pkC_one (p : Pk) (a : Option Addr) (m c : Nat) : ∀ q ∈ pkC p (.slice a m c), q.oneCell' = true := by
  intro q hq
  simp [pkC] at hq
  rcases hq with rfl | rfl | rfl | rfl | rfl <;> rfl
theorem pkt_one (i f t a : Int) (A : Option Addr) (n c : Nat) : (#[Value.int .i64 i, .int .u32 f, .int .i64 t, .int .i64 a, .slice A n c]).all (·.oneCell') = true := by simp [Value.oneCell']
theorem size5 : (Try.prog.info? 32).map (·.size) = some 5 := by kernel_rfl
/-- packets in a row; in a row of the call's own. -/
def RowP (T : Nat → Prop) (w : World) (A : Option Addr) (l : List Pk) : Prop := RowK pkC Pk.body 5 pk00 T w A l.length l
def OwnP (T : Nat → Prop) (w : World) (B : Nat) (v : Value) (l : List Pk) : Prop := OwnK pkC Pk.body 5 T w B 32 v l.length l
/-- append of one packet. -/
theorem app_p {ops : Array Oper} {rest : List Oper} {o : Oper} {a : Act} {w : World} {Q : Exit → Act → World → Prop} (T : Nat → Prop) (hgd : o.guard = none) (s x : Operand)
    (ho : o.op = .call { callee := .builtin .append, args := #[s, x], argTypes := #[39, 39] })
    (B : Nat) (lv : Value) (l : List Pk) (hs : a.eval s = lv) (hP : OwnP T w B lv l) (u : Pk) (y : Value) (ad : Addr) (c : Nat) (hx : a.eval x = .slice (some ad) 1 c) (hc : ∀ j q, (pkC u y)[j]? = some q → w.cell? (ad.add j) = some q) (hu : ElK T w y u.body)
    (hlt : ∀ k, T k → k < w.heap.size) (hk : l.length ≤ 1000000) (hB : B ≤ w.heap.size)
    (h : ∀ v w', Shut (OwnP T w' B v (l ++ [u])) → Shut (Below B w w') → Shut (Only (fun j => lv.ownBlock = some j) w w') → Shut (∀ g, v.ownBlock = some g → lv.ownBlock = some g ∨ g = w.heap.size) → wpList Try.prog ops Q rest (a.put o.dst v) w') : wpList Try.prog ops Q (o :: rest) a w := by
  obtain ⟨i0, hi0, hz0, hz1, hz2⟩ := info_parts' pkt_info
  have h1 : ∀ q ∈ pkC u y, q.oneCell' = true := by
    obtain ⟨a, m, c, rfl, _⟩ := hu
    exact pkC_one _ _ _ _
  refine app_k (z := .agg #[.int .i64 0, .int .u32 0, .int .i64 0, .int .i64 0, .slice none 0 0]) hgd s x 39 ho 32 i0 56 Try.underlying39 hi0 hz0 hz1 hz2 rfl (by omega) B l.length lv hs hP u y ad c hx rfl hc h1 hu hlt (by omega) (by omega) hB ?_
  intro g cap w' h2 h3 h4 h5
  refine h _ w' ⟨by unfold OwnP; rw [List.length_append]; exact h2⟩ ⟨h3⟩ ⟨h4⟩ ⟨fun g' hg' => ?_⟩
  have e1 : g' = g := by simpa [Value.ownBlock] using hg'.symm
  rw [e1]; exact h5
theorem below_setRow {B : Nat} {a w : World} (h : Below B a w) {g : Nat} (hg : B ≤ g) (cs : Array Value) : Below B a (w.setRow g cs) :=
  h.trans ⟨rfl, rfl, rfl, by simp [World.setRow], fun k hk => setRow_other w g k cs (by omega)⟩
theorem owns_other {w : World} {B n m g h : Nat} {e : TypeId} {cap : Nat} {xs : List Value} {cs : Array Value} (ho : w.ownsRow B e m (.slice (some ⟨g, 0, none⟩) n cap) n xs) (hh : g ≠ h) : (w.setRow h cs).ownsRow B e m (.slice (some ⟨g, 0, none⟩) n cap) n xs :=
  owns_only ho ((Only.refl (· = h) w).setRow (fun _ => rfl) cs) fun g' hg' e => by
    have : g' = g := by simpa [Value.ownBlock] using hg'.symm
    omega
theorem owns_base {w : World} {B B' n m : Nat} {e : TypeId} {v : Value} {xs : List Value} (ho : w.ownsRow B e m v n xs) (hB : B' ≤ B) : w.ownsRow B' e m v n xs := by
  refine ⟨ho.1, ?_⟩
  rcases ho.2 with h0 | ⟨g, cap, cur, hv, hb, rest⟩
  · exact .inl h0
  · exact .inr ⟨g, cap, cur, hv, by omega, rest⟩
set_option maxRecDepth 100000 in
set_option maxHeartbeats 8000000 in
/-- Packet: its own bytes, in new memory. -/
theorem packet_any (p : Pk) (A : Option Addr) (n c : Nat) (w : World) (h : RowB .u8 w A n p.body) (hn : n ≤ 1000000000) :
    Calls Try.prog 45 #[pkV p (.slice A n c)] w fun e w' => ∃ g cap, e = .returned (pkV p (.slice (some ⟨g, 0, none⟩) n cap)) ∧ OwnB w' w.heap.size 5 .u8 g n cap p.body ∧ Below w.heap.size w w' := by
  obtain ⟨pi, pf, pt, pa, pb⟩ := p
  unfold pkV
  have HR := Shut.mk h
  have HN := Shut.mk hn
  clear h
  go_enter Try.func45, Try.ntmps45
  have H2 := Shut.mk (two_alloc w (Obj.cells #[.int .i64 pi, .int .u32 pf, .int .i64 pt, .int .i64 pa, .slice A n c] 32 (0, 0)) (Obj.cells #[.int .i64 0, .int .u32 0, .int .i64 0, .int .i64 0, .slice none 0 0] 32 (0, 0)))
  go_wp2_with (fail)
  generalize (w.alloc _).alloc _ = w1 at *
  refine (bytes_any A n c pb _ (HR.out.below H2.out.1) HN.out).mono ?_
  rintro e w2 ⟨g, cap, rfl, hO, hB⟩
  have HO := Shut.mk hO
  have HB := Shut.mk hB
  have HS := Shut.mk H2.out.2.2.2
  have HBX := Shut.mk ((hB.block _ (lt_blk H2.out.2.1)).trans H2.out.2.1)
  have HRX := Shut.mk ((hB.block _ (lt_blk H2.out.2.2.1)).trans H2.out.2.2.1)
  have HBW := Shut.mk (H2.out.1.trans (hB.mono (Nat.le_of_lt (by rw [H2.out.2.2.2]; omega))))
  clear hO hB
  generalize hs0 : w.heap.size = s at *
  have HX1 := Shut.mk (setRow_heap w2 s _ #[.int .i64 pi, .int .u32 pf, .int .i64 pt, .int .i64 pa, .slice (some ⟨g, 0, none⟩) n cap] _ (0, 0) HBX.out)
  have HX2 := Shut.mk ((setRow_other w2 s (s + 1) #[.int .i64 pi, .int .u32 pf, .int .i64 pt, .int .i64 pa, .slice (some ⟨g, 0, none⟩) n cap] (by omega)).trans HRX.out)
  have HX3 := Shut.mk (setRow_heap (w2.setRow s #[.int .i64 pi, .int .u32 pf, .int .i64 pt, .int .i64 pa, .slice (some ⟨g, 0, none⟩) n cap]) (s + 1) _ #[.int .i64 pi, .int .u32 pf, .int .i64 pt, .int .i64 pa, .slice (some ⟨g, 0, none⟩) n cap] _ (0, 0) HX2.out)
  have hge : s + 2 ≤ g := by have := HO.out.lt.1; rw [HS.out] at this; exact this
  have HGE := Shut.mk hge
  clear hge
  have HOE : Shut (OwnB ((w2.setRow s #[.int .i64 pi, .int .u32 pf, .int .i64 pt, .int .i64 pa, .slice (some ⟨g, 0, none⟩) n cap]).setRow (s + 1) #[.int .i64 pi, .int .u32 pf, .int .i64 pt, .int .i64 pa, .slice (some ⟨g, 0, none⟩) n cap]) s 5 .u8 g n cap pb) :=
    ⟨owns_other (owns_other (owns_base HO.out (by rw [HS.out]; omega)) (by have := HGE.out; omega)) (by have := HGE.out; omega)⟩
  have HBE := Shut.mk (below_setRow (below_setRow HBW.out (g := s) (Nat.le_refl _) #[.int .i64 pi, .int .u32 pf, .int .i64 pt, .int .i64 pa, .slice (some ⟨g, 0, none⟩) n cap]) (g := s + 1) (by omega) #[.int .i64 pi, .int .u32 pf, .int .i64 pt, .int .i64 pa, .slice (some ⟨g, 0, none⟩) n cap])
  go_wp2_with (first
    | (refine wpList_store_into rfl 30 (.tmp 6) (.tmp 5) rfl s 4 (.slice (some ⟨g, 0, none⟩) n cap) rfl rfl rfl 32 _ #[.int .i64 pi, .int .u32 pf, .int .i64 pt, .int .i64 pa, .slice (some ⟨g, 0, none⟩) n cap] HBX.out rfl (by show 4 < 5; omega) rfl ?_)
    | (refine wpList_load_row rfl 32 (.tmp 1) rfl s rfl 32 #[.int .i64 pi, .int .u32 pf, .int .i64 pt, .int .i64 pa, .slice (some ⟨g, 0, none⟩) n cap] (0, 0) _ HX1.out Try.underlying32 rfl size5 ?_)
    | (refine wpList_store_row rfl 32 (.tmp 2) (.tmp 7) rfl (s + 1) #[.int .i64 pi, .int .u32 pf, .int .i64 pt, .int .i64 pa, .slice (some ⟨g, 0, none⟩) n cap] rfl rfl 32 _ HX2.out size5 rfl (pkt_one _ _ _ _ _ _ _) ?_))
  exact bodyPost_ret (v := .agg #[.int .i64 pi, .int .u32 pf, .int .i64 pt, .int .i64 pa, .slice (some ⟨g, 0, none⟩) n cap]) (results_cell1 (p := 2) Try.results45 _ _ (s + 1) _ _ _ _ rfl HX3.out Try.underlying32 rfl size5) rfl ⟨g, cap, rfl, by rw [hs0]; exact HOE.out, by rw [hs0]; exact HBE.out⟩

set_option maxRecDepth 100000 in
set_option maxHeartbeats 8000000 in
/-- Packets: a row of its own; the same bodies. -/
theorem packets_any (T : Nat → Prop) (A : Option Addr) (c : Nat) (l : List Pk) (w : World) (h : RowP T w A l) (hn : l.length ≤ 100000) (hT : ∀ k, T k → k < w.heap.size) :
    Calls Try.prog 32 #[.slice A l.length c] w fun e w' => ∃ u, e = .returned u ∧ OwnP T w' w.heap.size u l ∧ Below w.heap.size w w' ∧ ∀ g, u.ownBlock = some g → w.heap.size ≤ g := by
  obtain ⟨i0, hi0, hz0, hz1, hz2⟩ := info_parts' pkt_info
  have HR := Shut.mk h
  have HT := Shut.mk hT
  clear h hT
  go_enter Try.func32, Try.ntmps32
  go_wp2_with (at_make; refine wpList_make_own _ rfl _ _ 39 rfl w.heap.size 32 i0 (.agg #[.int .i64 0, .int .u32 0, .int .i64 0, .int .i64 0, .slice none 0 0]) 5 Try.underlying39 hi0 hz0 hz1 _ _ _ l.length rfl rfl (by omega) (by rw [hz2]; omega) (by unfold maxLen; omega) (Nat.le_refl _) ?_; intro w1 hown1 hgrow1)
  have HO := Shut.mk (show OwnP T w1 w.heap.size (.slice (some ⟨w.heap.size, 0, none⟩) 0 l.length) (l.take 0) from
    ⟨[], ⟨hown1, rfl⟩, rfl, fun p hp => (by cases hp), fun g hg ht => by
      have e : g = w.heap.size := by simpa [Value.ownBlock] using hg.symm
      have := HT.out g ht
      omega⟩)
  have HB := Shut.mk ((Below.refl w.heap.size w).grown hgrow1 (Nat.le_refl _) (by simp))
  clear hown1 hgrow1
  go_loopw [3, 4] (fun u i wr => ∃ k : Nat, k ≤ l.length ∧ i = .int .i64 k ∧ OwnP T wr w.heap.size u (l.take k) ∧ Below w.heap.size w wr ∧ ∀ g, u.ownBlock = some g → w.heap.size ≤ g) (fun _ i _ => l.length - (intOf i).toNat)
  case atStart => exact ⟨0, by omega, rfl, HO.out, HB.out, fun g hg => by simp [Value.ownBlock] at hg; omega⟩
  case round =>
    obtain ⟨k, hk, rfl, hown, hbel, hge⟩ := hrel
    have HO2 := Shut.mk hown
    have HB2 := Shut.mk hbel
    have HG2 := Shut.mk hge
    clear hown hbel hge HO HB
    by_cases hlt : k < l.length
    · obtain ⟨b, off, aa, m, cc, rfl, hrg, hrb, hmc, ht⟩ := (RowK.below HR.out (HB2.out.mono (Nat.le_refl _))).el k hlt
      have HS := Shut.mk (show l.take (k + 1) = l.take k ++ [l.getD k pk00.1] from take_snoc' hlt _)
      have HE := Shut.mk (show ElK T wr (.slice aa m cc) (l.getD k pk00.1).body from ElK.of hrb hmc ht)
      have HRG := Shut.mk hrg
      have HK := Shut.mk (show (l.take k).length ≤ 100000 by rw [List.length_take]; omega)
      clear hrg hrb hmc ht
      generalize l.getD k pk00.1 = p at *
      obtain ⟨pi, pf, pt, pa, pb⟩ := p
      have HBA := Shut.mk ((Below.refl wr.heap.size wr).alloc (Nat.le_refl _) (.cells #[.int .i64 pi, .int .u32 pf, .int .i64 pt, .int .i64 pa, .slice aa m cc] 32 (0, 0)))
      have HX := Shut.mk (block_range (MapKept.heap_alloc wr (.cells #[.int .i64 pi, .int .u32 pf, .int .i64 pt, .int .i64 pa, .slice aa m cc] 32 (0, 0))).1)
      go_wp2_with (first
        | (refine wpList_load_mid rfl 32 (.tmp 17) rfl b (off + k * 5) rfl [.int .i64 pi, .int .u32 pf, .int .i64 pt, .int .i64 pa, .slice aa m cc] _ HRG.out Try.underlying32 rfl size5 ?_)
        | (refine app_p T rfl (.tmp 14) (.tmp 19) rfl w.heap.size _ _ rfl (HO2.out.below HBA.out) ⟨pi, pf, pt, pa, pb⟩ (.slice aa m cc) ⟨wr.heap.size, 0, none⟩ 1 rfl (fun j q hq => by rw [Addr.add_mid]; exact HX.out j q hq) (HE.out.below HBA.out) (fun q hq => Nat.lt_of_lt_of_le (HT.out q hq) (Nat.le_trans HB2.out.size HBA.out.size)) (by have := HK.out; omega) (Nat.le_trans HB2.out.size HBA.out.size) ?_; intro u2 w2 HO3 HB3 HY HZ))
      refine ⟨⟨k + 1, by omega, by go_num, by rw [HS.out]; exact HO3.out, (HB2.out.trans (HBA.out.mono HB2.out.size)).trans HB3.out, fun g hg => ?_⟩, by simp [intOf]; omega⟩
      rcases HZ.out g hg with h1 | h1
      · exact HG2.out g h1
      · rw [h1]; exact Nat.le_trans HB2.out.size HBA.out.size
    · have hk' : k = l.length := by omega
      subst hk'
      have HS := Shut.mk (show l.take l.length = l from List.take_length)
      go_wp2
      go_ret
      exact ⟨_, rfl, by have := HO2.out; rwa [HS.out] at this, HB2.out, HG2.out⟩

set_option maxRecDepth 100000 in
set_option maxHeartbeats 8000000 in
/-- SamePacket of one packet, wherever its bytes lie. -/
theorem samepkt_any (p : Pk) (A B : Option Addr) (n ca m cb : Nat) (w : World) (ha : RowB .u8 w A n p.body) (hb : RowB .u8 w B m p.body) :
    Calls Try.prog 19 #[pkV p (.slice A n ca), pkV p (.slice B m cb)] w fun e w' => e = .returned (.bool true) ∧ Below w.heap.size w w' := by
  obtain ⟨pi, pf, pt, pa, pb⟩ := p
  unfold pkV
  have HA := Shut.mk ha
  have HB := Shut.mk hb
  have HS := Shut.mk (show sameB pb pb = true by simp [sameB])
  clear ha hb
  have H2 := Shut.mk (two_alloc w (Obj.cells #[.int .i64 pi, .int .u32 pf, .int .i64 pt, .int .i64 pa, .slice A n ca] 32 (0, 0)) (Obj.cells #[.int .i64 pi, .int .u32 pf, .int .i64 pt, .int .i64 pa, .slice B m cb] 32 (0, 0)))
  have e1 : (pi == pi) = true := by simp
  have e2 : (pf == pf) = true := by simp
  have e3 : (pt == pt) = true := by simp
  have e4 : (pa == pa) = true := by simp
  go_enter Try.func19, Try.ntmps19
  go_wp2_with (fail)
  generalize (w.alloc _).alloc _ = w1 at *
  refine (same_any A B n ca m cb pb pb _ (HA.out.below H2.out.1) (HB.out.below H2.out.1)).mono ?_
  rintro e wn ⟨rfl, q, rfl⟩
  rw [HS.out]
  go_wp2
  go_ret
  exact ⟨rfl, below_drewN H2.out.1 _⟩
end Go.Proofs.Ytaibopaagjodoaa
