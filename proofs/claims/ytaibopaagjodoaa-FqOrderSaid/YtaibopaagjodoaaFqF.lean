/-
  CONTRACTS of bytes.Clone (any slice), of fq's copied; rows of packets and of items that begin anywhere; the first of slices.Contains, Delete.
-/
import Derived.Test.YtaibopaagjodoaaFqA
import Derived.Test.YtaibopaagjodoaaTailR
import Derived.Test.YtaibopaagjodoaaHeldD
import Derived.Lib.SliceRun
namespace Go.Proofs.Ytaibopaagjodoaa
open Go.ChangeShapes Go.WideShapes Go.ChangeAt Go.RowKit Go.Deep
set_option linter.unusedVariables false
set_option linter.unusedSimpArgs false

/-- bytes of the call's own, nil let in. -/
def OwnV (w : World) (B : Nat) (v : Value) (xs : List Int) : Prop := w.ownsRow B 5 1 v xs.length (xs.map (Value.int .u8))
theorem owns_form {w : World} {B n size : Nat} {e : TypeId} {v : Value} {xs : List Value} (h : w.ownsRow B e size v n xs) : ∃ A c, v = .slice A n c ∧ n ≤ c := by
  rcases h.2 with ⟨rfl, rfl⟩ | ⟨g, cap, cur, rfl, -, -, hc, -⟩
  · exact ⟨none, 0, rfl, Nat.le_refl _⟩
  · exact ⟨_, _, rfl, hc⟩
theorem owns_setRow {w : World} {B n m h : Nat} {e : TypeId} {v : Value} {xs : List Value} {cs : Array Value} (ho : w.ownsRow B e m v n xs) (hh : ∀ g, v.ownBlock = some g → g ≠ h) : (w.setRow h cs).ownsRow B e m v n xs :=
  owns_only ho ((Only.refl (· = h) w).setRow (fun _ => rfl) cs) fun g hg e => hh g hg e
theorem owns_below {w w' : World} {B n m : Nat} {e : TypeId} {v : Value} {xs : List Value} (ho : w.ownsRow B e m v n xs) (hb : Below w.heap.size w w') : w'.ownsRow B e m v n xs :=
  owns_only (S := fun _ => False) ho (Only.of_quiet hb) fun _ _ h => h
theorem OwnV.el {T : Nat → Prop} {w : World} {B : Nat} {v : Value} {xs : List Int} (h : OwnV w B v xs) (hl : xs.length ≤ maxLen) (hw : ∀ i, i < xs.length → IntKind.u8.min ≤ xs.getD i 0 ∧ xs.getD i 0 ≤ IntKind.u8.max) (hT : ∀ g, v.ownBlock = some g → T g) : ElK T w v xs := by
  rcases h.2 with ⟨rfl, h0⟩ | ⟨g, cap, cur, rfl, hb, hg, hc, hm, hs, ht⟩
  · have : xs = [] := List.eq_nil_of_length_eq_zero h0
    subst this
    exact ElK.nil T w
  · have hO : OwnB w B 5 .u8 g xs.length cap xs := h
    exact ElK.of (hO.row hw) hc fun _ p hp => by cases hp; exact hT g rfl

set_option maxRecDepth 100000 in
set_option maxHeartbeats 4000000 in
theorem clone_any (A : Option Addr) (n c : Nat) (xs : List Int) (w : World) (h : RowB .u8 w A n xs) (hn : n ≤ 1000000000) :
    Calls Try.prog 65 #[.slice A n c] w fun e w' => ∃ v, e = .returned v ∧ OwnV w' w.heap.size v xs ∧ Below w.heap.size w w' := by
  obtain rfl := h.len
  cases A with
  | none =>
    have h0 : xs = [] := by
      by_cases hp : 0 < xs.length
      · obtain ⟨b, off, e, -⟩ := h.cells hp; cases e
      · exact List.eq_nil_of_length_eq_zero (by omega)
    subst h0
    have hq := Lib.run_eql_slice_nil (P := Try.prog) w 30 5 none 0 c 0 0 Try.underlying30
    simp only [Option.isNone_none] at hq
    clear h
    simp only [List.length_nil] at *
    go_enter Try.func65, Try.ntmps65
    go_wp2
    go_ret
    exact ⟨_, rfl, World.ownsRow_nil _ _ _ _, Below.refl _ _⟩
  | some ad =>
    obtain ⟨i0, hi0, hz0, hz1, hz2⟩ := info_parts' byte_info
    have HN := Shut.mk (show ∀ j u, (xs.map (Value.int .u8))[j]? = some u → (w.alloc (.cells #[] 5)).cell? (ad.add j) = some u from fun j u hu => by
      simp only [List.getElem?_map, Option.map_eq_some_iff] at hu
      obtain ⟨x, hx, rfl⟩ := hu
      have hj : j < xs.length := (List.getElem?_eq_some_iff.1 hx).1
      obtain ⟨b', off', e, hc⟩ := h.el j hj
      cases e
      rw [Addr.add_mid]
      have hx' : xs.getD j 0 = x := by simp [List.getD, hx]
      rw [hx'] at hc
      exact below_at ((Below.refl w.heap.size w).alloc (Nat.le_refl _) _) hc)
    have HO := Shut.mk (show (w.alloc (.cells #[] 5)).ownsRow w.heap.size 5 1 (.slice (some ⟨w.heap.size, 0, none⟩) 0 0) 0 [] from World.ownsRow_lit w #[] 0 (Nat.le_refl _) (by unfold maxLen; omega) rfl)
    have HB := Shut.mk ((Below.refl w.heap.size w).alloc (Nat.le_refl _) (.cells #[] 5))
    have hq := Lib.run_eql_slice_nil (P := Try.prog) w 30 5 (some ad) xs.length c 0 0 Try.underlying30
    simp only [Option.isNone_some] at hq
    have HZ := Shut.mk (show (xs.map (Value.int .u8)).length = xs.length * 1 by simp)
    clear h
    go_enter Try.func65, Try.ntmps65
    go_wp2_with (at_builtin; refine wpList_append_own _ rfl (.tmp 5) (.tmp 6) 30 rfl w.heap.size 5 i0 _ 1 1 Try.underlying30 hi0 hz0 hz1 hz2 rfl (by omega) (.slice (some ⟨w.heap.size, 0, none⟩) 0 0) 0 [] rfl HO.out ad xs.length c (xs.map (Value.int .u8)) rfl HZ.out HN.out (by intro u hu; simp at hu; obtain ⟨x, _, rfl⟩ := hu; rfl) (by unfold maxLen; omega) (by omega) (by simp) ?_; intro v' w2 hown' hgrow' hnil)
    have HB3 := Shut.mk (HB.out.grown hgrow' (by simp) (by intro q hq; simp [Value.ownBlock] at hq; omega))
    have HO3 := Shut.mk (show OwnV w2 w.heap.size v' xs by have := hown'; rw [Nat.zero_add] at this; exact this)
    obtain ⟨A', c', e', -⟩ := owns_form hown'
    clear hown' hgrow' hnil
    subst e'
    go_wp2
    go_ret
    exact ⟨_, rfl, HO3.out, HB3.out⟩

set_option maxRecDepth 100000 in
set_option maxHeartbeats 8000000 in
/-- copied: its own bytes. -/
theorem copied_any (p : Pk) (A : Option Addr) (n c : Nat) (w : World) (h : RowB .u8 w A n p.body) (hn : n ≤ 1000000000) :
    Calls Try.prog 56 #[pkV p (.slice A n c)] w fun e w' => ∃ v, e = .returned (pkV p v) ∧ OwnV w' w.heap.size v p.body ∧ Below w.heap.size w w' := by
  obtain ⟨pi, pf, pt, pa, pb⟩ := p
  unfold pkV
  have HR := Shut.mk h
  have HN := Shut.mk hn
  clear h
  go_enter Try.func56, Try.ntmps56
  have H2 := Shut.mk (two_alloc w (Obj.cells #[.int .i64 pi, .int .u32 pf, .int .i64 pt, .int .i64 pa, .slice A n c] 32 (0, 0)) (Obj.cells #[.int .i64 0, .int .u32 0, .int .i64 0, .int .i64 0, .slice none 0 0] 32 (0, 0)))
  go_wp2_with (fail)
  generalize (w.alloc _).alloc _ = w1 at *
  refine (clone_any A n c pb _ (HR.out.below H2.out.1) HN.out).mono ?_
  rintro e w2 ⟨v, rfl, hO, hB⟩
  have HO := Shut.mk hO
  have HB := Shut.mk hB
  have HS := Shut.mk H2.out.2.2.2
  have HBX := Shut.mk ((hB.block _ (lt_blk H2.out.2.1)).trans H2.out.2.1)
  have HRX := Shut.mk ((hB.block _ (lt_blk H2.out.2.2.1)).trans H2.out.2.2.1)
  have HBW := Shut.mk (H2.out.1.trans (hB.mono (Nat.le_of_lt (by rw [H2.out.2.2.2]; omega))))
  obtain ⟨A', c', e', -⟩ := owns_form hO
  subst e'
  clear hO hB
  generalize hs0 : w.heap.size = s at *
  obtain ⟨v', hv'⟩ : ∃ v', v' = Value.slice A' pb.length c' := ⟨_, rfl⟩
  have HV := Shut.mk hv'
  have HX1 := Shut.mk (setRow_heap w2 s _ #[.int .i64 pi, .int .u32 pf, .int .i64 pt, .int .i64 pa, Value.slice A' pb.length c'] _ (0, 0) HBX.out)
  have HX2 := Shut.mk ((setRow_other w2 s (s + 1) #[.int .i64 pi, .int .u32 pf, .int .i64 pt, .int .i64 pa, Value.slice A' pb.length c'] (by omega)).trans HRX.out)
  have HX3 := Shut.mk (setRow_heap (w2.setRow s #[.int .i64 pi, .int .u32 pf, .int .i64 pt, .int .i64 pa, Value.slice A' pb.length c']) (s + 1) _ #[.int .i64 pi, .int .u32 pf, .int .i64 pt, .int .i64 pa, Value.slice A' pb.length c'] _ (0, 0) HX2.out)
  have HGE := Shut.mk (show ∀ g, (Value.slice A' pb.length c').ownBlock = some g → s + 2 ≤ g from fun g hg => by have := (World.ownsRow.lt HO.out g hg).1; rw [HS.out] at this; exact this)
  have HOE : Shut (OwnV ((w2.setRow s #[.int .i64 pi, .int .u32 pf, .int .i64 pt, .int .i64 pa, Value.slice A' pb.length c']).setRow (s + 1) #[.int .i64 pi, .int .u32 pf, .int .i64 pt, .int .i64 pa, Value.slice A' pb.length c']) s (Value.slice A' pb.length c') pb) :=
    ⟨owns_setRow (owns_setRow (owns_base HO.out (by rw [HS.out]; omega)) (fun g hg => by have := HGE.out g hg; omega)) (fun g hg => by have := HGE.out g hg; omega)⟩
  have HBE := Shut.mk (below_setRow (below_setRow HBW.out (g := s) (Nat.le_refl _) #[.int .i64 pi, .int .u32 pf, .int .i64 pt, .int .i64 pa, Value.slice A' pb.length c']) (g := s + 1) (by omega) #[.int .i64 pi, .int .u32 pf, .int .i64 pt, .int .i64 pa, Value.slice A' pb.length c'])
  clear HV hv'
  go_wp2_with (first
    | (refine wpList_store_into rfl 30 (.tmp 6) (.tmp 5) rfl s 4 (Value.slice A' pb.length c') rfl rfl rfl 32 _ #[.int .i64 pi, .int .u32 pf, .int .i64 pt, .int .i64 pa, Value.slice A' pb.length c'] HBX.out rfl (by show 4 < 5; omega) rfl ?_)
    | (refine wpList_load_row rfl 32 (.tmp 1) rfl s rfl 32 #[.int .i64 pi, .int .u32 pf, .int .i64 pt, .int .i64 pa, Value.slice A' pb.length c'] (0, 0) _ HX1.out Try.underlying32 rfl size5 ?_)
    | (refine wpList_store_row rfl 32 (.tmp 2) (.tmp 7) rfl (s + 1) #[.int .i64 pi, .int .u32 pf, .int .i64 pt, .int .i64 pa, Value.slice A' pb.length c'] rfl rfl 32 _ HX2.out size5 rfl (pkt_one _ _ _ _ _ _ _) ?_))
  exact bodyPost_ret (v := .agg #[.int .i64 pi, .int .u32 pf, .int .i64 pt, .int .i64 pa, Value.slice A' pb.length c']) (results_cell1 (p := 2) Try.results56 _ _ (s + 1) _ _ _ _ rfl HX3.out Try.underlying32 rfl size5) rfl ⟨_, rfl, by rw [hs0]; exact HOE.out, by rw [hs0]; exact HBE.out⟩
end Go.Proofs.Ytaibopaagjodoaa
