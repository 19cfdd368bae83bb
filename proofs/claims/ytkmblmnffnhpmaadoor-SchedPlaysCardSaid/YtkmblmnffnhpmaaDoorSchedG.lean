/-
  CONTRACTS of package sched: join, charge.
-/
import Derived.Test.YtkmblmnffnhpmaaDoorSchedE
import Derived.StillTailTactics
import Derived.LoopTactic
import Derived.Lib.MinMax
namespace Go.Proofs.YtkmblmnffnhpmaaDoor
open Go.ChangeShapes Go.WideShapes Go.ChangeAt Go.RowKit Go.Deep
set_option linter.unusedVariables false
set_option linter.unusedSimpArgs false

section
variable {T : TypeId} {w w' : World} {g : Nat} {x y : Nat → Int} {v : Value} {l l' : List Int}
theorem step_put_y {ops : Array Oper} {op : Oper} {ac : Act} {K : Act → World → Prop} {Q : Exit → Act → World → Prop} {E : Prop} (hgd : Region.wanted op (yielded ops ac.tmps) = true) (ty : TypeId) (p q : Operand) (ho : op.op = .store ty p q)
    (T : TypeId) (g a : Nat) (x y : Nat → Int) (v : Value) (u : Int) (hx : ac.eval p = .pointer (some ⟨g, a * 2 + 1, none⟩)) (hy : ac.eval q = .int .i64 u) (hB : At35 T w g x y v) (ha : a < 17) (hs : (Tryd.prog.info? ty).map (·.size) = some 1)
    (h : ∀ w', Shut (At35 T w' g x (upX y a u) v) → Shut (Only (· = g) w w') → K (ac.put op.dst undef) w') : if Region.wanted op (yielded ops ac.tmps) = true then Oper.wp Tryd.prog op ac w K Q else E :=
  step_store_into hgd ty p q ho g (a * 2 + 1) (.int .i64 u) hx hy rfl T (c35 x y v) (c35 x (upX y a u) v) hB hs (by show a * 2 + 1 < 35; omega) (set_y x y v ha u) (h _ ⟨setRow_heap w g _ (c35 x (upX y a u) v) _ (0, 0) hB⟩ ⟨only_setRow w g _⟩)
theorem upX_same (y : Nat → Int) (a : Nat) (u : Int) : upX y a u a = u := if_pos rfl
theorem upX_ne {y : Nat → Int} {a k : Nat} {u : Int} (h : k ≠ a) : upX y a u k = y k := if_neg h
theorem TuE.after {w2 : World} (hO : Only (· = g) w w2) (h : TuE T g x y v w2 w' l') : TuE T g x y v w w' l' := by
  obtain ⟨v', h1, h2, h3⟩ := h
  exact ⟨v', h1, (hO.mono (T := FootT g v) fun _ _ e => .inl e).trans h2 (fun _ _ e => e), fun k hk => (h3 k hk).imp_right (Nat.le_trans hO.size)⟩
/-- one's time anew, who is not in the heap. -/
theorem IsT.newtime (h : IsT T w g x y v l) {a : Nat} {u : Int} (hB : At35 T w' g x (upX y a u) v) (hO : Only (· = g) w w') (hn : (a : Int) ∉ l) : IsT T w' g x (upX y a u) v l :=
  ⟨hB, h.row.only hO fun k hk e => h.ne k hk e, h.ne, h.aid, h.nd, heap_congr h.heap fun b hb => upX_ne fun e => hn (by have := h.aid b hb; rw [← e, Int.toNat_of_nonneg this.1]; exact hb)⟩
end
/-! ### join -/
set_option maxRecDepth 100000 in
set_option maxHeartbeats 8000000 in
theorem join_in (T : TypeId) (g : Nat) (x y : Nat → Int) (v : Value) (l : List Int) (a : Int) (w : World) (h : IsT T w g x y v l) (ha : a ∈ l) :
    Calls Tryd.prog 39 #[.pointer (some ⟨g, 0, none⟩), .int .i64 a] w fun e w' => e = .returned (.tuple #[]) ∧ w = w' := by
  have HX := Shut.mk h
  have HA := Shut.mk ha
  clear h ha
  go_enter Tryd.func39, Tryd.ntmps39
  go_wp2_with (fail)
  refine (place_any T g x y v l a w HX.out).mono ?_
  rintro e w' ⟨he, rfl⟩
  rcases he with ⟨k, hk, hka, rfl⟩ | ⟨hna, rfl⟩
  · have hk0 : (0 : Int) ≤ (k : Int) := by omega
    clear hk hka
    go_wp2_with (fail)
    refine bodyPost_ret (results_none (fn := Tryd.f39) rfl _ _ _) rfl ?_
    exact ⟨rfl, rfl⟩
  · exact absurd HA.out hna
/-- what Push makes. -/
theorem push_tu (T : TypeId) (g : Nat) (x y : Nat → Int) (v : Value) (l : List Int) (a : Nat) (w : World) (h : IsT T w g x y v l) (ha : a < 17) (hn : (a : Int) ∉ l) :
    Calls Tryd.prog 47 #[.iface 66 (.pointer (some ⟨g, 0, none⟩)), .iface 3 (.int .i64 (a : Int))] w fun e w' => e = .returned (.tuple #[]) ∧ ∃ l', TuE T g x y v w w' l' ∧ ∀ b, b ∈ l' ↔ b ∈ l ∨ b = (a : Int) := by
  refine (push_any (obj_tu T (fun k => FootT g v k ∨ w.heap.size ≤ k) g x y) l (a : Int) _ w (meth_push T _ g x y w l (a : Int) h.tu (by have := h.few; omega) ⟨by omega, by omega⟩ fun k hk => .inr hk) h.heap).mono ?_
  rintro e w' ⟨rfl, ⟨l', h1, h2, h3⟩, h4⟩
  refine ⟨rfl, l', TuE.of (fun k hk => hk) h1 h3 (h2.nodup_iff.2 ?_) h4, fun b => ?_⟩
  · rw [List.nodup_append]
    exact ⟨h.nd, List.pairwise_singleton _ _, fun b hb c hc e => hn (by rw [List.mem_singleton.1 hc] at e; exact e ▸ hb)⟩
  · rw [h2.mem_iff, List.mem_append, List.mem_singleton]
set_option maxRecDepth 100000 in
set_option maxHeartbeats 8000000 in
theorem join_first (T : TypeId) (g : Nat) (x y : Nat → Int) (v : Value) (a : Nat) (w : World) (h : IsT T w g x y v []) (ha : a < 17) :
    Calls Tryd.prog 39 #[.pointer (some ⟨g, 0, none⟩), .int .i64 (a : Int)] w fun e w' => e = .returned (.tuple #[]) ∧ ∃ l', TuE T g x y v w w' l' ∧ ∀ b, b ∈ l' ↔ b = (a : Int) := by
  have HX := Shut.mk h
  have HA := Shut.mk ha
  clear h ha
  go_enter Tryd.func39, Tryd.ntmps39
  go_wp2_with (fail)
  refine (place_any T g x y v [] a w HX.out).mono ?_
  rintro e w' ⟨he, rfl⟩
  rcases he with ⟨k, hk, hka, rfl⟩ | ⟨hna, rfl⟩
  · exact absurd hk (by simp)
  · clear hna
    go_wp2_with (fail)
    refine (show Calls Tryd.prog 30 #[.pointer (some ⟨g, 0, none⟩)] w (fun r w' => r = .returned (.int .i64 0) ∧ w = w') from len_tu T _ g x y w [] HX.out.tu).mono ?_
    rintro e w' ⟨rfl, rfl⟩
    go_wp2_with (fail)
    refine (push_tu T g x y v [] a w HX.out HA.out (by simp)).mono ?_
    rintro e w' ⟨rfl, hE⟩
    have HE := Shut.mk hE
    clear hE
    go_wp2_with (fail)
    refine bodyPost_end (results_none (fn := Tryd.f39) rfl _ _ _) rfl ?_
    obtain ⟨l', h1, h2⟩ := HE.out
    exact ⟨rfl, l', h1, fun b => by rw [h2]; simp⟩
set_option maxRecDepth 100000 in
set_option maxHeartbeats 8000000 in
theorem join_next (T : TypeId) (g : Nat) (x y : Nat → Int) (v : Value) (l : List Int) (a : Nat) (w : World) (h : IsT T w g x y v l) (ha : a < 17) (hn : (a : Int) ∉ l) (hl : 0 < l.length) (z : Int) (hz : z = max (y a) (y (l.getD 0 0).toNat)) :
    Calls Tryd.prog 39 #[.pointer (some ⟨g, 0, none⟩), .int .i64 (a : Int)] w fun e w' => e = .returned (.tuple #[]) ∧ ∃ l', TuE T g x (upX y a z) v w w' l' ∧ ∀ b, b ∈ l' ↔ b ∈ l ∨ b = (a : Int) := by
  obtain ⟨b, o, cap, c, h1, h2, -, -, -, h6, h7, h8⟩ := h.tu.el hl
  obtain ⟨v0, hv0⟩ : ∃ v0 : Value, v0 = .slice (some ⟨b, o, none⟩) l.length cap := ⟨_, rfl⟩
  have hvv : v = v0 := by
    have e := h.at_.cv.symm.trans h1.cv
    simp only [Option.some.injEq] at e
    rw [hv0]; exact e
  have HX := Shut.mk h
  have HA := Shut.mk ha
  have HNI := Shut.mk hn
  have HB := Shut.mk h.at_
  have HF := Shut.mk h.few
  have HLT := Shut.mk fun k (hk : FootT g v k) => h.lt k hk
  rw [h8, Int.toNat_natCast] at hz
  have hya := h.at_.cy ha
  have hyc := h.at_.cy h7
  obtain ⟨p, hp⟩ : ∃ p, p = y a := ⟨_, rfl⟩
  obtain ⟨q, hq⟩ : ∃ q, q = y c := ⟨_, rfl⟩
  rw [← hp] at hya hz
  rw [← hq] at hyc hz
  have hsl := h1.cv
  obtain ⟨n, hnn⟩ : ∃ n, n = l.length := ⟨_, rfl⟩
  rw [← hnn] at hsl hl
  have HLEN := Shut.mk (len_tu T _ g x y w l h.tu)
  rw [← hnn] at HLEN
  have HYA := Shut.mk fun (w' : World) (hb : Below w.heap.size w w') => show w'.cell? ⟨g, a * 2 + 1, none⟩ = some (.int .i64 p) from below_at hb hya
  have HYC := Shut.mk fun (w' : World) (hb : Below w.heap.size w w') => show w'.cell? ⟨g, c * 2 + 1, none⟩ = some (.int .i64 q) from below_at hb hyc
  have HSL := Shut.mk fun (w' : World) (hb : Below w.heap.size w w') => show w'.cell? ⟨g, 34, none⟩ = some (.slice (some ⟨b, o, none⟩) n cap) from below_at hb hsl
  have HX0 := Shut.mk fun (w' : World) (hb : Below w.heap.size w w') => show w'.cell? ⟨b, o, none⟩ = some (.int .i64 (c : Int)) from below_at hb h6
  have ha0 : (0 : Int) ≤ (a : Int) := by omega
  have ha1 : (a : Int) < 17 := by omega
  have hc0 : (0 : Int) ≤ (c : Int) := by omega
  have hc1 : (c : Int) < 17 := by omega
  have hn0 : (0 : Int) < (n : Int) := by omega
  have hz2 : max p q = z := hz.symm
  clear h h1 h2 h6 h7 h8 hv0 hvv hp hq hya hyc hsl hnn ha hn hl hz
  go_enter Tryd.func39, Tryd.ntmps39
  go_wp2_with (fail)
  refine (place_any T g x y v l a w HX.out).mono ?_
  rintro e w' ⟨he, rfl⟩
  rcases he with ⟨k, hk, hka, rfl⟩ | ⟨hna, rfl⟩
  · exact absurd (hka ▸ mem_getD hk) HNI.out
  · clear hna
    go_wp2_with (fail)
    refine HLEN.out.mono ?_
    rintro e w' ⟨rfl, rfl⟩
    go_wp2_with (fail)
    refine wp_region_D (fun w' => Below w.heap.size w w') 26 (by kernel_rfl) (show Below w.heap.size w (World.drew w) from (Below.refl _ _).drew) (fun hHeld hC => ?_)
    refine dP 0 hC hHeld ?_; clear hC; intro hC
    refine dP 1 hC hHeld ?_; clear hC; intro hC
    refine dP 2 hC hHeld ?_; clear hC; intro hC
    refine dP 3 hC hHeld ?_; clear hC; intro hC
    refine dP 4 hC hHeld ?_; clear hC; intro hC
    refine dP 5 hC hHeld ?_; clear hC; intro hC
    refine dP 6 hC hHeld ?_; clear hC; intro hC
    refine dP 7 hC hHeld ?_; clear hC; intro hC
    refine dT 8 hC hHeld (fun w hSw => (HYA.out _ hSw)) ?_; clear hC; intro hC
    refine dP 9 hC hHeld ?_; clear hC; intro hC
    refine dP 10 hC hHeld ?_; clear hC; intro hC
    refine dP 11 hC hHeld ?_; clear hC; intro hC
    refine dP 12 hC hHeld ?_; clear hC; intro hC
    refine dT 13 hC hHeld (fun w hSw => (HSL.out _ hSw)) ?_; clear hC; intro hC
    refine dP 14 hC hHeld ?_; clear hC; intro hC
    refine dT 15 hC hHeld (fun w hSw => (HX0.out _ hSw)) ?_; clear hC; intro hC
    refine dP 16 hC hHeld ?_; clear hC; intro hC
    refine dP 17 hC hHeld ?_; clear hC; intro hC
    refine dP 18 hC hHeld ?_; clear hC; intro hC
    refine dP 19 hC hHeld ?_; clear hC; intro hC
    refine dT 20 hC hHeld (fun w hSw => (HYC.out _ hSw)) ?_; clear hC; intro hC
    refine dP 21 hC hHeld ?_; clear hC; intro hC
    refine dP 22 hC hHeld ?_; clear hC; intro hC
    refine dP 23 hC hHeld ?_; clear hC; intro hC
    refine dP 24 hC hHeld ?_; clear hC; intro hC
    refine dP 25 hC hHeld ?_; clear hC; intro hC
    refine wpAnyD_one (i := 26) (by kernel_rfl) rfl hC (fun K hK => ?_)
    clear hC
    refine step_put_y rfl 2 (.tmp 36) (.tmp 32) rfl T g a x y _ z rfl rfl (HB.out.below hHeld) HA.out size1y ?_
    intro w2 hv2 ho2
    have HB2 := Shut.mk hv2.out
    have HO2 := Shut.mk ((Only.of_quiet (S := (· = g)) hHeld).trans ho2.out (fun _ _ e => e))
    clear hv2 ho2
    refine hK.out _ _ (past (by kernel_rfl)) (fun hC => ?_)
    clear hK K
    try simp only [Act.put, List.getElem_toArray, List.getElem_cons_zero, List.getElem_cons_succ, List.setIfInBounds_toArray, List.set_cons_zero, List.set_cons_succ]
    refine wpAnyD_done (by kernel_rfl) ?_ _
    try simp only [Act.put, List.getElem_toArray, List.getElem_cons_zero, List.getElem_cons_succ, List.setIfInBounds_toArray, List.set_cons_zero, List.set_cons_succ]
    clear hC hHeld
    have HT2 := Shut.mk (HX.out.newtime HB2.out HO2.out HNI.out)
    go_wp2_with (fail)
    refine (push_tu T g x (upX y a z) v l a w2 HT2.out HA.out HNI.out).mono ?_
    rintro e w' ⟨rfl, hE⟩
    have HE := Shut.mk hE
    clear hE
    go_wp2_with (fail)
    refine bodyPost_end (results_none (fn := Tryd.f39) rfl _ _ _) rfl ?_
    obtain ⟨l', h1, h4⟩ := HE.out
    exact ⟨rfl, l', h1.after HO2.out, h4⟩
/-! ### charge -/
/-- a charge's nums. -/
theorem ch_tdiv {n u q : Nat} (hu : 0 < u) (hq : q = 10000 * n / u) : (10000 * (n : Int)).tdiv (u : Int) = (q : Int) := by
  have e : (10000 * (n : Int)) = ((10000 * n : Nat) : Int) := by omega
  rw [e, Int.tdiv_eq_ediv_of_nonneg (by omega), hq]
  exact (Int.natCast_ediv _ _).symm
set_option maxRecDepth 100000 in
set_option maxHeartbeats 8000000 in
theorem charge_any (T : TypeId) (g : Nat) (x y : Nat → Int) (v : Value) (l : List Int) (a n u t z : Nat) (w : World) (h : IsT T w g x y v l) (ha : a < 17) (hu : x a = (u : Int)) (hu1 : 1 ≤ u ∧ u ≤ 100) (ht : y a = (t : Int)) (ht1 : t ≤ 1152921504606846976) (hn : n ≤ 1099511627776) (hz : z = min (t + 10000 * n / u) 1152921504606846976) :
    Calls Tryd.prog 40 #[.pointer (some ⟨g, 0, none⟩), .int .i64 (a : Int), .int .i64 (n : Nat)] w fun e w' => e = .returned (.tuple #[]) ∧ ∃ l', TuE T g x (upX y a (z : Int)) v w w' l' ∧ ∀ b, b ∈ l' ↔ b ∈ l := by
  have HX := Shut.mk h
  have HA := Shut.mk ha
  have HB := Shut.mk h.at_
  have hya := h.at_.cy ha
  have hxa := h.at_.cx ha
  rw [ht] at hya
  rw [hu] at hxa
  obtain ⟨q, hq⟩ : ∃ q, q = 10000 * n / u := ⟨_, rfl⟩
  have y2 := ch_tdiv (by omega) hq
  have hqb : q ≤ 10000 * n := by rw [hq]; exact Nat.div_le_self _ _
  rw [← hq] at hz
  have y1 : IntKind.i64.wrap (10000 * (n : Int)) = 10000 * (n : Int) := IntWalk.i64_in _ ⟨by omega, by omega⟩
  obtain ⟨y3, y4, y5, y6⟩ := ch_nums ht1 hqb hn hz
  have hu0 : ¬ u = 0 := by omega
  have HYA := Shut.mk fun (w' : World) (hb : Below w.heap.size w w') => show w'.cell? ⟨g, a * 2 + 1, none⟩ = some (.int .i64 (t : Nat)) from below_at hb hya
  have HXA := Shut.mk fun (w' : World) (hb : Below w.heap.size w w') => show w'.cell? ⟨g, a * 2, none⟩ = some (.int .i64 (u : Nat)) from below_at hb hxa
  have ha0 : (0 : Int) ≤ (a : Int) := by omega
  have ha1 : (a : Int) < 17 := by omega
  clear h ha hu hu1 ht ht1 hn hz hya hxa hq hqb
  go_enter Tryd.func40, Tryd.ntmps40
  go_wp2_with (fail)
  refine wp_region_D (fun w' => Below w.heap.size w w') 16 (by kernel_rfl) (show Below w.heap.size w (World.drew w) from (Below.refl _ _).drew) (fun hHeld hC => ?_)
  refine dP 0 hC hHeld ?_; clear hC; intro hC
  refine dP 1 hC hHeld ?_; clear hC; intro hC
  refine dP 2 hC hHeld ?_; clear hC; intro hC
  refine dP 3 hC hHeld ?_; clear hC; intro hC
  refine dT 4 hC hHeld (fun w hSw => (HYA.out _ hSw)) ?_; clear hC; intro hC
  refine dP 5 hC hHeld ?_; clear hC; intro hC
  refine dP 6 hC hHeld ?_; clear hC; intro hC
  refine dP 7 hC hHeld ?_; clear hC; intro hC
  refine dP 8 hC hHeld ?_; clear hC; intro hC
  refine dP 9 hC hHeld ?_; clear hC; intro hC
  refine dT 10 hC hHeld (fun w hSw => (HXA.out _ hSw)) ?_; clear hC; intro hC
  refine dP 11 hC hHeld ?_; clear hC; intro hC
  refine dP 12 hC hHeld ?_; clear hC; intro hC
  refine dP 13 hC hHeld ?_; clear hC; intro hC
  refine dP 14 hC hHeld ?_; clear hC; intro hC
  refine dP 15 hC hHeld ?_; clear hC; intro hC
  refine wpAnyD_one (i := 16) (by kernel_rfl) rfl hC (fun K hK => ?_)
  clear hC
  refine step_put_y rfl 2 (.tmp 28) (.tmp 26) rfl T g a x y _ (z : Int) rfl rfl (HB.out.below hHeld) HA.out size1y ?_
  intro w2 hv2 ho2
  have HB2 := Shut.mk hv2.out
  have HO2 := Shut.mk ((Only.of_quiet (S := (· = g)) hHeld).trans ho2.out (fun _ _ e => e))
  clear hv2 ho2
  refine hK.out _ _ (past (by kernel_rfl)) (fun hC => ?_)
  clear hK K
  try simp only [Act.put, List.getElem_toArray, List.getElem_cons_zero, List.getElem_cons_succ, List.setIfInBounds_toArray, List.set_cons_zero, List.set_cons_succ]
  refine wpAnyD_done (by kernel_rfl) ?_ _
  try simp only [Act.put, List.getElem_toArray, List.getElem_cons_zero, List.getElem_cons_succ, List.setIfInBounds_toArray, List.set_cons_zero, List.set_cons_succ]
  clear hC hHeld
  go_wp2_with (fail)
  have HPL := Shut.mk (show Calls Tryd.prog 45 #[.pointer (some ⟨g, 0, none⟩), .int .i64 (a : Int)] w2 fun e w' => ((∃ k : Nat, k < l.length ∧ l.getD k 0 = (a : Int) ∧ e = .returned (.int .i64 (k : Nat))) ∨ ((a : Int) ∉ l ∧ e = .returned (.int .i64 (-1)))) ∧ w2 = w' from place_raw T g x (upX y a (z : Int)) v l (a : Int) w2 HB2.out (HX.out.row.only HO2.out fun k hk e => HX.out.ne k hk e) HX.out.few HX.out.aid)
  refine HPL.out.mono ?_
  rintro e w' ⟨he, rfl⟩
  clear HPL
  rcases he with ⟨k, hk, hka, rfl⟩ | ⟨hna, rfl⟩
  · have HK := Shut.mk hk
    have HKA := Shut.mk hka
    have hk0 : (0 : Int) ≤ (k : Int) := by omega
    clear hk hka
    have HTU := Shut.mk (show IsTu T (fun k => FootT g v k ∨ w.heap.size ≤ k) g x (upX y a (z : Int)) w2 l from ⟨⟨v, HB2.out, HX.out.row.only HO2.out fun k hk e => HX.out.ne k hk e, fun k hk => ⟨.inl (.inr hk), HX.out.ne k hk⟩⟩, by have := HX.out.few; omega, HX.out.aid, .inl (.inl rfl)⟩)
    go_wp2_with (fail)
    refine (fix_any (obj_tu T (fun k => FootT g v k ∨ w.heap.size ≤ k) g x (upX y a (z : Int))) l k w2 HTU.out HK.out (odd_new HX.out.heap HX.out.nd HK.out fun b hb hne => upX_ne fun e => hne (by have := HX.out.aid b hb; rw [HKA.out]; omega))).mono ?_
    rintro e w' ⟨rfl, ⟨l', h1, h2, h3⟩, h4⟩
    have HE := Shut.mk (show ∃ l', TuE T g x (upX y a (z : Int)) v w w' l' ∧ ∀ b, b ∈ l' ↔ b ∈ l from ⟨l', TuE.of (fun k hk => hk) h1 h3 (h2.nodup_iff.2 HX.out.nd) ((HO2.out.mono fun _ _ e => .inl (.inl e)).trans h4 fun _ _ e => e), fun b => h2.mem_iff⟩)
    clear h1 h2 h3 h4
    go_wp2_with (fail)
    refine bodyPost_end (results_none (fn := Tryd.f40) rfl _ _ _) rfl ?_
    exact ⟨rfl, HE.out⟩
  · have HT2 := Shut.mk (HX.out.newtime HB2.out HO2.out hna)
    clear hna
    go_wp2_with (fail)
    refine bodyPost_end (results_none (fn := Tryd.f40) rfl _ _ _) rfl ?_
    exact ⟨rfl, l, HT2.out.same.after HO2.out, fun b => Iff.rfl⟩
end Go.Proofs.YtkmblmnffnhpmaaDoor
