/-
  POOL: maths of one great flow and two small ones (PoolFattest).
-/
import Derived.Test.YtaibopaagjodoaaDoorPoolG
namespace Go.Proofs.YtaibopaagjodoaaDoor
set_option linter.unusedVariables false
set_option linter.unusedSimpArgs false

theorem put_pk (bk : Int → Nat) (q : Qu) (p : Pk) (b : Nat) : ((putQ bk q p).fl b).pk = if b = bk p.flow then (q.fl b).pk ++ [p] else (q.fl b).pk := by
  have h : ∀ (df : Int) (cd : Cd), (setF q.fl (bk p.flow) ⟨(q.fl (bk p.flow)).pk ++ [p], df, cd⟩ b).pk = if b = bk p.flow then (q.fl b).pk ++ [p] else (q.fl b).pk := by
    intro df cd
    by_cases e : b = bk p.flow
    · rw [if_pos e, e, setF_same]
    · rw [if_neg e, setF_other _ _ e]
  unfold putQ
  split <;> exact h _ _
theorem drop_pk (q : Qu) (b k : Nat) : ((dropQ q b).fl k).pk = if k = b then (q.fl k).pk.tail else (q.fl k).pk := by
  by_cases e : k = b
  · rw [if_pos e, e]; simp [dropQ, setF_same]
  · rw [if_neg e]; simp [dropQ, setF_other _ _ e]
def pF1 : Pk := ⟨1, 0, ((0 : Nat) : Int), 0, zer 10⟩
def pF2 (t : Nat) : Pk := ⟨2, 8, (t : Int), 0, zer 20⟩
def pFi (t i : Nat) : Pk := ⟨(i : Int), 9, (t : Int), 0, zer 400⟩
theorem bk3 : bkQ 3#32 0 < 16 ∧ bkQ 3#32 8 < 16 ∧ bkQ 3#32 9 < 16 ∧ bkQ 3#32 8 ≠ bkQ 3#32 9 := by decide
/-- what lies where: cnt great ones from number lo on. -/
def flowF (K t lo cnt k b : Nat) : List Pk :=
  if k = 0 ∧ b = bkQ 3#32 0 then [pF1] else if k = K ∧ b = bkQ 3#32 8 then [pF2 t] else if k = K ∧ b = bkQ 3#32 9 then (List.range cnt).map fun j => pFi t (lo + j) else []
section
variable {K t lo cnt k b : Nat}
theorem flowF_1 (h : k = 0) (hb : b = bkQ 3#32 0) : flowF K t lo cnt k b = [pF1] := if_pos ⟨h, hb⟩
theorem flowF_2 (hK : 0 < K) (h : k = K) (hb : b = bkQ 3#32 8) : flowF K t lo cnt k b = [pF2 t] := (if_neg (fun e => by omega)).trans (if_pos ⟨h, hb⟩)
theorem flowF_9 (hK : 0 < K) (h : k = K) (hb : b = bkQ 3#32 9) : flowF K t lo cnt k b = (List.range cnt).map fun j => pFi t (lo + j) :=
  (if_neg (fun e => by omega)).trans ((if_neg (fun e => bk3.2.2.2 (e.2.symm.trans hb))).trans (if_pos ⟨h, hb⟩))
theorem flowF_0 (h1 : ¬ (k = 0 ∧ b = bkQ 3#32 0)) (h2 : ¬ (k = K ∧ b = bkQ 3#32 8)) (h3 : ¬ (k = K ∧ b = bkQ 3#32 9)) : flowF K t lo cnt k b = [] := (if_neg h1).trans ((if_neg h2).trans (if_neg h3))
/-- away from the great ones it is the same. -/
theorem flowF_eq {lo' cnt' : Nat} (h : ¬ (k = K ∧ b = bkQ 3#32 9)) : flowF K t lo cnt k b = flowF K t lo' cnt' k b := by
  unfold flowF
  rw [if_neg (c := k = K ∧ b = bkQ 3#32 9) h, if_neg (c := k = K ∧ b = bkQ 3#32 9) h]
end
structure FatI (K t lo cnt : Nat) (M : Nat → Qu) : Prop where
  pk : ∀ k, k < 128 → ∀ b, ((M k).fl b).pk = flowF K t lo cnt k b
  len : (allP M 128).length = 2 + cnt
  byt : bytesF (allP M 128) = 30 + 400 * (cnt : Int)
theorem fat_start {K t : Nat} (hK : 0 < K ∧ K < 128) : FatI K t 3 0 (updF (updF M0 0 (putQ (bkQ 3#32) quZ pF1)) K (putQ (bkQ 3#32) quZ (pF2 t))) := by
  have e0 : updF M0 0 (putQ (bkQ 3#32) quZ pF1) K = quZ := by rw [updF_other _ _ (by omega)]; rfl
  have p1 := allP_put (bkQ_lt 3#32) M0 (k := 0) (by omega) pF1
  have p2 := allP_put (bkQ_lt 3#32) (updF M0 0 (putQ (bkQ 3#32) quZ pF1)) hK.2 (pF2 t)
  rw [e0] at p2
  have p3 := p2.trans (List.Perm.cons _ p1)
  rw [allP_M0] at p3
  refine ⟨fun k hk b => ?_, p3.length_eq, ?_⟩
  · by_cases e : k = K
    · rw [e, updF_same, put_pk]
      by_cases e2 : b = bkQ 3#32 8
      · rw [if_pos (show b = bkQ 3#32 (pF2 t).flow from e2), flowF_2 hK.1 rfl e2]; rfl
      · rw [if_neg (show ¬ b = bkQ 3#32 (pF2 t).flow from e2)]
        by_cases e3 : b = bkQ 3#32 9
        · rw [flowF_9 hK.1 rfl e3]; rfl
        · rw [flowF_0 (fun h => by omega) (fun h => e2 h.2) (fun h => e3 h.2)]; rfl
    · rw [updF_other _ _ e]
      by_cases e3 : k = 0
      · rw [e3, updF_same, put_pk]
        by_cases e2 : b = bkQ 3#32 0
        · rw [if_pos (show b = bkQ 3#32 pF1.flow from e2), flowF_1 rfl e2]; rfl
        · rw [if_neg (show ¬ b = bkQ 3#32 pF1.flow from e2), flowF_0 (fun h => e2 h.2) (fun h => by omega) (fun h => by omega)]; rfl
      · rw [updF_other _ _ e3, flowF_0 (fun h => e3 h.1) (fun h => e h.1) (fun h => e h.1)]; rfl
  · rw [bytesF_perm p3, bytesF_cons, bytesF_cons]
    have h1 : ((pF1).body.length : Int) = 10 := congrArg (fun (n : Nat) => (n : Int)) (zer_len 10)
    have h2 : ((pF2 t).body.length : Int) = 20 := congrArg (fun (n : Nat) => (n : Int)) (zer_len 20)
    rw [h1, h2]; rfl
section
variable {K t lo cnt : Nat} {M : Nat → Qu}
theorem fat_put (hK : 0 < K ∧ K < 128) (h : FatI K t lo cnt M) : FatI K t lo (cnt + 1) (updF M K (putQ (bkQ 3#32) (M K) (pFi t (lo + cnt)))) := by
  have p1 := allP_put (bkQ_lt 3#32) M hK.2 (pFi t (lo + cnt))
  refine ⟨fun k hk b => ?_, by rw [p1.length_eq, List.length_cons, h.len]; omega, ?_⟩
  · by_cases e : k = K
    · rw [e, updF_same, put_pk, h.pk K hK.2 b]
      by_cases e2 : b = bkQ 3#32 9
      · rw [if_pos (show b = bkQ 3#32 (pFi t (lo + cnt)).flow from e2), flowF_9 hK.1 rfl e2, flowF_9 hK.1 rfl e2, List.range_succ, List.map_append]
        rfl
      · rw [if_neg (show ¬ b = bkQ 3#32 (pFi t (lo + cnt)).flow from e2)]
        exact flowF_eq fun h => e2 h.2
    · rw [updF_other _ _ e, h.pk k hk b]
      exact flowF_eq fun h => e h.1
  · rw [bytesF_perm p1, bytesF_cons, h.byt]
    have hz : ((pFi t (lo + cnt)).body.length : Int) = 400 := congrArg (fun (n : Nat) => (n : Int)) (zer_len 400)
    rw [hz]
    omega
theorem fat_head (hK : 0 < K ∧ K < 128) (h : FatI K t lo (cnt + 1) M) : ((M K).fl (bkQ 3#32 9)).pk = pFi t lo :: (List.range cnt).map fun j => pFi t (lo + 1 + j) := by
  rw [h.pk K hK.2, flowF_9 hK.1 rfl rfl, List.range_succ_eq_map, List.map_cons, List.map_map]
  congr 1
  apply List.map_congr_left
  intro j _
  show pFi t (lo + (j + 1)) = pFi t (lo + 1 + j)
  rw [show lo + (j + 1) = lo + 1 + j by omega]
theorem fat_drop (hK : 0 < K ∧ K < 128) (h : FatI K t lo (cnt + 1) M) : FatI K t (lo + 1) cnt (dropM M (16 * K + bkQ 3#32 9)) := by
  have hb := bk3.2.2.1
  have e1 : (16 * K + bkQ 3#32 9) / 16 = K := by omega
  have e2 : (16 * K + bkQ 3#32 9) % 16 = bkQ 3#32 9 := by omega
  have p1 := allP_drop (M := M) (J := 16 * K + bkQ 3#32 9) (by omega) (by rw [e1, e2]; exact fat_head hK h)
  have hl := p1.length_eq
  have hy := bytesF_perm p1
  rw [List.length_cons, h.len] at hl
  rw [bytesF_cons, h.byt] at hy
  have hz : ((pFi t lo).body.length : Int) = 400 := congrArg (fun (n : Nat) => (n : Int)) (zer_len 400)
  rw [hz] at hy
  refine ⟨fun k hk b => ?_, by omega, by omega⟩
  unfold dropM
  rw [e1, e2]
  by_cases e : k = K
  · rw [e, updF_same, drop_pk]
    by_cases e3 : b = bkQ 3#32 9
    · rw [if_pos e3, e3, fat_head hK h, flowF_9 hK.1 rfl rfl]; rfl
    · rw [if_neg e3, h.pk K hK.2 b]
      exact flowF_eq fun h => e3 h.2
  · rw [updF_other _ _ e, h.pk k hk b]
    exact flowF_eq fun h => e h.1
theorem bytesF_rep (f : Nat → Pk) (hf : ∀ j, (f j).body.length = 400) : ∀ n, bytesF ((List.range n).map f) = 400 * (n : Int)
  | 0 => rfl
  | n + 1 => by
    rw [List.range_succ, List.map_append, bytesF_app, bytesF_rep f hf n]
    have h1 : bytesF ([n].map f) = 400 := by
      show bytesF [f n] = 400
      rw [bytesF_cons, hf n]; rfl
    rw [h1]
    omega
theorem fat_J (hK : 0 < K ∧ K < 128) (h : FatI K t lo cnt M) (hc : 2 ≤ cnt) {J : Nat} (hJ : IsFatG M (some J)) : J = 16 * K + bkQ 3#32 9 := by
  obtain ⟨a1, a2, a3, -⟩ := hJ
  have hb := bk3.2.2.1
  have e1 := fatG_in M K hb
  have e0 : ((M K).fl (bkQ 3#32 9)).pk = (List.range cnt).map fun j => pFi t (lo + j) := by
    rw [h.pk K hK.2, flowF_9 hK.1 rfl rfl]
  have e2 : fatG M (16 * K + bkQ 3#32 9) = 400 * (cnt : Int) := by
    rw [e1.1]
    unfold fatF
    rw [e0]
    exact bytesF_rep _ (fun j => zer_len 400) cnt
  have e3 : okG M (16 * K + bkQ 3#32 9) = true := by
    rw [e1.2]
    unfold okF
    rw [e0]
    cases cnt with
    | zero => omega
    | succ n => rw [List.range_succ_eq_map]; rfl
  have h1 := a3 _ (by omega) e3
  rw [e2] at h1
  have h2 : fatG M J = bytesF (flowF K t lo cnt (J / 16) (J % 16)) := by
    unfold fatG fatF
    rw [h.pk _ (by omega)]
  rw [h2] at h1
  have z10 : bytesF [pF1] = 10 := by
    have hz : ((pF1).body.length : Int) = 10 := congrArg (fun (n : Nat) => (n : Int)) (zer_len 10)
    rw [bytesF_cons, hz]; rfl
  have z20 : bytesF [pF2 t] = 20 := by
    have hz : ((pF2 t).body.length : Int) = 20 := congrArg (fun (n : Nat) => (n : Int)) (zer_len 20)
    rw [bytesF_cons, hz]; rfl
  by_cases c1 : J / 16 = 0 ∧ J % 16 = bkQ 3#32 0
  · rw [flowF_1 c1.1 c1.2, z10] at h1; omega
  · by_cases c2 : J / 16 = K ∧ J % 16 = bkQ 3#32 8
    · rw [flowF_2 hK.1 c2.1 c2.2, z20] at h1; omega
    · by_cases c3 : J / 16 = K ∧ J % 16 = bkQ 3#32 9
      · omega
      · rw [flowF_0 c1 c2 c3] at h1
        have h0 : bytesF [] = 0 := rfl
        omega
end
/-- what a Put of the law does. -/
theorem fat_turn {K t n cnt i : Nat} {M M' : Nat → Qu} {ds : List Pk} (hK : 0 < K ∧ K < 128) (hn : 4 ≤ n) (hi : 3 ≤ i) (hcnt : cnt = min (i - 3) (n - 2)) (h : FatI K t (i - cnt) cnt M) (hb : 30 + 400 * ((cnt : Int) + 1) ≤ 1048576)
    (hR : Shr (n : Int) 1048576 (updF M K (putQ (bkQ 3#32) (M K) (pFi t i))) ds M') :
    (i ≤ n ∧ ds = [] ∧ FatI K t (i + 1 - min (i + 1 - 3) (n - 2)) (min (i + 1 - 3) (n - 2)) M') ∨ (n < i ∧ ds = [pFi t (i - n + 2)] ∧ FatI K t (i + 1 - min (i + 1 - 3) (n - 2)) (min (i + 1 - 3) (n - 2)) M') := by
  have hle : cnt ≤ i := by omega
  have hp := fat_put hK h
  rw [show i - cnt + cnt = i by omega] at hp
  by_cases e : i ≤ n
  · obtain ⟨rfl, rfl⟩ := shr_none hR (by rw [hp.len]; omega) (by rw [hp.byt]; push_cast; omega)
    refine .inl ⟨e, rfl, ?_⟩
    rw [show min (i + 1 - 3) (n - 2) = cnt + 1 by omega, show i + 1 - (cnt + 1) = i - cnt by omega]
    exact hp
  · have hc : cnt = n - 2 := by omega
    cases hR with
    | done h1 h2 => rw [hp.len] at h1; omega
    | @step _ J p r ds' _ h1 h2 h3 h4 =>
      obtain rfl := fat_J hK hp (by omega) h2
      have hb9 := bk3.2.2.1
      rw [show (16 * K + bkQ 3#32 9) / 16 = K by omega, show (16 * K + bkQ 3#32 9) % 16 = bkQ 3#32 9 by omega, fat_head hK hp] at h3
      simp only [List.cons.injEq] at h3
      obtain ⟨rfl, -⟩ := h3
      have hd := fat_drop hK hp
      obtain ⟨rfl, rfl⟩ := shr_none h4 (by rw [hd.len]; omega) (by rw [hd.byt]; omega)
      refine .inr ⟨by omega, by rw [show i - cnt = i - n + 2 by omega], ?_⟩
      rw [show min (i + 1 - 3) (n - 2) = cnt by omega, show i + 1 - cnt = i - cnt + 1 by omega]
      exact hd
end Go.Proofs.YtaibopaagjodoaaDoor
