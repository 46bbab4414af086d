/- levelsOf. It proves no statement by itself. No conditions. -/
import Derived.Test.YteebdaoanfnkgaaOj
namespace Go.Pm
set_option linter.all false
theorem mp_some {cs ps : List Pm.It} (hcs : cs.Pairwise fun a b => a.w ≤ b.w) (hps : ps.Pairwise fun a b => a.w ≤ b.w) (hcc : ∀ x ∈ cs, isC x = true) (hpp : ∀ x ∈ ps, isC x = false) : ∀ i, i ≤ cs.length → ∃ t A, Mp cs ps i t A := by
  intro i
  induction i with
  | zero => intro _; exact ⟨0, [], Mp.nil _ _⟩
  | succ i ih =>
    intro hi
    obtain ⟨t, A, h⟩ := ih (by omega)
    obtain ⟨z, hz⟩ : ∃ z, cs[i]? = some z := ⟨cs[i], by simp [show i < cs.length from by omega]⟩
    have key : ∀ m t A, ps.length - t ≤ m → Mp cs ps i t A → ∃ t A, Mp cs ps (i + 1) t A := by
      intro m
      induction m with
      | zero =>
        intro t A hm h
        exact ⟨t, _, h.coin hcs hps hcc hz fun x hx => by have := (List.getElem?_eq_some_iff.1 hx).1; omega⟩
      | succ m ih =>
        intro t A hm h
        cases hp : ps[t]? with
        | none => exact ⟨t, _, h.coin hcs hps hcc hz fun x hx => by rw [hp] at hx; cases hx⟩
        | some x =>
          rcases Nat.lt_or_ge x.w z.w with hlt | hge
          · have hl := (List.getElem?_eq_some_iff.1 hp).1
            exact ih (t + 1) _ (by omega) (h.pack hcs hps hpp hp hz hlt)
          · exact ⟨t, _, h.coin hcs hps hcc hz fun y hy => by rw [hp] at hy; injection hy with hy; subst hy; exact hge⟩
    exact key _ t A (Nat.le_refl _) h
theorem mg_some {cs ps : List Pm.It} (hcs : cs.Pairwise fun a b => a.w ≤ b.w) (hps : ps.Pairwise fun a b => a.w ≤ b.w) (hcc : ∀ x ∈ cs, isC x = true) (hpp : ∀ x ∈ ps, isC x = false) : ∃ A, Mg cs ps A := by
  obtain ⟨t, A, h⟩ := mp_some hcs hps hcc hpp cs.length (Nat.le_refl _)
  exact ⟨_, h.fin hps hpp⟩
open Classical in
noncomputable def nextL (cs ps : List Pm.It) : List Pm.It := if h : ∃ A, Mg cs ps A then Classical.choose h else []
noncomputable def extL (cs : List Pm.It) (lv : Nat → List Pm.It) (k : Nat) (A : List Pm.It) : Nat → List Pm.It
  | 0 => []
  | j + 1 => if j < k then lv (j + 1) else if j = k then A else nextL cs (pairs (extL cs lv k A j))
theorem extL_low {cs : List Pm.It} {lv : Nat → List Pm.It} {k : Nat} {A : List Pm.It} (h0 : lv 0 = []) : ∀ {j : Nat}, j ≤ k → extL cs lv k A j = lv j
  | 0, _ => h0.symm
  | j + 1, h => by unfold extL; rw [if_pos (by omega)]
theorem extL_at {cs : List Pm.It} {lv : Nat → List Pm.It} {k : Nat} {A : List Pm.It} : extL cs lv k A (k + 1) = A := by
  unfold extL; rw [if_neg (by omega), if_pos rfl]
theorem extL_lv {cs : List Pm.It} {lv : Nat → List Pm.It} {k : Nat} {A : List Pm.It} (hcs : cs.Pairwise fun a b => a.w ≤ b.w) (hcc : ∀ x ∈ cs, isC x = true) (h : Lv cs lv) (hA : Mg cs (pairs (lv k)) A) : Lv cs (extL cs lv k A) := by
  refine ⟨rfl, fun j => ?_⟩
  induction j with
  | zero =>
    by_cases h0 : 0 < k
    · rw [extL_low h.zero (by omega), extL_low h.zero (by omega)]; exact h.next 0
    · have hk : k = 0 := by omega
      subst hk
      rw [extL_at, extL_low h.zero (Nat.le_refl _)]
      exact hA
  | succ j ih =>
    by_cases h1 : j + 1 < k
    · rw [extL_low h.zero (by omega), extL_low h.zero (by omega)]; exact h.next (j + 1)
    · by_cases h2 : j + 1 = k
      · subst h2
        rw [extL_at, extL_low h.zero (Nat.le_refl _)]
        exact hA
      · have hup : (pairs (extL cs lv k A (j + 1))).Pairwise fun a b => a.w ≤ b.w := pairs_up ih.up
        have hex := mg_some hcs hup hcc (pairs_isC _)
        have e : extL cs lv k A (j + 1 + 1) = nextL cs (pairs (extL cs lv k A (j + 1))) := by
          rw [extL, if_neg (by omega), if_neg h2]
        rw [e]
        unfold nextL
        rw [dif_pos hex]
        exact Classical.choose_spec hex
theorem lv_any {cs : List Pm.It} (hcs : cs.Pairwise fun a b => a.w ≤ b.w) (hcc : ∀ x ∈ cs, isC x = true) : ∃ lv, Lv cs lv := by
  have key : ∀ k, ∃ lv : Nat → List Pm.It, lv 0 = [] ∧ ∀ j, j < k → Mg cs (pairs (lv j)) (lv (j + 1)) := fun k => by
    induction k with
    | zero => exact ⟨fun _ => [], rfl, fun j h => by omega⟩
    | succ k ih =>
      obtain ⟨lv, h0, h1⟩ := ih
      have hup : (pairs (lv k)).Pairwise fun a b => a.w ≤ b.w := by
        refine pairs_up ?_
        cases k with
        | zero => rw [h0]; exact .nil
        | succ k => exact (h1 k (by omega)).up
      obtain ⟨A, hA⟩ := mg_some hcs hup hcc (pairs_isC _)
      refine ⟨extL cs lv k A, rfl, fun j hj => ?_⟩
      by_cases h2 : j = k
      · subst h2; rw [extL_at, extL_low h0 (Nat.le_refl _)]; exact hA
      · rw [extL_low h0 (by omega), extL_low h0 (by omega)]; exact h1 j (by omega)
  let lv : Nat → List Pm.It := fun n => Nat.rec [] (fun j A => nextL cs (pairs A)) n
  refine ⟨lv, rfl, fun j => ?_⟩
  have hup : ∀ j, (lv j).Pairwise fun a b => a.w ≤ b.w := fun j => by
    induction j with
    | zero => exact .nil
    | succ j ih =>
      have hex := mg_some hcs (pairs_up ih) hcc (pairs_isC _)
      have e : lv (j + 1) = nextL cs (pairs (lv j)) := rfl
      rw [e]; unfold nextL; rw [dif_pos hex]
      exact (Classical.choose_spec hex).up
  have hex := mg_some hcs (pairs_up (hup j)) hcc (pairs_isC _)
  have e : lv (j + 1) = nextL cs (pairs (lv j)) := rfl
  rw [e]; unfold nextL; rw [dif_pos hex]
  exact Classical.choose_spec hex
theorem mem_pairs_w : ∀ {l : List Pm.It} {x : Pm.It}, x ∈ pairs l → ∃ y ∈ l, ∃ z ∈ l, x.w = y.w + z.w
  | [], x, h => by simp [pairs] at h
  | [_], x, h => by simp [pairs] at h
  | a :: b :: r, x, h => by
    rcases List.mem_cons.1 h with rfl | h
    · exact ⟨a, by simp, b, by simp, rfl⟩
    · obtain ⟨y, hy, z, hz, e⟩ := mem_pairs_w h
      exact ⟨y, by simp [hy], z, by simp [hz], e⟩
theorem lv_w {cs : List Pm.It} {lv : Nat → List Pm.It} {B : Nat} (h : Lv cs lv) (hB : ∀ x ∈ cs, x.w ≤ B) : ∀ k, ∀ x ∈ lv k, x.w ≤ B * 2 ^ k
  | 0, x, hx => by rw [h.zero] at hx; simp at hx
  | k + 1, x, hx => by
    cases hc : isC x with
    | true =>
      have : x ∈ (lv (k + 1)).filter isC := List.mem_filter.2 ⟨hx, hc⟩
      rw [(h.next k).cs] at this
      exact Nat.le_trans (hB x this) (Nat.le_mul_of_pos_right _ (Nat.pow_pos (by decide)))
    | false =>
      have : x ∈ (lv (k + 1)).filter (fun x => !isC x) := List.mem_filter.2 ⟨hx, by rw [hc]; rfl⟩
      rw [(h.next k).ps] at this
      obtain ⟨y, hy, z, hz, e⟩ := mem_pairs_w this
      have h1 := lv_w h hB k y hy
      have h2 := lv_w h hB k z hz
      rw [e, Nat.pow_succ, ← Nat.mul_assoc]
      omega
theorem lv_up {cs : List Pm.It} {lv : Nat → List Pm.It} (h : Lv cs lv) : ∀ k, (lv k).Pairwise fun a b => a.w ≤ b.w
  | 0 => by rw [h.zero]; exact .nil
  | k + 1 => (h.next k).up
theorem lv_len {cs : List Pm.It} {lv : Nat → List Pm.It} (h : Lv cs lv) : ∀ k, (lv k).length ≤ 2 * cs.length
  | 0 => by rw [h.zero]; simp
  | k + 1 => by
    have := lv_length h k
    have := lv_len h k
    omega
end Go.Pm
namespace Go.Proofs.Yteebdaoanfnkgaa
open Go Go.Vx Go.So
variable [W0]
set_option maxRecDepth 4000
set_option linter.all false
omit [W0] in
/-- The slices of the levels, and their chunks. -/
structure LvR (lv : Nat → List Pm.It) (k : Nat) (vs : List Value) (Cs : List Chunk) : Prop where
  lv_ : vs.length = k
  lc : Cs.length = k + 1
  at_ : ∀ j, j < k → ∃ v C, vs[j]? = some v ∧ Cs[j + 1]? = some C ∧ Ow 109 2 v (lv (j + 1)).length (itvs (lv (j + 1))) C

set_option maxHeartbeats 8000000 in
theorem levels_c (wt : Nat → Nat) (g : Nat → Nat × Nat) (N b0 c0 M : Nat) (rest : List Value) (L : List Chunk) (hN : N ≤ 400) (hM : M ≤ 15) (hs : Srt ky 0 N g) (hgw : ∀ r, r < N → (g r).2 = wt (g r).1) (hgb : ∀ r, r < N → (g r).2 ≤ 1073741824) :
    Gv Try.prog 28 [.slice (some ⟨b0, 0, none⟩) N c0, .int .i64 (M : Int)].toArray ([(b0, cl (cvs g N ++ rest) 63)] :: L)
      (fun r L' => ∃ lv vs Cs Cl, L' = Cl :: Cs.flatten :: [(b0, cl (cvs g N ++ rest) 63)] :: L ∧ Pm.Lv (coinsOf wt g N) lv ∧ LvR lv M vs Cs ∧ Ow 101 1 r M vs Cl) := by
  have hcs := coinsOf_up hs hgw
  have hcc := coinsOf_isC wt g N
  have hcl := coinsOf_length wt g N
  have hcw : ∀ x ∈ coinsOf wt g N, x.w ≤ 1073741824 := fun x hx => by
    obtain ⟨r, hr, rfl⟩ := List.mem_map.1 hx
    have := hgb r (List.mem_range.1 hr)
    rw [hgw r (List.mem_range.1 hr)] at this
    exact this
  obtain ⟨lv0, hlv0⟩ := Pm.lv_any hcs hcc
  refine Gv.of_body Try.func28 rfl rfl ?_
  (repeat' (first | (show WL _ _ _ _ _ _ _; first | (refine WL_plain rfl ?_) | (refine WL_nil ?_) | (refine WL_on rfl rfl ?_) | (refine WL_off rfl rfl rfl rfl ?_) | (refine WL_offu rfl rfl rfl rfl ?_) | (refine WL_off' rfl rfl rfl ?_) | ((refine WL_split rfl rfl (fun hc => ?_) (fun hc => ?_)) <;> (rw [hc]; (try simp only [nrB] at hc); (try (exfalso; first | omega | exact hc trivial | exact hc rfl))))) | (show OW _ _ _ _ _ _; refine OW_E ?_) | (show OW _ _ ⟨_, .store .., _, _, _, _⟩ _ _ _; first | (refine OW_store rfl rfl rfl (by repeat (first | exact Upd.here | apply Upd.there)) (by first | (simp; done) | (simp; omega)) ?_) | (refine OW_storeAgg rfl rfl rfl rfl (by repeat (first | exact Upd.here | apply Upd.there)) (by first | (simp [Value.cells]; done) | (simp [Value.cells]; omega)) ?_)) | (show OW _ _ ⟨_, .alloc _, _, _, _, _⟩ _ _ _; first | (refine OW_alloc rfl (fun bk => ?_))) | (show OW _ _ ⟨_, .box .., _, _, _, _⟩ _ _ _; first | (refine OW_box rfl rfl (fun bk => ?_))) | (show WC _ _ _ _ _ _; first | (refine WC_seq ?_) | (refine WC_region ?_) | (refine WC_true rfl ?_) | (refine WC_false rfl ?_) | ((refine WC_cond rfl (fun hc => ?_) (fun hc => ?_)) <;> (try simp only [nrB] at hc) <;> (try (exfalso; first | omega | exact hc trivial | exact hc rfl))) | (refine WC_skip ?_) | (refine WC_ret ?_) | (refine WC_exit ?_) | (refine WC_block ?_)) | (show WQ _ _ _ _; first | (with_reducible refine WQ_then_normal ?_) | (with_reducible refine WQ_code ?_) | (with_reducible refine WQ_then_ret ?_) | (with_reducible refine WQ_block_ret ?_) | (with_reducible refine WQ_then_exit ?_) | (with_reducible refine WQ_block_hit ?_) | (with_reducible refine WQ_block_miss rfl ?_) | (with_reducible refine WQ_block_normal ?_))))
  refine WC_loop (X := Nat × (Nat → List Pm.It) × List Value × List Chunk × Chunk × Value × Value × Chunk) (fun x => [(0, .slice (some ⟨b0, 0, none⟩) N c0), (5, x.2.2.2.2.2.1), (6, x.2.2.2.2.2.2.1), (7, .int .i64 (M : Int)), (8, .int .i64 (x.1 : Int))])
    (fun x => x.2.2.2.2.1 :: x.2.2.2.1.flatten :: x.2.2.2.2.2.2.2 :: [(b0, cl (cvs g N ++ rest) 63)] :: L)
    (fun x => x.1 ≤ M ∧ Pm.Lv (coinsOf wt g N) x.2.1 ∧ LvR x.2.1 x.1 x.2.2.1 (x.2.2.2.1 ++ [x.2.2.2.2.2.2.2]) ∧ Ow 101 1 x.2.2.2.2.2.1 x.1 x.2.2.1 x.2.2.2.2.1 ∧ Ow 109 2 x.2.2.2.2.2.2.1 (x.2.1 x.1).length (itvs (x.2.1 x.1)) x.2.2.2.2.2.2.2) (fun x => M - x.1) (0, lv0, [], [], [], .slice none 0 0, .slice none 0 0, [])
    ⟨Nat.zero_le _, hlv0, ⟨rfl, rfl, fun j hj => by omega⟩, .inl ⟨rfl, rfl, rfl, rfl⟩, by simp only; rw [hlv0.zero]; exact .inl ⟨rfl, rfl, rfl, rfl⟩⟩ (by repeat (first | exact Sub.nil | refine Sub.cons rfl ?_ | refine Sub.cons (lk_int rfl (by first | omega | (dsimp only; omega))) ?_)) (fun w h => ?_) ?_
  · show Holds w ([] :: [] :: [] :: [(b0, cl (cvs g N ++ rest) 63)] :: L)
    exact Holds.nil.2 (Holds.nil.2 (Holds.nil.2 h))
  rintro ⟨k, lv, vs, Cs, Cl, rv, bv, Cb⟩ ⟨q1, q2, q3, q4, q5⟩
  simp only at q1 q2 q3 q4 q5 ⊢
  have hlen := Pm.lv_len q2 k
  rw [hcl] at hlen
  (repeat' (first | (show WL _ _ _ _ _ _ _; first | (refine WL_plain rfl ?_) | (refine WL_nil ?_) | (refine WL_on rfl rfl ?_) | (refine WL_off rfl rfl rfl rfl ?_) | (refine WL_offu rfl rfl rfl rfl ?_) | (refine WL_off' rfl rfl rfl ?_) | ((refine WL_split rfl rfl (fun hc => ?_) (fun hc => ?_)) <;> (rw [hc]; (try simp only [nrB] at hc); (try (exfalso; first | omega | exact hc trivial | exact hc rfl))))) | (show OW _ _ _ _ _ _; refine OW_E ?_) | (show OW _ _ ⟨_, .store .., _, _, _, _⟩ _ _ _; first | (refine OW_store rfl rfl rfl (by repeat (first | exact Upd.here | apply Upd.there)) (by first | (simp; done) | (simp; omega)) ?_) | (refine OW_storeAgg rfl rfl rfl rfl (by repeat (first | exact Upd.here | apply Upd.there)) (by first | (simp [Value.cells]; done) | (simp [Value.cells]; omega)) ?_)) | (show OW _ _ ⟨_, .alloc _, _, _, _, _⟩ _ _ _; first | (refine OW_alloc rfl (fun bk => ?_))) | (show OW _ _ ⟨_, .box .., _, _, _, _⟩ _ _ _; first | (refine OW_box rfl rfl (fun bk => ?_))) | (show WC _ _ _ _ _ _; first | (refine WC_seq ?_) | (refine WC_region ?_) | (refine WC_true rfl ?_) | (refine WC_false rfl ?_) | ((refine WC_cond rfl (fun hc => ?_) (fun hc => ?_)) <;> (try simp only [nrB] at hc) <;> (try (exfalso; first | omega | exact hc trivial | exact hc rfl))) | (refine WC_skip ?_) | (refine WC_ret ?_) | (refine WC_exit ?_) | (refine WC_block ?_)) | (show WQ _ _ _ _; first | (with_reducible refine WQ_then_normal ?_) | (with_reducible refine WQ_code ?_) | (with_reducible refine WQ_then_ret ?_) | (with_reducible refine WQ_block_ret ?_) | (with_reducible refine WQ_then_exit ?_) | (with_reducible refine WQ_block_hit ?_) | (with_reducible refine WQ_block_miss rfl ?_) | (with_reducible refine WQ_block_normal ?_))))
  · have hkM : k < M := by omega
    have hpw : 2 ^ k ≤ 2 ^ 15 := Nat.pow_le_pow_right (by decide) (by omega)
    have hmg := merged_c wt g N b0 c0 rest bv (lv k) Cb (Cl :: Cs.flatten :: L) hN hs hgw hgb q5 (by omega) (fun x hx => by
      have h1 := Pm.lv_w q2 hcw k x hx
      have h2 : 1073741824 * 2 ^ k ≤ 1073741824 * 2 ^ 15 := Nat.mul_le_mul_left _ hpw
      omega) (Pm.lv_up q2 k)
    refine OW_call rfl rfl rfl (Gv.holds hmg (fun w h => ((by repeat (first | exact Inc.refl | exact Inc.nil | refine Inc.cons (by repeat (first | exact Take.here | apply Take.there)) ?_ | refine Inc.skip ?_)) : Inc _ _).holds h)) rfl (fun r L' hp => ?_)
    obtain ⟨A, C, rfl, hoA, hA⟩ := hp
    have hlv' := Pm.extL_lv hcs hcc q2 hA
    obtain ⟨ra, rc, rfl⟩ := ow_slc hoA
    (repeat' (first | (show WL _ _ _ _ _ _ _; first | (refine WL_plain rfl ?_) | (refine WL_nil ?_) | (refine WL_on rfl rfl ?_) | (refine WL_off rfl rfl rfl rfl ?_) | (refine WL_offu rfl rfl rfl rfl ?_) | (refine WL_off' rfl rfl rfl ?_) | ((refine WL_split rfl rfl (fun hc => ?_) (fun hc => ?_)) <;> (rw [hc]; (try simp only [nrB] at hc); (try (exfalso; first | omega | exact hc trivial | exact hc rfl))))) | (show OW _ _ _ _ _ _; refine OW_E ?_) | (show OW _ _ ⟨_, .store .., _, _, _, _⟩ _ _ _; first | (refine OW_store rfl rfl rfl (by repeat (first | exact Upd.here | apply Upd.there)) (by first | (simp; done) | (simp; omega)) ?_) | (refine OW_storeAgg rfl rfl rfl rfl (by repeat (first | exact Upd.here | apply Upd.there)) (by first | (simp [Value.cells]; done) | (simp [Value.cells]; omega)) ?_)) | (show OW _ _ ⟨_, .alloc _, _, _, _, _⟩ _ _ _; first | (refine OW_alloc rfl (fun bk => ?_))) | (show OW _ _ ⟨_, .box .., _, _, _, _⟩ _ _ _; first | (refine OW_box rfl rfl (fun bk => ?_))) | (show WC _ _ _ _ _ _; first | (refine WC_seq ?_) | (refine WC_region ?_) | (refine WC_true rfl ?_) | (refine WC_false rfl ?_) | ((refine WC_cond rfl (fun hc => ?_) (fun hc => ?_)) <;> (try simp only [nrB] at hc) <;> (try (exfalso; first | omega | exact hc trivial | exact hc rfl))) | (refine WC_skip ?_) | (refine WC_ret ?_) | (refine WC_exit ?_) | (refine WC_block ?_)) | (show WQ _ _ _ _; first | (with_reducible refine WQ_then_normal ?_) | (with_reducible refine WQ_code ?_) | (with_reducible refine WQ_then_ret ?_) | (with_reducible refine WQ_block_ret ?_) | (with_reducible refine WQ_then_exit ?_) | (with_reducible refine WQ_block_hit ?_) | (with_reducible refine WQ_block_miss rfl ?_) | (with_reducible refine WQ_block_normal ?_))))
    refine OW_buildSlice (cs := [.slice ra A.length rc]) rfl (by rfl) (by simp [fillL, patch, Value.cells, zeros]; done) (by omega) rfl rfl (fun bs => ?_)
    (repeat' (first | (show WL _ _ _ _ _ _ _; first | (refine WL_plain rfl ?_) | (refine WL_nil ?_) | (refine WL_on rfl rfl ?_) | (refine WL_off rfl rfl rfl rfl ?_) | (refine WL_offu rfl rfl rfl rfl ?_) | (refine WL_off' rfl rfl rfl ?_) | ((refine WL_split rfl rfl (fun hc => ?_) (fun hc => ?_)) <;> (rw [hc]; (try simp only [nrB] at hc); (try (exfalso; first | omega | exact hc trivial | exact hc rfl))))) | (show OW _ _ _ _ _ _; refine OW_E ?_) | (show OW _ _ ⟨_, .store .., _, _, _, _⟩ _ _ _; first | (refine OW_store rfl rfl rfl (by repeat (first | exact Upd.here | apply Upd.there)) (by first | (simp; done) | (simp; omega)) ?_) | (refine OW_storeAgg rfl rfl rfl rfl (by repeat (first | exact Upd.here | apply Upd.there)) (by first | (simp [Value.cells]; done) | (simp [Value.cells]; omega)) ?_)) | (show OW _ _ ⟨_, .alloc _, _, _, _, _⟩ _ _ _; first | (refine OW_alloc rfl (fun bk => ?_))) | (show OW _ _ ⟨_, .box .., _, _, _, _⟩ _ _ _; first | (refine OW_box rfl rfl (fun bk => ?_))) | (show WC _ _ _ _ _ _; first | (refine WC_seq ?_) | (refine WC_region ?_) | (refine WC_true rfl ?_) | (refine WC_false rfl ?_) | ((refine WC_cond rfl (fun hc => ?_) (fun hc => ?_)) <;> (try simp only [nrB] at hc) <;> (try (exfalso; first | omega | exact hc trivial | exact hc rfl))) | (refine WC_skip ?_) | (refine WC_ret ?_) | (refine WC_exit ?_) | (refine WC_block ?_)) | (show WQ _ _ _ _; first | (with_reducible refine WQ_then_normal ?_) | (with_reducible refine WQ_code ?_) | (with_reducible refine WQ_then_ret ?_) | (with_reducible refine WQ_block_ret ?_) | (with_reducible refine WQ_then_exit ?_) | (with_reducible refine WQ_block_hit ?_) | (with_reducible refine WQ_block_miss rfl ?_) | (with_reducible refine WQ_block_normal ?_))))
    refine OW_append rfl rfl q4 (sl_cells (k := 1) (c := #[.slice ra A.length rc]) (xs := [.slice ra A.length rc]) (m := 1) Fnd.here rfl (by simp)) (by repeat (first | exact Zip.here _ | apply Zip.there)) rfl (by rfl) (by omega) (by simp [maxLen]; omega) rfl (fun v' C' ho' _ _ => ?_)
    (repeat' (first | (show WL _ _ _ _ _ _ _; first | (refine WL_plain rfl ?_) | (refine WL_nil ?_) | (refine WL_on rfl rfl ?_) | (refine WL_off rfl rfl rfl rfl ?_) | (refine WL_offu rfl rfl rfl rfl ?_) | (refine WL_off' rfl rfl rfl ?_) | ((refine WL_split rfl rfl (fun hc => ?_) (fun hc => ?_)) <;> (rw [hc]; (try simp only [nrB] at hc); (try (exfalso; first | omega | exact hc trivial | exact hc rfl))))) | (show OW _ _ _ _ _ _; refine OW_E ?_) | (show OW _ _ ⟨_, .store .., _, _, _, _⟩ _ _ _; first | (refine OW_store rfl rfl rfl (by repeat (first | exact Upd.here | apply Upd.there)) (by first | (simp; done) | (simp; omega)) ?_) | (refine OW_storeAgg rfl rfl rfl rfl (by repeat (first | exact Upd.here | apply Upd.there)) (by first | (simp [Value.cells]; done) | (simp [Value.cells]; omega)) ?_)) | (show OW _ _ ⟨_, .alloc _, _, _, _, _⟩ _ _ _; first | (refine OW_alloc rfl (fun bk => ?_))) | (show OW _ _ ⟨_, .box .., _, _, _, _⟩ _ _ _; first | (refine OW_box rfl rfl (fun bk => ?_))) | (show WC _ _ _ _ _ _; first | (refine WC_seq ?_) | (refine WC_region ?_) | (refine WC_true rfl ?_) | (refine WC_false rfl ?_) | ((refine WC_cond rfl (fun hc => ?_) (fun hc => ?_)) <;> (try simp only [nrB] at hc) <;> (try (exfalso; first | omega | exact hc trivial | exact hc rfl))) | (refine WC_skip ?_) | (refine WC_ret ?_) | (refine WC_exit ?_) | (refine WC_block ?_)) | (show WQ _ _ _ _; first | (with_reducible refine WQ_then_normal ?_) | (with_reducible refine WQ_code ?_) | (with_reducible refine WQ_then_ret ?_) | (with_reducible refine WQ_block_ret ?_) | (with_reducible refine WQ_then_exit ?_) | (with_reducible refine WQ_block_hit ?_) | (with_reducible refine WQ_block_miss rfl ?_) | (with_reducible refine WQ_block_normal ?_))))
    refine WQ_round (X := Nat × (Nat → List Pm.It) × List Value × List Chunk × Chunk × Value × Value × Chunk) (μ := fun x => M - x.1) (x := (k, lv, vs, Cs, Cl, rv, bv, Cb)) (k + 1, Pm.extL (coinsOf wt g N) lv k A, vs ++ [.slice ra A.length rc], Cs ++ [Cb], C', v', .slice ra A.length rc, C) (by simp only; omega)
      ⟨by simp only; omega, hlv', ?_, ho', by simp only; rw [Pm.extL_at]; exact hoA⟩ (by repeat (first | exact Sub.nil | refine Sub.cons rfl ?_ | refine Sub.cons (lk_int rfl (by first | omega | (dsimp only; omega))) ?_)) (fun w h => ?_)
    · refine ⟨by simp only [List.length_append, q3.lv_, List.length_cons, List.length_nil], by have := q3.lc; simp only [List.length_append, List.length_cons, List.length_nil] at this ⊢; omega, fun j hj => ?_⟩
      have hlc : (Cs ++ [Cb]).length = k + 1 := q3.lc
      by_cases e : j = k
      · subst e
        refine ⟨_, C, by simp only; rw [List.getElem?_append_right (by rw [q3.lv_]; omega), q3.lv_, Nat.sub_self]; rfl, by simp only; rw [List.getElem?_append_right (by rw [hlc]; omega), hlc, Nat.sub_self]; rfl, ?_⟩
        simp only
        rw [Pm.extL_at]
        exact hoA
      · obtain ⟨v1, C1, h1, h2, h3⟩ := q3.at_ j (by simp only at hj; omega)
        refine ⟨v1, C1, by simp only; rw [List.getElem?_append_left (List.getElem?_eq_some_iff.1 h1).1]; exact h1, by simp only; rw [List.getElem?_append_left (List.getElem?_eq_some_iff.1 h2).1]; exact h2, ?_⟩
        simp only
        rw [Pm.extL_low q2.zero (by simp only at hj; omega)]
        exact h3
    · have h2 := ((by repeat (first | exact Inc.refl | exact Inc.nil | refine Inc.cons (by repeat (first | exact Take.here | apply Take.there)) ?_ | refine Inc.skip ?_)) : Inc (C' :: Cs.flatten :: Cb :: C :: [(b0, cl (cvs g N ++ rest) 63)] :: L) _).holds h
      simp only [List.flatten_append, List.flatten_cons, List.flatten_nil, List.append_nil]
      simpa [Holds, List.append_assoc] using h2
  · have hk : k = M := by omega
    subst hk
    first | refine WQ_retH rfl rfl ?_ | refine WQ_endH rfl rfl ?_
    refine ⟨_, fun w h => ?_, lv, vs, Cs ++ [Cb], Cl, rfl, q2, q3, q4⟩
    simp only [List.flatten_append, List.flatten_cons, List.flatten_nil, List.append_nil]
    simpa [Holds, List.append_assoc] using h
end Go.Proofs.Yteebdaoanfnkgaa
