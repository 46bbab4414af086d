/- Package huff: symbols read. It proves no statement by itself. No conditions. -/
import Derived.Test.YtkiaegkojlhaeaaDoorZd
import Derived.Test.YtkiaegkojlhaeaaDoorYj
import Derived.Test.YtkiaegkojlhaeaaDoorBc
namespace Go.Proofs.YtkiaegkojlhaeaaDoor
open Go Go.Vx Go.Hf
variable [W0]
set_option maxRecDepth 4000
set_option linter.all false

set_option maxHeartbeats 1000000 in
theorem goesOn_n (p n v s : Nat) (Fv vs : List Value) (L : List Chunk) (hFl : Fv.length = 16) (hvl : vs.length = 16) (hf : Fnd L p (cl (Fv ++ (vs ++ [.int .i64 (s : Int)])) 120)) (hn : n ≤ 15) (hv : v < 65536) :
    GvP Tryd.prog 78 [.pointer (some ⟨p, 0, none⟩), .int .u32 (v : Int), .int .i64 (n : Int)].toArray L (.bool (decide (v * 2 ^ (15 - n) < s))) := by
  have hnt : nth (Fv ++ (vs ++ [Value.int .i64 (s : Int)])) 32 = some (.int .i64 (s : Int)) := by
    rw [nth_eq, List.getElem?_append_right (by omega), hFl, List.getElem?_append_right (by omega), hvl]; rfl
  have hpw : v * 2 ^ (15 - n) ≤ 65536 * 2 ^ 15 := Nat.mul_le_mul (by omega) (Nat.pow_le_pow_right (by decide) (by omega))
  refine Gv.of_body Tryd.func78 rfl rfl ?_
  (repeat' (first | (show WL _ _ _ _ _ _ _; first | refine jA ?_ | refine jB ?_ | refine jC ?_ | refine jD ?_ | refine jE ?_ | refine jF ?_) | (show OW _ _ _ _ _ _; first | refine OW_W ?_ | refine jI ?_ | refine jJ ?_ | refine jK (fun bk => ?_) | refine jL (fun bk => ?_)) | (show WC _ _ _ _ _ _; first | refine jM ?_ | refine jN ?_ | refine jO ?_ | refine jP ?_ | refine jR ?_ | refine jS ?_ | refine jT ?_ | refine jU ?_) | (show WQ _ _ _ _; with_reducible first | refine jV ?_ | refine jW ?_ | refine jX ?_ | refine jY ?_ | refine jZ ?_ | refine kA ?_ | refine kB ?_ | refine kC ?_) | ((first | (refine jG (fun hc => ?_) (fun hc => ?_) <;> rw [hc]) | refine jQ (fun hc => ?_) (fun hc => ?_)) <;> (try simp only [nrB] at hc) <;> (try (exfalso; first | omega | exact hc trivial | exact hc rfl)))))
  refine WC_drawAll [] mixed ?_
  (refine WR_t 0 ?_; refine WR_t 1 ?_; refine WR_t 2 ?_; refine WR_t 3 ?_)
  (refine WR_take 4 rfl rfl (by kernel_rfl) (by repeat (first | with_reducible exact PO.body | with_reducible exact RP_po | with_reducible refine PO.then ?_ | with_reducible refine PO.block ?_)) iC (EV_shl64 v (15 - n) rfl rfl rfl (by omega) (by omega) (by omega)) (by rfl) ?_)
  (refine WR_t 5 ?_; refine WR_t 6 ?_; refine WR_t 7 ?_)
  (refine WR_take 8 rfl rfl (by kernel_rfl) (by repeat (first | with_reducible exact PO.body | with_reducible exact RP_po | with_reducible refine PO.then ?_ | with_reducible refine PO.block ?_)) iC (EV_loadc rfl hf hnt) (by rfl) ?_)
  (refine WR_t 9 ?_; refine WR_t 10 ?_)
  (refine WR_done (by kernel_rfl) ?_)
  (repeat' (first | (show WL _ _ _ _ _ _ _; first | refine jA ?_ | refine jB ?_ | refine jC ?_ | refine jD ?_ | refine jE ?_ | refine jF ?_) | (show OW _ _ _ _ _ _; first | refine OW_W ?_ | refine jI ?_ | refine jJ ?_ | refine jK (fun bk => ?_) | refine jL (fun bk => ?_)) | (show WC _ _ _ _ _ _; first | refine jM ?_ | refine jN ?_ | refine jO ?_ | refine jP ?_ | refine jR ?_ | refine jS ?_ | refine jT ?_ | refine jU ?_) | (show WQ _ _ _ _; with_reducible first | refine jV ?_ | refine jW ?_ | refine jX ?_ | refine jY ?_ | refine jZ ?_ | refine kA ?_ | refine kB ?_ | refine kC ?_) | ((first | (refine jG (fun hc => ?_) (fun hc => ?_) <;> rw [hc]) | refine jQ (fun hc => ?_) (fun hc => ?_)) <;> (try simp only [nrB] at hc) <;> (try (exfalso; first | omega | exact hc trivial | exact hc rfl)))))
  (first | refine WQ_retI rfl rfl ?_ | refine WQ_endI rfl rfl ?_)
  refine ⟨L, iC, ?_, rfl⟩
  exact congrArg Value.bool (decide_eq_decide.2 Int.ofNat_lt)

theorem rdS_at {l : List Nat} {w t z n : Nat} (hn : n ≤ 15) (hI : rdS l w t z 16 0 = rdS l w t z (16 - n) n) (hS : symAt l n (hv w t n) = none) :
    rdS l w t z 16 0 = if extB l n (hv w t n) = false then (0, 3, n) else if z ≤ t + n then (0, 4, n) else rdS l w t z (16 - (n + 1)) (n + 1) := by
  rw [hI, show 16 - n = (16 - (n + 1)) + 1 from by omega, rdS, hS]
theorem smb_fnd {l : List Nat} {vs : List Value} {Cs : List Chunk} {n : Nat} (h : SyR l l.length vs Cs) (h0 : 0 < n) (hn : n < 16) {i : Nat} (hi : l[i]? = some n) {D : Chunk} {L : List Chunk} :
    ∃ b cap c fr, vs[n]? = some (.slice (some ⟨b, 0, none⟩) (cn l n) cap) ∧ Fnd (D :: Cs.flatten :: L) b (.cells c 3 fr) ∧ c[cn (l.take i) n]? = some (.int .i64 (i : Int)) := by
  obtain ⟨v, C, h1, h2, h3⟩ := h.at_ n hn
  have hg := smb_get hi h0
  have hlen := smb_length h0 (Nat.le_refl l.length)
  rw [List.take_length] at hlen
  have hlt := cn_take_lt hi
  rcases h3 with ⟨_, h4, _⟩ | ⟨b, cap, rest, rfl, rfl, _⟩
  · omega
  · refine ⟨b, cap, (ivn (smb l l.length n) ++ rest).toArray, (0, 0), by rw [h1, hlen], ?_, ?_⟩
    · show Fnd _ b (cl (ivn (smb l l.length n) ++ rest) 3)
      refine Fnd.there (Fnd.mem ?_)
      exact List.mem_flatten.2 ⟨_, List.mem_of_getElem? h2, by simp⟩
    · have h5 := ivn_get hg
      have h6 := (List.getElem?_eq_some_iff.1 h5).1
      rw [List.getElem?_toArray, List.getElem?_append_left h6]
      exact h5

set_option maxHeartbeats 4000000 in
theorem hread_n (p q t : Nat) (l : List Nat) (d : List UInt8) (C D E : Chunk) (L : List Chunk) (hC : CoD l p C) (hk : kS l ≤ 32768) (h15 : ∀ x ∈ l, x ≤ 15) (h400 : l.length ≤ 400) (hR : RdN q d t D E) (hl : d.length ≤ 140737488355328) :
    Gv Tryd.prog 68 [.pointer (some ⟨p, 0, none⟩), .pointer (some ⟨q, 0, none⟩)].toArray (C :: D :: E :: L) (fun r L' => ∃ D', r = .tuple #[.int .i64 ((rdS l (val d) t (8 * d.length) 16 0).1 : Int), .int .i64 ((rdS l (val d) t (8 * d.length) 16 0).2.1 : Int)] ∧
      RdN q d (t + (rdS l (val d) t (8 * d.length) 16 0).2.2) D' E ∧ L' = C :: D' :: E :: L) := by
  obtain ⟨vs, Cs, rfl, hS⟩ := hC
  have hco : coC l vs = wnv (fsl l 16) ++ (vs ++ [.int .i64 (kS l : Int)]) := rfl
  have hFl : (wnv (fsl l 16)).length = 16 := by rw [wnv_length, fsl_length]
  have hFg : ∀ n, n < 16 → nth (wnv (fsl l 16) ++ (vs ++ [.int .i64 (kS l : Int)])) (0 + n * 1) = some (.int .u32 ((fs l n : Nat) : Int)) := fun n hn => by
    rw [Nat.zero_add, Nat.mul_one, nth_eq, List.getElem?_append_left (by omega)]
    have := fsl_get l 16 hn
    rw [if_pos hn] at this
    exact wnv_get this
  rw [hco]
  generalize wnv (fsl l 16) = Fv at hFl hFg
  obtain ⟨w, hw⟩ : ∃ w, w = val d := ⟨_, rfl⟩
  obtain ⟨z, hz⟩ : ∃ z, z = 8 * d.length := ⟨_, rfl⟩
  rw [← hw, ← hz]
  refine Gv.holds (L' := [(p, cl (Fv ++ (vs ++ [.int .i64 (kS l : Int)])) 120)] :: Cs.flatten :: D :: E :: L) ?_ (fun w h => Holds.split.1 h)
  refine Gv.of_body Tryd.func68 rfl rfl ?_
  (repeat' (first | (show WL _ _ _ _ _ _ _; first | refine jA ?_ | refine jB ?_ | refine jC ?_ | refine jD ?_ | refine jE ?_ | refine jF ?_) | (show OW _ _ _ _ _ _; first | refine OW_W ?_ | refine jI ?_ | refine jJ ?_ | refine jK (fun bk => ?_) | refine jL (fun bk => ?_)) | (show WC _ _ _ _ _ _; first | refine jM ?_ | refine jN ?_ | refine jO ?_ | refine jP ?_ | refine jR ?_ | refine jS ?_ | refine jT ?_ | refine jU ?_) | (show WQ _ _ _ _; with_reducible first | refine jV ?_ | refine jW ?_ | refine jX ?_ | refine jY ?_ | refine jZ ?_ | refine kA ?_ | refine kB ?_ | refine kC ?_) | ((first | (refine jG (fun hc => ?_) (fun hc => ?_) <;> rw [hc]) | refine jQ (fun hc => ?_) (fun hc => ?_)) <;> (try simp only [nrB] at hc) <;> (try (exfalso; first | omega | exact hc trivial | exact hc rfl)))))
  refine WC_loop (X := Nat × Chunk) (fun x => [(0, .pointer (some ⟨p, 0, none⟩)), (1, .pointer (some ⟨q, 0, none⟩)), (6, .int .u32 ((hv w t x.1 : Nat) : Int)), (7, .int .i64 ((x.1 + 1 : Nat) : Int))])
    (fun x => [(p, cl (Fv ++ (vs ++ [.int .i64 (kS l : Int)])) 120)] :: Cs.flatten :: x.2 :: E :: L)
    (fun x => x.1 ≤ 15 ∧ RdN q d (t + x.1) x.2 E ∧ (if x.1 = 0 then 0 else fs l x.1 + cn l x.1) ≤ hv w t x.1 ∧ rdS l w t z 16 0 = rdS l w t z (16 - x.1) x.1 ∧ symAt l x.1 (hv w t x.1) = none) (fun x => 16 - x.1)
    (0, D) ⟨Nat.zero_le _, hR, Nat.zero_le _, rfl, symAt_none0⟩ (by repeat (first | exact Sub.nil | refine Sub.cons rfl ?_ | refine Sub.cons (lk_int rfl (by first | omega | (dsimp only; omega))) ?_)) (fun w h => h) ?_
  intro x ⟨hx1, hx2, hx3, hx4, hx5⟩
  obtain ⟨n, D1⟩ := x
  simp only at hx1 hx2 hx3 hx4 hx5 ⊢
  have hat := rdS_at hx1 hx4 hx5
  have hlt := hv_lt w t n
  have hp15 : 2 ^ n ≤ 2 ^ 15 := Nat.pow_le_pow_right (by decide) hx1
  have hext : extB l n (hv w t n) = decide (hv w t n * 2 ^ (15 - n) < kS l) := by
    rw [Bool.eq_iff_iff, extB_iff, ext_iff hk h15 hx1, decide_eq_true_eq]
    exact ⟨fun h => h.2, fun h => ⟨hx3, h⟩⟩
  have hend : ∀ (e m : Nat) (M : List (Nat × Value)) (D' : Chunk), rdS l w t z 16 0 = (0, e, m) → RdN q d (t + m) D' E → lk M 4 = some (.int .i64 0) → lk M 5 = some (.int .i64 (e : Int)) →
      WQ Tryd.f68.ntmps (bodyPost Tryd.prog Tryd.f68 (fun e w' => ∃ v L', e = .returned v ∧ (∃ D', v = .tuple #[.int .i64 ((rdS l w t z 16 0).1 : Int), .int .i64 ((rdS l w t z 16 0).2.1 : Int)] ∧
      RdN q d (t + (rdS l w t z 16 0).2.2) D' E ∧ L' = ([(p, cl (Fv ++ (vs ++ [.int .i64 (kS l : Int)])) 120)] ++ Cs.flatten) :: D' :: E :: L) ∧ Holds w' L') .ret) M ([(p, cl (Fv ++ (vs ++ [.int .i64 (kS l : Int)])) 120)] :: Cs.flatten :: D' :: E :: L) := by
    intro e m M D' he hr h4 h5
    refine WQ_retH (rs := [.tmp 4, .tmp 5]) (vs := [.int .i64 0, .int .i64 (e : Int)]) rfl (by simp [resT, h4, h5]) ?_
    rw [he]
    exact ⟨_, fun w h => Holds.split.2 h, D', rfl, hr, rfl⟩
  (repeat' (first | (show WL _ _ _ _ _ _ _; first | refine jA ?_ | refine jB ?_ | refine jC ?_ | refine jD ?_ | refine jE ?_ | refine jF ?_) | (show OW _ _ _ _ _ _; first | refine OW_W ?_ | refine jI ?_ | refine jJ ?_ | refine jK (fun bk => ?_) | refine jL (fun bk => ?_)) | (show WC _ _ _ _ _ _; first | refine jM ?_ | refine jN ?_ | refine jO ?_ | refine jP ?_ | refine jR ?_ | refine jS ?_ | refine jT ?_ | refine jU ?_) | (show WQ _ _ _ _; with_reducible first | refine jV ?_ | refine jW ?_ | refine jX ?_ | refine jY ?_ | refine jZ ?_ | refine kA ?_ | refine kB ?_ | refine kC ?_) | ((first | (refine jG (fun hc => ?_) (fun hc => ?_) <;> rw [hc]) | refine jQ (fun hc => ?_) (fun hc => ?_)) <;> (try simp only [nrB] at hc) <;> (try (exfalso; first | omega | exact hc trivial | exact hc rfl)))))
  · have hn14 : n ≤ 14 := by omega
    rw [show (((n + 1 : Nat) : Nat) : Int) - 1 = (n : Int) from by omega]
    refine OW_callP rfl rfl rfl (goesOn_n p n (hv w t n) (kS l) Fv vs _ hFl hS.lv Fnd.here (by omega) (by omega)) rfl ?_
    by_cases hgo : ¬ hv w t n * 2 ^ (15 - n) < kS l
    · rw [decide_eq_false hgo] at hext ⊢
      rw [if_pos hext] at hat
      (repeat' (first | (show WL _ _ _ _ _ _ _; first | refine jA ?_ | refine jB ?_ | refine jC ?_ | refine jD ?_ | refine jE ?_ | refine jF ?_) | (show OW _ _ _ _ _ _; first | refine OW_W ?_ | refine jI ?_ | refine jJ ?_ | refine jK (fun bk => ?_) | refine jL (fun bk => ?_)) | (show WC _ _ _ _ _ _; first | refine jM ?_ | refine jN ?_ | refine jO ?_ | refine jP ?_ | refine jR ?_ | refine jS ?_ | refine jT ?_ | refine jU ?_) | (show WQ _ _ _ _; with_reducible first | refine jV ?_ | refine jW ?_ | refine jX ?_ | refine jY ?_ | refine jZ ?_ | refine kA ?_ | refine kB ?_ | refine kC ?_) | ((first | (refine jG (fun hc => ?_) (fun hc => ?_) <;> rw [hc]) | refine jQ (fun hc => ?_) (fun hc => ?_)) <;> (try simp only [nrB] at hc) <;> (try (exfalso; first | omega | exact hc trivial | exact hc rfl)))))
      exact hend 3 n _ _ hat hx2 rfl rfl
    rw [decide_eq_true (Decidable.of_not_not hgo)] at hext ⊢
    rw [if_neg (by rw [hext]; simp)] at hat
    (repeat' (first | (show WL _ _ _ _ _ _ _; first | refine jA ?_ | refine jB ?_ | refine jC ?_ | refine jD ?_ | refine jE ?_ | refine jF ?_) | (show OW _ _ _ _ _ _; first | refine OW_W ?_ | refine jI ?_ | refine jJ ?_ | refine jK (fun bk => ?_) | refine jL (fun bk => ?_)) | (show WC _ _ _ _ _ _; first | refine jM ?_ | refine jN ?_ | refine jO ?_ | refine jP ?_ | refine jR ?_ | refine jS ?_ | refine jT ?_ | refine jU ?_) | (show WQ _ _ _ _; with_reducible first | refine jV ?_ | refine jW ?_ | refine jX ?_ | refine jY ?_ | refine jZ ?_ | refine kA ?_ | refine kB ?_ | refine kC ?_) | ((first | (refine jG (fun hc => ?_) (fun hc => ?_) <;> rw [hc]) | refine jQ (fun hc => ?_) (fun hc => ?_)) <;> (try simp only [nrB] at hc) <;> (try (exfalso; first | omega | exact hc trivial | exact hc rfl)))))
    refine OW_call rfl rfl rfl (Gv.take2 (take_n q (t + n) 1 d D1 E ([(p, cl (Fv ++ (vs ++ [.int .i64 (kS l : Int)])) 120)] :: Cs.flatten :: L) hx2 hl) (by repeat (first | exact Take.here | apply Take.there)) (by repeat (first | exact Take.here | apply Take.there))) rfl (fun r L' hp => ?_)
    obtain ⟨rfl, D2, hr2, rfl⟩ := hp
    by_cases hz2 : z ≤ t + n
    · rw [if_pos hz2] at hat
      have hb : tkB d (t + n) 1 = false := tkB_no (by omega)
      have htt : tkT d (t + n) 1 = t + n := by unfold tkT; rw [hb]; rfl
      rw [htt] at hr2
      rw [hb]
      (repeat' (first | (show WL _ _ _ _ _ _ _; first | refine jA ?_ | refine jB ?_ | refine jC ?_ | refine jD ?_ | refine jE ?_ | refine jF ?_) | (show OW _ _ _ _ _ _; first | refine OW_W ?_ | refine jI ?_ | refine jJ ?_ | refine jK (fun bk => ?_) | refine jL (fun bk => ?_)) | (show WC _ _ _ _ _ _; first | refine jM ?_ | refine jN ?_ | refine jO ?_ | refine jP ?_ | refine jR ?_ | refine jS ?_ | refine jT ?_ | refine jU ?_) | (show WQ _ _ _ _; with_reducible first | refine jV ?_ | refine jW ?_ | refine jX ?_ | refine jY ?_ | refine jZ ?_ | refine kA ?_ | refine kB ?_ | refine kC ?_) | ((first | (refine jG (fun hc => ?_) (fun hc => ?_) <;> rw [hc]) | refine jQ (fun hc => ?_) (fun hc => ?_)) <;> (try simp only [nrB] at hc) <;> (try (exfalso; first | omega | exact hc trivial | exact hc rfl)))))
      refine WQ_holds (L' := [(p, cl (Fv ++ (vs ++ [.int .i64 (kS l : Int)])) 120)] :: Cs.flatten :: D2 :: E :: L) (fun w h => iH h) ?_
      exact hend 4 n _ _ hat hr2 rfl rfl
    rw [if_neg hz2] at hat
    have hb : tkB d (t + n) 1 = true := tkB_nat (n := 1) (by omega) (by omega)
    obtain ⟨hv1, hv2⟩ := tk_nat (d := d) (t := t + n) (n := 1) (by omega) (by omega)
    have hv1 : tkV d (t + n) 1 = w / 2 ^ (t + n) % 2 := by rw [hw]; exact hv1
    have hv2 : tkT d (t + n) 1 = t + (n + 1) := hv2
    rw [hv2] at hr2
    rw [hb, hv1]
    have hvs : hv w t (n + 1) = 2 * hv w t n + w / 2 ^ (t + n) % 2 := rfl
    obtain ⟨bt, hbt⟩ : ∃ bt, bt = w / 2 ^ (t + n) % 2 := ⟨_, rfl⟩
    have hbt2 : bt < 2 := by omega
    rw [← hbt] at hvs ⊢
    have hvl := hv_lt w t (n + 1)
    have hp16 : 2 ^ (n + 1) ≤ 2 ^ 15 := Nat.pow_le_pow_right (by decide) (by omega)
    have hfsn : fs l (n + 1) = 2 * (fs l n + if n = 0 then 0 else cn l n) := rfl
    have hge : fs l (n + 1) ≤ hv w t (n + 1) := by
      rw [hvs, hfsn]
      by_cases h0 : n = 0
      · subst h0; simp [fs]
      · rw [if_neg h0] at hx3 ⊢; omega
    have hlast : rdS l w t z 16 0 = match symAt l (n + 1) (hv w t (n + 1)) with
        | some i => (i, 0, n + 1)
        | none => rdS l w t z (16 - (n + 1)) (n + 1) := by
      rw [hat]
      cases hs : symAt l (n + 1) (hv w t (n + 1)) with
      | none => rfl
      | some i => rw [show 16 - (n + 1) = (15 - (n + 1)) + 1 from by omega, rdS, hs]
    (repeat' (first | (show WL _ _ _ _ _ _ _; first | refine jA ?_ | refine jB ?_ | refine jC ?_ | refine jD ?_ | refine jE ?_ | refine jF ?_) | (show OW _ _ _ _ _ _; first | refine OW_E ?_ | refine jI ?_ | refine jJ ?_ | refine jK (fun bk => ?_) | refine jL (fun bk => ?_)) | (show WC _ _ _ _ _ _; first | refine jM ?_ | refine jN ?_ | refine jO ?_ | refine jP ?_ | refine jR ?_ | refine jS ?_ | refine jT ?_ | refine jU ?_) | (show WQ _ _ _ _; with_reducible first | refine jV ?_ | refine jW ?_ | refine jX ?_ | refine jY ?_ | refine jZ ?_ | refine kA ?_ | refine kB ?_ | refine kC ?_) | ((first | (refine jG (fun hc => ?_) (fun hc => ?_) <;> rw [hc]) | refine jQ (fun hc => ?_) (fun hc => ?_)) <;> (try simp only [nrB] at hc) <;> (try (exfalso; first | omega | exact hc trivial | exact hc rfl)))))
    refine OW_EV (EV_nshl (hv w t n) 1 rfl rfl rfl rfl rfl (by simp only [IntKind.bits]; omega)) rfl ?_
    (repeat' (first | (show WL _ _ _ _ _ _ _; first | refine jA ?_ | refine jB ?_ | refine jC ?_ | refine jD ?_ | refine jE ?_ | refine jF ?_) | (show OW _ _ _ _ _ _; first | refine OW_E ?_ | refine jI ?_ | refine jJ ?_ | refine jK (fun bk => ?_) | refine jL (fun bk => ?_)) | (show WC _ _ _ _ _ _; first | refine jM ?_ | refine jN ?_ | refine jO ?_ | refine jP ?_ | refine jR ?_ | refine jS ?_ | refine jT ?_ | refine jU ?_) | (show WQ _ _ _ _; with_reducible first | refine jV ?_ | refine jW ?_ | refine jX ?_ | refine jY ?_ | refine jZ ?_ | refine kA ?_ | refine kB ?_ | refine kC ?_) | ((first | (refine jG (fun hc => ?_) (fun hc => ?_) <;> rw [hc]) | refine jQ (fun hc => ?_) (fun hc => ?_)) <;> (try simp only [nrB] at hc) <;> (try (exfalso; first | omega | exact hc trivial | exact hc rfl)))))
    refine OW_EV (EV_nor' bt (hv w t n) 1 rfl rfl rfl rfl rfl (by omega) (by simp only [IntKind.bits]; omega)) rfl ?_
    rw [show bt + hv w t n * 2 ^ 1 = hv w t (n + 1) from by rw [hvs]; omega]
    (repeat' (first | (show WL _ _ _ _ _ _ _; first | refine jA ?_ | refine jB ?_ | refine jC ?_ | refine jD ?_ | refine jE ?_ | refine jF ?_) | (show OW _ _ _ _ _ _; first | refine OW_E ?_ | refine jI ?_ | refine jJ ?_ | refine jK (fun bk => ?_) | refine jL (fun bk => ?_)) | (show WC _ _ _ _ _ _; first | refine jM ?_ | refine jN ?_ | refine jO ?_ | refine jP ?_ | refine jR ?_ | refine jS ?_ | refine jT ?_ | refine jU ?_) | (show WQ _ _ _ _; with_reducible first | refine jV ?_ | refine jW ?_ | refine jX ?_ | refine jY ?_ | refine jZ ?_ | refine kA ?_ | refine kB ?_ | refine kC ?_) | ((first | (refine jG (fun hc => ?_) (fun hc => ?_) <;> rw [hc]) | refine jQ (fun hc => ?_) (fun hc => ?_)) <;> (try simp only [nrB] at hc) <;> (try (exfalso; first | omega | exact hc trivial | exact hc rfl)))))
    refine OW_EV (EV_indexAddrA' (n + 1) rfl rfl rfl (by omega)) rfl ?_
    (repeat' (first | (show WL _ _ _ _ _ _ _; first | refine jA ?_ | refine jB ?_ | refine jC ?_ | refine jD ?_ | refine jE ?_ | refine jF ?_) | (show OW _ _ _ _ _ _; first | refine OW_E ?_ | refine jI ?_ | refine jJ ?_ | refine jK (fun bk => ?_) | refine jL (fun bk => ?_)) | (show WC _ _ _ _ _ _; first | refine jM ?_ | refine jN ?_ | refine jO ?_ | refine jP ?_ | refine jR ?_ | refine jS ?_ | refine jT ?_ | refine jU ?_) | (show WQ _ _ _ _; with_reducible first | refine jV ?_ | refine jW ?_ | refine jX ?_ | refine jY ?_ | refine jZ ?_ | refine kA ?_ | refine kB ?_ | refine kC ?_) | ((first | (refine jG (fun hc => ?_) (fun hc => ?_) <;> rw [hc]) | refine jQ (fun hc => ?_) (fun hc => ?_)) <;> (try simp only [nrB] at hc) <;> (try (exfalso; first | omega | exact hc trivial | exact hc rfl)))))
    refine OW_EV (EV_loadc rfl (by repeat (first | assumption | exact Fnd.here | refine Fnd.there ?_)) (hFg (n + 1) (by omega))) rfl ?_
    (repeat' (first | (show WL _ _ _ _ _ _ _; first | refine jA ?_ | refine jB ?_ | refine jC ?_ | refine jD ?_ | refine jE ?_ | refine jF ?_) | (show OW _ _ _ _ _ _; first | refine OW_E ?_ | refine jI ?_ | refine jJ ?_ | refine jK (fun bk => ?_) | refine jL (fun bk => ?_)) | (show WC _ _ _ _ _ _; first | refine jM ?_ | refine jN ?_ | refine jO ?_ | refine jP ?_ | refine jR ?_ | refine jS ?_ | refine jT ?_ | refine jU ?_) | (show WQ _ _ _ _; with_reducible first | refine jV ?_ | refine jW ?_ | refine jX ?_ | refine jY ?_ | refine jZ ?_ | refine kA ?_ | refine kB ?_ | refine kC ?_) | ((first | (refine jG (fun hc => ?_) (fun hc => ?_) <;> rw [hc]) | refine jQ (fun hc => ?_) (fun hc => ?_)) <;> (try simp only [nrB] at hc) <;> (try (exfalso; first | omega | exact hc trivial | exact hc rfl)))))
    refine OW_EV (EV_nsub (hv w t (n + 1)) (fs l (n + 1)) rfl rfl rfl rfl rfl hge (by simp only [IntKind.bits]; omega)) rfl ?_
    obtain ⟨x, hx⟩ : ∃ x, x = hv w t (n + 1) - fs l (n + 1) := ⟨_, rfl⟩
    rw [← hx]
    have hxb : x ≤ 32768 := by omega
    (repeat' (first | (show WL _ _ _ _ _ _ _; first | refine jA ?_ | refine jB ?_ | refine jC ?_ | refine jD ?_ | refine jE ?_ | refine jF ?_) | (show OW _ _ _ _ _ _; first | refine OW_E ?_ | refine jI ?_ | refine jJ ?_ | refine jK (fun bk => ?_) | refine jL (fun bk => ?_)) | (show WC _ _ _ _ _ _; first | refine jM ?_ | refine jN ?_ | refine jO ?_ | refine jP ?_ | refine jR ?_ | refine jS ?_ | refine jT ?_ | refine jU ?_) | (show WQ _ _ _ _; with_reducible first | refine jV ?_ | refine jW ?_ | refine jX ?_ | refine jY ?_ | refine jZ ?_ | refine kA ?_ | refine kB ?_ | refine kC ?_) | ((first | (refine jG (fun hc => ?_) (fun hc => ?_) <;> rw [hc]) | refine jQ (fun hc => ?_) (fun hc => ?_)) <;> (try simp only [nrB] at hc) <;> (try (exfalso; first | omega | exact hc trivial | exact hc rfl)))))
    refine OW_EV (EV_indexAddrA' (n + 1) rfl rfl rfl (by omega)) rfl ?_
    (repeat' (first | (show WL _ _ _ _ _ _ _; first | refine jA ?_ | refine jB ?_ | refine jC ?_ | refine jD ?_ | refine jE ?_ | refine jF ?_) | (show OW _ _ _ _ _ _; first | refine OW_E ?_ | refine jI ?_ | refine jJ ?_ | refine jK (fun bk => ?_) | refine jL (fun bk => ?_)) | (show WC _ _ _ _ _ _; first | refine jM ?_ | refine jN ?_ | refine jO ?_ | refine jP ?_ | refine jR ?_ | refine jS ?_ | refine jT ?_ | refine jU ?_) | (show WQ _ _ _ _; with_reducible first | refine jV ?_ | refine jW ?_ | refine jX ?_ | refine jY ?_ | refine jZ ?_ | refine kA ?_ | refine kB ?_ | refine kC ?_) | ((first | (refine jG (fun hc => ?_) (fun hc => ?_) <;> rw [hc]) | refine jQ (fun hc => ?_) (fun hc => ?_)) <;> (try simp only [nrB] at hc) <;> (try (exfalso; first | omega | exact hc trivial | exact hc rfl)))))
    obtain ⟨v, C1, hv1, hC1, ho1⟩ := hS.at_ (n + 1) (by omega)
    obtain ⟨sa, sc, rfl⟩ := ow_slc ho1
    have hsl := smb_length (l := l) (n := n + 1) (by omega) (Nat.le_refl l.length)
    rw [List.take_length] at hsl
    rw [hsl] at hv1
    refine OW_EV (EV_loadc rfl (by repeat (first | assumption | exact Fnd.here | refine Fnd.there ?_)) (co_nth hFl hv1)) rfl ?_
    (repeat' (first | (show WL _ _ _ _ _ _ _; first | refine jA ?_ | refine jB ?_ | refine jC ?_ | refine jD ?_ | refine jE ?_ | refine jF ?_) | (show OW _ _ _ _ _ _; first | refine OW_E ?_ | refine jI ?_ | refine jJ ?_ | refine jK (fun bk => ?_) | refine jL (fun bk => ?_)) | (show WC _ _ _ _ _ _; first | refine jM ?_ | refine jN ?_ | refine jO ?_ | refine jP ?_ | refine jR ?_ | refine jS ?_ | refine jT ?_ | refine jU ?_) | (show WQ _ _ _ _; with_reducible first | refine jV ?_ | refine jW ?_ | refine jX ?_ | refine jY ?_ | refine jZ ?_ | refine kA ?_ | refine kB ?_ | refine kC ?_) | ((first | (refine jG (fun hc => ?_) (fun hc => ?_) <;> rw [hc]) | refine jQ (fun hc => ?_) (fun hc => ?_)) <;> (try simp only [nrB] at hc) <;> (try (exfalso; first | omega | exact hc trivial | exact hc rfl)))))
    · refine OW_EV (EV_indexAddrA' (n + 1) rfl rfl rfl (by omega)) rfl ?_
      (repeat' (first | (show WL _ _ _ _ _ _ _; first | refine jA ?_ | refine jB ?_ | refine jC ?_ | refine jD ?_ | refine jE ?_ | refine jF ?_) | (show OW _ _ _ _ _ _; first | refine OW_E ?_ | refine jI ?_ | refine jJ ?_ | refine jK (fun bk => ?_) | refine jL (fun bk => ?_)) | (show WC _ _ _ _ _ _; first | refine jM ?_ | refine jN ?_ | refine jO ?_ | refine jP ?_ | refine jR ?_ | refine jS ?_ | refine jT ?_ | refine jU ?_) | (show WQ _ _ _ _; with_reducible first | refine jV ?_ | refine jW ?_ | refine jX ?_ | refine jY ?_ | refine jZ ?_ | refine kA ?_ | refine kB ?_ | refine kC ?_) | ((first | (refine jG (fun hc => ?_) (fun hc => ?_) <;> rw [hc]) | refine jQ (fun hc => ?_) (fun hc => ?_)) <;> (try simp only [nrB] at hc) <;> (try (exfalso; first | omega | exact hc trivial | exact hc rfl)))))
      obtain ⟨i, hi1, hi2⟩ := cd_surj (l := l) (n := n + 1) (by omega) hge (show hv w t (n + 1) < fs l (n + 1) + cn l (n + 1) by omega)
      obtain ⟨b, cap, cc, fr, hvb, hfn, hcell⟩ := smb_fnd hS (by omega) (by omega) hi1 (D := [(p, cl (Fv ++ (vs ++ [.int .i64 (kS l : Int)])) 120)]) (L := D2 :: E :: L)
      rw [hv1] at hvb
      injection hvb with hvb
      injection hvb with e1 e2 e3
      subst e1 e3
      refine OW_EV (EV_loadc rfl (by repeat (first | assumption | exact Fnd.here | refine Fnd.there ?_)) (co_nth hFl hv1)) rfl ?_
      (repeat' (first | (show WL _ _ _ _ _ _ _; first | refine jA ?_ | refine jB ?_ | refine jC ?_ | refine jD ?_ | refine jE ?_ | refine jF ?_) | (show OW _ _ _ _ _ _; first | refine OW_E ?_ | refine jI ?_ | refine jJ ?_ | refine jK (fun bk => ?_) | refine jL (fun bk => ?_)) | (show WC _ _ _ _ _ _; first | refine jM ?_ | refine jN ?_ | refine jO ?_ | refine jP ?_ | refine jR ?_ | refine jS ?_ | refine jT ?_ | refine jU ?_) | (show WQ _ _ _ _; with_reducible first | refine jV ?_ | refine jW ?_ | refine jX ?_ | refine jY ?_ | refine jZ ?_ | refine kA ?_ | refine kB ?_ | refine kC ?_) | ((first | (refine jG (fun hc => ?_) (fun hc => ?_) <;> rw [hc]) | refine jQ (fun hc => ?_) (fun hc => ?_)) <;> (try simp only [nrB] at hc) <;> (try (exfalso; first | omega | exact hc trivial | exact hc rfl)))))
      have hcd : cd l i = fs l (n + 1) + cn (l.take i) (n + 1) := by
        have hg : l.getD i 0 = n + 1 := by simp [List.getD, hi1]
        unfold cd; rw [hg, if_neg (by omega)]
      have hxc : x = cn (l.take i) (n + 1) := by omega
      have hcell' : cc[x * 1]? = some (.int .i64 (i : Int)) := by rw [Nat.mul_one, hxc]; exact hcell
      have hsy := symAt_some hi1 (by omega)
      rw [hi2] at hsy
      rw [hsy] at hlast
      refine OW_holds (L' := [(p, cl (Fv ++ (vs ++ [.int .i64 (kS l : Int)])) 120)] :: Cs.flatten :: D2 :: E :: L) (fun w h => iH h) ?_
      refine OW_EV (EV_indexAddr0 (j := x) rfl rfl rfl (by omega)) rfl ?_
      (repeat' (first | (show WL _ _ _ _ _ _ _; first | refine jA ?_ | refine jB ?_ | refine jC ?_ | refine jD ?_ | refine jE ?_ | refine jF ?_) | (show OW _ _ _ _ _ _; first | refine OW_E ?_ | refine jI ?_ | refine jJ ?_ | refine jK (fun bk => ?_) | refine jL (fun bk => ?_)) | (show WC _ _ _ _ _ _; first | refine jM ?_ | refine jN ?_ | refine jO ?_ | refine jP ?_ | refine jR ?_ | refine jS ?_ | refine jT ?_ | refine jU ?_) | (show WQ _ _ _ _; with_reducible first | refine jV ?_ | refine jW ?_ | refine jX ?_ | refine jY ?_ | refine jZ ?_ | refine kA ?_ | refine kB ?_ | refine kC ?_) | ((first | (refine jG (fun hc => ?_) (fun hc => ?_) <;> rw [hc]) | refine jQ (fun hc => ?_) (fun hc => ?_)) <;> (try simp only [nrB] at hc) <;> (try (exfalso; first | omega | exact hc trivial | exact hc rfl)))))
      refine OW_EV (EV_load rfl hfn hcell') rfl ?_
      (repeat' (first | (show WL _ _ _ _ _ _ _; first | refine jA ?_ | refine jB ?_ | refine jC ?_ | refine jD ?_ | refine jE ?_ | refine jF ?_) | (show OW _ _ _ _ _ _; first | refine OW_E ?_ | refine jI ?_ | refine jJ ?_ | refine jK (fun bk => ?_) | refine jL (fun bk => ?_)) | (show WC _ _ _ _ _ _; first | refine jM ?_ | refine jN ?_ | refine jO ?_ | refine jP ?_ | refine jR ?_ | refine jS ?_ | refine jT ?_ | refine jU ?_) | (show WQ _ _ _ _; with_reducible first | refine jV ?_ | refine jW ?_ | refine jX ?_ | refine jY ?_ | refine jZ ?_ | refine kA ?_ | refine kB ?_ | refine kC ?_) | ((first | (refine jG (fun hc => ?_) (fun hc => ?_) <;> rw [hc]) | refine jQ (fun hc => ?_) (fun hc => ?_)) <;> (try simp only [nrB] at hc) <;> (try (exfalso; first | omega | exact hc trivial | exact hc rfl)))))
      first | refine WQ_retH rfl rfl ?_ | refine WQ_endH rfl rfl ?_
      rw [hlast]
      exact ⟨_, fun w h => Holds.split.2 h, D2, rfl, hr2, rfl⟩
    · have hs : symAt l (n + 1) (hv w t (n + 1)) = none := symAt_none (.inr (by omega))
      rw [hs] at hlast
      refine WQ_round (X := Nat × Chunk) (μ := fun x => 16 - x.1) (x := (n, D1)) (n + 1, D2) (by simp only; omega) ⟨by simp only; omega, hr2, ?_, hlast, hs⟩ (by repeat (first | exact Sub.nil | refine Sub.cons rfl ?_ | refine Sub.cons (lk_int rfl (by first | omega | (dsimp only; omega))) ?_)) (fun w h => iH h)
      simp only
      rw [if_neg (by omega)]
      omega
  · have hn15 : n = 15 := by omega
    subst hn15
    have hno : extB l 15 (hv w t 15) = false := by
      cases he : extB l 15 (hv w t 15) with
      | false => rfl
      | true =>
        obtain ⟨i, m, h1, h2, _⟩ := extB_iff.1 he
        have := h15 m (List.mem_of_getElem? h1)
        omega
    rw [if_pos hno] at hat
    exact hend 3 15 _ _ hat hx2 rfl rfl
end Go.Proofs.YtkiaegkojlhaeaaDoor
