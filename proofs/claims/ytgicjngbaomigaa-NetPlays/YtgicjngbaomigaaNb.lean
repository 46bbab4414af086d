/- Send, At, cut, Take, Twice. It proves no statement by itself. No conditions. -/
import Derived.Test.YtgicjngbaomigaaNa
namespace Go.Proofs.Ytgicjngbaomigaa
open Go Go.Vx
variable [W0]
set_option maxRecDepth 4000
set_option linter.all false

omit [W0] in
def sendN (S : Nt) (a b : Int) (x : List UInt8) : Int × Nt :=
  if a < 0 ∨ b < 0 then (1, S) else if S.mtu < x.length then (2, S) else if S.most ≤ S.grams.length then (60, { S with lost := S.lost + 1 }) else (0, { S with grams := S.grams ++ [⟨a, b, x⟩] })

theorem GR.more {D C : Chunk} {ds : List Dg} {vs : List Value} (h : GR D ds vs) {v : Value} {d : Dg} (hv : Sl [C] 1 v d.b.length (bsv d.b)) : GR (C ++ D) (ds ++ [d]) (vs ++ [v]) := by
  refine ⟨by simp [h.lv], fun i e hi => ?_⟩
  rcases Nat.lt_or_ge i ds.length with hlt | hge
  · rw [List.getElem?_append_left hlt] at hi
    obtain ⟨u, h1, h2⟩ := h.at_ i e hi
    exact ⟨u, by rw [List.getElem?_append_left (by rw [h.lv]; exact hlt)]; exact h1, sl_part (fun x hx => by simp [hx]) h2⟩
  · rw [List.getElem?_append_right hge] at hi
    have hi0 : i - ds.length = 0 := by
      rcases Nat.eq_zero_or_pos (i - ds.length) with h | h
      · exact h
      · obtain ⟨q, hq⟩ : ∃ q, i - ds.length = q + 1 := ⟨i - ds.length - 1, by omega⟩
        rw [hq] at hi; simp at hi
    rw [hi0] at hi; simp at hi; subst hi
    exact ⟨v, by rw [List.getElem?_append_right (by rw [h.lv]; exact hge), h.lv, hi0]; rfl, sl_part (fun x hx => by simp [hx]) hv⟩

set_option maxHeartbeats 1000000 in
theorem send_n (S : Nt) (p m : Nat) (a b : Int) (x : List UInt8) (v : Value) (C : Chunk) (L : List Chunk) (hA : NetAt S p C) (hG : Fit S m) (hm : m ≤ 1000000) (hv : Sl L 1 v x.length (bsv x)) :
    Gv Try.prog 37 [.pointer (some ⟨p, 0, none⟩), .int .i64 a, .int .i64 b, v].toArray (C :: L)
      (fun r L' => ∃ C', r = .int .i64 (sendN S a b x).1 ∧ L' = C' :: L ∧ NetAt (sendN S a b x).2 p C') := by
  obtain ⟨tv, vs, Ct, D, rfl, ht, hr⟩ := hA
  refine Gv.holds (L' := nhdr S p tv :: Ct :: D :: L) ?_ (fun w h => three.1 h)
  obtain ⟨va, vc, rfl⟩ := sl_slice hv
  obtain ⟨ta, tc, rfl⟩ := ow_slc ht
  have hlost := hG.lost
  have hlen := hG.len
  have hmtu := hG.mtu
  refine Gv.of_body Try.func37 rfl rfl ?_
  have hL : ∀ w, Holds w (nhdr S p (.slice ta S.grams.length tc) :: Ct :: D :: L) → Holds w ((nhdr S p (.slice ta S.grams.length tc) ++ (Ct ++ D)) :: L) := fun w h => three.2 h
  have same : ∀ n : Int, sendN S a b x = (n, S) → ∃ L', (∀ w, Holds w (nhdr S p (.slice ta S.grams.length tc) :: Ct :: D :: L) → Holds w L') ∧ ∃ C', tupled [Value.int .i64 n] = .int .i64 (sendN S a b x).1 ∧ L' = C' :: L ∧ NetAt (sendN S a b x).2 p C' := fun n hn => by
    rw [hn]
    exact ⟨_, hL, _, rfl, rfl, _, vs, Ct, D, rfl, ht, hr⟩
  simp only [nhdr, nhdrO] at *
  (repeat' (first | (show WL _ _ _ _ _ _ _; first | (refine WL_plain rfl ?_) | (refine WL_nil ?_) | (refine WL_on rfl rfl ?_) | (refine WL_off rfl rfl rfl rfl ?_) | (refine WL_offu rfl rfl rfl rfl ?_) | (refine WL_off' rfl rfl rfl ?_) | ((refine WL_split rfl rfl (fun hc => ?_) (fun hc => ?_)) <;> (rw [hc]; (try simp only [decide_eq_true_eq, decide_eq_false_iff_not, beq_iff_eq, bne_iff_ne, beq_eq_false_iff_ne, bne_eq_false_iff_eq, Bool.not_eq_true', Bool.not_eq_false', Bool.not_eq_true, Bool.and_eq_true, Bool.or_eq_true, Bool.or_eq_false_iff, ne_eq] at hc); (try (exfalso; omega))))) | (show OW _ _ _ _ _ _; refine OW_E ?_) | (show OW _ _ ⟨_, .store .., _, _, _, _⟩ _ _ _; first | (refine OW_store rfl rfl rfl (by repeat (first | exact Upd.here | apply Upd.there)) (by first | (simp; done) | (simp; omega)) ?_) | (refine OW_storeAgg rfl rfl rfl rfl (by repeat (first | exact Upd.here | apply Upd.there)) (by first | (simp [Value.cells]; done) | (simp [Value.cells]; omega)) ?_)) | (show OW _ _ ⟨_, .alloc _, _, _, _, _⟩ _ _ _; first | (refine OW_alloc rfl (fun bk => ?_))) | (show OW _ _ ⟨_, .box .., _, _, _, _⟩ _ _ _; first | (refine OW_box rfl rfl (fun bk => ?_))) | (show WC _ _ _ _ _ _; first | (refine WC_seq ?_) | (refine WC_region ?_) | (refine WC_true rfl ?_) | (refine WC_false rfl ?_) | ((refine WC_cond rfl (fun hc => ?_) (fun hc => ?_)) <;> (try simp only [decide_eq_true_eq, decide_eq_false_iff_not, beq_iff_eq, bne_iff_ne, beq_eq_false_iff_ne, bne_eq_false_iff_eq, Bool.not_eq_true', Bool.not_eq_false', Bool.not_eq_true, Bool.and_eq_true, Bool.or_eq_true, Bool.or_eq_false_iff, ne_eq] at hc) <;> (try (exfalso; omega))) | (refine WC_skip ?_) | (refine WC_ret ?_) | (refine WC_exit ?_) | (refine WC_block ?_)) | (show WQ _ _ _ _; first | (with_reducible refine WQ_then_normal ?_) | (with_reducible refine WQ_code ?_) | (with_reducible refine WQ_then_ret ?_) | (with_reducible refine WQ_block_ret ?_) | (with_reducible refine WQ_then_exit ?_) | (with_reducible refine WQ_block_hit ?_) | (with_reducible refine WQ_block_miss rfl ?_) | (with_reducible refine WQ_block_normal ?_))))
  · have h1 : a < 0 := by assumption
    first | refine WQ_retH rfl rfl ?_ | refine WQ_endH rfl rfl ?_
    exact same 1 (by simp [sendN, h1])
  · have h1 : b < 0 := by assumption
    first | refine WQ_retH rfl rfl ?_ | refine WQ_endH rfl rfl ?_
    exact same 1 (by simp [sendN, h1])
  · have h1 : ¬ a < 0 := by assumption
    have h2 : ¬ b < 0 := by assumption
    have h3 : (x.length : Int) > (S.mtu : Int) := by assumption
    first | refine WQ_retH rfl rfl ?_ | refine WQ_endH rfl rfl ?_
    exact same 2 (by unfold sendN; rw [if_neg (by omega), if_pos (by omega)])
  · have h1 : ¬ a < 0 := by assumption
    have h2 : ¬ b < 0 := by assumption
    have h3 : ¬ (x.length : Int) > (S.mtu : Int) := by assumption
    refine OW_callP rfl rfl rfl (full_n S p ta tc _ Fnd.here) rfl ?_
    (repeat' (first | (show WL _ _ _ _ _ _ _; first | (refine WL_plain rfl ?_) | (refine WL_nil ?_) | (refine WL_on rfl rfl ?_) | (refine WL_off rfl rfl rfl rfl ?_) | (refine WL_offu rfl rfl rfl rfl ?_) | (refine WL_off' rfl rfl rfl ?_) | ((refine WL_split rfl rfl (fun hc => ?_) (fun hc => ?_)) <;> (rw [hc]; (try simp only [decide_eq_true_eq, decide_eq_false_iff_not, beq_iff_eq, bne_iff_ne, beq_eq_false_iff_ne, bne_eq_false_iff_eq, Bool.not_eq_true', Bool.not_eq_false', Bool.not_eq_true, Bool.and_eq_true, Bool.or_eq_true, Bool.or_eq_false_iff, ne_eq] at hc); (try (exfalso; omega))))) | (show OW _ _ _ _ _ _; refine OW_E ?_) | (show OW _ _ ⟨_, .store .., _, _, _, _⟩ _ _ _; first | (refine OW_store rfl rfl rfl (by repeat (first | exact Upd.here | apply Upd.there)) (by first | (simp; done) | (simp; omega)) ?_) | (refine OW_storeAgg rfl rfl rfl rfl (by repeat (first | exact Upd.here | apply Upd.there)) (by first | (simp [Value.cells]; done) | (simp [Value.cells]; omega)) ?_)) | (show OW _ _ ⟨_, .alloc _, _, _, _, _⟩ _ _ _; first | (refine OW_alloc rfl (fun bk => ?_))) | (show OW _ _ ⟨_, .box .., _, _, _, _⟩ _ _ _; first | (refine OW_box rfl rfl (fun bk => ?_))) | (show WC _ _ _ _ _ _; first | (refine WC_seq ?_) | (refine WC_region ?_) | (refine WC_true rfl ?_) | (refine WC_false rfl ?_) | ((refine WC_cond rfl (fun hc => ?_) (fun hc => ?_)) <;> (try simp only [decide_eq_true_eq, decide_eq_false_iff_not, beq_iff_eq, bne_iff_ne, beq_eq_false_iff_ne, bne_eq_false_iff_eq, Bool.not_eq_true', Bool.not_eq_false', Bool.not_eq_true, Bool.and_eq_true, Bool.or_eq_true, Bool.or_eq_false_iff, ne_eq] at hc) <;> (try (exfalso; omega))) | (refine WC_skip ?_) | (refine WC_ret ?_) | (refine WC_exit ?_) | (refine WC_block ?_)) | (show WQ _ _ _ _; first | (with_reducible refine WQ_then_normal ?_) | (with_reducible refine WQ_code ?_) | (with_reducible refine WQ_then_ret ?_) | (with_reducible refine WQ_block_ret ?_) | (with_reducible refine WQ_then_exit ?_) | (with_reducible refine WQ_block_hit ?_) | (with_reducible refine WQ_block_miss rfl ?_) | (with_reducible refine WQ_block_normal ?_))))
    · have h4 : S.most ≤ S.grams.length := by assumption
      have hc : sendN S a b x = (60, { S with lost := S.lost + 1 }) := by unfold sendN; rw [if_neg (by omega), if_neg (by omega), if_pos h4]
      first | refine WQ_retH rfl rfl ?_ | refine WQ_endH rfl rfl ?_
      rw [hc]
      refine ⟨_, fun w h => three.2 h, _, rfl, rfl, .slice ta S.grams.length tc, vs, Ct, D, ?_, ht, hr⟩
      simp [nhdr, nhdrO]
    · have h4 : ¬ S.most ≤ S.grams.length := by assumption
      have hc : sendN S a b x = (0, { S with grams := S.grams ++ [⟨a, b, x⟩] }) := by unfold sendN; rw [if_neg (by omega), if_neg (by omega), if_neg h4]
      refine WC_draw [nhdr S p (.slice ta S.grams.length tc)] [14] mixed ?_
      simp only [nhdr, nhdrO]
      (refine WR_t 0 ?_; refine WR_t 1 ?_; refine WR_t 2 ?_; refine WR_t 3 ?_; refine WR_t 4 ?_; refine WR_t 5 ?_; refine WR_t 6 ?_; refine WR_t 7 ?_)
      (refine WR_one 8 (by kernel_rfl) rfl rfl ?_)
      refine OW_call rfl rfl rfl (nclone_1 _ x _ (sl_in (A := [_, _, _]) hv) (by omega)) rfl (fun r L' hp => ?_)
      obtain ⟨C', rfl, ho⟩ := hp
      obtain ⟨ra, rc, rfl⟩ := ow_slc ho
      refine ⟨(by repeat (first | exact Inc.refl | exact Inc.nil | refine Inc.cons (by repeat (first | exact Take.here | apply Take.there)) ?_ | refine Inc.skip ?_)), ?_⟩
      (refine WR_t 9 ?_)
      (refine WR_one 10 (by kernel_rfl) rfl rfl ?_)
      refine OW_buildSlice (cs := [.int .i64 a, .int .i64 b, .slice ra x.length rc]) rfl (by rfl) (by simp [fillL, patch, Value.cells, zeros]) (by omega) rfl rfl (fun bn => ?_)
      refine ⟨(by repeat (first | exact Inc.refl | exact Inc.nil | refine Inc.cons (by repeat (first | exact Take.here | apply Take.there)) ?_ | refine Inc.skip ?_)), ?_⟩
      (refine WR_one 11 (by kernel_rfl) rfl rfl ?_)
      refine OW_append rfl rfl ht (c := 1) (ys := [.int .i64 a, .int .i64 b, .slice ra x.length rc]) (.inr ⟨_, _, rfl, RdAt.cl' (off := 0) (by repeat (first | assumption | exact Fnd.here | refine Fnd.there ?_)) rfl, rfl⟩) (by repeat (first | exact Zip.here _ | apply Zip.there)) (by rfl) (by rfl) (by omega) (by simp only [maxLen]; omega) rfl (fun tv' Ct' ho2 hn1 hn2 => ?_)
      refine ⟨(by repeat (first | exact Inc.refl | exact Inc.nil | refine Inc.cons (by repeat (first | exact Take.here | apply Take.there)) ?_ | refine Inc.skip ?_)), ?_⟩
      (refine WR_t 12 ?_; refine WR_t 13 ?_)
      (refine WR_last 14 (by kernel_rfl) rfl rfl rfl ?_)
      refine OW_storeTo [.int .i64 (S.mtu : Int), .int .i64 (S.most : Int), tv', .int .i64 (S.lost : Int)] rfl rfl (ow_one ho2) rfl (by repeat (first | exact Upd.here | apply Upd.there)) (by simp) ?_
      (refine WR_done (by kernel_rfl) ?_)
      (repeat' (first | (show WL _ _ _ _ _ _ _; first | (refine WL_plain rfl ?_) | (refine WL_nil ?_) | (refine WL_on rfl rfl ?_) | (refine WL_off rfl rfl rfl rfl ?_) | (refine WL_offu rfl rfl rfl rfl ?_) | (refine WL_off' rfl rfl rfl ?_) | ((refine WL_split rfl rfl (fun hc => ?_) (fun hc => ?_)) <;> (rw [hc]; (try simp only [decide_eq_true_eq, decide_eq_false_iff_not, beq_iff_eq, bne_iff_ne, beq_eq_false_iff_ne, bne_eq_false_iff_eq, Bool.not_eq_true', Bool.not_eq_false', Bool.not_eq_true, Bool.and_eq_true, Bool.or_eq_true, Bool.or_eq_false_iff, ne_eq] at hc); (try (exfalso; omega))))) | (show OW _ _ _ _ _ _; refine OW_E ?_) | (show OW _ _ ⟨_, .store .., _, _, _, _⟩ _ _ _; first | (refine OW_store rfl rfl rfl (by repeat (first | exact Upd.here | apply Upd.there)) (by first | (simp; done) | (simp; omega)) ?_) | (refine OW_storeAgg rfl rfl rfl rfl (by repeat (first | exact Upd.here | apply Upd.there)) (by first | (simp [Value.cells]; done) | (simp [Value.cells]; omega)) ?_)) | (show OW _ _ ⟨_, .alloc _, _, _, _, _⟩ _ _ _; first | (refine OW_alloc rfl (fun bk => ?_))) | (show OW _ _ ⟨_, .box .., _, _, _, _⟩ _ _ _; first | (refine OW_box rfl rfl (fun bk => ?_))) | (show WC _ _ _ _ _ _; first | (refine WC_seq ?_) | (refine WC_region ?_) | (refine WC_true rfl ?_) | (refine WC_false rfl ?_) | ((refine WC_cond rfl (fun hc => ?_) (fun hc => ?_)) <;> (try simp only [decide_eq_true_eq, decide_eq_false_iff_not, beq_iff_eq, bne_iff_ne, beq_eq_false_iff_ne, bne_eq_false_iff_eq, Bool.not_eq_true', Bool.not_eq_false', Bool.not_eq_true, Bool.and_eq_true, Bool.or_eq_true, Bool.or_eq_false_iff, ne_eq] at hc) <;> (try (exfalso; omega))) | (refine WC_skip ?_) | (refine WC_ret ?_) | (refine WC_exit ?_) | (refine WC_block ?_)) | (show WQ _ _ _ _; first | (with_reducible refine WQ_then_normal ?_) | (with_reducible refine WQ_code ?_) | (with_reducible refine WQ_then_ret ?_) | (with_reducible refine WQ_block_ret ?_) | (with_reducible refine WQ_then_exit ?_) | (with_reducible refine WQ_block_hit ?_) | (with_reducible refine WQ_block_miss rfl ?_) | (with_reducible refine WQ_block_normal ?_))))
      first | refine WQ_retH rfl rfl ?_ | refine WQ_endH rfl rfl ?_
      rw [hc]
      refine ⟨_, fun w h => four.2 (((by repeat (first | exact Inc.refl | exact Inc.nil | refine Inc.cons (by repeat (first | exact Take.here | apply Take.there)) ?_ | refine Inc.skip ?_)) : Inc ([(p, cl [.int .i64 (S.mtu : Int), .int .i64 (S.most : Int), tv', .int .i64 (S.lost : Int)] 125)] :: Ct' :: C' :: D :: L) _).holds h), _, rfl, rfl, tv', vs ++ [.slice ra x.length rc], Ct', C' ++ D, ?_, ?_, hr.more (d := ⟨a, b, x⟩) (ow_sl ho)⟩
      · simp [nhdr, nhdrO]
      · simp only [List.length_append, List.length_cons, List.length_nil]
        rw [dcl_append hr.lv]; exact ho2
end Go.Proofs.Ytgicjngbaomigaa
