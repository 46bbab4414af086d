/- Items in pairs. It proves no statement by itself. No conditions. -/
import Derived.Test.YteebdaoanfnkgaaOf
import Derived.Test.YteebdaoanfnkgaaYc
namespace Go.Pm
set_option linter.all false
theorem pairs_get : ∀ {l : List Pm.It} {k : Nat} {x y : Pm.It}, l[2 * k]? = some x → l[2 * k + 1]? = some y → (pairs l)[k]? = some (pack x y)
  | [], k, x, y, h, _ => by simp at h
  | [_], 0, x, y, _, h => by simp at h
  | [_], k + 1, x, y, h, _ => by simp at h
  | a :: b :: r, 0, x, y, h1, h2 => by
    simp at h1 h2
    subst h1 h2
    rfl
  | a :: b :: r, k + 1, x, y, h1, h2 => by
    rw [show 2 * (k + 1) = 2 * k + 1 + 1 from by omega, List.getElem?_cons_succ, List.getElem?_cons_succ] at h1
    rw [show 2 * (k + 1) + 1 = 2 * k + 1 + 1 + 1 from by omega, List.getElem?_cons_succ, List.getElem?_cons_succ] at h2
    rw [pairs, List.getElem?_cons_succ]
    exact pairs_get h1 h2
end Go.Pm
namespace Go.Proofs.Yteebdaoanfnkgaa
open Go Go.Vx
variable [W0]
set_option maxRecDepth 4000
set_option linter.all false
omit [W0] in
/-- An item's cells. -/
def itv (x : Pm.It) : List Value := [.int .i64 (x.w : Int), .bool (!Pm.isC x)]
omit [W0] in
def itvs (l : List Pm.It) : List Value := l.flatMap itv
theorem itvs_length (l : List Pm.It) : (itvs l).length = l.length * 2 := by
  induction l with
  | nil => rfl
  | cons x r ih => simp [itvs, itv] at ih ⊢; omega
theorem itvs_app (a b : List Pm.It) : itvs (a ++ b) = itvs a ++ itvs b := by simp [itvs]
theorem itvs_ones (l : List Pm.It) : ones (itvs l) = true := by
  induction l with
  | nil => rfl
  | cons x r ih =>
    have e : itvs (x :: r) = .int .i64 (x.w : Int) :: .bool (!Pm.isC x) :: itvs r := rfl
    rw [e]
    simpa [ones, Value.oneCell'] using ih
theorem itvs_get : ∀ {l : List Pm.It} {i : Nat} {x : Pm.It}, l[i]? = some x → (itvs l)[i * 2]? = some (.int .i64 (x.w : Int)) ∧ (itvs l)[i * 2 + 1]? = some (.bool (!Pm.isC x))
  | [], i, x, h => by simp at h
  | a :: r, 0, x, h => by
    simp at h
    subst h
    exact ⟨rfl, rfl⟩
  | a :: r, i + 1, x, h => by
    simp at h
    have ih := itvs_get h
    have e : itvs (a :: r) = .int .i64 (a.w : Int) :: .bool (!Pm.isC a) :: itvs r := rfl
    rw [e, show (i + 1) * 2 = i * 2 + 1 + 1 from by omega]
    exact ih

theorem ow_one2 {e k m : Nat} {v : Value} {xs : List Value} {C : Chunk} (h : Ow e k v m xs C) : v.oneCell' = true := by
  rcases h with ⟨rfl, _⟩ | ⟨b, cap, rest, rfl, _⟩ <;> rfl

set_option maxHeartbeats 8000000 in
theorem pairs_c (v : Value) (l : List Pm.It) (Cb : Chunk) (L : List Chunk) (hO : Ow 109 2 v l.length (itvs l) Cb) (hl : l.length ≤ 1000) (hw : ∀ x ∈ l, x.w ≤ 2305843009213693952) :
    Gv Try.prog 57 [v].toArray (Cb :: L) (fun r L' => ∃ C, L' = C :: Cb :: L ∧ Ow 109 2 r (Pm.pairs l).length (itvs (Pm.pairs l)) C) := by
  obtain ⟨a, c, rfl, hh⟩ : ∃ a c, v = .slice a l.length c ∧ HdS a l.length c := by
    rcases hO with ⟨rfl, h1, _⟩ | ⟨b, cap, rest, rfl, _, _, _, h2, _⟩
    · rw [h1]; exact ⟨_, _, rfl, Nat.le_refl _, .inl ⟨rfl, rfl⟩⟩
    · exact ⟨_, _, rfl, h2, .inr ⟨b, 0, rfl⟩⟩
  refine Gv.of_bodyM Try.func57 rfl rfl ?_
  (repeat' (first | (show WL _ _ _ _ _ _ _; first | (refine WL_plain rfl ?_) | (refine WL_nil ?_) | (refine WL_on rfl rfl ?_) | (refine WL_off rfl rfl rfl rfl ?_) | (refine WL_offu rfl rfl rfl rfl ?_) | (refine WL_off' rfl rfl rfl ?_) | ((refine WL_split rfl rfl (fun hc => ?_) (fun hc => ?_)) <;> (rw [hc]; (try simp only [nrB] at hc); (try (exfalso; first | omega | exact hc trivial | exact hc rfl))))) | (show OW _ _ _ _ _ _; refine OW_E ?_) | (show OW _ _ ⟨_, .store .., _, _, _, _⟩ _ _ _; first | (refine OW_store rfl rfl rfl (by repeat (first | exact Upd.here | apply Upd.there)) (by first | (simp; done) | (simp; omega)) ?_) | (refine OW_storeAgg rfl rfl rfl rfl (by repeat (first | exact Upd.here | apply Upd.there)) (by first | (simp [Value.cells]; done) | (simp [Value.cells]; omega)) ?_)) | (show OW _ _ ⟨_, .alloc _, _, _, _, _⟩ _ _ _; first | (refine OW_alloc rfl (fun bk => ?_))) | (show OW _ _ ⟨_, .box .., _, _, _, _⟩ _ _ _; first | (refine OW_box rfl rfl (fun bk => ?_))) | (show WC _ _ _ _ _ _; first | (refine WC_seq ?_) | (refine WC_region ?_) | (refine WC_true rfl ?_) | (refine WC_false rfl ?_) | ((refine WC_cond rfl (fun hc => ?_) (fun hc => ?_)) <;> (try simp only [nrB] at hc) <;> (try (exfalso; first | omega | exact hc trivial | exact hc rfl))) | (refine WC_skip ?_) | (refine WC_ret ?_) | (refine WC_exit ?_) | (refine WC_block ?_)) | (show WQ _ _ _ _; first | (with_reducible refine WQ_then_normal ?_) | (with_reducible refine WQ_code ?_) | (with_reducible refine WQ_then_ret ?_) | (with_reducible refine WQ_block_ret ?_) | (with_reducible refine WQ_then_exit ?_) | (with_reducible refine WQ_block_hit ?_) | (with_reducible refine WQ_block_miss rfl ?_) | (with_reducible refine WQ_block_normal ?_))))
  obtain ⟨b3, hb3⟩ : ∃ b3, b3 = bk := ⟨_, rfl⟩
  rw [← hb3]
  clear hb3
  refine OW_call rfl rfl rfl (chunk_c a l.length c _) rfl (fun r L' hp => ?_)
  obtain ⟨p, q, rfl, rfl⟩ := hp
  (repeat' (first | (show WL _ _ _ _ _ _ _; first | (refine WL_plain rfl ?_) | (refine WL_nil ?_) | (refine WL_on rfl rfl ?_) | (refine WL_off rfl rfl rfl rfl ?_) | (refine WL_offu rfl rfl rfl rfl ?_) | (refine WL_off' rfl rfl rfl ?_) | ((refine WL_split rfl rfl (fun hc => ?_) (fun hc => ?_)) <;> (rw [hc]; (try simp only [nrB] at hc); (try (exfalso; first | omega | exact hc trivial | exact hc rfl))))) | (show OW _ _ _ _ _ _; refine OW_E ?_) | (show OW _ _ ⟨_, .store .., _, _, _, _⟩ _ _ _; first | (refine OW_store rfl rfl rfl (by repeat (first | exact Upd.here | apply Upd.there)) (by first | (simp; done) | (simp; omega)) ?_) | (refine OW_storeAgg rfl rfl rfl rfl (by repeat (first | exact Upd.here | apply Upd.there)) (by first | (simp [Value.cells]; done) | (simp [Value.cells]; omega)) ?_)) | (show OW _ _ ⟨_, .alloc _, _, _, _, _⟩ _ _ _; first | (refine OW_alloc rfl (fun bk => ?_))) | (show OW _ _ ⟨_, .box .., _, _, _, _⟩ _ _ _; first | (refine OW_box rfl rfl (fun bk => ?_))) | (show WC _ _ _ _ _ _; first | (refine WC_seq ?_) | (refine WC_region ?_) | (refine WC_true rfl ?_) | (refine WC_false rfl ?_) | ((refine WC_cond rfl (fun hc => ?_) (fun hc => ?_)) <;> (try simp only [nrB] at hc) <;> (try (exfalso; first | omega | exact hc trivial | exact hc rfl))) | (refine WC_skip ?_) | (refine WC_ret ?_) | (refine WC_exit ?_) | (refine WC_block ?_)) | (show WQ _ _ _ _; first | (with_reducible refine WQ_then_normal ?_) | (with_reducible refine WQ_code ?_) | (with_reducible refine WQ_then_ret ?_) | (with_reducible refine WQ_block_ret ?_) | (with_reducible refine WQ_then_exit ?_) | (with_reducible refine WQ_block_hit ?_) | (with_reducible refine WQ_block_miss rfl ?_) | (with_reducible refine WQ_block_normal ?_))))
  obtain ⟨J, hJ⟩ : ∃ J : Nat → List Chunk → Prop, ∀ k L', J k L' ↔ ∃ v C, Ow 109 2 v ((Pm.pairs l).take k).length (itvs ((Pm.pairs l).take k)) C ∧ L' = [(b3, cl [v] 101)] :: C :: Cb :: L := ⟨fun k L' => ∃ v C, Ow 109 2 v ((Pm.pairs l).take k).length (itvs ((Pm.pairs l).take k)) C ∧ L' = [(b3, cl [v] 101)] :: C :: Cb :: L, fun _ _ => Iff.rfl⟩
  refine WC_range (ps := [7]) rfl (chunk_it a l.length c p q (by omega) hh) J ([(b3, cl [.slice none 0 0] 101)] :: [] :: Cb :: L) ((hJ _ _).2 ⟨_, [], .inl ⟨rfl, rfl, rfl, rfl⟩, rfl⟩) (fun w h => ?_) (fun k hk => by rw [ckS_length] at hk; rw [ckS_get _ _ hk]; rfl) rfl
    (fun k _ => [(3, .pointer (some ⟨b3, 0, none⟩)), (4, ckV a l.length k)]) (fun lp k L' R hk hj => ?_) (fun lp k L' R hk hj => ?_) (fun D a' w L3 hst hd hj hw' => ?_)
  · have h2 := h.perm (List.perm_append_comm (l₁ := [[(q, cl [.int .i64 2] 3)], [(p, cl [.slice a l.length c] 101)]]) (l₂ := [(b3, cl [.slice none 0 0] 101)] :: Cb :: L))
    exact Holds.gap.2 h2
  · rw [ckS_length] at hk
    rw [ckS_get _ _ hk]
    show Wic _ _ _ _ _ ((7, ckV a l.length k) :: _) _
    (repeat' (first | (show WL _ _ _ _ _ _ _; first | (refine WL_plain rfl ?_) | (refine WL_nil ?_) | (refine WL_on rfl rfl ?_) | (refine WL_off rfl rfl rfl rfl ?_) | (refine WL_offu rfl rfl rfl rfl ?_) | (refine WL_off' rfl rfl rfl ?_) | ((refine WL_split rfl rfl (fun hc => ?_) (fun hc => ?_)) <;> (rw [hc]; (try simp only [nrB] at hc); (try (exfalso; first | omega | exact hc trivial | exact hc rfl))))) | (show OW _ _ _ _ _ _; refine OW_E ?_) | (show OW _ _ ⟨_, .store .., _, _, _, _⟩ _ _ _; first | (refine OW_store rfl rfl rfl (by repeat (first | exact Upd.here | apply Upd.there)) (by first | (simp; done) | (simp; omega)) ?_) | (refine OW_storeAgg rfl rfl rfl rfl (by repeat (first | exact Upd.here | apply Upd.there)) (by first | (simp [Value.cells]; done) | (simp [Value.cells]; omega)) ?_)) | (show OW _ _ ⟨_, .alloc _, _, _, _, _⟩ _ _ _; first | (refine OW_alloc rfl (fun bk => ?_))) | (show OW _ _ ⟨_, .box .., _, _, _, _⟩ _ _ _; first | (refine OW_box rfl rfl (fun bk => ?_))) | (show Wic _ _ _ _ _ _ _; first | (refine WI_seq ?_) | (refine WI_regionV rfl (by repeat (first | with_reducible exact NL.body | with_reducible exact RP_nl | with_reducible exact AP_nl | with_reducible refine NL.then ?_ | with_reducible refine NL.block ?_)) rfl ?_) | (refine WI_true rfl ?_) | (refine WI_false rfl ?_) | ((refine WI_cond rfl (fun hc => ?_) (fun hc => ?_)) <;> (try simp only [nrB] at hc) <;> (try (exfalso; first | omega | exact hc trivial | exact hc rfl))) | (refine WI_skip ?_) | (refine WI_ret ?_) | (refine WI_exit ?_) | (refine WI_block ?_)) | (show WQ _ _ _ _; first | (with_reducible refine WQ_then_normal ?_) | (with_reducible refine WQ_codeI ?_) | (with_reducible refine WQ_then_ret ?_) | (with_reducible refine WQ_block_ret ?_) | (with_reducible refine WQ_then_exit ?_) | (with_reducible refine WQ_block_hit ?_) | (with_reducible refine WQ_block_miss rfl ?_) | (with_reducible refine WQ_block_normal ?_))))
    exact WQ_AP (by repeat (first | exact Sub.nil | refine Sub.cons rfl ?_ | refine Sub.cons (lk_int rfl (by first | omega | (dsimp only; omega))) ?_)) (fun w h => h)
  · rw [ckS_length] at hk
    obtain ⟨v, C, ho, rfl⟩ := (hJ _ _).1 hj
    rcases hO with ⟨_, h1, _⟩ | ⟨b, cap, rest, hv, rfl, hxl, hrl, hmc, _⟩
    · omega
    injection hv with e1 e2 e3
    subst e1 e3
    clear e2
    show Wic _ _ _ _ _ _ ([(b3, cl [v] 101)] :: C :: [(b, cl (itvs l ++ rest) 109)] :: (L ++ R))
    have hpl := Pm.pairs_length l
    by_cases h2 : 2 * k + 2 ≤ l.length
    · have hck : ckV (some ⟨b, 0, none⟩) l.length k = .slice (some ⟨b, 0 + 2 * k * 2, none⟩) 2 2 := by
        show Value.slice (some ⟨b, 0 + 2 * k * 2, none⟩) (min 2 (l.length - 2 * k)) (min 2 (l.length - 2 * k)) = _
        rw [Nat.min_eq_left (by omega)]
      obtain ⟨x, hx⟩ : ∃ x, l[2 * k]? = some x := ⟨l[2 * k], by simp [show 2 * k < l.length from by omega]⟩
      obtain ⟨y, hy⟩ : ∃ y, l[2 * k + 1]? = some y := ⟨l[2 * k + 1], by simp [show 2 * k + 1 < l.length from by omega]⟩
      have hwx := hw x (List.mem_of_getElem? hx)
      have hwy := hw y (List.mem_of_getElem? hy)
      have hpg := Pm.pairs_get hx hy
      have hgx : nth (itvs l ++ rest) (0 + 2 * k * 2 + 0 * 2 + 0) = some (.int .i64 (x.w : Int)) := by
        have h3 := (itvs_get hx).1
        rw [nth_eq, show 0 + 2 * k * 2 + 0 * 2 + 0 = 2 * k * 2 from by omega, List.getElem?_append_left (List.getElem?_eq_some_iff.1 h3).1]
        exact h3
      have hgy : nth (itvs l ++ rest) (0 + 2 * k * 2 + 1 * 2 + 0) = some (.int .i64 (y.w : Int)) := by
        have h3 := (itvs_get hy).1
        rw [nth_eq, show 0 + 2 * k * 2 + 1 * 2 + 0 = (2 * k + 1) * 2 from by omega, List.getElem?_append_left (List.getElem?_eq_some_iff.1 h3).1]
        exact h3
      have htk : (Pm.pairs l).take (k + 1) = (Pm.pairs l).take k ++ [Pm.pack x y] := by rw [List.take_add_one, hpg]; rfl
      have htl : ((Pm.pairs l).take k).length = k := by rw [List.length_take, hpl]; omega
      rw [hck]
      (repeat' (first | (show WL _ _ _ _ _ _ _; first | (refine WL_plain rfl ?_) | (refine WL_nil ?_) | (refine WL_on rfl rfl ?_) | (refine WL_off rfl rfl rfl rfl ?_) | (refine WL_offu rfl rfl rfl rfl ?_) | (refine WL_off' rfl rfl rfl ?_) | ((refine WL_split rfl rfl (fun hc => ?_) (fun hc => ?_)) <;> (rw [hc]; (try simp only [nrB] at hc); (try (exfalso; first | omega | exact hc trivial | exact hc rfl))))) | (show OW _ _ _ _ _ _; refine OW_E ?_) | (show OW _ _ ⟨_, .store .., _, _, _, _⟩ _ _ _; first | (refine OW_store rfl rfl rfl (by repeat (first | exact Upd.here | apply Upd.there)) (by first | (simp; done) | (simp; omega)) ?_) | (refine OW_storeAgg rfl rfl rfl rfl (by repeat (first | exact Upd.here | apply Upd.there)) (by first | (simp [Value.cells]; done) | (simp [Value.cells]; omega)) ?_)) | (show OW _ _ ⟨_, .alloc _, _, _, _, _⟩ _ _ _; first | (refine OW_alloc rfl (fun bk => ?_))) | (show OW _ _ ⟨_, .box .., _, _, _, _⟩ _ _ _; first | (refine OW_box rfl rfl (fun bk => ?_))) | (show Wic _ _ _ _ _ _ _; first | (refine WI_seq ?_) | (refine WI_regionV rfl (by repeat (first | with_reducible exact NL.body | with_reducible exact RP_nl | with_reducible exact AP_nl | with_reducible refine NL.then ?_ | with_reducible refine NL.block ?_)) rfl ?_) | (refine WI_true rfl ?_) | (refine WI_false rfl ?_) | ((refine WI_cond rfl (fun hc => ?_) (fun hc => ?_)) <;> (try simp only [nrB] at hc) <;> (try (exfalso; first | omega | exact hc trivial | exact hc rfl))) | (refine WI_skip ?_) | (refine WI_ret ?_) | (refine WI_exit ?_) | (refine WI_block ?_)) | (show WQ _ _ _ _; first | (with_reducible refine WQ_then_normal ?_) | (with_reducible refine WQ_codeI ?_) | (with_reducible refine WQ_then_ret ?_) | (with_reducible refine WQ_block_ret ?_) | (with_reducible refine WQ_then_exit ?_) | (with_reducible refine WQ_block_hit ?_) | (with_reducible refine WQ_block_miss rfl ?_) | (with_reducible refine WQ_block_normal ?_))))
      refine WI_draw [[(b3, cl [v] 101)], [(b, cl (itvs l ++ rest) 109)]] [13] (by repeat (first | with_reducible exact NL.body | with_reducible exact RP_nl | with_reducible exact AP_nl | with_reducible refine NL.then ?_ | with_reducible refine NL.block ?_)) rfl mixed ?_
      (refine WR_r 0 ?_; refine WR_r 1 ?_)
      (refine WR_take 2 rfl rfl (by kernel_rfl) (by repeat (first | with_reducible exact PO.body | with_reducible exact RP_po | with_reducible refine PO.then ?_ | with_reducible refine PO.block ?_)) (by repeat (first | exact Inc.refl | exact Inc.nil | refine Inc.cons (by repeat (first | exact Take.here | apply Take.there)) ?_ | refine Inc.skip ?_)) (EV_indexAddr (j := 0) rfl rfl rfl (by omega)) (by rfl) ?_)
      (refine WR_take 3 rfl rfl (by kernel_rfl) (by repeat (first | with_reducible exact PO.body | with_reducible exact RP_po | with_reducible refine PO.then ?_ | with_reducible refine PO.block ?_)) (by repeat (first | exact Inc.refl | exact Inc.nil | refine Inc.cons (by repeat (first | exact Take.here | apply Take.there)) ?_ | refine Inc.skip ?_)) (EV_fieldAddr rfl) (by rfl) ?_)
      (refine WR_take 4 rfl rfl (by kernel_rfl) (by repeat (first | with_reducible exact PO.body | with_reducible exact RP_po | with_reducible refine PO.then ?_ | with_reducible refine PO.block ?_)) (by repeat (first | exact Inc.refl | exact Inc.nil | refine Inc.cons (by repeat (first | exact Take.here | apply Take.there)) ?_ | refine Inc.skip ?_)) (EV_loadc rfl (Fnd.there Fnd.here) hgx) (by rfl) ?_)
      (refine WR_r 5 ?_)
      (refine WR_take 6 rfl rfl (by kernel_rfl) (by repeat (first | with_reducible exact PO.body | with_reducible exact RP_po | with_reducible refine PO.then ?_ | with_reducible refine PO.block ?_)) (by repeat (first | exact Inc.refl | exact Inc.nil | refine Inc.cons (by repeat (first | exact Take.here | apply Take.there)) ?_ | refine Inc.skip ?_)) (EV_indexAddr (j := 1) rfl rfl rfl (by omega)) (by rfl) ?_)
      (refine WR_take 7 rfl rfl (by kernel_rfl) (by repeat (first | with_reducible exact PO.body | with_reducible exact RP_po | with_reducible refine PO.then ?_ | with_reducible refine PO.block ?_)) (by repeat (first | exact Inc.refl | exact Inc.nil | refine Inc.cons (by repeat (first | exact Take.here | apply Take.there)) ?_ | refine Inc.skip ?_)) (EV_fieldAddr rfl) (by rfl) ?_)
      (refine WR_take 8 rfl rfl (by kernel_rfl) (by repeat (first | with_reducible exact PO.body | with_reducible exact RP_po | with_reducible refine PO.then ?_ | with_reducible refine PO.block ?_)) (by repeat (first | exact Inc.refl | exact Inc.nil | refine Inc.cons (by repeat (first | exact Take.here | apply Take.there)) ?_ | refine Inc.skip ?_)) (EV_loadc rfl (Fnd.there Fnd.here) hgy) (by rfl) ?_)
      (refine WR_r 9 ?_)
      rw [← Int.natCast_add]
      (refine WR_r 10 ?_)
      (refine WR_one 11 (by kernel_rfl) rfl rfl ?_)
      refine OW_buildSlice (cs := itv (Pm.pack x y)) rfl (by rfl) (by simp [fillL, patch, Value.cells, zeros]; rfl) (by omega) rfl rfl (fun bs => ?_)
      refine ⟨(by repeat (first | exact Inc.refl | exact Inc.nil | refine Inc.cons (by repeat (first | exact Take.here | apply Take.there)) ?_ | refine Inc.skip ?_)), ?_⟩
      (refine WR_one 12 (by kernel_rfl) rfl rfl ?_)
      refine OW_append rfl rfl ho (sl_cells (k := 2) (c := (itv (Pm.pack x y)).toArray) (xs := itv (Pm.pack x y)) (m := 1) Fnd.here rfl (by simp)) (by repeat (first | exact Zip.here _ | apply Zip.there)) rfl (by rfl) (by omega) (by simp [maxLen]; omega) rfl (fun v' C' ho' _ _ => ?_)
      refine ⟨(by repeat (first | exact Inc.refl | exact Inc.nil | refine Inc.cons (by repeat (first | exact Take.here | apply Take.there)) ?_ | refine Inc.skip ?_)), ?_⟩
      (refine WR_last 13 (by kernel_rfl) rfl rfl rfl ?_)
      refine OW_storeTo [v'] rfl rfl (ow_one2 ho') rfl (by repeat (first | exact Upd.here | apply Upd.there)) (by simp) ?_
      (refine WR_done (by kernel_rfl) ?_)
      (repeat' (first | (show WL _ _ _ _ _ _ _; first | (refine WL_plain rfl ?_) | (refine WL_nil ?_) | (refine WL_on rfl rfl ?_) | (refine WL_off rfl rfl rfl rfl ?_) | (refine WL_offu rfl rfl rfl rfl ?_) | (refine WL_off' rfl rfl rfl ?_) | ((refine WL_split rfl rfl (fun hc => ?_) (fun hc => ?_)) <;> (rw [hc]; (try simp only [nrB] at hc); (try (exfalso; first | omega | exact hc trivial | exact hc rfl))))) | (show OW _ _ _ _ _ _; refine OW_E ?_) | (show OW _ _ ⟨_, .store .., _, _, _, _⟩ _ _ _; first | (refine OW_store rfl rfl rfl (by repeat (first | exact Upd.here | apply Upd.there)) (by first | (simp; done) | (simp; omega)) ?_) | (refine OW_storeAgg rfl rfl rfl rfl (by repeat (first | exact Upd.here | apply Upd.there)) (by first | (simp [Value.cells]; done) | (simp [Value.cells]; omega)) ?_)) | (show OW _ _ ⟨_, .alloc _, _, _, _, _⟩ _ _ _; first | (refine OW_alloc rfl (fun bk => ?_))) | (show OW _ _ ⟨_, .box .., _, _, _, _⟩ _ _ _; first | (refine OW_box rfl rfl (fun bk => ?_))) | (show Wic _ _ _ _ _ _ _; first | (refine WI_seq ?_) | (refine WI_regionV rfl (by repeat (first | with_reducible exact NL.body | with_reducible exact RP_nl | with_reducible exact AP_nl | with_reducible refine NL.then ?_ | with_reducible refine NL.block ?_)) rfl ?_) | (refine WI_true rfl ?_) | (refine WI_false rfl ?_) | ((refine WI_cond rfl (fun hc => ?_) (fun hc => ?_)) <;> (try simp only [nrB] at hc) <;> (try (exfalso; first | omega | exact hc trivial | exact hc rfl))) | (refine WI_skip ?_) | (refine WI_ret ?_) | (refine WI_exit ?_) | (refine WI_block ?_)) | (show WQ _ _ _ _; first | (with_reducible refine WQ_then_normal ?_) | (with_reducible refine WQ_codeI ?_) | (with_reducible refine WQ_then_ret ?_) | (with_reducible refine WQ_block_ret ?_) | (with_reducible refine WQ_then_exit ?_) | (with_reducible refine WQ_block_hit ?_) | (with_reducible refine WQ_block_miss rfl ?_) | (with_reducible refine WQ_block_normal ?_))))
      refine WQ_RP ([(b3, cl [v'] 101)] :: C' :: [(b, cl (itvs l ++ rest) 109)] :: L) ((hJ _ _).2 ⟨v', C', ?_, rfl⟩) (fun w h => h.drop)
      rw [htk, itvs_app, List.length_append]
      exact ho'
    · have hck : ckV (some ⟨b, 0, none⟩) l.length k = .slice (some ⟨b, 0 + 2 * k * 2, none⟩) 1 1 := by
        show Value.slice (some ⟨b, 0 + 2 * k * 2, none⟩) (min 2 (l.length - 2 * k)) (min 2 (l.length - 2 * k)) = _
        rw [show min 2 (l.length - 2 * k) = 1 from by omega]
      rw [hck]
      (repeat' (first | (show WL _ _ _ _ _ _ _; first | (refine WL_plain rfl ?_) | (refine WL_nil ?_) | (refine WL_on rfl rfl ?_) | (refine WL_off rfl rfl rfl rfl ?_) | (refine WL_offu rfl rfl rfl rfl ?_) | (refine WL_off' rfl rfl rfl ?_) | ((refine WL_split rfl rfl (fun hc => ?_) (fun hc => ?_)) <;> (rw [hc]; (try simp only [nrB] at hc); (try (exfalso; first | omega | exact hc trivial | exact hc rfl))))) | (show OW _ _ _ _ _ _; refine OW_E ?_) | (show OW _ _ ⟨_, .store .., _, _, _, _⟩ _ _ _; first | (refine OW_store rfl rfl rfl (by repeat (first | exact Upd.here | apply Upd.there)) (by first | (simp; done) | (simp; omega)) ?_) | (refine OW_storeAgg rfl rfl rfl rfl (by repeat (first | exact Upd.here | apply Upd.there)) (by first | (simp [Value.cells]; done) | (simp [Value.cells]; omega)) ?_)) | (show OW _ _ ⟨_, .alloc _, _, _, _, _⟩ _ _ _; first | (refine OW_alloc rfl (fun bk => ?_))) | (show OW _ _ ⟨_, .box .., _, _, _, _⟩ _ _ _; first | (refine OW_box rfl rfl (fun bk => ?_))) | (show Wic _ _ _ _ _ _ _; first | (refine WI_seq ?_) | (refine WI_regionV rfl (by repeat (first | with_reducible exact NL.body | with_reducible exact RP_nl | with_reducible exact AP_nl | with_reducible refine NL.then ?_ | with_reducible refine NL.block ?_)) rfl ?_) | (refine WI_true rfl ?_) | (refine WI_false rfl ?_) | ((refine WI_cond rfl (fun hc => ?_) (fun hc => ?_)) <;> (try simp only [nrB] at hc) <;> (try (exfalso; first | omega | exact hc trivial | exact hc rfl))) | (refine WI_skip ?_) | (refine WI_ret ?_) | (refine WI_exit ?_) | (refine WI_block ?_)) | (show WQ _ _ _ _; first | (with_reducible refine WQ_then_normal ?_) | (with_reducible refine WQ_codeI ?_) | (with_reducible refine WQ_then_ret ?_) | (with_reducible refine WQ_block_ret ?_) | (with_reducible refine WQ_then_exit ?_) | (with_reducible refine WQ_block_hit ?_) | (with_reducible refine WQ_block_miss rfl ?_) | (with_reducible refine WQ_block_normal ?_))))
      refine WQ_RP ([(b3, cl [v] 101)] :: C :: [(b, cl (itvs l ++ rest) 109)] :: L) ((hJ _ _).2 ⟨v, C, ?_, rfl⟩) (fun w h => h)
      have e1 : (Pm.pairs l).take (k + 1) = (Pm.pairs l).take k := by rw [List.take_of_length_le (by omega), List.take_of_length_le (by omega)]
      rw [e1]
      exact ho
  · obtain ⟨v, C, ho, rfl⟩ := (hJ _ _).1 hj
    rw [ckS_length, List.take_of_length_le (by rw [Pm.pairs_length]; omega)] at ho
    have hw2 : Holds w (([(D, .deferred (some []))] :: [(b3, cl [v] 101)] :: C :: Cb :: L) ++ [[(q, cl [.int .i64 2] 3)], [(p, cl [.slice a l.length c] 101)]]) := hw'
    have hw3 := hw2.front
    change Code.wp _ _ _ a' w
    refine Wmc.out (M := [(3, .pointer (some ⟨b3, 0, none⟩))]) (L := [(D, .deferred (some []))] :: [(b3, cl [v] 101)] :: C :: Cb :: L) ?_ a' w (hst.sub (by repeat (first | exact Sub.nil | refine Sub.cons rfl ?_ | refine Sub.cons (lk_int rfl (by first | omega | (dsimp only; omega))) ?_))) hd hw3
    refine WM_seq (WM_region (WN_ev rfl (EV_loadc rfl (Fnd.there Fnd.here) rfl) rfl (WN_ev rfl (EV_assign rfl) rfl (WN_nil (WP_code rfl (WM_ret ?_))))))
    exact WP_end (.inl rfl) rfl rfl (L1 := C :: Cb :: L) (fun w h => ((by repeat (first | exact Inc.refl | exact Inc.nil | refine Inc.cons (by repeat (first | exact Take.here | apply Take.there)) ?_ | refine Inc.skip ?_)) : Inc ([(D, .deferred (some []))] :: C :: Cb :: L) _).holds h) ⟨C, rfl, ho⟩
end Go.Proofs.Yteebdaoanfnkgaa
