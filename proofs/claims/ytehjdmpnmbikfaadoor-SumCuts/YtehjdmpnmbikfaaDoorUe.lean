/- Package sum: a digest in progress, and bytes written to it. It proves no statement by itself. No conditions. -/
import Derived.Test.YtehjdmpnmbikfaaDoorUd
namespace Go.Proofs.YtehjdmpnmbikfaaDoor
open Go Go.Vx
variable [W0]
set_option maxRecDepth 4000
set_option linter.all false

omit [W0] in
def h50 : H5 := ⟨1732584193#32, 4023233417#32, 2562383102#32, 271733878#32, 3285377520#32⟩
omit [W0] in
/-- The chain behind the first k blocks of a text. -/
def chainN (t : List UInt8) : Nat → H5
  | 0 => h50
  | k + 1 => mixN (chainN t k) ((t.drop (64 * k)).take 64)
theorem chainN_app (t u : List UInt8) : ∀ k, 64 * k ≤ t.length → chainN (t ++ u) k = chainN t k
  | 0, _ => rfl
  | k + 1, h => by
    have e : ((t ++ u).drop (64 * k)).take 64 = (t.drop (64 * k)).take 64 := by
      rw [List.drop_append_of_le_length (by omega), List.take_append_of_le_length (by simp; omega)]
    simp only [chainN, chainN_app t u k (by omega), e]
omit [W0] in
/-- What a digest in progress is of a text. -/
structure ShaI (t : List UInt8) (h : H5) (blk : List UInt8) : Prop where
  len : blk.length = 64
  chain : h = chainN t (t.length / 64)
  rest : blk.take (t.length % 64) = t.drop (64 * (t.length / 64))
omit [W0] in
def fillB (blk : List UInt8) (r : Nat) (u : List UInt8) : List UInt8 := blk.take r ++ (u ++ blk.drop (r + u.length))
theorem fillB_length {blk u : List UInt8} {r : Nat} (hb : blk.length = 64) (h : r + u.length ≤ 64) : (fillB blk r u).length = 64 := by
  simp [fillB]; omega
theorem fillB_take {blk u : List UInt8} {r : Nat} (hb : blk.length = 64) (h : r + u.length ≤ 64) : (fillB blk r u).take (r + u.length) = blk.take r ++ u := by
  unfold fillB
  have e : (blk.take r ++ u).length = r + u.length := by simp; omega
  rw [← List.append_assoc, ← e, List.take_left]
theorem ShaI.part {t u : List UInt8} {h : H5} {blk : List UInt8} (hi : ShaI t h blk) (hu : t.length % 64 + u.length < 64) : ShaI (t ++ u) h (fillB blk (t.length % 64) u) := by
  have e1 : (t ++ u).length / 64 = t.length / 64 := by simp; omega
  have e2 : (t ++ u).length % 64 = t.length % 64 + u.length := by simp; omega
  refine ⟨fillB_length hi.len (by omega), ?_, ?_⟩
  · rw [e1, chainN_app _ _ _ (by omega)]; exact hi.chain
  · rw [e1, e2, fillB_take hi.len (by omega), hi.rest, List.drop_append_of_le_length (by omega)]
theorem ShaI.full {t u : List UInt8} {h : H5} {blk : List UInt8} (hi : ShaI t h blk) (hu : t.length % 64 + u.length = 64) : ShaI (t ++ u) (mixN h (fillB blk (t.length % 64) u)) (fillB blk (t.length % 64) u) := by
  have e1 : (t ++ u).length / 64 = t.length / 64 + 1 := by simp; omega
  have e2 : (t ++ u).length % 64 = 0 := by simp; omega
  have hl := fillB_length (u := u) hi.len (show t.length % 64 + u.length ≤ 64 by omega)
  have ht := fillB_take (u := u) hi.len (show t.length % 64 + u.length ≤ 64 by omega)
  rw [hu, List.take_of_length_le (by omega), hi.rest] at ht
  have e3 : ((t ++ u).drop (64 * (t.length / 64))).take 64 = fillB blk (t.length % 64) u := by
    rw [ht, List.drop_append_of_le_length (by omega), List.take_of_length_le]
    simp; omega
  refine ⟨hl, ?_, ?_⟩
  · rw [e1]
    simp only [chainN]
    rw [chainN_app _ _ _ (by omega), ← hi.chain, e3]
  · rw [e1, e2, List.take_zero, List.drop_of_length_le (by simp; omega)]
theorem ShaI.new : ShaI [] h50 (List.replicate 64 0) := ⟨by simp, rfl, rfl⟩

theorem shaC_length {h : H5} {blk : List UInt8} {n : Nat} : (shaC h blk n).length = 6 + blk.length := by simp [shaC, bsv_length]; omega
theorem patch_cons {v : Value} {l vs : List Value} {o : Nat} : patch (v :: l) (o + 1) vs = v :: patch l o vs := by
  simp [patch, Nat.add_right_comm o 1]
theorem shaC_patch {h : H5} {blk u : List UInt8} {n r : Nat} (hu : r + u.length ≤ blk.length) : patch (shaC h blk n) (5 + r * 1) (bsv u) = shaC h (fillB blk r u) n := by
  unfold shaC
  rw [Nat.mul_one, show 5 + r = (((((r + 1) + 1) + 1) + 1) + 1) from by omega]
  simp only [patch_cons]
  have e : patch (bsv blk ++ [Value.int .u64 (n : Int)]) r (bsv u) = bsv (fillB blk r u) ++ [.int .u64 (n : Int)] := by
    unfold patch fillB
    rw [List.take_append_of_le_length (by simp [bsv_length]; omega), List.drop_append_of_le_length (by simp [bsv_length]; omega)]
    simp [bsv, List.map_take, List.map_drop]
  rw [e]
theorem shaC_setlen {h : H5} {blk : List UInt8} {n : Nat} (m : Nat) (hb : blk.length = 64) : (shaC h blk n).set 69 (.int .u64 (m : Int)) = shaC h blk m := by
  unfold shaC
  simp only [List.set_cons_succ]
  rw [List.set_append_right _ _ (by simp [bsv_length, hb])]
  simp [bsv_length, hb]

omit [W0] in
/-- A slice that can be read, and its room. -/
structure SlC (L : List Chunk) (k : Nat) (v : Value) (m : Nat) (xs : List Value) : Prop where
  sl : Sl L k v m xs
  room : ∃ a c, v = .slice a m c ∧ m ≤ c
theorem SlC.there {L : List Chunk} {C : Chunk} {k m : Nat} {v : Value} {xs : List Value} (h : SlC L k v m xs) : SlC (C :: L) k v m xs := ⟨sl_there h.sl, h.room⟩
theorem SlC.ow {e k m : Nat} {v : Value} {xs : List Value} {C : Chunk} {L : List Chunk} (h : Ow e k v m xs C) : SlC (C :: L) k v m xs := by
  refine ⟨ow_sl h, ?_⟩
  rcases h with ⟨rfl, rfl, _⟩ | ⟨b, cap, rest, rfl, _, _, _, hmc, _⟩
  · exact ⟨_, _, rfl, Nat.le_refl _⟩
  · exact ⟨_, _, rfl, hmc⟩
/-- A slice's end. -/
theorem SlC.cut {L : List Chunk} {bb off m cap q : Nat} {l : List UInt8} {c : Array Value} {T : TypeId} {fr : Nat × Nat} (hf : Fnd L bb (.cells c T fr)) (hc : ∀ j u, (bsv l)[j]? = some u → c[off + j]? = some u) (hm : l.length = m) (hq : q ≤ m) (hmc : m ≤ cap) :
    SlC L 1 (.slice (some ⟨bb, if cap = q then off else off + q * 1, none⟩) (m - q) (cap - q)) (m - q) (bsv (l.drop q)) := by
  refine ⟨.inr ⟨_, _, rfl, ?_, by simp [bsv_length, hm]⟩, _, _, rfl, by omega⟩
  by_cases h0 : m = q
  · refine .inl ?_
    rw [List.drop_of_length_le (by omega)]; rfl
  · refine .inr ⟨bb, _, c, T, fr, rfl, hf, fun j u hj => ?_⟩
    rw [if_neg (by omega), Nat.mul_one, Nat.add_assoc]
    refine hc _ _ ?_
    rw [← hj]
    simp [bsv]

set_option maxHeartbeats 2000000 in
theorem write_n (t b : List UInt8) (h : H5) (blk : List UInt8) (v : Value) (p : Nat) (L : List Chunk) (hi : ShaI t h blk) (hlen : t.length + b.length < 1152921504606846976) (hv : SlC L 1 v b.length (bsv b)) :
    Gv Tryd.prog 24 [.pointer (some ⟨p, 0, none⟩), v].toArray ([(p, cl (shaC h blk t.length) 67)] :: L)
      (fun r L' => r = .tuple #[] ∧ ∃ h' blk', ShaI (t ++ b) h' blk' ∧ L' = [(p, cl (shaC h' blk' (t ++ b).length) 67)] :: L) := by
  refine Gv.of_body Tryd.func24 rfl rfl ?_
  (repeat' (first | (show WL _ _ _ _ _ _ _; first | (refine WL_plain rfl ?_) | (refine WL_nil ?_) | (refine WL_on rfl rfl ?_) | (refine WL_off rfl rfl rfl rfl ?_) | (refine WL_offu rfl rfl rfl rfl ?_) | (refine WL_off' rfl rfl rfl ?_) | ((refine WL_split rfl rfl (fun hc => ?_) (fun hc => ?_)) <;> (rw [hc]; (try simp only [nrB] at hc); (try (exfalso; first | omega | exact hc trivial | exact hc rfl))))) | (show OW _ _ _ _ _ _; refine OW_W ?_) | (show OW _ _ ⟨_, .store .., _, _, _, _⟩ _ _ _; first | (refine OW_store rfl rfl rfl (by repeat (first | exact Upd.here | apply Upd.there)) (by first | (simp; done) | (simp; omega)) ?_) | (refine OW_storeAgg rfl rfl rfl rfl (by repeat (first | exact Upd.here | apply Upd.there)) (by first | (simp [Value.cells]; done) | (simp [Value.cells]; omega)) ?_)) | (show OW _ _ ⟨_, .alloc _, _, _, _, _⟩ _ _ _; first | (refine OW_alloc rfl (fun bk => ?_))) | (show OW _ _ ⟨_, .box .., _, _, _, _⟩ _ _ _; first | (refine OW_box rfl rfl (fun bk => ?_))) | (show WC _ _ _ _ _ _; first | (refine WC_seq ?_) | (refine WC_region ?_) | (refine WC_true rfl ?_) | (refine WC_false rfl ?_) | ((refine WC_cond rfl (fun hc => ?_) (fun hc => ?_)) <;> (try simp only [nrB] at hc) <;> (try (exfalso; first | omega | exact hc trivial | exact hc rfl))) | (refine WC_skip ?_) | (refine WC_ret ?_) | (refine WC_exit ?_) | (refine WC_block ?_)) | (show WQ _ _ _ _; first | (with_reducible refine WQ_then_normal ?_) | (with_reducible refine WQ_code ?_) | (with_reducible refine WQ_then_ret ?_) | (with_reducible refine WQ_block_ret ?_) | (with_reducible refine WQ_then_exit ?_) | (with_reducible refine WQ_block_hit ?_) | (with_reducible refine WQ_block_miss rfl ?_) | (with_reducible refine WQ_block_normal ?_))))
  refine WC_loop (X := Nat × Value × H5 × List UInt8) (fun x => [(0, .pointer (some ⟨p, 0, none⟩)), (1, x.2.1)])
    (fun x => [(p, cl (shaC x.2.2.1 x.2.2.2 (t ++ b.take x.1).length) 67)] :: L)
    (fun x => x.1 ≤ b.length ∧ SlC L 1 x.2.1 (b.length - x.1) (bsv (b.drop x.1)) ∧ ShaI (t ++ b.take x.1) x.2.2.1 x.2.2.2) (fun x => b.length - x.1) (0, v, h, blk) ⟨Nat.zero_le _, by simpa using hv, by simpa using hi⟩ (by repeat (first | exact Sub.nil | refine Sub.cons rfl ?_ | refine Sub.cons (lk_int rfl (by first | omega | (dsimp only; omega))) ?_)) (fun w h => by simpa using h) ?_
  clear hi hv h blk v
  intro x ⟨hx1, hx2, hx3⟩
  obtain ⟨k, v, h, blk⟩ := x
  simp only at hx1 hx2 hx3 ⊢
  obtain ⟨a, c, rfl, hmc⟩ := hx2.room
  (repeat' (first | (show WL _ _ _ _ _ _ _; first | (refine WL_plain rfl ?_) | (refine WL_nil ?_) | (refine WL_on rfl rfl ?_) | (refine WL_off rfl rfl rfl rfl ?_) | (refine WL_offu rfl rfl rfl rfl ?_) | (refine WL_off' rfl rfl rfl ?_) | ((refine WL_split rfl rfl (fun hc => ?_) (fun hc => ?_)) <;> (rw [hc]; (try simp only [nrB] at hc); (try (exfalso; first | omega | exact hc trivial | exact hc rfl))))) | (show OW _ _ _ _ _ _; refine OW_W ?_) | (show OW _ _ ⟨_, .store .., _, _, _, _⟩ _ _ _; first | (refine OW_store rfl rfl rfl (by repeat (first | exact Upd.here | apply Upd.there)) (by first | (simp; done) | (simp; omega)) ?_) | (refine OW_storeAgg rfl rfl rfl rfl (by repeat (first | exact Upd.here | apply Upd.there)) (by first | (simp [Value.cells]; done) | (simp [Value.cells]; omega)) ?_)) | (show OW _ _ ⟨_, .alloc _, _, _, _, _⟩ _ _ _; first | (refine OW_alloc rfl (fun bk => ?_))) | (show OW _ _ ⟨_, .box .., _, _, _, _⟩ _ _ _; first | (refine OW_box rfl rfl (fun bk => ?_))) | (show WC _ _ _ _ _ _; first | (refine WC_seq ?_) | (refine WC_region ?_) | (refine WC_true rfl ?_) | (refine WC_false rfl ?_) | ((refine WC_cond rfl (fun hc => ?_) (fun hc => ?_)) <;> (try simp only [nrB] at hc) <;> (try (exfalso; first | omega | exact hc trivial | exact hc rfl))) | (refine WC_skip ?_) | (refine WC_ret ?_) | (refine WC_exit ?_) | (refine WC_block ?_)) | (show WQ _ _ _ _; first | (with_reducible refine WQ_then_normal ?_) | (with_reducible refine WQ_code ?_) | (with_reducible refine WQ_then_ret ?_) | (with_reducible refine WQ_block_ret ?_) | (with_reducible refine WQ_then_exit ?_) | (with_reducible refine WQ_block_hit ?_) | (with_reducible refine WQ_block_miss rfl ?_) | (with_reducible refine WQ_block_normal ?_))))
  · have hm0 : 0 < b.length - k := by omega
    have hN : (t ++ b.take k).length = t.length + k := by simp; omega
    obtain ⟨s, hs⟩ : ∃ s, s = t ++ b.take k := ⟨_, rfl⟩
    obtain ⟨u, hu⟩ : ∃ u, u = b.drop k := ⟨_, rfl⟩
    have hul : u.length = b.length - k := by rw [hu, List.length_drop]
    rw [← hs] at hx3 hN ⊢
    rw [← hu] at hx2
    rw [← hul] at hx2 hm0 hmc ⊢
    rcases sl_open hx2.sl with ⟨h0, _⟩ | ⟨bb, off, cap, cc, T, fr, hve, hfn, hcell⟩
    · omega
    injection hve with e1 e2 e3
    subst e1 e3
    clear e2
    have hr : (s.length : Int).tmod 64 = ((s.length % 64 : Nat) : Int) := by rw [Int.tmod_eq_emod_of_nonneg (by omega)]; omega
    have hlv : ∀ (h : H5) (blk : List UInt8) (n : Nat), blk.length = 64 → nth (shaC h blk n) 69 = some (.int .u64 (n : Int)) := fun h blk n hb => by rw [nth_eq]; exact shaC_len hb
    have hbl := hx3.len
    obtain ⟨q, hq⟩ : ∃ q, q = min u.length (64 - s.length % 64) := ⟨_, rfl⟩
    have hql : (u.take q).length = q := by simp; omega
    have htk : (bsv u).take (min u.length (64 - s.length % 64) * 1) = bsv (u.take q) := by simp [bsv, hq]
    have hbl2 := fillB_length (u := u.take q) (r := s.length % 64) hbl (by omega)
    refine WC_drawAll [10, 11] mixed ?_
    (refine WR_w 0 ?_; refine WR_w 1 ?_; refine WR_w 2 ?_; refine WR_w 3 ?_; refine WR_w 4 ?_; refine WR_w 5 ?_)
    refine WR_w 6 ?_ (he := EV_loadc rfl Fnd.here (hlv h blk _ hbl))
    (refine WR_take 7 rfl rfl (by kernel_rfl) (by repeat (first | exact PO.body | refine PO.then ?_ | refine PO.block ?_)) (by repeat (first | exact Inc.refl | exact Inc.nil | refine Inc.cons (by repeat (first | exact Take.here | apply Take.there)) ?_ | refine Inc.skip ?_)) (EV_rem rfl rfl (by decide)) (by rfl) ?_)
    rw [hr]
    (refine WR_take 8 rfl rfl (by kernel_rfl) (by repeat (first | exact PO.body | refine PO.then ?_ | refine PO.block ?_)) (by repeat (first | exact Inc.refl | exact Inc.nil | refine Inc.cons (by repeat (first | exact Take.here | apply Take.there)) ?_ | refine Inc.skip ?_)) (EV_sliceArr (l := s.length % 64) (h := 64) rfl rfl rfl (by omega) (by omega) (by omega)) (by rfl) ?_)
    (refine WR_w 9 ?_)
    (refine WR_last 10 (by kernel_rfl) rfl rfl rfl ?_)
    refine OW_copyTo (shaC h (fillB blk (s.length % 64) (u.take q)) s.length) rfl rfl (sl_there hx2.sl) (by rw [htk]; exact bsv_ones) ?_ (by repeat (first | exact Upd.here | apply Upd.there)) ?_ rfl ?_
    · rw [htk]
      exact shaC_patch (by omega)
    · rw [shaC_length]; omega
    rw [← hq]
    (refine WR_last 11 (by kernel_rfl) rfl rfl rfl ?_)
    refine OW_W ?_
    (refine WR_done (by kernel_rfl) ?_)
    (repeat' (first | (show WL _ _ _ _ _ _ _; first | (refine WL_plain rfl ?_) | (refine WL_nil ?_) | (refine WL_on rfl rfl ?_) | (refine WL_off rfl rfl rfl rfl ?_) | (refine WL_offu rfl rfl rfl rfl ?_) | (refine WL_off' rfl rfl rfl ?_) | ((refine WL_split rfl rfl (fun hc => ?_) (fun hc => ?_)) <;> (rw [hc]; (try simp only [nrB] at hc); (try (exfalso; first | omega | exact hc trivial | exact hc rfl))))) | (show OW _ _ _ _ _ _; refine OW_W ?_) | (show OW _ _ ⟨_, .store .., _, _, _, _⟩ _ _ _; first | (refine OW_store rfl rfl rfl (by repeat (first | exact Upd.here | apply Upd.there)) (by first | (simp; done) | (simp; omega)) ?_) | (refine OW_storeAgg rfl rfl rfl rfl (by repeat (first | exact Upd.here | apply Upd.there)) (by first | (simp [Value.cells]; done) | (simp [Value.cells]; omega)) ?_)) | (show OW _ _ ⟨_, .alloc _, _, _, _, _⟩ _ _ _; first | (refine OW_alloc rfl (fun bk => ?_))) | (show OW _ _ ⟨_, .box .., _, _, _, _⟩ _ _ _; first | (refine OW_box rfl rfl (fun bk => ?_))) | (show WC _ _ _ _ _ _; first | (refine WC_seq ?_) | (refine WC_region ?_) | (refine WC_true rfl ?_) | (refine WC_false rfl ?_) | ((refine WC_cond rfl (fun hc => ?_) (fun hc => ?_)) <;> (try simp only [nrB] at hc) <;> (try (exfalso; first | omega | exact hc trivial | exact hc rfl))) | (refine WC_skip ?_) | (refine WC_ret ?_) | (refine WC_exit ?_) | (refine WC_block ?_)) | (show WQ _ _ _ _; first | (with_reducible refine WQ_then_normal ?_) | (with_reducible refine WQ_code ?_) | (with_reducible refine WQ_then_ret ?_) | (with_reducible refine WQ_block_ret ?_) | (with_reducible refine WQ_then_exit ?_) | (with_reducible refine WQ_block_hit ?_) | (with_reducible refine WQ_block_miss rfl ?_) | (with_reducible refine WQ_block_normal ?_))))
    refine OW_EV (EV_sliceSl (l := q) (h := u.length) rfl rfl rfl (by omega) hmc) rfl ?_
    (repeat' (first | (show WL _ _ _ _ _ _ _; first | (refine WL_plain rfl ?_) | (refine WL_nil ?_) | (refine WL_on rfl rfl ?_) | (refine WL_off rfl rfl rfl rfl ?_) | (refine WL_offu rfl rfl rfl rfl ?_) | (refine WL_off' rfl rfl rfl ?_) | ((refine WL_split rfl rfl (fun hc => ?_) (fun hc => ?_)) <;> (rw [hc]; (try simp only [nrB] at hc); (try (exfalso; first | omega | exact hc trivial | exact hc rfl))))) | (show OW _ _ _ _ _ _; refine OW_W ?_) | (show OW _ _ ⟨_, .store .., _, _, _, _⟩ _ _ _; first | (refine OW_store rfl rfl rfl (by repeat (first | exact Upd.here | apply Upd.there)) (by first | (simp; done) | (simp; omega)) ?_) | (refine OW_storeAgg rfl rfl rfl rfl (by repeat (first | exact Upd.here | apply Upd.there)) (by first | (simp [Value.cells]; done) | (simp [Value.cells]; omega)) ?_)) | (show OW _ _ ⟨_, .alloc _, _, _, _, _⟩ _ _ _; first | (refine OW_alloc rfl (fun bk => ?_))) | (show OW _ _ ⟨_, .box .., _, _, _, _⟩ _ _ _; first | (refine OW_box rfl rfl (fun bk => ?_))) | (show WC _ _ _ _ _ _; first | (refine WC_seq ?_) | (refine WC_region ?_) | (refine WC_true rfl ?_) | (refine WC_false rfl ?_) | ((refine WC_cond rfl (fun hc => ?_) (fun hc => ?_)) <;> (try simp only [nrB] at hc) <;> (try (exfalso; first | omega | exact hc trivial | exact hc rfl))) | (refine WC_skip ?_) | (refine WC_ret ?_) | (refine WC_exit ?_) | (refine WC_block ?_)) | (show WQ _ _ _ _; first | (with_reducible refine WQ_then_normal ?_) | (with_reducible refine WQ_code ?_) | (with_reducible refine WQ_then_ret ?_) | (with_reducible refine WQ_block_ret ?_) | (with_reducible refine WQ_then_exit ?_) | (with_reducible refine WQ_block_hit ?_) | (with_reducible refine WQ_block_miss rfl ?_) | (with_reducible refine WQ_block_normal ?_))))
    refine OW_EV (EV_loadc rfl Fnd.here (hlv _ _ _ hbl2)) rfl ?_
    (repeat' (first | (show WL _ _ _ _ _ _ _; first | (refine WL_plain rfl ?_) | (refine WL_nil ?_) | (refine WL_on rfl rfl ?_) | (refine WL_off rfl rfl rfl rfl ?_) | (refine WL_offu rfl rfl rfl rfl ?_) | (refine WL_off' rfl rfl rfl ?_) | ((refine WL_split rfl rfl (fun hc => ?_) (fun hc => ?_)) <;> (rw [hc]; (try simp only [nrB] at hc); (try (exfalso; first | omega | exact hc trivial | exact hc rfl))))) | (show OW _ _ _ _ _ _; refine OW_W ?_) | (show OW _ _ ⟨_, .store .., _, _, _, _⟩ _ _ _; first | (refine OW_store rfl rfl rfl (by repeat (first | exact Upd.here | apply Upd.there)) (by first | (simp; done) | (simp; omega)) ?_) | (refine OW_storeAgg rfl rfl rfl rfl (by repeat (first | exact Upd.here | apply Upd.there)) (by first | (simp [Value.cells]; done) | (simp [Value.cells]; omega)) ?_)) | (show OW _ _ ⟨_, .alloc _, _, _, _, _⟩ _ _ _; first | (refine OW_alloc rfl (fun bk => ?_))) | (show OW _ _ ⟨_, .box .., _, _, _, _⟩ _ _ _; first | (refine OW_box rfl rfl (fun bk => ?_))) | (show WC _ _ _ _ _ _; first | (refine WC_seq ?_) | (refine WC_region ?_) | (refine WC_true rfl ?_) | (refine WC_false rfl ?_) | ((refine WC_cond rfl (fun hc => ?_) (fun hc => ?_)) <;> (try simp only [nrB] at hc) <;> (try (exfalso; first | omega | exact hc trivial | exact hc rfl))) | (refine WC_skip ?_) | (refine WC_ret ?_) | (refine WC_exit ?_) | (refine WC_block ?_)) | (show WQ _ _ _ _; first | (with_reducible refine WQ_then_normal ?_) | (with_reducible refine WQ_code ?_) | (with_reducible refine WQ_then_ret ?_) | (with_reducible refine WQ_block_ret ?_) | (with_reducible refine WQ_then_exit ?_) | (with_reducible refine WQ_block_hit ?_) | (with_reducible refine WQ_block_miss rfl ?_) | (with_reducible refine WQ_block_normal ?_))))
    refine OW_EV (EV_ari rfl rfl rfl) rfl ?_
    rw [wrap_u64 (by omega) (by omega), show (s.length : Int) + (q : Int) = ((s.length + q : Nat) : Int) from by omega]
    (repeat' (first | (show WL _ _ _ _ _ _ _; first | (refine WL_plain rfl ?_) | (refine WL_nil ?_) | (refine WL_on rfl rfl ?_) | (refine WL_off rfl rfl rfl rfl ?_) | (refine WL_offu rfl rfl rfl rfl ?_) | (refine WL_off' rfl rfl rfl ?_) | ((refine WL_split rfl rfl (fun hc => ?_) (fun hc => ?_)) <;> (rw [hc]; (try simp only [nrB] at hc); (try (exfalso; first | omega | exact hc trivial | exact hc rfl))))) | (show OW _ _ _ _ _ _; refine OW_W ?_) | (show OW _ _ ⟨_, .store .., _, _, _, _⟩ _ _ _; first | (refine OW_store rfl rfl rfl (by repeat (first | exact Upd.here | apply Upd.there)) (by first | (simp; done) | (simp; omega)) ?_) | (refine OW_storeAgg rfl rfl rfl rfl (by repeat (first | exact Upd.here | apply Upd.there)) (by first | (simp [Value.cells]; done) | (simp [Value.cells]; omega)) ?_)) | (show OW _ _ ⟨_, .alloc _, _, _, _, _⟩ _ _ _; first | (refine OW_alloc rfl (fun bk => ?_))) | (show OW _ _ ⟨_, .box .., _, _, _, _⟩ _ _ _; first | (refine OW_box rfl rfl (fun bk => ?_))) | (show WC _ _ _ _ _ _; first | (refine WC_seq ?_) | (refine WC_region ?_) | (refine WC_true rfl ?_) | (refine WC_false rfl ?_) | ((refine WC_cond rfl (fun hc => ?_) (fun hc => ?_)) <;> (try simp only [nrB] at hc) <;> (try (exfalso; first | omega | exact hc trivial | exact hc rfl))) | (refine WC_skip ?_) | (refine WC_ret ?_) | (refine WC_exit ?_) | (refine WC_block ?_)) | (show WQ _ _ _ _; first | (with_reducible refine WQ_then_normal ?_) | (with_reducible refine WQ_code ?_) | (with_reducible refine WQ_then_ret ?_) | (with_reducible refine WQ_block_ret ?_) | (with_reducible refine WQ_then_exit ?_) | (with_reducible refine WQ_block_hit ?_) | (with_reducible refine WQ_block_miss rfl ?_) | (with_reducible refine WQ_block_normal ?_))))
    refine OW_storeTo (shaC h (fillB blk (s.length % 64) (u.take q)) (s.length + q)) rfl rfl rfl (shaC_setlen _ hbl2) (by repeat (first | exact Upd.here | apply Upd.there)) (by rw [shaC_length]; omega) ?_
    (repeat' (first | (show WL _ _ _ _ _ _ _; first | (refine WL_plain rfl ?_) | (refine WL_nil ?_) | (refine WL_on rfl rfl ?_) | (refine WL_off rfl rfl rfl rfl ?_) | (refine WL_offu rfl rfl rfl rfl ?_) | (refine WL_off' rfl rfl rfl ?_) | ((refine WL_split rfl rfl (fun hc => ?_) (fun hc => ?_)) <;> (rw [hc]; (try simp only [nrB] at hc); (try (exfalso; first | omega | exact hc trivial | exact hc rfl))))) | (show OW _ _ _ _ _ _; refine OW_W ?_) | (show OW _ _ ⟨_, .store .., _, _, _, _⟩ _ _ _; first | (refine OW_store rfl rfl rfl (by repeat (first | exact Upd.here | apply Upd.there)) (by first | (simp; done) | (simp; omega)) ?_) | (refine OW_storeAgg rfl rfl rfl rfl (by repeat (first | exact Upd.here | apply Upd.there)) (by first | (simp [Value.cells]; done) | (simp [Value.cells]; omega)) ?_)) | (show OW _ _ ⟨_, .alloc _, _, _, _, _⟩ _ _ _; first | (refine OW_alloc rfl (fun bk => ?_))) | (show OW _ _ ⟨_, .box .., _, _, _, _⟩ _ _ _; first | (refine OW_box rfl rfl (fun bk => ?_))) | (show WC _ _ _ _ _ _; first | (refine WC_seq ?_) | (refine WC_region ?_) | (refine WC_true rfl ?_) | (refine WC_false rfl ?_) | ((refine WC_cond rfl (fun hc => ?_) (fun hc => ?_)) <;> (try simp only [nrB] at hc) <;> (try (exfalso; first | omega | exact hc trivial | exact hc rfl))) | (refine WC_skip ?_) | (refine WC_ret ?_) | (refine WC_exit ?_) | (refine WC_block ?_)) | (show WQ _ _ _ _; first | (with_reducible refine WQ_then_normal ?_) | (with_reducible refine WQ_code ?_) | (with_reducible refine WQ_then_ret ?_) | (with_reducible refine WQ_block_ret ?_) | (with_reducible refine WQ_then_exit ?_) | (with_reducible refine WQ_block_hit ?_) | (with_reducible refine WQ_block_miss rfl ?_) | (with_reducible refine WQ_block_normal ?_))))
    refine OW_EV (EV_loadc rfl Fnd.here (hlv _ _ _ hbl2)) rfl ?_
    (repeat' (first | (show WL _ _ _ _ _ _ _; first | (refine WL_plain rfl ?_) | (refine WL_nil ?_) | (refine WL_on rfl rfl ?_) | (refine WL_off rfl rfl rfl rfl ?_) | (refine WL_offu rfl rfl rfl rfl ?_) | (refine WL_off' rfl rfl rfl ?_) | ((refine WL_split rfl rfl (fun hc => ?_) (fun hc => ?_)) <;> (rw [hc]; (try simp only [nrB] at hc); (try (exfalso; first | omega | exact hc trivial | exact hc rfl))))) | (show OW _ _ _ _ _ _; refine OW_W ?_) | (show OW _ _ ⟨_, .store .., _, _, _, _⟩ _ _ _; first | (refine OW_store rfl rfl rfl (by repeat (first | exact Upd.here | apply Upd.there)) (by first | (simp; done) | (simp; omega)) ?_) | (refine OW_storeAgg rfl rfl rfl rfl (by repeat (first | exact Upd.here | apply Upd.there)) (by first | (simp [Value.cells]; done) | (simp [Value.cells]; omega)) ?_)) | (show OW _ _ ⟨_, .alloc _, _, _, _, _⟩ _ _ _; first | (refine OW_alloc rfl (fun bk => ?_))) | (show OW _ _ ⟨_, .box .., _, _, _, _⟩ _ _ _; first | (refine OW_box rfl rfl (fun bk => ?_))) | (show WC _ _ _ _ _ _; first | (refine WC_seq ?_) | (refine WC_region ?_) | (refine WC_true rfl ?_) | (refine WC_false rfl ?_) | ((refine WC_cond rfl (fun hc => ?_) (fun hc => ?_)) <;> (try simp only [nrB] at hc) <;> (try (exfalso; first | omega | exact hc trivial | exact hc rfl))) | (refine WC_skip ?_) | (refine WC_ret ?_) | (refine WC_exit ?_) | (refine WC_block ?_)) | (show WQ _ _ _ _; first | (with_reducible refine WQ_then_normal ?_) | (with_reducible refine WQ_code ?_) | (with_reducible refine WQ_then_ret ?_) | (with_reducible refine WQ_block_ret ?_) | (with_reducible refine WQ_then_exit ?_) | (with_reducible refine WQ_block_hit ?_) | (with_reducible refine WQ_block_miss rfl ?_) | (with_reducible refine WQ_block_normal ?_))))
    refine OW_EV (EV_rem rfl rfl (by decide)) rfl ?_
    rw [show ((s.length + q : Nat) : Int).tmod 64 = (((s.length + q) % 64 : Nat) : Int) from by rw [Int.tmod_eq_emod_of_nonneg (by omega)]; omega]
    have hnx : t ++ b.take (k + q) = s ++ u.take q := by
      rw [hs, hu, List.append_assoc, ← List.take_add]
    have hnl : (t ++ b.take (k + q)).length = s.length + q := by rw [hnx]; simp; omega
    have hsc : SlC L 1 (.slice (some ⟨bb, if c = q then off else off + q * 1, none⟩) (u.length - q) (c - q)) (b.length - (k + q)) (bsv (b.drop (k + q))) := by
      have := SlC.cut (L := L) (q := q) (cap := c) hfn hcell rfl (by omega) hmc
      rw [hul, hu, List.drop_drop] at this
      rw [hul, show b.length - (k + q) = b.length - k - q from by omega]
      exact this
    (repeat' (first | (show WL _ _ _ _ _ _ _; first | (refine WL_plain rfl ?_) | (refine WL_nil ?_) | (refine WL_on rfl rfl ?_) | (refine WL_off rfl rfl rfl rfl ?_) | (refine WL_offu rfl rfl rfl rfl ?_) | (refine WL_off' rfl rfl rfl ?_) | ((refine WL_split rfl rfl (fun hc => ?_) (fun hc => ?_)) <;> (rw [hc]; (try simp only [nrB] at hc); (try (exfalso; first | omega | exact hc trivial | exact hc rfl))))) | (show OW _ _ _ _ _ _; refine OW_W ?_) | (show OW _ _ ⟨_, .store .., _, _, _, _⟩ _ _ _; first | (refine OW_store rfl rfl rfl (by repeat (first | exact Upd.here | apply Upd.there)) (by first | (simp; done) | (simp; omega)) ?_) | (refine OW_storeAgg rfl rfl rfl rfl (by repeat (first | exact Upd.here | apply Upd.there)) (by first | (simp [Value.cells]; done) | (simp [Value.cells]; omega)) ?_)) | (show OW _ _ ⟨_, .alloc _, _, _, _, _⟩ _ _ _; first | (refine OW_alloc rfl (fun bk => ?_))) | (show OW _ _ ⟨_, .box .., _, _, _, _⟩ _ _ _; first | (refine OW_box rfl rfl (fun bk => ?_))) | (show WC _ _ _ _ _ _; first | (refine WC_seq ?_) | (refine WC_region ?_) | (refine WC_true rfl ?_) | (refine WC_false rfl ?_) | ((refine WC_cond rfl (fun hc => ?_) (fun hc => ?_)) <;> (try simp only [nrB] at hc) <;> (try (exfalso; first | omega | exact hc trivial | exact hc rfl))) | (refine WC_skip ?_) | (refine WC_ret ?_) | (refine WC_exit ?_) | (refine WC_block ?_)) | (show WQ _ _ _ _; first | (with_reducible refine WQ_then_normal ?_) | (with_reducible refine WQ_code ?_) | (with_reducible refine WQ_then_ret ?_) | (with_reducible refine WQ_block_ret ?_) | (with_reducible refine WQ_then_exit ?_) | (with_reducible refine WQ_block_hit ?_) | (with_reducible refine WQ_block_miss rfl ?_) | (with_reducible refine WQ_block_normal ?_))))
    · have h64 : s.length % 64 + q = 64 := by omega
      refine OW_call rfl rfl rfl (mix_n _ _ _ p L hbl2) rfl (fun r L' hp => ?_)
      obtain ⟨rfl, rfl⟩ := hp
      (repeat' (first | (show WL _ _ _ _ _ _ _; first | (refine WL_plain rfl ?_) | (refine WL_nil ?_) | (refine WL_on rfl rfl ?_) | (refine WL_off rfl rfl rfl rfl ?_) | (refine WL_offu rfl rfl rfl rfl ?_) | (refine WL_off' rfl rfl rfl ?_) | ((refine WL_split rfl rfl (fun hc => ?_) (fun hc => ?_)) <;> (rw [hc]; (try simp only [nrB] at hc); (try (exfalso; first | omega | exact hc trivial | exact hc rfl))))) | (show OW _ _ _ _ _ _; refine OW_W ?_) | (show OW _ _ ⟨_, .store .., _, _, _, _⟩ _ _ _; first | (refine OW_store rfl rfl rfl (by repeat (first | exact Upd.here | apply Upd.there)) (by first | (simp; done) | (simp; omega)) ?_) | (refine OW_storeAgg rfl rfl rfl rfl (by repeat (first | exact Upd.here | apply Upd.there)) (by first | (simp [Value.cells]; done) | (simp [Value.cells]; omega)) ?_)) | (show OW _ _ ⟨_, .alloc _, _, _, _, _⟩ _ _ _; first | (refine OW_alloc rfl (fun bk => ?_))) | (show OW _ _ ⟨_, .box .., _, _, _, _⟩ _ _ _; first | (refine OW_box rfl rfl (fun bk => ?_))) | (show WC _ _ _ _ _ _; first | (refine WC_seq ?_) | (refine WC_region ?_) | (refine WC_true rfl ?_) | (refine WC_false rfl ?_) | ((refine WC_cond rfl (fun hc => ?_) (fun hc => ?_)) <;> (try simp only [nrB] at hc) <;> (try (exfalso; first | omega | exact hc trivial | exact hc rfl))) | (refine WC_skip ?_) | (refine WC_ret ?_) | (refine WC_exit ?_) | (refine WC_block ?_)) | (show WQ _ _ _ _; first | (with_reducible refine WQ_then_normal ?_) | (with_reducible refine WQ_code ?_) | (with_reducible refine WQ_then_ret ?_) | (with_reducible refine WQ_block_ret ?_) | (with_reducible refine WQ_then_exit ?_) | (with_reducible refine WQ_block_hit ?_) | (with_reducible refine WQ_block_miss rfl ?_) | (with_reducible refine WQ_block_normal ?_))))
      rw [hul] at hsc ⊢
      refine WQ_round (X := Nat × Value × H5 × List UInt8) (μ := fun x => b.length - x.1) (x := (k, .slice (some ⟨bb, off, none⟩) u.length c, h, blk)) (k + q, _, mixN h (fillB blk (s.length % 64) (u.take q)), fillB blk (s.length % 64) (u.take q)) (by simp only; omega)
        ⟨by simp only; omega, hsc, by simp only; rw [hnx]; exact hx3.full (by omega)⟩ (by repeat (first | exact Sub.nil | refine Sub.cons rfl ?_ | refine Sub.cons (lk_int rfl (by first | omega | (dsimp only; omega))) ?_)) (fun w h => by simp only; rw [hnl]; exact h)
    · have h64 : s.length % 64 + q < 64 := by omega
      rw [hul] at hsc ⊢
      refine WQ_round (X := Nat × Value × H5 × List UInt8) (μ := fun x => b.length - x.1) (x := (k, .slice (some ⟨bb, off, none⟩) u.length c, h, blk)) (k + q, _, h, fillB blk (s.length % 64) (u.take q)) (by simp only; omega)
        ⟨by simp only; omega, hsc, by simp only; rw [hnx]; exact hx3.part (by omega)⟩ (by repeat (first | exact Sub.nil | refine Sub.cons rfl ?_ | refine Sub.cons (lk_int rfl (by first | omega | (dsimp only; omega))) ?_)) (fun w h => by simp only; rw [hnl]; exact h)
  · have hk : k = b.length := by omega
    subst hk
    rw [List.take_length] at hx3 ⊢
    (first | refine WQ_retI rfl rfl ?_ | refine WQ_endI rfl rfl ?_)
    exact ⟨_, (by repeat (first | exact Inc.refl | exact Inc.nil | refine Inc.cons (by repeat (first | exact Take.here | apply Take.there)) ?_ | refine Inc.skip ?_)), rfl, h, blk, hx3, rfl⟩
end Go.Proofs.YtehjdmpnmbikfaaDoor
