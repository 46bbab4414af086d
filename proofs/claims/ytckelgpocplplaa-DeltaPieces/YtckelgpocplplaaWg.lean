/- Package delta: the longest match. It proves no statement by itself. No conditions. -/
import Derived.Test.YtckelgpocplplaaWf
namespace Go.Proofs.Ytckelgpocplplaa
open Go Go.Vx Go.Dl
variable [W0]
set_option maxRecDepth 4000
set_option linter.all false
theorem find_list (base : List UInt8) {b c : Nat} {es : Array MapEntry} {G : List (Nat × List Nat)} {Cs : List Chunk} {L : List Chunk} (hM : MiR 3 es G Cs) (hG : GOk base G) (hC : ∀ x ∈ Cs.flatten, x ∈ L.flatten) (k : Nat) :
    ∃ (l : List Nat) (va : Option Addr) (vc : Nat), (∀ {n : Nat} {M : List (Nat × Value)} {L' : List Chunk} {d : Nat} {ty : TypeId} {ps : String} {af : Array Edge} {g : Option (Nat × Bool)} {x y : Operand}, ev M x = some (.map (some b)) → ev M y = some (.int .u64 (k : Int)) → Fnd L' b (.map es c) → EV Try.prog n ⟨some d, .lookup 56 x y false, ty, ps, af, g⟩ M L' d (.slice va l.length vc)) ∧
      Sl L 1 (.slice va l.length vc) l.length (inl l) ∧ l.length ≤ 9223372036854775807 ∧ ∀ a ∈ l, a + 8 ≤ base.length ∧ bnN ((base.drop a).take 8) = k := by
  have hkt : Try.prog.underlying 73 = some (.int .u64) := by kernel_rfl
  have hmt : Try.prog.underlying 56 = some (.map 73 78) := by kernel_rfl
  rcases hM.find k with ⟨hno, hnG⟩ | ⟨i, l, e, C, hi, hei, hCi, hek, hoe⟩
  · exact ⟨[], none, 0, fun hx hy hf => EV_lookI_no hmt hkt hx hy hf hM.isKey hno, .inl ⟨0, rfl, rfl, rfl⟩, Nat.zero_le _, fun a h => by simp at h⟩
  · obtain ⟨va, vc, hv⟩ := ow_slc hoe
    rw [hv] at hoe
    refine ⟨l, va, vc, fun hx hy hf => hv ▸ EV_lookI_yes hmt hkt hx hy hf hM hei hek, ?_, ?_, fun a ha => hG k l (List.mem_of_getElem? hi) a ha⟩
    · refine sl_sub (fun x hx => hC x ?_) (ow_sl (L := []) hoe)
      simp only [List.flatten_cons, List.flatten_nil, List.append_nil] at hx
      exact List.mem_flatten.2 ⟨C, List.mem_of_getElem? hCi, hx⟩
    · rcases hoe with ⟨_, h0, _⟩ | ⟨_, cap, _, _, _, _, _, h1, h2⟩
      · omega
      · unfold maxLen at h2; omega
set_option maxHeartbeats 16000000 in
theorem dlongest_n (vb vf va0 : Value) (base before after : List UInt8) (b c : Nat) (es : Array MapEntry) (G : List (Nat × List Nat)) (Cs L : List Chunk) (hb : Rs L 1 vb base.length (bsv base)) (hf : Rs L 1 vf before.length (bsv before)) (ha : Rs L 1 va0 after.length (bsv after))
    (hF : Fnd L b (.map es c)) (hM : MiR 3 es G Cs) (hG : GOk base G) (hC : ∀ x ∈ Cs.flatten, x ∈ L.flatten) (h8 : 8 ≤ after.length) (hbl : base.length ≤ 16777216) (hfl : before.length ≤ 16777216) (hal : after.length ≤ 16777216) :
    Gv Try.prog 31 [.agg #[vb, .map (some b)], vf, va0].toArray L (fun r L' => ∃ f s bf : Nat, r = .agg #[.int .i64 (f : Int), .int .i64 (s : Int), .int .i64 (bf : Int)] ∧ ((f = 0 ∧ s = 0 ∧ bf = 0) ∨ MtOk base before after f s bf) ∧ L' = L) := by
  refine Gv.of_body (args := [.agg #[vb, .map (some b)], vf, va0]) Try.func31 rfl rfl ?_
  obtain ⟨ba, bc, rfl⟩ := rs_val hb
  obtain ⟨fa, fc, rfl⟩ := rs_val hf
  obtain ⟨aa, ac, rfl⟩ := rs_val ha
  obtain ⟨k, hk⟩ : ∃ k, k = bnN (after.take 8) := ⟨_, rfl⟩
  obtain ⟨l, la, lc, hlk, hls, hlb, hall⟩ := find_list base (b := b) (c := c) (L := L) hM hG hC k
  have hbn := fun L' hi => blocknum_n (.slice aa after.length ac) after L L' ha hi h8
  rw [← hk] at hbn
  (repeat' first|refine kW ?_|refine kU fun bk=>?_|refine kV fun hc=>?_|refine kZ (fun hc=>?_) fun hc=>?_|fail)
  rename_i p3 p6
  obtain ⟨p7, hp7⟩ : ∃ p7, p7 = bk := ⟨_, rfl⟩
  rw [← hp7]
  clear hp7
  refine WC_drawAll [] mixed ?_
  (refine WR_t 0 ?_; refine WR_t 1 ?_; refine WR_t 2 ?_; refine WR_t 6 ?_)
  (refine WR_one 3 (by kernel_rfl) rfl rfl ?_)
  refine OW_callP rfl rfl rfl (hbn _ (mem_tail (mem_tail (mem_tail fun x h => h)))) rfl ?_
  refine ⟨iC, ?_⟩
  (refine WR_take 4 rfl rfl (by kernel_rfl) iP iC (hlk rfl rfl (.there (.there (.there hF)))) (by rfl) ?_)
  (refine WR_t 5 ?_)
  (refine WR_done (by kernel_rfl) ?_)
  (repeat' first|refine kW ?_|refine kU fun bk=>?_|refine kV fun hc=>?_|refine kZ (fun hc=>?_) fun hc=>?_|fail)
  refine WC_loop (X := Nat × Nat × Nat × Nat) (fun x => [(1, .slice fa before.length fc), (2, .slice aa after.length ac), (3, .pointer (some ⟨p3, 0, none⟩)), (6, .pointer (some ⟨p6, 0, none⟩)), (7, .pointer (some ⟨p7, 0, none⟩)), (16, .slice la l.length lc), (17, .int .i64 (l.length : Int)), (18, .int .i64 (x.1 : Int))])
    (fun x => [(p7, cl [.int .i64 (x.2.1 : Int), .int .i64 (x.2.2.1 : Int), .int .i64 (x.2.2.2 : Int)] 61)] :: [(p6, cl [.int .i64 0, .int .i64 0, .int .i64 0] 61)] :: [(p3, cl [.slice ba base.length bc, .map (some b)] 58)] :: L)
    (fun x => x.1 ≤ l.length ∧ ((x.2.1 = 0 ∧ x.2.2.1 = 0 ∧ x.2.2.2 = 0) ∨ MtOk base before after x.2.1 x.2.2.1 x.2.2.2)) (fun x => l.length - x.1) (0, 0, 0, 0) ⟨Nat.zero_le _, .inl ⟨rfl, rfl, rfl⟩⟩ iS (fun w h => h) ?_
  rintro ⟨i, f, s, bf⟩ ⟨h1, h2⟩
  simp only at h1 h2 ⊢
  (repeat' first|refine kW ?_|refine kU fun bk=>?_|refine kV fun hc=>?_|refine kZ (fun hc=>?_) fun hc=>?_|fail)
  · have hlt : i < l.length := by omega
    obtain ⟨a, haa⟩ : ∃ a, a = l[i] := ⟨_, rfl⟩
    obtain ⟨g1, g2⟩ := hall l[i] (List.getElem_mem hlt)
    rw [← haa] at g1 g2
    obtain ⟨b1, off1, cap1, cc1, T1, fr1, hv1, hf1, hg1⟩ := sl_at hls (inl_get hlt)
    injection hv1 with q1 q2 q3
    subst q1 q3
    rw [← haa] at hg1
    have e8 : (base.drop a).take 8 = after.take 8 := bnN_inj 8 _ _ (by rw [List.length_take, List.length_drop]; omega) (by rw [List.length_take]; omega) (by rw [g2, hk])
    have hmt := mt_at (before := before) g1 h8 e8
    have hcm1 := cm_le (base.take a).reverse before.reverse
    have hcm2 := cm_le (base.drop a) after
    simp only [List.length_reverse, List.length_take, List.length_drop] at hcm1 hcm2
    obtain ⟨r1, u1, e1⟩ := rs_cut (P := Try.prog) (T := 23) hb (l := 0) (h := a) (Nat.zero_le _) (by omega)
    obtain ⟨r2, u2, e2⟩ := rs_cut (P := Try.prog) (T := 23) hb (l := a) (h := base.length) (by omega) (Nat.le_refl _)
    rw [List.drop_zero, Nat.sub_zero] at u1
    rw [List.take_of_length_le (by rw [List.length_drop]; exact Nat.le_refl _)] at u2
    refine OW_EV (EV_indexAddr (j := i) rfl rfl rfl hlt) rfl ?_
    (repeat' first|refine kW ?_|refine kU fun bk=>?_|refine kV fun hc=>?_|refine kZ (fun hc=>?_) fun hc=>?_|fail)
    refine OW_EV (EV_load rfl (.there (.there (.there hf1))) (by simpa using hg1)) rfl ?_
    (repeat' first|refine kW ?_|refine kU fun bk=>?_|refine kV fun hc=>?_|refine kZ (fun hc=>?_) fun hc=>?_|fail)
    refine OW_EV (e1 rfl rfl rfl) rfl ?_
    (repeat' first|refine kW ?_|refine kU fun bk=>?_|refine kV fun hc=>?_|refine kZ (fun hc=>?_) fun hc=>?_|fail)
    refine OW_callP rfl rfl rfl (commonend_n r1 (.slice fa before.length fc) (base.take a) before _ (sl_there (sl_there (sl_there u1.sl))) (sl_there (sl_there (sl_there hf.sl))) (by rw [List.length_take]; omega) (by omega)) rfl ?_
    generalize cm (base.take a).reverse before.reverse = m1 at hmt hcm1 ⊢
    (repeat' first|refine kW ?_|refine kU fun bk=>?_|refine kV fun hc=>?_|refine kZ (fun hc=>?_) fun hc=>?_|fail)
    refine OW_EV (e2 rfl rfl rfl) rfl ?_
    (repeat' first|refine kW ?_|refine kU fun bk=>?_|refine kV fun hc=>?_|refine kZ (fun hc=>?_) fun hc=>?_|fail)
    refine OW_callP rfl rfl rfl (dcommon_n r2 (.slice aa after.length ac) (base.drop a) after _ (sl_there (sl_there (sl_there u2.sl))) (sl_there (sl_there (sl_there ha.sl))) (by rw [List.length_drop]; omega) (by omega)) rfl ?_
    generalize cm (base.drop a) after = m2 at hmt hcm2 ⊢
    (repeat' first|refine kW ?_|refine kU fun bk=>?_|refine kV fun hc=>?_|refine kZ (fun hc=>?_) fun hc=>?_|fail)
    · rw [show (a : Int) - (m1 : Int) = ((a - m1 : Nat) : Int) from by omega, ← Int.natCast_add]
      refine WQ_round (X := Nat × Nat × Nat × Nat) (μ := fun x => l.length - x.1) (x := (i, f, s, bf)) (i + 1, a - m1, m1 + m2, m1) (by simp only; omega) ⟨by simp only; omega, .inr hmt⟩ iS (fun w h => h)
    · refine WQ_round (X := Nat × Nat × Nat × Nat) (μ := fun x => l.length - x.1) (x := (i, f, s, bf)) (i + 1, f, s, bf) (by simp only; omega) ⟨by simp only; omega, h2⟩ iS (fun w h => h)
  · first
      | (refine WQ_retC (vs := [.agg #[.int .i64 (f : Int), .int .i64 (s : Int), .int .i64 (bf : Int)]]) rfl (.agg ⟨by kernel_rfl, by kernel_rfl⟩ rfl (RdAt.cl' (vs := [.int .i64 (f : Int), .int .i64 (s : Int), .int .i64 (bf : Int)]) (by repeat (first | assumption | exact Fnd.here | refine Fnd.there ?_)) rfl) rfl .nil) ?_
         exact ⟨L, fun w h => iH h, f, s, bf, rfl, h2, rfl⟩)
      | (refine WQ_endC (vs := [.agg #[.int .i64 (f : Int), .int .i64 (s : Int), .int .i64 (bf : Int)]]) rfl (.agg ⟨by kernel_rfl, by kernel_rfl⟩ rfl (RdAt.cl' (vs := [.int .i64 (f : Int), .int .i64 (s : Int), .int .i64 (bf : Int)]) (by repeat (first | assumption | exact Fnd.here | refine Fnd.there ?_)) rfl) rfl .nil) ?_
         exact ⟨L, fun w h => iH h, f, s, bf, rfl, h2, rfl⟩)
end Go.Proofs.Ytckelgpocplplaa
