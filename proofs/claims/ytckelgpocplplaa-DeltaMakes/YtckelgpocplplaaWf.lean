/- Package delta: the index of a base. It proves no statement by itself. No conditions. -/
import Derived.Test.YtckelgpocplplaaWe
import Derived.Test.YtckelgpocplplaaRu
namespace Go.Proofs.Ytckelgpocplplaa
open Go Go.Vx Go.Dl
variable [W0]
set_option maxRecDepth 4000
set_option linter.all false
/-- What an index holds is right. -/
def GOk (base : List UInt8) (G : List (Nat × List Nat)) : Prop := ∀ k l, (k, l) ∈ G → ∀ a ∈ l, a + 8 ≤ base.length ∧ bnN ((base.drop a).take 8) = k
theorem GOk.nil (base : List UInt8) : GOk base [] := fun k l h => by simp at h
theorem GOk.push {base : List UInt8} {G : List (Nat × List Nat)} (h : GOk base G) {a : Nat} (ha : a + 8 ≤ base.length) : GOk base (G ++ [(bnN ((base.drop a).take 8), [a])]) := fun k l hm b hb => by
  rcases List.mem_append.1 hm with hm | hm
  · exact h k l hm b hb
  · simp only [List.mem_singleton, Prod.mk.injEq] at hm
    obtain ⟨rfl, rfl⟩ := hm
    simp only [List.mem_singleton] at hb
    subst hb
    exact ⟨ha, rfl⟩
theorem GOk.mod {base : List UInt8} {G : List (Nat × List Nat)} (h : GOk base G) {i a : Nat} {l : List Nat} (hi : G[i]? = some (bnN ((base.drop a).take 8), l)) (ha : a + 8 ≤ base.length) : GOk base (G.set i (bnN ((base.drop a).take 8), l ++ [a])) := fun k l' hm b hb => by
  rcases List.mem_or_eq_of_mem_set hm with hm | hm
  · exact h k l' hm b hb
  · simp only [Prod.mk.injEq] at hm
    obtain ⟨rfl, rfl⟩ := hm
    rcases List.mem_append.1 hb with hb | hb
    · exact h _ l (List.mem_of_getElem? hi) b hb
    · simp only [List.mem_singleton] at hb
      subst hb
      exact ⟨ha, rfl⟩
set_option maxHeartbeats 16000000 in
theorem indexof_n (vb : Value) (base : List UInt8) (L : List Chunk) (hb : Rs L 1 vb base.length (bsv base)) (hl : base.length ≤ 16777216) :
    Gv Try.prog 30 [vb].toArray L (fun r L' => ∃ b es c G Cs, r = .agg #[vb, .map (some b)] ∧ MiR 3 es G Cs ∧ GOk base G ∧ L' = [(b, .map es c)] :: Cs.flatten :: L) := by
  refine Gv.of_body (args := [vb]) Try.func30 rfl rfl ?_
  have hone := hb.one
  (repeat' first|refine kW ?_|refine kU fun bk=>?_|refine kV fun hc=>?_|refine kZ (fun hc=>?_) fun hc=>?_|fail)
  obtain ⟨g0, hg0⟩ : ∃ g0, g0 = bk := ⟨_, rfl⟩
  rw [← hg0]
  clear hg0
  refine OW_makeMap rfl (fun b => ?_)
  obtain ⟨ba, bc, rfl⟩ := rs_val hb
  (repeat' first|refine kW ?_|refine kU fun bk=>?_|refine kV fun hc=>?_|refine kZ (fun hc=>?_) fun hc=>?_|fail)
  obtain ⟨p0, hp0⟩ : ∃ p0, p0 = bk := ⟨_, rfl⟩
  rw [← hp0]
  clear hp0
  refine WC_loop (X := Nat × Array MapEntry × Nat × List (Nat × List Nat) × List Chunk) (fun x => [(0, .slice ba base.length bc), (2, .pointer (some ⟨g0, 0, none⟩)), (3, .pointer (some ⟨p0, 0, none⟩)), (4, .int .i64 ((8 * x.1 : Nat) : Int))])
    (fun x => [(p0, cl [.slice ba base.length bc, .map (some b)] 58)] :: [(b, .map x.2.1 x.2.2.1)] :: x.2.2.2.2.flatten :: [(g0, cl [.slice none 0 0, .map none] 58)] :: L)
    (fun x => 8 * x.1 ≤ base.length ∧ MiR 3 x.2.1 x.2.2.2.1 x.2.2.2.2 ∧ GOk base x.2.2.2.1) (fun x => base.length - 8 * x.1) (0, #[], 0, [], [])
    ⟨Nat.zero_le _, MiR.nil _, GOk.nil base⟩ iS (fun w h => h.permF (List.Perm.refl _)) ?_
  rintro ⟨j, es, c, G, Cs⟩ ⟨h1, h2, h3⟩
  simp only at h1 h2 h3 ⊢
  (repeat' first|refine kW ?_|refine kU fun bk=>?_|refine kV fun hc=>?_|refine kZ (fun hc=>?_) fun hc=>?_|fail)
  · have h8 : 8 * j + 8 ≤ base.length := by omega
    obtain ⟨r1, q1, e1⟩ := rs_cut (P := Try.prog) (T := 23) hb (l := 8 * j) (h := base.length) h1 (Nat.le_refl _)
    rw [List.take_of_length_le (by rw [List.length_drop]; exact Nat.le_refl _)] at q1
    refine OW_EV (e1 rfl rfl rfl) rfl ?_
    (repeat' first|refine kW ?_|refine kU fun bk=>?_|refine kV fun hc=>?_|refine kZ (fun hc=>?_) fun hc=>?_|fail)
    refine OW_callP rfl rfl rfl (blocknum_n r1 (base.drop (8 * j)) L _ q1 (mem_tail (mem_tail (mem_tail (mem_tail fun x h => h)))) (by rw [List.length_drop]; omega)) rfl ?_
    obtain ⟨k, hk⟩ : ∃ k, k = bnN ((base.drop (8 * j)).take 8) := ⟨_, rfl⟩
    rw [← hk]
    have hkt : Try.prog.underlying 73 = some (.int .u64) := by kernel_rfl
    have hmt : Try.prog.underlying 56 = some (.map 73 78) := by kernel_rfl
    rcases h2.find k with ⟨hno, hnG⟩ | ⟨i, l, e, C, hi, hei, hCi, hek, hoe⟩
    · (repeat' first|refine kW ?_|refine kU fun bk=>?_|refine kV fun hc=>?_|refine kZ (fun hc=>?_) fun hc=>?_|fail)
      refine OW_EV (EV_lookI_no hmt hkt rfl rfl (.there .here) h2.isKey hno) rfl ?_
      (repeat' first|refine kW ?_|refine kU fun bk=>?_|refine kV fun hc=>?_|refine kZ (fun hc=>?_) fun hc=>?_|fail)
      refine WC_holds' (L' := [] :: [(p0, cl [.slice ba base.length bc, .map (some b)] 58)] :: [(b, .map es c)] :: Cs.flatten :: [(g0, cl [.slice none 0 0, .map none] 58)] :: L) (fun w h => Holds.nil.2 h) ?_
      refine WC_draw ([(p0, cl [.slice ba base.length bc, .map (some b)] 58)] :: [(b, .map es c)] :: Cs.flatten :: [(g0, cl [.slice none 0 0, .map none] 58)] :: L) [10] mixed ?_
      (refine WR_t 0 ?_; refine WR_t 1 ?_; refine WR_t 2 ?_; refine WR_t 3 ?_; refine WR_t 4 ?_; refine WR_t 5 ?_)
      (refine WR_take 6 rfl rfl (by kernel_rfl) iP iC (EV_lookI_no hmt hkt rfl rfl (.there .here) h2.isKey hno) (by rfl) ?_)
      (refine WR_t 7 ?_)
      (refine WR_one 8 (by kernel_rfl) rfl rfl ?_)
      refine OW_buildSlice (cs := [.int .i64 ((8 * j : Nat) : Int)]) rfl (by rfl) (by first | (simp [fillL, patch, Value.cells, zeros]; done) | (simp [fillL, patch, Value.cells, zeros]; rfl)) (by omega) rfl rfl (fun bn => ?_)
      refine ⟨iC, ?_⟩
      (refine WR_one 9 (by kernel_rfl) rfl rfl ?_)
      refine OW_append (C := []) (xs := []) (ys := inl [8 * j]) (m := 0) (c := 1) rfl rfl (.inl ⟨rfl, rfl, rfl, rfl⟩) (sl_cells (k := 1) (c := #[.int .i64 ((8 * j : Nat) : Int)]) (xs := inl [8 * j]) (m := 1) Fnd.here rfl (by simp [inl])) (by repeat (first | exact Zip.here _ | apply Zip.there)) rfl (by rfl) (by omega) (by simp [maxLen]) rfl (fun v' C' ho' _ _ => ?_)
      refine ⟨iC, ?_⟩
      (refine WR_last 10 (by kernel_rfl) rfl rfl rfl ?_)
      refine OW_mapUpI hmt hkt rfl rfl rfl h2.isKey (by repeat (first | exact Zip.here _ | apply Zip.there)) (fun _ => ?_) (fun j' e' he' hk' => absurd hk' (hno e' (List.mem_of_getElem? (by rw [Array.getElem?_toList]; exact he'))))
      (refine WR_done (by kernel_rfl) ?_)
      (repeat' first|refine kW ?_|refine kU fun bk=>?_|refine kV fun hc=>?_|refine kZ (fun hc=>?_) fun hc=>?_|fail)
      rw [show ((8 * j : Nat) : Int) + 8 = ((8 * (j + 1) : Nat) : Int) from by omega]
      refine WQ_round (X := Nat × Array MapEntry × Nat × List (Nat × List Nat) × List Chunk) (μ := fun x => base.length - 8 * x.1) (x := (j, es, c, G, Cs)) (j + 1, es.push { key := .int .u64 (k : Int), val := v', born := c }, c + 1, G ++ [(k, [8 * j])], Cs ++ [C']) (by simp only; omega) ⟨by simp only; omega, h2.push hnG ho', by simp only; rw [hk]; exact h3.push h8⟩ iS (fun w h => ?_)
      have h9 : Holds w ([(p0, cl [.slice ba base.length bc, .map (some b)] 58)] :: [(b, .map (es.push { key := .int .u64 (k : Int), val := v', born := c }) (c + 1))] :: Cs.flatten :: C' :: [(g0, cl [.slice none 0 0, .map none] 58)] :: L) := iH h
      exact h9.permF (List.Perm.of_eq (by simp))
    · obtain ⟨va, vc, hv⟩ := ow_slc hoe
      rw [hv] at hoe
      (repeat' first|refine kW ?_|refine kU fun bk=>?_|refine kV fun hc=>?_|refine kZ (fun hc=>?_) fun hc=>?_|fail)
      refine OW_EV (EV_lookI_yes hmt hkt rfl rfl (.there .here) h2 hei hek) rfl ?_
      rw [hv]
      (repeat' first|refine kW ?_|refine kU fun bk=>?_|refine kV fun hc=>?_|refine kZ (fun hc=>?_) fun hc=>?_|fail)
      · refine WC_holds' (L' := [(p0, cl [.slice ba base.length bc, .map (some b)] 58)] :: [(b, .map es c)] :: C :: (Cs.eraseIdx i).flatten :: [(g0, cl [.slice none 0 0, .map none] 58)] :: L) (fun w h => (Holds.pull (A := [[(p0, cl [.slice ba base.length bc, .map (some b)] 58)], [(b, .map es c)]]) hCi).1 h) ?_
        refine WC_draw ([(p0, cl [.slice ba base.length bc, .map (some b)] 58)] :: [(b, .map es c)] :: (Cs.eraseIdx i).flatten :: [(g0, cl [.slice none 0 0, .map none] 58)] :: L) [10] mixed ?_
        (refine WR_t 0 ?_; refine WR_t 1 ?_; refine WR_t 2 ?_; refine WR_t 3 ?_; refine WR_t 4 ?_; refine WR_t 5 ?_)
        (refine WR_take 6 rfl rfl (by kernel_rfl) iP iC (EV_lookI_yes hmt hkt rfl rfl (.there .here) h2 hei hek) (by rfl) ?_)
        rw [hv]
        (refine WR_t 7 ?_)
        (refine WR_one 8 (by kernel_rfl) rfl rfl ?_)
        refine OW_buildSlice (cs := [.int .i64 ((8 * j : Nat) : Int)]) rfl (by rfl) (by first | (simp [fillL, patch, Value.cells, zeros]; done) | (simp [fillL, patch, Value.cells, zeros]; rfl)) (by omega) rfl rfl (fun bn => ?_)
        refine ⟨iC, ?_⟩
        (refine WR_one 9 (by kernel_rfl) rfl rfl ?_)
        refine OW_append (ys := inl [8 * j]) (c := 1) rfl rfl hoe (sl_cells (k := 1) (c := #[.int .i64 ((8 * j : Nat) : Int)]) (xs := inl [8 * j]) (m := 1) Fnd.here rfl (by simp [inl])) (by repeat (first | exact Zip.here _ | apply Zip.there)) rfl (by rfl) (by omega) (by simp [maxLen]; omega) rfl (fun v' C' ho' _ _ => ?_)
        refine ⟨iC, ?_⟩
        have ho2 : Ow 3 1 v' (l ++ [8 * j]).length (inl (l ++ [8 * j])) C' := by rw [inl_app, List.length_append]; exact ho'
        (refine WR_last 10 (by kernel_rfl) rfl rfl rfl ?_)
        refine OW_mapUpI hmt hkt rfl rfl rfl h2.isKey (by repeat (first | exact Zip.here _ | apply Zip.there)) (fun hno => absurd hek (hno e (List.mem_of_getElem? (by rw [Array.getElem?_toList]; exact hei)))) (fun j' e' he' hk' => ?_)
        obtain rfl := h2.uniq hei he' (by rw [hek, hk'])
        (refine WR_done (by kernel_rfl) ?_)
        (repeat' first|refine kW ?_|refine kU fun bk=>?_|refine kV fun hc=>?_|refine kZ (fun hc=>?_) fun hc=>?_|fail)
        rw [show ((8 * j : Nat) : Int) + 8 = ((8 * (j + 1) : Nat) : Int) from by omega]
        refine WQ_round (X := Nat × Array MapEntry × Nat × List (Nat × List Nat) × List Chunk) (μ := fun x => base.length - 8 * x.1) (x := (j, es, c, G, Cs)) (j + 1, es.modify i (fun e => { e with key := .int .u64 (k : Int), val := v' }), c, G.set i (k, l ++ [8 * j]), Cs.set i C') (by simp only; omega) ⟨by simp only; omega, h2.mod hi ho2, by simp only; rw [hk] at hi ⊢; exact h3.mod hi h8⟩ iS (fun w h => ?_)
        have h9 : Holds w ([(p0, cl [.slice ba base.length bc, .map (some b)] 58)] :: [(b, .map (es.modify i (fun e => { e with key := .int .u64 (k : Int), val := v' })) c)] :: C' :: (Cs.eraseIdx i).flatten :: [(g0, cl [.slice none 0 0, .map none] 58)] :: L) := iH h
        have hCi2 : (Cs.set i C')[i]? = some C' := List.getElem?_set_self (List.getElem?_eq_some_iff.1 hCi).1
        have h10 := (Holds.pull (w := w) (A := [[(p0, cl [.slice ba base.length bc, .map (some b)] 58)], [(b, .map (es.modify i (fun e => { e with key := .int .u64 (k : Int), val := v' })) c)]]) (B := [(g0, cl [.slice none 0 0, .map none] 58)] :: L) hCi2).2
        rw [set_erase] at h10
        exact h10 h9
      · rw [show ((8 * j : Nat) : Int) + 8 = ((8 * (j + 1) : Nat) : Int) from by omega]
        refine WQ_round (X := Nat × Array MapEntry × Nat × List (Nat × List Nat) × List Chunk) (μ := fun x => base.length - 8 * x.1) (x := (j, es, c, G, Cs)) (j + 1, es, c, G, Cs) (by simp only; omega) ⟨by simp only; omega, h2, h3⟩ iS (fun w h => h)
  · first
      | (refine WQ_retC (vs := [.agg #[.slice ba base.length bc, .map (some b)]]) rfl (.agg ⟨by kernel_rfl, by kernel_rfl⟩ rfl (RdAt.cl' (vs := [.slice ba base.length bc, .map (some b)]) (by repeat (first | assumption | exact Fnd.here | refine Fnd.there ?_)) rfl) rfl .nil) ?_
         exact ⟨[(b, .map es c)] :: Cs.flatten :: L, fun w h => iH h, b, es, c, G, Cs, rfl, h2, h3, rfl⟩)
      | (refine WQ_endC (vs := [.agg #[.slice ba base.length bc, .map (some b)]]) rfl (.agg ⟨by kernel_rfl, by kernel_rfl⟩ rfl (RdAt.cl' (vs := [.slice ba base.length bc, .map (some b)]) (by repeat (first | assumption | exact Fnd.here | refine Fnd.there ?_)) rfl) rfl .nil) ?_
         exact ⟨[(b, .map es c)] :: Cs.flatten :: L, fun w h => iH h, b, es, c, G, Cs, rfl, h2, h3, rfl⟩)
end Go.Proofs.Ytckelgpocplplaa
