/- Contracts and facts on the way to the top. It proves no statement by itself. No conditions. -/
import Derived.Test.YtdcehmhelfohfaaDoorPF1
namespace Go.Hf
set_option linter.all false
def smb (l : List Nat) (i n : Nat) : List Nat := (List.range i).filter fun j => l.getD j 0 == n && decide (0 < n)
theorem smb_succ (l : List Nat) (i n : Nat) : smb l (i + 1) n = smb l i n ++ (if l.getD i 0 = n ∧ 0 < n then [i] else []) := by
  unfold smb
  rw [List.range_succ, List.filter_append]
  congr 1
  by_cases h : l.getD i 0 = n ∧ 0 < n
  · rw [if_pos h, List.filter_cons, if_pos (by simp only [Bool.and_eq_true, beq_iff_eq, decide_eq_true_eq]; exact h)]; rfl
  · rw [if_neg h, List.filter_cons, if_neg (by simp only [Bool.and_eq_true, beq_iff_eq, decide_eq_true_eq]; exact h)]; rfl
theorem smb_le (l : List Nat) (i n : Nat) : (smb l i n).length ≤ i := by
  have := List.length_filter_le (fun j => l.getD j 0 == n && decide (0 < n)) (List.range i)
  rw [List.length_range] at this
  exact this
theorem smb_length {l : List Nat} {n : Nat} (h0 : 0 < n) : ∀ {i : Nat}, i ≤ l.length → (smb l i n).length = cn (l.take i) n
  | 0, _ => by simp [smb, cn]
  | i + 1, hi => by
    rw [smb_succ, List.length_append, smb_length h0 (by omega), cn_take_succ (by omega)]
    congr 1
    by_cases h : l.getD i 0 = n
    · rw [if_pos ⟨h, h0⟩, if_pos h]; rfl
    · rw [if_neg (fun hh => h hh.1), if_neg h]; rfl
theorem smb_app (l : List Nat) (n i : Nat) : ∀ k, ∃ r, smb l (i + k) n = smb l i n ++ r
  | 0 => ⟨[], by simp⟩
  | k + 1 => by
    obtain ⟨r, hr⟩ := smb_app l n i k
    rw [show i + (k + 1) = (i + k) + 1 from rfl, smb_succ, hr, List.append_assoc]
    exact ⟨_, rfl⟩
theorem smb_get {l : List Nat} {n i : Nat} (hi : l[i]? = some n) (h0 : 0 < n) : (smb l l.length n)[cn (l.take i) n]? = some i := by
  have hlt : i < l.length := (List.getElem?_eq_some_iff.1 hi).1
  have hg : l.getD i 0 = n := by simp [List.getD, hi]
  obtain ⟨r, hr⟩ := smb_app l n (i + 1) (l.length - (i + 1))
  rw [show i + 1 + (l.length - (i + 1)) = l.length from by omega] at hr
  rw [hr, smb_succ, if_pos ⟨hg, h0⟩, ← smb_length h0 (Nat.le_of_lt hlt)]
  simp
end Go.Hf
namespace Go.Proofs.YtdcehmhelfohfaaDoor
open Go Go.Vx Go.Hf
variable [W0]
set_option maxRecDepth 4000
set_option linter.all false
omit [W0] in
/-- The lists of symbols, one a length. -/
structure SyR (l : List Nat) (i : Nat) (vs : List Value) (Cs : List Chunk) : Prop where
  lv : vs.length = 16
  lc : Cs.length = 16
  at_ : ∀ n, n < 16 → ∃ v C, vs[n]? = some v ∧ Cs[n]? = some C ∧ Ow 3 1 v (smb l i n).length (ivn (smb l i n)) C
theorem flat_set {α : Type} : ∀ {Cs : List (List α)} {n : Nat} {C : List α}, Cs[n]? = some C → ∃ D1 D2, Cs.flatten = D1 ++ (C ++ D2) ∧ ∀ C', (Cs.set n C').flatten = D1 ++ (C' ++ D2)
  | [], n, C, h => by simp at h
  | D :: r, 0, C, h => by
    simp at h
    subst h
    exact ⟨[], r.flatten, by simp, fun C' => by simp⟩
  | D :: r, n + 1, C, h => by
    simp at h
    obtain ⟨D1, D2, h1, h2⟩ := flat_set h
    exact ⟨D ++ D1, D2, by simp [h1], fun C' => by simp [h2]⟩
theorem SyR.new (l : List Nat) : SyR l 0 (List.replicate 16 (.slice none 0 0)) (List.replicate 16 []) := by
  refine ⟨by simp, by simp, fun n hn => ⟨_, _, ?_, ?_, .inl ⟨rfl, rfl, rfl, rfl⟩⟩⟩
  · rw [List.getElem?_replicate, if_pos hn]
  · rw [List.getElem?_replicate, if_pos hn]
theorem SyR.step {l : List Nat} {i : Nat} {vs : List Value} {Cs : List Chunk} (h : SyR l i vs Cs) {v' : Value} {C' : Chunk} (h0 : 0 < l.getD i 0) (h15 : l.getD i 0 < 16)
    (ho : Ow 3 1 v' ((smb l i (l.getD i 0)).length + 1) (ivn (smb l i (l.getD i 0)) ++ ivn [i]) C') : SyR l (i + 1) (vs.set (l.getD i 0) v') (Cs.set (l.getD i 0) C') := by
  refine ⟨by rw [List.length_set]; exact h.lv, by rw [List.length_set]; exact h.lc, fun n hn => ?_⟩
  by_cases he : l.getD i 0 = n
  · subst he
    refine ⟨v', C', List.getElem?_set_self (by rw [h.lv]; exact hn), List.getElem?_set_self (by rw [h.lc]; exact hn), ?_⟩
    rw [smb_succ, if_pos ⟨rfl, h0⟩, List.length_append]
    have e : ivn (smb l i (l.getD i 0) ++ [i]) = ivn (smb l i (l.getD i 0)) ++ ivn [i] := by simp [ivn]
    rw [e]
    exact ho
  · obtain ⟨v, C, h1, h2, h3⟩ := h.at_ n hn
    refine ⟨v, C, by rw [List.getElem?_set_ne he]; exact h1, by rw [List.getElem?_set_ne he]; exact h2, ?_⟩
    rw [smb_succ, if_neg (fun hh => he hh.1), List.append_nil]
    exact h3
theorem SyR.put {l : List Nat} {vs : List Value} {Cs : List Chunk} (h : SyR l 0 vs Cs) (x : Nat) {v' : Value} {C' : Chunk} (ho : Ow 3 1 v' 0 [] C') : SyR l 0 (vs.set x v') (Cs.set x C') := by
  refine ⟨by rw [List.length_set]; exact h.lv, by rw [List.length_set]; exact h.lc, fun n hn => ?_⟩
  by_cases he : x = n
  · subst he
    exact ⟨v', C', List.getElem?_set_self (by rw [h.lv]; exact hn), List.getElem?_set_self (by rw [h.lc]; exact hn), ho⟩
  · obtain ⟨v, C, h1, h2, h3⟩ := h.at_ n hn
    exact ⟨v, C, by rw [List.getElem?_set_ne he]; exact h1, by rw [List.getElem?_set_ne he]; exact h2, h3⟩
theorem SyR.skip {l : List Nat} {i : Nat} {vs : List Value} {Cs : List Chunk} (h : SyR l i vs Cs) (h0 : l.getD i 0 = 0) : SyR l (i + 1) vs Cs := by
  refine ⟨h.lv, h.lc, fun n hn => ?_⟩
  obtain ⟨v, C, h1, h2, h3⟩ := h.at_ n hn
  refine ⟨v, C, h1, h2, ?_⟩
  rw [smb_succ, if_neg (fun hh => by omega), List.append_nil]
  exact h3
omit [W0] in
/-- The cells of a code. -/
def coC (l : List Nat) (vs : List Value) : List Value := wnv (fsl l 16) ++ (vs ++ [.int .i64 (kS l : Int)])
omit [W0] in
/-- A code lies at p. -/
def CoD (l : List Nat) (p : Nat) (C : Chunk) : Prop := ∃ vs Cs, C = [(p, cl (coC l vs) 120)] ++ Cs.flatten ∧ SyR l l.length vs Cs
theorem co_build (Fv : List Value) (h : Fv.length = 16) (k : Int) : fillL [(0, 16), (16, 16), (32, 1)] (wnv zI ++ (List.replicate 16 (.slice none 0 0) ++ [.int .i64 0])) [(0, .agg Fv.toArray), (2, .int .i64 k)] = some (Fv ++ (List.replicate 16 (.slice none 0 0) ++ [.int .i64 k])) := by
  have e : (wnv zI).length = 16 := by decide
  have p1 : patch (wnv zI ++ (List.replicate 16 (Value.slice none 0 0) ++ [.int .i64 0])) 0 Fv = Fv ++ (List.replicate 16 (.slice none 0 0) ++ [.int .i64 0]) := by
    unfold patch
    rw [Nat.zero_add, h, ← e, List.drop_left]
    simp
  have p2 : patch (Fv ++ (List.replicate 16 (Value.slice none 0 0) ++ [.int .i64 0])) 32 [.int .i64 k] = Fv ++ (List.replicate 16 (.slice none 0 0) ++ [.int .i64 k]) := by
    unfold patch
    rw [List.take_append, List.drop_append, h]
    rw [List.take_of_length_le (by omega), List.drop_of_length_le (by simp; omega)]
    simp
  have c1 : (Value.agg Fv.toArray).cells.toList = Fv := rfl
  have c2 : (Value.int .i64 k).cells.toList = [.int .i64 k] := rfl
  unfold fillL
  simp only [List.getElem?_cons_zero]
  rw [if_pos (by refine ⟨by rw [← Array.length_toList, c1, h], by simp [e]⟩), c1, p1]
  unfold fillL
  simp only [List.getElem?_cons_succ, List.getElem?_cons_zero]
  rw [if_pos (by refine ⟨rfl, by simp [h]⟩), c2, p2]
  rfl
theorem co_nth {Fv vs : List Value} {s v : Value} {x : Nat} (h : Fv.length = 16) (hv : vs[x]? = some v) : nth (Fv ++ (vs ++ [s])) (16 + x * 1) = some v := by
  have hlt := (List.getElem?_eq_some_iff.1 hv).1
  rw [nth_eq, Nat.mul_one, List.getElem?_append_right (by omega), h, show 16 + x - 16 = x from by omega, List.getElem?_append_left hlt]
  exact hv
theorem co_set {Fv vs : List Value} {s v : Value} {x : Nat} (h : Fv.length = 16) (hv : x < vs.length) : (Fv ++ (vs ++ [s])).set (16 + x * 1) v = Fv ++ (vs.set x v ++ [s]) := by
  rw [Nat.mul_one, List.set_append_right _ _ (by omega), h, show 16 + x - 16 = x from by omega, List.set_append_left _ _ hv]
set_option maxHeartbeats 4000000 in
theorem hnew_n (a : Option Addr) (c : Nat) (ls : List Int) (L : List Chunk) (h : Sl L 1 (.slice a ls.length c) ls.length (intsN ls)) (hl : ls.length ≤ 17592186044416) :
    Gv Tryd.prog 75 [.slice a ls.length c].toArray L (fun r L' => (cdE ls ≠ 0 ∧ r = .tuple #[.pointer none, .int .i64 (cdE ls : Int)] ∧ L' = L) ∨
      (cdE ls = 0 ∧ ∃ p C, r = .tuple #[.pointer (some ⟨p, 0, none⟩), .int .i64 0] ∧ L' = C :: L ∧ CoD (nl ls) p C)) := by
  refine Gv.of_body Tryd.func75 rfl rfl ?_
  have hno : cdE ls ≠ 0 → ∀ (M : List (Nat × Value)) (D : Chunk), lk M 2 = some (.pointer none) → lk M 3 = some (.int .i64 (cdE ls : Int)) →
      WQ Tryd.f75.ntmps (bodyPost Tryd.prog Tryd.f75 (fun e w' => ∃ v L', e = .returned v ∧ ((cdE ls ≠ 0 ∧ v = .tuple #[.pointer none, .int .i64 (cdE ls : Int)] ∧ L' = L) ∨
      (cdE ls = 0 ∧ ∃ p C, v = .tuple #[.pointer (some ⟨p, 0, none⟩), .int .i64 0] ∧ L' = C :: L ∧ CoD (nl ls) p C)) ∧ Holds w' L') .ret) M (D :: L) := by
    intro he M D h2 h3
    refine WQ_retH (rs := [.tmp 2, .tmp 3]) (vs := [.pointer none, .int .i64 (cdE ls : Int)]) rfl (by simp [resT, h2, h3]) ?_
    exact ⟨L, fun w hw => hw.drop, .inl ⟨he, rfl, rfl⟩⟩
  have ht := fun L' h' => checked_n a c ls L' h' hl
  have hf := fun L' (h0 : cdE ls = 0) => firsts_n (nl ls) L' (cdE_inv h0).2.2 (by rw [nl_length]; exact (cdE_inv h0).1)
  have hs := fun L' (h0 : cdE ls = 0) => share_n (nl ls) L' (by rw [nl_length]; exact hl) (fun x hx => okL_nl (cdE_inv h0).2.1 hx)
  have hte : cdE ls = 0 → ivn (tal (nl ls)) = ivn (talC ls) := fun h0 => by unfold talC; rw [if_pos h0]
  have htl : (ivn (talC ls)).length = 16 := by rw [ivn_length, talC_length]
  have hto : ones (ivn (talC ls)) = true := ivn_ones
  have htg : cdE ls = 0 → ∀ i, i < 16 → ∃ n : Nat, (ivn (talC ls))[i]? = some (.int .i64 (n : Int)) ∧ n ≤ ls.length := fun h0 i hi => by
    rw [← hte h0]
    refine ⟨_, ivn_get (tal_get _ hi), ?_⟩
    split
    · omega
    · unfold cn
      exact Nat.le_trans (List.length_filter_le _ _) (by rw [nl_length]; omega)
  generalize ivn (tal (nl ls)) = sv at hf hte hs
  generalize ivn (talC ls) = tv at ht hte htl hto htg
  (repeat' first|refine kX ?_|refine kU fun bk=>?_|refine kV fun hc=>?_|refine kZ (fun hc=>?_) fun hc=>?_|fail)
  refine OW_callP rfl rfl rfl (ht _ h) rfl ?_
  (repeat' first|refine kX ?_|refine kU fun bk=>?_|refine kV fun hc=>?_|refine kZ (fun hc=>?_) fun hc=>?_|fail)
  obtain ⟨b4, hb4⟩ : ∃ b4, b4 = bk := ⟨_, rfl⟩
  rw [← hb4]
  refine OW_holds (L' := [(b4, cl (ivn zI) 125)] :: L) (fun w h => h) ?_
  clear hb4
  refine OW_storeAggTo (l := ivn zI) (vs := tv) tv rfl rfl htl hto ?_ iU (by rw [htl]; decide) ?_
  · have e : (ivn zI).length = 16 := by decide
    simp [patch, htl, e]
  (repeat' first|refine kX ?_|refine kU fun bk=>?_|refine kV fun hc=>?_|refine kZ (fun hc=>?_) fun hc=>?_|fail)
  · exact hno (by omega) _ _ rfl rfl
  have h0 : cdE ls = 0 := by omega
  obtain ⟨h400, hok, hk⟩ := cdE_inv h0
  have hf := hf ([(b4, cl tv 125)] :: L) h0
  have hs := hs ([(b4, cl tv 125)] :: L) h0
  rw [hte h0] at hf hs
  obtain ⟨l, hll⟩ : ∃ l, l = nl ls := ⟨_, rfl⟩
  have hlen : l.length = ls.length := by rw [hll, nl_length]
  rw [← hll] at hk hf hs
  have h15 : ∀ x ∈ l, x ≤ 15 := fun x hx => okL_nl hok (by rw [← hll]; exact hx)
  have hco : ∀ vs, coC l vs = wnv (fsl l 16) ++ (vs ++ [.int .i64 (kS l : Int)]) := fun vs => rfl
  have hFl : (wnv (fsl l 16)).length = 16 := by rw [wnv_length, fsl_length]
  have hFo : ones (wnv (fsl l 16)) = true := wnv_ones
  generalize hFv : wnv (fsl l 16) = Fv at hf hco hFl hFo
  refine WC_drawAll [] mixed ?_
  refine WR_w 0 ?_ (he := EV_loadAll (vs := tv) rfl Fnd.here htl)
  refine WR_w 2 ?_ (he := EV_loadAll (vs := tv) rfl Fnd.here htl)
  (refine WR_one 1 (by kernel_rfl) rfl rfl ?_)
  refine OW_callP rfl rfl rfl hf rfl ?_
  refine ⟨iC, ?_⟩
  (refine WR_one 3 (by kernel_rfl) rfl rfl ?_)
  refine OW_callP rfl rfl rfl hs rfl ?_
  refine ⟨iC, ?_⟩
  (refine WR_take 4 rfl rfl (by kernel_rfl) iP iC (EV_build rfl (co_build Fv hFl (kS l : Int))) (by rfl) ?_)
  (refine WR_one 5 (by kernel_rfl) rfl rfl ?_)
  refine OW_box rfl rfl (fun p => ?_)
  refine ⟨iC, ?_⟩
  (refine WR_w 6 ?_)
  (refine WR_done (by kernel_rfl) ?_)
  (repeat' first|refine kX ?_|refine kU fun bk=>?_|refine kV fun hc=>?_|refine kZ (fun hc=>?_) fun hc=>?_|fail)
  have hls : (nl ls).length = ls.length := nl_length ls
  refine OW_W ?_ (he := EV_loadAll (vs := tv) rfl (by repeat (first | exact Fnd.here | refine Fnd.there ?_)) htl)
  (repeat' first|refine kX ?_|refine kU fun bk=>?_|refine kV fun hc=>?_|refine kZ (fun hc=>?_) fun hc=>?_|fail)
  refine WC_loop (X := Nat × List Value × List Chunk) (fun x => [(6, .pointer (some ⟨p, 0, none⟩)), (0, .slice a ls.length c), (25, .agg tv.toArray), (26, .int .i64 (x.1 : Int))])
    (fun x => [(p, cl (Fv ++ (x.2.1 ++ [.int .i64 (kS l : Int)])) 120)] :: x.2.2.flatten :: [(b4, cl tv 125)] :: L) (fun x => x.1 ≤ 16 ∧ SyR l 0 x.2.1 x.2.2) (fun x => 16 - x.1)
    (0, List.replicate 16 (.slice none 0 0), List.replicate 16 []) ⟨Nat.zero_le _, SyR.new l⟩ iS (fun w h => ?_) ?_
  · show Holds w (_ :: (List.replicate 16 ([] : Chunk)).flatten :: _)
    rw [show (List.replicate 16 ([] : Chunk)).flatten = [] from by decide]
    exact (iC : Inc _ _).holds (Holds.gap.2 h)
  intro x ⟨hx1, hx2⟩
  obtain ⟨i, vs, Cs⟩ := x
  simp only at hx1 hx2 ⊢
  (repeat' first|refine kX ?_|refine kU fun bk=>?_|refine kV fun hc=>?_|refine kZ (fun hc=>?_) fun hc=>?_|fail)
  · have hlt : i < 16 := by omega
    obtain ⟨n, hn, hnl⟩ := htg h0 i hlt
    refine OW_W ?_ (he := EV_indexAgg rfl rfl rfl hn hlt)
    (repeat' first|refine kX ?_|refine kU fun bk=>?_|refine kV fun hc=>?_|refine kZ (fun hc=>?_) fun hc=>?_|fail)
    obtain ⟨v, C, hv, hC, ho⟩ := hx2.at_ i hlt
    obtain ⟨D1, D2, hfl, hfl2⟩ := flat_set hC
    have hvl := hx2.lv
    refine WC_holds' (L' := [(p, cl (Fv ++ (vs ++ [.int .i64 (kS l : Int)])) 120)] :: D1 :: D2 :: [(b4, cl tv 125)] :: L) (fun w h => ?_) ?_
    · rw [hfl] at h
      have h2 : Holds w ([(p, cl (Fv ++ (vs ++ [.int .i64 (kS l : Int)])) 120)] :: D1 :: C :: D2 :: [(b4, cl tv 125)] :: L) := by simpa [Holds, List.append_assoc] using h
      exact iH h2
    refine WC_draw [[(p, cl (Fv ++ (vs ++ [.int .i64 (kS l : Int)])) 120)]] [7] mixed ?_
    (refine WR_w 0 ?_; refine WR_w 1 ?_; refine WR_w 2 ?_; refine WR_w 4 ?_; refine WR_w 5 ?_)
    (refine WR_one 3 (by kernel_rfl) rfl rfl ?_)
    refine OW_makeSlice (k := 1) (m := 0) (c := n) rfl rfl rfl (Nat.zero_le _) (by omega) (by omega) rfl (fun b => ?_)
    refine ⟨iC, ?_⟩
    (refine WR_w 6 ?_)
    (refine WR_last 7 (by kernel_rfl) rfl rfl rfl ?_)
    have ho' : Ow 3 1 (.slice (some ⟨b, 0, none⟩) 0 n) 0 [] [(b, cl (zeros [.int .i64 0] n) 3)] := .inr ⟨b, n, _, rfl, rfl, rfl, by simp [zeros_length], Nat.zero_le _, by unfold maxLen; omega⟩
    refine OW_storeTo (Fv ++ (vs.set i (.slice (some ⟨b, 0, none⟩) 0 n) ++ [.int .i64 (kS l : Int)])) rfl rfl rfl (co_set hFl (by omega)) iU (by rw [List.length_append, List.length_append, hFl, hvl]; simp; omega) ?_
    (refine WR_done (by kernel_rfl) ?_)
    (repeat' first|refine kX ?_|refine kU fun bk=>?_|refine kV fun hc=>?_|refine kZ (fun hc=>?_) fun hc=>?_|fail)
    refine WQ_round (X := Nat × List Value × List Chunk) (μ := fun x => 16 - x.1) (x := (i, vs, Cs)) (i + 1, _, _) (by simp only; omega) ⟨by simp only; omega, hx2.put i ho'⟩ iS (fun w h => ?_)
    have h2 := (iC : Inc ([(p, cl (Fv ++ (vs.set i (.slice (some ⟨b, 0, none⟩) 0 n) ++ [.int .i64 (kS l : Int)])) 120)] :: D1 :: [(b, cl (zeros [.int .i64 0] n) 3)] :: D2 :: [(b4, cl tv 125)] :: L) _).holds h
    simp only [hfl2]
    simpa [Holds, List.append_assoc] using h2
  refine WC_loop (X := Nat × List Value × List Chunk) (fun x => [(6, .pointer (some ⟨p, 0, none⟩)), (38, .slice a ls.length c), (39, .int .i64 (ls.length : Int)), (40, .int .i64 (x.1 : Int))])
    (fun x => [(p, cl (Fv ++ (x.2.1 ++ [.int .i64 (kS l : Int)])) 120)] :: x.2.2.flatten :: [(b4, cl tv 125)] :: L) (fun x => x.1 ≤ ls.length ∧ SyR l x.1 x.2.1 x.2.2) (fun x => ls.length - x.1)
    (0, vs, Cs) ⟨Nat.zero_le _, hx2⟩ iS (fun w h => h) ?_
  clear hx1 hx2
  intro x ⟨hx1, hx2⟩
  obtain ⟨i, vs, Cs⟩ := x
  simp only at hx1 hx2 ⊢
  (repeat' first|refine kX ?_|refine kU fun bk=>?_|refine kV fun hc=>?_|refine kZ (fun hc=>?_) fun hc=>?_|fail)
  · have hlt : i < ls.length := by omega
    obtain ⟨b, off, cap, cc, T, fr, hve, hfn, hcell⟩ := sl_at h (ints_get hlt)
    injection hve with q1 q2 q3
    subst q1 q3
    clear q2
    have hat := okL_at hok i
    rw [← hll] at hat
    rw [← hat.2.2] at hcell
    have hstep := @SyR.step _ l i vs Cs hx2
    have hskip := hx2.skip
    obtain ⟨x, hx⟩ : ∃ x, x = l.getD i 0 := ⟨_, rfl⟩
    have hx15 : x ≤ 15 := by omega
    rw [← hx] at hcell hstep hskip
    refine OW_W ?_ (he := EV_indexAddr (j := i) rfl rfl rfl hlt)
    (repeat' first|refine kX ?_|refine kU fun bk=>?_|refine kV fun hc=>?_|refine kZ (fun hc=>?_) fun hc=>?_|fail)
    refine OW_W ?_ (he := EV_load rfl hfn.there.there.there hcell)
    (repeat' first|refine kX ?_|refine kU fun bk=>?_|refine kV fun hc=>?_|refine kZ (fun hc=>?_) fun hc=>?_|fail)
    · have hx0 : 0 < x := by omega
      obtain ⟨v, C, hv, hC, ho⟩ := hx2.at_ x (by omega)
      obtain ⟨D1, D2, hfl, hfl2⟩ := flat_set hC
      have hsl := smb_le l i x
      refine WC_holds' (L' := [(p, cl (Fv ++ (vs ++ [.int .i64 (kS l : Int)])) 120)] :: D1 :: C :: D2 :: [(b4, cl tv 125)] :: L) (fun w h => ?_) ?_
      · rw [hfl] at h
        simpa [Holds, List.append_assoc] using h
      refine WC_draw [[(p, cl (Fv ++ (vs ++ [.int .i64 (kS l : Int)])) 120)]] [14] mixed ?_
      (refine WR_w 0 ?_; refine WR_w 1 ?_; refine WR_w 2 ?_; refine WR_w 3 ?_; refine WR_w 4 ?_; refine WR_w 5 ?_; refine WR_w 6 ?_)
      refine WR_w 7 ?_ (he := EV_loadc rfl (by repeat (first | exact Fnd.here | refine Fnd.there ?_)) (co_nth hFl hv))
      (refine WR_w 8 ?_; refine WR_w 11 ?_; refine WR_w 12 ?_)
      (refine WR_one 9 (by kernel_rfl) rfl rfl ?_)
      refine OW_buildSlice (cs := ivn [i]) rfl (by rfl) (by simp [fillL, patch, Value.cells, zeros]; rfl) (by omega) rfl rfl (fun bs => ?_)
      refine ⟨iC, ?_⟩
      (refine WR_one 10 (by kernel_rfl) rfl rfl ?_)
      refine OW_append rfl rfl ho (sl_cells (c := (ivn [i]).toArray) (xs := ivn [i]) (m := 1) Fnd.here rfl (by simp)) (by repeat (first | exact Zip.here _ | apply Zip.there)) rfl ivn_ones (by omega) (by simp [maxLen]; omega) rfl (fun v' C' ho' _ _ => ?_)
      refine ⟨iC, ?_⟩
      (refine WR_w 13 ?_)
      (refine WR_last 14 (by kernel_rfl) rfl rfl rfl ?_)
      refine OW_storeTo (Fv ++ (vs.set x v' ++ [.int .i64 (kS l : Int)])) rfl rfl (ow_one ho') (co_set hFl (by rw [hx2.lv]; omega)) iU (by rw [List.length_append, List.length_append, hFl, hx2.lv]; simp; omega) ?_
      (refine WR_done (by kernel_rfl) ?_)
      (repeat' first|refine kX ?_|refine kU fun bk=>?_|refine kV fun hc=>?_|refine kZ (fun hc=>?_) fun hc=>?_|fail)
      refine WQ_round (X := Nat × List Value × List Chunk) (μ := fun x => ls.length - x.1) (x := (i, vs, Cs)) (i + 1, vs.set x v', Cs.set x C') (by simp only; omega) ⟨by simp only; omega, hstep hx0 (by omega) ho'⟩ iS (fun w h => ?_)
      have h2 := (iC : Inc ([(p, cl (Fv ++ (vs.set x v' ++ [.int .i64 (kS l : Int)])) 120)] :: D1 :: C' :: D2 :: [(b4, cl tv 125)] :: L) _).holds h
      simp only [hfl2]
      simpa [Holds, List.append_assoc] using h2
    · have hx0 : x = 0 := by omega
      refine WQ_round (X := Nat × List Value × List Chunk) (μ := fun x => ls.length - x.1) (x := (i, vs, Cs)) (i + 1, vs, Cs) (by simp only; omega) ⟨by simp only; omega, hskip hx0⟩ iS (fun w h => h)
  · have hie : i = l.length := by omega
    rw [hie] at hx2
    first | refine WQ_retH rfl rfl ?_ | refine WQ_endH rfl rfl ?_
    refine ⟨(_ :: L), fun w h => ?_, .inr ⟨h0, p, _, rfl, rfl, vs, Cs, rfl, by rw [← hll]; exact hx2⟩⟩
    rw [← hll, hco]
    have h2 := (iC : Inc ([(p, cl (Fv ++ (vs ++ [.int .i64 (kS l : Int)])) 120)] :: Cs.flatten :: L) _).holds h
    exact Holds.split.2 h2
end Go.Proofs.YtdcehmhelfohfaaDoor
namespace Go.Proofs.YtdcehmhelfohfaaDoor
open Go Go.Vx
variable [W0]
set_option maxRecDepth 4000
set_option linter.all false
theorem pow_le {a b : Nat} (h : a ≤ b) : 2 ^ a ≤ 2 ^ b := Nat.pow_le_pow_right (by decide) h
theorem lowest_n (n : Nat) (L : List Chunk) (h : n ≤ 32) : GvP Tryd.prog 61 [.int .i64 (n : Int)].toArray L (.int .u64 ((2 ^ n - 1 : Nat) : Int)) := by
  refine Gv.of_body Tryd.func61 rfl rfl ?_
  have h1 := pow_le h
  have h0 : 0 < 2 ^ n := Nat.pow_pos (by decide)
  (repeat' first|refine kW ?_|refine kU fun bk=>?_|refine kV fun hc=>?_|refine kZ (fun hc=>?_) fun hc=>?_|fail)
  refine OW_EV (EV_nshl 1 n rfl rfl rfl rfl rfl (by simp [IntKind.bits]; omega)) rfl ?_
  (repeat' first|refine kW ?_|refine kU fun bk=>?_|refine kV fun hc=>?_|refine kZ (fun hc=>?_) fun hc=>?_|fail)
  refine OW_EV (EV_ari rfl rfl rfl) rfl ?_
  rw [show ((1 * 2 ^ n : Nat) : Int) - 1 = ((2 ^ n - 1 : Nat) : Int) from by omega, wrap_nat rfl (by simp [IntKind.bits]; omega)]
  (repeat' first|refine kW ?_|refine kU fun bk=>?_|refine kV fun hc=>?_|refine kZ (fun hc=>?_) fun hc=>?_|fail)
  exact kE
end Go.Proofs.YtdcehmhelfohfaaDoor
namespace Go.Proofs.YtdcehmhelfohfaaDoor
open Go Go.Vx
variable [W0]
set_option maxRecDepth 4000
set_option linter.all false
omit [W0] in
/-- What a reader of the bytes d keeps, of which the bits before t are taken and the bytes before nx are begun. -/
def rdC (v : Value) (d : List UInt8) (t nx : Nat) : List Value := [v, .int .i64 (nx : Int), .int .u64 ((val d / 2 ^ t % 2 ^ (8 * nx - t) : Nat) : Int), .int .i64 ((8 * nx - t : Nat) : Int)]
omit [W0] in
def RdD (p : Nat) (d : List UInt8) (t nx : Nat) (D E : Chunk) : Prop := ∃ v, D = [(p, cl (rdC v d t nx) 68)] ∧ Ow 5 1 v d.length (bsv d) E
omit [W0] in
/-- The same between the calls. -/
def RdN (p : Nat) (d : List UInt8) (t : Nat) (D E : Chunk) : Prop := t ≤ 8 * d.length ∧ RdD p d t ((t + 7) / 8) D E
theorem read_n (b : List UInt8) (v : Value) (L : List Chunk) (hv : Sl L 1 v b.length (bsv b)) (hl : b.length ≤ 140737488355328) :
    Gv Tryd.prog 17 [v].toArray L (fun r L' => ∃ p D E, r = .pointer (some ⟨p, 0, none⟩) ∧ RdN p b 0 D E ∧ L' = D :: E :: L) := by
  refine Gv.of_body Tryd.func17 rfl rfl ?_
  (repeat' first|refine kW ?_|refine kU fun bk=>?_|refine kV fun hc=>?_|refine kZ (fun hc=>?_) fun hc=>?_|fail)
  refine OW_holds (L' := [] :: L) (fun w h => Holds.nil.2 h) ?_
  refine OW_append rfl rfl (.inl ⟨rfl, rfl, rfl, rfl⟩) (sl_there hv) (by repeat (first | exact Zip.here _ | apply Zip.there)) (by rfl) bsv_ones (by omega) (by simp [maxLen]; omega) rfl (fun v' C' ho1 h1 h2 => ?_)
  rw [List.nil_append, Nat.zero_add] at ho1
  obtain ⟨fa, fc, rfl⟩ := ow_slc ho1
  (repeat' first|refine kW ?_|refine kU fun bk=>?_|refine kV fun hc=>?_|refine kZ (fun hc=>?_) fun hc=>?_|fail)
  refine kR ?_
  refine ⟨[(bk, cl (rdC (.slice fa b.length fc) b 0 0) 68)] :: C' :: L, ?_, bk, _, C', rfl, ⟨Nat.zero_le _, _, rfl, ho1⟩, rfl⟩
  have e : ((val b / 2 ^ 0 % 2 ^ (8 * 0 - 0) : Nat) : Int) = 0 := by simp [Nat.mod_one]
  unfold rdC
  rw [e]
  exact iC
theorem left_n (p m nx : Nat) (a : Option Addr) (c : Nat) (w wt : Value) (T : TypeId) (L : List Chunk) (hf : Fnd L p (cl [.slice a m c, .int .i64 (nx : Int), w, wt] T)) (hm : m ≤ 140737488355328) (hn : nx ≤ m) :
    GvP Tryd.prog 73 [.pointer (some ⟨p, 0, none⟩)].toArray L (.int .i64 ((m - nx : Nat) : Int)) := by
  refine Gv.of_body Tryd.func73 rfl rfl ?_
  (repeat' first|refine kW ?_|refine kU fun bk=>?_|refine kV fun hc=>?_|refine kZ (fun hc=>?_) fun hc=>?_|fail)
  refine WC_drawAll [] mixed ?_
  (refine WR_t 0 ?_; refine WR_t 1 ?_; refine WR_t 2 ?_; refine WR_t 3 ?_; refine WR_t 4 ?_; refine WR_t 5 ?_; refine WR_t 6 ?_; refine WR_t 7 ?_; refine WR_t 8 ?_; refine WR_t 9 ?_)
  rw [show (m : Int) - (nx : Int) = ((m - nx : Nat) : Int) from by omega]
  (refine WR_t 10 ?_)
  (refine WR_done (by kernel_rfl) ?_)
  (repeat' first|refine kW ?_|refine kU fun bk=>?_|refine kV fun hc=>?_|refine kZ (fun hc=>?_) fun hc=>?_|fail)
  exact kE
theorem used_n (p nx : Nat) (v w wt : Value) (T : TypeId) (L : List Chunk) (hf : Fnd L p (cl [v, .int .i64 (nx : Int), w, wt] T)) :
    GvP Tryd.prog 19 [.pointer (some ⟨p, 0, none⟩)].toArray L (.int .i64 (nx : Int)) := by
  refine Gv.of_body Tryd.func19 rfl rfl ?_
  (repeat' first|refine kW ?_|refine kU fun bk=>?_|refine kV fun hc=>?_|refine kZ (fun hc=>?_) fun hc=>?_|fail)
  exact kE
theorem bytesOf_n (n : Int) (m : Nat) (L : List Chunk) (h : n + 7 = (m : Int)) (hm : m ≤ 1000) : GvP Tryd.prog 72 [.int .i64 n].toArray L (.int .i64 ((m / 8 : Nat) : Int)) := by
  refine Gv.of_body Tryd.func72 rfl rfl ?_
  (repeat' first|refine kW ?_|refine kU fun bk=>?_|refine kV fun hc=>?_|refine kZ (fun hc=>?_) fun hc=>?_|fail)
  refine OW_EV (EV_quoN m 8 rfl rfl (by omega) rfl (by decide) (by omega)) rfl ?_
  (repeat' first|refine kW ?_|refine kU fun bk=>?_|refine kV fun hc=>?_|refine kZ (fun hc=>?_) fun hc=>?_|fail)
  exact kE
theorem ralign_n (p t : Nat) (d : List UInt8) (D E : Chunk) (L : List Chunk) (h : RdN p d t D E) :
    Gv Tryd.prog 54 [.pointer (some ⟨p, 0, none⟩)].toArray (D :: E :: L) (fun r L' => r = .tuple #[] ∧ ∃ D', RdN p d (8 * ((t + 7) / 8)) D' E ∧ L' = D' :: E :: L) := by
  obtain ⟨ht, v, rfl, ho⟩ := h
  refine Gv.of_body Tryd.func54 rfl rfl ?_
  unfold rdC
  (repeat' first|refine kW ?_|refine kU fun bk=>?_|refine kV fun hc=>?_|refine kZ (fun hc=>?_) fun hc=>?_|fail)
  refine kR ?_
  obtain ⟨q, hq⟩ : ∃ q, q = (t + 7) / 8 := ⟨_, rfl⟩
  rw [← hq]
  refine ⟨[(p, cl (rdC v d (8 * q) q) 68)] :: E :: L, ?_, rfl, _, ⟨by omega, v, by rw [show (8 * q + 7) / 8 = q from by omega], ho⟩, rfl⟩
  have e : ((val d / 2 ^ (8 * q) % 2 ^ (8 * q - 8 * q) : Nat) : Int) = 0 := by rw [Nat.sub_self]; simp [Nat.mod_one]
  unfold rdC
  rw [e, Nat.sub_self]
  exact iC
theorem rd_step {d : List UInt8} {t w i : Nat} (hw : t + w = 8 * i) (hi : i < d.length) : val d / 2 ^ t % 2 ^ w + (d.getD i 0).toNat * 2 ^ w = val d / 2 ^ t % 2 ^ (w + 8) := by
  rw [Nat.pow_add, Nat.mod_mul, Nat.div_div_eq_div_mul, ← Nat.pow_add, hw, Nat.mul_comm (2 ^ w)]
  have := val_get d i hi
  rw [show (2 : Nat) ^ 8 = 256 from rfl, this]
set_option maxHeartbeats 2000000 in
theorem collect_n (p t n : Nat) (d : List UInt8) (D E : Chunk) (L : List Chunk) (h : RdN p d t D E) (hn : n ≤ 32) (hl : d.length ≤ 140737488355328) :
    Gv Tryd.prog 60 [.pointer (some ⟨p, 0, none⟩), .int .i64 (n : Int)].toArray (D :: E :: L) (fun r L' =>
      (t + n ≤ 8 * d.length ∧ r = .bool true ∧ ∃ D', RdD p d t ((t + 7) / 8 + (n + 7 - (8 * ((t + 7) / 8) - t)) / 8) D' E ∧ L' = D' :: E :: L) ∨ (8 * d.length < t + n ∧ r = .bool false ∧ L' = D :: E :: L)) := by
  obtain ⟨ht, v, rfl, ho⟩ := h
  refine Gv.of_body Tryd.func60 rfl rfl ?_
  obtain ⟨fa, fc, rfl⟩ := ow_slc ho
  obtain ⟨nx, hnx⟩ : ∃ nx, nx = (t + 7) / 8 := ⟨_, rfl⟩
  rw [← hnx]
  obtain ⟨nd, hnd⟩ : ∃ nd, nd = (n + 7 - (8 * nx - t)) / 8 := ⟨_, rfl⟩
  rw [← hnd]
  unfold rdC
  (repeat' first|refine kW ?_|refine kU fun bk=>?_|refine kV fun hc=>?_|refine kZ (fun hc=>?_) fun hc=>?_|fail)
  refine OW_callP rfl rfl rfl (bytesOf_n _ (n + 7 - (8 * nx - t)) _ (by omega) (by omega)) rfl ?_
  rw [← hnd]
  (repeat' first|refine kW ?_|refine kU fun bk=>?_|refine kV fun hc=>?_|refine kZ (fun hc=>?_) fun hc=>?_|fail)
  refine OW_callP rfl rfl rfl (left_n p d.length nx fa fc _ _ _ _ Fnd.here hl (by omega)) rfl ?_
  (repeat' first|refine kW ?_|refine kU fun bk=>?_|refine kV fun hc=>?_|refine kZ (fun hc=>?_) fun hc=>?_|fail)
  · refine kR ?_
    exact ⟨_, iC, .inr ⟨by omega, rfl, rfl⟩⟩
  · refine WC_loop (X := Nat) (fun k => [(0, .pointer (some ⟨p, 0, none⟩)), (17, .int .i64 (nd : Int)), (18, .int .i64 (k : Int))])
      (fun k => [(p, cl (rdC (.slice fa d.length fc) d t (nx + k)) 68)] :: E :: L) (fun k => k ≤ nd) (fun k => nd - k) 0 (Nat.zero_le _) iS (fun w h => h) ?_
    intro k hk
    unfold rdC
    obtain ⟨wt, hwt⟩ : ∃ wt, wt = 8 * (nx + k) - t := ⟨_, rfl⟩
    rw [← hwt]
    (repeat' first|refine kW ?_|refine kU fun bk=>?_|refine kV fun hc=>?_|refine kZ (fun hc=>?_) fun hc=>?_|fail)
    · obtain ⟨b, cap, rest, hve, rfl, hcell⟩ := ow_byte ho (k := nx + k) (by omega)
      injection hve with e1 e2 e3
      subst e1 e3
      clear e2
      have hwl : wt < 32 := by omega
      have hp := pow_le (Nat.le_of_lt hwl)
      have hml : val d / 2 ^ t % 2 ^ wt < 2 ^ wt := Nat.mod_lt _ (Nat.pow_pos (by decide))
      have hbl := (d.getD (nx + k) 0).toNat_lt
      have hst := rd_step (d := d) (t := t) (w := wt) (i := nx + k) (by omega) (by omega)
      obtain ⟨x, hx⟩ : ∃ x, x = (d.getD (nx + k) 0).toNat := ⟨_, rfl⟩
      rw [← hx] at hcell hbl hst
      have hxm : x * 2 ^ wt ≤ 255 * 2 ^ 32 := Nat.mul_le_mul (by omega) hp
      refine WC_drawAll [23] mixed ?_
      (refine WR_t 0 ?_; refine WR_t 1 ?_; refine WR_t 2 ?_; refine WR_t 3 ?_; refine WR_t 4 ?_; refine WR_t 5 ?_; refine WR_t 6 ?_; refine WR_t 7 ?_; refine WR_t 8 ?_; refine WR_t 9 ?_; refine WR_t 10 ?_; refine WR_t 11 ?_)
      (refine WR_take 12 rfl rfl (by kernel_rfl) iP iC (EV_indexAddr0 rfl rfl rfl (by omega)) (by rfl) ?_)
      (refine WR_take 13 rfl rfl (by kernel_rfl) iP iC (EV_load rfl (Fnd.there Fnd.here) hcell) (by rfl) ?_)
      (refine WR_take 14 rfl rfl (by kernel_rfl) iP iC (EV_nconv x rfl rfl rfl (by simp only [IntKind.bits]; omega)) (by rfl) ?_)
      (refine WR_t 15 ?_; refine WR_t 16 ?_; refine WR_t 17 ?_; refine WR_t 18 ?_)
      (refine WR_take 19 rfl rfl (by kernel_rfl) iP iC (EV_nshl x wt rfl rfl rfl rfl rfl (by simp only [IntKind.bits]; omega)) (by rfl) ?_)
      (refine WR_take 20 rfl rfl (by kernel_rfl) iP iC (EV_nor (val d / 2 ^ t % 2 ^ wt) x wt rfl rfl rfl rfl rfl hml (by simp only [IntKind.bits]; omega)) (by rfl) ?_)
      rw [hst]
      (refine WR_t 21 ?_; refine WR_t 22 ?_)
      (refine WR_last 23 (by kernel_rfl) rfl rfl rfl ?_)
      refine OW_store rfl rfl rfl iU (by simp) ?_
      (refine WR_done (by kernel_rfl) ?_)
      (repeat' first|refine kW ?_|refine kU fun bk=>?_|refine kV fun hc=>?_|refine kZ (fun hc=>?_) fun hc=>?_|fail)
      refine WQ_round (X := Nat) (μ := fun k => nd - k) (x := k) (k + 1) (by omega) (by omega) iS ?_
      rw [show 8 * (nx + (k + 1)) - t = wt + 8 from by omega, show ((wt + 8 : Nat) : Int) = (wt : Int) + 8 from by omega, show ((nx + (k + 1) : Nat) : Int) = ((nx + k : Nat) : Int) + 1 from by omega]
      exact fun w h => iH h
    · have hk2 : k = nd := by omega
      subst hk2
      refine kR ?_
      rw [hwt]
      exact ⟨_, iC, .inl ⟨by omega, rfl, _, ⟨_, rfl, ho⟩, rfl⟩⟩
omit [W0] in
/-- What a taking does: whether, what, and where the reader stands. -/
def tkB (d : List UInt8) (t : Nat) (n : Int) : Bool := decide (0 ≤ n) && decide (n ≤ 32) && decide (t + n.toNat ≤ 8 * d.length)
omit [W0] in
def tkV (d : List UInt8) (t : Nat) (n : Int) : Nat := if tkB d t n then val d / 2 ^ t % 2 ^ n.toNat else 0
omit [W0] in
def tkT (d : List UInt8) (t : Nat) (n : Int) : Nat := if tkB d t n then t + n.toNat else t
theorem tkB_nat {d : List UInt8} {t n : Nat} (h : n ≤ 32) (h2 : t + n ≤ 8 * d.length) : tkB d t (n : Int) = true := by
  simp only [tkB, Bool.and_eq_true, decide_eq_true_eq]; omega
theorem tkB_no {d : List UInt8} {t : Nat} {n : Int} (h : n < 0 ∨ 32 < n ∨ 8 * d.length < t + n.toNat) : tkB d t n = false := by
  simp only [tkB, Bool.and_eq_false_iff, decide_eq_false_iff_not]; omega
theorem tk_nat {d : List UInt8} {t n : Nat} (h : n ≤ 32) (h2 : t + n ≤ 8 * d.length) : tkV d t (n : Int) = val d / 2 ^ t % 2 ^ n ∧ tkT d t (n : Int) = t + n := by
  unfold tkV tkT
  rw [tkB_nat h h2]
  exact ⟨rfl, rfl⟩
theorem tk_no {d : List UInt8} {t : Nat} {n : Int} (h : tkB d t n = false) : tkV d t n = 0 ∧ tkT d t n = t := by
  unfold tkV tkT
  rw [h]
  exact ⟨rfl, rfl⟩
set_option maxHeartbeats 2000000 in
theorem take_n (p t : Nat) (n : Int) (d : List UInt8) (D E : Chunk) (L : List Chunk) (h : RdN p d t D E) (hl : d.length ≤ 140737488355328) :
    Gv Tryd.prog 48 [.pointer (some ⟨p, 0, none⟩), .int .i64 n].toArray (D :: E :: L) (fun r L' =>
      r = .tuple #[.int .u32 ((tkV d t n : Nat) : Int), .bool (tkB d t n)] ∧ ∃ D', RdN p d (tkT d t n) D' E ∧ L' = D' :: E :: L) := by
  refine Gv.of_body Tryd.func48 rfl rfl ?_
  have hno : ∀ M : List (Nat × Value), tkB d t n = false → lk M 4 = some (.int .u32 0) → lk M 5 = some (.bool false) →
      WQ Tryd.f48.ntmps (bodyPost Tryd.prog Tryd.f48 (fun e w' => ∃ v L', e = .returned v ∧ (v = .tuple #[.int .u32 ((tkV d t n : Nat) : Int), .bool (tkB d t n)] ∧ ∃ D', RdN p d (tkT d t n) D' E ∧ L' = D' :: E :: L) ∧ Holds w' L') .ret) M (D :: E :: L) := by
    intro M hb h4 h5
    refine WQ_retI (rs := [.tmp 4, .tmp 5]) (vs := [.int .u32 0, .bool false]) rfl (by simp [resT, h4, h5]) ?_
    obtain ⟨e1, e2⟩ := tk_no hb
    rw [e1, e2, hb]
    exact ⟨_, iC, rfl, D, h, rfl⟩
  (repeat' first|refine kW ?_|refine kU fun bk=>?_|refine kV fun hc=>?_|refine kZ (fun hc=>?_) fun hc=>?_|fail)
  · exact hno _ (tkB_no (by omega)) rfl rfl
  · exact hno _ (tkB_no (by omega)) rfl rfl
  obtain ⟨m, rfl⟩ : ∃ m : Nat, n = (m : Int) := ⟨n.toNat, by omega⟩
  have hm : m ≤ 32 := by omega
  refine OW_call rfl rfl rfl (collect_n p t m d D E L h hm hl) rfl (fun r L' hp => ?_)
  obtain ⟨hfit, rfl, D', ⟨v, rfl, ho⟩, rfl⟩ | ⟨hfit, rfl, rfl⟩ := hp
  · obtain ⟨e1, e2⟩ := tk_nat hm hfit
    rw [e1, e2, tkB_nat hm hfit]
    have hnx : (t + 7) / 8 + (m + 7 - (8 * ((t + 7) / 8) - t)) / 8 = (t + m + 7) / 8 := by omega
    rw [hnx]
    obtain ⟨nx, hq⟩ : ∃ nx, nx = (t + m + 7) / 8 := ⟨_, rfl⟩
    rw [← hq]
    obtain ⟨wt, hwt⟩ : ∃ wt, wt = 8 * nx - t := ⟨_, rfl⟩
    unfold rdC
    rw [← hwt]
    have hml : val d / 2 ^ t % 2 ^ wt < 2 ^ wt := Nat.mod_lt _ (Nat.pow_pos (by decide))
    have hp := pow_le (show wt ≤ 40 by omega)
    have hp2 := pow_le hm
    have hp3 : val d / 2 ^ t % 2 ^ wt % 2 ^ m < 2 ^ m := Nat.mod_lt _ (Nat.pow_pos (by decide))
    (repeat' first|refine kW ?_|refine kU fun bk=>?_|refine kV fun hc=>?_|refine kZ (fun hc=>?_) fun hc=>?_|fail)
    refine WC_drawAll [] mixed ?_
    (refine WR_t 0 ?_; refine WR_t 1 ?_; refine WR_t 2 ?_; refine WR_t 3 ?_; refine WR_t 4 ?_)
    (refine WR_one 5 (by kernel_rfl) rfl rfl ?_)
    refine OW_callP rfl rfl rfl (lowest_n m _ hm) rfl ?_
    refine ⟨iC, ?_⟩
    (refine WR_take 6 rfl rfl (by kernel_rfl) iP iC (EV_nand (val d / 2 ^ t % 2 ^ wt) m rfl rfl rfl rfl rfl (by simp only [IntKind.bits]; omega) (by simp only [IntKind.bits]; omega)) (by rfl) ?_)
    (refine WR_t 7 ?_)
    (refine WR_done (by kernel_rfl) ?_)
    (repeat' first|refine kW ?_|refine kU fun bk=>?_|refine kV fun hc=>?_|refine kZ (fun hc=>?_) fun hc=>?_|fail)
    refine OW_EV (EV_nshr (val d / 2 ^ t % 2 ^ wt) m rfl rfl rfl rfl (by simp only [IntKind.bits]; omega)) rfl ?_
    (repeat' first|refine kW ?_|refine kU fun bk=>?_|refine kV fun hc=>?_|refine kZ (fun hc=>?_) fun hc=>?_|fail)
    rw [wrap_nat (k := .u32) rfl (m := val d / 2 ^ t % 2 ^ wt % 2 ^ m) (by simp only [IntKind.bits]; omega)]
    (repeat' first|refine kW ?_|refine kU fun bk=>?_|refine kV fun hc=>?_|refine kZ (fun hc=>?_) fun hc=>?_|fail)
    refine kR ?_
    have f1 : val d / 2 ^ t % 2 ^ wt % 2 ^ m = val d / 2 ^ t % 2 ^ m := Nat.mod_mod_of_dvd _ (Nat.pow_dvd_pow 2 (by omega))
    have f2 : val d / 2 ^ t % 2 ^ wt / 2 ^ m = val d / 2 ^ (t + m) % 2 ^ (8 * nx - (t + m)) := by
      rw [show wt = m + (8 * nx - (t + m)) from by omega, Nat.pow_add, Nat.mod_mul_right_div_self, Nat.div_div_eq_div_mul, ← Nat.pow_add]
    rw [f1]
    refine ⟨[(p, cl (rdC v d (t + m) nx) 68)] :: E :: L, ?_, rfl, _, ⟨by omega, v, by rw [hq], ho⟩, rfl⟩
    unfold rdC
    rw [← f2, show ((8 * nx - (t + m) : Nat) : Int) = (wt : Int) - (m : Int) from by omega]
    exact iC
  · (repeat' first|refine kW ?_|refine kU fun bk=>?_|refine kV fun hc=>?_|refine kZ (fun hc=>?_) fun hc=>?_|fail)
    exact hno _ (tkB_no (by omega)) rfl rfl
end Go.Proofs.YtdcehmhelfohfaaDoor
namespace Go.Proofs.YtdcehmhelfohfaaDoor
open Go Go.Vx Go.Hf
variable [W0]
set_option maxRecDepth 4000
set_option linter.all false
set_option maxHeartbeats 1000000 in
theorem goesOn_n (p n v s : Nat) (Fv vs : List Value) (L : List Chunk) (hFl : Fv.length = 16) (hvl : vs.length = 16) (hf : Fnd L p (cl (Fv ++ (vs ++ [.int .i64 (s : Int)])) 120)) (hn : n ≤ 15) (hv : v < 65536) :
    GvP Tryd.prog 78 [.pointer (some ⟨p, 0, none⟩), .int .u32 (v : Int), .int .i64 (n : Int)].toArray L (.bool (decide (v * 2 ^ (15 - n) < s))) := by
  have hnt : nth (Fv ++ (vs ++ [Value.int .i64 (s : Int)])) 32 = some (.int .i64 (s : Int)) := by
    rw [nth_eq, List.getElem?_append_right (by omega), hFl, List.getElem?_append_right (by omega), hvl]; rfl
  have hpw : v * 2 ^ (15 - n) ≤ 65536 * 2 ^ 15 := Nat.mul_le_mul (by omega) (Nat.pow_le_pow_right (by decide) (by omega))
  refine Gv.of_body Tryd.func78 rfl rfl ?_
  (repeat' first|refine kX ?_|refine kU fun bk=>?_|refine kV fun hc=>?_|refine kZ (fun hc=>?_) fun hc=>?_|fail)
  refine WC_drawAll [] mixed ?_
  (refine WR_t 0 ?_; refine WR_t 1 ?_; refine WR_t 2 ?_; refine WR_t 3 ?_)
  (refine WR_take 4 rfl rfl (by kernel_rfl) iP iC (EV_shl64 v (15 - n) rfl rfl rfl (by omega) (by omega) (by omega)) (by rfl) ?_)
  (refine WR_t 5 ?_; refine WR_t 6 ?_; refine WR_t 7 ?_)
  (refine WR_take 8 rfl rfl (by kernel_rfl) iP iC (EV_loadc rfl hf hnt) (by rfl) ?_)
  (refine WR_t 9 ?_; refine WR_t 10 ?_)
  (refine WR_done (by kernel_rfl) ?_)
  (repeat' first|refine kX ?_|refine kU fun bk=>?_|refine kV fun hc=>?_|refine kZ (fun hc=>?_) fun hc=>?_|fail)
  refine kR ?_
  refine ⟨L, iC, ?_, rfl⟩
  exact congrArg Value.bool (decide_eq_decide.2 Int.ofNat_lt)
theorem rdS_at {l : List Nat} {w t z n : Nat} (hn : n ≤ 15) (hI : rdS l w t z 16 0 = rdS l w t z (16 - n) n) (hS : symAt l n (hv w t n) = none) :
    rdS l w t z 16 0 = if extB l n (hv w t n) = false then (0, 3, n) else if z ≤ t + n then (0, 4, n) else rdS l w t z (16 - (n + 1)) (n + 1) := by
  rw [hI, show 16 - n = (16 - (n + 1)) + 1 from by omega, rdS, hS]
theorem smb_fnd {l : List Nat} {vs : List Value} {Cs : List Chunk} {n : Nat} (h : SyR l l.length vs Cs) (h0 : 0 < n) (hn : n < 16) {i : Nat} (hi : l[i]? = some n) {D : Chunk} {L : List Chunk} :
    ∃ b cap c fr, vs[n]? = some (.slice (some ⟨b, 0, none⟩) (cn l n) cap) ∧ Fnd (D :: Cs.flatten :: L) b (.cells c 3 fr) ∧ c[cn (l.take i) n]? = some (.int .i64 (i : Int)) := by
  obtain ⟨v, C, h1, h2, h3⟩ := h.at_ n hn
  have hg := smb_get hi h0
  have hlen := smb_length h0 (Nat.le_refl l.length)
  rw [List.take_length] at hlen
  have hlt := cn_take_lt hi
  rcases h3 with ⟨_, h4, _⟩ | ⟨b, cap, rest, rfl, rfl, _⟩
  · omega
  · refine ⟨b, cap, (ivn (smb l l.length n) ++ rest).toArray, (0, 0), by rw [h1, hlen], ?_, ?_⟩
    · show Fnd _ b (cl (ivn (smb l l.length n) ++ rest) 3)
      refine Fnd.there (Fnd.mem ?_)
      exact List.mem_flatten.2 ⟨_, List.mem_of_getElem? h2, by simp⟩
    · have h5 := ivn_get hg
      have h6 := (List.getElem?_eq_some_iff.1 h5).1
      rw [List.getElem?_toArray, List.getElem?_append_left h6]
      exact h5
set_option maxHeartbeats 4000000 in
theorem hread_n (p q t : Nat) (l : List Nat) (d : List UInt8) (C D E : Chunk) (L : List Chunk) (hC : CoD l p C) (hk : kS l ≤ 32768) (h15 : ∀ x ∈ l, x ≤ 15) (h400 : l.length ≤ 400) (hR : RdN q d t D E) (hl : d.length ≤ 140737488355328) :
    Gv Tryd.prog 68 [.pointer (some ⟨p, 0, none⟩), .pointer (some ⟨q, 0, none⟩)].toArray (C :: D :: E :: L) (fun r L' => ∃ D', r = .tuple #[.int .i64 ((rdS l (val d) t (8 * d.length) 16 0).1 : Int), .int .i64 ((rdS l (val d) t (8 * d.length) 16 0).2.1 : Int)] ∧
      RdN q d (t + (rdS l (val d) t (8 * d.length) 16 0).2.2) D' E ∧ L' = C :: D' :: E :: L) := by
  obtain ⟨vs, Cs, rfl, hS⟩ := hC
  have hco : coC l vs = wnv (fsl l 16) ++ (vs ++ [.int .i64 (kS l : Int)]) := rfl
  have hFl : (wnv (fsl l 16)).length = 16 := by rw [wnv_length, fsl_length]
  have hFg : ∀ n, n < 16 → nth (wnv (fsl l 16) ++ (vs ++ [.int .i64 (kS l : Int)])) (0 + n * 1) = some (.int .u32 ((fs l n : Nat) : Int)) := fun n hn => by
    rw [Nat.zero_add, Nat.mul_one, nth_eq, List.getElem?_append_left (by omega)]
    have := fsl_get l 16 hn
    rw [if_pos hn] at this
    exact wnv_get this
  rw [hco]
  generalize wnv (fsl l 16) = Fv at hFl hFg
  obtain ⟨w, hw⟩ : ∃ w, w = val d := ⟨_, rfl⟩
  obtain ⟨z, hz⟩ : ∃ z, z = 8 * d.length := ⟨_, rfl⟩
  rw [← hw, ← hz]
  refine Gv.holds (L' := [(p, cl (Fv ++ (vs ++ [.int .i64 (kS l : Int)])) 120)] :: Cs.flatten :: D :: E :: L) ?_ (fun w h => Holds.split.1 h)
  refine Gv.of_body Tryd.func68 rfl rfl ?_
  (repeat' first|refine kX ?_|refine kU fun bk=>?_|refine kV fun hc=>?_|refine kZ (fun hc=>?_) fun hc=>?_|fail)
  refine WC_loop (X := Nat × Chunk) (fun x => [(0, .pointer (some ⟨p, 0, none⟩)), (1, .pointer (some ⟨q, 0, none⟩)), (6, .int .u32 ((hv w t x.1 : Nat) : Int)), (7, .int .i64 ((x.1 + 1 : Nat) : Int))])
    (fun x => [(p, cl (Fv ++ (vs ++ [.int .i64 (kS l : Int)])) 120)] :: Cs.flatten :: x.2 :: E :: L)
    (fun x => x.1 ≤ 15 ∧ RdN q d (t + x.1) x.2 E ∧ (if x.1 = 0 then 0 else fs l x.1 + cn l x.1) ≤ hv w t x.1 ∧ rdS l w t z 16 0 = rdS l w t z (16 - x.1) x.1 ∧ symAt l x.1 (hv w t x.1) = none) (fun x => 16 - x.1)
    (0, D) ⟨Nat.zero_le _, hR, Nat.zero_le _, rfl, symAt_none0⟩ iS (fun w h => h) ?_
  intro x ⟨hx1, hx2, hx3, hx4, hx5⟩
  obtain ⟨n, D1⟩ := x
  simp only at hx1 hx2 hx3 hx4 hx5 ⊢
  have hat := rdS_at hx1 hx4 hx5
  have hlt := hv_lt w t n
  have hp15 : 2 ^ n ≤ 2 ^ 15 := Nat.pow_le_pow_right (by decide) hx1
  have hext : extB l n (hv w t n) = decide (hv w t n * 2 ^ (15 - n) < kS l) := by
    rw [Bool.eq_iff_iff, extB_iff, ext_iff hk h15 hx1, decide_eq_true_eq]
    exact ⟨fun h => h.2, fun h => ⟨hx3, h⟩⟩
  have hend : ∀ (e m : Nat) (M : List (Nat × Value)) (D' : Chunk), rdS l w t z 16 0 = (0, e, m) → RdN q d (t + m) D' E → lk M 4 = some (.int .i64 0) → lk M 5 = some (.int .i64 (e : Int)) →
      WQ Tryd.f68.ntmps (bodyPost Tryd.prog Tryd.f68 (fun e w' => ∃ v L', e = .returned v ∧ (∃ D', v = .tuple #[.int .i64 ((rdS l w t z 16 0).1 : Int), .int .i64 ((rdS l w t z 16 0).2.1 : Int)] ∧
      RdN q d (t + (rdS l w t z 16 0).2.2) D' E ∧ L' = ([(p, cl (Fv ++ (vs ++ [.int .i64 (kS l : Int)])) 120)] ++ Cs.flatten) :: D' :: E :: L) ∧ Holds w' L') .ret) M ([(p, cl (Fv ++ (vs ++ [.int .i64 (kS l : Int)])) 120)] :: Cs.flatten :: D' :: E :: L) := by
    intro e m M D' he hr h4 h5
    refine WQ_retH (rs := [.tmp 4, .tmp 5]) (vs := [.int .i64 0, .int .i64 (e : Int)]) rfl (by simp [resT, h4, h5]) ?_
    rw [he]
    exact ⟨_, fun w h => Holds.split.2 h, D', rfl, hr, rfl⟩
  (repeat' first|refine kX ?_|refine kU fun bk=>?_|refine kV fun hc=>?_|refine kZ (fun hc=>?_) fun hc=>?_|fail)
  · have hn14 : n ≤ 14 := by omega
    rw [show (((n + 1 : Nat) : Nat) : Int) - 1 = (n : Int) from by omega]
    refine OW_callP rfl rfl rfl (goesOn_n p n (hv w t n) (kS l) Fv vs _ hFl hS.lv Fnd.here (by omega) (by omega)) rfl ?_
    by_cases hgo : ¬ hv w t n * 2 ^ (15 - n) < kS l
    · rw [decide_eq_false hgo] at hext ⊢
      rw [if_pos hext] at hat
      (repeat' first|refine kX ?_|refine kU fun bk=>?_|refine kV fun hc=>?_|refine kZ (fun hc=>?_) fun hc=>?_|fail)
      exact hend 3 n _ _ hat hx2 rfl rfl
    rw [decide_eq_true (Decidable.of_not_not hgo)] at hext ⊢
    rw [if_neg (by rw [hext]; simp)] at hat
    (repeat' first|refine kX ?_|refine kU fun bk=>?_|refine kV fun hc=>?_|refine kZ (fun hc=>?_) fun hc=>?_|fail)
    refine OW_call rfl rfl rfl (Gv.take2 (take_n q (t + n) 1 d D1 E ([(p, cl (Fv ++ (vs ++ [.int .i64 (kS l : Int)])) 120)] :: Cs.flatten :: L) hx2 hl) (by repeat (first | exact Take.here | apply Take.there)) (by repeat (first | exact Take.here | apply Take.there))) rfl (fun r L' hp => ?_)
    obtain ⟨rfl, D2, hr2, rfl⟩ := hp
    by_cases hz2 : z ≤ t + n
    · rw [if_pos hz2] at hat
      have hb : tkB d (t + n) 1 = false := tkB_no (by omega)
      have htt : tkT d (t + n) 1 = t + n := by unfold tkT; rw [hb]; rfl
      rw [htt] at hr2
      rw [hb]
      (repeat' first|refine kX ?_|refine kU fun bk=>?_|refine kV fun hc=>?_|refine kZ (fun hc=>?_) fun hc=>?_|fail)
      refine WQ_holds (L' := [(p, cl (Fv ++ (vs ++ [.int .i64 (kS l : Int)])) 120)] :: Cs.flatten :: D2 :: E :: L) (fun w h => iH h) ?_
      exact hend 4 n _ _ hat hr2 rfl rfl
    rw [if_neg hz2] at hat
    have hb : tkB d (t + n) 1 = true := tkB_nat (n := 1) (by omega) (by omega)
    obtain ⟨hv1, hv2⟩ := tk_nat (d := d) (t := t + n) (n := 1) (by omega) (by omega)
    have hv1 : tkV d (t + n) 1 = w / 2 ^ (t + n) % 2 := by rw [hw]; exact hv1
    have hv2 : tkT d (t + n) 1 = t + (n + 1) := hv2
    rw [hv2] at hr2
    rw [hb, hv1]
    have hvs : hv w t (n + 1) = 2 * hv w t n + w / 2 ^ (t + n) % 2 := rfl
    obtain ⟨bt, hbt⟩ : ∃ bt, bt = w / 2 ^ (t + n) % 2 := ⟨_, rfl⟩
    have hbt2 : bt < 2 := by omega
    rw [← hbt] at hvs ⊢
    have hvl := hv_lt w t (n + 1)
    have hp16 : 2 ^ (n + 1) ≤ 2 ^ 15 := Nat.pow_le_pow_right (by decide) (by omega)
    have hfsn : fs l (n + 1) = 2 * (fs l n + if n = 0 then 0 else cn l n) := rfl
    have hge : fs l (n + 1) ≤ hv w t (n + 1) := by
      rw [hvs, hfsn]
      by_cases h0 : n = 0
      · subst h0; simp [fs]
      · rw [if_neg h0] at hx3 ⊢; omega
    have hlast : rdS l w t z 16 0 = match symAt l (n + 1) (hv w t (n + 1)) with
        | some i => (i, 0, n + 1)
        | none => rdS l w t z (16 - (n + 1)) (n + 1) := by
      rw [hat]
      cases hs : symAt l (n + 1) (hv w t (n + 1)) with
      | none => rfl
      | some i => rw [show 16 - (n + 1) = (15 - (n + 1)) + 1 from by omega, rdS, hs]
    (repeat' first|refine kW ?_|refine kU fun bk=>?_|refine kV fun hc=>?_|refine kZ (fun hc=>?_) fun hc=>?_|fail)
    refine OW_EV (EV_nshl (hv w t n) 1 rfl rfl rfl rfl rfl (by simp only [IntKind.bits]; omega)) rfl ?_
    (repeat' first|refine kW ?_|refine kU fun bk=>?_|refine kV fun hc=>?_|refine kZ (fun hc=>?_) fun hc=>?_|fail)
    refine OW_EV (EV_nor' bt (hv w t n) 1 rfl rfl rfl rfl rfl (by omega) (by simp only [IntKind.bits]; omega)) rfl ?_
    rw [show bt + hv w t n * 2 ^ 1 = hv w t (n + 1) from by rw [hvs]; omega]
    (repeat' first|refine kW ?_|refine kU fun bk=>?_|refine kV fun hc=>?_|refine kZ (fun hc=>?_) fun hc=>?_|fail)
    refine OW_EV (EV_indexAddrA' (n + 1) rfl rfl rfl (by omega)) rfl ?_
    (repeat' first|refine kW ?_|refine kU fun bk=>?_|refine kV fun hc=>?_|refine kZ (fun hc=>?_) fun hc=>?_|fail)
    refine OW_EV (EV_loadc rfl (by repeat (first | assumption | exact Fnd.here | refine Fnd.there ?_)) (hFg (n + 1) (by omega))) rfl ?_
    (repeat' first|refine kW ?_|refine kU fun bk=>?_|refine kV fun hc=>?_|refine kZ (fun hc=>?_) fun hc=>?_|fail)
    refine OW_EV (EV_nsub (hv w t (n + 1)) (fs l (n + 1)) rfl rfl rfl rfl rfl hge (by simp only [IntKind.bits]; omega)) rfl ?_
    obtain ⟨x, hx⟩ : ∃ x, x = hv w t (n + 1) - fs l (n + 1) := ⟨_, rfl⟩
    rw [← hx]
    have hxb : x ≤ 32768 := by omega
    (repeat' first|refine kW ?_|refine kU fun bk=>?_|refine kV fun hc=>?_|refine kZ (fun hc=>?_) fun hc=>?_|fail)
    refine OW_EV (EV_indexAddrA' (n + 1) rfl rfl rfl (by omega)) rfl ?_
    (repeat' first|refine kW ?_|refine kU fun bk=>?_|refine kV fun hc=>?_|refine kZ (fun hc=>?_) fun hc=>?_|fail)
    obtain ⟨v, C1, hv1, hC1, ho1⟩ := hS.at_ (n + 1) (by omega)
    obtain ⟨sa, sc, rfl⟩ := ow_slc ho1
    have hsl := smb_length (l := l) (n := n + 1) (by omega) (Nat.le_refl l.length)
    rw [List.take_length] at hsl
    rw [hsl] at hv1
    refine OW_EV (EV_loadc rfl (by repeat (first | assumption | exact Fnd.here | refine Fnd.there ?_)) (co_nth hFl hv1)) rfl ?_
    (repeat' first|refine kW ?_|refine kU fun bk=>?_|refine kV fun hc=>?_|refine kZ (fun hc=>?_) fun hc=>?_|fail)
    · refine OW_EV (EV_indexAddrA' (n + 1) rfl rfl rfl (by omega)) rfl ?_
      (repeat' first|refine kW ?_|refine kU fun bk=>?_|refine kV fun hc=>?_|refine kZ (fun hc=>?_) fun hc=>?_|fail)
      obtain ⟨i, hi1, hi2⟩ := cd_surj (l := l) (n := n + 1) (by omega) hge (show hv w t (n + 1) < fs l (n + 1) + cn l (n + 1) by omega)
      obtain ⟨b, cap, cc, fr, hvb, hfn, hcell⟩ := smb_fnd hS (by omega) (by omega) hi1 (D := [(p, cl (Fv ++ (vs ++ [.int .i64 (kS l : Int)])) 120)]) (L := D2 :: E :: L)
      rw [hv1] at hvb
      injection hvb with hvb
      injection hvb with e1 e2 e3
      subst e1 e3
      refine OW_EV (EV_loadc rfl (by repeat (first | assumption | exact Fnd.here | refine Fnd.there ?_)) (co_nth hFl hv1)) rfl ?_
      (repeat' first|refine kW ?_|refine kU fun bk=>?_|refine kV fun hc=>?_|refine kZ (fun hc=>?_) fun hc=>?_|fail)
      have hcd : cd l i = fs l (n + 1) + cn (l.take i) (n + 1) := by
        have hg : l.getD i 0 = n + 1 := by simp [List.getD, hi1]
        unfold cd; rw [hg, if_neg (by omega)]
      have hxc : x = cn (l.take i) (n + 1) := by omega
      have hcell' : cc[x * 1]? = some (.int .i64 (i : Int)) := by rw [Nat.mul_one, hxc]; exact hcell
      have hsy := symAt_some hi1 (by omega)
      rw [hi2] at hsy
      rw [hsy] at hlast
      refine OW_holds (L' := [(p, cl (Fv ++ (vs ++ [.int .i64 (kS l : Int)])) 120)] :: Cs.flatten :: D2 :: E :: L) (fun w h => iH h) ?_
      refine OW_EV (EV_indexAddr0 (j := x) rfl rfl rfl (by omega)) rfl ?_
      (repeat' first|refine kW ?_|refine kU fun bk=>?_|refine kV fun hc=>?_|refine kZ (fun hc=>?_) fun hc=>?_|fail)
      refine OW_EV (EV_load rfl hfn hcell') rfl ?_
      (repeat' first|refine kW ?_|refine kU fun bk=>?_|refine kV fun hc=>?_|refine kZ (fun hc=>?_) fun hc=>?_|fail)
      first | refine WQ_retH rfl rfl ?_ | refine WQ_endH rfl rfl ?_
      rw [hlast]
      exact ⟨_, fun w h => Holds.split.2 h, D2, rfl, hr2, rfl⟩
    · have hs : symAt l (n + 1) (hv w t (n + 1)) = none := symAt_none (.inr (by omega))
      rw [hs] at hlast
      refine WQ_round (X := Nat × Chunk) (μ := fun x => 16 - x.1) (x := (n, D1)) (n + 1, D2) (by simp only; omega) ⟨by simp only; omega, hr2, ?_, hlast, hs⟩ iS (fun w h => iH h)
      simp only
      rw [if_neg (by omega)]
      omega
  · have hn15 : n = 15 := by omega
    subst hn15
    have hno : extB l 15 (hv w t 15) = false := by
      cases he : extB l 15 (hv w t 15) with
      | false => rfl
      | true =>
        obtain ⟨i, m, h1, h2, _⟩ := extB_iff.1 he
        have := h15 m (List.mem_of_getElem? h1)
        omega
    rw [if_pos hno] at hat
    exact hend 3 15 _ _ hat hx2 rfl rfl
end Go.Proofs.YtdcehmhelfohfaaDoor
namespace Go.If
open Go.Vx Go.Hf
set_option linter.all false
theorem tk_ok {d : List UInt8} {s : S6} {n : Nat} (h : s.t + n ≤ 8 * d.length) : tk d s n = ⟨s.t + n, s.out, s.e⟩ := by unfold tk; rw [if_pos h]
theorem tk_no {d : List UInt8} {s : S6} {n : Nat} (h : ¬ s.t + n ≤ 8 * d.length) (he : s.e = 0) : tk d s n = ⟨s.t, s.out, 4⟩ := by unfold tk fl; rw [if_neg h, if_pos he]
theorem tv_ok [W0] {d : List UInt8} {s : S6} {n : Nat} (h : s.t + n ≤ 8 * d.length) : tv d s n = val d / 2 ^ s.t % 2 ^ n := by unfold tv; rw [if_pos h]
def spF (n st : Nat) : Nat := if n < 2 * st then n else (st + n % st) * 2 ^ (n / st - 1)
def spX (n st : Nat) : Nat := if n < 2 * st then 0 else n / st - 1
theorem sp_len : ∀ t, t < 28 → 3 + spF t 4 = baB 3 4 8 t ∧ spX t 4 = exB t 4 8 := by decide
theorem sp_dst : ∀ t, t < 30 → 1 + spF t 2 = baB 1 2 4 t ∧ spX t 2 = exB t 2 4 := by decide
def lnS (d : List UInt8) (k : Nat) (s : S6) : S6 := if 285 < k then fl s 3 else tk d s (lnB k).2
def dsS [W0] (d : List UInt8) (dl : List Nat) (s : S6) : S6 := if (sy d s dl).e ≠ 0 then sy d s dl else if 29 < sv d s dl then fl (sy d s dl) 3 else tk d (sy d s dl) (exB (sv d s dl) 2 4)
def dsV [W0] (d : List UInt8) (dl : List Nat) (s : S6) : Nat := baB 1 2 4 (sv d s dl) + tv d (sy d s dl) (exB (sv d s dl) 2 4)
theorem fl_err {s : S6} {k : Nat} (h : s.e ≠ 0) : fl s k = s := by unfold fl; rw [if_neg h]
theorem sy_err [W0] {d : List UInt8} {s : S6} {l : List Nat} (h : s.e ≠ 0) : sy d s l = s := by unfold sy; rw [if_neg h]
theorem cpL_err {most far : Nat} {s : S6} (h : s.e ≠ 0) : ∀ n, cpL most far n s = s
  | 0 => rfl
  | n + 1 => by rw [cpL, if_neg h]
theorem mtS_err1 [W0] {d : List UInt8} {most k : Nat} {dl : List Nat} {s : S6} (h : (lnS d k s).e ≠ 0) : (mtS d most k dl s).e = (lnS d k s).e := by
  unfold lnS at h ⊢
  unfold mtS
  split
  · rfl
  · rename_i h2
    rw [if_neg h2] at h
    rw [sy_err h, if_pos h]
theorem mtS_err2 [W0] {d : List UInt8} {most k : Nat} {dl : List Nat} {s : S6} (h1 : ¬ 285 < k) (h : (dsS d dl (tk d s (lnB k).2)).e ≠ 0) : (mtS d most k dl s).e = (dsS d dl (tk d s (lnB k).2)).e := by
  unfold dsS at h ⊢
  unfold mtS
  rw [if_neg h1]
  split
  · rfl
  · rename_i h2
    rw [if_neg h2] at h
    split
    · rfl
    · rename_i h3
      rw [if_neg h3] at h
      unfold mtD
      rw [if_neg (fun hh => h hh.1), cpL_err h]
theorem mtS_ok [W0] {d : List UInt8} {most k : Nat} {dl : List Nat} {s : S6} (h1 : ¬ 285 < k) (h : (dsS d dl (tk d s (lnB k).2)).e = 0) :
    mtS d most k dl s = cpL most (dsV d dl (tk d s (lnB k).2)) ((lnB k).1 + tv d s (lnB k).2) (if (dsS d dl (tk d s (lnB k).2)).out.length < dsV d dl (tk d s (lnB k).2) then fl (dsS d dl (tk d s (lnB k).2)) 3 else dsS d dl (tk d s (lnB k).2)) := by
  unfold dsS at h ⊢
  unfold mtS dsV
  rw [if_neg h1]
  split
  · rename_i h2; rw [if_pos h2] at h; exact absurd h h2
  · rename_i h2
    rw [if_neg h2] at h
    split
    · rename_i h3
      rw [if_pos h3, fl_e] at h
      split at h
      · cases h
      · exact absurd h (by assumption)
    · rename_i h3
      rw [if_neg h3] at h
      unfold mtD
      simp only [h, true_and]
theorem pt_ok {most : Nat} {s : S6} {c : UInt8} (h : s.out.length < most) : pt most s c = ⟨s.t, s.out ++ [c], s.e⟩ := by unfold pt; rw [if_neg (by omega)]
theorem pt_no {most : Nat} {s : S6} {c : UInt8} (h : most ≤ s.out.length) : pt most s c = fl s 5 := by unfold pt; rw [if_pos h]
theorem cpL_over (most far : Nat) : ∀ n s, s.e = 0 → s.out.length ≤ most → most < s.out.length + n → (cpL most far n s).e = 5
  | 0, s, _, h2, h => by omega
  | n + 1, s, he, h2, h => by
    rw [cpL, if_pos he]
    by_cases h1 : s.out.length < most
    · rw [pt_ok h1]
      exact cpL_over most far n _ he (by simp; omega) (by simp; omega)
    · rw [pt_no (by omega)]
      have : (fl s 5).e = 5 := by rw [fl_e, if_pos he]
      rw [cpL_err (by rw [this]; decide), this]
end Go.If
namespace Go.Proofs.YtdcehmhelfohfaaDoor
open Go Go.Vx Go.Hf Go.If
variable [W0]
set_option maxRecDepth 4000
set_option linter.all false
omit [W0] in
/-- The program's reader. -/
def rdR (p q : Nat) (v : Value) (most : Nat) (kn : Value) : Chunk := [(p, cl [.pointer (some ⟨q, 0, none⟩), v, .int .i64 (most : Int), kn] 47)]
set_option maxHeartbeats 2000000 in
theorem ptake_n (p q most n : Nat) (v kn : Value) (d : List UInt8) (s : S6) (D E : Chunk) (L : List Chunk) (h : RdN q d s.t D E) (hl : d.length ≤ 140737488355328) (hn : n ≤ 32) (he : s.e = 0) :
    Gv Tryd.prog 33 [.pointer (some ⟨p, 0, none⟩), .int .i64 (n : Int)].toArray (rdR p q v most kn :: D :: E :: L) (fun r L' =>
      ((tk d s n).e ≠ 0 ∧ r = .tuple #[.int .i64 0, .int .i64 ((tk d s n).e : Int)] ∧ L' = L) ∨
      ((tk d s n).e = 0 ∧ r = .tuple #[.int .i64 ((tv d s n : Nat) : Int), .int .i64 0] ∧ ∃ D', RdN q d (tk d s n).t D' E ∧ L' = rdR p q v most kn :: D' :: E :: L)) := by
  refine Gv.of_body Tryd.func33 rfl rfl ?_
  have hbt := take_n q s.t (n : Int) d D E (rdR p q v most kn :: L) h hl
  by_cases hc : s.t + n ≤ 8 * d.length
  · rw [tkB_nat hn hc, (tk_nat hn hc).1, (tk_nat hn hc).2] at hbt
    rw [tk_ok hc, tv_ok hc]
    have hb32 : val d / 2 ^ s.t % 2 ^ n < 2 ^ 32 := Nat.lt_of_lt_of_le (Nat.mod_lt _ (Nat.pow_pos (by decide))) (Nat.pow_le_pow_right (by decide) hn)
    generalize val d / 2 ^ s.t % 2 ^ n = z at hbt hb32 ⊢
    unfold rdR at hbt ⊢
    (repeat' first|refine kW ?_|refine kU fun bk=>?_|refine kV fun hc=>?_|refine kZ (fun hc=>?_) fun hc=>?_|fail)
    refine OW_call rfl rfl rfl (Gv.holds hbt (fun w h => iH h)) rfl (fun r L' hp => ?_)
    obtain ⟨rfl, D', hr, rfl⟩ := hp
    (repeat' first|refine kW ?_|refine kU fun bk=>?_|refine kV fun hc=>?_|refine kZ (fun hc=>?_) fun hc=>?_|fail)
    refine WQ_retI (rs := [.tmp 4, .tmp 5]) (vs := [.int .i64 (z : Int), .int .i64 0]) rfl rfl ?_
    exact ⟨_, iC, .inr ⟨he, rfl, D', hr, rfl⟩⟩
  · have hb0 := tkB_no (d := d) (t := s.t) (n := (n : Int)) (by omega)
    rw [hb0, (Go.Proofs.YtdcehmhelfohfaaDoor.tk_no hb0).1, (Go.Proofs.YtdcehmhelfohfaaDoor.tk_no hb0).2] at hbt
    rw [Go.If.tk_no hc he]
    unfold rdR at hbt ⊢
    (repeat' first|refine kW ?_|refine kU fun bk=>?_|refine kV fun hc=>?_|refine kZ (fun hc=>?_) fun hc=>?_|fail)
    refine OW_call rfl rfl rfl (Gv.holds hbt (fun w h => iH h)) rfl (fun r L' hp => ?_)
    obtain ⟨rfl, D', hr, rfl⟩ := hp
    (repeat' first|refine kW ?_|refine kU fun bk=>?_|refine kV fun hc=>?_|refine kZ (fun hc=>?_) fun hc=>?_|fail)
    refine WQ_retI (rs := [.tmp 4, .tmp 5]) (vs := [.int .i64 0, .int .i64 4]) rfl rfl ?_
    exact ⟨_, iC, .inl ⟨by simp, rfl, rfl⟩⟩
set_option maxHeartbeats 2000000 in
theorem pcount_n (p q most n least : Nat) (v kn : Value) (d : List UInt8) (s : S6) (D E : Chunk) (L : List Chunk) (h : RdN q d s.t D E) (hl : d.length ≤ 140737488355328) (hn : n ≤ 32) (he : s.e = 0) (hle : least ≤ 1000000) :
    Gv Tryd.prog 70 [.pointer (some ⟨p, 0, none⟩), .int .i64 (n : Int), .int .i64 (least : Int)].toArray (rdR p q v most kn :: D :: E :: L) (fun r L' =>
      ((tk d s n).e ≠ 0 ∧ r = .tuple #[.int .i64 0, .int .i64 ((tk d s n).e : Int)] ∧ L' = L) ∨
      ((tk d s n).e = 0 ∧ r = .tuple #[.int .i64 ((least + tv d s n : Nat) : Int), .int .i64 0] ∧ ∃ D', RdN q d (tk d s n).t D' E ∧ L' = rdR p q v most kn :: D' :: E :: L)) := by
  refine Gv.of_body Tryd.func70 rfl rfl ?_
  have hbt := ptake_n p q most n v kn d s D E L h hl hn he
  have htl : tv d s n < 2 ^ 32 := Nat.lt_of_lt_of_le (tv_lt d s n) (Nat.pow_le_pow_right (by decide) hn)
  generalize tv d s n = z at hbt htl ⊢
  generalize tk d s n = s1 at hbt ⊢
  (repeat' first|refine kW ?_|refine kU fun bk=>?_|refine kV fun hc=>?_|refine kZ (fun hc=>?_) fun hc=>?_|fail)
  refine OW_call rfl rfl rfl hbt rfl (fun r L' hp => ?_)
  rcases hp with ⟨h1, rfl, rfl⟩ | ⟨h1, rfl, D', hr, rfl⟩
  · (repeat' first|refine kW ?_|refine kU fun bk=>?_|refine kV fun hc=>?_|refine kZ (fun hc=>?_) fun hc=>?_|fail)
    refine kR ?_
    exact ⟨_, iC, .inl ⟨h1, rfl, rfl⟩⟩
  · (repeat' first|refine kW ?_|refine kU fun bk=>?_|refine kV fun hc=>?_|refine kZ (fun hc=>?_) fun hc=>?_|fail)
    rw [show (least : Int) + (z : Int) = ((least + z : Nat) : Int) from by omega]
    refine kR ?_
    exact ⟨_, iC, .inr ⟨h1, rfl, D', hr, rfl⟩⟩
set_option maxHeartbeats 2000000 in
theorem pput_n (p q most : Nat) (c : UInt8) (v kn : Value) (s : S6) (C : Chunk) (L : List Chunk) (ho : Ow 5 1 v s.out.length (bsv s.out) C) (hm : most ≤ 1000000) (he : s.e = 0) (hk : kn.oneCell' = true) :
    Gv Tryd.prog 55 [.pointer (some ⟨p, 0, none⟩), .int .u8 (c.toNat : Int)].toArray (rdR p q v most kn :: C :: L) (fun r L' =>
      ((pt most s c).e ≠ 0 ∧ r = .int .i64 ((pt most s c).e : Int) ∧ L' = L) ∨
      ((pt most s c).e = 0 ∧ r = .int .i64 0 ∧ ∃ v' C', Ow 5 1 v' (pt most s c).out.length (bsv (pt most s c).out) C' ∧ L' = rdR p q v' most kn :: C' :: L)) := by
  refine Gv.of_body Tryd.func55 rfl rfl ?_
  obtain ⟨t, out, e⟩ := s
  simp only at ho he ⊢
  subst he
  obtain ⟨va, vc, rfl⟩ := ow_slc ho
  by_cases h1 : most ≤ out.length
  · rw [pt_no (by exact h1)]
    simp only [fl, if_true]
    unfold rdR
    (repeat' first|refine kW ?_|refine kU fun bk=>?_|refine kV fun hc=>?_|refine kZ (fun hc=>?_) fun hc=>?_|fail)
    refine WC_drawAll [] mixed ?_
    (refine WR_t 0 ?_; refine WR_t 1 ?_; refine WR_t 2 ?_; refine WR_t 3 ?_; refine WR_t 4 ?_; refine WR_t 5 ?_; refine WR_t 6 ?_; refine WR_t 7 ?_; refine WR_t 8 ?_; refine WR_t 9 ?_)
    (refine WR_done (by kernel_rfl) ?_)
    (repeat' first|refine kW ?_|refine kU fun bk=>?_|refine kV fun hc=>?_|refine kZ (fun hc=>?_) fun hc=>?_|fail)
    refine kR ?_
    exact ⟨_, iC, .inl ⟨by simp, rfl, rfl⟩⟩
  · rw [pt_ok (by simp only; omega)]
    unfold rdR
    (repeat' first|refine kW ?_|refine kU fun bk=>?_|refine kV fun hc=>?_|refine kZ (fun hc=>?_) fun hc=>?_|fail)
    refine WC_drawAll [] mixed ?_
    (refine WR_t 0 ?_; refine WR_t 1 ?_; refine WR_t 2 ?_; refine WR_t 3 ?_; refine WR_t 4 ?_; refine WR_t 5 ?_; refine WR_t 6 ?_; refine WR_t 7 ?_; refine WR_t 8 ?_; refine WR_t 9 ?_)
    (refine WR_done (by kernel_rfl) ?_)
    (repeat' first|refine kW ?_|refine kU fun bk=>?_|refine kV fun hc=>?_|refine kZ (fun hc=>?_) fun hc=>?_|fail)
    refine OW_buildSlice (cs := [.int .u8 (c.toNat : Int)]) rfl (by rfl) (by first | (simp [fillL, patch, Value.cells, zeros]; done) | (simp [fillL, patch, Value.cells, zeros]; rfl)) (by omega) rfl rfl (fun bn => ?_)
    (repeat' first|refine kW ?_|refine kU fun bk=>?_|refine kV fun hc=>?_|refine kZ (fun hc=>?_) fun hc=>?_|fail)
    refine OW_append rfl rfl ho (sl_cells (k := 1) (c := #[.int .u8 (c.toNat : Int)]) (xs := [.int .u8 (c.toNat : Int)]) (m := 1) Fnd.here rfl (by simp)) (by repeat (first | exact Zip.here _ | apply Zip.there)) rfl (by rfl) (by omega) (by simp [maxLen]; omega) rfl (fun v' C' ho' _ _ => ?_)
    (repeat' first|refine kW ?_|refine kU fun bk=>?_|refine kV fun hc=>?_|refine kZ (fun hc=>?_) fun hc=>?_|fail)
    refine OW_storeTo [.pointer (some ⟨q, 0, none⟩), v', .int .i64 (most : Int), kn] rfl rfl (by rcases ho' with ⟨rfl, _⟩ | ⟨_, _, _, rfl, _⟩ <;> rfl) rfl iU (by simp) ?_
    (repeat' first|refine kW ?_|refine kU fun bk=>?_|refine kV fun hc=>?_|refine kZ (fun hc=>?_) fun hc=>?_|fail)
    refine kR ?_
    refine ⟨_, iC, .inr ⟨rfl, rfl, v', C', ?_, rfl⟩⟩
    rw [List.length_append, show bsv (out ++ [c]) = bsv out ++ [Value.int .u8 (c.toNat : Int)] from by simp [bsv]]
    exact ho'
set_option maxHeartbeats 2000000 in
theorem span_n (n st : Nat) (L : List Chunk) (h1 : n ≤ 100) (h2 : 1 ≤ st) (h3 : st ≤ 100) (h4 : spX n st ≤ 20) :
    GvP Tryd.prog 95 [.int .i64 (n : Int), .int .i64 (st : Int)].toArray L (.tuple #[.int .i64 ((spF n st : Nat) : Int), .int .i64 ((spX n st : Nat) : Int)]) := by
  refine Gv.of_body Tryd.func95 rfl rfl ?_
  unfold spF spX at *
  (repeat' first|refine kW ?_|refine kU fun bk=>?_|refine kV fun hc=>?_|refine kZ (fun hc=>?_) fun hc=>?_|fail)
  · rw [if_pos (show n < 2 * st by omega), if_pos (show n < 2 * st by omega)]
    exact kE
  · rw [if_neg (show ¬ n < 2 * st by omega)] at h4 ⊢
    rw [if_neg (show ¬ n < 2 * st by omega)]
    have hq : n / st ≤ n := Nat.div_le_self _ _
    have hq2 : 2 ≤ n / st := by
      rw [Nat.le_div_iff_mul_le (by omega)]; omega
    have hr : n % st < st := Nat.mod_lt _ (by omega)
    refine OW_EV (EV_quoN n st rfl rfl (by omega) rfl (by omega) (by omega)) rfl ?_
    generalize n / st = z at hq hq2 h4 ⊢
    (repeat' first|refine kW ?_|refine kU fun bk=>?_|refine kV fun hc=>?_|refine kZ (fun hc=>?_) fun hc=>?_|fail)
    refine OW_EV (EV_remN n st rfl rfl rfl rfl (by omega)) rfl ?_
    generalize n % st = y at hr ⊢
    have hp : 2 ^ (z - 1) ≤ 2 ^ 20 := Nat.pow_le_pow_right (by decide) h4
    have hpm : (st + y) * 2 ^ (z - 1) ≤ 200 * 2 ^ 20 := Nat.mul_le_mul (by omega) hp
    (repeat' first|refine kW ?_|refine kU fun bk=>?_|refine kV fun hc=>?_|refine kZ (fun hc=>?_) fun hc=>?_|fail)
    rw [show (z : Int) - 1 = ((z - 1 : Nat) : Int) from by omega, show (st : Int) + (y : Int) = ((st + y : Nat) : Int) from by omega]
    refine OW_EV (EV_shl64 (st + y) (z - 1) rfl rfl rfl (by omega) (by omega) (by omega)) rfl ?_
    (repeat' first|refine kW ?_|refine kU fun bk=>?_|refine kV fun hc=>?_|refine kZ (fun hc=>?_) fun hc=>?_|fail)
    exact kE
end Go.Proofs.YtdcehmhelfohfaaDoor
namespace Go.If
open Go.Vx Go.Hf
set_option linter.all false
def ordL : List Nat := [16, 17, 18, 0, 8, 7, 9, 6, 10, 5, 11, 4, 12, 3, 13, 2, 14, 1, 15]
def rpB (k : Nat) : Nat := if k = 16 then 2 else if k = 17 then 3 else if k = 18 then 7 else 0
def rpA (k : Nat) : Nat := if k = 16 then 3 else if k = 17 then 3 else if k = 18 then 11 else 1
theorem lnB_b : ∀ k, k < 286 → 257 ≤ k → (lnB k).1 ≤ 258 ∧ (lnB k).2 ≤ 5 := by decide +kernel
theorem dsB_b : ∀ t, t < 30 → baB 1 2 4 t ≤ 32768 ∧ exB t 2 4 ≤ 13 := by decide +kernel
end Go.If
namespace Go.Proofs.YtdcehmhelfohfaaDoor
open Go Go.Vx Go.Hf Go.If
variable [W0]
set_option maxRecDepth 4000
set_option linter.all false
set_option maxHeartbeats 2000000 in
theorem slength_n (k : Nat) (L : List Chunk) (h1 : 257 ≤ k) (h2 : k ≤ 285) :
    GvP Tryd.prog 89 [.int .i64 (k : Int)].toArray L (.tuple #[.int .i64 (((lnB k).1 : Nat) : Int), .int .i64 (((lnB k).2 : Nat) : Int)]) := by
  refine Gv.of_body Tryd.func89 rfl rfl ?_
  by_cases h285 : k = 285
  · subst h285
    (repeat' first|refine kW ?_|refine kU fun bk=>?_|refine kV fun hc=>?_|refine kZ (fun hc=>?_) fun hc=>?_|fail)
    refine kR ?_
    exact ⟨_, iC, rfl, rfl⟩
  · have hsp := sp_len (k - 257) (by omega)
    have hb := lnB_b k (by omega) h1
    have e1 : (lnB k).1 = 3 + spF (k - 257) 4 ∧ (lnB k).2 = spX (k - 257) 4 := by
      unfold lnB
      rw [if_neg h285]
      exact ⟨hsp.1.symm, hsp.2.symm⟩
    rw [e1.1, e1.2] at hb ⊢
    have hspn := span_n (k - 257) 4 L (by omega) (by decide) (by decide) (by omega)
    generalize spX (k - 257) 4 = x4 at hspn hb ⊢
    generalize spF (k - 257) 4 = f4 at hspn hb ⊢
    (repeat' first|refine kW ?_|refine kU fun bk=>?_|refine kV fun hc=>?_|refine kZ (fun hc=>?_) fun hc=>?_|fail)
    rw [show (k : Int) - 256 - 1 = ((k - 257 : Nat) : Int) from by omega]
    refine OW_callP rfl rfl rfl hspn rfl ?_
    (repeat' first|refine kW ?_|refine kU fun bk=>?_|refine kV fun hc=>?_|refine kZ (fun hc=>?_) fun hc=>?_|fail)
    rw [show (3 : Int) + (f4 : Int) = ((3 + f4 : Nat) : Int) from by omega]
    refine kR ?_
    exact ⟨_, iC, rfl, rfl⟩
set_option maxHeartbeats 2000000 in
theorem sdistance_n (t : Nat) (L : List Chunk) (h1 : t < 30) :
    GvP Tryd.prog 90 [.int .i64 (t : Int)].toArray L (.tuple #[.int .i64 ((baB 1 2 4 t : Nat) : Int), .int .i64 ((exB t 2 4 : Nat) : Int)]) := by
  refine Gv.of_body Tryd.func90 rfl rfl ?_
  have hsp := sp_dst t h1
  have hb := dsB_b t h1
  rw [← hsp.1, ← hsp.2] at hb ⊢
  have hspn := span_n t 2 L (by omega) (by decide) (by decide) (by omega)
  generalize spX t 2 = x4 at hspn hb ⊢
  generalize spF t 2 = f4 at hspn hb ⊢
  (repeat' first|refine kW ?_|refine kU fun bk=>?_|refine kV fun hc=>?_|refine kZ (fun hc=>?_) fun hc=>?_|fail)
  refine OW_callP rfl rfl rfl hspn rfl ?_
  (repeat' first|refine kW ?_|refine kU fun bk=>?_|refine kV fun hc=>?_|refine kZ (fun hc=>?_) fun hc=>?_|fail)
  rw [show (1 : Int) + (f4 : Int) = ((1 + f4 : Nat) : Int) from by omega]
  refine kR ?_
  exact ⟨_, iC, rfl, rfl⟩
theorem srun_n (k : Nat) (L : List Chunk) (h : k ≤ 1000000) :
    GvP Tryd.prog 92 [.int .i64 (k : Int)].toArray L (.tuple #[.int .i64 ((rpA k : Nat) : Int), .int .i64 ((rpB k : Nat) : Int)]) := by
  refine Gv.of_body Tryd.func92 rfl rfl ?_
  (repeat' first|refine kW ?_|refine kU fun bk=>?_|refine kV fun hc=>?_|refine kZ (fun hc=>?_) fun hc=>?_|fail)
  · have : k = 16 := by omega
    subst this
    refine kR ?_
    exact ⟨_, iC, rfl, rfl⟩
  · have : k = 17 := by omega
    subst this
    refine kR ?_
    exact ⟨_, iC, rfl, rfl⟩
  · have : k = 18 := by omega
    subst this
    refine kR ?_
    exact ⟨_, iC, rfl, rfl⟩
  · have e1 : rpA k = 1 := by unfold rpA; rw [if_neg (by omega), if_neg (by omega), if_neg (by omega)]
    have e2 : rpB k = 0 := by unfold rpB; rw [if_neg (by omega), if_neg (by omega), if_neg (by omega)]
    rw [e1, e2]
    refine kR ?_
    exact ⟨_, iC, rfl, rfl⟩
def OrAt (L : List Chunk) : Prop := ∃ c T fr, Fnd L 0 (.cells c T fr) ∧ ∀ i, i < 19 → c[i]? = some (.int .i64 (ordL.getD i 0 : Int))
theorem OrAt.there {L : List Chunk} {C : Chunk} (h : OrAt L) : OrAt (C :: L) := by
  obtain ⟨c, T, fr, h1, h2⟩ := h
  exact ⟨c, T, fr, h1.there, h2⟩
theorem sordered_n (i : Nat) (L : List Chunk) (hor : OrAt L) (h : i < 19) :
    GvP Tryd.prog 91 [.int .i64 (i : Int)].toArray L (.int .i64 ((ordL.getD i 0 : Nat) : Int)) := by
  refine Gv.of_body Tryd.func91 rfl rfl ?_
  obtain ⟨c, T, fr, h1, h2⟩ := hor
  have h3 := h2 i h
  obtain ⟨z, hz⟩ : ∃ z, z = ordL.getD i 0 := ⟨_, rfl⟩
  rw [← hz] at h3 ⊢
  (repeat' first|refine kW ?_|refine kU fun bk=>?_|refine kV fun hc=>?_|refine kZ (fun hc=>?_) fun hc=>?_|fail)
  refine OW_EV (EV_indexAddrA' i rfl rfl rfl (by omega)) rfl ?_
  (repeat' first|refine kW ?_|refine kU fun bk=>?_|refine kV fun hc=>?_|refine kZ (fun hc=>?_) fun hc=>?_|fail)
  refine OW_EV (EV_load rfl h1 (by simpa using h3)) rfl ?_
  (repeat' first|refine kW ?_|refine kU fun bk=>?_|refine kV fun hc=>?_|refine kZ (fun hc=>?_) fun hc=>?_|fail)
  refine kR ?_
  exact ⟨_, iC, rfl, rfl⟩
end Go.Proofs.YtdcehmhelfohfaaDoor
namespace Go.Proofs.YtdcehmhelfohfaaDoor
open Go Go.Vx Go.Hf Go.If
variable [W0]
set_option maxRecDepth 4000
set_option linter.all false
set_option maxHeartbeats 4000000 in
theorem plength_n (p q most k : Nat) (v kn : Value) (d : List UInt8) (s : S6) (D E : Chunk) (L : List Chunk) (h : RdN q d s.t D E) (hl : d.length ≤ 140737488355328) (he : s.e = 0) (hk1 : 257 ≤ k) (hk2 : k ≤ 1000) :
    Gv Tryd.prog 79 [.pointer (some ⟨p, 0, none⟩), .int .i64 (k : Int)].toArray (rdR p q v most kn :: D :: E :: L) (fun r L' =>
      ((lnS d k s).e ≠ 0 ∧ r = .tuple #[.int .i64 0, .int .i64 ((lnS d k s).e : Int)] ∧ L' = L) ∨
      ((lnS d k s).e = 0 ∧ k ≤ 285 ∧ r = .tuple #[.int .i64 (((lnB k).1 + tv d s (lnB k).2 : Nat) : Int), .int .i64 0] ∧ ∃ D', RdN q d (lnS d k s).t D' E ∧ L' = rdR p q v most kn :: D' :: E :: L)) := by
  refine Gv.of_body Tryd.func79 rfl rfl ?_
  by_cases h285 : 285 < k
  · unfold lnS
    rw [if_pos h285, fl_e, if_pos he]
    (repeat' first|refine kW ?_|refine kU fun bk=>?_|refine kV fun hc=>?_|refine kZ (fun hc=>?_) fun hc=>?_|fail)
    refine WQ_retI (rs := [.tmp 4, .tmp 5]) (vs := [.int .i64 0, .int .i64 3]) rfl rfl ?_
    exact ⟨_, iC, .inl ⟨by decide, rfl, rfl⟩⟩
  · unfold lnS
    rw [if_neg h285]
    have hb := lnB_b k (by omega) hk1
    have hsl := slength_n k (rdR p q v most kn :: D :: E :: L) hk1 (by omega)
    have hcn := pcount_n p q most (lnB k).2 (lnB k).1 v kn d s D E L h hl (by omega) he (by omega)
    generalize lnB k = lk at hb hsl hcn ⊢
    generalize tv d s lk.2 = z at hcn ⊢
    generalize tk d s lk.2 = s1 at hcn ⊢
    (repeat' first|refine kW ?_|refine kU fun bk=>?_|refine kV fun hc=>?_|refine kZ (fun hc=>?_) fun hc=>?_|fail)
    refine OW_callP rfl rfl rfl hsl rfl ?_
    (repeat' first|refine kW ?_|refine kU fun bk=>?_|refine kV fun hc=>?_|refine kZ (fun hc=>?_) fun hc=>?_|fail)
    refine OW_call rfl rfl rfl hcn rfl (fun r L' hp => ?_)
    rcases hp with ⟨h1, rfl, rfl⟩ | ⟨h1, rfl, D', hr, rfl⟩
    · (repeat' first|refine kW ?_|refine kU fun bk=>?_|refine kV fun hc=>?_|refine kZ (fun hc=>?_) fun hc=>?_|fail)
      refine kR ?_
      exact ⟨_, iC, .inl ⟨h1, rfl, rfl⟩⟩
    · (repeat' first|refine kW ?_|refine kU fun bk=>?_|refine kV fun hc=>?_|refine kZ (fun hc=>?_) fun hc=>?_|fail)
      refine kR ?_
      exact ⟨_, iC, .inr ⟨h1, by omega, rfl, D', hr, rfl⟩⟩
set_option maxHeartbeats 4000000 in
theorem pdist_n (p q pc most : Nat) (v kn : Value) (dl : List Nat) (d : List UInt8) (s : S6) (D E Cd : Chunk) (L : List Chunk) (h : RdN q d s.t D E) (hl : d.length ≤ 140737488355328) (he : s.e = 0)
    (hC : CoD dl pc Cd) (hk : kS dl ≤ 32768) (h15 : ∀ x ∈ dl, x ≤ 15) (h400 : dl.length ≤ 400) :
    Gv Tryd.prog 80 [.pointer (some ⟨p, 0, none⟩), .pointer (some ⟨pc, 0, none⟩)].toArray (rdR p q v most kn :: D :: E :: Cd :: L) (fun r L' =>
      ((dsS d dl s).e ≠ 0 ∧ r = .tuple #[.int .i64 0, .int .i64 ((dsS d dl s).e : Int)] ∧ L' = L) ∨
      ((dsS d dl s).e = 0 ∧ r = .tuple #[.int .i64 ((dsV d dl s : Nat) : Int), .int .i64 0] ∧ dsV d dl s ≤ 1000000 ∧ 1 ≤ dsV d dl s ∧ ∃ D', RdN q d (dsS d dl s).t D' E ∧ L' = rdR p q v most kn :: D' :: E :: Cd :: L)) := by
  refine Gv.of_body Tryd.func80 rfl rfl ?_
  have hr := hread_n pc q s.t dl d Cd D E (rdR p q v most kn :: L) hC hk h15 h400 h hl
  have hsv : sv d s dl = (rdS dl (val d) s.t (8 * d.length) 16 0).1 := by unfold sv; rw [if_pos he]
  have hsy : sy d s dl = ⟨s.t + (rdS dl (val d) s.t (8 * d.length) 16 0).2.2, s.out, (rdS dl (val d) s.t (8 * d.length) 16 0).2.1⟩ := by unfold sy fl; rw [if_pos he, if_pos (by exact he)]
  have hlt := (rdS_lt dl (val d) s.t (8 * d.length) 16 0).1
  rw [← hsv] at hr hlt
  have e1 : s.t + (rdS dl (val d) s.t (8 * d.length) 16 0).2.2 = (sy d s dl).t := by rw [hsy]
  have e2 : (rdS dl (val d) s.t (8 * d.length) 16 0).2.1 = (sy d s dl).e := by rw [hsy]
  rw [e1, e2] at hr
  clear hsy hsv e1 e2
  unfold dsS dsV
  generalize sv d s dl = t at hr hlt ⊢
  generalize sy d s dl = s1 at hr ⊢
  unfold rdR at hr ⊢
  (repeat' first|refine kW ?_|refine kU fun bk=>?_|refine kV fun hc=>?_|refine kZ (fun hc=>?_) fun hc=>?_|fail)
  refine OW_call rfl rfl rfl (Gv.holds hr (fun w h => iH h)) rfl (fun r L' hp => ?_)
  obtain ⟨D1, rfl, hR1, rfl⟩ := hp
  (repeat' first|refine kW ?_|refine kU fun bk=>?_|refine kV fun hc=>?_|refine kZ (fun hc=>?_) fun hc=>?_|fail)
  · rw [if_pos (show s1.e ≠ 0 by omega)]
    refine kR ?_
    exact ⟨_, iC, .inl ⟨by omega, rfl, rfl⟩⟩
  · have h0 : s1.e = 0 := by omega
    rw [if_neg (show ¬ s1.e ≠ 0 by omega), if_pos (show 29 < t by omega), fl_e, if_pos h0]
    refine WQ_retI (rs := [.tmp 4, .tmp 5]) (vs := [.int .i64 0, .int .i64 3]) rfl rfl ?_
    exact ⟨_, iC, .inl ⟨by decide, rfl, rfl⟩⟩
  · have h0 : s1.e = 0 := by omega
    rw [if_neg (show ¬ s1.e ≠ 0 by omega), if_neg (show ¬ 29 < t by omega)]
    have hb := dsB_b t (by omega)
    have hb1 : 1 ≤ baB 1 2 4 t := by have := (sp_dst t (by omega)).1; omega
    have hsp := fun L => sdistance_n t L (by omega)
    have hcn := pcount_n p q most (exB t 2 4) (baB 1 2 4 t) v kn d s1 D1 E (Cd :: L) hR1 hl (by omega) h0 (by omega)
    have hvl := tv_lt d s1 (exB t 2 4)
    have hpw : 2 ^ exB t 2 4 ≤ 2 ^ 13 := Nat.pow_le_pow_right (by decide) hb.2
    generalize exB t 2 4 = x4 at hsp hcn hvl hpw hb ⊢
    generalize baB 1 2 4 t = f4 at hsp hcn hb hb1 ⊢
    generalize tv d s1 x4 = z at hcn hvl ⊢
    generalize tk d s1 x4 = s2 at hcn ⊢
    unfold rdR at hcn
    refine OW_callP rfl rfl rfl (hsp _) rfl ?_
    (repeat' first|refine kW ?_|refine kU fun bk=>?_|refine kV fun hc=>?_|refine kZ (fun hc=>?_) fun hc=>?_|fail)
    refine OW_call rfl rfl rfl (Gv.holds hcn (fun w h => iH h)) rfl (fun r L' hp => ?_)
    rcases hp with ⟨h1, rfl, rfl⟩ | ⟨h1, rfl, D', hr, rfl⟩
    · (repeat' first|refine kW ?_|refine kU fun bk=>?_|refine kV fun hc=>?_|refine kZ (fun hc=>?_) fun hc=>?_|fail)
      refine kR ?_
      exact ⟨_, iC, .inl ⟨h1, rfl, rfl⟩⟩
    · (repeat' first|refine kW ?_|refine kU fun bk=>?_|refine kV fun hc=>?_|refine kZ (fun hc=>?_) fun hc=>?_|fail)
      refine kR ?_
      exact ⟨_, iC, .inr ⟨h1, rfl, by omega, by omega, D', hr, rfl⟩⟩
end Go.Proofs.YtdcehmhelfohfaaDoor
namespace Go.If
open Go.Vx Go.Hf
set_option linter.all false
theorem dsS_out [W0] (d : List UInt8) (dl : List Nat) (s : S6) : (dsS d dl s).out = s.out := by
  have h : (sy d s dl).out = s.out := by
    unfold sy
    split
    · exact fl_out _ _
    · rfl
  unfold dsS
  split
  · exact h
  · split
    · rw [fl_out, h]
    · rw [tk_out, h]
end Go.If
namespace Go.Proofs.YtdcehmhelfohfaaDoor
open Go Go.Vx Go.Hf Go.If
variable [W0]
set_option maxRecDepth 4000
set_option linter.all false
set_option maxHeartbeats 8000000 in
theorem pmatch_n (p q pc most k : Nat) (v kn : Value) (dl : List Nat) (d : List UInt8) (s : S6) (D E C Cd : Chunk) (L : List Chunk) (h : RdN q d s.t D E) (hl : d.length ≤ 140737488355328) (he : s.e = 0) (hm : most ≤ 1000000) (hkn : kn.oneCell' = true)
    (ho : Ow 5 1 v s.out.length (bsv s.out) C) (hom : s.out.length ≤ most) (hk1 : 257 ≤ k) (hk2 : k ≤ 1000) (hC : CoD dl pc Cd) (hk : kS dl ≤ 32768) (h15 : ∀ x ∈ dl, x ≤ 15) (h400 : dl.length ≤ 400) :
    Gv Tryd.prog 69 [.pointer (some ⟨p, 0, none⟩), .int .i64 (k : Int), .pointer (some ⟨pc, 0, none⟩)].toArray (rdR p q v most kn :: D :: E :: C :: Cd :: L) (fun r L' =>
      ((mtS d most k dl s).e ≠ 0 ∧ r = .int .i64 ((mtS d most k dl s).e : Int) ∧ L' = L) ∨
      ((mtS d most k dl s).e = 0 ∧ r = .int .i64 0 ∧ ∃ v' D' C', Ow 5 1 v' (mtS d most k dl s).out.length (bsv (mtS d most k dl s).out) C' ∧ (mtS d most k dl s).out.length ≤ most ∧ RdN q d (mtS d most k dl s).t D' E ∧ L' = rdR p q v' most kn :: D' :: E :: C' :: Cd :: L)) := by
  refine Gv.of_body Tryd.func69 rfl rfl ?_
  have hlen := plength_n p q most k v kn d s D E (C :: Cd :: L) h hl he hk1 hk2
  have hx1 := mtS_err1 (d := d) (most := most) (k := k) (dl := dl) (s := s)
  (repeat' first|refine kW ?_|refine kU fun bk=>?_|refine kV fun hc=>?_|refine kZ (fun hc=>?_) fun hc=>?_|fail)
  refine OW_call rfl rfl rfl hlen rfl (fun r L' hp => ?_)
  rcases hp with ⟨h1, rfl, rfl⟩ | ⟨h1, h285, rfl, D1, hr1, rfl⟩
  · have q := hx1 h1
    rw [← q] at h1 ⊢
    generalize mtS d most k dl s = S at h1 ⊢
    (repeat' first|refine kW ?_|refine kU fun bk=>?_|refine kV fun hc=>?_|refine kZ (fun hc=>?_) fun hc=>?_|fail)
    refine kR ?_
    exact ⟨_, iC, .inl ⟨h1, rfl, rfl⟩⟩
  clear hlen hx1
  have hlns : lnS d k s = tk d s (lnB k).2 := by unfold lnS; rw [if_neg (by omega)]
  have hlb : (lnB k).1 ≤ 400 ∧ (lnB k).2 ≤ 6 := by
    unfold lnB
    split
    · exact ⟨by decide, by decide⟩
    · exact ⟨baL_le _ (by omega), exL_le _ (by omega)⟩
  have htv := tv_lt d s (lnB k).2
  have hpw : 2 ^ (lnB k).2 ≤ 2 ^ 6 := Nat.pow_le_pow_right (by decide) hlb.2
  rw [hlns] at h1 hr1
  have hx2 := mtS_err2 (d := d) (most := most) (k := k) (dl := dl) (s := s) (by omega)
  have hok := mtS_ok (d := d) (most := most) (k := k) (dl := dl) (s := s) (by omega)
  have hso : (tk d s (lnB k).2).out = s.out := tk_out _ _ _
  rw [← hso] at ho hom
  obtain ⟨n, hn⟩ : ∃ n, n = (lnB k).1 + tv d s (lnB k).2 := ⟨_, rfl⟩
  rw [← hn] at hok ⊢
  have hn464 : n ≤ 464 := by omega
  generalize tk d s (lnB k).2 = s1 at h1 hr1 hx2 hok ho hom
  have hdi := pdist_n p q pc most v kn dl d s1 D1 E Cd (C :: L) hr1 hl h1 hC hk h15 h400
  have hdo := dsS_out d dl s1
  generalize mtS d most k dl s = R at hx2 hok ⊢
  generalize dsV d dl s1 = far at hdi hok
  rw [← hdo] at ho hom
  generalize dsS d dl s1 = s2 at hdi hok hx2 ho hom
  clear htv hpw hn hlb hlns
  unfold rdR at hdi ⊢
  (repeat' first|refine kW ?_|refine kU fun bk=>?_|refine kV fun hc=>?_|refine kZ (fun hc=>?_) fun hc=>?_|fail)
  refine OW_call rfl rfl rfl (Gv.holds hdi (fun w h => iH h)) rfl (fun r L' hp => ?_)
  rcases hp with ⟨h2, rfl, rfl⟩ | ⟨h2, rfl, hf1, hf2, D2, hr2, rfl⟩
  · have q := hx2 h2
    rw [← q] at h2 ⊢
    (repeat' first|refine kW ?_|refine kU fun bk=>?_|refine kV fun hc=>?_|refine kZ (fun hc=>?_) fun hc=>?_|fail)
    refine kR ?_
    exact ⟨_, iC, .inl ⟨h2, rfl, rfl⟩⟩
  have hok := hok h2
  obtain ⟨va, vc, rfl⟩ := ow_slc ho
  (repeat' first|refine kW ?_|refine kU fun bk=>?_|refine kV fun hc=>?_|refine kZ (fun hc=>?_) fun hc=>?_|fail)
  · rw [if_pos (show s2.out.length < far by omega)] at hok
    have e3 : (fl s2 3).e = 3 := by rw [fl_e, if_pos h2]
    rw [cpL_err (by rw [e3]; decide)] at hok
    rw [hok, e3]
    refine kR ?_
    exact ⟨_, iC, .inl ⟨by decide, rfl, rfl⟩⟩
  rw [if_neg (show ¬ s2.out.length < far by omega)] at hok
  refine WC_drawAll [] mixed ?_
  (refine WR_t 0 ?_; refine WR_t 1 ?_; refine WR_t 2 ?_; refine WR_t 3 ?_; refine WR_t 4 ?_; refine WR_t 5 ?_; refine WR_t 6 ?_; refine WR_t 7 ?_; refine WR_t 8 ?_; refine WR_t 9 ?_; refine WR_t 10 ?_; refine WR_t 11 ?_)
  (refine WR_done (by kernel_rfl) ?_)
  (repeat' first|refine kW ?_|refine kU fun bk=>?_|refine kV fun hc=>?_|refine kZ (fun hc=>?_) fun hc=>?_|fail)
  · rw [hok, cpL_over most far n s2 h2 hom (by omega)]
    refine kR ?_
    exact ⟨_, iC, .inl ⟨by decide, rfl, rfl⟩⟩
  have hfit : s2.out.length + n ≤ most := by omega
  refine WC_loop (X := Nat × S6 × Value × Chunk) (fun x => [(0, .pointer (some ⟨p, 0, none⟩)), (9, .int .i64 (far : Int)), (47, .int .i64 (n : Int)), (48, .int .i64 (x.1 : Int))]) (fun x => rdR p q x.2.2.1 most kn :: x.2.2.2 :: D2 :: E :: Cd :: L)
    (fun x => x.1 ≤ n ∧ x.2.1.t = s2.t ∧ x.2.1.e = 0 ∧ Ow 5 1 x.2.2.1 x.2.1.out.length (bsv x.2.1.out) x.2.2.2 ∧ x.2.1.out.length = s2.out.length + x.1 ∧ cpL most far (n - x.1) x.2.1 = R) (fun x => n - x.1) (0, s2, .slice va s2.out.length vc, C) ⟨Nat.zero_le _, rfl, h2, ho, rfl, hok.symm⟩ iS (fun w h => iH h) ?_
  rintro ⟨i, s5, v1, C1⟩ ⟨hi, hst, he5, hov, hol, hsl⟩
  simp only at hi hst he5 hov hol hsl ⊢
  obtain ⟨wa, wc, rfl⟩ := ow_slc hov
  unfold rdR
  (repeat' first|refine kW ?_|refine kU fun bk=>?_|refine kV fun hc=>?_|refine kZ (fun hc=>?_) fun hc=>?_|fail)
  · obtain ⟨k2, hk2⟩ : ∃ k2, n - i = k2 + 1 := ⟨n - i - 1, by omega⟩
    have hk3 : n - (i + 1) = k2 := by omega
    rw [hk2, cpL, if_pos he5, pt_ok (by omega)] at hsl
    have hov2 := hov
    rcases hov2 with ⟨_, h1, _⟩ | ⟨b, cap, rest, hve, rfl, hxl, hrl, hmc, hcm⟩
    · omega
    injection hve with e1 e2 e3
    subst e1 e3
    clear e2
    have hcell : (bsv s5.out ++ rest).toArray[(s5.out.length - far) * 1]? = some (.int .u8 ((s5.out.getD (s5.out.length - far) 0).toNat : Int)) := by
      rw [Nat.mul_one]
      simpa using getE_app (r := rest) (bsv_get (l := s5.out) (i := s5.out.length - far) (b := s5.out.getD (s5.out.length - far) 0) (by simp [List.getD, show s5.out.length - far < s5.out.length from by omega]))
    generalize s5.out.getD (s5.out.length - far) 0 = cc at hsl hcell
    refine WC_draw [[(p, cl [.pointer (some ⟨q, 0, none⟩), .slice (some ⟨b, 0, none⟩) s5.out.length wc, .int .i64 (most : Int), kn] 47)]] [22] mixed ?_
    (refine WR_t 0 ?_; refine WR_t 1 ?_; refine WR_t 2 ?_; refine WR_t 3 ?_; refine WR_t 4 ?_; refine WR_t 5 ?_; refine WR_t 6 ?_; refine WR_t 7 ?_; refine WR_t 8 ?_; refine WR_t 9 ?_; refine WR_t 10 ?_; refine WR_t 11 ?_; refine WR_t 12 ?_; refine WR_t 13 ?_; refine WR_t 14 ?_; refine WR_t 15 ?_)
    rw [show (s5.out.length : Int) - (far : Int) = ((s5.out.length - far : Nat) : Int) from by omega]
    (refine WR_take 16 rfl rfl (by kernel_rfl) iP iC (EV_indexAddr0 (j := s5.out.length - far) (len := s5.out.length) rfl rfl rfl (by omega)) (by rfl) ?_)
    (refine WR_one 17 (by kernel_rfl) rfl rfl ?_)
    refine OW_EV (EV_load rfl (by exact Fnd.there Fnd.here) hcell) rfl ?_
    refine ⟨iC, ?_⟩
    (refine WR_one 18 (by kernel_rfl) rfl rfl ?_)
    refine OW_buildSlice (cs := [.int .u8 (cc.toNat : Int)]) rfl (by rfl) (by first | (simp [fillL, patch, Value.cells, zeros]; done) | (simp [fillL, patch, Value.cells, zeros]; rfl)) (by omega) rfl rfl (fun bn => ?_)
    refine ⟨iC, ?_⟩
    (refine WR_one 19 (by kernel_rfl) rfl rfl ?_)
    refine OW_append rfl rfl hov (sl_cells (k := 1) (c := #[.int .u8 (cc.toNat : Int)]) (xs := [.int .u8 (cc.toNat : Int)]) (m := 1) Fnd.here rfl (by simp)) (by repeat (first | exact Zip.here _ | apply Zip.there)) rfl (by rfl) (by omega) (by simp [maxLen]; omega) rfl (fun v' C' ho' _ _ => ?_)
    refine ⟨iC, ?_⟩
    (refine WR_t 20 ?_; refine WR_t 21 ?_)
    (refine WR_last 22 (by kernel_rfl) rfl rfl rfl ?_)
    refine OW_storeTo [.pointer (some ⟨q, 0, none⟩), v', .int .i64 (most : Int), kn] rfl rfl (by rcases ho' with ⟨rfl, _⟩ | ⟨_, _, _, rfl, _⟩ <;> rfl) rfl iU (by simp) ?_
    (refine WR_done (by kernel_rfl) ?_)
    (repeat' first|refine kW ?_|refine kU fun bk=>?_|refine kV fun hc=>?_|refine kZ (fun hc=>?_) fun hc=>?_|fail)
    rw [show bsv s5.out ++ [Value.int .u8 (cc.toNat : Int)] = bsv (s5.out ++ [cc]) from by simp [bsv]] at ho'
    refine WQ_round (X := Nat × S6 × Value × Chunk) (μ := fun x => n - x.1) (x := (i, s5, .slice (some ⟨b, 0, none⟩) s5.out.length wc, [(b, cl (bsv s5.out ++ rest) 5)])) (i + 1, ⟨s5.t, s5.out ++ [cc], s5.e⟩, v', C') (by simp only; omega) ⟨by simp only; omega, hst, he5, by simpa using ho', by simp; omega, by simp only; rw [hk3]; exact hsl⟩ iS (fun w h => iH h)
  · obtain rfl : i = n := by omega
    rw [show i - i = 0 from by omega, cpL] at hsl
    subst hsl
    refine kR ?_
    exact ⟨_, iC, .inr ⟨he5, rfl, _, D2, C1, hov, by omega, by rw [hst]; exact hr2, rfl⟩⟩
end Go.Proofs.YtdcehmhelfohfaaDoor
namespace Go.If
open Go.Vx Go.Hf
set_option linter.all false
theorem stL_err [W0] {d : List UInt8} {most : Nat} {s : S6} (h : s.e ≠ 0) : ∀ k, stL d most k s = s
  | 0 => rfl
  | k + 1 => by rw [stL, if_neg h]
theorem tk_err {d : List UInt8} {s : S6} {n : Nat} (h : s.e ≠ 0) : (tk d s n).e = s.e := by
  unfold tk
  split
  · rfl
  · rw [fl_err h]
theorem stS_1 [W0] {d : List UInt8} {most : Nat} {s : S6} (h : (tk d ⟨8 * ((s.t + 7) / 8), s.out, s.e⟩ 16).e ≠ 0) : (stS d most s).e = (tk d ⟨8 * ((s.t + 7) / 8), s.out, s.e⟩ 16).e := by
  unfold stS
  simp only
  generalize tk d ⟨8 * ((s.t + 7) / 8), s.out, s.e⟩ 16 = s1 at h ⊢
  have h2 := tk_err (d := d) (n := 16) h
  split
  · rw [stL_err (by rw [h2]; exact h), h2]
  · rw [fl_err (by rw [h2]; exact h), stL_err (by rw [h2]; exact h), h2]
theorem stS_2 [W0] {d : List UInt8} {most : Nat} {s : S6} (h : (tk d (tk d ⟨8 * ((s.t + 7) / 8), s.out, s.e⟩ 16) 16).e ≠ 0) : (stS d most s).e = (tk d (tk d ⟨8 * ((s.t + 7) / 8), s.out, s.e⟩ 16) 16).e := by
  unfold stS
  simp only
  generalize tk d (tk d ⟨8 * ((s.t + 7) / 8), s.out, s.e⟩ 16) 16 = s2 at h ⊢
  split
  · rw [stL_err h]
  · rw [fl_err h, stL_err h]
theorem stS_3 [W0] {d : List UInt8} {most : Nat} {s : S6} (h : (tk d (tk d ⟨8 * ((s.t + 7) / 8), s.out, s.e⟩ 16) 16).e = 0) (h2 : tv d ⟨8 * ((s.t + 7) / 8), s.out, s.e⟩ 16 + tv d (tk d ⟨8 * ((s.t + 7) / 8), s.out, s.e⟩ 16) 16 ≠ 65535) : (stS d most s).e = 3 := by
  unfold stS
  simp only
  rw [if_neg h2]
  have e3 : (fl (tk d (tk d ⟨8 * ((s.t + 7) / 8), s.out, s.e⟩ 16) 16) 3).e = 3 := by rw [fl_e, if_pos h]
  rw [stL_err (by rw [e3]; decide), e3]
theorem stS_4 [W0] {d : List UInt8} {most : Nat} {s : S6} (h2 : tv d ⟨8 * ((s.t + 7) / 8), s.out, s.e⟩ 16 + tv d (tk d ⟨8 * ((s.t + 7) / 8), s.out, s.e⟩ 16) 16 = 65535) :
    stS d most s = stL d most (tv d ⟨8 * ((s.t + 7) / 8), s.out, s.e⟩ 16) (tk d (tk d ⟨8 * ((s.t + 7) / 8), s.out, s.e⟩ 16) 16) := by
  unfold stS
  simp only
  rw [if_pos h2]
theorem xor_compl {n m : Nat} (hn : n < 65536) (hm : m < 65536) : n ^^^ m = 65535 ↔ n + m = 65535 := by
  constructor
  · intro h
    have e : m = n ^^^ 65535 := by rw [← h, ← Nat.xor_assoc, Nat.xor_self, Nat.zero_xor]
    have h2 : n ^^^ 65535 = 65535 - n := by
      have e2 : 65535 - n = 2 ^ 16 - (n + 1) := by omega
      apply Nat.eq_of_testBit_eq
      intro i
      rw [Nat.testBit_xor, e2, Nat.testBit_two_pow_sub_succ (by omega), show (65535 : Nat) = 2 ^ 16 - 1 from rfl, Nat.testBit_two_pow_sub_one]
      by_cases hi : i < 16
      · simp [hi]
      · have : Nat.testBit n i = false := Nat.testBit_lt_two_pow (Nat.lt_of_lt_of_le hn (Nat.pow_le_pow_right (n := 2) (by decide) (show 16 ≤ i by omega)))
        simp [hi, this]
    omega
  · intro h
    have e : m = 2 ^ 16 - (n + 1) := by omega
    apply Nat.eq_of_testBit_eq
    intro i
    rw [Nat.testBit_xor, e, Nat.testBit_two_pow_sub_succ (by omega), show (65535 : Nat) = 2 ^ 16 - 1 from rfl, Nat.testBit_two_pow_sub_one]
    by_cases hi : i < 16
    · simp [hi]
    · have : Nat.testBit n i = false := Nat.testBit_lt_two_pow (Nat.lt_of_lt_of_le hn (Nat.pow_le_pow_right (n := 2) (by decide) (show 16 ≤ i by omega)))
      simp [hi, this]
end Go.If
namespace Go.Proofs.YtdcehmhelfohfaaDoor
open Go Go.Vx Go.Hf Go.If
variable [W0]
set_option maxRecDepth 4000
set_option linter.all false
theorem bit_xor16 {a b : Nat} (ha : a < 65536) (hb : b < 65536) : bitI .xor .i64 (a : Int) (b : Int) = some ((a ^^^ b : Nat) : Int) := by
  have h1 : a ^^^ b < 2 ^ 16 := Nat.xor_lt_two_pow ha hb
  have e : ((BitVec.ofInt 64 (a : Int) ^^^ BitVec.ofInt 64 (b : Int)).toNat) = a ^^^ b := by
    rw [BitVec.toNat_xor, BitVec.ofInt_natCast, BitVec.ofInt_natCast, BitVec.toNat_ofNat, BitVec.toNat_ofNat, Nat.mod_eq_of_lt (by omega), Nat.mod_eq_of_lt (by omega)]
  show some (IntKind.i64.wrap (((BitVec.ofInt 64 (a : Int) ^^^ BitVec.ofInt 64 (b : Int)).toNat : Nat) : Int)) = _
  rw [e]
  congr 1
  exact wrap_i64s (by omega)
set_option maxHeartbeats 8000000 in
theorem pstored_n (p q most : Nat) (v kn : Value) (d : List UInt8) (s : S6) (D E C : Chunk) (L : List Chunk) (h : RdN q d s.t D E) (hl : d.length ≤ 140737488355328) (he : s.e = 0) (hm : most ≤ 1000000) (hkn : kn.oneCell' = true)
    (ho : Ow 5 1 v s.out.length (bsv s.out) C) (hom : s.out.length ≤ most) :
    Gv Tryd.prog 45 [.pointer (some ⟨p, 0, none⟩)].toArray (rdR p q v most kn :: D :: E :: C :: L) (fun r L' =>
      ((stS d most s).e ≠ 0 ∧ r = .int .i64 ((stS d most s).e : Int) ∧ L' = L) ∨
      ((stS d most s).e = 0 ∧ r = .int .i64 0 ∧ ∃ v' D' C', Ow 5 1 v' (stS d most s).out.length (bsv (stS d most s).out) C' ∧ (stS d most s).out.length ≤ most ∧ RdN q d (stS d most s).t D' E ∧ L' = rdR p q v' most kn :: D' :: E :: C' :: L)) := by
  refine Gv.of_body Tryd.func45 rfl rfl ?_
  have hal := ralign_n q s.t d D E (rdR p q v most kn :: C :: L) h
  have x1 := stS_1 (d := d) (most := most) (s := s)
  have x2 := stS_2 (d := d) (most := most) (s := s)
  have x3 := stS_3 (d := d) (most := most) (s := s)
  have x4 := stS_4 (d := d) (most := most) (s := s)
  generalize stS d most s = R at x1 x2 x3 x4 ⊢
  obtain ⟨s0, hs0⟩ : ∃ s0 : S6, s0 = ⟨8 * ((s.t + 7) / 8), s.out, s.e⟩ := ⟨_, rfl⟩
  have e0 : s0.e = 0 := by rw [hs0]; exact he
  have o0 : s0.out = s.out := by rw [hs0]
  have t0 : 8 * ((s.t + 7) / 8) = s0.t := by rw [hs0]
  rw [t0] at hal
  rw [← hs0] at x1 x2 x3 x4
  rw [← o0] at ho hom
  clear hs0 o0 t0 he h
  have htk := fun D' hr => ptake_n p q most 16 v kn d s0 D' E (C :: L) hr hl (by decide) e0
  have hv1 := tv_lt d s0 16
  have ho1 := tk_out d s0 16
  generalize tv d s0 16 = n1 at htk hv1 x3 x4
  generalize tk d s0 16 = s1 at htk x1 x2 x3 x4 ho1
  unfold rdR at hal ⊢
  (repeat' first|refine kW ?_|refine kU fun bk=>?_|refine kV fun hc=>?_|refine kZ (fun hc=>?_) fun hc=>?_|fail)
  refine OW_call rfl rfl rfl (Gv.holds hal (fun w h => iH h)) rfl (fun r L' hp => ?_)
  obtain ⟨rfl, D0, hr0, rfl⟩ := hp
  have htk := htk D0 hr0
  unfold rdR at htk
  (repeat' first|refine kW ?_|refine kU fun bk=>?_|refine kV fun hc=>?_|refine kZ (fun hc=>?_) fun hc=>?_|fail)
  refine OW_call rfl rfl rfl (Gv.holds htk (fun w h => iH h)) rfl (fun r L' hp => ?_)
  rcases hp with ⟨h1, rfl, rfl⟩ | ⟨h1, rfl, D1, hr1, rfl⟩
  · have q := x1 h1
    rw [← q] at h1 ⊢
    (repeat' first|refine kW ?_|refine kU fun bk=>?_|refine kV fun hc=>?_|refine kZ (fun hc=>?_) fun hc=>?_|fail)
    refine kR ?_
    exact ⟨_, iC, .inl ⟨h1, rfl, rfl⟩⟩
  have htk := ptake_n p q most 16 v kn d s1 D1 E (C :: L) hr1 hl (by decide) h1
  have hv2 := tv_lt d s1 16
  have ho2 := tk_out d s1 16
  rw [← ho1, ← ho2] at ho hom
  generalize tv d s1 16 = n2 at htk hv2 x3 x4
  generalize tk d s1 16 = s2 at htk x2 x3 x4 ho2 ho hom
  unfold rdR at htk
  (repeat' first|refine kW ?_|refine kU fun bk=>?_|refine kV fun hc=>?_|refine kZ (fun hc=>?_) fun hc=>?_|fail)
  refine OW_call rfl rfl rfl (Gv.holds htk (fun w h => iH h)) rfl (fun r L' hp => ?_)
  rcases hp with ⟨h2, rfl, rfl⟩ | ⟨h2, rfl, D2, hr2, rfl⟩
  · have q := x2 h2
    rw [← q] at h2 ⊢
    (repeat' first|refine kW ?_|refine kU fun bk=>?_|refine kV fun hc=>?_|refine kZ (fun hc=>?_) fun hc=>?_|fail)
    refine kR ?_
    exact ⟨_, iC, .inl ⟨h2, rfl, rfl⟩⟩
  clear x1 x2
  have x3 := x3 h2
  have hxc := xor_compl hv1 hv2
  (repeat' first|refine kW ?_|refine kU fun bk=>?_|refine kV fun hc=>?_|refine kZ (fun hc=>?_) fun hc=>?_|fail)
  refine OW_EV (EV_bit rfl rfl (bit_xor16 hv1 hv2)) rfl ?_
  (repeat' first|refine kW ?_|refine kU fun bk=>?_|refine kV fun hc=>?_|refine kZ (fun hc=>?_) fun hc=>?_|fail)
  · have x3 := x3 (by omega)
    rw [x3]
    refine kR ?_
    exact ⟨_, iC, .inl ⟨by decide, rfl, rfl⟩⟩
  have x4 := x4 (by omega)
  clear x3 hxc
  obtain ⟨va, vc, rfl⟩ := ow_slc ho
  refine WC_loop (X := Nat × S6 × Value × Chunk × Chunk) (fun x => [(0, .pointer (some ⟨p, 0, none⟩)), (34, .int .i64 (n1 : Int)), (35, .int .i64 (x.1 : Int))]) (fun x => rdR p q x.2.2.1 most kn :: x.2.2.2.1 :: x.2.2.2.2 :: E :: L)
    (fun x => x.1 ≤ n1 ∧ x.2.1.e = 0 ∧ Ow 5 1 x.2.2.1 x.2.1.out.length (bsv x.2.1.out) x.2.2.2.1 ∧ x.2.1.out.length ≤ most ∧ RdN q d x.2.1.t x.2.2.2.2 E ∧ stL d most (n1 - x.1) x.2.1 = R) (fun x => n1 - x.1) (0, s2, .slice va s2.out.length vc, C, D2) ⟨Nat.zero_le _, h2, ho, hom, hr2, x4.symm⟩ iS (fun w h => iH h) ?_
  rintro ⟨i, s5, v1, C1, D5⟩ ⟨hi, he5, hov, hol, hr5, hsl⟩
  simp only at hi he5 hov hol hr5 hsl ⊢
  (repeat' first|refine kW ?_|refine kU fun bk=>?_|refine kV fun hc=>?_|refine kZ (fun hc=>?_) fun hc=>?_|fail)
  · obtain ⟨k2, hk2⟩ : ∃ k2, n1 - i = k2 + 1 := ⟨n1 - i - 1, by omega⟩
    have hk3 : n1 - (i + 1) = k2 := by omega
    rw [hk2, stL, if_pos he5] at hsl
    have htk := ptake_n p q most 8 v1 kn d s5 D5 E (C1 :: L) hr5 hl (by decide) he5
    have hv6 := tv_lt d s5 8
    have ho6 := tk_out d s5 8
    rw [← ho6] at hov
    generalize tv d s5 8 = x at htk hv6 hsl
    generalize tk d s5 8 = s6 at htk hsl ho6 hov
    unfold rdR at htk ⊢
    refine OW_call rfl rfl rfl (Gv.holds htk (fun w h => iH h)) rfl (fun r L' hp => ?_)
    rcases hp with ⟨h6, rfl, rfl⟩ | ⟨h6, rfl, D6, hr6, rfl⟩
    · rw [if_neg h6, stL_err h6] at hsl
      subst hsl
      (repeat' first|refine kW ?_|refine kU fun bk=>?_|refine kV fun hc=>?_|refine kZ (fun hc=>?_) fun hc=>?_|fail)
      refine kR ?_
      exact ⟨_, iC, .inl ⟨h6, rfl, rfl⟩⟩
    rw [if_pos h6] at hsl
    have hput := pput_n p q most (UInt8.ofNat x) v1 kn s6 C1 (D6 :: E :: L) hov hm h6 hkn
    have hpt := pt_t most s6 (UInt8.ofNat x)
    have hpl : (pt most s6 (UInt8.ofNat x)).e = 0 → (pt most s6 (UInt8.ofNat x)).out.length ≤ most := by
      intro hq
      by_cases hc : s6.out.length < most
      · rw [pt_ok hc]; simp; omega
      · rw [pt_no (by omega), fl_e, if_pos h6] at hq; cases hq
    generalize pt most s6 (UInt8.ofNat x) = s7 at hput hsl hpt hpl
    rw [byte_of (by omega)] at hput
    unfold rdR at hput
    (repeat' first|refine kW ?_|refine kU fun bk=>?_|refine kV fun hc=>?_|refine kZ (fun hc=>?_) fun hc=>?_|fail)
    try rw [wrap_byte]
    try rw [byte_of (by omega)]
    refine OW_call rfl rfl rfl (Gv.holds hput (fun w h => iH h)) rfl (fun r L' hp => ?_)
    rcases hp with ⟨h7, rfl, rfl⟩ | ⟨h7, rfl, v7, C7, ho7, rfl⟩
    · rw [stL_err h7] at hsl
      subst hsl
      (repeat' first|refine kW ?_|refine kU fun bk=>?_|refine kV fun hc=>?_|refine kZ (fun hc=>?_) fun hc=>?_|fail)
      refine kR ?_
      exact ⟨_, iC, .inl ⟨h7, rfl, rfl⟩⟩
    (repeat' first|refine kW ?_|refine kU fun bk=>?_|refine kV fun hc=>?_|refine kZ (fun hc=>?_) fun hc=>?_|fail)
    refine WQ_round (X := Nat × S6 × Value × Chunk × Chunk) (μ := fun x => n1 - x.1) (x := (i, s5, v1, C1, D5)) (i + 1, s7, v7, C7, D6) (by simp only; omega) ⟨by simp only; omega, h7, ho7, hpl h7, by simp only; rw [hpt]; exact hr6, by simp only; rw [hk3]; exact hsl⟩ iS (fun w h => iH h)
  · obtain rfl : i = n1 := by omega
    rw [show i - i = 0 from by omega, stL] at hsl
    subst hsl
    refine kR ?_
    exact ⟨_, iC, .inr ⟨he5, rfl, _, D5, C1, hov, hol, hr5, rfl⟩⟩
end Go.Proofs.YtdcehmhelfohfaaDoor
namespace Go.Vx
section
variable [W0] {P : Program} {n : Nat} {M : List (Nat × Value)} {L : List Chunk}
theorem WC_scope {c : Code} {fn : Func} {R : Ending → World → Prop} (h : WC P n c (bodyPost P fn R) M L) : WC P n (.scope c) (bodyPost P fn R) M L :=
  ⟨fun a w ha hw => wp_scope_straight (wp_mono (h.out a w ha hw) (fun e a' w' hq => by cases e <;> exact hq))⟩
end
end Go.Vx
namespace Go.Proofs.YtdcehmhelfohfaaDoor
open Go Go.Vx Go.Hf Go.If
variable [W0]
set_option maxRecDepth 4000
set_option linter.all false
omit [W0] in
/-- The two codes of a block. -/
def csC (pc pl pd : Nat) : Chunk := [(pc, cl [.pointer (some ⟨pl, 0, none⟩), .pointer (some ⟨pd, 0, none⟩)] 106)]
theorem psym_n (q pl : Nat) (l : List Nat) (d : List UInt8) (s : S6) (D E Cl : Chunk) (L : List Chunk) (h : RdN q d s.t D E) (hl : d.length ≤ 140737488355328) (he : s.e = 0)
    (hC : CoD l pl Cl) (hk : kS l ≤ 32768) (h15 : ∀ x ∈ l, x ≤ 15) (h400 : l.length ≤ 400) :
    Gv Tryd.prog 68 [.pointer (some ⟨pl, 0, none⟩), .pointer (some ⟨q, 0, none⟩)].toArray (Cl :: D :: E :: L) (fun r L' => ∃ D', r = .tuple #[.int .i64 ((sv d s l : Nat) : Int), .int .i64 ((sy d s l).e : Int)] ∧ RdN q d (sy d s l).t D' E ∧ L' = Cl :: D' :: E :: L) := by
  have hr := hread_n pl q s.t l d Cl D E L hC hk h15 h400 h hl
  have hsv : sv d s l = (rdS l (val d) s.t (8 * d.length) 16 0).1 := by unfold sv; rw [if_pos he]
  have hsy : sy d s l = ⟨s.t + (rdS l (val d) s.t (8 * d.length) 16 0).2.2, s.out, (rdS l (val d) s.t (8 * d.length) 16 0).2.1⟩ := by unfold sy fl; rw [if_pos he, if_pos (by exact he)]
  rw [← hsv] at hr
  have e1 : s.t + (rdS l (val d) s.t (8 * d.length) 16 0).2.2 = (sy d s l).t := by rw [hsy]
  have e2 : (rdS l (val d) s.t (8 * d.length) 16 0).2.1 = (sy d s l).e := by rw [hsy]
  rw [e1, e2] at hr
  exact hr
set_option maxHeartbeats 8000000 in
theorem pcoded_n (p q pc pl pd most : Nat) (v kn : Value) (l dl : List Nat) (d : List UInt8) (s : S6) (D E C Cl Cd : Chunk) (L : List Chunk) (h : RdN q d s.t D E) (hl : d.length ≤ 140737488355328) (he : s.e = 0) (hm : most ≤ 1000000) (hkn : kn.oneCell' = true)
    (ho : Ow 5 1 v s.out.length (bsv s.out) C) (hom : s.out.length ≤ most) (hCl : CoD l pl Cl) (hkl : kS l ≤ 32768) (h15l : ∀ x ∈ l, x ≤ 15) (h400l : l.length ≤ 400) (hC : CoD dl pd Cd) (hk : kS dl ≤ 32768) (h15 : ∀ x ∈ dl, x ≤ 15) (h400 : dl.length ≤ 400) :
    Gv Tryd.prog 58 [.pointer (some ⟨p, 0, none⟩), .pointer (some ⟨pc, 0, none⟩)].toArray (rdR p q v most kn :: D :: E :: C :: csC pc pl pd :: Cl :: Cd :: L) (fun r L' =>
      ((cdC d most l dl (8 * d.length + 1) s).e ≠ 0 ∧ r = .int .i64 ((cdC d most l dl (8 * d.length + 1) s).e : Int) ∧ L' = L) ∨
      ((cdC d most l dl (8 * d.length + 1) s).e = 0 ∧ r = .int .i64 0 ∧ ∃ v' D' C', Ow 5 1 v' (cdC d most l dl (8 * d.length + 1) s).out.length (bsv (cdC d most l dl (8 * d.length + 1) s).out) C' ∧ (cdC d most l dl (8 * d.length + 1) s).out.length ≤ most ∧ RdN q d (cdC d most l dl (8 * d.length + 1) s).t D' E ∧
        L' = rdR p q v' most kn :: D' :: E :: C' :: csC pc pl pd :: Cl :: Cd :: L)) := by
  refine Gv.of_body Tryd.func58 rfl rfl ?_
  generalize hR : cdC d most l dl (8 * d.length + 1) s = R
  (repeat' first|refine kW ?_|refine kU fun bk=>?_|refine kV fun hc=>?_|refine kZ (fun hc=>?_) fun hc=>?_|fail)
  refine WC_scope ?_
  refine WC_seq ?_
  refine WC_label ?_
  (repeat' first|refine kW ?_|refine kU fun bk=>?_|refine kV fun hc=>?_|refine kZ (fun hc=>?_) fun hc=>?_|fail)
  refine WC_loop (X := Nat × S6 × Value × Chunk × Chunk) (fun x => [(0, .pointer (some ⟨p, 0, none⟩)), (1, .pointer (some ⟨pc, 0, none⟩))]) (fun x => rdR p q x.2.2.1 most kn :: x.2.2.2.1 :: x.2.2.2.2 :: E :: csC pc pl pd :: Cl :: Cd :: L)
    (fun x => x.2.1.e = 0 ∧ 8 * d.length < x.1 + x.2.1.t ∧ Ow 5 1 x.2.2.1 x.2.1.out.length (bsv x.2.1.out) x.2.2.2.1 ∧ x.2.1.out.length ≤ most ∧ RdN q d x.2.1.t x.2.2.2.2 E ∧ cdC d most l dl x.1 x.2.1 = R) (fun x => x.1) (8 * d.length + 1, s, v, C, D) ⟨he, by simp only; omega, ho, hom, h, hR⟩ iS (fun w h => iH h) ?_
  rintro ⟨f, s1, v1, C1, D1⟩ ⟨he1, hf, hov, hol, hr1, hsl⟩
  simp only at he1 hf hov hol hr1 hsl ⊢
  obtain ⟨va, vc, rfl⟩ := ow_slc hov
  have hs1 := psym_n q pl l d s1 D1 E Cl (rdR p q (.slice va s1.out.length vc) most kn :: C1 :: csC pc pl pd :: Cd :: L) hr1 hl he1 hCl hkl h15l h400l
  unfold rdR csC at hs1 ⊢
  (repeat' first|refine kW ?_|refine kU fun bk=>?_|refine kV fun hc=>?_|refine kZ (fun hc=>?_) fun hc=>?_|fail)
  refine WC_draw [[(p, cl [.pointer (some ⟨q, 0, none⟩), .slice va s1.out.length vc, .int .i64 (most : Int), kn] 47)], [(pc, cl [.pointer (some ⟨pl, 0, none⟩), .pointer (some ⟨pd, 0, none⟩)] 106)]] [] mixed ?_
  (refine WR_t 0 ?_; refine WR_t 1 ?_; refine WR_t 2 ?_; refine WR_t 3 ?_; refine WR_t 4 ?_; refine WR_t 5 ?_; refine WR_t 6 ?_; refine WR_t 7 ?_)
  (refine WR_one 8 (by kernel_rfl) rfl rfl ?_)
  refine OW_call rfl rfl rfl (Gv.holds hs1 (fun w h => iH h)) rfl (fun r L' hp => ?_)
  obtain ⟨D2, rfl, hr2, rfl⟩ := hp
  refine ⟨iC, ?_⟩
  (refine WR_t 9 ?_; refine WR_t 10 ?_; refine WR_t 11 ?_; refine WR_t 12 ?_; refine WR_t 13 ?_)
  (refine WR_done (by kernel_rfl) ?_)
  (repeat' first|refine kW ?_|refine kU fun bk=>?_|refine kV fun hc=>?_|refine kZ (fun hc=>?_) fun hc=>?_|fail)
  refine WC_loop (X := Nat × S6 × Value × Chunk × Chunk) (fun x => [(0, .pointer (some ⟨p, 0, none⟩)), (1, .pointer (some ⟨pc, 0, none⟩)), (5, .int .i64 ((sv d x.2.1 l : Nat) : Int)), (6, .int .i64 ((sy d x.2.1 l).e : Int))]) (fun x => rdR p q x.2.2.1 most kn :: x.2.2.2.1 :: x.2.2.2.2 :: E :: csC pc pl pd :: Cl :: Cd :: L)
    (fun x => x.1 ≤ f ∧ x.2.1.e = 0 ∧ 8 * d.length < x.1 + x.2.1.t ∧ x.2.1.t ≤ 8 * d.length ∧ Ow 5 1 x.2.2.1 x.2.1.out.length (bsv x.2.1.out) x.2.2.2.1 ∧ x.2.1.out.length ≤ most ∧ RdN q d (sy d x.2.1 l).t x.2.2.2.2 E ∧ cdC d most l dl x.1 x.2.1 = R) (fun x => x.1) (f, s1, .slice va s1.out.length vc, C1, D2) ⟨Nat.le_refl _, he1, hf, hr1.1, hov, hol, hr2, hsl⟩ iS (fun w h => iH h) ?_
  clear hsl hr2 hr1 hol hov
  rintro ⟨g, s3, v3, C3, D3⟩ ⟨hgf, he3, hg, ht3, hov3, hol3, hr3, hsl3⟩
  simp only at hgf he3 hg ht3 hov3 hol3 hr3 hsl3 ⊢
  obtain ⟨g, rfl⟩ : ∃ z, g = z + 1 := ⟨g - 1, by omega⟩
  rw [cdC, if_neg (show ¬ s3.e ≠ 0 by omega)] at hsl3
  have hgo := fun h => sy_go (d := d) (l := l) he3 h
  have hsv := sv_le d s3 l
  have hso := sy_out d s3 l
  have hpt := fun c => pt_t most (sy d s3 l) c
  have hmt := fun k => mtS_t d most k dl (sy d s3 l)
  rw [← hso] at hov3 hol3
  generalize sv d s3 l = k at hsl3 hsv ⊢
  generalize sy d s3 l = s4 at hsl3 hgo hso hpt hmt hov3 hol3 hr3 ⊢
  obtain ⟨wa, wc, rfl⟩ := ow_slc hov3
  unfold rdR csC
  (repeat' first|refine kW ?_|refine kU fun bk=>?_|refine kV fun hc=>?_|refine kZ (fun hc=>?_) fun hc=>?_|fail)
  · rw [if_neg (show ¬ s4.e ≠ 0 by omega), if_neg (show ¬ k < 256 by omega), if_pos (show k = 256 by omega)] at hsl3
    rw [← hsl3]
    refine kR ?_
    exact ⟨_, iC, .inr ⟨by omega, rfl, _, D3, C3, hov3, hol3, hr3, rfl⟩⟩
  · have hgo := hgo (by omega)
    have h4 : s4.e = 0 := by omega
    rw [if_neg (show ¬ s4.e ≠ 0 by omega), if_pos (show k < 256 by omega)] at hsl3
    try rw [wrap_byte]
    have hput := pput_n p q most (UInt8.ofNat k) (.slice wa s4.out.length wc) kn s4 C3 (D3 :: E :: csC pc pl pd :: Cl :: Cd :: L) hov3 hm h4 hkn
    have hpt := hpt (UInt8.ofNat k)
    have hpl : (pt most s4 (UInt8.ofNat k)).e = 0 → (pt most s4 (UInt8.ofNat k)).out.length ≤ most := by
      intro hq
      by_cases hc : s4.out.length < most
      · rw [pt_ok hc]; simp; omega
      · rw [pt_no (by omega), fl_e, if_pos h4] at hq; cases hq
    generalize pt most s4 (UInt8.ofNat k) = s5 at hput hsl3 hpt hpl
    unfold rdR csC at hput
    refine OW_call rfl rfl rfl (Gv.holds hput (fun w h => iH h)) rfl (fun r L' hp => ?_)
    rcases hp with ⟨h5, rfl, rfl⟩ | ⟨h5, rfl, v5, C5, ho5, rfl⟩
    · rw [cdC_err h5] at hsl3
      subst hsl3
      (repeat' first|refine kW ?_|refine kU fun bk=>?_|refine kV fun hc=>?_|refine kZ (fun hc=>?_) fun hc=>?_|fail)
      refine kR ?_
      exact ⟨_, iC, .inl ⟨h5, rfl, rfl⟩⟩
    (repeat' first|refine kW ?_|refine kU fun bk=>?_|refine kV fun hc=>?_|refine kZ (fun hc=>?_) fun hc=>?_|fail)
    have hr5 : RdN q d s5.t D3 E := by rw [hpt]; exact hr3
    have hs5 := psym_n q pl l d s5 D3 E Cl (rdR p q v5 most kn :: C5 :: csC pc pl pd :: Cd :: L) hr5 hl h5 hCl hkl h15l h400l
    unfold rdR csC at hs5
    refine WC_draw [[(p, cl [.pointer (some ⟨q, 0, none⟩), v5, .int .i64 (most : Int), kn] 47)], [(pc, cl [.pointer (some ⟨pl, 0, none⟩), .pointer (some ⟨pd, 0, none⟩)] 106)]] [] mixed ?_
    (refine WR_t 0 ?_; refine WR_t 1 ?_; refine WR_t 2 ?_; refine WR_t 3 ?_; refine WR_t 4 ?_; refine WR_t 5 ?_; refine WR_t 6 ?_; refine WR_t 7 ?_)
    (refine WR_one 8 (by kernel_rfl) rfl rfl ?_)
    refine OW_call rfl rfl rfl (Gv.holds hs5 (fun w h => iH h)) rfl (fun r L' hp => ?_)
    obtain ⟨D6, rfl, hr6, rfl⟩ := hp
    refine ⟨iC, ?_⟩
    (refine WR_t 9 ?_; refine WR_t 10 ?_; refine WR_t 11 ?_; refine WR_t 12 ?_; refine WR_t 13 ?_)
    (refine WR_done (by kernel_rfl) ?_)
    (repeat' first|refine kW ?_|refine kU fun bk=>?_|refine kV fun hc=>?_|refine kZ (fun hc=>?_) fun hc=>?_|fail)
    refine WQ_round (X := Nat × S6 × Value × Chunk × Chunk) (μ := fun x => x.1) (x := (g + 1, s3, .slice wa s4.out.length wc, C3, D3)) (g, s5, v5, C5, D6) (by simp only; omega) ⟨by simp only; omega, h5, by simp only; omega, hr5.1, ho5, hpl h5, hr6, hsl3⟩ iS (fun w h => iH h)
  · have hgo := hgo (by omega)
    have h4 : s4.e = 0 := by omega
    rw [if_neg (show ¬ s4.e ≠ 0 by omega), if_neg (show ¬ k < 256 by omega), if_neg (show ¬ k = 256 by omega)] at hsl3
    have hma := pmatch_n p q pd most k (.slice wa s4.out.length wc) kn dl d s4 D3 E C3 Cd (csC pc pl pd :: Cl :: L) hr3 hl h4 hm hkn hov3 hol3 (by omega) (by omega) hC hk h15 h400
    have hmt := hmt k
    generalize mtS d most k dl s4 = s5 at hma hmt hsl3
    unfold rdR csC at hma
    refine OW_call rfl rfl rfl (Gv.holds hma (fun w h => iH h)) rfl (fun r L' hp => ?_)
    rcases hp with ⟨h5, rfl, rfl⟩ | ⟨h5, rfl, v5, D5, C5, ho5, hl5, hr5, rfl⟩
    · rw [cdC_err h5] at hsl3
      subst hsl3
      (repeat' first|refine kW ?_|refine kU fun bk=>?_|refine kV fun hc=>?_|refine kZ (fun hc=>?_) fun hc=>?_|fail)
      refine kR ?_
      exact ⟨_, iC, .inl ⟨h5, rfl, rfl⟩⟩
    (repeat' first|refine kW ?_|refine kU fun bk=>?_|refine kV fun hc=>?_|refine kZ (fun hc=>?_) fun hc=>?_|fail)
    refine WQ_round (X := Nat × S6 × Value × Chunk × Chunk) (μ := fun x => x.1) (x := (f, s1, .slice va s1.out.length vc, C1, D1)) (g, s5, v5, C5, D5) (by simp only; omega) ⟨h5, by simp only; omega, ho5, hl5, hr5, hsl3⟩ iS (fun w h => iH h)
  · have h4 : s4.e ≠ 0 := by omega
    rw [if_pos h4] at hsl3
    subst hsl3
    refine kR ?_
    exact ⟨_, iC, .inl ⟨h4, rfl, rfl⟩⟩
end Go.Proofs.YtdcehmhelfohfaaDoor
namespace Go.Vx
section
variable [W0] {P : Program} {n : Nat} {M : List (Nat × Value)} {L : List Chunk} {d : Nat} {ty : TypeId} {ps : String} {af : Array Edge} {g : Option (Nat × Bool)} {x y : Operand} {K : List (Nat × Value) → List Chunk → Prop}
theorem OW_appendZerosNil {t u e k by_ : Nat} {z : Value} {ku : IntKind} [hs : SL P t e k by_] [hz : ZV P e z] [hi : IK P u ku] {c : Nat} {kk : IntKind} (hx : ev M x = some (.slice none 0 0)) (hy : ev M y = some (.int kk (c : Int)))
    (hzk : z.cells.size = k) (hgrow : 0 < c) (hb : c * by_ ≤ 140737488355328) (h63 : c ≤ 9223372036854775807)
    (hn : Nat.blt d n = true) (h : ∀ b cap rest, c ≤ cap → cap ≤ maxLen → rest.length = (cap - c) * k → K ((d, .slice (some ⟨b, 0, none⟩) c cap) :: M) ([(b, cl (zeros z.cells.toList c ++ rest) e)] :: L)) :
    OW P n ⟨some d, .call ⟨.builtin .append, #[x, y], #[t, u]⟩, ty, ps, af, g⟩ K M L := ⟨fun a w next Q ha hw hk => by
  obtain ⟨ht, i, hif, hik, hib, hk0⟩ := hs.parts
  subst hik hib
  have hzz : i.zero = some z := by have := hz.out; rw [hif] at this; simpa using this
  have hfit := growslice_fits (need := c) (old := 0) (bytes := i.bytes) hgrow hb
  have hcap := grownCap_ge w (0 + c) 0 e
  have hcm := grownCap_le_maxLen w (0 + c) 0 e (by simp [maxLen]; omega)
  have hz2 := zeros_range (z := z.cells) (m := c)
  have hz3 := zeros_range (z := z.cells) (m := grownCap w (0 + c) 0 e - (0 + c))
  have hc1 := wrap_i64 (r := (c : Int)) (by omega) (by omega)
  have hcb : ¬ (281474976710656 < (c : Int) * (i.bytes : Int)) := by
    rw [← Int.natCast_mul]; omega
  rw [Nat.zero_add] at hcap hcm hz3
  have hrun : (execOp a.eval ⟨some d, .call ⟨.builtin .append, #[x, y], #[t, u]⟩, ty, ps, af, g⟩).run P w = .ok (.value (.slice (some ⟨w.heap.size, 0, none⟩) c (grownCap w c 0 e)))
      (w.drew.alloc (cl (zeros z.cells.toList c ++ zeros z.cells.toList (grownCap w c 0 e - c)) e)) := by
    have hne : ¬ (c ≤ 0) := by omega
    have hne2 : ¬ (c = 0) := by omega
    have h63' : ¬ (9223372036854775807 < (c : Int)) := by omega
    have h48' : ¬ (281474976710656 < Builtin.nextslicecap c 0 * i.bytes) := by omega
    have hc0 : ¬ ((c : Int) < 0) := by omega
    simp only [execOp, resolve, invoke, builtin, Sem.run_bind, Sem.run_pure, Result.andThen_ok, List.map_toArray, List.map_cons, List.map_nil, ha.eval hx, ha.eval hy]
    simp [Builtin.append_, run_underlying ht, run_underlying hi.out, sizeOf, typeInfo, hif, asInt, asIntOf, hc1, hc0, hcb, hne2, h63', h48', Question.forced, Builtin.firstCells, newRow, zero_run hz.out]
    split
    · rename_i h0
      have hcz : c = 0 := by
        rcases Nat.mul_eq_zero.1 h0 with h | h
        · exact h
        · omega
      omega
    · simp [zeroCells_eq, grownCap, cl]
  unfold Oper.wp
  rw [hrun, Oper.upon_value]
  have := (hw.same (w' := w.drew) rfl rfl rfl).alloc (cl (zeros z.cells.toList c ++ zeros z.cells.toList (grownCap w c 0 e - c)) e)
  exact (hk _ _ (h w.heap.size _ _ hcap hcm (by rw [zeros_length]; simp [hzk]))).out _ _ (ha.put _ hn) this⟩
end
end Go.Vx
namespace Go.Proofs.YtdcehmhelfohfaaDoor
open Go Go.Vx Go.Hf Go.If
variable [W0]
set_option maxRecDepth 4000
set_option linter.all false
theorem zeros_int (n : Nat) : zeros (Value.int .i64 0).cells.toList n = ivn (List.replicate n 0) := by
  induction n with
  | zero => rfl
  | succ n ih => rw [zeros, ih]; simp [ivn, List.replicate_succ, Value.cells]
theorem ivn_app (a b : List Nat) : ivn (a ++ b) = ivn a ++ ivn b := by simp [ivn]
theorem intsN_icn (l : List Nat) : intsN (icn l) = ivn l := by simp [intsN, icn, ivn]
set_option maxHeartbeats 4000000 in
/-- 1 times n. -/
theorem mul_one_n (n : Nat) (L : List Chunk) (hn : n ≤ 1000000) : GvP Tryd.prog 94 [.int .u64 1, .int .u64 (n : Int)].toArray L (.tuple #[.int .u64 0, .int .u64 (n : Int)]) := by
  refine Gv.of_body Tryd.func94 rfl rfl ?_
  (repeat' first|refine kW ?_|refine kU fun bk=>?_|refine kV fun hc=>?_|refine kZ (fun hc=>?_) fun hc=>?_|fail)
  refine OW_EV (EV_nand (k := .u64) 1 32 rfl rfl rfl rfl rfl (by decide) (by decide)) rfl ?_
  rw [show ((1 % 2 ^ 32 : Nat) : Int) = 1 from by decide]
  (repeat' first|refine kW ?_|refine kU fun bk=>?_|refine kV fun hc=>?_|refine kZ (fun hc=>?_) fun hc=>?_|fail)
  rw [show (1 : Int) / 4294967296 = 0 from by decide]
  refine OW_EV (EV_nand (k := .u64) n 32 rfl rfl rfl rfl rfl (by simp only [IntKind.bits]; omega) (by decide)) rfl ?_
  rw [show ((n % 2 ^ 32 : Nat) : Int) = n from by omega]
  (repeat' first|refine kW ?_|refine kU fun bk=>?_|refine kV fun hc=>?_|refine kZ (fun hc=>?_) fun hc=>?_|fail)
  have e0 : (n : Int) / 4294967296 = 0 := by omega
  have ez : (0 : Int) / 4294967296 = 0 := by decide
  try rw [e0]
  refine OW_EV (EV_nmul (k := .u64) 1 n rfl rfl rfl rfl rfl (by simp only [IntKind.bits]; omega)) rfl ?_
  rw [Nat.one_mul]
  (repeat' first|refine kW ?_|refine kU fun bk=>?_|refine kV fun hc=>?_|refine kZ (fun hc=>?_) fun hc=>?_|fail)
  refine OW_EV (EV_nmul (k := .u64) 0 n rfl rfl rfl rfl rfl (by simp only [IntKind.bits]; omega)) rfl ?_
  rw [Nat.zero_mul]
  (repeat' first|refine kW ?_|refine kU fun bk=>?_|refine kV fun hc=>?_|refine kZ (fun hc=>?_) fun hc=>?_|fail)
  try rw [e0]
  refine OW_EV (EV_nadd (k := .u64) 0 0 rfl rfl rfl rfl rfl (by decide)) rfl ?_
  rw [Nat.zero_add]
  (repeat' first|refine kW ?_|refine kU fun bk=>?_|refine kV fun hc=>?_|refine kZ (fun hc=>?_) fun hc=>?_|fail)
  refine OW_EV (EV_nand (k := .u64) 0 32 rfl rfl rfl rfl rfl (by decide) (by decide)) rfl ?_
  rw [show (0 % 2 ^ 32 : Nat) = 0 from by decide]
  (repeat' first|refine kW ?_|refine kU fun bk=>?_|refine kV fun hc=>?_|refine kZ (fun hc=>?_) fun hc=>?_|fail)
  try rw [show ((0 : Nat) : Int) / 4294967296 = 0 from by decide]
  try rw [ez]
  refine OW_EV (EV_nmul (k := .u64) 1 0 rfl rfl rfl rfl rfl (by decide)) rfl ?_
  rw [Nat.mul_zero]
  (repeat' first|refine kW ?_|refine kU fun bk=>?_|refine kV fun hc=>?_|refine kZ (fun hc=>?_) fun hc=>?_|fail)
  refine OW_EV (EV_nadd (k := .u64) 0 0 rfl rfl rfl rfl rfl (by decide)) rfl ?_
  rw [Nat.zero_add]
  (repeat' first|refine kW ?_|refine kU fun bk=>?_|refine kV fun hc=>?_|refine kZ (fun hc=>?_) fun hc=>?_|fail)
  refine OW_EV (EV_nmul (k := .u64) 0 0 rfl rfl rfl rfl rfl (by decide)) rfl ?_
  rw [Nat.mul_zero]
  (repeat' first|refine kW ?_|refine kU fun bk=>?_|refine kV fun hc=>?_|refine kZ (fun hc=>?_) fun hc=>?_|fail)
  refine OW_EV (EV_nadd (k := .u64) 0 0 rfl rfl rfl rfl rfl (by decide)) rfl ?_
  rw [Nat.zero_add]
  (repeat' first|refine kW ?_|refine kU fun bk=>?_|refine kV fun hc=>?_|refine kZ (fun hc=>?_) fun hc=>?_|fail)
  try rw [show ((0 : Nat) : Int) / 4294967296 = 0 from by decide]
  try rw [ez]
  refine OW_EV (EV_nadd (k := .u64) 0 0 rfl rfl rfl rfl rfl (by decide)) rfl ?_
  rw [Nat.zero_add]
  (repeat' first|refine kW ?_|refine kU fun bk=>?_|refine kV fun hc=>?_|refine kZ (fun hc=>?_) fun hc=>?_|fail)
  refine OW_EV (EV_nmul (k := .u64) 1 n rfl rfl rfl rfl rfl (by simp only [IntKind.bits]; omega)) rfl ?_
  rw [Nat.one_mul]
  (repeat' first|refine kW ?_|refine kU fun bk=>?_|refine kV fun hc=>?_|refine kZ (fun hc=>?_) fun hc=>?_|fail)
  refine WQ_retI (rs := [.tmp 4, .tmp 5]) (vs := [.int .u64 0, .int .u64 (n : Int)]) rfl rfl ?_
  exact ⟨_, iC, rfl, rfl⟩
set_option maxHeartbeats 2000000 in
theorem mul1_n (n : Nat) (L : List Chunk) (hn : n ≤ 1000000) : GvP Tryd.prog 88 [.int .u64 1, .int .u64 (n : Int)].toArray L (.tuple #[.int .u64 0, .int .u64 (n : Int)]) := by
  refine Gv.of_body Tryd.func88 rfl rfl ?_
  have hm := mul_one_n n L hn
  (repeat' first|refine kW ?_|refine kU fun bk=>?_|refine kV fun hc=>?_|refine kZ (fun hc=>?_) fun hc=>?_|fail)
  refine OW_callP rfl rfl rfl hm rfl ?_
  (repeat' first|refine kW ?_|refine kU fun bk=>?_|refine kV fun hc=>?_|refine kZ (fun hc=>?_) fun hc=>?_|fail)
  refine kR ?_
  exact ⟨_, iC, rfl, rfl⟩
theorem rep_patch (n k m v : Nat) (h : k + m ≤ n) : patch (ivn (List.replicate k v ++ List.replicate (n - k) 0)) k (ivn (List.replicate m v)) = ivn (List.replicate (k + m) v ++ List.replicate (n - (k + m)) 0) := by
  unfold patch ivn
  rw [← List.map_take, ← List.map_drop, ← List.map_append, ← List.map_append]
  congr 1
  simp only [List.length_map, List.length_replicate]
  rw [List.take_left' (by simp), List.drop_append, List.drop_replicate, List.drop_replicate, List.length_replicate, show k - (k + m) = 0 from by omega, show n - k - (k + m - k) = n - (k + m) from by omega, List.replicate_append_replicate]
  rfl
set_option maxHeartbeats 4000000 in
theorem repeat_n (b v n : Nat) (L : List Chunk) (hf : Fnd L b (cl [.int .i64 (v : Int)] 3)) (h1 : 1 ≤ n) (hn : n ≤ 1000000) :
    Gv Tryd.prog 77 [.slice (some ⟨b, 0, none⟩) 1 1, .int .i64 (n : Int)].toArray L (fun r L' => ∃ C, L' = C :: L ∧ Ow 3 1 r n (ivn (List.replicate n v)) C) := by
  refine Gv.of_body Tryd.func77 rfl rfl ?_
  have hm := fun L => mul1_n n L hn
  (repeat' first|refine kW ?_|refine kU fun bk=>?_|refine kV fun hc=>?_|refine kZ (fun hc=>?_) fun hc=>?_|fail)
  refine OW_callP rfl rfl rfl (hm _) rfl ?_
  (repeat' first|refine kW ?_|refine kU fun bk=>?_|refine kV fun hc=>?_|refine kZ (fun hc=>?_) fun hc=>?_|fail)
  refine OW_makeSlice (m := n) (c := n) rfl rfl (by rfl) (Nat.le_refl _) (by omega) (by omega) rfl (fun c => ?_)
  rw [zeros_int]
  (repeat' first|refine kW ?_|refine kU fun bk=>?_|refine kV fun hc=>?_|refine kZ (fun hc=>?_) fun hc=>?_|fail)
  refine OW_copyTo (sl := 1) (zs := ivn [v]) (ivn (List.replicate 1 v ++ List.replicate (n - 1) 0)) rfl rfl (.inr ⟨_, _, rfl, RdAt.cl' (l := ivn [v]) (off := 0) (Fnd.there hf) rfl, rfl⟩) (by rw [Nat.min_eq_left (by omega)]; rfl) ?_ iU (by rw [Nat.min_eq_left (by omega)]; simp [ivn]; omega) rfl ?_
  · rw [Nat.min_eq_left (by omega)]
    have := rep_patch n 0 1 v (by omega)
    rw [show List.take (1 * 1) (ivn [v]) = ivn [v] from rfl]
    simpa using this
  rw [Nat.min_eq_left (by omega)]
  (repeat' first|refine kW ?_|refine kU fun bk=>?_|refine kV fun hc=>?_|refine kZ (fun hc=>?_) fun hc=>?_|fail)
  refine WC_loop (X := Nat) (fun k => [(7, .slice (some ⟨c, 0, none⟩) n n), (8, .int .i64 (k : Int))]) (fun k => [(c, cl (ivn (List.replicate k v ++ List.replicate (n - k) 0)) 3)] :: L)
    (fun k => 1 ≤ k ∧ k ≤ n) (fun k => n - k) 1 ⟨Nat.le_refl _, h1⟩ iS (fun w h => h) ?_
  rintro k ⟨hk1, hk2⟩
  (repeat' first|refine kW ?_|refine kU fun bk=>?_|refine kV fun hc=>?_|refine kZ (fun hc=>?_) fun hc=>?_|fail)
  · have hlen : (ivn (List.replicate k v ++ List.replicate (n - k) 0)).length = n := by rw [ivn_length]; simp; omega
    have htk : List.take (min k (n - k) * 1) (ivn (List.replicate k v)) = ivn (List.replicate (min k (n - k)) v) := by
      unfold ivn
      rw [← List.map_take, List.take_replicate, show min (min k (n - k) * 1) k = min k (n - k) from by omega]
    refine WC_draw [] [] mixed ?_
    (refine WR_t 0 ?_; refine WR_t 1 ?_; refine WR_t 2 ?_)
    (refine WR_take 3 rfl rfl (by kernel_rfl) iP iC (EV_sliceFrom0 (l := k) (h := n) rfl rfl rfl (by omega) (by omega) (by omega)) (by rfl) ?_)
    (refine WR_t 4 ?_; refine WR_t 5 ?_)
    (refine WR_take 6 rfl rfl (by kernel_rfl) iP iC (EV_sliceTo (h := k) rfl rfl rfl (by omega)) (by rfl) ?_)
    (refine WR_one 7 (by kernel_rfl) rfl rfl ?_)
    refine OW_copyTo (sl := k) (zs := ivn (List.replicate k v)) (ivn (List.replicate (k + min k (n - k)) v ++ List.replicate (n - (k + min k (n - k))) 0)) rfl rfl (.inr ⟨_, _, rfl, RdAt.cl' (off := 0) Fnd.here ?_, by rw [ivn_length]; simp⟩) ?_ ?_ iU (by rw [hlen]; omega) rfl ?_
    · rw [ivn_length, List.length_replicate, ivn_app]
      unfold cut
      rw [List.drop_zero, List.take_left' (by rw [ivn_length, List.length_replicate])]
    · rw [htk]
      exact ivn_ones
    · rw [← rep_patch n k (min k (n - k)) v (by omega), htk, Nat.mul_one]
    refine ⟨iC, ?_⟩
    (refine WR_t 8 ?_; refine WR_t 9 ?_)
    (refine WR_done (by kernel_rfl) ?_)
    (repeat' first|refine kW ?_|refine kU fun bk=>?_|refine kV fun hc=>?_|refine kZ (fun hc=>?_) fun hc=>?_|fail)
    refine WQ_round (X := Nat) (μ := fun k => n - k) (x := k) (k + min k (n - k)) (by omega) ⟨by omega, by omega⟩ iS (fun w h => h)
  · obtain rfl : k = n := by omega
    rw [show k - k = 0 from by omega, List.replicate_zero, List.append_nil]
    refine kR ?_
    refine ⟨_, iC, _, rfl, .inr ⟨c, k, [], rfl, by rw [List.append_nil], by rw [ivn_length]; simp, by simp, Nat.le_refl _, by simp [maxLen]; omega⟩⟩
set_option maxHeartbeats 1000000 in
theorem times_n (v n : Nat) (L : List Chunk) (h1 : 1 ≤ n) (hn : n ≤ 1000000) :
    Gv Tryd.prog 67 [.int .i64 (v : Int), .int .i64 (n : Int)].toArray L (fun r L' => ∃ C, L' = C :: L ∧ Ow 3 1 r n (ivn (List.replicate n v)) C) := by
  refine Gv.of_body Tryd.func67 rfl rfl ?_
  (repeat' first|refine kW ?_|refine kU fun bk=>?_|refine kV fun hc=>?_|refine kZ (fun hc=>?_) fun hc=>?_|fail)
  refine OW_buildSlice (cs := [.int .i64 (v : Int)]) rfl (by rfl) (by first | (simp [fillL, patch, Value.cells, zeros]; done) | (simp [fillL, patch, Value.cells, zeros]; rfl)) (by omega) rfl rfl (fun b => ?_)
  (repeat' first|refine kW ?_|refine kU fun bk=>?_|refine kV fun hc=>?_|refine kZ (fun hc=>?_) fun hc=>?_|fail)
  refine OW_call rfl rfl rfl (repeat_n b v n _ Fnd.here h1 hn) rfl (fun r L' hp => ?_)
  obtain ⟨C, rfl, ho⟩ := hp
  (repeat' first|refine kW ?_|refine kU fun bk=>?_|refine kV fun hc=>?_|refine kZ (fun hc=>?_) fun hc=>?_|fail)
  refine kR ?_
  exact ⟨_, iC, C, rfl, ho⟩
set_option maxHeartbeats 2000000 in
theorem grow_n (n : Nat) (L : List Chunk) (h1 : 1 ≤ n) (hn : n ≤ 1000000) :
    Gv Tryd.prog 76 [.slice none 0 0, .int .i64 (n : Int)].toArray L (fun r L' => ∃ C, L' = C :: L ∧ Ow 3 1 r 0 (ivn []) C) := by
  refine Gv.of_body Tryd.func76 rfl rfl ?_
  (repeat' first|refine kW ?_|refine kU fun bk=>?_|refine kV fun hc=>?_|refine kZ (fun hc=>?_) fun hc=>?_|fail)
  refine OW_EV (EV_sliceNil rfl rfl rfl) rfl ?_
  (repeat' first|refine kW ?_|refine kU fun bk=>?_|refine kV fun hc=>?_|refine kZ (fun hc=>?_) fun hc=>?_|fail)
  refine OW_appendZerosNil (c := n) rfl rfl (by rfl) (by omega) (by omega) (by omega) rfl (fun b cap rest h2 h3 h4 => ?_)
  (repeat' first|refine kW ?_|refine kU fun bk=>?_|refine kV fun hc=>?_|refine kZ (fun hc=>?_) fun hc=>?_|fail)
  refine OW_EV (EV_sliceTo (h := 0) rfl rfl rfl (by omega)) rfl ?_
  (repeat' first|refine kW ?_|refine kU fun bk=>?_|refine kV fun hc=>?_|refine kZ (fun hc=>?_) fun hc=>?_|fail)
  refine kR ?_
  refine ⟨_, iC, _, rfl, .inr ⟨b, cap, _, rfl, by rfl, rfl, ?_, Nat.zero_le _, h3⟩⟩
  show (zeros (Value.int .i64 0).cells.toList n ++ rest).length = _
  rw [List.length_append, zeros_int, ivn_length, List.length_replicate]
  omega
end Go.Proofs.YtdcehmhelfohfaaDoor
namespace Go.Proofs.YtdcehmhelfohfaaDoor
open Go Go.Vx Go.Hf Go.If
variable [W0]
set_option maxRecDepth 4000
set_option linter.all false
theorem sl_slc {L : List Chunk} {k m : Nat} {v : Value} {xs : List Value} (h : Sl L k v m xs) : ∃ a c, v = .slice a m c := by
  rcases h with ⟨c, rfl, rfl, _⟩ | ⟨a, c, rfl, _, _⟩
  · exact ⟨_, _, rfl⟩
  · exact ⟨_, _, rfl⟩
omit [W0] in
/-- The first i of some lists, one behind the other. -/
def ccL (ss : List (Value × List Nat)) (i : Nat) : List Nat := (ss.take i).flatMap (·.2)
theorem ccL_succ {ss : List (Value × List Nat)} {i : Nat} {x : Value × List Nat} (h : ss[i]? = some x) : ccL ss (i + 1) = ccL ss i ++ x.2 := by
  unfold ccL
  rw [List.take_add_one, h]
  simp [List.flatMap_append]
theorem ccL_le (ss : List (Value × List Nat)) (i : Nat) : (ccL ss i).length ≤ (ccL ss ss.length).length := by
  unfold ccL
  rw [List.take_length]
  conv => rhs; rw [← List.take_append_drop i ss]
  rw [List.flatMap_append, List.length_append]
  omega
set_option maxHeartbeats 4000000 in
theorem concat_n (a : Option Addr) (c : Nat) (ss : List (Value × List Nat)) (L : List Chunk) (h : Sl L 1 (.slice a ss.length c) ss.length (ss.map (·.1))) (hs : ∀ x ∈ ss, Sl L 1 x.1 x.2.length (ivn x.2)) (hl : ss.length ≤ 1000)
    (h1 : 1 ≤ (ccL ss ss.length).length) (hn : (ccL ss ss.length).length ≤ 1000000) :
    Gv Tryd.prog 66 [.slice a ss.length c].toArray L (fun r L' => ∃ C, L' = C :: L ∧ Ow 3 1 r (ccL ss ss.length).length (ivn (ccL ss ss.length)) C) := by
  refine Gv.of_body Tryd.func66 rfl rfl ?_
  have hle := ccL_le ss
  (repeat' first|refine kW ?_|refine kU fun bk=>?_|refine kV fun hc=>?_|refine kZ (fun hc=>?_) fun hc=>?_|fail)
  refine WC_loop (X := Nat) (fun i => [(0, .slice a ss.length c), (3, .int .i64 ((ccL ss i).length : Int)), (9, .slice a ss.length c), (10, .int .i64 (ss.length : Int)), (11, .int .i64 (i : Int))]) (fun _ => L)
    (fun i => i ≤ ss.length) (fun i => ss.length - i) 0 (Nat.zero_le _) iS (fun w h => h) ?_
  intro i hi
  (repeat' first|refine kW ?_|refine kU fun bk=>?_|refine kV fun hc=>?_|refine kZ (fun hc=>?_) fun hc=>?_|fail)
  · have hlt : i < ss.length := by omega
    obtain ⟨x, hx⟩ : ∃ x, ss[i]? = some x := ⟨ss[i], List.getElem?_eq_getElem hlt⟩
    have hsx := hs x (List.mem_of_getElem? hx)
    obtain ⟨xv, xl⟩ := x
    simp only at hsx
    have hsu := ccL_succ hx
    have hle1 := hle (i + 1)
    rw [hsu, List.length_append] at hle1
    simp only at hsu hle1
    obtain ⟨xa, xc, rfl⟩ := sl_slc hsx
    obtain ⟨b, off, cap, cc, T, fr, hve, hfn, hcell⟩ := sl_at h (k := i) (u := .slice xa xl.length xc) (by rw [List.getElem?_map, hx]; rfl)
    injection hve with q1 q2 q3
    subst q1 q3
    clear q2
    refine OW_EV (EV_indexAddr (j := i) rfl rfl rfl hlt) rfl ?_
    (repeat' first|refine kW ?_|refine kU fun bk=>?_|refine kV fun hc=>?_|refine kZ (fun hc=>?_) fun hc=>?_|fail)
    refine OW_EV (EV_load rfl hfn hcell) rfl ?_
    (repeat' first|refine kW ?_|refine kU fun bk=>?_|refine kV fun hc=>?_|refine kZ (fun hc=>?_) fun hc=>?_|fail)
    rw [← Int.natCast_add, ← List.length_append, ← hsu]
    refine WQ_round (X := Nat) (μ := fun i => ss.length - i) (x := i) (i + 1) (by omega) (by omega) iS (fun w h => h)
  · obtain rfl : i = ss.length := by omega
    refine OW_call rfl rfl rfl (grow_n _ L h1 hn) rfl (fun r L' hp => ?_)
    obtain ⟨C, rfl, ho⟩ := hp
    (repeat' first|refine kW ?_|refine kU fun bk=>?_|refine kV fun hc=>?_|refine kZ (fun hc=>?_) fun hc=>?_|fail)
    refine WC_loop (X := Nat × Value × Chunk) (fun x => [(6, x.2.1), (25, .slice a ss.length c), (26, .int .i64 (ss.length : Int)), (27, .int .i64 (x.1 : Int))]) (fun x => x.2.2 :: L)
      (fun x => x.1 ≤ ss.length ∧ Ow 3 1 x.2.1 (ccL ss x.1).length (ivn (ccL ss x.1)) x.2.2) (fun x => ss.length - x.1) (0, r, C) ⟨Nat.zero_le _, ho⟩ iS (fun w h => h) ?_
    rintro ⟨i, v, C1⟩ ⟨hi, hov⟩
    simp only at hi hov ⊢
    (repeat' first|refine kW ?_|refine kU fun bk=>?_|refine kV fun hc=>?_|refine kZ (fun hc=>?_) fun hc=>?_|fail)
    · have hlt : i < ss.length := by omega
      obtain ⟨x, hx⟩ : ∃ x, ss[i]? = some x := ⟨ss[i], List.getElem?_eq_getElem hlt⟩
      have hsx := hs x (List.mem_of_getElem? hx)
      obtain ⟨xv, xl⟩ := x
      simp only at hsx
      have hsu := ccL_succ hx
      have hle1 := hle (i + 1)
      rw [hsu, List.length_append] at hle1
      simp only at hsu hle1
      obtain ⟨xa, xc, rfl⟩ := sl_slc hsx
      obtain ⟨b, off, cap, cc, T, fr, hve, hfn, hcell⟩ := sl_at h (k := i) (u := .slice xa xl.length xc) (by rw [List.getElem?_map, hx]; rfl)
      injection hve with q1 q2 q3
      subst q1 q3
      clear q2
      refine OW_EV (EV_indexAddr (j := i) rfl rfl rfl hlt) rfl ?_
      (repeat' first|refine kW ?_|refine kU fun bk=>?_|refine kV fun hc=>?_|refine kZ (fun hc=>?_) fun hc=>?_|fail)
      refine OW_EV (EV_load rfl hfn.there hcell) rfl ?_
      (repeat' first|refine kW ?_|refine kU fun bk=>?_|refine kV fun hc=>?_|refine kZ (fun hc=>?_) fun hc=>?_|fail)
      refine OW_append rfl rfl hov (sl_there hsx) (by repeat (first | exact Zip.here _ | apply Zip.there)) rfl ivn_ones (by omega) (by simp [maxLen]; omega) rfl (fun v' C' ho' _ _ => ?_)
      (repeat' first|refine kW ?_|refine kU fun bk=>?_|refine kV fun hc=>?_|refine kZ (fun hc=>?_) fun hc=>?_|fail)
      rw [← List.length_append, ← ivn_app, ← hsu] at ho'
      refine WQ_round (X := Nat × Value × Chunk) (μ := fun x => ss.length - x.1) (x := (i, v, C1)) (i + 1, v', C') (by simp only; omega) ⟨by simp only; omega, ho'⟩ iS (fun w h => h)
    · obtain rfl : i = ss.length := by omega
      refine kR ?_
      exact ⟨_, iC, C1, rfl, hov⟩
omit [W0] in
def fxS (u1 u2 u3 u4 : Value) : List (Value × List Nat) := [(u1, List.replicate 144 8), (u2, List.replicate 112 9), (u3, List.replicate 24 7), (u4, List.replicate 8 8)]
theorem fx_cc (u1 u2 u3 u4 : Value) : ccL (fxS u1 u2 u3 u4) (fxS u1 u2 u3 u4).length = fxL := by
  show (List.replicate 144 8 ++ (List.replicate 112 9 ++ (List.replicate 24 7 ++ (List.replicate 8 8 ++ [])))) = fxL
  decide
theorem fx_len (u1 u2 u3 u4 : Value) : (ccL (fxS u1 u2 u3 u4) (fxS u1 u2 u3 u4).length).length = 288 := by rw [fx_cc]; decide
set_option maxHeartbeats 4000000 in
theorem fixedLengths_n (L : List Chunk) : Gv Tryd.prog 57 #[] L (fun r L' => ∃ u v C D, r = .tuple #[u, v] ∧ L' = D :: C :: L ∧ Ow 3 1 u 288 (ivn fxL) C ∧ Ow 3 1 v 32 (ivn fxD) D) := by
  refine Gv.of_body (args := []) Tryd.func57 rfl rfl ?_
  (repeat' first|refine kW ?_|refine kU fun bk=>?_|refine kV fun hc=>?_|refine kZ (fun hc=>?_) fun hc=>?_|fail)
  refine OW_call rfl rfl rfl (times_n 8 144 L (by decide) (by decide)) rfl (fun r L' hp => ?_)
  obtain ⟨C1, rfl, o1⟩ := hp
  obtain ⟨a1, c1, rfl⟩ := ow_slc o1
  (repeat' first|refine kW ?_|refine kU fun bk=>?_|refine kV fun hc=>?_|refine kZ (fun hc=>?_) fun hc=>?_|fail)
  refine OW_call rfl rfl rfl (times_n 9 112 _ (by decide) (by decide)) rfl (fun r L' hp => ?_)
  obtain ⟨C2, rfl, o2⟩ := hp
  obtain ⟨a2, c2, rfl⟩ := ow_slc o2
  (repeat' first|refine kW ?_|refine kU fun bk=>?_|refine kV fun hc=>?_|refine kZ (fun hc=>?_) fun hc=>?_|fail)
  refine OW_call rfl rfl rfl (times_n 7 24 _ (by decide) (by decide)) rfl (fun r L' hp => ?_)
  obtain ⟨C3, rfl, o3⟩ := hp
  obtain ⟨a3, c3, rfl⟩ := ow_slc o3
  (repeat' first|refine kW ?_|refine kU fun bk=>?_|refine kV fun hc=>?_|refine kZ (fun hc=>?_) fun hc=>?_|fail)
  refine OW_call rfl rfl rfl (times_n 8 8 _ (by decide) (by decide)) rfl (fun r L' hp => ?_)
  obtain ⟨C4, rfl, o4⟩ := hp
  obtain ⟨a4, c4, rfl⟩ := ow_slc o4
  (repeat' first|refine kW ?_|refine kU fun bk=>?_|refine kV fun hc=>?_|refine kZ (fun hc=>?_) fun hc=>?_|fail)
  refine OW_buildSlice (cs := [.slice a1 144 c1, .slice a2 112 c2, .slice a3 24 c3, .slice a4 8 c4]) rfl (by rfl) (by first | (simp [fillL, patch, Value.cells, zeros]; done) | (simp [fillL, patch, Value.cells, zeros]; rfl)) (by omega) rfl rfl (fun b => ?_)
  (repeat' first|refine kW ?_|refine kU fun bk=>?_|refine kV fun hc=>?_|refine kZ (fun hc=>?_) fun hc=>?_|fail)
  have hcc := concat_n (some ⟨b, 0, none⟩) 4 (fxS (.slice a1 144 c1) (.slice a2 112 c2) (.slice a3 24 c3) (.slice a4 8 c4))
    ([(b, cl [.slice a1 144 c1, .slice a2 112 c2, .slice a3 24 c3, .slice a4 8 c4] 57)] :: C4 :: C3 :: C2 :: C1 :: L) (sl_cells (c := #[.slice a1 144 c1, .slice a2 112 c2, .slice a3 24 c3, .slice a4 8 c4]) Fnd.here rfl rfl)
    (by
      intro x hx
      simp only [fxS, List.mem_cons, List.not_mem_nil, or_false] at hx
      rcases hx with rfl | rfl | rfl | rfl
      · exact sl_there (sl_there (sl_there (sl_there (ow_sl o1))))
      · exact sl_there (sl_there (sl_there (ow_sl o2)))
      · exact sl_there (sl_there (ow_sl o3))
      · exact sl_there (ow_sl o4)) (by show 4 ≤ 1000; decide) (by rw [fx_len]; decide) (by rw [fx_len]; decide)
  rw [fx_len, fx_cc] at hcc
  refine OW_call rfl rfl rfl hcc rfl (fun r L' hp => ?_)
  obtain ⟨C5, rfl, o5⟩ := hp
  (repeat' first|refine kW ?_|refine kU fun bk=>?_|refine kV fun hc=>?_|refine kZ (fun hc=>?_) fun hc=>?_|fail)
  refine OW_call rfl rfl rfl (times_n 5 32 _ (by decide) (by decide)) rfl (fun r L' hp => ?_)
  obtain ⟨C6, rfl, o6⟩ := hp
  (repeat' first|refine kW ?_|refine kU fun bk=>?_|refine kV fun hc=>?_|refine kZ (fun hc=>?_) fun hc=>?_|fail)
  refine kR ?_
  exact ⟨_, iC, _, _, C5, C6, rfl, rfl, o5, o6⟩
end Go.Proofs.YtdcehmhelfohfaaDoor
namespace Go.If
open Go.Vx Go.Hf
set_option linter.all false
theorem kS_sum : ∀ l : List Nat, kS l ≤ 16384 * l.sum
  | [] => by simp [kS]
  | x :: r => by
    have ih := kS_sum r
    have h2 : (if 0 < x then 2 ^ (15 - x) else 0) ≤ 16384 * x := by
      split
      · have : 2 ^ (15 - x) ≤ 2 ^ 14 := Nat.pow_le_pow_right (by decide) (by omega)
        omega
      · omega
    rw [List.sum_cons, kS]
    omega
theorem mem_sum : ∀ {l : List Nat} {x : Nat}, x ∈ l → x ≤ l.sum
  | y :: r, x, h => by
    rw [List.sum_cons]
    rcases List.mem_cons.1 h with rfl | h
    · omega
    · have := mem_sum h; omega
theorem sgl_sum (l : List Nat) : sgl l = decide (l.sum < 2) := by
  unfold sgl
  by_cases h : l.sum < 2
  · rw [decide_eq_true h, Bool.and_true, List.all_eq_true]
    intro x hx
    have := mem_sum hx
    simp
    omega
  · rw [decide_eq_false h, Bool.and_false]
end Go.If
namespace Go.Proofs.YtdcehmhelfohfaaDoor
open Go Go.Vx Go.Hf Go.If
variable [W0]
set_option maxRecDepth 4000
set_option linter.all false
theorem okL_icn {l : List Nat} (h : ∀ x ∈ l, x ≤ 15) : okL (icn l) = true := by
  unfold okL icn
  rw [List.all_eq_true]
  intro x hx
  obtain ⟨y, hy, rfl⟩ := List.mem_map.1 hx
  have := h y hy
  simp
  omega
theorem wgt_icn {l : List Nat} (h : ∀ x ∈ l, x ≤ 15) : wgt (icn l) = (kS l : Int) := by unfold wgt; rw [if_pos (okL_icn h), nl_icn]
theorem cdE_icn {l : List Nat} (h : ∀ x ∈ l, x ≤ 15) (h4 : l.length ≤ 400) (hk : kS l ≤ 32768) : cdE (icn l) = 0 := (cdE_zero (by rw [icn_length]; exact h4) (okL_icn h) (by rw [nl_icn]; exact hk)).1
set_option maxHeartbeats 2000000 in
theorem completeCode_n (a : Option Addr) (c : Nat) (l : List Nat) (L : List Chunk) (h : Sl L 1 (.slice a l.length c) l.length (ivn l)) (h15 : ∀ x ∈ l, x ≤ 15) (h4 : l.length ≤ 400) :
    Gv Tryd.prog 64 [.slice a l.length c].toArray L (fun r L' => (kS l ≠ 32768 ∧ r = .tuple #[.pointer none, .int .i64 3] ∧ L' = L) ∨
      (kS l = 32768 ∧ ∃ p C, r = .tuple #[.pointer (some ⟨p, 0, none⟩), .int .i64 0] ∧ L' = C :: L ∧ CoD l p C)) := by
  refine Gv.of_body Tryd.func64 rfl rfl ?_
  have hlen : (icn l).length = l.length := icn_length l
  have hco := hcomplete_n a c (icn l) L (by rw [hlen, intsN_icn]; exact h) (by omega)
  have hnw := hnew_n a c (icn l) L (by rw [hlen, intsN_icn]; exact h) (by omega)
  rw [hlen, wgt_icn h15] at hco
  rw [hlen, nl_icn] at hnw
  by_cases hk : kS l = 32768
  · rw [hk, show (((32768 : Nat) : Int) == 32768) = true from rfl] at hco
    have h0 := cdE_icn h15 h4 (by omega)
    (repeat' first|refine kW ?_|refine kU fun bk=>?_|refine kV fun hc=>?_|refine kZ (fun hc=>?_) fun hc=>?_|fail)
    refine OW_callP rfl rfl rfl hco rfl ?_
    (repeat' first|refine kW ?_|refine kU fun bk=>?_|refine kV fun hc=>?_|refine kZ (fun hc=>?_) fun hc=>?_|fail)
    refine OW_call rfl rfl rfl hnw rfl (fun r L' hp => ?_)
    rcases hp with ⟨h1, _⟩ | ⟨_, p, C, rfl, rfl, hc⟩
    · exact absurd h0 h1
    (repeat' first|refine kW ?_|refine kU fun bk=>?_|refine kV fun hc=>?_|refine kZ (fun hc=>?_) fun hc=>?_|fail)
    refine kR ?_
    exact ⟨_, iC, .inr ⟨hk, p, C, rfl, rfl, hc⟩⟩
  · rw [show (((kS l : Nat) : Int) == 32768) = false from by simpa using fun h => hk (by omega)] at hco
    (repeat' first|refine kW ?_|refine kU fun bk=>?_|refine kV fun hc=>?_|refine kZ (fun hc=>?_) fun hc=>?_|fail)
    refine OW_callP rfl rfl rfl hco rfl ?_
    (repeat' first|refine kW ?_|refine kU fun bk=>?_|refine kV fun hc=>?_|refine kZ (fun hc=>?_) fun hc=>?_|fail)
    refine WQ_retI (rs := [.tmp 2, .tmp 3]) (vs := [.pointer none, .int .i64 3]) rfl rfl ?_
    exact ⟨_, iC, .inl ⟨hk, rfl, rfl⟩⟩
set_option maxHeartbeats 2000000 in
theorem distanceCode_n (a : Option Addr) (c : Nat) (l : List Nat) (L : List Chunk) (h : Sl L 1 (.slice a l.length c) l.length (ivn l)) (h15 : ∀ x ∈ l, x ≤ 15) (h4 : l.length ≤ 400) :
    Gv Tryd.prog 65 [.slice a l.length c].toArray L (fun r L' => (¬ (kS l = 32768 ∨ sgl l = true) ∧ r = .tuple #[.pointer none, .int .i64 3] ∧ L' = L) ∨
      ((kS l = 32768 ∨ sgl l = true) ∧ ∃ p C, r = .tuple #[.pointer (some ⟨p, 0, none⟩), .int .i64 0] ∧ L' = C :: L ∧ CoD l p C)) := by
  refine Gv.of_body Tryd.func65 rfl rfl ?_
  have hlen : (icn l).length = l.length := icn_length l
  have hnw := hnew_n a c (icn l) L (by rw [hlen, intsN_icn]; exact h) (by omega)
  rw [hlen, nl_icn] at hnw
  have hcc := completeCode_n a c l L h h15 h4
  (repeat' first|refine kW ?_|refine kU fun bk=>?_|refine kV fun hc=>?_|refine kZ (fun hc=>?_) fun hc=>?_|fail)
  refine WC_loop (X := Nat) (fun i => [(0, .slice a l.length c), (4, .int .i64 (((l.take i).sum : Nat) : Int)), (7, .slice a l.length c), (8, .int .i64 (l.length : Int)), (9, .int .i64 (i : Int))]) (fun _ => L)
    (fun i => i ≤ l.length ∧ (l.take i).sum ≤ 15 * i) (fun i => l.length - i) 0 ⟨Nat.zero_le _, Nat.le_refl _⟩ iS (fun w h => h) ?_
  rintro i ⟨hi, hsm⟩
  (repeat' first|refine kW ?_|refine kU fun bk=>?_|refine kV fun hc=>?_|refine kZ (fun hc=>?_) fun hc=>?_|fail)
  · have hlt : i < l.length := by omega
    obtain ⟨x, hx⟩ : ∃ x, l[i]? = some x := ⟨l[i], List.getElem?_eq_getElem hlt⟩
    have hx15 := h15 x (List.mem_of_getElem? hx)
    have hsu : (l.take (i + 1)).sum = (l.take i).sum + x := by rw [List.take_add_one, hx]; simp
    obtain ⟨b, off, cap, cc, T, fr, hve, hfn, hcell⟩ := sl_at h (ivn_get hx)
    injection hve with q1 q2 q3
    subst q1 q3
    clear q2
    refine OW_EV (EV_indexAddr (j := i) rfl rfl rfl hlt) rfl ?_
    (repeat' first|refine kW ?_|refine kU fun bk=>?_|refine kV fun hc=>?_|refine kZ (fun hc=>?_) fun hc=>?_|fail)
    refine OW_EV (EV_load rfl hfn hcell) rfl ?_
    (repeat' first|refine kW ?_|refine kU fun bk=>?_|refine kV fun hc=>?_|refine kZ (fun hc=>?_) fun hc=>?_|fail)
    rw [← Int.natCast_add, ← hsu]
    refine WQ_round (X := Nat) (μ := fun i => l.length - i) (x := i) (i + 1) (by omega) ⟨by omega, by omega⟩ iS (fun w h => h)
  · obtain rfl : i = l.length := by omega
    rw [List.take_length] at *
    refine OW_call rfl rfl rfl hcc rfl (fun r L' hp => ?_)
    have hsg : sgl l = false := by rw [sgl_sum]; simp; omega
    simp only [hsg, Bool.false_eq_true, or_false]
    rcases hp with ⟨h1, rfl, rfl⟩ | ⟨h1, p, C, rfl, rfl, hc⟩
    · (repeat' first|refine kW ?_|refine kU fun bk=>?_|refine kV fun hc=>?_|refine kZ (fun hc=>?_) fun hc=>?_|fail)
      refine WQ_retI (rs := [.tmp 2, .tmp 3]) (vs := [.pointer none, .int .i64 3]) rfl rfl ?_
      exact ⟨_, iC, .inl ⟨h1, rfl, rfl⟩⟩
    · (repeat' first|refine kW ?_|refine kU fun bk=>?_|refine kV fun hc=>?_|refine kZ (fun hc=>?_) fun hc=>?_|fail)
      refine kR ?_
      exact ⟨_, iC, .inr ⟨h1, p, C, rfl, rfl, hc⟩⟩
  · obtain rfl : i = l.length := by omega
    rw [List.take_length] at *
    have hsg : sgl l = true := by rw [sgl_sum]; simp; omega
    have hks := kS_sum l
    have h0 := cdE_icn h15 h4 (by omega)
    refine OW_call rfl rfl rfl hnw rfl (fun r L' hp => ?_)
    rcases hp with ⟨h1, _⟩ | ⟨_, p, C, rfl, rfl, hc⟩
    · exact absurd h0 h1
    (repeat' first|refine kW ?_|refine kU fun bk=>?_|refine kV fun hc=>?_|refine kZ (fun hc=>?_) fun hc=>?_|fail)
    refine kR ?_
    exact ⟨_, iC, .inr ⟨.inr hsg, p, C, rfl, rfl, hc⟩⟩
set_option maxHeartbeats 2000000 in
theorem codesOf_n (a a2 : Option Addr) (c c2 : Nat) (l dl : List Nat) (L : List Chunk) (h : Sl L 1 (.slice a l.length c) l.length (ivn l)) (h15 : ∀ x ∈ l, x ≤ 15) (h4 : l.length ≤ 400) (hd : Sl L 1 (.slice a2 dl.length c2) dl.length (ivn dl)) (hd15 : ∀ x ∈ dl, x ≤ 15) (hd4 : dl.length ≤ 400) :
    Gv Tryd.prog 56 [.slice a l.length c, .slice a2 dl.length c2].toArray L (fun r L' => (¬ (kS l = 32768 ∧ (kS dl = 32768 ∨ sgl dl = true)) ∧ r = .tuple #[.pointer none, .int .i64 3] ∧ L' = L) ∨
      ((kS l = 32768 ∧ (kS dl = 32768 ∨ sgl dl = true)) ∧ ∃ p pl pd Cl Cd, r = .tuple #[.pointer (some ⟨p, 0, none⟩), .int .i64 0] ∧ L' = csC p pl pd :: Cl :: Cd :: L ∧ CoD l pl Cl ∧ CoD dl pd Cd)) := by
  refine Gv.of_body Tryd.func56 rfl rfl ?_
  have hcc := completeCode_n a c l L h h15 h4
  (repeat' first|refine kW ?_|refine kU fun bk=>?_|refine kV fun hc=>?_|refine kZ (fun hc=>?_) fun hc=>?_|fail)
  refine OW_call rfl rfl rfl hcc rfl (fun r L' hp => ?_)
  rcases hp with ⟨h1, rfl, rfl⟩ | ⟨h1, pl, Cl, rfl, rfl, hcl⟩
  · (repeat' first|refine kW ?_|refine kU fun bk=>?_|refine kV fun hc=>?_|refine kZ (fun hc=>?_) fun hc=>?_|fail)
    refine WQ_retI (rs := [.tmp 4, .tmp 5]) (vs := [.pointer none, .int .i64 3]) rfl rfl ?_
    exact ⟨_, iC, .inl ⟨fun hh => h1 hh.1, rfl, rfl⟩⟩
  have hdc := distanceCode_n a2 c2 dl (Cl :: L) (sl_there hd) hd15 hd4
  (repeat' first|refine kW ?_|refine kU fun bk=>?_|refine kV fun hc=>?_|refine kZ (fun hc=>?_) fun hc=>?_|fail)
  refine OW_call rfl rfl rfl hdc rfl (fun r L' hp => ?_)
  rcases hp with ⟨h2, rfl, rfl⟩ | ⟨h2, pd, Cd, rfl, rfl, hcd⟩
  · (repeat' first|refine kW ?_|refine kU fun bk=>?_|refine kV fun hc=>?_|refine kZ (fun hc=>?_) fun hc=>?_|fail)
    refine WQ_retI (rs := [.tmp 4, .tmp 5]) (vs := [.pointer none, .int .i64 3]) rfl rfl ?_
    exact ⟨_, iC, .inl ⟨fun hh => h2 hh.2, rfl, rfl⟩⟩
  (repeat' first|refine kW ?_|refine kU fun bk=>?_|refine kV fun hc=>?_|refine kZ (fun hc=>?_) fun hc=>?_|fail)
  refine WQ_retI (rs := [.tmp 4, .tmp 5]) (vs := [.pointer (some ⟨bk, 0, none⟩), .int .i64 0]) rfl rfl ?_
  exact ⟨csC bk pl pd :: Cl :: Cd :: L, iC, .inr ⟨⟨h1, h2⟩, bk, pl, pd, Cl, Cd, rfl, rfl, hcl, hcd⟩⟩
end Go.Proofs.YtdcehmhelfohfaaDoor
namespace Go.Proofs.YtdcehmhelfohfaaDoor
open Go Go.Vx Go.Hf Go.If
variable [W0]
set_option maxRecDepth 4000
set_option linter.all false
omit [W0] in
/-- The fixed codes, once they are known. -/
def KnD (kn : Value) (K : Chunk) : Prop := (kn = .pointer none ∧ K = []) ∨ ∃ pk pl pd Cl Cd, kn = .pointer (some ⟨pk, 0, none⟩) ∧ K = csC pk pl pd ++ (Cl ++ Cd) ∧ CoD fxL pl Cl ∧ CoD fxD pd Cd
theorem KnD.one {kn : Value} {K : Chunk} (h : KnD kn K) : kn.oneCell' = true := by
  rcases h with ⟨rfl, _⟩ | ⟨pk, _, _, _, _, rfl, _⟩ <;> rfl
theorem fxL_15 : ∀ x ∈ fxL, x ≤ 15 := by decide
theorem fxD_15 : ∀ x ∈ fxD, x ≤ 15 := by decide
theorem fxL_kS : kS fxL = 32768 := by decide
theorem fxD_kS : kS fxD = 32768 := by decide
theorem fxL_len : fxL.length = 288 := by decide
theorem fxD_len : fxD.length = 32 := by decide
set_option maxHeartbeats 4000000 in
theorem pfixed_n (p q most : Nat) (v kn : Value) (d : List UInt8) (s : S6) (D E C K : Chunk) (L : List Chunk) (h : RdN q d s.t D E) (hl : d.length ≤ 140737488355328) (he : s.e = 0) (hm : most ≤ 1000000) (hkn : KnD kn K)
    (ho : Ow 5 1 v s.out.length (bsv s.out) C) (hom : s.out.length ≤ most) :
    Gv Tryd.prog 46 [.pointer (some ⟨p, 0, none⟩)].toArray (rdR p q v most kn :: D :: E :: C :: K :: L) (fun r L' =>
      ((cdC d most fxL fxD (8 * d.length + 1) s).e ≠ 0 ∧ r = .int .i64 ((cdC d most fxL fxD (8 * d.length + 1) s).e : Int) ∧ L' = L) ∨
      ((cdC d most fxL fxD (8 * d.length + 1) s).e = 0 ∧ r = .int .i64 0 ∧ ∃ v' D' C' kn' K', KnD kn' K' ∧ Ow 5 1 v' (cdC d most fxL fxD (8 * d.length + 1) s).out.length (bsv (cdC d most fxL fxD (8 * d.length + 1) s).out) C' ∧ (cdC d most fxL fxD (8 * d.length + 1) s).out.length ≤ most ∧ RdN q d (cdC d most fxL fxD (8 * d.length + 1) s).t D' E ∧
        L' = rdR p q v' most kn' :: D' :: E :: C' :: K' :: L)) := by
  have hcd := fun pc pl pd Cl Cd (hCl : CoD fxL pl Cl) (hCd : CoD fxD pd Cd) => pcoded_n p q pc pl pd most v (.pointer (some ⟨pc, 0, none⟩)) fxL fxD d s D E C Cl Cd L h hl he hm rfl ho hom hCl (by rw [fxL_kS]; decide) fxL_15 (by decide) hCd (by rw [fxD_kS]; decide) fxD_15 (by decide)
  generalize cdC d most fxL fxD (8 * d.length + 1) s = R at hcd ⊢
  obtain ⟨va, vc, rfl⟩ := ow_slc ho
  have hfin : ∀ (r : Value) (L' : List Chunk) (pk pl pd : Nat) (Cl Cd : Chunk), CoD fxL pl Cl → CoD fxD pd Cd → ((R.e ≠ 0 ∧ r = Value.int .i64 (R.e : Int) ∧ L' = L) ∨ (R.e = 0 ∧ r = .int .i64 0 ∧ ∃ v' D' C', Ow 5 1 v' R.out.length (bsv R.out) C' ∧ R.out.length ≤ most ∧ RdN q d R.t D' E ∧ L' = rdR p q v' most (.pointer (some ⟨pk, 0, none⟩)) :: D' :: E :: C' :: csC pk pl pd :: Cl :: Cd :: L)) →
      ∃ L2, (∀ w, Holds w L' → Holds w L2) ∧ ((R.e ≠ 0 ∧ r = Value.int .i64 (R.e : Int) ∧ L2 = L) ∨ (R.e = 0 ∧ r = .int .i64 0 ∧ ∃ v' D' C' kn' K', KnD kn' K' ∧ Ow 5 1 v' R.out.length (bsv R.out) C' ∧ R.out.length ≤ most ∧ RdN q d R.t D' E ∧ L2 = rdR p q v' most kn' :: D' :: E :: C' :: K' :: L)) := by
    intro r L' pk pl pd Cl Cd hCl hCd hp
    rcases hp with ⟨h1, rfl, e⟩ | ⟨h1, rfl, v', D', C', ho', hl', hr', rfl⟩
    · exact ⟨L', fun w h => h, .inl ⟨h1, rfl, e⟩⟩
    · refine ⟨rdR p q v' most (.pointer (some ⟨pk, 0, none⟩)) :: D' :: E :: C' :: (csC pk pl pd ++ (Cl ++ Cd)) :: L, fun w h => ?_, .inr ⟨h1, rfl, v', D', C', _, _, .inr ⟨pk, pl, pd, Cl, Cd, rfl, rfl, hCl, hCd⟩, ho', hl', hr', rfl⟩⟩
      simpa [Holds, List.append_assoc] using h
  rcases hkn with ⟨rfl, rfl⟩ | ⟨pk, pl, pd, Cl, Cd, rfl, rfl, hCl, hCd⟩
  · refine Gv.of_body Tryd.func46 rfl rfl ?_
    unfold rdR
    (repeat' first|refine kW ?_|refine kU fun bk=>?_|refine kV fun hc=>?_|refine kZ (fun hc=>?_) fun hc=>?_|fail)
    refine OW_call rfl rfl rfl (fixedLengths_n _) rfl (fun r L' hp => ?_)
    obtain ⟨u1, u2, C1, C2, rfl, rfl, o1, o2⟩ := hp
    obtain ⟨a1, c1, rfl⟩ := ow_slc o1
    obtain ⟨a2, c2, rfl⟩ := ow_slc o2
    (repeat' first|refine kW ?_|refine kU fun bk=>?_|refine kV fun hc=>?_|refine kZ (fun hc=>?_) fun hc=>?_|fail)
    have hco := codesOf_n a1 a2 c1 c2 fxL fxD (C2 :: C1 :: rdR p q (.slice va s.out.length vc) most (.pointer none) :: D :: E :: C :: [] :: L) (by rw [fxL_len]; exact sl_there (ow_sl o1)) fxL_15 (by decide) (by rw [fxD_len]; exact ow_sl o2) fxD_15 (by decide)
    rw [fxL_len, fxD_len] at hco
    unfold rdR at hco
    refine OW_call rfl rfl rfl hco rfl (fun r L' hp => ?_)
    rcases hp with ⟨h1, _⟩ | ⟨_, pk, pl, pd, Cl, Cd, rfl, rfl, hCl, hCd⟩
    · exact absurd ⟨fxL_kS, .inl fxD_kS⟩ h1
    have hcd := hcd pk pl pd Cl Cd hCl hCd
    unfold rdR at hcd
    (repeat' first|refine kW ?_|refine kU fun bk=>?_|refine kV fun hc=>?_|refine kZ (fun hc=>?_) fun hc=>?_|fail)
    refine OW_call rfl rfl rfl (Gv.holds hcd (fun w h => iH h)) rfl (fun r L' hp => ?_)
    have hf := hfin r L' pk pl pd Cl Cd hCl hCd hp
    obtain ⟨L2, hL2, hp2⟩ := hf
    (repeat' first|refine kW ?_|refine kU fun bk=>?_|refine kV fun hc=>?_|refine kZ (fun hc=>?_) fun hc=>?_|fail)
    first | refine WQ_retH rfl rfl ?_ | refine WQ_endH rfl rfl ?_
    exact ⟨L2, hL2, hp2⟩
  · refine Gv.holds (L' := rdR p q (.slice va s.out.length vc) most (.pointer (some ⟨pk, 0, none⟩)) :: D :: E :: C :: csC pk pl pd :: Cl :: Cd :: L) ?_ (fun w h => by simpa [Holds, List.append_assoc] using h)
    refine Gv.of_body Tryd.func46 rfl rfl ?_
    have hcd := hcd pk pl pd Cl Cd hCl hCd
    unfold rdR at hcd ⊢
    (repeat' first|refine kW ?_|refine kU fun bk=>?_|refine kV fun hc=>?_|refine kZ (fun hc=>?_) fun hc=>?_|fail)
    refine OW_call rfl rfl rfl hcd rfl (fun r L' hp => ?_)
    have hf := hfin r L' pk pl pd Cl Cd hCl hCd hp
    obtain ⟨L2, hL2, hp2⟩ := hf
    (repeat' first|refine kW ?_|refine kU fun bk=>?_|refine kV fun hc=>?_|refine kZ (fun hc=>?_) fun hc=>?_|fail)
    first | refine WQ_retH rfl rfl ?_ | refine WQ_endH rfl rfl ?_
    exact ⟨L2, hL2, hp2⟩
end Go.Proofs.YtdcehmhelfohfaaDoor
namespace Go.If
open Go.Vx Go.Hf
set_option linter.all false
def rpV (k : Nat) (l : List Nat) : Nat := if k = 16 then l.getD (l.length - 1) 0 else if k = 17 ∨ k = 18 then 0 else k
def rpS [W0] (d : List UInt8) (own : List Nat) (m : Nat) (s : S6) (l : List Nat) : S6 :=
  if (sy d s own).e ≠ 0 then sy d s own
  else if (tk d (sy d s own) (rpB (sv d s own))).e ≠ 0 then tk d (sy d s own) (rpB (sv d s own))
  else if (sv d s own = 16 ∧ l = []) ∨ m < l.length + (rpA (sv d s own) + tv d (sy d s own) (rpB (sv d s own))) then fl (tk d (sy d s own) (rpB (sv d s own))) 3
  else tk d (sy d s own) (rpB (sv d s own))
def rpL [W0] (d : List UInt8) (own : List Nat) (s : S6) (l : List Nat) : List Nat := l ++ List.replicate (rpA (sv d s own) + tv d (sy d s own) (rpB (sv d s own))) (rpV (sv d s own) l)
def lpS [W0] (d : List UInt8) (own : List Nat) (m : Nat) : Nat → S6 → List Nat → S6 × List Nat
  | 0, s, l => (s, l)
  | f + 1, s, l => if s.e = 0 ∧ l.length < m then (if (rpS d own m s l).e = 0 then lpS d own m f (rpS d own m s l) (rpL d own s l) else (rpS d own m s l, l)) else (s, l)
def owS [W0] (d : List UInt8) : Nat → Nat → S6 → List Nat → S6 × List Nat
  | 0, _, s, o => (s, o)
  | k + 1, i, s, o => if (tk d s 3).e ≠ 0 then (tk d s 3, o) else owS d k (i + 1) (tk d s 3) (o.set (ordL.getD i 0) (tv d s 3))
def lcS [W0] (d : List UInt8) (s : S6) : S6 × List Nat :=
  if (tk d s 4).e ≠ 0 then (tk d s 4, [])
  else if (owS d (4 + tv d s 4) 0 (tk d s 4) (List.replicate 19 0)).1.e ≠ 0 then owS d (4 + tv d s 4) 0 (tk d s 4) (List.replicate 19 0)
  else if kS (owS d (4 + tv d s 4) 0 (tk d s 4) (List.replicate 19 0)).2 = 32768 then owS d (4 + tv d s 4) 0 (tk d s 4) (List.replicate 19 0)
  else (fl (owS d (4 + tv d s 4) 0 (tk d s 4) (List.replicate 19 0)).1 3, [])
def dyK (n1 : Nat) (q : S6 × List Nat) : S6 × List Nat × Nat :=
  if q.2.getD 256 0 ≠ 0 ∧ kS (q.2.take n1) = 32768 ∧ (kS (q.2.drop n1) = 32768 ∨ sgl (q.2.drop n1) = true) then (q.1, q.2, n1) else (fl q.1 3, [], 0)
def dyT [W0] (d : List UInt8) (n1 n2 : Nat) (s : S6) : S6 × List Nat × Nat :=
  if (lcS d s).1.e ≠ 0 then ((lcS d s).1, [], 0)
  else if (lpS d (lcS d s).2 (n1 + n2) (n1 + n2) (lcS d s).1 []).1.e ≠ 0 then ((lpS d (lcS d s).2 (n1 + n2) (n1 + n2) (lcS d s).1 []).1, [], 0)
  else dyK n1 (lpS d (lcS d s).2 (n1 + n2) (n1 + n2) (lcS d s).1 [])
def dyS [W0] (d : List UInt8) (s : S6) : S6 × List Nat × Nat :=
  if (tk d s 5).e ≠ 0 then (tk d s 5, [], 0)
  else if 29 < tv d s 5 then (fl (tk d s 5) 3, [], 0)
  else if (tk d (tk d s 5) 5).e ≠ 0 then (tk d (tk d s 5) 5, [], 0)
  else if 29 < tv d (tk d s 5) 5 then (fl (tk d (tk d s 5) 5) 3, [], 0)
  else dyT d (257 + tv d s 5) (1 + tv d (tk d s 5) 5) (tk d (tk d s 5) 5)
theorem fl3 {s : S6} (h : s.e = 0) (k : Nat) : (fl s k).e = k := by rw [fl_e, if_pos h]
theorem ow_facts [W0] (d : List UInt8) : ∀ k i s o, s.e = 0 → s.t ≤ 8 * d.length → o.length = 19 → (∀ x ∈ o, x ≤ 7) → (owS d k i s o).2.length = 19 ∧ (∀ x ∈ (owS d k i s o).2, x ≤ 7) ∧ (owS d k i s o).1.out = s.out
  | 0, i, s, o, he, ht, h1, h2 => ⟨h1, h2, rfl⟩
  | k + 1, i, s, o, he, ht, h1, h2 => by
    rw [owS]
    split
    · exact ⟨h1, h2, tk_out _ _ _⟩
    · rename_i h
      have h0 : (tk d s 3).e = 0 := by omega
      have hb : tv d s 3 < 2 ^ 3 := by
        unfold tv
        split
        · exact Nat.mod_lt _ (by decide)
        · decide
      have ht2 : (tk d s 3).t ≤ 8 * d.length := by
        unfold tk
        split
        · assumption
        · rw [fl_t]; exact ht
      have := ow_facts d k (i + 1) (tk d s 3) (o.set (ordL.getD i 0) (tv d s 3)) h0 ht2 (by rw [List.length_set]; exact h1) (fun x hx => by
        rcases List.mem_or_eq_of_mem_set hx with h | rfl
        · exact h2 x h
        · omega)
      exact ⟨this.1, this.2.1, by rw [this.2.2, tk_out]⟩
theorem rpA_pos (k : Nat) : 1 ≤ rpA k ∧ rpA k ≤ 11 := by
  unfold rpA
  repeat' split
  all_goals omega
theorem rpB_le (k : Nat) : rpB k ≤ 7 := by
  unfold rpB
  repeat' split
  all_goals omega
end Go.If
namespace Go.Proofs.YtdcehmhelfohfaaDoor
open Go Go.Vx Go.Hf Go.If
variable [W0]
set_option maxRecDepth 4000
set_option linter.all false
set_option maxHeartbeats 2000000 in
theorem lengthOf_n (k : Nat) (a : Option Addr) (c : Nat) (l : List Nat) (L : List Chunk) (h : Sl L 1 (.slice a l.length c) l.length (ivn l)) (hk : k ≤ 400) (hl : l.length ≤ 1000) (h1 : ¬ (k = 16 ∧ l = [])) :
    GvP Tryd.prog 83 [.int .i64 (k : Int), .slice a l.length c].toArray L (.int .i64 ((rpV k l : Nat) : Int)) := by
  refine Gv.of_body Tryd.func83 rfl rfl ?_
  unfold rpV
  (repeat' first|refine kW ?_|refine kU fun bk=>?_|refine kV fun hc=>?_|refine kZ (fun hc=>?_) fun hc=>?_|fail)
  · have h16 : k = 16 := by omega
    have hne : 0 < l.length := List.length_pos_iff.2 fun hh => h1 ⟨h16, hh⟩
    rw [if_pos h16]
    obtain ⟨x, hx⟩ : ∃ x, l[l.length - 1]? = some x := ⟨l[l.length - 1], List.getElem?_eq_getElem (by omega)⟩
    obtain ⟨b, off, cap, cc, T, fr, hve, hfn, hcell⟩ := sl_at h (ivn_get hx)
    injection hve with q1 q2 q3
    subst q1 q3
    clear q2
    rw [show l.getD (l.length - 1) 0 = x from by simp [List.getD, hx]]
    rw [show (l.length : Int) - 1 = ((l.length - 1 : Nat) : Int) from by omega]
    refine OW_EV (EV_indexAddr (j := l.length - 1) rfl rfl rfl (by omega)) rfl ?_
    (repeat' first|refine kW ?_|refine kU fun bk=>?_|refine kV fun hc=>?_|refine kZ (fun hc=>?_) fun hc=>?_|fail)
    refine OW_EV (EV_load rfl hfn hcell) rfl ?_
    (repeat' first|refine kW ?_|refine kU fun bk=>?_|refine kV fun hc=>?_|refine kZ (fun hc=>?_) fun hc=>?_|fail)
    exact kE
  · rw [if_neg (by omega), if_pos (by omega)]
    exact kE
  · rw [if_neg (by omega), if_pos (by omega)]
    exact kE
  · rw [if_neg (by omega), if_neg (by omega)]
    exact kE
set_option maxHeartbeats 2000000 in
theorem prun_n (p q most k : Nat) (v kn : Value) (d : List UInt8) (s : S6) (D E : Chunk) (L : List Chunk) (h : RdN q d s.t D E) (hl : d.length ≤ 140737488355328) (he : s.e = 0) (hk : k ≤ 400) :
    Gv Tryd.prog 82 [.pointer (some ⟨p, 0, none⟩), .int .i64 (k : Int)].toArray (rdR p q v most kn :: D :: E :: L) (fun r L' =>
      ((tk d s (rpB k)).e ≠ 0 ∧ r = .tuple #[.int .i64 0, .int .i64 ((tk d s (rpB k)).e : Int)] ∧ L' = L) ∨
      ((tk d s (rpB k)).e = 0 ∧ r = .tuple #[.int .i64 ((rpA k + tv d s (rpB k) : Nat) : Int), .int .i64 0] ∧ ∃ D', RdN q d (tk d s (rpB k)).t D' E ∧ L' = rdR p q v most kn :: D' :: E :: L)) := by
  refine Gv.of_body Tryd.func82 rfl rfl ?_
  have hb : rpA k ≤ 11 ∧ rpB k ≤ 7 := by unfold rpA rpB; split <;> (try split) <;> (try split) <;> omega
  have hru := srun_n k (rdR p q v most kn :: D :: E :: L) (by omega)
  have hpc := pcount_n p q most (rpB k) (rpA k) v kn d s D E L h hl (by omega) he (by omega)
  generalize rpA k = ra at hb hru hpc ⊢
  generalize rpB k = rb at hb hru hpc ⊢
  generalize tv d s rb = z at hpc ⊢
  generalize tk d s rb = s1 at hpc ⊢
  (repeat' first|refine kW ?_|refine kU fun bk=>?_|refine kV fun hc=>?_|refine kZ (fun hc=>?_) fun hc=>?_|fail)
  refine OW_callP rfl rfl rfl hru rfl ?_
  (repeat' first|refine kW ?_|refine kU fun bk=>?_|refine kV fun hc=>?_|refine kZ (fun hc=>?_) fun hc=>?_|fail)
  refine OW_call rfl rfl rfl hpc rfl (fun r L' hp => ?_)
  rcases hp with ⟨h1, rfl, rfl⟩ | ⟨h1, rfl, D', hr, rfl⟩
  · (repeat' first|refine kW ?_|refine kU fun bk=>?_|refine kV fun hc=>?_|refine kZ (fun hc=>?_) fun hc=>?_|fail)
    refine kR ?_
    exact ⟨_, iC, .inl ⟨h1, rfl, rfl⟩⟩
  · (repeat' first|refine kW ?_|refine kU fun bk=>?_|refine kV fun hc=>?_|refine kZ (fun hc=>?_) fun hc=>?_|fail)
    refine kR ?_
    exact ⟨_, iC, .inr ⟨h1, rfl, D', hr, rfl⟩⟩
set_option maxHeartbeats 4000000 in
theorem lengthCode_n (p q most : Nat) (v kn : Value) (d : List UInt8) (s : S6) (D E : Chunk) (L : List Chunk) (h : RdN q d s.t D E) (hl : d.length ≤ 140737488355328) (he : s.e = 0) (hor : OrAt L) :
    Gv Tryd.prog 81 [.pointer (some ⟨p, 0, none⟩)].toArray (rdR p q v most kn :: D :: E :: L) (fun r L' =>
      ((lcS d s).1.e ≠ 0 ∧ r = .tuple #[.pointer none, .int .i64 ((lcS d s).1.e : Int)] ∧ L' = L) ∨
      ((lcS d s).1.e = 0 ∧ ∃ pc Co D', r = .tuple #[.pointer (some ⟨pc, 0, none⟩), .int .i64 0] ∧ RdN q d (lcS d s).1.t D' E ∧ CoD (lcS d s).2 pc Co ∧ kS (lcS d s).2 = 32768 ∧ (lcS d s).2.length = 19 ∧ (∀ x ∈ (lcS d s).2, x ≤ 7) ∧ (lcS d s).1.out = s.out ∧ L' = rdR p q v most kn :: D' :: E :: Co :: L)) := by
  refine Gv.of_body Tryd.func81 rfl rfl ?_
  have hc := pcount_n p q most 4 4 v kn d s D E L h hl (by decide) he (by decide)
  have hto := tk_out d s 4
  have htv := tv_lt d s 4
  have htt : (tk d s 4).e = 0 → (tk d s 4).t ≤ 8 * d.length := fun h0 => by
    unfold tk at h0 ⊢
    split
    · assumption
    · rw [fl_t]; exact h.1
  unfold lcS
  generalize tv d s 4 = n at hc htv ⊢
  generalize tk d s 4 = s1 at hc hto htt ⊢
  (repeat' first|refine kW ?_|refine kU fun bk=>?_|refine kV fun hc=>?_|refine kZ (fun hc=>?_) fun hc=>?_|fail)
  refine OW_call rfl rfl rfl hc rfl (fun r L' hp => ?_)
  rcases hp with ⟨h1, rfl, rfl⟩ | ⟨h1, rfl, D1, hr1, rfl⟩
  · rw [if_pos h1]
    (repeat' first|refine kW ?_|refine kU fun bk=>?_|refine kV fun hc=>?_|refine kZ (fun hc=>?_) fun hc=>?_|fail)
    refine WQ_retI (rs := [.tmp 2, .tmp 3]) (vs := [.pointer none, .int .i64 (s1.e : Int)]) rfl rfl ?_
    exact ⟨_, iC, .inl ⟨h1, rfl, rfl⟩⟩
  rw [if_neg (show ¬ s1.e ≠ 0 by omega)]
  have hfa := ow_facts d (4 + n) 0 s1 (List.replicate 19 0) h1 (htt h1) (by simp) (by simp)
  generalize hR : owS d (4 + n) 0 s1 (List.replicate 19 0) = R at hfa ⊢
  rw [hto] at hfa
  (repeat' first|refine kW ?_|refine kU fun bk=>?_|refine kV fun hc=>?_|refine kZ (fun hc=>?_) fun hc=>?_|fail)
  refine OW_makeSlice (m := 19) (c := 19) rfl rfl (by rfl) (by omega) (by omega) (by omega) rfl (fun b => ?_)
  rw [zeros_int]
  (repeat' first|refine kW ?_|refine kU fun bk=>?_|refine kV fun hc=>?_|refine kZ (fun hc=>?_) fun hc=>?_|fail)
  unfold rdR
  refine WC_loop (X := Nat × S6 × List Nat × Chunk) (fun x => [(0, .pointer (some ⟨p, 0, none⟩)), (6, .slice (some ⟨b, 0, none⟩) 19 19), (19, .int .i64 ((4 + n : Nat) : Int)), (20, .int .i64 (x.1 : Int))]) (fun x => [(b, cl (ivn x.2.2.1) 3)] :: rdR p q v most kn :: x.2.2.2 :: E :: L)
    (fun x => x.1 ≤ 4 + n ∧ x.2.1.e = 0 ∧ RdN q d x.2.1.t x.2.2.2 E ∧ x.2.2.1.length = 19 ∧ owS d (4 + n - x.1) x.1 x.2.1 x.2.2.1 = R) (fun x => 4 + n - x.1) (0, s1, List.replicate 19 0, D1) ⟨Nat.zero_le _, h1, hr1, by simp, hR⟩ iS (fun w h => h) ?_
  rintro ⟨i, s5, o, D5⟩ ⟨hi, he5, hr5, hol, hsl⟩
  simp only at hi he5 hr5 hol hsl ⊢
  (repeat' first|refine kW ?_|refine kU fun bk=>?_|refine kV fun hc=>?_|refine kZ (fun hc=>?_) fun hc=>?_|fail)
  · obtain ⟨k2, hk2⟩ : ∃ k2, 4 + n - i = k2 + 1 := ⟨4 + n - i - 1, by omega⟩
    have hk3 : 4 + n - (i + 1) = k2 := by omega
    have htk := ptake_n p q most 3 v kn d s5 D5 E ([(b, cl (ivn o) 3)] :: L) hr5 hl (by decide) he5
    rw [hk2, owS] at hsl
    generalize tv d s5 3 = z at htk hsl
    generalize tk d s5 3 = s6 at htk hsl
    refine OW_call rfl rfl rfl (Gv.holds htk (fun w h => iH h)) rfl (fun r L' hp => ?_)
    rcases hp with ⟨h6, rfl, rfl⟩ | ⟨h6, rfl, D6, hr6, rfl⟩
    · rw [if_pos h6] at hsl
      subst hsl
      rw [if_pos (by exact h6)]
      (repeat' first|refine kW ?_|refine kU fun bk=>?_|refine kV fun hc=>?_|refine kZ (fun hc=>?_) fun hc=>?_|fail)
      refine WQ_retI (rs := [.tmp 2, .tmp 3]) (vs := [.pointer none, .int .i64 (s6.e : Int)]) rfl rfl ?_
      exact ⟨_, iC, .inl ⟨h6, rfl, rfl⟩⟩
    rw [if_neg (show ¬ s6.e ≠ 0 by omega)] at hsl
    have ho19 : ordL.getD i 0 < 19 := by
      have : ∀ j, j < 19 → ordL.getD j 0 < 19 := by decide
      exact this i (by omega)
    have hord := sordered_n i ([(b, cl (ivn o) 3)] :: rdR p q v most kn :: D6 :: E :: L) hor.there.there.there.there (by omega)
    unfold rdR at hord
    generalize ordL.getD i 0 = oi at hsl ho19 hord
    (repeat' first|refine kW ?_|refine kU fun bk=>?_|refine kV fun hc=>?_|refine kZ (fun hc=>?_) fun hc=>?_|fail)
    refine OW_callP rfl rfl rfl (GvP.of hord iC iC) rfl ?_
    (repeat' first|refine kW ?_|refine kU fun bk=>?_|refine kV fun hc=>?_|refine kZ (fun hc=>?_) fun hc=>?_|fail)
    refine OW_EV (EV_indexAddr (j := oi) rfl rfl rfl (by omega)) rfl ?_
    (repeat' first|refine kW ?_|refine kU fun bk=>?_|refine kV fun hc=>?_|refine kZ (fun hc=>?_) fun hc=>?_|fail)
    have hse : (ivn o).set (0 + oi * 1) (.int .i64 (z : Int)) = ivn (o.set oi z) := by simp [ivn, List.map_set]
    refine OW_storeTo (ivn (o.set oi z)) rfl rfl rfl hse iU (by rw [ivn_length]; omega) ?_
    (repeat' first|refine kW ?_|refine kU fun bk=>?_|refine kV fun hc=>?_|refine kZ (fun hc=>?_) fun hc=>?_|fail)
    refine WQ_round (X := Nat × S6 × List Nat × Chunk) (μ := fun x => 4 + n - x.1) (x := (i, s5, o, D5)) (i + 1, s6, o.set oi z, D6) (by simp only; omega) ⟨by simp only; omega, h6, hr6, by simp only [List.length_set]; exact hol, by simp only; rw [hk3]; exact hsl⟩ iS (fun w h => iH h)
  · obtain rfl : i = 4 + n := by omega
    rw [show 4 + n - (4 + n) = 0 from by omega, owS] at hsl
    subst hsl
    simp only at hfa
    rw [if_neg (show ¬ (s5, o).1.e ≠ 0 from fun hh => hh he5)]
    have hcc := completeCode_n (some ⟨b, 0, none⟩) 19 o ([(b, cl (ivn o) 3)] :: rdR p q v most kn :: D5 :: E :: L) (by rw [hol]; exact sl_cells (c := (ivn o).toArray) Fnd.here (by rw [ivn_length, hol]) (by simp)) (fun x hx => by have := hfa.2.1 x hx; omega) (by omega)
    rw [hol] at hcc
    unfold rdR at hcc
    refine OW_call rfl rfl rfl hcc rfl (fun r L' hp => ?_)
    rcases hp with ⟨h7, rfl, rfl⟩ | ⟨h7, pc, Co, rfl, rfl, hco⟩
    · rw [if_neg (by exact h7)]
      simp only [fl3 he5]
      (repeat' first|refine kW ?_|refine kU fun bk=>?_|refine kV fun hc=>?_|refine kZ (fun hc=>?_) fun hc=>?_|fail)
      refine kR ?_
      exact ⟨_, iC, .inl ⟨by decide, rfl, rfl⟩⟩
    · rw [if_pos (by exact h7)]
      (repeat' first|refine kW ?_|refine kU fun bk=>?_|refine kV fun hc=>?_|refine kZ (fun hc=>?_) fun hc=>?_|fail)
      refine kR ?_
      exact ⟨_, iC, .inr ⟨he5, pc, Co, D5, rfl, hr5, hco, h7, hfa.1, hfa.2.1, hfa.2.2, rfl⟩⟩
end Go.Proofs.YtdcehmhelfohfaaDoor
namespace Go.Hf
open Go.Vx
set_option linter.all false
theorem rdS_lt2 {l : List Nat} (hl : 0 < l.length) (w t z : Nat) : ∀ f n, (rdS l w t z f n).1 < l.length
  | 0, n => by simpa [rdS] using hl
  | f + 1, n => by
    have ih := rdS_lt2 hl w t z f (n + 1)
    unfold rdS
    split
    · rename_i i h
      exact (symAt_lt h).1
    · split
      · exact hl
      · split
        · exact hl
        · exact ih
end Go.Hf
namespace Go.If
open Go.Vx Go.Hf
set_option linter.all false
theorem sv_lt [W0] (d : List UInt8) (s : S6) {l : List Nat} (h : 0 < l.length) : sv d s l < l.length := by
  unfold sv
  split
  · exact rdS_lt2 h _ _ _ _ _
  · exact h
theorem rpV_le {k : Nat} {l : List Nat} (hk : k < 19) (h : ∀ x ∈ l, x ≤ 15) : rpV k l ≤ 15 := by
  unfold rpV
  split
  · by_cases hl : l.length - 1 < l.length
    · rw [show l.getD (l.length - 1) 0 = l[l.length - 1] from by simp [List.getD, hl]]
      exact h _ (List.getElem_mem hl)
    · rw [show l.getD (l.length - 1) 0 = 0 from by simp [List.getD, List.getElem?_eq_none (Nat.le_of_not_lt hl)]]
      omega
  · split
    · omega
    · omega
def lgS [W0] (d : List UInt8) (m : Nat) (s : S6) : S6 × List Nat := if (lcS d s).1.e ≠ 0 then ((lcS d s).1, []) else lpS d (lcS d s).2 m m (lcS d s).1 []
theorem dyT_eq [W0] (d : List UInt8) (n1 n2 : Nat) (s : S6) : dyT d n1 n2 s = if (lgS d (n1 + n2) s).1.e ≠ 0 then ((lgS d (n1 + n2) s).1, [], 0) else dyK n1 (lgS d (n1 + n2) s) := by
  unfold dyT lgS
  by_cases h : (lcS d s).1.e ≠ 0
  · simp only [if_pos h]
  · simp only [if_neg h]
end Go.If
namespace Go.Proofs.YtdcehmhelfohfaaDoor
open Go Go.Vx Go.Hf Go.If
variable [W0]
set_option maxRecDepth 4000
set_option linter.all false
set_option maxHeartbeats 8000000 in
theorem plengths_n (p q most m : Nat) (v kn : Value) (d : List UInt8) (s : S6) (D E : Chunk) (L : List Chunk) (h : RdN q d s.t D E) (hl : d.length ≤ 140737488355328) (he : s.e = 0) (hor : OrAt L) (hm : m ≤ 400) :
    Gv Tryd.prog 71 [.pointer (some ⟨p, 0, none⟩), .int .i64 (m : Int)].toArray (rdR p q v most kn :: D :: E :: L) (fun r L' =>
      ((lgS d m s).1.e ≠ 0 ∧ r = .tuple #[.slice none 0 0, .int .i64 ((lgS d m s).1.e : Int)] ∧ L' = L) ∨
      ((lgS d m s).1.e = 0 ∧ ∃ u Cq D', r = .tuple #[u, .int .i64 0] ∧ RdN q d (lgS d m s).1.t D' E ∧ Ow 3 1 u m (ivn (lgS d m s).2) Cq ∧ (lgS d m s).2.length = m ∧ (∀ x ∈ (lgS d m s).2, x ≤ 15) ∧ (lgS d m s).1.out = s.out ∧ L' = Cq :: rdR p q v most kn :: D' :: E :: L)) := by
  refine Gv.of_body Tryd.func71 rfl rfl ?_
  have hlc := lengthCode_n p q most v kn d s D E L h hl he hor
  unfold lgS
  generalize lcS d s = S at hlc ⊢
  obtain ⟨S1, own⟩ := S
  simp only at hlc ⊢
  (repeat' first|refine kW ?_|refine kU fun bk=>?_|refine kV fun hc=>?_|refine kZ (fun hc=>?_) fun hc=>?_|fail)
  refine OW_call rfl rfl rfl hlc rfl (fun r L' hp => ?_)
  rcases hp with ⟨h1, rfl, rfl⟩ | ⟨h1, pc, Co, D1, rfl, hr1, hco, hks, hol, ho7, hout, rfl⟩
  · rw [if_pos h1]
    (repeat' first|refine kW ?_|refine kU fun bk=>?_|refine kV fun hc=>?_|refine kZ (fun hc=>?_) fun hc=>?_|fail)
    refine WQ_retI (rs := [.tmp 4, .tmp 5]) (vs := [.slice none 0 0, .int .i64 (S1.e : Int)]) rfl rfl ?_
    exact ⟨_, iC, .inl ⟨h1, rfl, rfl⟩⟩
  rw [if_neg (show ¬ S1.e ≠ 0 by omega)]
  generalize hQ : lpS d own m m S1 [] = Q
  obtain ⟨q1, q2⟩ := Q
  simp only
  unfold rdR
  (repeat' first|refine kW ?_|refine kU fun bk=>?_|refine kV fun hc=>?_|refine kZ (fun hc=>?_) fun hc=>?_|fail)
  refine WC_loop (X := Nat × S6 × List Nat × Value × Chunk × Chunk) (fun x => [(0, .pointer (some ⟨p, 0, none⟩)), (1, .int .i64 (m : Int)), (6, .pointer (some ⟨pc, 0, none⟩)), (8, x.2.2.2.1)]) (fun x => x.2.2.2.2.1 :: rdR p q v most kn :: x.2.2.2.2.2 :: E :: Co :: L)
    (fun x => x.2.1.e = 0 ∧ x.2.2.1.length ≤ m ∧ m ≤ x.1 + x.2.2.1.length ∧ (∀ y ∈ x.2.2.1, y ≤ 15) ∧ Ow 3 1 x.2.2.2.1 x.2.2.1.length (ivn x.2.2.1) x.2.2.2.2.1 ∧ RdN q d x.2.1.t x.2.2.2.2.2 E ∧ x.2.1.out = S1.out ∧ lpS d own m x.1 x.2.1 x.2.2.1 = (q1, q2)) (fun x => x.1)
    (m, S1, [], .slice none 0 0, [], D1) ⟨h1, Nat.zero_le _, by simp, by simp, .inl ⟨rfl, rfl, rfl, rfl⟩, hr1, rfl, hQ⟩ iS (fun w h => Holds.nil.2 h) ?_
  rintro ⟨f, s5, l, u, Cq, D5⟩ ⟨he5, hlm, hf, hl15, hou, hr5, hout5, hsl⟩
  simp only at he5 hlm hf hl15 hou hr5 hout5 hsl ⊢
  obtain ⟨ua, uc, rfl⟩ := ow_slc hou
  unfold rdR
  (repeat' first|refine kW ?_|refine kU fun bk=>?_|refine kV fun hc=>?_|refine kZ (fun hc=>?_) fun hc=>?_|fail)
  · have hlt : l.length < m := by omega
    obtain ⟨g, rfl⟩ : ∃ z, f = z + 1 := ⟨f - 1, by omega⟩
    rw [lpS, if_pos ⟨he5, hlt⟩] at hsl
    have hsy := psym_n q pc own d s5 D5 E Co (Cq :: rdR p q v most kn :: L) hr5 hl he5 hco (by omega) (fun x hx => by have := ho7 x hx; omega) (by omega)
    have hk19 := sv_lt d s5 (l := own) (by omega)
    have hso := sy_out d s5 own
    unfold rpS rpL at hsl
    generalize sv d s5 own = k at hsy hk19 hsl
    generalize sy d s5 own = s6 at hsy hso hsl
    unfold rdR at hsy
    refine OW_call rfl rfl rfl (Gv.holds hsy (fun w h => iH h)) rfl (fun r L' hp => ?_)
    obtain ⟨D6, rfl, hr6, rfl⟩ := hp
    (repeat' first|refine kW ?_|refine kU fun bk=>?_|refine kV fun hc=>?_|refine kZ (fun hc=>?_) fun hc=>?_|fail)
    · have h6 : s6.e ≠ 0 := by omega
      rw [if_pos h6, if_neg h6] at hsl
      injection hsl with e1 e2
      subst e1 e2
      refine WQ_retI (rs := [.tmp 4, .tmp 5]) (vs := [.slice none 0 0, .int .i64 (s6.e : Int)]) rfl rfl ?_
      exact ⟨_, iC, .inl ⟨h6, rfl, rfl⟩⟩
    have h6 : s6.e = 0 := by omega
    rw [if_neg (show ¬ s6.e ≠ 0 by omega)] at hsl
    have hrun := prun_n p q most k v kn d s6 D6 E (Co :: Cq :: L) hr6 hl h6 (by omega)
    have hto := tk_out d s6 (rpB k)
    have htv := tv_lt d s6 (rpB k)
    have hpw : 2 ^ rpB k ≤ 2 ^ 7 := Nat.pow_le_pow_right (by decide) (rpB_le k)
    have hra := rpA_pos k
    have hrv := rpV_le (l := l) (k := k) (by omega) hl15
    obtain ⟨n, hn⟩ : ∃ n, n = rpA k + tv d s6 (rpB k) := ⟨_, rfl⟩
    rw [← hn] at hrun hsl
    have hn1 : 1 ≤ n ∧ n ≤ 140 := by omega
    generalize tk d s6 (rpB k) = s7 at hrun hto hsl
    unfold rdR at hrun
    refine OW_call rfl rfl rfl (Gv.holds hrun (fun w h => iH h)) rfl (fun r L' hp => ?_)
    rcases hp with ⟨h7, rfl, rfl⟩ | ⟨h7, rfl, D7, hr7, rfl⟩
    · rw [if_pos h7, if_neg h7] at hsl
      injection hsl with e1 e2
      subst e1 e2
      (repeat' first|refine kW ?_|refine kU fun bk=>?_|refine kV fun hc=>?_|refine kZ (fun hc=>?_) fun hc=>?_|fail)
      refine WQ_retI (rs := [.tmp 4, .tmp 5]) (vs := [.slice none 0 0, .int .i64 (s7.e : Int)]) rfl rfl ?_
      exact ⟨_, iC, .inl ⟨h7, rfl, rfl⟩⟩
    rw [if_neg (show ¬ s7.e ≠ 0 by omega)] at hsl
    have hbad : (k = 16 ∧ l = []) ∨ m < l.length + n → q1.e = 3 := by
      intro hb
      rw [if_pos hb, if_neg (by rw [fl3 h7]; decide)] at hsl
      injection hsl with e1 e2
      rw [← e1, fl3 h7]
    have hne : l.length = 0 ↔ l = [] := List.length_eq_zero_iff
    (repeat' first|refine kW ?_|refine kU fun bk=>?_|refine kV fun hc=>?_|refine kZ (fun hc=>?_) fun hc=>?_|fail)
    · rw [hbad (.inl ⟨by omega, hne.1 (by omega)⟩)]
      refine WQ_retI (rs := [.tmp 4, .tmp 5]) (vs := [.slice none 0 0, .int .i64 3]) rfl rfl ?_
      exact ⟨_, iC, .inl ⟨by decide, rfl, rfl⟩⟩
    · rw [hbad (.inr (by omega))]
      refine WQ_retI (rs := [.tmp 4, .tmp 5]) (vs := [.slice none 0 0, .int .i64 3]) rfl rfl ?_
      exact ⟨_, iC, .inl ⟨by decide, rfl, rfl⟩⟩
    · have hg : ¬ ((k = 16 ∧ l = []) ∨ m < l.length + n) := by
        rintro (⟨h1, h2⟩ | h2)
        · have := hne.2 h2; omega
        · omega
      rw [if_neg hg, if_pos h7] at hsl
      have hlo := lengthOf_n k ua uc l (rdR p q v most kn :: D7 :: E :: Co :: Cq :: L) (sl_there (sl_there (sl_there (sl_there (ow_sl hou))))) (by omega) (by omega) (fun hh => hg (.inl hh))
      unfold rdR at hlo
      generalize rpV k l = rv at hlo hrv hsl
      refine OW_callP rfl rfl rfl hlo rfl ?_
      (repeat' first|refine kW ?_|refine kU fun bk=>?_|refine kV fun hc=>?_|refine kZ (fun hc=>?_) fun hc=>?_|fail)
      refine OW_buildSlice (cs := [.int .i64 (rv : Int)]) rfl (by rfl) (by first | (simp [fillL, patch, Value.cells, zeros]; done) | (simp [fillL, patch, Value.cells, zeros]; rfl)) (by omega) rfl rfl (fun b => ?_)
      (repeat' first|refine kW ?_|refine kU fun bk=>?_|refine kV fun hc=>?_|refine kZ (fun hc=>?_) fun hc=>?_|fail)
      refine OW_call rfl rfl rfl (repeat_n b rv n _ Fnd.here hn1.1 (by omega)) rfl (fun r L' hp => ?_)
      obtain ⟨Ct, rfl, hot⟩ := hp
      (repeat' first|refine kW ?_|refine kU fun bk=>?_|refine kV fun hc=>?_|refine kZ (fun hc=>?_) fun hc=>?_|fail)
      refine OW_append rfl rfl hou (ow_sl hot) (by repeat (first | exact Zip.here _ | apply Zip.there)) rfl ivn_ones (by omega) (by simp [maxLen]; omega) rfl (fun v' C' ho' _ _ => ?_)
      rw [← ivn_app] at ho'
      (repeat' first|refine kW ?_|refine kU fun bk=>?_|refine kV fun hc=>?_|refine kZ (fun hc=>?_) fun hc=>?_|fail)
      refine WQ_round (X := Nat × S6 × List Nat × Value × Chunk × Chunk) (μ := fun x => x.1) (x := (g + 1, s5, l, .slice ua l.length uc, Cq, D5)) (g, s7, l ++ List.replicate n rv, v', C', D7) (by simp only; omega) ⟨h7, by simp; omega, by simp; omega, fun y hy => ?_, by simpa using ho', hr7, by rw [hto, hso, hout5], hsl⟩ iS (fun w h => iH h)
      rcases List.mem_append.1 hy with hy | hy
      · exact hl15 y hy
      · rw [List.eq_of_mem_replicate hy]; exact hrv
    · rw [hbad (.inr (by omega))]
      refine WQ_retI (rs := [.tmp 4, .tmp 5]) (vs := [.slice none 0 0, .int .i64 3]) rfl rfl ?_
      exact ⟨_, iC, .inl ⟨by decide, rfl, rfl⟩⟩
    · have hg : ¬ ((k = 16 ∧ l = []) ∨ m < l.length + n) := by
        rintro (⟨h1, h2⟩ | h2)
        · have := hne.2 h2; omega
        · omega
      rw [if_neg hg, if_pos h7] at hsl
      have hlo := lengthOf_n k ua uc l (rdR p q v most kn :: D7 :: E :: Co :: Cq :: L) (sl_there (sl_there (sl_there (sl_there (ow_sl hou))))) (by omega) (by omega) (fun hh => hg (.inl hh))
      unfold rdR at hlo
      generalize rpV k l = rv at hlo hrv hsl
      refine OW_callP rfl rfl rfl hlo rfl ?_
      (repeat' first|refine kW ?_|refine kU fun bk=>?_|refine kV fun hc=>?_|refine kZ (fun hc=>?_) fun hc=>?_|fail)
      refine OW_buildSlice (cs := [.int .i64 (rv : Int)]) rfl (by rfl) (by first | (simp [fillL, patch, Value.cells, zeros]; done) | (simp [fillL, patch, Value.cells, zeros]; rfl)) (by omega) rfl rfl (fun b => ?_)
      (repeat' first|refine kW ?_|refine kU fun bk=>?_|refine kV fun hc=>?_|refine kZ (fun hc=>?_) fun hc=>?_|fail)
      refine OW_call rfl rfl rfl (repeat_n b rv n _ Fnd.here hn1.1 (by omega)) rfl (fun r L' hp => ?_)
      obtain ⟨Ct, rfl, hot⟩ := hp
      (repeat' first|refine kW ?_|refine kU fun bk=>?_|refine kV fun hc=>?_|refine kZ (fun hc=>?_) fun hc=>?_|fail)
      refine OW_append rfl rfl hou (ow_sl hot) (by repeat (first | exact Zip.here _ | apply Zip.there)) rfl ivn_ones (by omega) (by simp [maxLen]; omega) rfl (fun v' C' ho' _ _ => ?_)
      rw [← ivn_app] at ho'
      (repeat' first|refine kW ?_|refine kU fun bk=>?_|refine kV fun hc=>?_|refine kZ (fun hc=>?_) fun hc=>?_|fail)
      refine WQ_round (X := Nat × S6 × List Nat × Value × Chunk × Chunk) (μ := fun x => x.1) (x := (g + 1, s5, l, .slice ua l.length uc, Cq, D5)) (g, s7, l ++ List.replicate n rv, v', C', D7) (by simp only; omega) ⟨h7, by simp; omega, by simp; omega, fun y hy => ?_, by simpa using ho', hr7, by rw [hto, hso, hout5], hsl⟩ iS (fun w h => iH h)
      rcases List.mem_append.1 hy with hy | hy
      · exact hl15 y hy
      · rw [List.eq_of_mem_replicate hy]; exact hrv
  · have hlt : l.length = m := by omega
    have hq : lpS d own m f s5 l = (s5, l) := by
      cases f with
      | zero => rfl
      | succ f => rw [lpS, if_neg (fun hh => by omega)]
    rw [hq] at hsl
    injection hsl with e1 e2
    subst e1 e2
    rw [hlt] at hou
    rw [hlt]
    refine kR ?_
    exact ⟨_, iC, .inr ⟨he5, _, Cq, D5, rfl, hr5, hou, (by first | exact hlt | rfl), hl15, by rw [hout5, hout], rfl⟩⟩
end Go.Proofs.YtdcehmhelfohfaaDoor
namespace Go.If
open Go.Vx Go.Hf
set_option linter.all false
def dbS [W0] (d : List UInt8) (most : Nat) (s : S6) : S6 :=
  if (dyS d s).1.e ≠ 0 then (dyS d s).1 else cdC d most ((dyS d s).2.1.take (dyS d s).2.2) ((dyS d s).2.1.drop (dyS d s).2.2) (8 * d.length + 1) (dyS d s).1
end Go.If
namespace Go.Proofs.YtdcehmhelfohfaaDoor
open Go Go.Vx Go.Hf Go.If
variable [W0]
set_option maxRecDepth 4000
set_option linter.all false
set_option maxHeartbeats 8000000 in
theorem codes_n (p q most : Nat) (v kn : Value) (d : List UInt8) (s : S6) (D E : Chunk) (L : List Chunk) (h : RdN q d s.t D E) (hl : d.length ≤ 140737488355328) (he : s.e = 0) (hor : OrAt L) :
    Gv Tryd.prog 59 [.pointer (some ⟨p, 0, none⟩)].toArray (rdR p q v most kn :: D :: E :: L) (fun r L' =>
      ((dyS d s).1.e ≠ 0 ∧ r = .tuple #[.pointer none, .int .i64 ((dyS d s).1.e : Int)] ∧ L' = L) ∨
      ((dyS d s).1.e = 0 ∧ ∃ pc pl pd Cl Cd D' l dl, r = .tuple #[.pointer (some ⟨pc, 0, none⟩), .int .i64 0] ∧ l = (dyS d s).2.1.take (dyS d s).2.2 ∧ dl = (dyS d s).2.1.drop (dyS d s).2.2 ∧ RdN q d (dyS d s).1.t D' E ∧ CoD l pl Cl ∧ CoD dl pd Cd ∧ kS l ≤ 32768 ∧ (∀ x ∈ l, x ≤ 15) ∧ l.length ≤ 400 ∧ kS dl ≤ 32768 ∧ (∀ x ∈ dl, x ≤ 15) ∧ dl.length ≤ 400 ∧
        (dyS d s).1.out = s.out ∧ L' = csC pc pl pd :: Cl :: Cd :: rdR p q v most kn :: D' :: E :: L)) := by
  refine Gv.of_body Tryd.func59 rfl rfl ?_
  have hc1 := pcount_n p q most 5 257 v kn d s D E L h hl (by decide) he (by decide)
  have htv := tv_lt d s 5
  have hto := tk_out d s 5
  unfold dyS
  generalize tv d s 5 = z1 at hc1 htv ⊢
  generalize tk d s 5 = s1 at hc1 hto ⊢
  (repeat' first|refine kW ?_|refine kU fun bk=>?_|refine kV fun hc=>?_|refine kZ (fun hc=>?_) fun hc=>?_|fail)
  refine OW_call rfl rfl rfl hc1 rfl (fun r L' hp => ?_)
  rcases hp with ⟨h1, rfl, rfl⟩ | ⟨h1, rfl, D1, hr1, rfl⟩
  · rw [if_pos h1]
    (repeat' first|refine kW ?_|refine kU fun bk=>?_|refine kV fun hc=>?_|refine kZ (fun hc=>?_) fun hc=>?_|fail)
    refine WQ_retI (rs := [.tmp 2, .tmp 3]) (vs := [.pointer none, .int .i64 (s1.e : Int)]) rfl rfl ?_
    exact ⟨_, iC, .inl ⟨h1, rfl, rfl⟩⟩
  rw [if_neg (show ¬ s1.e ≠ 0 by omega)]
  have hc2 := pcount_n p q most 5 1 v kn d s1 D1 E L hr1 hl (by decide) h1 (by decide)
  have htv2 := tv_lt d s1 5
  have hto2 := tk_out d s1 5
  generalize tv d s1 5 = z2 at hc2 htv2 ⊢
  generalize tk d s1 5 = s2 at hc2 hto2 ⊢
  (repeat' first|refine kW ?_|refine kU fun bk=>?_|refine kV fun hc=>?_|refine kZ (fun hc=>?_) fun hc=>?_|fail)
  · rw [if_pos (show 29 < z1 by omega)]
    simp only [fl3 h1]
    refine WQ_retI (rs := [.tmp 2, .tmp 3]) (vs := [.pointer none, .int .i64 3]) rfl rfl ?_
    exact ⟨_, iC, .inl ⟨by decide, rfl, rfl⟩⟩
  rw [if_neg (show ¬ 29 < z1 by omega)]
  refine OW_call rfl rfl rfl hc2 rfl (fun r L' hp => ?_)
  rcases hp with ⟨h2, rfl, rfl⟩ | ⟨h2, rfl, D2, hr2, rfl⟩
  · rw [if_pos h2]
    (repeat' first|refine kW ?_|refine kU fun bk=>?_|refine kV fun hc=>?_|refine kZ (fun hc=>?_) fun hc=>?_|fail)
    refine WQ_retI (rs := [.tmp 2, .tmp 3]) (vs := [.pointer none, .int .i64 (s2.e : Int)]) rfl rfl ?_
    exact ⟨_, iC, .inl ⟨h2, rfl, rfl⟩⟩
  rw [if_neg (show ¬ s2.e ≠ 0 by omega)]
  (repeat' first|refine kW ?_|refine kU fun bk=>?_|refine kV fun hc=>?_|refine kZ (fun hc=>?_) fun hc=>?_|fail)
  · rw [if_pos (show 29 < z2 by omega)]
    simp only [fl3 h2]
    refine WQ_retI (rs := [.tmp 2, .tmp 3]) (vs := [.pointer none, .int .i64 3]) rfl rfl ?_
    exact ⟨_, iC, .inl ⟨by decide, rfl, rfl⟩⟩
  rw [if_neg (show ¬ 29 < z2 by omega), dyT_eq]
  obtain ⟨n1, hn1⟩ : ∃ n1, n1 = 257 + z1 := ⟨_, rfl⟩
  obtain ⟨n2, hn2⟩ : ∃ n2, n2 = 1 + z2 := ⟨_, rfl⟩
  rw [← hn1, ← hn2]
  have hle := plengths_n p q most (n1 + n2) v kn d s2 D2 E L hr2 hl h2 hor (by omega)
  generalize lgS d (n1 + n2) s2 = Q at hle ⊢
  obtain ⟨q1, q2⟩ := Q
  simp only at hle ⊢
  rw [← Int.natCast_add]
  refine OW_call rfl rfl rfl hle rfl (fun r L' hp => ?_)
  rcases hp with ⟨h3, rfl, rfl⟩ | ⟨h3, u, Cq, D3, rfl, hr3, hou, hql, hq15, hout, rfl⟩
  · rw [if_pos h3]
    (repeat' first|refine kW ?_|refine kU fun bk=>?_|refine kV fun hc=>?_|refine kZ (fun hc=>?_) fun hc=>?_|fail)
    refine WQ_retI (rs := [.tmp 2, .tmp 3]) (vs := [.pointer none, .int .i64 (q1.e : Int)]) rfl rfl ?_
    exact ⟨_, iC, .inl ⟨h3, rfl, rfl⟩⟩
  rw [if_neg (show ¬ q1.e ≠ 0 by omega)]
  unfold dyK
  simp only
  have hov2 := hou
  rcases hov2 with ⟨_, h0, _⟩ | ⟨b, cap, rest, rfl, rfl, hxl, hrl, hmc, hcm⟩
  · omega
  have hl4 : ∀ x ∈ q2.take n1, x ≤ 15 := fun x hx => hq15 x (List.mem_of_mem_take hx)
  have hd4 : ∀ x ∈ q2.drop n1, x ≤ 15 := fun x hx => hq15 x (List.mem_of_mem_drop hx)
  have hln : (q2.take n1).length = n1 := by simp; omega
  have hdn : (q2.drop n1).length = n2 := by simp; omega
  obtain ⟨x, hx⟩ : ∃ x, q2[256]? = some x := ⟨q2[256], List.getElem?_eq_getElem (by omega)⟩
  have hcell : (ivn q2 ++ rest).toArray[0 + 256 * 1]? = some (.int .i64 (x : Int)) := by
    have h5 := ivn_get hx
    have h6 := (List.getElem?_eq_some_iff.1 h5).1
    rw [List.getElem?_toArray, List.getElem?_append_left (by simpa using h6)]
    simpa using h5
  rw [show q2.getD 256 0 = x from by simp [List.getD, hx]]
  (repeat' first|refine kW ?_|refine kU fun bk=>?_|refine kV fun hc=>?_|refine kZ (fun hc=>?_) fun hc=>?_|fail)
  refine OW_EV (EV_indexAddr (j := 256) rfl rfl rfl (by omega)) rfl ?_
  (repeat' first|refine kW ?_|refine kU fun bk=>?_|refine kV fun hc=>?_|refine kZ (fun hc=>?_) fun hc=>?_|fail)
  refine OW_EV (EV_load rfl Fnd.here hcell) rfl ?_
  (repeat' first|refine kW ?_|refine kU fun bk=>?_|refine kV fun hc=>?_|refine kZ (fun hc=>?_) fun hc=>?_|fail)
  · rw [if_neg (fun hh => hh.1 (by omega))]
    simp only [fl3 h3]
    refine WQ_retI (rs := [.tmp 2, .tmp 3]) (vs := [.pointer none, .int .i64 3]) rfl rfl ?_
    exact ⟨_, iC, .inl ⟨by decide, rfl, rfl⟩⟩
  have hco := codesOf_n (some ⟨b, 0, none⟩) (some ⟨b, n1 * 1, none⟩) cap (cap - n1) (q2.take n1) (q2.drop n1) ([(b, cl (ivn q2 ++ rest) 3)] :: rdR p q v most kn :: D3 :: E :: L)
    (.inr ⟨_, _, by rw [hln], RdAt.cl' (l := ivn q2 ++ rest) Fnd.here (by
      rw [ivn_length, hln]; unfold cut ivn
      rw [List.drop_zero, List.take_append_of_le_length (by simp; omega), List.map_take]), by rw [ivn_length]; simp⟩) hl4 (by omega)
    (.inr ⟨_, _, by rw [hdn], RdAt.cl' (l := ivn q2 ++ rest) Fnd.here (by
      rw [ivn_length, hdn]; unfold cut ivn
      rw [List.drop_append_of_le_length (by simp; omega), List.take_append_of_le_length (by simp; omega), Nat.mul_one, ← List.map_drop, ← List.map_take, List.take_of_length_le (by omega)]), by rw [ivn_length]; simp⟩) hd4 (by omega)
  rw [hln, hdn] at hco
  refine WC_draw [] [] mixed ?_
  (refine WR_t 0 ?_; refine WR_t 1 ?_)
  (refine WR_take 2 rfl rfl (by kernel_rfl) iP iC (EV_sliceTo (h := n1) rfl rfl rfl (by omega)) (by rfl) ?_)
  (refine WR_t 3 ?_; refine WR_t 4 ?_)
  (refine WR_take 5 rfl rfl (by kernel_rfl) iP iC (EV_sliceFrom0 (l := n1) (h := n1 + n2) rfl rfl rfl (by omega) (by omega) (by omega)) (by rfl) ?_)
  rw [show n1 + n2 - n1 = n2 from by omega]
  (refine WR_one 6 (by kernel_rfl) rfl rfl ?_)
  refine OW_call rfl rfl rfl hco rfl (fun r L' hp => ?_)
  rcases hp with ⟨h4, rfl, rfl⟩ | ⟨h4, pc, pl, pd, Cl, Cd, rfl, rfl, hcl, hcd⟩
  · refine ⟨iC, ?_⟩
    (refine WR_t 7 ?_; refine WR_t 8 ?_; refine WR_t 9 ?_; refine WR_t 10 ?_)
    (refine WR_done (by kernel_rfl) ?_)
    rw [if_neg (fun hh => h4 hh.2)]
    simp only [fl3 h3]
    (repeat' first|refine kW ?_|refine kU fun bk=>?_|refine kV fun hc=>?_|refine kZ (fun hc=>?_) fun hc=>?_|fail)
    refine kR ?_
    exact ⟨_, iC, .inl ⟨by decide, rfl, rfl⟩⟩
  · refine ⟨iC, ?_⟩
    (refine WR_t 7 ?_; refine WR_t 8 ?_; refine WR_t 9 ?_; refine WR_t 10 ?_)
    (refine WR_done (by kernel_rfl) ?_)
    rw [if_pos ⟨by omega, h4⟩]
    have hks := kS_sum (q2.drop n1)
    have hkd : kS (q2.drop n1) ≤ 32768 := by
      rcases h4.2 with h | h
      · omega
      · rw [sgl_sum] at h
        have := of_decide_eq_true h
        omega
    have h41 := h4.1
    (repeat' first|refine kW ?_|refine kU fun bk=>?_|refine kV fun hc=>?_|refine kZ (fun hc=>?_) fun hc=>?_|fail)
    refine kR ?_
    exact ⟨_, iC, .inr ⟨h3, pc, pl, pd, Cl, Cd, D3, _, _, rfl, rfl, rfl, hr3, hcl, hcd, (show kS (q2.take n1) ≤ 32768 by omega), hl4, (show (q2.take n1).length ≤ 400 by omega), hkd, hd4, (show (q2.drop n1).length ≤ 400 by omega), by rw [hout, hto2, hto], rfl⟩⟩
set_option maxHeartbeats 4000000 in
theorem pdynamic_n (p q most : Nat) (v kn : Value) (d : List UInt8) (s : S6) (D E C : Chunk) (L : List Chunk) (h : RdN q d s.t D E) (hl : d.length ≤ 140737488355328) (he : s.e = 0) (hm : most ≤ 1000000) (hkn : kn.oneCell' = true) (hor : OrAt L)
    (ho : Ow 5 1 v s.out.length (bsv s.out) C) (hom : s.out.length ≤ most) :
    Gv Tryd.prog 47 [.pointer (some ⟨p, 0, none⟩)].toArray (rdR p q v most kn :: D :: E :: C :: L) (fun r L' =>
      ((dbS d most s).e ≠ 0 ∧ r = .int .i64 ((dbS d most s).e : Int) ∧ L' = L) ∨
      ((dbS d most s).e = 0 ∧ r = .int .i64 0 ∧ ∃ v' D' C', Ow 5 1 v' (dbS d most s).out.length (bsv (dbS d most s).out) C' ∧ (dbS d most s).out.length ≤ most ∧ RdN q d (dbS d most s).t D' E ∧ L' = rdR p q v' most kn :: D' :: E :: C' :: L)) := by
  refine Gv.of_body Tryd.func47 rfl rfl ?_
  have hco := codes_n p q most v kn d s D E (C :: L) h hl he hor.there
  unfold dbS
  generalize dyS d s = Y at hco ⊢
  obtain ⟨s1, ly, ny⟩ := Y
  simp only at hco ⊢
  (repeat' first|refine kW ?_|refine kU fun bk=>?_|refine kV fun hc=>?_|refine kZ (fun hc=>?_) fun hc=>?_|fail)
  refine OW_call rfl rfl rfl hco rfl (fun r L' hp => ?_)
  rcases hp with ⟨h1, rfl, rfl⟩ | ⟨h1, pc, pl, pd, Cl, Cd, D1, l, dl, rfl, rfl, rfl, hr1, hcl, hcd, hk1, h151, hl4, hk2, h152, hd4, hout, rfl⟩
  · rw [if_pos h1]
    (repeat' first|refine kW ?_|refine kU fun bk=>?_|refine kV fun hc=>?_|refine kZ (fun hc=>?_) fun hc=>?_|fail)
    refine kR ?_
    exact ⟨_, iC, .inl ⟨h1, rfl, rfl⟩⟩
  rw [if_neg (show ¬ s1.e ≠ 0 by omega)]
  rw [← hout] at ho hom
  have hcd2 := pcoded_n p q pc pl pd most v kn (ly.take ny) (ly.drop ny) d s1 D1 E C Cl Cd L hr1 hl h1 hm hkn ho hom hcl hk1 h151 hl4 hcd hk2 h152 hd4
  generalize cdC d most (ly.take ny) (ly.drop ny) (8 * d.length + 1) s1 = R at hcd2 ⊢
  (repeat' first|refine kW ?_|refine kU fun bk=>?_|refine kV fun hc=>?_|refine kZ (fun hc=>?_) fun hc=>?_|fail)
  refine OW_call rfl rfl rfl (Gv.holds hcd2 (fun w h => iH h)) rfl (fun r L' hp => ?_)
  rcases hp with ⟨h2, rfl, rfl⟩ | ⟨h2, rfl, v', D', C', ho', hl', hr', rfl⟩
  · (repeat' first|refine kW ?_|refine kU fun bk=>?_|refine kV fun hc=>?_|refine kZ (fun hc=>?_) fun hc=>?_|fail)
    refine kR ?_
    exact ⟨_, iC, .inl ⟨h2, rfl, rfl⟩⟩
  · (repeat' first|refine kW ?_|refine kU fun bk=>?_|refine kV fun hc=>?_|refine kZ (fun hc=>?_) fun hc=>?_|fail)
    refine kR ?_
    exact ⟨_, iC, .inr ⟨h2, rfl, v', D', C', ho', hl', hr', rfl⟩⟩
end Go.Proofs.YtdcehmhelfohfaaDoor
namespace Go.If
open Go.Vx Go.Hf
set_option linter.all false
structure Le (a b : S6) : Prop where
  t : a.t ≤ b.t
  o : a.out.length ≤ b.out.length
theorem Le.rfl' (a : S6) : Le a a := ⟨Nat.le_refl _, Nat.le_refl _⟩
theorem Le.tr {a b c : S6} (h : Le a b) (h2 : Le b c) : Le a c := ⟨Nat.le_trans h.t h2.t, Nat.le_trans h.o h2.o⟩
theorem fl_le (s : S6) (k : Nat) : Le s (fl s k) := ⟨by rw [fl_t]; exact Nat.le_refl _, by rw [fl_out]; exact Nat.le_refl _⟩
theorem tk_le (d : List UInt8) (s : S6) (n : Nat) : Le s (tk d s n) := ⟨tk_t d s n, by rw [tk_out]; exact Nat.le_refl _⟩
theorem sy_o [W0] (d : List UInt8) (s : S6) (l : List Nat) : (sy d s l).out = s.out := by
  unfold sy
  split
  · exact fl_out _ _
  · rfl
theorem sy_le [W0] (d : List UInt8) (s : S6) (l : List Nat) : Le s (sy d s l) := ⟨sy_t d s l, by rw [sy_o]; exact Nat.le_refl _⟩
theorem pt_le (most : Nat) (s : S6) (c : UInt8) : Le s (pt most s c) := by
  by_cases h : s.out.length < most
  · rw [pt_ok h]; exact ⟨Nat.le_refl _, by simp⟩
  · rw [pt_no (by omega)]; exact fl_le _ _
theorem cpL_le (most far : Nat) : ∀ n s, Le s (cpL most far n s)
  | 0, s => Le.rfl' s
  | n + 1, s => by
    rw [cpL]
    split
    · exact (pt_le _ _ _).tr (cpL_le most far n _)
    · exact Le.rfl' s
theorem mtS_le [W0] (d : List UInt8) (most k : Nat) (dl : List Nat) (s : S6) : Le s (mtS d most k dl s) := by
  unfold mtS
  have h1 := tk_le d s (lnB k).2
  have h2 := sy_le d (tk d s (lnB k).2) dl
  generalize tk d s (lnB k).2 = s1 at h1 h2 ⊢
  have h3 := h1.tr h2
  split
  · exact fl_le _ _
  · split
    · exact h3
    · split
      · exact h3.tr (fl_le _ _)
      · unfold mtD
        refine h3.tr (Le.tr ?_ (cpL_le _ _ _ _))
        split
        · exact (tk_le _ _ _).tr (fl_le _ _)
        · exact tk_le _ _ _
theorem cdC_le [W0] (d : List UInt8) (most : Nat) (l dl : List Nat) : ∀ f s, Le s (cdC d most l dl f s)
  | 0, s => Le.rfl' s
  | f + 1, s => by
    rw [cdC]
    have h := sy_le d s l
    split
    · exact Le.rfl' s
    · split
      · exact h
      · split
        · exact h.tr ((pt_le _ _ _).tr (cdC_le d most l dl f _))
        · split
          · exact h
          · exact h.tr ((mtS_le _ _ _ _ _).tr (cdC_le d most l dl f _))
theorem stL_le [W0] (d : List UInt8) (most : Nat) : ∀ k s, Le s (stL d most k s)
  | 0, s => Le.rfl' s
  | k + 1, s => by
    rw [stL]
    have h := tk_le d s 8
    split
    · refine Le.tr ?_ (stL_le d most k _)
      split
      · exact h.tr (pt_le _ _ _)
      · exact h
    · exact Le.rfl' s
theorem stS_le [W0] (d : List UInt8) (most : Nat) (s : S6) : Le s (stS d most s) := by
  unfold stS
  simp only
  have h0 : Le s ⟨8 * ((s.t + 7) / 8), s.out, s.e⟩ := ⟨by simp only; omega, Nat.le_refl _⟩
  have h1 := tk_le d ⟨8 * ((s.t + 7) / 8), s.out, s.e⟩ 16
  have h2 := tk_le d (tk d ⟨8 * ((s.t + 7) / 8), s.out, s.e⟩ 16) 16
  refine (h0.tr (h1.tr h2)).tr (Le.tr ?_ (stL_le d most _ _))
  split
  · exact Le.rfl' _
  · exact fl_le _ _
theorem rpS_le [W0] (d : List UInt8) (own : List Nat) (m : Nat) (s : S6) (l : List Nat) : Le s (rpS d own m s l) := by
  unfold rpS
  have h1 := sy_le d s own
  have h2 := h1.tr (tk_le d (sy d s own) (rpB (sv d s own)))
  split
  · exact h1
  · split
    · exact h2
    · split
      · exact h2.tr (fl_le _ _)
      · exact h2
theorem lpS_le [W0] (d : List UInt8) (own : List Nat) (m : Nat) : ∀ f s l, Le s (lpS d own m f s l).1
  | 0, s, l => Le.rfl' s
  | f + 1, s, l => by
    rw [lpS]
    have h := rpS_le d own m s l
    split
    · split
      · exact h.tr (lpS_le d own m f _ _)
      · exact h
    · exact Le.rfl' s
theorem owS_le [W0] (d : List UInt8) : ∀ k i s o, Le s (owS d k i s o).1
  | 0, i, s, o => Le.rfl' s
  | k + 1, i, s, o => by
    rw [owS]
    have h := tk_le d s 3
    split
    · exact h
    · exact h.tr (owS_le d k _ _ _)
theorem lcS_le [W0] (d : List UInt8) (s : S6) : Le s (lcS d s).1 := by
  unfold lcS
  have h := tk_le d s 4
  have h2 := h.tr (owS_le d (4 + tv d s 4) 0 (tk d s 4) (List.replicate 19 0))
  split
  · exact h
  · split
    · exact h2
    · split
      · exact h2
      · exact h2.tr (fl_le _ _)
theorem lgS_le [W0] (d : List UInt8) (m : Nat) (s : S6) : Le s (lgS d m s).1 := by
  unfold lgS
  have h := lcS_le d s
  split
  · exact h
  · exact h.tr (lpS_le _ _ _ _ _ _)
theorem dyT_le [W0] (d : List UInt8) (n1 n2 : Nat) (s : S6) : Le s (dyT d n1 n2 s).1 := by
  rw [dyT_eq]
  have h := lgS_le d (n1 + n2) s
  split
  · exact h
  · unfold dyK
    split
    · exact h
    · exact h.tr (fl_le _ _)
theorem dyS_le [W0] (d : List UInt8) (s : S6) : Le s (dyS d s).1 := by
  unfold dyS
  have h1 := tk_le d s 5
  have h2 := h1.tr (tk_le d (tk d s 5) 5)
  repeat' split
  · exact h1
  · exact h1.tr (fl_le _ _)
  · exact h2
  · exact h2.tr (fl_le _ _)
  · exact h2.tr (dyT_le _ _ _ _)
theorem dbS_le [W0] (d : List UInt8) (most : Nat) (s : S6) : Le s (dbS d most s) := by
  unfold dbS
  have h := dyS_le d s
  split
  · exact h
  · exact h.tr (cdC_le _ _ _ _ _ _)
def bkS [W0] (d : List UInt8) (most k : Nat) (s : S6) : S6 := if k = 0 then stS d most s else if k = 1 then cdC d most fxL fxD (8 * d.length + 1) s else dbS d most s
theorem bkS_le [W0] (d : List UInt8) (most k : Nat) (s : S6) : Le s (bkS d most k s) := by
  unfold bkS
  repeat' split
  · exact stS_le _ _ _
  · exact cdC_le _ _ _ _ _ _
  · exact dbS_le _ _ _
def rwS [W0] (d : List UInt8) (most : Nat) : Nat → S6 → S6
  | 0, s => s
  | f + 1, s => if (tk d s 3).e ≠ 0 then tk d s 3
    else if 5 < tv d s 3 then fl (tk d s 3) 3
    else if (bkS d most (tv d s 3 / 2) (tk d s 3)).e ≠ 0 then bkS d most (tv d s 3 / 2) (tk d s 3)
    else if tv d s 3 % 2 = 1 then bkS d most (tv d s 3 / 2) (tk d s 3)
    else rwS d most f (bkS d most (tv d s 3 / 2) (tk d s 3))
def rawS [W0] (d : List UInt8) (most : Nat) : S6 := rwS d most (8 * d.length + 1) ⟨0, [], 0⟩
end Go.If
namespace Go.Vx
theorem Gv.monoD {P : Program} {L : List Chunk} {f : FuncId} {args : Array Value} {post post' : Value → List Chunk → Prop} [W0] (h : Gv P f args L post) (hp : ∀ v L', post v L' → ∃ L'', (∀ w, Holds w L' → Holds w L'') ∧ post' v L'') : Gv P f args L post' :=
  ⟨fun w hw => (h.out w hw).mono fun _ _ he => let ⟨v, L', h1, h2, h3⟩ := he; let ⟨L'', h4, h5⟩ := hp v L' h2; ⟨v, L'', h1, h5, h4 _ h3⟩⟩
end Go.Vx
namespace Go.Proofs.YtdcehmhelfohfaaDoor
open Go Go.Vx Go.Hf Go.If
variable [W0]
set_option maxRecDepth 4000
set_option linter.all false
omit [W0] in
def knF : List Value := [.func (.func 45) #[] #[], .func (.func 46) #[] #[], .func (.func 47) #[] #[]]
set_option maxHeartbeats 2000000 in
theorem kinds_n (L : List Chunk) : GvP Tryd.prog 32 #[] L (.agg knF.toArray) := by
  refine Gv.of_body (args := []) Tryd.func32 rfl rfl ?_
  (repeat' first|refine kW ?_|refine kU fun bk=>?_|refine kV fun hc=>?_|refine kZ (fun hc=>?_) fun hc=>?_|fail)
  refine OW_EV (EV_buildArr (cs := knF) rfl (by rfl) (by rfl)) rfl ?_
  (repeat' first|refine kW ?_|refine kU fun bk=>?_|refine kV fun hc=>?_|refine kZ (fun hc=>?_) fun hc=>?_|fail)
  refine OW_holds (L' := [(bk, cl [.nilFunc, .nilFunc, .nilFunc] 70)] :: L) (fun w h => h) ?_
  refine OW_storeAggTo (l := [.nilFunc, .nilFunc, .nilFunc]) (vs := knF) knF rfl rfl (by rfl) (by rfl) (by rfl) iU (by decide) ?_
  (repeat' first|refine kW ?_|refine kU fun bk=>?_|refine kV fun hc=>?_|refine kZ (fun hc=>?_) fun hc=>?_|fail)
  first
    | (refine WQ_retC (vs := [.agg knF.toArray]) rfl (.agg ⟨by kernel_rfl, by kernel_rfl⟩ rfl (RdAt.cl' (vs := knF) (by repeat (first | assumption | exact Fnd.here | refine Fnd.there ?_)) rfl) rfl .nil) ?_
       exact ⟨L, fun w h => h.drop, rfl, rfl⟩)
    | (refine WQ_endC (vs := [.agg knF.toArray]) rfl (.agg ⟨by kernel_rfl, by kernel_rfl⟩ rfl (RdAt.cl' (vs := knF) (by repeat (first | assumption | exact Fnd.here | refine Fnd.there ?_)) rfl) rfl .nil) ?_
       exact ⟨L, fun w h => h.drop, rfl, rfl⟩)
set_option maxHeartbeats 4000000 in
/-- A block, by its type. -/
theorem block_n (k p q most : Nat) (v kn : Value) (d : List UInt8) (s : S6) (D E C K : Chunk) (L : List Chunk) (hk : k < 3) (h : RdN q d s.t D E) (hl : d.length ≤ 140737488355328) (he : s.e = 0) (hm : most ≤ 1000000) (hkn : KnD kn K) (hor : OrAt L)
    (ho : Ow 5 1 v s.out.length (bsv s.out) C) (hom : s.out.length ≤ most) : ∃ f, knF[k]? = some (.func (.func f) #[] #[]) ∧ BD Tryd.prog f ∧
    Gv Tryd.prog f [.pointer (some ⟨p, 0, none⟩)].toArray (rdR p q v most kn :: D :: E :: C :: K :: L) (fun r L' =>
      ((bkS d most k s).e ≠ 0 ∧ r = .int .i64 ((bkS d most k s).e : Int) ∧ L' = L) ∨
      ((bkS d most k s).e = 0 ∧ r = .int .i64 0 ∧ ∃ v' D' C' kn' K', KnD kn' K' ∧ Ow 5 1 v' (bkS d most k s).out.length (bsv (bkS d most k s).out) C' ∧ (bkS d most k s).out.length ≤ most ∧ RdN q d (bkS d most k s).t D' E ∧
        L' = rdR p q v' most kn' :: D' :: E :: C' :: K' :: L)) := by
  rcases (by omega : k = 0 ∨ k = 1 ∨ k = 2) with rfl | rfl | rfl
  · refine ⟨45, rfl, inferInstance, ?_⟩
    refine Gv.monoD (Gv.holds (pstored_n p q most v kn d s D E C (K :: L) h hl he hm hkn.one ho hom) (fun w h => h)) (fun r L' hp => ?_)
    rcases hp with ⟨h1, rfl, rfl⟩ | ⟨h1, rfl, v', D', C', ho', hl', hr', rfl⟩
    · exact ⟨L, fun w h => h.drop, .inl ⟨h1, rfl, rfl⟩⟩
    · exact ⟨_, fun w h => h, .inr ⟨h1, rfl, v', D', C', kn, K, hkn, ho', hl', hr', rfl⟩⟩
  · refine ⟨46, rfl, inferInstance, ?_⟩
    exact pfixed_n p q most v kn d s D E C K L h hl he hm hkn ho hom
  · refine ⟨47, rfl, inferInstance, ?_⟩
    refine Gv.monoD (pdynamic_n p q most v kn d s D E C (K :: L) h hl he hm hkn.one hor.there ho hom) (fun r L' hp => ?_)
    rcases hp with ⟨h1, rfl, rfl⟩ | ⟨h1, rfl, v', D', C', ho', hl', hr', rfl⟩
    · exact ⟨L, fun w h => h.drop, .inl ⟨h1, rfl, rfl⟩⟩
    · exact ⟨_, fun w h => h, .inr ⟨h1, rfl, v', D', C', kn, K, hkn, ho', hl', hr', rfl⟩⟩
set_option maxHeartbeats 8000000 in
theorem blocks_n (p q most : Nat) (v kn : Value) (d : List UInt8) (s : S6) (D E C K : Chunk) (L : List Chunk) (h : RdN q d s.t D E) (hl : d.length ≤ 140737488355328) (he : s.e = 0) (hm : most ≤ 1000000) (hkn : KnD kn K) (hor : OrAt L)
    (ho : Ow 5 1 v s.out.length (bsv s.out) C) (hom : s.out.length ≤ most) :
    Gv Tryd.prog 18 [.pointer (some ⟨p, 0, none⟩)].toArray (rdR p q v most kn :: D :: E :: C :: K :: L) (fun r L' =>
      ((rwS d most (8 * d.length + 1) s).e ≠ 0 ∧ r = .int .i64 ((rwS d most (8 * d.length + 1) s).e : Int) ∧ L' = L) ∨
      ((rwS d most (8 * d.length + 1) s).e = 0 ∧ r = .int .i64 0 ∧ ∃ v' D' C' kn', Ow 5 1 v' (rwS d most (8 * d.length + 1) s).out.length (bsv (rwS d most (8 * d.length + 1) s).out) C' ∧ (rwS d most (8 * d.length + 1) s).out.length ≤ most ∧ RdN q d (rwS d most (8 * d.length + 1) s).t D' E ∧ L' = rdR p q v' most kn' :: D' :: E :: C' :: L)) := by
  refine Gv.of_body Tryd.func18 rfl rfl ?_
  generalize hR : rwS d most (8 * d.length + 1) s = R
  (repeat' first|refine kW ?_|refine kU fun bk=>?_|refine kV fun hc=>?_|refine kZ (fun hc=>?_) fun hc=>?_|fail)
  refine OW_callP rfl rfl rfl (kinds_n _) rfl ?_
  (repeat' first|refine kW ?_|refine kU fun bk=>?_|refine kV fun hc=>?_|refine kZ (fun hc=>?_) fun hc=>?_|fail)
  obtain ⟨b3, hb3⟩ : ∃ b3, b3 = bk := ⟨_, rfl⟩
  rw [← hb3]
  refine OW_holds (L' := [(b3, cl [.nilFunc, .nilFunc, .nilFunc] 70)] :: rdR p q v most kn :: D :: E :: C :: K :: L) (fun w h => h) ?_
  clear hb3
  refine OW_storeAggTo (l := [.nilFunc, .nilFunc, .nilFunc]) (vs := knF) knF rfl rfl (by rfl) (by rfl) (by rfl) iU (by decide) ?_
  (repeat' first|refine kW ?_|refine kU fun bk=>?_|refine kV fun hc=>?_|refine kZ (fun hc=>?_) fun hc=>?_|fail)
  refine WC_loop (X := Nat × S6 × Bool × Value × Chunk × Chunk × Value × Chunk) (fun x => [(0, .pointer (some ⟨p, 0, none⟩)), (3, .pointer (some ⟨b3, 0, none⟩)), (4, .bool x.2.2.1)])
    (fun x => [(b3, cl knF 70)] :: rdR p q x.2.2.2.1 most x.2.2.2.2.2.2.1 :: x.2.2.2.2.1 :: E :: x.2.2.2.2.2.1 :: x.2.2.2.2.2.2.2 :: L)
    (fun x => x.2.1.e = 0 ∧ RdN q d x.2.1.t x.2.2.2.2.1 E ∧ Ow 5 1 x.2.2.2.1 x.2.1.out.length (bsv x.2.1.out) x.2.2.2.2.2.1 ∧ x.2.1.out.length ≤ most ∧ KnD x.2.2.2.2.2.2.1 x.2.2.2.2.2.2.2 ∧ (x.2.2.1 = false → 8 * d.length < x.1 + x.2.1.t ∧ rwS d most x.1 x.2.1 = R) ∧ (x.2.2.1 = true → x.2.1 = R)) (fun x => if x.2.2.1 then 0 else x.1 + 1)
    (8 * d.length + 1, s, false, v, D, C, kn, K) ⟨he, h, ho, hom, hkn, fun _ => ⟨by simp only; omega, hR⟩, fun hh => by cases hh⟩ iS (fun w h => h) ?_
  clear hR ho hom h
  rintro ⟨f, s1, bb, v1, D1, C1, kn1, K1⟩ ⟨he1, hr1, ho1, hl1, hk1, hf1, hf2⟩
  simp only at he1 hr1 ho1 hl1 hk1 hf1 hf2 ⊢
  cases bb with
  | true =>
    have hf2 := hf2 rfl
    subst hf2
    (repeat' first|refine kW ?_|refine kU fun bk=>?_|refine kV fun hc=>?_|refine kZ (fun hc=>?_) fun hc=>?_|fail)
    refine kR ?_
    exact ⟨_, iC, .inr ⟨he1, rfl, v1, D1, C1, kn1, ho1, hl1, hr1, rfl⟩⟩
  | false =>
    obtain ⟨hf3, hsl⟩ := hf1 rfl
    clear hf1 hf2
    have ht1 := hr1.1
    obtain ⟨f, rfl⟩ : ∃ g, f = g + 1 := ⟨f - 1, by omega⟩
    rw [rwS] at hsl
    have htk := ptake_n p q most 3 v1 kn1 d s1 D1 E (C1 :: K1 :: [(b3, cl knF 70)] :: L) hr1 hl (by decide) he1
    have htv := tv_lt d s1 3
    have hto := tk_out d s1 3
    have htt : (tk d s1 3).e = 0 → (tk d s1 3).t = s1.t + 3 := fun h0 => by
      by_cases hc : s1.t + 3 ≤ 8 * d.length
      · rw [tk_ok hc]
      · rw [Go.If.tk_no hc he1] at h0; cases h0
    generalize tv d s1 3 = z at htk htv hsl
    generalize tk d s1 3 = s2 at htk hto htt hsl
    rw [← hto] at ho1 hl1
    (repeat' first|refine kW ?_|refine kU fun bk=>?_|refine kV fun hc=>?_|refine kZ (fun hc=>?_) fun hc=>?_|fail)
    refine OW_call rfl rfl rfl (Gv.holds htk (fun w h => iH h)) rfl (fun r L' hp => ?_)
    rcases hp with ⟨h2, rfl, rfl⟩ | ⟨h2, rfl, D2, hr2, rfl⟩
    · rw [if_pos h2] at hsl
      subst hsl
      (repeat' first|refine kW ?_|refine kU fun bk=>?_|refine kV fun hc=>?_|refine kZ (fun hc=>?_) fun hc=>?_|fail)
      refine kR ?_
      exact ⟨_, iC, .inl ⟨h2, rfl, rfl⟩⟩
    rw [if_neg (show ¬ s2.e ≠ 0 by omega)] at hsl
    have htt := htt h2
    (repeat' first|refine kW ?_|refine kU fun bk=>?_|refine kV fun hc=>?_|refine kZ (fun hc=>?_) fun hc=>?_|fail)
    refine OW_EV (EV_bit rfl rfl (bit_and16 (a := z) (b := 1) (by omega) (by decide))) rfl ?_
    rw [Nat.and_one_is_mod]
    (repeat' first|refine kW ?_|refine kU fun bk=>?_|refine kV fun hc=>?_|refine kZ (fun hc=>?_) fun hc=>?_|fail)
    · rw [if_pos (show 5 < z by omega)] at hsl
      have e3 : R.e = 3 := by rw [← hsl, fl3 h2]
      rw [e3]
      refine kR ?_
      exact ⟨_, iC, .inl ⟨by decide, rfl, rfl⟩⟩
    rw [if_neg (show ¬ 5 < z by omega)] at hsl
    have hle := bkS_le d most (z / 2) s2
    obtain ⟨fn, hfn, hbd, hbk⟩ := block_n (z / 2) p q most v1 kn1 d s2 D2 E C1 K1 ([(b3, cl knF 70)] :: L) (by omega) hr2 hl h2 hm hk1 hor.there ho1 hl1
    generalize bkS d most (z / 2) s2 = s3 at hsl hle hbk
    haveI := hbd
    refine OW_EV (EV_indexAddrA' (z / 2) rfl rfl (by omega) (by omega)) rfl ?_
    (repeat' first|refine kW ?_|refine kU fun bk=>?_|refine kV fun hc=>?_|refine kZ (fun hc=>?_) fun hc=>?_|fail)
    refine OW_EV (EV_load (v := .func (.func fn) #[] #[]) rfl (by exact Fnd.there (Fnd.there (Fnd.there (Fnd.there (Fnd.there Fnd.here))))) (by rw [Nat.zero_add, Nat.mul_one, List.getElem?_toArray]; exact hfn)) rfl ?_
    (repeat' first|refine kW ?_|refine kU fun bk=>?_|refine kV fun hc=>?_|refine kZ (fun hc=>?_) fun hc=>?_|fail)
    refine OW_call rfl rfl rfl (Gv.holds hbk (fun w h => iH h)) rfl (fun r L' hp => ?_)
    rcases hp with ⟨h3, rfl, rfl⟩ | ⟨h3, rfl, v3, D3, C3, kn3, K3, hk3, ho3, hl3, hr3, rfl⟩
    · rw [if_pos h3] at hsl
      subst hsl
      (repeat' first|refine kW ?_|refine kU fun bk=>?_|refine kV fun hc=>?_|refine kZ (fun hc=>?_) fun hc=>?_|fail)
      refine kR ?_
      exact ⟨_, iC, .inl ⟨h3, rfl, rfl⟩⟩
    rw [if_neg (show ¬ s3.e ≠ 0 by omega)] at hsl
    have hlt := hle.t
    (repeat' first|refine kW ?_|refine kU fun bk=>?_|refine kV fun hc=>?_|refine kZ (fun hc=>?_) fun hc=>?_|fail)
    refine WQ_round (X := Nat × S6 × Bool × Value × Chunk × Chunk × Value × Chunk) (μ := fun x => if x.2.2.1 then 0 else x.1 + 1) (x := (f + 1, s1, false, v1, D1, C1, kn1, K1)) (f, s3, ((z % 2 : Nat) : Int) == 1, v3, D3, C3, kn3, K3) (by simp only [Bool.false_eq_true, if_false]; split <;> omega) ⟨h3, hr3, ho3, hl3, hk3, fun hb => ?_, fun hb => ?_⟩ iS (fun w h => iH h)
    · have hb2 : ¬ z % 2 = 1 := fun hh => by simp only [hh] at hb; cases hb
      rw [if_neg hb2] at hsl
      exact ⟨by simp only; omega, hsl⟩
    · have hb2 : z % 2 = 1 := by
        simp only at hb
        have := eq_of_beq hb
        omega
      rw [if_pos hb2] at hsl
      exact hsl
set_option maxHeartbeats 4000000 in
theorem praw_n (a : Option Addr) (c : Nat) (d : List UInt8) (most : Int) (m : Nat) (L : List Chunk) (hv : Sl L 1 (.slice a d.length c) d.length (bsv d)) (hl : d.length ≤ 140737488355328) (hm1 : max most 0 = (m : Int)) (hm : m ≤ 1000000) (hor : OrAt L) :
    Gv Tryd.prog 12 [.slice a d.length c, .int .i64 most].toArray L (fun r L' =>
      ((rawS d m).e ≠ 0 ∧ r = .tuple #[.slice none 0 0, .int .i64 0, .int .i64 ((rawS d m).e : Int)] ∧ L' = L) ∨
      ((rawS d m).e = 0 ∧ ∃ v C, r = .tuple #[v, .int .i64 (((rawS d m).t + 7) / 8 : Nat), .int .i64 0] ∧ Ow 5 1 v (rawS d m).out.length (bsv (rawS d m).out) C ∧ (rawS d m).out.length ≤ m ∧ (rawS d m).t ≤ 8 * d.length ∧ L' = C :: L)) := by
  refine Gv.of_body Tryd.func12 rfl rfl ?_
  (repeat' first|refine kW ?_|refine kU fun bk=>?_|refine kV fun hc=>?_|refine kZ (fun hc=>?_) fun hc=>?_|fail)
  refine OW_call rfl rfl rfl (read_n d _ L hv hl) rfl (fun r L' hp => ?_)
  obtain ⟨q, D, E, rfl, hr, rfl⟩ := hp
  (repeat' first|refine kW ?_|refine kU fun bk=>?_|refine kV fun hc=>?_|refine kZ (fun hc=>?_) fun hc=>?_|fail)
  rw [hm1]
  obtain ⟨p, hp⟩ : ∃ p, p = bk := ⟨_, rfl⟩
  rw [← hp]
  clear hp
  refine OW_holds (L' := rdR p q (.slice none 0 0) m (.pointer none) :: D :: E :: [] :: [] :: L) (fun w h => by
    have h' : Holds w (rdR p q (.slice none 0 0) m (.pointer none) :: D :: E :: L) := h
    simpa only [Holds, List.flatten_cons, List.nil_append] using h') ?_
  have hb := blocks_n p q m (.slice none 0 0) (.pointer none) d ⟨0, [], 0⟩ D E [] [] L hr hl rfl hm (.inl ⟨rfl, rfl⟩) hor (.inl ⟨rfl, rfl, rfl, rfl⟩) (Nat.zero_le _)
  change Gv _ _ _ _ (fun r L' => ((rawS d m).e ≠ 0 ∧ r = .int .i64 ((rawS d m).e : Int) ∧ L' = L) ∨ ((rawS d m).e = 0 ∧ r = .int .i64 0 ∧ ∃ v' D' C' kn', Ow 5 1 v' (rawS d m).out.length (bsv (rawS d m).out) C' ∧ (rawS d m).out.length ≤ m ∧ RdN q d (rawS d m).t D' E ∧ L' = rdR p q v' m kn' :: D' :: E :: C' :: L)) at hb
  generalize rawS d m = R at hb ⊢
  refine OW_call rfl rfl rfl hb rfl (fun r L' hp => ?_)
  rcases hp with ⟨h1, rfl, rfl⟩ | ⟨h1, rfl, v1, D1, C1, kn1, ho1, hl1, hr1, rfl⟩
  · (repeat' first|refine kW ?_|refine kU fun bk=>?_|refine kV fun hc=>?_|refine kZ (fun hc=>?_) fun hc=>?_|fail)
    refine WQ_retI (rs := [.tmp 4, .tmp 5, .tmp 6]) (vs := [.slice none 0 0, .int .i64 0, .int .i64 (R.e : Int)]) rfl rfl ?_
    exact ⟨_, iC, .inl ⟨h1, rfl, rfl⟩⟩
  · obtain ⟨ht1, rv, rfl, hoE⟩ := hr1
    have hus := used_n q ((R.t + 7) / 8) rv (.int .u64 ((val d / 2 ^ R.t % 2 ^ (8 * ((R.t + 7) / 8) - R.t) : Nat) : Int)) (.int .i64 ((8 * ((R.t + 7) / 8) - R.t : Nat) : Int)) 68 (rdR p q v1 m kn1 :: [(q, cl (rdC rv d R.t ((R.t + 7) / 8)) 68)] :: E :: C1 :: L) (by exact Fnd.there Fnd.here)
    generalize hn : (R.t + 7) / 8 = n at hus ⊢
    unfold rdR at hus ⊢
    (repeat' first|refine kW ?_|refine kU fun bk=>?_|refine kV fun hc=>?_|refine kZ (fun hc=>?_) fun hc=>?_|fail)
    refine WC_draw [[(p, cl [.pointer (some ⟨q, 0, none⟩), v1, .int .i64 (m : Int), kn1] 47)]] [] mixed ?_
    (refine WR_t 0 ?_; refine WR_t 1 ?_; refine WR_t 2 ?_; refine WR_t 3 ?_; refine WR_t 4 ?_; refine WR_t 5 ?_; refine WR_t 6 ?_; refine WR_t 7 ?_)
    (refine WR_one 8 (by kernel_rfl) rfl rfl ?_)
    refine OW_callP rfl rfl rfl hus rfl ?_
    refine ⟨iC, ?_⟩
    (refine WR_t 9 ?_; refine WR_t 10 ?_; refine WR_t 11 ?_)
    (refine WR_done (by kernel_rfl) ?_)
    (repeat' first|refine kW ?_|refine kU fun bk=>?_|refine kV fun hc=>?_|refine kZ (fun hc=>?_) fun hc=>?_|fail)
    refine WQ_retI (rs := [.tmp 4, .tmp 5, .tmp 6]) (vs := [v1, .int .i64 (n : Int), .int .i64 0]) rfl rfl ?_
    exact ⟨C1 :: L, iC, .inr ⟨h1, v1, C1, rfl, ho1, hl1, ht1, rfl⟩⟩
end Go.Proofs.YtdcehmhelfohfaaDoor
namespace Go.If
open Go.Vx Go.Hf
set_option linter.all false
def At (d : List UInt8) (t v n : Nat) : Prop := val d / 2 ^ t % 2 ^ n = v ∧ t + n ≤ 8 * d.length
theorem tk_at [W0] {d : List UInt8} {s : S6} {v n : Nat} (h : At d s.t v n) : tk d s n = ⟨s.t + n, s.out, s.e⟩ ∧ tv d s n = v := ⟨tk_ok h.2, by rw [tv_ok h.2]; exact h.1⟩
theorem At.split {d : List UInt8} {t v n r m : Nat} (h : At d t (v + 2 ^ n * r) (n + m)) (hv : v < 2 ^ n) : At d t v n ∧ At d (t + n) r m := by
  obtain ⟨h1, h2⟩ := h
  rw [Nat.pow_add, Nat.mod_mul] at h1
  generalize hx : val d / 2 ^ t = x at h1
  have hp : 0 < 2 ^ n := Nat.pow_pos (by decide)
  have hlt := Nat.mod_lt x hp
  have e1 : x % 2 ^ n = v := by
    have h3 := congrArg (· % 2 ^ n) h1
    simp only [Nat.add_mul_mod_self_left] at h3
    rwa [Nat.mod_eq_of_lt hlt, Nat.mod_eq_of_lt hv] at h3
  have e2 : x / 2 ^ n % 2 ^ m = r := by
    rw [e1] at h1
    have h4 : 2 ^ n * (x / 2 ^ n % 2 ^ m) = 2 ^ n * r := by omega
    exact Nat.eq_of_mul_eq_mul_left hp h4
  refine ⟨⟨by rw [hx]; exact e1, by omega⟩, ⟨?_, by omega⟩⟩
  rw [Nat.pow_add, ← Nat.div_div_eq_div_mul, hx]
  exact e2
theorem val_append (a b : List UInt8) : val (a ++ b) = val a + 2 ^ (8 * a.length) * val b := by
  induction a with
  | nil => simp [val]
  | cons x a ih =>
    rw [List.cons_append, val, val, ih, List.length_cons, Nat.mul_add, Nat.mul_succ, Nat.pow_add, Nat.mul_comm (2 ^ (8 * a.length)) (2 ^ 8), Nat.mul_assoc]
    omega
theorem at_mid [W0] (a x y : List UInt8) : At (a ++ (x ++ y)) (8 * a.length) (val x) (8 * x.length) := by
  refine ⟨?_, by simp [List.length_append]; omega⟩
  rw [val_append, Nat.add_mul_div_left _ _ (Nat.pow_pos (by decide)), Nat.div_eq_of_lt (val_lt a), Nat.zero_add, val_append, Nat.add_mul_mod_self_left, Nat.mod_eq_of_lt (val_lt x)]
theorem stL_at [W0] (d : List UInt8) (most : Nat) : ∀ (p : List UInt8) (s : S6), s.e = 0 → s.out.length + p.length ≤ most → At d s.t (val p) (8 * p.length) → stL d most p.length s = ⟨s.t + 8 * p.length, s.out ++ p, 0⟩
  | [], s, he, ho, h => by
    obtain ⟨t, o, e⟩ := s
    simp only at he
    subst he
    simp [stL]
  | c :: p, s, he, ho, h => by
    have hc := c.toNat_lt
    have h' : At d s.t (c.toNat + 2 ^ 8 * val p) (8 + 8 * p.length) := by
      have e : 8 * (c :: p).length = 8 + 8 * p.length := by rw [List.length_cons]; omega
      rw [e] at h
      exact h
    obtain ⟨h1, h2⟩ := h'.split (by omega)
    obtain ⟨e1, e2⟩ := tk_at h1
    rw [List.length_cons, stL, if_pos he, e1, e2]
    simp only
    rw [if_pos he, pt_ok (by simp at ho ⊢; omega), UInt8.ofNat_toNat]
    rw [stL_at d most p ⟨s.t + 8, s.out ++ [c], s.e⟩ he (by simp at ho ⊢; omega) h2]
    simp
    omega
end Go.If
namespace Go.Proofs.YtdcehmhelfohfaaDoor
open Go Go.Vx Go.ChangeShapes Go.WideShapes Go.ChangeAt Go.RowKit
set_option maxRecDepth 4000
set_option linter.all false
def blks (W : World) : Chunk := W.heap.toList.zipIdx.map fun x => (x.2, x.1)
theorem blks_mem {W : World} {b : Nat} {o : Obj} : (b, o) ∈ blks W ↔ W.heap[b]? = some o := by
  unfold blks
  rw [List.mem_map]
  constructor
  · rintro ⟨⟨x, i⟩, hm, he⟩
    simp at he
    obtain ⟨rfl, rfl⟩ := he
    have := List.mk_mem_zipIdx_iff_getElem?.1 hm
    simpa using this
  · intro h
    exact ⟨(o, b), List.mk_mem_zipIdx_iff_getElem?.2 (by simpa using h), rfl⟩
theorem blks_keys (W : World) : ((blks W).map Prod.fst).Nodup := by
  have : (blks W).map Prod.fst = List.range' 0 W.heap.toList.length := by
    unfold blks
    rw [List.map_map]
    exact List.zipIdx_map_snd 0 _
  rw [this]
  exact List.nodup_range'
structure Kept (W W' : World) : Prop where
  os : W'.os = W.os
  output : W'.output = W.output
  block : ∀ k, k < W.heap.size → W'.heap[k]? = W.heap[k]?
theorem bridge {P : Program} {f : FuncId} {args : Array Value} {W : World} {v : Value} (h : ∀ [W0], GvP P f args [blks W] v) : Calls P f args W fun e W' => e = .returned v ∧ Kept W W' := by
  letI i : W0 := ⟨W.os, W.output⟩
  have h0 : GvP P f args [blks W] v := h
  have hH : Holds W [blks W] := ⟨by simpa using blks_keys W, fun x hx => blks_mem.1 (by simpa using hx), rfl, rfl⟩
  refine (h0.out W hH).mono fun e W' he => ?_
  obtain ⟨v', L', rfl, ⟨rfl, rfl⟩, hw⟩ := he
  refine ⟨rfl, hw.2.2.1, hw.2.2.2, fun k hk => ?_⟩
  have hm : W.heap[k]? = some W.heap[k] := by simp [hk]
  rw [hm]
  exact hw.2.1 (k, W.heap[k]) (by simpa using blks_mem.2 hm)
theorem Kept.frame {W W' : World} (h : Kept W W') (may : MemPlace → Prop) : W.keptBut W' may := by
  refine ⟨h.os, h.output, fun i hi => ?_⟩
  rw [h.block i hi]
  split <;> simp_all
theorem Kept.same {W W' : World} (h : Kept W W') {p : MemPlace} (hp : p.block < W.heap.size) : W.sameAt W' p := by
  cases p with
  | cell b o => exact World.cell?_of_block (w := W) (h.block b hp)
  | map b => exact h.block b hp
theorem Kept.trod {H : Type} {enc : TypeId × Value → H} {P : Program} {t : TypeId} (hl : laidOutB P = true) (hr : P.readableRec t = true) (hrow : t < P.types.size) {W W' : World} {v : Value} {d : DataW H} {ps : List MemPlace}
    (h : DataW.Trod enc P W 0 (fun _ => true) true t v d ps) (hb : Kept W W') (hlt : ∀ x ∈ ps, x.block < W.heap.size) :
    DataW.Trod enc P W' 0 (fun b => decide (b < W.heap.size)) true t v d ps :=
  WideElems.Trod_stays hl hr hrow h (fun x hx => hb.same (hlt x hx)) (fun x hx => by simpa using hlt x hx)
theorem bulk_lits {H : Type} (k : IntKind) : ∀ xs : List Int, Rows.uptoBulkAll (H := H) (lits k xs) = xs.length
  | [] => rfl
  | x :: r => by
    have := bulk_lits (H := H) k r
    simp only [lits, List.map_cons, Rows.uptoBulkAll, Rows.uptoBulk, List.length_cons] at *
    omega
theorem open_row {H : Type} {enc : TypeId × Value → H} {P : Program} {W : World} {t e : TypeId} {k : IntKind} {a : Option Addr} {len cap : Nat} {d : DataW H} {ps : List MemPlace} (ht : P.underlying t = some (.slice e)) (he : P.underlying e = some (.int k)) (hc : P.cellsOf e = 1)
    (h : DataW.Trod enc P W 0 (fun _ => true) true t (.slice a len cap) d ps) :
    ∃ xs : List Int, xs.length = len ∧ (∀ n ∈ xs, (Lit.int k n).wf = true) ∧ Sl [blks W] 1 (.slice a len cap) len (xs.map (Value.int k)) ∧ len ≤ Rows.uptoBulk d := by
  letI : W0 := ⟨W.os, W.output⟩
  obtain ⟨fuel, hf⟩ := h
  rcases open_ints ht he hc hf with ⟨hcs, _⟩ | ⟨x, l, c, zs, hcs, _, hl, hm, hz, hx, hcell, hwz⟩
  · simp [Value.cells] at hcs
    obtain ⟨rfl, rfl, rfl⟩ := hcs
    exact ⟨[], rfl, fun n h => by simp at h, .inl ⟨0, rfl, rfl, rfl⟩, Nat.zero_le _⟩
  · simp [Value.cells] at hcs
    obtain ⟨rfl, rfl, rfl⟩ := hcs
    have hzl : zs.length = cap := by simpa using hz
    have hd : d = .slice (lits k (zs.take len)) (lits k (zs.drop len)) := by injection hx
    refine ⟨zs.take len, by simp; omega, fun n hn => hwz n (List.mem_of_mem_take hn), ?_, ?_⟩
    · refine .inr ⟨x, cap, rfl, ?_, by simp; omega⟩
      rcases Nat.eq_zero_or_pos len with h0 | h0
      · subst h0; exact .inl (by simp)
      · have hc0 := hcell 0 (by omega)
        obtain ⟨b, off, spot⟩ := x
        have hspot : spot = none := by simpa [Addr.add] using World.cell?_spot hc0
        subst hspot
        have hblk : ∃ C T fr, W.heap[b]? = some (.cells C T fr) := by
          have : (⟨b, off, none⟩ : Addr).add 0 = ⟨b, off, none⟩ := by simp [Addr.add]
          rw [this] at hc0
          unfold World.cell? at hc0
          split at hc0
          · rename_i C T fr hb; exact ⟨C, T, fr, hb⟩
          · cases hc0
        obtain ⟨C, T, fr, hb⟩ := hblk
        refine .inr ⟨b, off, C, T, fr, rfl, by simpa [Fnd] using blks_mem.2 hb, fun j u hj => ?_⟩
        have hjl : j < len := by
          rcases Nat.lt_or_ge j len with h' | h'
          · exact h'
          · rw [List.getElem?_eq_none (by simp; omega)] at hj; simp at hj
        have hcj := hcell j (by omega)
        rw [addr_add, cell_of hb] at hcj
        rw [hcj, ← hj]
        simp [List.getElem?_take, hjl, List.getD, List.getElem?_eq_getElem (show j < zs.length by omega)]
    · rw [hd]
      simp only [Rows.uptoBulk, bulk_lits, List.length_take]
      omega
theorem bytes_of (xs : List Int) (h : ∀ n ∈ xs, (Lit.int .u8 n).wf = true) : bsv (xs.map fun n => UInt8.ofNat n.toNat) = xs.map (Value.int .u8) := by
  unfold bsv
  rw [List.map_map]
  refine List.map_congr_left fun n hn => ?_
  have := h n hn
  simp [Lit.wf, IntKind.min, IntKind.max, IntKind.signed, IntKind.bits] at this
  have h2 : n.toNat < 256 := by omega
  simp [UInt8.toNat_ofNat, Nat.mod_eq_of_lt h2]
  omega
theorem Tryd.own : ownKnob Tryd.prog.godebug = none := by kernel_rfl
theorem Tryd.laidOut : laidOutB Tryd.prog = true := by kernel_rfl
end Go.Proofs.YtdcehmhelfohfaaDoor
namespace Go.Proofs.YtdcehmhelfohfaaDoor
open Go Go.Vx
variable [W0]
set_option maxRecDepth 4000
set_option linter.all false
omit [W0] in
/-- A word turned to the left. -/
def rol (w : BitVec 32) (s : Nat) : BitVec 32 := w <<< s ||| w >>> (32 - s)
omit [W0] in
def stChoice (b c d : BitVec 32) : BitVec 32 := (b &&& c ||| ~~~ b &&& d) + 1518500249#32
omit [W0] in
def stParity (b c d : BitVec 32) : BitVec 32 := (b ^^^ c ^^^ d) + 1859775393#32
omit [W0] in
def stMajority (b c d : BitVec 32) : BitVec 32 := (b &&& c ||| b &&& d ||| c &&& d) + 2400959708#32
omit [W0] in
def stLast (b c d : BitVec 32) : BitVec 32 := (b ^^^ c ^^^ d) + 3395469782#32
abbrev w32 (w : BitVec 32) : Value := .int .u32 (w.toNat : Int)
end Go.Proofs.YtdcehmhelfohfaaDoor
namespace Go.Proofs.YtdcehmhelfohfaaDoor
open Go Go.Vx
variable [W0]
set_option maxRecDepth 4000
set_option linter.all false
omit [W0] in
/-- Word i of a block. -/
def wordAt (blk : List UInt8) (i : Nat) : BitVec 32 :=
  b2w (blk.getD (4 * i) 0) <<< 24 ||| b2w (blk.getD (4 * i + 1) 0) <<< 16 ||| b2w (blk.getD (4 * i + 2) 0) <<< 8 ||| b2w (blk.getD (4 * i + 3) 0)
omit [W0] in
def schedNext (blk : List UInt8) (l : List (BitVec 32)) : BitVec 32 :=
  if l.length < 16 then wordAt blk l.length
  else rol (l.getD (l.length - 3) 0 ^^^ l.getD (l.length - 8) 0 ^^^ l.getD (l.length - 14) 0 ^^^ l.getD (l.length - 16) 0) 1
omit [W0] in
/-- The first t words of a block's schedule. -/
def sched (blk : List UInt8) : Nat → List (BitVec 32)
  | 0 => []
  | t + 1 => sched blk t ++ [schedNext blk (sched blk t)]
omit [W0] in
/-- The chain. -/
structure H5 where
  a : BitVec 32
  b : BitVec 32
  c : BitVec 32
  d : BitVec 32
  e : BitVec 32
end Go.Proofs.YtdcehmhelfohfaaDoor
namespace Go.Proofs.YtdcehmhelfohfaaDoor
open Go Go.Vx
variable [W0]
set_option maxRecDepth 4000
set_option linter.all false
omit [W0] in
def kindF : Nat → BitVec 32 → BitVec 32 → BitVec 32 → BitVec 32
  | 0 => stChoice
  | 1 => stParity
  | 2 => stMajority
  | _ => stLast
omit [W0] in
/-- One step. -/
def rnd (k : Nat) (h : H5) (w : BitVec 32) : H5 := ⟨rol h.a 5 + kindF k h.b h.c h.d + h.e + w, h.a, rol h.b 30, h.c, h.d⟩
omit [W0] in
/-- The first t steps. -/
def rounds (ws : List (BitVec 32)) (h : H5) : Nat → H5
  | 0 => h
  | t + 1 => rnd (t / 20) (rounds ws h t) (ws.getD t 0)
omit [W0] in
def add5 (h r : H5) : H5 := ⟨h.a + r.a, h.b + r.b, h.c + r.c, h.d + r.d, h.e + r.e⟩
omit [W0] in
/-- A block taken into the chain. -/
def mixN (h : H5) (blk : List UInt8) : H5 := add5 h (rounds (sched blk 80) h 80)
end Go.Proofs.YtdcehmhelfohfaaDoor
namespace Go.Proofs.YtdcehmhelfohfaaDoor
open Go Go.Vx
variable [W0]
set_option maxRecDepth 4000
set_option linter.all false
omit [W0] in
def h50 : H5 := ⟨1732584193#32, 4023233417#32, 2562383102#32, 271733878#32, 3285377520#32⟩
omit [W0] in
/-- The chain behind the first k blocks of a text. -/
def chainN (t : List UInt8) : Nat → H5
  | 0 => h50
  | k + 1 => mixN (chainN t k) ((t.drop (64 * k)).take 64)
theorem chainN_app (t u : List UInt8) : ∀ k, 64 * k ≤ t.length → chainN (t ++ u) k = chainN t k
  | 0, _ => rfl
  | k + 1, h => by
    have e : ((t ++ u).drop (64 * k)).take 64 = (t.drop (64 * k)).take 64 := by
      rw [List.drop_append_of_le_length (by omega), List.take_append_of_le_length (by simp; omega)]
    simp only [chainN, chainN_app t u k (by omega), e]
omit [W0] in
/-- What a digest in progress is of a text. -/
structure ShaI (t : List UInt8) (h : H5) (blk : List UInt8) : Prop where
  len : blk.length = 64
  chain : h = chainN t (t.length / 64)
  rest : blk.take (t.length % 64) = t.drop (64 * (t.length / 64))
omit [W0] in
def fillB (blk : List UInt8) (r : Nat) (u : List UInt8) : List UInt8 := blk.take r ++ (u ++ blk.drop (r + u.length))
theorem fillB_length {blk u : List UInt8} {r : Nat} (hb : blk.length = 64) (h : r + u.length ≤ 64) : (fillB blk r u).length = 64 := by
  simp [fillB]; omega
theorem fillB_take {blk u : List UInt8} {r : Nat} (hb : blk.length = 64) (h : r + u.length ≤ 64) : (fillB blk r u).take (r + u.length) = blk.take r ++ u := by
  unfold fillB
  have e : (blk.take r ++ u).length = r + u.length := by simp; omega
  rw [← List.append_assoc, ← e, List.take_left]
theorem ShaI.part {t u : List UInt8} {h : H5} {blk : List UInt8} (hi : ShaI t h blk) (hu : t.length % 64 + u.length < 64) : ShaI (t ++ u) h (fillB blk (t.length % 64) u) := by
  have e1 : (t ++ u).length / 64 = t.length / 64 := by simp; omega
  have e2 : (t ++ u).length % 64 = t.length % 64 + u.length := by simp; omega
  refine ⟨fillB_length hi.len (by omega), ?_, ?_⟩
  · rw [e1, chainN_app _ _ _ (by omega)]; exact hi.chain
  · rw [e1, e2, fillB_take hi.len (by omega), hi.rest, List.drop_append_of_le_length (by omega)]
theorem ShaI.new : ShaI [] h50 (List.replicate 64 0) := ⟨by simp, rfl, rfl⟩
omit [W0] in
/-- A slice that can be read, and its room. -/
structure SlC (L : List Chunk) (k : Nat) (v : Value) (m : Nat) (xs : List Value) : Prop where
  sl : Sl L k v m xs
  room : ∃ a c, v = .slice a m c ∧ m ≤ c
theorem SlC.there {L : List Chunk} {C : Chunk} {k m : Nat} {v : Value} {xs : List Value} (h : SlC L k v m xs) : SlC (C :: L) k v m xs := ⟨sl_there h.sl, h.room⟩
theorem SlC.ow {e k m : Nat} {v : Value} {xs : List Value} {C : Chunk} {L : List Chunk} (h : Ow e k v m xs C) : SlC (C :: L) k v m xs := by
  refine ⟨ow_sl h, ?_⟩
  rcases h with ⟨rfl, rfl, _⟩ | ⟨b, cap, rest, rfl, _, _, _, hmc, _⟩
  · exact ⟨_, _, rfl, Nat.le_refl _⟩
  · exact ⟨_, _, rfl, hmc⟩
theorem SlC.cut {L : List Chunk} {bb off m cap q : Nat} {l : List UInt8} {c : Array Value} {T : TypeId} {fr : Nat × Nat} (hf : Fnd L bb (.cells c T fr)) (hc : ∀ j u, (bsv l)[j]? = some u → c[off + j]? = some u) (hm : l.length = m) (hq : q ≤ m) (hmc : m ≤ cap) :
    SlC L 1 (.slice (some ⟨bb, if cap = q then off else off + q * 1, none⟩) (m - q) (cap - q)) (m - q) (bsv (l.drop q)) := by
  refine ⟨.inr ⟨_, _, rfl, ?_, by simp [bsv_length, hm]⟩, _, _, rfl, by omega⟩
  by_cases h0 : m = q
  · refine .inl ?_
    rw [List.drop_of_length_le (by omega)]; rfl
  · refine .inr ⟨bb, _, c, T, fr, rfl, hf, fun j u hj => ?_⟩
    rw [if_neg (by omega), Nat.mul_one, Nat.add_assoc]
    refine hc _ _ ?_
    rw [← hj]
    simp [bsv]
end Go.Proofs.YtdcehmhelfohfaaDoor
namespace Go.Proofs.YtdcehmhelfohfaaDoor
open Go Go.Vx
variable [W0]
set_option maxRecDepth 4000
set_option linter.all false
theorem sl_byte {L : List Chunk} {v : Value} {m k : Nat} {t : List UInt8} (h : Sl L 1 v m (bsv t)) (hk : k < m) :
    ∃ bb off cap c T fr, v = .slice (some ⟨bb, off, none⟩) m cap ∧ Fnd L bb (.cells c T fr) ∧ c[off + k * 1]? = some (.int .u8 ((t.getD k 0).toNat : Int)) := by
  rcases h with ⟨c, rfl, rfl, h0⟩ | ⟨a, cap, rfl, hr, hl⟩
  · omega
  · have hlt : k < t.length := by rw [bsv_length] at hl; omega
    have hg : (bsv t)[k]? = some (.int .u8 ((t.getD k 0).toNat : Int)) := bsv_get (by simp [List.getD, hlt])
    rcases hr with h0 | ⟨b, off, c, T, fr, rfl, h1, h2⟩
    · rw [h0] at hg; simp at hg
    · exact ⟨b, off, cap, c, T, fr, rfl, h1, by rw [Nat.mul_one]; exact h2 _ _ hg⟩
theorem take_succ {α : Type} {t : List α} {k : Nat} (d : α) (h : k < t.length) : t.take (k + 1) = t.take k ++ [t.getD k d] := by
  rw [List.take_add_one, List.getElem?_eq_getElem h]
  simp [List.getD, h]
omit [W0] in
def adlA (a : BitVec 32) (x : UInt8) : BitVec 32 := (a + b2w x) % 65521#32
omit [W0] in
def adlN (s : BitVec 32 × BitVec 32) (t : List UInt8) : BitVec 32 × BitVec 32 := t.foldl (fun s x => (adlA s.1 x, (s.2 + adlA s.1 x) % 65521#32)) s
theorem adlN_snoc (s : BitVec 32 × BitVec 32) (t : List UInt8) (x : UInt8) : adlN s (t ++ [x]) = (adlA (adlN s t).1 x, ((adlN s t).2 + adlA (adlN s t).1 x) % 65521#32) := by simp [adlN]
omit [W0] in
def adlV (s : BitVec 32 × BitVec 32) : BitVec 32 := s.2 <<< 16 ||| s.1
theorem newAdler_n (L : List Chunk) : Gv Tryd.prog 42 [].toArray L (fun r L' => ∃ p, r = .pointer (some ⟨p, 0, none⟩) ∧ L' = [(p, cl [w32 1#32, w32 0#32] 90)] :: L) := by
  refine Gv.of_body Tryd.func42 rfl rfl ?_
  (repeat' first|refine kX ?_|refine kU fun bk=>?_|refine kV fun hc=>?_|refine kZ (fun hc=>?_) fun hc=>?_|fail)
  first | refine WQ_retH rfl rfl ?_ | refine WQ_endH rfl rfl ?_
  exact ⟨[(bk, cl [w32 1#32, w32 0#32] 90)] :: L, fun w h => h, bk, rfl, rfl⟩
theorem adlerwrite_n (s : BitVec 32 × BitVec 32) (t : List UInt8) (v : Value) (p : Nat) (L : List Chunk) (hlen : t.length < 576460752303423488) (hv : SlC L 1 v t.length (bsv t)) :
    Gv Tryd.prog 43 [.pointer (some ⟨p, 0, none⟩), v].toArray ([(p, cl [w32 s.1, w32 s.2] 90)] :: L)
      (fun z L' => z = .tuple #[] ∧ L' = [(p, cl [w32 (adlN s t).1, w32 (adlN s t).2] 90)] :: L) := by
  refine Gv.of_body Tryd.func43 rfl rfl ?_
  obtain ⟨a, c, rfl, hmc⟩ := hv.room
  (repeat' first|refine kX ?_|refine kU fun bk=>?_|refine kV fun hc=>?_|refine kZ (fun hc=>?_) fun hc=>?_|fail)
  refine WC_drawAll [] mixed ?_
  (refine WR_w 0 ?_; refine WR_w 1 ?_; refine WR_w 2 ?_; refine WR_w 3 ?_; refine WR_w 4 ?_; refine WR_w 5 ?_; refine WR_w 6 ?_; refine WR_w 7 ?_; refine WR_w 8 ?_; refine WR_w 9 ?_)
  (refine WR_done (by kernel_rfl) ?_)
  (repeat' first|refine kX ?_|refine kU fun bk=>?_|refine kV fun hc=>?_|refine kZ (fun hc=>?_) fun hc=>?_|fail)
  refine WC_loop (X := Nat) (fun k => [(0, .pointer (some ⟨p, 0, none⟩)), (4, w32 (adlN s (t.take k)).1), (5, w32 (adlN s (t.take k)).2), (16, .slice a t.length c), (17, .int .i64 (t.length : Int)), (18, .int .i64 (k : Int))])
    (fun k => [(p, cl [w32 s.1, w32 s.2] 90)] :: L) (fun k => k ≤ t.length) (fun k => t.length - k) 0 (Nat.zero_le _) (by repeat (first | exact Sub.nil | refine Sub.cons rfl ?_ | refine Sub.cons (lk_int rfl (by first | omega | (dsimp only; omega))) ?_)) (fun w h => h) ?_
  intro k hk
  replace hk : k ≤ t.length := hk
  (repeat' first|refine kX ?_|refine kU fun bk=>?_|refine kV fun hc=>?_|refine kZ (fun hc=>?_) fun hc=>?_|fail)
  · have hlt : k < t.length := by omega
    obtain ⟨bb, off, cap, cc, bT, bfr, hve, hfn, hcell⟩ := sl_byte hv.sl hlt
    injection hve with e1 e2 e3
    subst e1 e3
    clear e2
    (repeat' first|refine kX ?_|refine kU fun bk=>?_|refine kV fun hc=>?_|refine kZ (fun hc=>?_) fun hc=>?_|fail)
    refine OW_W ?_ (he := EV_load rfl hfn.there hcell)
    (repeat' first|refine kX ?_|refine kU fun bk=>?_|refine kV fun hc=>?_|refine kZ (fun hc=>?_) fun hc=>?_|fail)
    refine WQ_round (X := Nat) (J := fun k => k ≤ t.length) (μ := fun k => t.length - k) (x := k) (k + 1) (by omega) (show k + 1 ≤ t.length by omega) ?_ (fun w h => h)
    rw [take_succ 0 hlt, adlN_snoc]
    exact (by repeat (first | exact Sub.nil | refine Sub.cons rfl ?_ | refine Sub.cons (lk_int rfl (by first | omega | (dsimp only; omega))) ?_))
  · have hk : k = t.length := by omega
    subst hk
    rw [List.take_length]
    (first | refine WQ_retI rfl rfl ?_ | refine WQ_endI rfl rfl ?_)
    exact ⟨_, iC, rfl, rfl⟩
theorem adlervalue_n (s : BitVec 32 × BitVec 32) (p : Nat) (L : List Chunk) (hf : Fnd L p (cl [w32 s.1, w32 s.2] 90)) : GvP Tryd.prog 44 [.pointer (some ⟨p, 0, none⟩)].toArray L (w32 (adlV s)) := by
  refine Gv.of_body Tryd.func44 rfl rfl ?_
  (repeat' first|refine kX ?_|refine kU fun bk=>?_|refine kV fun hc=>?_|refine kZ (fun hc=>?_) fun hc=>?_|fail)
  refine WC_drawAll [] mixed ?_
  (refine WR_w 0 ?_; refine WR_w 1 ?_; refine WR_w 2 ?_; refine WR_w 3 ?_; refine WR_w 4 ?_; refine WR_w 5 ?_; refine WR_w 6 ?_; refine WR_w 7 ?_; refine WR_w 8 ?_; refine WR_w 9 ?_; refine WR_w 10 ?_)
  (refine WR_done (by kernel_rfl) ?_)
  (repeat' first|refine kX ?_|refine kU fun bk=>?_|refine kV fun hc=>?_|refine kZ (fun hc=>?_) fun hc=>?_|fail)
  ((first | refine WQ_retI rfl rfl ?_ | refine WQ_endI rfl rfl ?_); exact ⟨_, iC, rfl, rfl⟩)
theorem adler_n (t : List UInt8) (v : Value) (L : List Chunk) (hlen : t.length < 576460752303423488) (hv : SlC L 1 v t.length (bsv t)) :
    GvP Tryd.prog 29 [v].toArray L (w32 (adlV (adlN (1#32, 0#32) t))) := by
  refine Gv.of_body Tryd.func29 rfl rfl ?_
  (repeat' first|refine kX ?_|refine kU fun bk=>?_|refine kV fun hc=>?_|refine kZ (fun hc=>?_) fun hc=>?_|fail)
  refine OW_call rfl rfl rfl (newAdler_n L) rfl (fun r L' hp => ?_)
  obtain ⟨p, rfl, rfl⟩ := hp
  (repeat' first|refine kX ?_|refine kU fun bk=>?_|refine kV fun hc=>?_|refine kZ (fun hc=>?_) fun hc=>?_|fail)
  refine OW_call rfl rfl rfl (adlerwrite_n (1#32, 0#32) t v p L hlen hv) rfl (fun r L' hp => ?_)
  obtain ⟨rfl, rfl⟩ := hp
  (repeat' first|refine kX ?_|refine kU fun bk=>?_|refine kV fun hc=>?_|refine kZ (fun hc=>?_) fun hc=>?_|fail)
  refine OW_callP rfl rfl rfl (adlervalue_n (adlN (1#32, 0#32) t) p _ Fnd.here) rfl ?_
  (repeat' first|refine kX ?_|refine kU fun bk=>?_|refine kV fun hc=>?_|refine kZ (fun hc=>?_) fun hc=>?_|fail)
  ((first | refine WQ_retI rfl rfl ?_ | refine WQ_endI rfl rfl ?_); exact ⟨_, iC, rfl, rfl⟩)
end Go.Proofs.YtdcehmhelfohfaaDoor
namespace Go.Vx
open Go
set_option linter.all false
variable [W0]
omit [W0] in
/-- No cell of the row is marked. -/
def FrOk (fr : Nat × Nat) (n : Nat) : Prop := ∀ j, j < n → ¬ (fr.1 ≤ j ∧ j < fr.2)
theorem FrOk.zero (n : Nat) : FrOk (0, 0) n := fun j _ h => by simp at h
theorem FrOk.behind (n : Nat) : FrOk (n, n + 1) n := fun j hj h => by simp at h; omega
end Go.Vx
namespace Go.If
open Go.Vx Go.Hf
set_option linter.all false
def hdK (x y : Nat) : Bool := x % 16 == 8 && decide (x / 16 ≤ 7) && (x * 256 + y) % 31 == 0 && (y &&& 32) == 0
def wdN (b0 b1 b2 b3 : Nat) : Nat := ((b0 * 256 + b1) * 256 + b2) * 256 + b3
end Go.If
namespace Go.Proofs.YtdcehmhelfohfaaDoor
open Go Go.Vx Go.Hf Go.If
variable [W0]
set_option maxRecDepth 4000
set_option linter.all false
theorem bit_and8 {a b : Nat} (ha : a < 256) (hb : b < 256) : bitI .and .u8 (a : Int) (b : Int) = some ((a &&& b : Nat) : Int) := by
  have h1 : a &&& b ≤ a := Nat.and_le_left
  have e : ((BitVec.ofInt 8 (a : Int) &&& BitVec.ofInt 8 (b : Int)).toNat) = a &&& b := by
    rw [BitVec.toNat_and, BitVec.ofInt_natCast, BitVec.ofInt_natCast, BitVec.toNat_ofNat, BitVec.toNat_ofNat, Nat.mod_eq_of_lt (by omega), Nat.mod_eq_of_lt (by omega)]
  show some (IntKind.u8.wrap (((BitVec.ofInt 8 (a : Int) &&& BitVec.ofInt 8 (b : Int)).toNat : Nat) : Int)) = _
  rw [e]
  congr 1
  exact wrap_nat rfl (by simp [IntKind.bits]; omega)
theorem bit_or16 {a b : Nat} (ha : a < 256) (hb : b < 256) : bitI .or .i64 ((a * 256 : Nat) : Int) (b : Int) = some ((a * 256 + b : Nat) : Int) := by
  have e0 : a * 256 ||| b = a * 256 + b := by
    have := Nat.two_pow_add_eq_or_of_lt (i := 8) (b := b) (by omega) a
    rw [Nat.mul_comm a 256]
    exact this.symm
  have e : ((BitVec.ofInt 64 ((a * 256 : Nat) : Int) ||| BitVec.ofInt 64 (b : Int)).toNat) = a * 256 + b := by
    rw [BitVec.toNat_or, BitVec.ofInt_natCast, BitVec.ofInt_natCast, BitVec.toNat_ofNat, BitVec.toNat_ofNat, Nat.mod_eq_of_lt (by omega), Nat.mod_eq_of_lt (by omega), e0]
  show some (IntKind.i64.wrap (((BitVec.ofInt 64 ((a * 256 : Nat) : Int) ||| BitVec.ofInt 64 (b : Int)).toNat : Nat) : Int)) = _
  rw [e]
  congr 1
  exact wrap_i64s (by omega)
set_option maxHeartbeats 4000000 in
theorem isHead_n (x y : UInt8) (L : List Chunk) : GvP Tryd.prog 27 [.int .u8 (x.toNat : Int), .int .u8 (y.toNat : Int)].toArray L (.bool (hdK x.toNat y.toNat)) := by
  refine Gv.of_body Tryd.func27 rfl rfl ?_
  have hx := x.toNat_lt
  have hy := y.toNat_lt
  generalize x.toNat = a at hx ⊢
  generalize y.toNat = b at hy ⊢
  unfold hdK
  (repeat' first|refine kW ?_|refine kU fun bk=>?_|refine kV fun hc=>?_|refine kZ (fun hc=>?_) fun hc=>?_|fail)
  refine OW_EV (EV_nand (k := .u8) a 4 rfl rfl rfl rfl rfl (by simp only [IntKind.bits]; omega) (by decide)) rfl ?_
  have hno : ∀ (c1 : Bool), c1 = false → Value.bool false = .bool c1 := fun c1 h => by rw [h]
  have hno2 : ¬ (a % 16 = 8 ∧ a / 16 ≤ 7 ∧ (a * 256 + b) % 31 = 0) → (a % 16 == 8 && decide (a / 16 ≤ 7) && (a * 256 + b) % 31 == 0 && (b &&& 32) == 0) = false := by
    intro h
    cases hh : (a % 16 == 8 && decide (a / 16 ≤ 7) && (a * 256 + b) % 31 == 0 && (b &&& 32) == 0)
    · rfl
    · exfalso
      simp only [Bool.and_eq_true, beq_iff_eq, decide_eq_true_eq] at hh
      exact h ⟨hh.1.1.1, hh.1.1.2, hh.1.2⟩
  (repeat' first|refine kW ?_|refine kU fun bk=>?_|refine kV fun hc=>?_|refine kZ (fun hc=>?_) fun hc=>?_|fail)
  · refine OW_EV (EV_shl64 a 8 rfl rfl rfl rfl (by decide) (by omega)) rfl ?_
    rw [show a * 2 ^ 8 = a * 256 from rfl]
    (repeat' first|refine kW ?_|refine kU fun bk=>?_|refine kV fun hc=>?_|refine kZ (fun hc=>?_) fun hc=>?_|fail)
    refine OW_EV (EV_bit rfl rfl (bit_or16 (a := a) (b := b) hx hy)) rfl ?_
    (repeat' first|refine kW ?_|refine kU fun bk=>?_|refine kV fun hc=>?_|refine kZ (fun hc=>?_) fun hc=>?_|fail)
    refine OW_EV (EV_remN (a * 256 + b) 31 rfl rfl rfl rfl (by decide)) rfl ?_
    (repeat' first|refine kW ?_|refine kU fun bk=>?_|refine kV fun hc=>?_|refine kZ (fun hc=>?_) fun hc=>?_|fail)
    · refine OW_EV (EV_bit rfl rfl (bit_and8 (a := b) (b := 32) hy (by decide))) rfl ?_
      generalize hz : b &&& 32 = z
      (repeat' first|refine kW ?_|refine kU fun bk=>?_|refine kV fun hc=>?_|refine kZ (fun hc=>?_) fun hc=>?_|fail)
      refine kR ?_
      refine ⟨_, iC, ?_, rfl⟩
      refine congrArg Value.bool ?_
      rw [show (a % 16 == 8) = true from by simp; omega, show decide (a / 16 ≤ 7) = true from by simp; omega, show ((a * 256 + b) % 31 == 0) = true from by simp; omega]
      simp only [Bool.true_and]
      by_cases h0 : z = 0
      · subst h0; rfl
      · rw [show (z == 0) = false from by simpa using h0]; simp; omega
    · refine kR ?_
      exact ⟨_, iC, hno _ (hno2 (by omega)), rfl⟩
  · refine kR ?_
    exact ⟨_, iC, hno _ (hno2 (by omega)), rfl⟩
  · refine kR ?_
    exact ⟨_, iC, hno _ (hno2 (by omega)), rfl⟩
theorem sl_bytes {L : List Chunk} {v : Value} {m : Nat} {t : List UInt8} (h : Sl L 1 v m (bsv t)) (hm : 0 < m) :
    ∃ bb off cap c T fr, v = .slice (some ⟨bb, off, none⟩) m cap ∧ Fnd L bb (.cells c T fr) ∧ ∀ k, k < m → c[off + k * 1]? = some (.int .u8 ((t.getD k 0).toNat : Int)) := by
  rcases h with ⟨c, rfl, rfl, h0⟩ | ⟨a, cap, rfl, hr, hl⟩
  · omega
  · rw [bsv_length, Nat.mul_one] at hl
    rcases hr with h0 | ⟨b, off, c, T, fr, rfl, h1, h2⟩
    · have h9 : (bsv t).length = 0 := by rw [h0]; rfl
      rw [bsv_length] at h9
      omega
    · exact ⟨b, off, cap, c, T, fr, rfl, h1, fun k hk => by rw [Nat.mul_one]; exact h2 _ _ (bsv_get (by simp [List.getD, show k < t.length by omega]))⟩
set_option maxHeartbeats 4000000 in
theorem word_n (v : Value) (m : Nat) (t : List UInt8) (L : List Chunk) (h : Sl L 1 v m (bsv t)) (hm : 4 ≤ m) :
    GvP Tryd.prog 28 [v].toArray L (.int .u32 ((wdN (t.getD 0 0).toNat (t.getD 1 0).toNat (t.getD 2 0).toNat (t.getD 3 0).toNat : Nat) : Int)) := by
  refine Gv.of_body Tryd.func28 rfl rfl ?_
  obtain ⟨bb, off, cap, cc, T, fr, rfl, hfn, hcs⟩ := sl_bytes h (by omega)
  have hc0 := hcs 0 (by omega)
  have hc1 := hcs 1 (by omega)
  have hc2 := hcs 2 (by omega)
  have hc3 := hcs 3 (by omega)
  have h0 := (t.getD 0 0).toNat_lt
  have h1 := (t.getD 1 0).toNat_lt
  have h2 := (t.getD 2 0).toNat_lt
  have h3 := (t.getD 3 0).toNat_lt
  clear h hcs
  generalize (t.getD 0 0).toNat = b0 at *
  generalize (t.getD 1 0).toNat = b1 at *
  generalize (t.getD 2 0).toNat = b2 at *
  generalize (t.getD 3 0).toNat = b3 at *
  (repeat' first|refine kW ?_|refine kU fun bk=>?_|refine kV fun hc=>?_|refine kZ (fun hc=>?_) fun hc=>?_|fail)
  refine WC_drawAll [] mixed ?_
  (refine WR_t 0 ?_)
  (refine WR_take 1 rfl rfl (by kernel_rfl) iP iC (EV_indexAddr (j := 0) rfl rfl rfl (by omega)) (by rfl) ?_)
  (refine WR_take 2 rfl rfl (by kernel_rfl) iP iC (EV_load rfl hfn hc0) (by rfl) ?_)
  (refine WR_take 3 rfl rfl (by kernel_rfl) iP iC (EV_nconv b0 rfl rfl rfl (by simp only [IntKind.bits]; omega)) (by rfl) ?_)
  (refine WR_take 4 rfl rfl (by kernel_rfl) iP iC (EV_nshl b0 24 rfl rfl rfl rfl rfl (by simp only [IntKind.bits]; omega)) (by rfl) ?_)
  (refine WR_t 5 ?_)
  (refine WR_take 6 rfl rfl (by kernel_rfl) iP iC (EV_indexAddr (j := 1) rfl rfl rfl (by omega)) (by rfl) ?_)
  (refine WR_take 7 rfl rfl (by kernel_rfl) iP iC (EV_load rfl hfn hc1) (by rfl) ?_)
  (refine WR_take 8 rfl rfl (by kernel_rfl) iP iC (EV_nconv b1 rfl rfl rfl (by simp only [IntKind.bits]; omega)) (by rfl) ?_)
  (refine WR_take 9 rfl rfl (by kernel_rfl) iP iC (EV_nshl b1 16 rfl rfl rfl rfl rfl (by simp only [IntKind.bits]; omega)) (by rfl) ?_)
  (refine WR_take 10 rfl rfl (by kernel_rfl) iP iC (EV_nor' (k := .u32) (b1 * 2 ^ 16) b0 24 rfl rfl rfl rfl rfl (by omega) (by simp only [IntKind.bits]; omega)) (by rfl) ?_)
  rw [show b1 * 2 ^ 16 + b0 * 2 ^ 24 = (b1 + b0 * 256) * 2 ^ 16 from by omega]
  (refine WR_t 11 ?_)
  (refine WR_take 12 rfl rfl (by kernel_rfl) iP iC (EV_indexAddr (j := 2) rfl rfl rfl (by omega)) (by rfl) ?_)
  (refine WR_take 13 rfl rfl (by kernel_rfl) iP iC (EV_load rfl hfn hc2) (by rfl) ?_)
  (refine WR_take 14 rfl rfl (by kernel_rfl) iP iC (EV_nconv b2 rfl rfl rfl (by simp only [IntKind.bits]; omega)) (by rfl) ?_)
  (refine WR_take 15 rfl rfl (by kernel_rfl) iP iC (EV_nshl b2 8 rfl rfl rfl rfl rfl (by simp only [IntKind.bits]; omega)) (by rfl) ?_)
  (refine WR_take 16 rfl rfl (by kernel_rfl) iP iC (EV_nor' (k := .u32) (b2 * 2 ^ 8) (b1 + b0 * 256) 16 rfl rfl rfl rfl rfl (by omega) (by simp only [IntKind.bits]; omega)) (by rfl) ?_)
  rw [show b2 * 2 ^ 8 + (b1 + b0 * 256) * 2 ^ 16 = (b2 + (b1 + b0 * 256) * 256) * 2 ^ 8 from by omega]
  (refine WR_t 17 ?_)
  (refine WR_take 18 rfl rfl (by kernel_rfl) iP iC (EV_indexAddr (j := 3) rfl rfl rfl (by omega)) (by rfl) ?_)
  (refine WR_take 19 rfl rfl (by kernel_rfl) iP iC (EV_load rfl hfn hc3) (by rfl) ?_)
  (refine WR_take 20 rfl rfl (by kernel_rfl) iP iC (EV_nconv b3 rfl rfl rfl (by simp only [IntKind.bits]; omega)) (by rfl) ?_)
  (refine WR_take 21 rfl rfl (by kernel_rfl) iP iC (EV_nor' (k := .u32) b3 (b2 + (b1 + b0 * 256) * 256) 8 rfl rfl rfl rfl rfl (by omega) (by simp only [IntKind.bits]; omega)) (by rfl) ?_)
  rw [show b3 + (b2 + (b1 + b0 * 256) * 256) * 2 ^ 8 = wdN b0 b1 b2 b3 from by unfold wdN; omega]
  (refine WR_t 22 ?_)
  (refine WR_done (by kernel_rfl) ?_)
  (repeat' first|refine kW ?_|refine kU fun bk=>?_|refine kV fun hc=>?_|refine kZ (fun hc=>?_) fun hc=>?_|fail)
  exact kE
end Go.Proofs.YtdcehmhelfohfaaDoor
namespace Go.If
open Go.Vx Go.Hf
set_option linter.all false
def byt (d : List UInt8) (k : Nat) : Nat := (d.getD k 0).toNat
def usd [W0] (d : List UInt8) (m : Nat) : Nat := ((rawS (d.drop 2) m).t + 7) / 8
end Go.If
namespace Go.Proofs.YtdcehmhelfohfaaDoor
open Go Go.Vx Go.Hf Go.If
variable [W0]
set_option maxRecDepth 4000
set_option linter.all false
def adS (d : List UInt8) (m : Nat) : Nat := (adlV (adlN (1#32, 0#32) (rawS (d.drop 2) m).out)).toNat
def zlE (d : List UInt8) (m : Nat) : Nat :=
  if d.length < 2 then 4
  else if hdK (byt d 0) (byt d 1) = false then 3
  else if (rawS (d.drop 2) m).e ≠ 0 then (rawS (d.drop 2) m).e
  else if d.length < 2 + usd d m + 4 then 4
  else if wdN (byt d (2 + usd d m)) (byt d (2 + usd d m + 1)) (byt d (2 + usd d m + 2)) (byt d (2 + usd d m + 3)) ≠ adS d m then 6
  else 0
set_option maxHeartbeats 4000000 in
theorem pzlib_n (a : Option Addr) (c : Nat) (d : List UInt8) (most : Int) (m : Nat) (L : List Chunk) (hv : Sl L 1 (.slice a d.length c) d.length (bsv d)) (hl : d.length ≤ 140737488355328) (hcap : d.length ≤ c) (hm1 : max most 0 = (m : Int)) (hm : m ≤ 1000000) (hor : OrAt L) :
    Gv Tryd.prog 14 [.slice a d.length c, .int .i64 most].toArray L (fun r L' =>
      (zlE d m ≠ 0 ∧ r = .tuple #[.slice none 0 0, .int .i64 0, .int .i64 (zlE d m : Int)] ∧ L' = L) ∨
      (zlE d m = 0 ∧ ∃ v C, r = .tuple #[v, .int .i64 ((2 + usd d m + 4 : Nat) : Int), .int .i64 0] ∧ Ow 5 1 v (rawS (d.drop 2) m).out.length (bsv (rawS (d.drop 2) m).out) C ∧ (rawS (d.drop 2) m).out.length ≤ m ∧ L' = C :: L)) := by
  refine Gv.of_body Tryd.func14 rfl rfl ?_
  by_cases h2 : d.length < 2
  · have hz : zlE d m = 4 := by unfold zlE; rw [if_pos h2]
    rw [hz]
    (repeat' first|refine kW ?_|refine kU fun bk=>?_|refine kV fun hc=>?_|refine kZ (fun hc=>?_) fun hc=>?_|fail)
    refine WQ_retI (rs := [.tmp 4, .tmp 5, .tmp 6]) (vs := [.slice none 0 0, .int .i64 0, .int .i64 4]) rfl rfl ?_
    exact ⟨_, iC, .inl ⟨by decide, rfl, rfl⟩⟩
  have hz : zlE d m = if hdK (byt d 0) (byt d 1) = false then 3 else if (rawS (d.drop 2) m).e ≠ 0 then (rawS (d.drop 2) m).e else if d.length < 2 + usd d m + 4 then 4 else if wdN (byt d (2 + usd d m)) (byt d (2 + usd d m + 1)) (byt d (2 + usd d m + 2)) (byt d (2 + usd d m + 3)) ≠ adS d m then 6 else 0 := by
    unfold zlE; rw [if_neg h2]
  rw [hz]
  clear hz
  obtain ⟨bb, off, cap, cc, T, fr, hve, hfn, hcs⟩ := sl_bytes hv (by omega)
  injection hve with q1 q2 q3
  subst q1 q3
  clear q2
  have hhd := isHead_n (d.getD 0 0) (d.getD 1 0) L
  change GvP _ _ _ L (.bool (hdK (byt d 0) (byt d 1))) at hhd
  generalize hK : hdK (byt d 0) (byt d 1) = K at hhd ⊢
  (repeat' first|refine kW ?_|refine kU fun bk=>?_|refine kV fun hc=>?_|refine kZ (fun hc=>?_) fun hc=>?_|fail)
  refine WC_drawAll [] mixed ?_
  (refine WR_t 0 ?_)
  (refine WR_take 1 rfl rfl (by kernel_rfl) iP iC (EV_indexAddr (j := 0) rfl rfl rfl (by omega)) (by rfl) ?_)
  (refine WR_take 2 rfl rfl (by kernel_rfl) iP iC (EV_load rfl hfn (hcs 0 (by omega))) (by rfl) ?_)
  (refine WR_t 3 ?_)
  (refine WR_take 4 rfl rfl (by kernel_rfl) iP iC (EV_indexAddr (j := 1) rfl rfl rfl (by omega)) (by rfl) ?_)
  (refine WR_take 5 rfl rfl (by kernel_rfl) iP iC (EV_load rfl hfn (hcs 1 (by omega))) (by rfl) ?_)
  (refine WR_one 6 (by kernel_rfl) rfl rfl ?_)
  refine OW_callP rfl rfl rfl hhd rfl ?_
  refine ⟨iC, ?_⟩
  (refine WR_t 7 ?_)
  (refine WR_done (by kernel_rfl) ?_)
  cases K with
  | false =>
    rw [if_pos rfl]
    (repeat' first|refine kW ?_|refine kU fun bk=>?_|refine kV fun hc=>?_|refine kZ (fun hc=>?_) fun hc=>?_|fail)
    refine WQ_retI (rs := [.tmp 4, .tmp 5, .tmp 6]) (vs := [.slice none 0 0, .int .i64 0, .int .i64 3]) rfl rfl ?_
    exact ⟨_, iC, .inl ⟨by decide, rfl, rfl⟩⟩
  | true =>
    rw [if_neg (by decide)]
    have hsub : ∀ k, k ≤ d.length → Sl L 1 (.slice (some ⟨bb, if c = k then off else off + k * 1, none⟩) (d.length - k) (c - k)) (d.length - k) (bsv (d.drop k)) := by
      intro k hk
      refine .inr ⟨_, _, rfl, ?_, by rw [bsv_length, List.length_drop, Nat.mul_one]⟩
      by_cases h0 : d.length = k
      · refine .inl ?_
        rw [List.drop_of_length_le (by omega)]; rfl
      · rw [if_neg (by omega)]
        refine .inr ⟨bb, _, cc, T, fr, rfl, hfn, fun j u hj => ?_⟩
        have hjl : j < (d.drop k).length := by
          have := (List.getElem?_eq_some_iff.1 hj).1
          rwa [bsv_length] at this
        have hj2 : u = .int .u8 ((d.getD (k + j) 0).toNat : Int) := by
          have h3 := bsv_get (l := d.drop k) (i := j) (b := d.getD (k + j) 0) (by rw [List.length_drop] at hjl; simp [List.getD, show k + j < d.length by omega])
          rw [h3] at hj
          injection hj with hj
          exact hj.symm
        rw [hj2, show off + k * 1 + j = off + (k + j) * 1 from by omega]
        rw [List.length_drop] at hjl
        exact hcs (k + j) (by omega)
    have hra := praw_n (some ⟨bb, if c = 2 then off else off + 2 * 1, none⟩) (c - 2) (d.drop 2) most m L (by rw [List.length_drop]; exact hsub 2 (by omega)) (by rw [List.length_drop]; omega) hm1 hm hor
    rw [List.length_drop] at hra
    have hus : usd d m = ((rawS (d.drop 2) m).t + 7) / 8 := rfl
    have had : adS d m = (adlV (adlN (1#32, 0#32) (rawS (d.drop 2) m).out)).toNat := rfl
    generalize rawS (d.drop 2) m = R at hra hus had ⊢
    rw [← hus] at hra
    generalize usd d m = n at hra hus ⊢
    generalize adS d m = ad at had ⊢
    (repeat' first|refine kW ?_|refine kU fun bk=>?_|refine kV fun hc=>?_|refine kZ (fun hc=>?_) fun hc=>?_|fail)
    refine OW_EV (EV_sliceSl (l := 2) (h := d.length) rfl rfl rfl (by omega) hcap) rfl ?_
    (repeat' first|refine kW ?_|refine kU fun bk=>?_|refine kV fun hc=>?_|refine kZ (fun hc=>?_) fun hc=>?_|fail)
    refine OW_call rfl rfl rfl hra rfl (fun r L' hp => ?_)
    rcases hp with ⟨h3, rfl, rfl⟩ | ⟨h3, v1, C1, rfl, ho1, hl1, ht1, rfl⟩
    · rw [if_pos h3]
      (repeat' first|refine kW ?_|refine kU fun bk=>?_|refine kV fun hc=>?_|refine kZ (fun hc=>?_) fun hc=>?_|fail)
      refine WQ_retI (rs := [.tmp 4, .tmp 5, .tmp 6]) (vs := [.slice none 0 0, .int .i64 0, .int .i64 (R.e : Int)]) rfl rfl ?_
      exact ⟨_, iC, .inl ⟨h3, rfl, rfl⟩⟩
    rw [if_neg (show ¬ R.e ≠ 0 by omega)]
    have hn2 : 2 + n ≤ d.length := by omega
    (repeat' first|refine kW ?_|refine kU fun bk=>?_|refine kV fun hc=>?_|refine kZ (fun hc=>?_) fun hc=>?_|fail)
    rw [show (2 : Int) + (n : Int) = ((2 + n : Nat) : Int) from by omega]
    refine OW_EV (EV_sliceSl (l := 2 + n) (h := d.length) rfl rfl rfl hn2 hcap) rfl ?_
    (repeat' first|refine kW ?_|refine kU fun bk=>?_|refine kV fun hc=>?_|refine kZ (fun hc=>?_) fun hc=>?_|fail)
    · rw [if_pos (show d.length < 2 + n + 4 by omega)]
      refine WQ_retI (rs := [.tmp 4, .tmp 5, .tmp 6]) (vs := [.slice none 0 0, .int .i64 0, .int .i64 4]) rfl rfl ?_
      exact ⟨_, iC, .inl ⟨by decide, rfl, rfl⟩⟩
    rw [if_neg (show ¬ d.length < 2 + n + 4 by omega)]
    have hw := word_n _ _ (d.drop (2 + n)) (C1 :: L) (sl_there (hsub (2 + n) hn2)) (by omega)
    have hgd : ∀ j, ((d.drop (2 + n)).getD j 0).toNat = byt d (2 + n + j) := fun j => by simp [byt, List.getD]
    rw [hgd, hgd, hgd, hgd, Nat.add_zero] at hw
    refine OW_callP rfl rfl rfl hw rfl ?_
    generalize wdN (byt d (2 + n)) (byt d (2 + n + 1)) (byt d (2 + n + 2)) (byt d (2 + n + 3)) = wd
    (repeat' first|refine kW ?_|refine kU fun bk=>?_|refine kV fun hc=>?_|refine kZ (fun hc=>?_) fun hc=>?_|fail)
    have hadl : GvP Tryd.prog 29 [v1].toArray (C1 :: L) (.int .u32 (ad : Int)) := by rw [had]; exact adler_n R.out v1 (C1 :: L) (by omega) (SlC.ow ho1)
    refine OW_callP rfl rfl rfl hadl rfl ?_
    (repeat' first|refine kW ?_|refine kU fun bk=>?_|refine kV fun hc=>?_|refine kZ (fun hc=>?_) fun hc=>?_|fail)
    · rw [if_pos (show wd ≠ ad by omega)]
      refine WQ_retI (rs := [.tmp 4, .tmp 5, .tmp 6]) (vs := [.slice none 0 0, .int .i64 0, .int .i64 6]) rfl rfl ?_
      exact ⟨_, iC, .inl ⟨by decide, rfl, rfl⟩⟩
    · rw [if_neg (show ¬ wd ≠ ad by omega)]
      refine kR ?_
      exact ⟨_, iC, .inr ⟨rfl, v1, C1, by rw [show ((2 + n + 4 : Nat) : Int) = 2 + (n : Int) + 4 from by omega]; rfl, ho1, hl1, rfl⟩⟩
end Go.Proofs.YtdcehmhelfohfaaDoor
namespace Go.Proofs.YtdcehmhelfohfaaDoor
open Go Go.Vx Go.Hf Go.If
variable [W0]
set_option maxRecDepth 100000
set_option linter.all false
omit [W0] in
def awA : List UInt8 := [1, 2, 0, 253, 255, 97, 98]
omit [W0] in
def awZ : List UInt8 := [120, 1, 1, 0, 0, 255, 255, 0, 0, 0, 1]
theorem awA_eq : rawS awA 10 = ⟨56, [97, 98], 0⟩ := by kernel_rfl
theorem aw7_eq : (rawS [7] 10).e = 3 := by kernel_rfl
theorem awZ_eq : zlE awZ 10 = 0 := by kernel_rfl
theorem awZ_us : usd awZ 10 = 5 := by kernel_rfl
set_option maxHeartbeats 4000000 in
theorem iawake_n (L : List Chunk) (hor : OrAt L) : GvP Tryd.prog 9 [].toArray L (.bool true) := by
  refine Gv.of_body Tryd.func9 rfl rfl ?_
  (repeat' first|refine kW ?_|refine kU fun bk=>?_|refine kV fun hc=>?_|refine kZ (fun hc=>?_) fun hc=>?_|fail)
  refine OW_buildSlice (cs := bsv awA) rfl (by rfl) (by simp [fillL, patch, Value.cells, zeros]; rfl) (by omega) rfl rfl (fun b1 => ?_)
  (repeat' first|refine kW ?_|refine kU fun bk=>?_|refine kV fun hc=>?_|refine kZ (fun hc=>?_) fun hc=>?_|fail)
  have h1 := praw_n (some ⟨b1, 0, none⟩) 7 awA 10 10 ([(b1, cl (bsv awA) 5)] :: L) (sl_cells (c := (bsv awA).toArray) (xs := bsv awA) (m := 7) Fnd.here rfl (by simp)) (by decide) (by decide) (by decide) hor.there
  rw [awA_eq] at h1
  refine OW_call rfl rfl rfl h1 rfl (fun r L' hp => ?_)
  rcases hp with ⟨h, _⟩ | ⟨_, v1, C1, rfl, ho1, _, _, rfl⟩
  · exact absurd rfl h
  (repeat' first|refine kW ?_|refine kU fun bk=>?_|refine kV fun hc=>?_|refine kZ (fun hc=>?_) fun hc=>?_|fail)
  refine OW_buildSlice (cs := bsv [7]) rfl (by rfl) (by simp [fillL, patch, Value.cells, zeros]; rfl) (by omega) rfl rfl (fun b2 => ?_)
  (repeat' first|refine kW ?_|refine kU fun bk=>?_|refine kV fun hc=>?_|refine kZ (fun hc=>?_) fun hc=>?_|fail)
  have h2 := praw_n (some ⟨b2, 0, none⟩) 1 [7] 10 10 ([(b2, cl (bsv [7]) 5)] :: C1 :: [(b1, cl (bsv awA) 5)] :: L) (sl_cells (c := (bsv [7]).toArray) (xs := bsv [7]) (m := 1) Fnd.here rfl (by simp)) (by decide) (by decide) (by decide) hor.there.there.there
  rw [aw7_eq] at h2
  refine OW_call rfl rfl rfl h2 rfl (fun r L' hp => ?_)
  rcases hp with ⟨_, rfl, rfl⟩ | ⟨h, _⟩
  rotate_left
  · cases h
  (repeat' first|refine kW ?_|refine kU fun bk=>?_|refine kV fun hc=>?_|refine kZ (fun hc=>?_) fun hc=>?_|fail)
  refine OW_buildSlice (cs := bsv awZ) rfl (by rfl) (by simp [fillL, patch, Value.cells, zeros]; rfl) (by omega) rfl rfl (fun b3 => ?_)
  (repeat' first|refine kW ?_|refine kU fun bk=>?_|refine kV fun hc=>?_|refine kZ (fun hc=>?_) fun hc=>?_|fail)
  have h3 := pzlib_n (some ⟨b3, 0, none⟩) 11 awZ 10 10 ([(b3, cl (bsv awZ) 5)] :: [(b2, cl (bsv [7]) 5)] :: C1 :: [(b1, cl (bsv awA) 5)] :: L) (sl_cells (c := (bsv awZ).toArray) (xs := bsv awZ) (m := 11) Fnd.here rfl (by simp)) (by decide) (by decide) (by decide) (by decide) hor.there.there.there.there
  rw [awZ_eq, awZ_us] at h3
  refine OW_call rfl rfl rfl h3 rfl (fun r L' hp => ?_)
  rcases hp with ⟨h, _⟩ | ⟨_, v3, C3, rfl, _, _, rfl⟩
  · exact absurd rfl h
  (repeat' first|refine kW ?_|refine kU fun bk=>?_|refine kV fun hc=>?_|refine kZ (fun hc=>?_) fun hc=>?_|fail)
  refine OW_EV (EV_convStr (m := 2) (b := [97, 98]) rfl (by exact sl_there (sl_there (sl_there (ow_sl ho1))))) rfl ?_
  (repeat' first|refine kW ?_|refine kU fun bk=>?_|refine kV fun hc=>?_|refine kZ (fun hc=>?_) fun hc=>?_|fail)
  exact kE
end Go.Proofs.YtdcehmhelfohfaaDoor
