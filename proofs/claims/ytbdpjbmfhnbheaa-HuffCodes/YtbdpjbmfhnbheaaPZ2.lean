/- HuffCodes returns true and leaves its arguments as they were, for every argument that the row takes. No conditions beyond the row's. -/
import Derived.Test.YtbdpjbmfhnbheaaPZ1
namespace Go.Hf
set_option linter.all false
def smb (l : List Nat) (i n : Nat) : List Nat := (List.range i).filter fun j => l.getD j 0 == n && decide (0 < n)
theorem smb_succ (l : List Nat) (i n : Nat) : smb l (i + 1) n = smb l i n ++ (if l.getD i 0 = n ∧ 0 < n then [i] else []) := by
  unfold smb
  rw [List.range_succ, List.filter_append]
  congr 1
  by_cases h : l.getD i 0 = n ∧ 0 < n
  · rw [if_pos h, List.filter_cons, if_pos (by simp only [Bool.and_eq_true, beq_iff_eq, decide_eq_true_eq]; exact h)]; rfl
  · rw [if_neg h, List.filter_cons, if_neg (by simp only [Bool.and_eq_true, beq_iff_eq, decide_eq_true_eq]; exact h)]; rfl
theorem smb_le (l : List Nat) (i n : Nat) : (smb l i n).length ≤ i := by
  have := List.length_filter_le (fun j => l.getD j 0 == n && decide (0 < n)) (List.range i)
  rw [List.length_range] at this
  exact this
end Go.Hf
namespace Go.Proofs.Ytbdpjbmfhnbheaa
open Go Go.Vx Go.Hf
variable [W0]
set_option maxRecDepth 4000
set_option linter.all false
omit [W0] in
/-- The lists of symbols, one a length. -/
structure SyR (l : List Nat) (i : Nat) (vs : List Value) (Cs : List Chunk) : Prop where
  lv : vs.length = 16
  lc : Cs.length = 16
  at_ : ∀ n, n < 16 → ∃ v C, vs[n]? = some v ∧ Cs[n]? = some C ∧ Ow 3 1 v (smb l i n).length (ivn (smb l i n)) C
theorem flat_set {α : Type} : ∀ {Cs : List (List α)} {n : Nat} {C : List α}, Cs[n]? = some C → ∃ D1 D2, Cs.flatten = D1 ++ (C ++ D2) ∧ ∀ C', (Cs.set n C').flatten = D1 ++ (C' ++ D2)
  | [], n, C, h => by simp at h
  | D :: r, 0, C, h => by
    simp at h
    subst h
    exact ⟨[], r.flatten, by simp, fun C' => by simp⟩
  | D :: r, n + 1, C, h => by
    simp at h
    obtain ⟨D1, D2, h1, h2⟩ := flat_set h
    exact ⟨D ++ D1, D2, by simp [h1], fun C' => by simp [h2]⟩
theorem SyR.new (l : List Nat) : SyR l 0 (List.replicate 16 (.slice none 0 0)) (List.replicate 16 []) := by
  refine ⟨by simp, by simp, fun n hn => ⟨_, _, ?_, ?_, .inl ⟨rfl, rfl, rfl, rfl⟩⟩⟩
  · rw [List.getElem?_replicate, if_pos hn]
  · rw [List.getElem?_replicate, if_pos hn]
theorem SyR.step {l : List Nat} {i : Nat} {vs : List Value} {Cs : List Chunk} (h : SyR l i vs Cs) {v' : Value} {C' : Chunk} (h0 : 0 < l.getD i 0) (h15 : l.getD i 0 < 16)
    (ho : Ow 3 1 v' ((smb l i (l.getD i 0)).length + 1) (ivn (smb l i (l.getD i 0)) ++ ivn [i]) C') : SyR l (i + 1) (vs.set (l.getD i 0) v') (Cs.set (l.getD i 0) C') := by
  refine ⟨by rw [List.length_set]; exact h.lv, by rw [List.length_set]; exact h.lc, fun n hn => ?_⟩
  by_cases he : l.getD i 0 = n
  · subst he
    refine ⟨v', C', List.getElem?_set_self (by rw [h.lv]; exact hn), List.getElem?_set_self (by rw [h.lc]; exact hn), ?_⟩
    rw [smb_succ, if_pos ⟨rfl, h0⟩, List.length_append]
    have e : ivn (smb l i (l.getD i 0) ++ [i]) = ivn (smb l i (l.getD i 0)) ++ ivn [i] := by simp [ivn]
    rw [e]
    exact ho
  · obtain ⟨v, C, h1, h2, h3⟩ := h.at_ n hn
    refine ⟨v, C, by rw [List.getElem?_set_ne he]; exact h1, by rw [List.getElem?_set_ne he]; exact h2, ?_⟩
    rw [smb_succ, if_neg (fun hh => he hh.1), List.append_nil]
    exact h3
theorem SyR.put {l : List Nat} {vs : List Value} {Cs : List Chunk} (h : SyR l 0 vs Cs) (x : Nat) {v' : Value} {C' : Chunk} (ho : Ow 3 1 v' 0 [] C') : SyR l 0 (vs.set x v') (Cs.set x C') := by
  refine ⟨by rw [List.length_set]; exact h.lv, by rw [List.length_set]; exact h.lc, fun n hn => ?_⟩
  by_cases he : x = n
  · subst he
    exact ⟨v', C', List.getElem?_set_self (by rw [h.lv]; exact hn), List.getElem?_set_self (by rw [h.lc]; exact hn), ho⟩
  · obtain ⟨v, C, h1, h2, h3⟩ := h.at_ n hn
    exact ⟨v, C, by rw [List.getElem?_set_ne he]; exact h1, by rw [List.getElem?_set_ne he]; exact h2, h3⟩
theorem SyR.skip {l : List Nat} {i : Nat} {vs : List Value} {Cs : List Chunk} (h : SyR l i vs Cs) (h0 : l.getD i 0 = 0) : SyR l (i + 1) vs Cs := by
  refine ⟨h.lv, h.lc, fun n hn => ?_⟩
  obtain ⟨v, C, h1, h2, h3⟩ := h.at_ n hn
  refine ⟨v, C, h1, h2, ?_⟩
  rw [smb_succ, if_neg (fun hh => by omega), List.append_nil]
  exact h3
omit [W0] in
/-- The cells of a code. -/
def coC (l : List Nat) (vs : List Value) : List Value := wnv (fsl l 16) ++ (vs ++ [.int .i64 (kS l : Int)])
omit [W0] in
/-- A code lies at p. -/
def CoD (l : List Nat) (p : Nat) (C : Chunk) : Prop := ∃ vs Cs, C = [(p, cl (coC l vs) 77)] ++ Cs.flatten ∧ SyR l l.length vs Cs
theorem co_build (Fv : List Value) (h : Fv.length = 16) (k : Int) : fillL [(0, 16), (16, 16), (32, 1)] (wnv zI ++ (List.replicate 16 (.slice none 0 0) ++ [.int .i64 0])) [(0, .agg Fv.toArray), (2, .int .i64 k)] = some (Fv ++ (List.replicate 16 (.slice none 0 0) ++ [.int .i64 k])) := by
  have e : (wnv zI).length = 16 := by decide
  have p1 : patch (wnv zI ++ (List.replicate 16 (Value.slice none 0 0) ++ [.int .i64 0])) 0 Fv = Fv ++ (List.replicate 16 (.slice none 0 0) ++ [.int .i64 0]) := by
    unfold patch
    rw [Nat.zero_add, h, ← e, List.drop_left]
    simp
  have p2 : patch (Fv ++ (List.replicate 16 (Value.slice none 0 0) ++ [.int .i64 0])) 32 [.int .i64 k] = Fv ++ (List.replicate 16 (.slice none 0 0) ++ [.int .i64 k]) := by
    unfold patch
    rw [List.take_append, List.drop_append, h]
    rw [List.take_of_length_le (by omega), List.drop_of_length_le (by simp; omega)]
    simp
  have c1 : (Value.agg Fv.toArray).cells.toList = Fv := rfl
  have c2 : (Value.int .i64 k).cells.toList = [.int .i64 k] := rfl
  unfold fillL
  simp only [List.getElem?_cons_zero]
  rw [if_pos (by refine ⟨by rw [← Array.length_toList, c1, h], by simp [e]⟩), c1, p1]
  unfold fillL
  simp only [List.getElem?_cons_succ, List.getElem?_cons_zero]
  rw [if_pos (by refine ⟨rfl, by simp [h]⟩), c2, p2]
  rfl
theorem co_nth {Fv vs : List Value} {s v : Value} {x : Nat} (h : Fv.length = 16) (hv : vs[x]? = some v) : nth (Fv ++ (vs ++ [s])) (16 + x * 1) = some v := by
  have hlt := (List.getElem?_eq_some_iff.1 hv).1
  rw [nth_eq, Nat.mul_one, List.getElem?_append_right (by omega), h, show 16 + x - 16 = x from by omega, List.getElem?_append_left hlt]
  exact hv
theorem co_set {Fv vs : List Value} {s v : Value} {x : Nat} (h : Fv.length = 16) (hv : x < vs.length) : (Fv ++ (vs ++ [s])).set (16 + x * 1) v = Fv ++ (vs.set x v ++ [s]) := by
  rw [Nat.mul_one, List.set_append_right _ _ (by omega), h, show 16 + x - 16 = x from by omega, List.set_append_left _ _ hv]
set_option maxHeartbeats 4000000 in
theorem hnew_n (a : Option Addr) (c : Nat) (ls : List Int) (L : List Chunk) (h : Sl L 1 (.slice a ls.length c) ls.length (intsN ls)) (hl : ls.length ≤ 17592186044416) :
    Gv Try.prog 13 [.slice a ls.length c].toArray L (fun r L' => (cdE ls ≠ 0 ∧ r = .tuple #[.pointer none, .int .i64 (cdE ls : Int)] ∧ L' = L) ∨
      (cdE ls = 0 ∧ ∃ p C, r = .tuple #[.pointer (some ⟨p, 0, none⟩), .int .i64 0] ∧ L' = C :: L ∧ CoD (nl ls) p C)) := by
  refine Gv.of_body Try.func13 rfl rfl ?_
  have hno : cdE ls ≠ 0 → ∀ (M : List (Nat × Value)) (D : Chunk), lk M 2 = some (.pointer none) → lk M 3 = some (.int .i64 (cdE ls : Int)) →
      WQ Try.f13.ntmps (bodyPost Try.prog Try.f13 (fun e w' => ∃ v L', e = .returned v ∧ ((cdE ls ≠ 0 ∧ v = .tuple #[.pointer none, .int .i64 (cdE ls : Int)] ∧ L' = L) ∨
      (cdE ls = 0 ∧ ∃ p C, v = .tuple #[.pointer (some ⟨p, 0, none⟩), .int .i64 0] ∧ L' = C :: L ∧ CoD (nl ls) p C)) ∧ Holds w' L') .ret) M (D :: L) := by
    intro he M D h2 h3
    refine WQ_retH (rs := [.tmp 2, .tmp 3]) (vs := [.pointer none, .int .i64 (cdE ls : Int)]) rfl (by simp [resT, h2, h3]) ?_
    exact ⟨L, fun w hw => hw.drop, .inl ⟨he, rfl, rfl⟩⟩
  have ht := fun L' h' => checked_n a c ls L' h' hl
  have hf := fun L' (h0 : cdE ls = 0) => firsts_n (nl ls) L' (cdE_inv h0).2.2 (by rw [nl_length]; exact (cdE_inv h0).1)
  have hs := fun L' (h0 : cdE ls = 0) => share_n (nl ls) L' (by rw [nl_length]; exact hl) (fun x hx => okL_nl (cdE_inv h0).2.1 hx)
  have hte : cdE ls = 0 → ivn (tal (nl ls)) = ivn (talC ls) := fun h0 => by unfold talC; rw [if_pos h0]
  have htl : (ivn (talC ls)).length = 16 := by rw [ivn_length, talC_length]
  have hto : ones (ivn (talC ls)) = true := ivn_ones
  have htg : cdE ls = 0 → ∀ i, i < 16 → ∃ n : Nat, (ivn (talC ls))[i]? = some (.int .i64 (n : Int)) ∧ n ≤ ls.length := fun h0 i hi => by
    rw [← hte h0]
    refine ⟨_, ivn_get (tal_get _ hi), ?_⟩
    split
    · omega
    · unfold cn
      exact Nat.le_trans (List.length_filter_le _ _) (by rw [nl_length]; omega)
  generalize ivn (tal (nl ls)) = sv at hf hte hs
  generalize ivn (talC ls) = tv at ht hte htl hto htg
  (repeat' first|refine kX ?_|refine kU fun bk=>?_|refine kV fun hc=>?_|refine kZ (fun hc=>?_) fun hc=>?_|fail)
  refine OW_callP rfl rfl rfl (ht _ h) rfl ?_
  (repeat' first|refine kX ?_|refine kU fun bk=>?_|refine kV fun hc=>?_|refine kZ (fun hc=>?_) fun hc=>?_|fail)
  obtain ⟨b4, hb4⟩ : ∃ b4, b4 = bk := ⟨_, rfl⟩
  rw [← hb4]
  refine OW_holds (L' := [(b4, cl (ivn zI) 68)] :: L) (fun w h => h) ?_
  clear hb4
  refine OW_storeAggTo (l := ivn zI) (vs := tv) tv rfl rfl htl hto ?_ iU (by rw [htl]; decide) ?_
  · have e : (ivn zI).length = 16 := by decide
    simp [patch, htl, e]
  (repeat' first|refine kX ?_|refine kU fun bk=>?_|refine kV fun hc=>?_|refine kZ (fun hc=>?_) fun hc=>?_|fail)
  · exact hno (by omega) _ _ rfl rfl
  have h0 : cdE ls = 0 := by omega
  obtain ⟨h400, hok, hk⟩ := cdE_inv h0
  have hf := hf ([(b4, cl tv 68)] :: L) h0
  have hs := hs ([(b4, cl tv 68)] :: L) h0
  rw [hte h0] at hf hs
  obtain ⟨l, hll⟩ : ∃ l, l = nl ls := ⟨_, rfl⟩
  have hlen : l.length = ls.length := by rw [hll, nl_length]
  rw [← hll] at hk hf hs
  have h15 : ∀ x ∈ l, x ≤ 15 := fun x hx => okL_nl hok (by rw [← hll]; exact hx)
  have hco : ∀ vs, coC l vs = wnv (fsl l 16) ++ (vs ++ [.int .i64 (kS l : Int)]) := fun vs => rfl
  have hFl : (wnv (fsl l 16)).length = 16 := by rw [wnv_length, fsl_length]
  have hFo : ones (wnv (fsl l 16)) = true := wnv_ones
  generalize hFv : wnv (fsl l 16) = Fv at hf hco hFl hFo
  refine WC_drawAll [] mixed ?_
  refine WR_w 0 ?_ (he := EV_loadAll (vs := tv) rfl Fnd.here htl)
  refine WR_w 2 ?_ (he := EV_loadAll (vs := tv) rfl Fnd.here htl)
  (refine WR_one 1 (by kernel_rfl) rfl rfl ?_)
  refine OW_callP rfl rfl rfl hf rfl ?_
  refine ⟨iC, ?_⟩
  (refine WR_one 3 (by kernel_rfl) rfl rfl ?_)
  refine OW_callP rfl rfl rfl hs rfl ?_
  refine ⟨iC, ?_⟩
  (refine WR_take 4 rfl rfl (by kernel_rfl) iP iC (EV_build rfl (co_build Fv hFl (kS l : Int))) (by rfl) ?_)
  (refine WR_one 5 (by kernel_rfl) rfl rfl ?_)
  refine OW_box rfl rfl (fun p => ?_)
  refine ⟨iC, ?_⟩
  (refine WR_w 6 ?_)
  (refine WR_done (by kernel_rfl) ?_)
  (repeat' first|refine kX ?_|refine kU fun bk=>?_|refine kV fun hc=>?_|refine kZ (fun hc=>?_) fun hc=>?_|fail)
  have hls : (nl ls).length = ls.length := nl_length ls
  refine OW_W ?_ (he := EV_loadAll (vs := tv) rfl (by repeat (first | exact Fnd.here | refine Fnd.there ?_)) htl)
  (repeat' first|refine kX ?_|refine kU fun bk=>?_|refine kV fun hc=>?_|refine kZ (fun hc=>?_) fun hc=>?_|fail)
  refine WC_loop (X := Nat × List Value × List Chunk) (fun x => [(6, .pointer (some ⟨p, 0, none⟩)), (0, .slice a ls.length c), (25, .agg tv.toArray), (26, .int .i64 (x.1 : Int))])
    (fun x => [(p, cl (Fv ++ (x.2.1 ++ [.int .i64 (kS l : Int)])) 77)] :: x.2.2.flatten :: [(b4, cl tv 68)] :: L) (fun x => x.1 ≤ 16 ∧ SyR l 0 x.2.1 x.2.2) (fun x => 16 - x.1)
    (0, List.replicate 16 (.slice none 0 0), List.replicate 16 []) ⟨Nat.zero_le _, SyR.new l⟩ iS (fun w h => ?_) ?_
  · show Holds w (_ :: (List.replicate 16 ([] : Chunk)).flatten :: _)
    rw [show (List.replicate 16 ([] : Chunk)).flatten = [] from by decide]
    exact (iC : Inc _ _).holds (Holds.gap.2 h)
  intro x ⟨hx1, hx2⟩
  obtain ⟨i, vs, Cs⟩ := x
  simp only at hx1 hx2 ⊢
  (repeat' first|refine kX ?_|refine kU fun bk=>?_|refine kV fun hc=>?_|refine kZ (fun hc=>?_) fun hc=>?_|fail)
  · have hlt : i < 16 := by omega
    obtain ⟨n, hn, hnl⟩ := htg h0 i hlt
    refine OW_W ?_ (he := EV_indexAgg rfl rfl rfl hn hlt)
    (repeat' first|refine kX ?_|refine kU fun bk=>?_|refine kV fun hc=>?_|refine kZ (fun hc=>?_) fun hc=>?_|fail)
    obtain ⟨v, C, hv, hC, ho⟩ := hx2.at_ i hlt
    obtain ⟨D1, D2, hfl, hfl2⟩ := flat_set hC
    have hvl := hx2.lv
    refine WC_holds' (L' := [(p, cl (Fv ++ (vs ++ [.int .i64 (kS l : Int)])) 77)] :: D1 :: D2 :: [(b4, cl tv 68)] :: L) (fun w h => ?_) ?_
    · rw [hfl] at h
      have h2 : Holds w ([(p, cl (Fv ++ (vs ++ [.int .i64 (kS l : Int)])) 77)] :: D1 :: C :: D2 :: [(b4, cl tv 68)] :: L) := by simpa [Holds, List.append_assoc] using h
      exact iH h2
    refine WC_draw [[(p, cl (Fv ++ (vs ++ [.int .i64 (kS l : Int)])) 77)]] [7] mixed ?_
    (refine WR_w 0 ?_; refine WR_w 1 ?_; refine WR_w 2 ?_; refine WR_w 4 ?_; refine WR_w 5 ?_)
    (refine WR_one 3 (by kernel_rfl) rfl rfl ?_)
    refine OW_makeSlice (k := 1) (m := 0) (c := n) rfl rfl rfl (Nat.zero_le _) (by omega) (by omega) rfl (fun b => ?_)
    refine ⟨iC, ?_⟩
    (refine WR_w 6 ?_)
    (refine WR_last 7 (by kernel_rfl) rfl rfl rfl ?_)
    have ho' : Ow 3 1 (.slice (some ⟨b, 0, none⟩) 0 n) 0 [] [(b, cl (zeros [.int .i64 0] n) 3)] := .inr ⟨b, n, _, rfl, rfl, rfl, by simp [zeros_length], Nat.zero_le _, by unfold maxLen; omega⟩
    refine OW_storeTo (Fv ++ (vs.set i (.slice (some ⟨b, 0, none⟩) 0 n) ++ [.int .i64 (kS l : Int)])) rfl rfl rfl (co_set hFl (by omega)) iU (by rw [List.length_append, List.length_append, hFl, hvl]; simp; omega) ?_
    (refine WR_done (by kernel_rfl) ?_)
    (repeat' first|refine kX ?_|refine kU fun bk=>?_|refine kV fun hc=>?_|refine kZ (fun hc=>?_) fun hc=>?_|fail)
    refine WQ_round (X := Nat × List Value × List Chunk) (μ := fun x => 16 - x.1) (x := (i, vs, Cs)) (i + 1, _, _) (by simp only; omega) ⟨by simp only; omega, hx2.put i ho'⟩ iS (fun w h => ?_)
    have h2 := (iC : Inc ([(p, cl (Fv ++ (vs.set i (.slice (some ⟨b, 0, none⟩) 0 n) ++ [.int .i64 (kS l : Int)])) 77)] :: D1 :: [(b, cl (zeros [.int .i64 0] n) 3)] :: D2 :: [(b4, cl tv 68)] :: L) _).holds h
    simp only [hfl2]
    simpa [Holds, List.append_assoc] using h2
  refine WC_loop (X := Nat × List Value × List Chunk) (fun x => [(6, .pointer (some ⟨p, 0, none⟩)), (38, .slice a ls.length c), (39, .int .i64 (ls.length : Int)), (40, .int .i64 (x.1 : Int))])
    (fun x => [(p, cl (Fv ++ (x.2.1 ++ [.int .i64 (kS l : Int)])) 77)] :: x.2.2.flatten :: [(b4, cl tv 68)] :: L) (fun x => x.1 ≤ ls.length ∧ SyR l x.1 x.2.1 x.2.2) (fun x => ls.length - x.1)
    (0, vs, Cs) ⟨Nat.zero_le _, hx2⟩ iS (fun w h => h) ?_
  clear hx1 hx2
  intro x ⟨hx1, hx2⟩
  obtain ⟨i, vs, Cs⟩ := x
  simp only at hx1 hx2 ⊢
  (repeat' first|refine kX ?_|refine kU fun bk=>?_|refine kV fun hc=>?_|refine kZ (fun hc=>?_) fun hc=>?_|fail)
  · have hlt : i < ls.length := by omega
    obtain ⟨b, off, cap, cc, T, fr, hve, hfn, hcell⟩ := sl_at h (ints_get hlt)
    injection hve with q1 q2 q3
    subst q1 q3
    clear q2
    have hat := okL_at hok i
    rw [← hll] at hat
    rw [← hat.2.2] at hcell
    have hstep := @SyR.step _ l i vs Cs hx2
    have hskip := hx2.skip
    obtain ⟨x, hx⟩ : ∃ x, x = l.getD i 0 := ⟨_, rfl⟩
    have hx15 : x ≤ 15 := by omega
    rw [← hx] at hcell hstep hskip
    refine OW_W ?_ (he := EV_indexAddr (j := i) rfl rfl rfl hlt)
    (repeat' first|refine kX ?_|refine kU fun bk=>?_|refine kV fun hc=>?_|refine kZ (fun hc=>?_) fun hc=>?_|fail)
    refine OW_W ?_ (he := EV_load rfl hfn.there.there.there hcell)
    (repeat' first|refine kX ?_|refine kU fun bk=>?_|refine kV fun hc=>?_|refine kZ (fun hc=>?_) fun hc=>?_|fail)
    · have hx0 : 0 < x := by omega
      obtain ⟨v, C, hv, hC, ho⟩ := hx2.at_ x (by omega)
      obtain ⟨D1, D2, hfl, hfl2⟩ := flat_set hC
      have hsl := smb_le l i x
      refine WC_holds' (L' := [(p, cl (Fv ++ (vs ++ [.int .i64 (kS l : Int)])) 77)] :: D1 :: C :: D2 :: [(b4, cl tv 68)] :: L) (fun w h => ?_) ?_
      · rw [hfl] at h
        simpa [Holds, List.append_assoc] using h
      refine WC_draw [[(p, cl (Fv ++ (vs ++ [.int .i64 (kS l : Int)])) 77)]] [14] mixed ?_
      (refine WR_w 0 ?_; refine WR_w 1 ?_; refine WR_w 2 ?_; refine WR_w 3 ?_; refine WR_w 4 ?_; refine WR_w 5 ?_; refine WR_w 6 ?_)
      refine WR_w 7 ?_ (he := EV_loadc rfl (by repeat (first | exact Fnd.here | refine Fnd.there ?_)) (co_nth hFl hv))
      (refine WR_w 8 ?_; refine WR_w 11 ?_; refine WR_w 12 ?_)
      (refine WR_one 9 (by kernel_rfl) rfl rfl ?_)
      refine OW_buildSlice (cs := ivn [i]) rfl (by rfl) (by simp [fillL, patch, Value.cells, zeros]; rfl) (by omega) rfl rfl (fun bs => ?_)
      refine ⟨iC, ?_⟩
      (refine WR_one 10 (by kernel_rfl) rfl rfl ?_)
      refine OW_append rfl rfl ho (sl_cells (c := (ivn [i]).toArray) (xs := ivn [i]) (m := 1) Fnd.here rfl (by simp)) (by repeat (first | exact Zip.here _ | apply Zip.there)) rfl ivn_ones (by omega) (by simp [maxLen]; omega) rfl (fun v' C' ho' _ _ => ?_)
      refine ⟨iC, ?_⟩
      (refine WR_w 13 ?_)
      (refine WR_last 14 (by kernel_rfl) rfl rfl rfl ?_)
      refine OW_storeTo (Fv ++ (vs.set x v' ++ [.int .i64 (kS l : Int)])) rfl rfl (ow_one ho') (co_set hFl (by rw [hx2.lv]; omega)) iU (by rw [List.length_append, List.length_append, hFl, hx2.lv]; simp; omega) ?_
      (refine WR_done (by kernel_rfl) ?_)
      (repeat' first|refine kX ?_|refine kU fun bk=>?_|refine kV fun hc=>?_|refine kZ (fun hc=>?_) fun hc=>?_|fail)
      refine WQ_round (X := Nat × List Value × List Chunk) (μ := fun x => ls.length - x.1) (x := (i, vs, Cs)) (i + 1, vs.set x v', Cs.set x C') (by simp only; omega) ⟨by simp only; omega, hstep hx0 (by omega) ho'⟩ iS (fun w h => ?_)
      have h2 := (iC : Inc ([(p, cl (Fv ++ (vs.set x v' ++ [.int .i64 (kS l : Int)])) 77)] :: D1 :: C' :: D2 :: [(b4, cl tv 68)] :: L) _).holds h
      simp only [hfl2]
      simpa [Holds, List.append_assoc] using h2
    · have hx0 : x = 0 := by omega
      refine WQ_round (X := Nat × List Value × List Chunk) (μ := fun x => ls.length - x.1) (x := (i, vs, Cs)) (i + 1, vs, Cs) (by simp only; omega) ⟨by simp only; omega, hskip hx0⟩ iS (fun w h => h)
  · have hie : i = l.length := by omega
    rw [hie] at hx2
    first | refine WQ_retH rfl rfl ?_ | refine WQ_endH rfl rfl ?_
    refine ⟨(_ :: L), fun w h => ?_, .inr ⟨h0, p, _, rfl, rfl, vs, Cs, rfl, by rw [← hll]; exact hx2⟩⟩
    rw [← hll, hco]
    have h2 := (iC : Inc ([(p, cl (Fv ++ (vs ++ [.int .i64 (kS l : Int)])) 77)] :: Cs.flatten :: L) _).holds h
    exact Holds.split.2 h2
end Go.Proofs.Ytbdpjbmfhnbheaa
namespace Go.Hf
set_option linter.all false
def far (l : List Nat) (n v i : Nat) : Bool := decide (n < l.getD i 0) && cd l i / 2 ^ (l.getD i 0 - n) == v
def hv (w t : Nat) : Nat → Nat
  | 0 => 0
  | n + 1 => 2 * hv w t n + w / 2 ^ (t + n) % 2
end Go.Hf
namespace Go.Vx
open Go
set_option linter.all false
variable [W0]
theorem ow_word {e m : Nat} {v : Value} {xs : List Nat} {C : Chunk} (h : Ow e 1 v m (wnv xs) C) {k : Nat} (hk : k < m) :
    ∃ b cap rest, v = .slice (some ⟨b, 0, none⟩) m cap ∧ C = [(b, cl (wnv xs ++ rest) e)] ∧ (wnv xs ++ rest).toArray[k * 1]? = some (.int .u32 (xs.getD k 0 : Int)) := by
  rcases h with ⟨rfl, rfl, _⟩ | ⟨b, cap, rest, rfl, rfl, hxl, hrl, hmc, hcm⟩
  · omega
  · refine ⟨b, cap, rest, rfl, rfl, ?_⟩
    have hlt : k < xs.length := by rw [wnv_length] at hxl; omega
    rw [Nat.mul_one]
    simpa using getE_app (r := rest) (wnv_get (l := xs) (i := k) (n := xs.getD k 0) (by simp [List.getD, hlt]))
end Go.Vx
namespace Go.Proofs.Ytbdpjbmfhnbheaa
open Go Go.Vx Go.Hf
variable [W0]
set_option maxRecDepth 4000
set_option linter.all false
set_option maxHeartbeats 8000000 in
theorem codesL_n (a : Option Addr) (c : Nat) (ls : List Int) (L : List Chunk) (h : Sl L 1 (.slice a ls.length c) ls.length (intsN ls)) (hl : ls.length ≤ 17592186044416) :
    GvP Try.prog 4 [.slice a ls.length c].toArray L (.bool true) := by
  refine Gv.of_body Try.func4 rfl rfl ?_
  (repeat' first|refine kW ?_|refine kU fun bk=>?_|refine kV fun hc=>?_|refine kZ (fun hc=>?_) fun hc=>?_|fail)
  refine OW_call rfl rfl rfl (hcodes_n a c ls L h hl) rfl (fun r L' hp => ?_)
  obtain ⟨u, C, rfl, rfl, ho⟩ := hp
  obtain ⟨ua, uc, rfl⟩ := ow_slc ho
  (repeat' first|refine kW ?_|refine kU fun bk=>?_|refine kV fun hc=>?_|refine kZ (fun hc=>?_) fun hc=>?_|fail)
  refine OW_call rfl rfl rfl (refcodes_n a c ls (C :: L) (sl_there h) hl) rfl (fun r L' hp => ?_)
  obtain ⟨v, D, rfl, rfl, hv⟩ := hp
  obtain ⟨va, vc, rfl⟩ := ow_slc hv
  (repeat' first|refine kW ?_|refine kU fun bk=>?_|refine kV fun hc=>?_|refine kZ (fun hc=>?_) fun hc=>?_|fail)
  refine OW_call rfl rfl rfl (hnew_n a c ls (D :: C :: L) (sl_there (sl_there h)) hl) rfl (fun r L' hp => ?_)
  have hcb : (cdL ls).length ≤ 400 := by
    by_cases he : cdE ls = 0
    · have h1 := (cdE_inv he).1
      have e : cdL ls = cds (nl ls) := if_pos he
      rw [e]
      simp [cds, nl]
      exact h1
    · have e : cdL ls = [] := if_neg he
      rw [e]; decide
  have hct := fun L' h' => hcomplete_n a c ls L' h' hl
  have hrt := fun L' h' => complete_n a c ls L' h' hl
  rcases hp with ⟨he, rfl, rfl⟩ | ⟨he, p, E, rfl, rfl, hE⟩
  · have hb : ((cdE ls : Int) != 0) = true := by simp; omega
    ((repeat' first|refine kW ?_|refine kU fun bk=>?_|refine kV fun hc=>?_|refine kZ (fun hc=>?_) fun hc=>?_|fail) <;> try exact absurd trivial hc)
    · exact absurd (by rw [hb]; rfl) hc
    refine OW_callP rfl rfl rfl (hct _ (sl_there (sl_there h))) rfl ?_
    (repeat' first|refine kW ?_|refine kU fun bk=>?_|refine kV fun hc=>?_|refine kZ (fun hc=>?_) fun hc=>?_|fail)
    refine OW_callP rfl rfl rfl (hrt _ (sl_there (sl_there h))) rfl ?_
    (repeat' first|refine kW ?_|refine kU fun bk=>?_|refine kV fun hc=>?_|refine kZ (fun hc=>?_) fun hc=>?_|fail)
    refine WC_loop (X := Nat) (fun i => [(3, .slice ua (cdL ls).length uc), (5, .slice va (cdL ls).length vc), (9, .int .i64 (i : Int))]) (fun i => D :: C :: L) (fun i => i ≤ (cdL ls).length) (fun i => (cdL ls).length - i) 0 (Nat.zero_le _) iS (fun w h => h) ?_
    intro i hi
    (repeat' first|refine kW ?_|refine kU fun bk=>?_|refine kV fun hc=>?_|refine kZ (fun hc=>?_) fun hc=>?_|fail)
    · have hlt : i < (cdL ls).length := by omega
      obtain ⟨b1, c1, r1, hv1, hC1, hg1⟩ := ow_word ho hlt
      obtain ⟨b2, c2, r2, hv2, hC2, hg2⟩ := ow_word hv hlt
      injection hv1 with e1 e2 e3
      injection hv2 with e4 e5 e6
      subst e1 e3 e4 e6 hC1 hC2
      refine WC_drawAll [] mixed ?_
      (refine WR_t 0 ?_; refine WR_t 1 ?_)
      (refine WR_take 2 rfl rfl (by kernel_rfl) iP iC (EV_indexAddr0 (j := i) rfl rfl rfl hlt) (by rfl) ?_)
      (refine WR_take 3 rfl rfl (by kernel_rfl) iP iC (EV_load rfl (by exact Fnd.there Fnd.here) hg1) (by rfl) ?_)
      (refine WR_t 4 ?_; refine WR_t 5 ?_)
      (refine WR_take 6 rfl rfl (by kernel_rfl) iP iC (EV_indexAddr0 (j := i) rfl rfl rfl hlt) (by rfl) ?_)
      (refine WR_take 7 rfl rfl (by kernel_rfl) iP iC (EV_load rfl (by exact Fnd.here) hg2) (by rfl) ?_)
      (refine WR_t 8 ?_)
      (refine WR_done (by kernel_rfl) ?_)
      (repeat' first|refine kW ?_|refine kU fun bk=>?_|refine kV fun hc=>?_|refine kZ (fun hc=>?_) fun hc=>?_|fail)
      refine WQ_round (X := Nat) (μ := fun i => (cdL ls).length - i) (x := i) (i + 1) (by omega) (by omega) iS (fun w h => h)
    · refine OW_callP rfl rfl rfl (hawake_n _) rfl ?_
      (repeat' first|refine kW ?_|refine kU fun bk=>?_|refine kV fun hc=>?_|refine kZ (fun hc=>?_) fun hc=>?_|fail)
      refine kR ?_
      exact ⟨L, iC, rfl, rfl⟩
  · have hb : ((cdE ls : Int) != 0) = false := by simp; omega
    ((repeat' first|refine kW ?_|refine kU fun bk=>?_|refine kV fun hc=>?_|refine kZ (fun hc=>?_) fun hc=>?_|fail) <;> try exact absurd trivial hc)
    · exact absurd (by rw [hb]; rfl) hc
    refine OW_callP rfl rfl rfl (hct _ (sl_there (sl_there (sl_there h)))) rfl ?_
    (repeat' first|refine kW ?_|refine kU fun bk=>?_|refine kV fun hc=>?_|refine kZ (fun hc=>?_) fun hc=>?_|fail)
    refine OW_callP rfl rfl rfl (hrt _ (sl_there (sl_there (sl_there h)))) rfl ?_
    (repeat' first|refine kW ?_|refine kU fun bk=>?_|refine kV fun hc=>?_|refine kZ (fun hc=>?_) fun hc=>?_|fail)
    refine WC_loop (X := Nat) (fun i => [(3, .slice ua (cdL ls).length uc), (5, .slice va (cdL ls).length vc), (9, .int .i64 (i : Int))]) (fun i => E :: D :: C :: L) (fun i => i ≤ (cdL ls).length) (fun i => (cdL ls).length - i) 0 (Nat.zero_le _) iS (fun w h => h) ?_
    intro i hi
    (repeat' first|refine kW ?_|refine kU fun bk=>?_|refine kV fun hc=>?_|refine kZ (fun hc=>?_) fun hc=>?_|fail)
    · have hlt : i < (cdL ls).length := by omega
      obtain ⟨b1, c1, r1, hv1, hC1, hg1⟩ := ow_word ho hlt
      obtain ⟨b2, c2, r2, hv2, hC2, hg2⟩ := ow_word hv hlt
      injection hv1 with e1 e2 e3
      injection hv2 with e4 e5 e6
      subst e1 e3 e4 e6 hC1 hC2
      refine WC_drawAll [] mixed ?_
      (refine WR_t 0 ?_; refine WR_t 1 ?_)
      (refine WR_take 2 rfl rfl (by kernel_rfl) iP iC (EV_indexAddr0 (j := i) rfl rfl rfl hlt) (by rfl) ?_)
      (refine WR_take 3 rfl rfl (by kernel_rfl) iP iC (EV_load rfl (by exact Fnd.there (Fnd.there Fnd.here)) hg1) (by rfl) ?_)
      (refine WR_t 4 ?_; refine WR_t 5 ?_)
      (refine WR_take 6 rfl rfl (by kernel_rfl) iP iC (EV_indexAddr0 (j := i) rfl rfl rfl hlt) (by rfl) ?_)
      (refine WR_take 7 rfl rfl (by kernel_rfl) iP iC (EV_load rfl (by exact Fnd.there Fnd.here) hg2) (by rfl) ?_)
      (refine WR_t 8 ?_)
      (refine WR_done (by kernel_rfl) ?_)
      (repeat' first|refine kW ?_|refine kU fun bk=>?_|refine kV fun hc=>?_|refine kZ (fun hc=>?_) fun hc=>?_|fail)
      refine WQ_round (X := Nat) (μ := fun i => (cdL ls).length - i) (x := i) (i + 1) (by omega) (by omega) iS (fun w h => h)
    · refine OW_callP rfl rfl rfl (hawake_n _) rfl ?_
      (repeat' first|refine kW ?_|refine kU fun bk=>?_|refine kV fun hc=>?_|refine kZ (fun hc=>?_) fun hc=>?_|fail)
      refine kR ?_
      exact ⟨L, iC, rfl, rfl⟩
end Go.Proofs.Ytbdpjbmfhnbheaa
namespace Go.Proofs.Ytbdpjbmfhnbheaa
open Go Go.Vx Go.ChangeShapes Go.WideShapes Go.ChangeAt Go.RowKit
set_option maxRecDepth 4000
set_option linter.all false
def blks (W : World) : Chunk := W.heap.toList.zipIdx.map fun x => (x.2, x.1)
theorem blks_mem {W : World} {b : Nat} {o : Obj} : (b, o) ∈ blks W ↔ W.heap[b]? = some o := by
  unfold blks
  rw [List.mem_map]
  constructor
  · rintro ⟨⟨x, i⟩, hm, he⟩
    simp at he
    obtain ⟨rfl, rfl⟩ := he
    have := List.mk_mem_zipIdx_iff_getElem?.1 hm
    simpa using this
  · intro h
    exact ⟨(o, b), List.mk_mem_zipIdx_iff_getElem?.2 (by simpa using h), rfl⟩
theorem blks_keys (W : World) : ((blks W).map Prod.fst).Nodup := by
  have : (blks W).map Prod.fst = List.range' 0 W.heap.toList.length := by
    unfold blks
    rw [List.map_map]
    exact List.zipIdx_map_snd 0 _
  rw [this]
  exact List.nodup_range'
structure Kept (W W' : World) : Prop where
  os : W'.os = W.os
  output : W'.output = W.output
  block : ∀ k, k < W.heap.size → W'.heap[k]? = W.heap[k]?
theorem bridge {P : Program} {f : FuncId} {args : Array Value} {W : World} {v : Value} (h : ∀ [W0], GvP P f args [blks W] v) : Calls P f args W fun e W' => e = .returned v ∧ Kept W W' := by
  letI i : W0 := ⟨W.os, W.output⟩
  have h0 : GvP P f args [blks W] v := h
  have hH : Holds W [blks W] := ⟨by simpa using blks_keys W, fun x hx => blks_mem.1 (by simpa using hx), rfl, rfl⟩
  refine (h0.out W hH).mono fun e W' he => ?_
  obtain ⟨v', L', rfl, ⟨rfl, rfl⟩, hw⟩ := he
  refine ⟨rfl, hw.2.2.1, hw.2.2.2, fun k hk => ?_⟩
  have hm : W.heap[k]? = some W.heap[k] := by simp [hk]
  rw [hm]
  exact hw.2.1 (k, W.heap[k]) (by simpa using blks_mem.2 hm)
theorem Kept.frame {W W' : World} (h : Kept W W') (may : MemPlace → Prop) : W.keptBut W' may := by
  refine ⟨h.os, h.output, fun i hi => ?_⟩
  rw [h.block i hi]
  split <;> simp_all
theorem Kept.same {W W' : World} (h : Kept W W') {p : MemPlace} (hp : p.block < W.heap.size) : W.sameAt W' p := by
  cases p with
  | cell b o => exact World.cell?_of_block (w := W) (h.block b hp)
  | map b => exact h.block b hp
theorem Kept.trod {H : Type} {enc : TypeId × Value → H} {P : Program} {t : TypeId} (hl : laidOutB P = true) (hr : P.readableRec t = true) (hrow : t < P.types.size) {W W' : World} {v : Value} {d : DataW H} {ps : List MemPlace}
    (h : DataW.Trod enc P W 0 (fun _ => true) true t v d ps) (hb : Kept W W') (hlt : ∀ x ∈ ps, x.block < W.heap.size) :
    DataW.Trod enc P W' 0 (fun b => decide (b < W.heap.size)) true t v d ps :=
  WideElems.Trod_stays hl hr hrow h (fun x hx => hb.same (hlt x hx)) (fun x hx => by simpa using hlt x hx)
theorem bulk_lits {H : Type} (k : IntKind) : ∀ xs : List Int, Rows.uptoBulkAll (H := H) (lits k xs) = xs.length
  | [] => rfl
  | x :: r => by
    have := bulk_lits (H := H) k r
    simp only [lits, List.map_cons, Rows.uptoBulkAll, Rows.uptoBulk, List.length_cons] at *
    omega
theorem open_row {H : Type} {enc : TypeId × Value → H} {P : Program} {W : World} {t e : TypeId} {k : IntKind} {a : Option Addr} {len cap : Nat} {d : DataW H} {ps : List MemPlace} (ht : P.underlying t = some (.slice e)) (he : P.underlying e = some (.int k)) (hc : P.cellsOf e = 1)
    (h : DataW.Trod enc P W 0 (fun _ => true) true t (.slice a len cap) d ps) :
    ∃ xs : List Int, xs.length = len ∧ (∀ n ∈ xs, (Lit.int k n).wf = true) ∧ Sl [blks W] 1 (.slice a len cap) len (xs.map (Value.int k)) ∧ len ≤ Rows.uptoBulk d := by
  letI : W0 := ⟨W.os, W.output⟩
  obtain ⟨fuel, hf⟩ := h
  rcases open_ints ht he hc hf with ⟨hcs, _⟩ | ⟨x, l, c, zs, hcs, _, hl, hm, hz, hx, hcell, hwz⟩
  · simp [Value.cells] at hcs
    obtain ⟨rfl, rfl, rfl⟩ := hcs
    exact ⟨[], rfl, fun n h => by simp at h, .inl ⟨0, rfl, rfl, rfl⟩, Nat.zero_le _⟩
  · simp [Value.cells] at hcs
    obtain ⟨rfl, rfl, rfl⟩ := hcs
    have hzl : zs.length = cap := by simpa using hz
    have hd : d = .slice (lits k (zs.take len)) (lits k (zs.drop len)) := by injection hx
    refine ⟨zs.take len, by simp; omega, fun n hn => hwz n (List.mem_of_mem_take hn), ?_, ?_⟩
    · refine .inr ⟨x, cap, rfl, ?_, by simp; omega⟩
      rcases Nat.eq_zero_or_pos len with h0 | h0
      · subst h0; exact .inl (by simp)
      · have hc0 := hcell 0 (by omega)
        obtain ⟨b, off, spot⟩ := x
        have hspot : spot = none := by simpa [Addr.add] using World.cell?_spot hc0
        subst hspot
        have hblk : ∃ C T fr, W.heap[b]? = some (.cells C T fr) := by
          have : (⟨b, off, none⟩ : Addr).add 0 = ⟨b, off, none⟩ := by simp [Addr.add]
          rw [this] at hc0
          unfold World.cell? at hc0
          split at hc0
          · rename_i C T fr hb; exact ⟨C, T, fr, hb⟩
          · cases hc0
        obtain ⟨C, T, fr, hb⟩ := hblk
        refine .inr ⟨b, off, C, T, fr, rfl, by simpa [Fnd] using blks_mem.2 hb, fun j u hj => ?_⟩
        have hjl : j < len := by
          rcases Nat.lt_or_ge j len with h' | h'
          · exact h'
          · rw [List.getElem?_eq_none (by simp; omega)] at hj; simp at hj
        have hcj := hcell j (by omega)
        rw [addr_add, cell_of hb] at hcj
        rw [hcj, ← hj]
        simp [List.getElem?_take, hjl, List.getD, List.getElem?_eq_getElem (show j < zs.length by omega)]
    · rw [hd]
      simp only [Rows.uptoBulk, bulk_lits, List.length_take]
      omega
theorem Try.own : ownKnob Try.prog.godebug = none := by kernel_rfl
theorem Try.laidOut : laidOutB Try.prog = true := by kernel_rfl
end Go.Proofs.Ytbdpjbmfhnbheaa
namespace Go.Proofs.Ytbdpjbmfhnbheaa
open Go Go.Vx Go.ChangeShapes Go.WideShapes Go.ChangeAt Go.RowKit
set_option maxRecDepth 4000
set_option linter.all false
theorem open_intr {H : Type} {enc : TypeId × Value → H} {P : Program} {W : World} {t e : TypeId} {a : Option Addr} {len cap : Nat} {d : DataW H} {ps : List MemPlace} (ht : P.underlying t = some (.slice e)) (he : P.underlying e = some (.int .i64)) (hc : P.cellsOf e = 1)
    (h : DataW.Trod enc P W 0 (fun _ => true) true t (.slice a len cap) d ps) :
    ∃ xs : List Int, xs.length = len ∧ (Sl [blks W] 1 (.slice a len cap) len (intsN xs) ∧ ∀ n ∈ xs, (Lit.int .i64 n).wf = true) ∧ len ≤ Rows.uptoBulk d ∧ (len = 0 ∨ ∃ el sp, d = .slice el sp ∧ el.length = len) := by
  have hx : len = 0 ∨ ∃ el sp, d = .slice el sp ∧ el.length = len := by
    obtain ⟨fuel, hf⟩ := h
    rcases open_ints ht he hc hf with ⟨hcs, _⟩ | ⟨x, l, c, zs, hcs, _, hl, hm, hz, hx, hcell, hwz⟩
    · simp [Value.cells] at hcs
      obtain ⟨rfl, rfl, rfl⟩ := hcs
      exact .inl rfl
    · simp [Value.cells] at hcs
      obtain ⟨rfl, rfl, rfl⟩ := hcs
      have hzl : zs.length = cap := by simpa using hz
      have hd : d = .slice (lits .i64 (zs.take len)) (lits .i64 (zs.drop len)) := by injection hx
      exact .inr ⟨_, _, hd, by simp [lits]; omega⟩
  obtain ⟨xs, h1, h2, h3, h4⟩ := open_row ht he hc h
  exact ⟨xs, h1, ⟨h3, h2⟩, h4, hx⟩
theorem reach_of8 {H : Type} {P : Program} {ts : List TypeId} {ds : List (DataW H)} (h : (DataW.weightsEach P ts ds).all (· ≤ reachBytes) = true) {j : Nat} {t e : TypeId} {d : DataW H} {len : Nat} (ht : ts[j]? = some t) (hd : ds[j]? = some d) (hu : P.underlying t = some (.slice e)) (hb : P.bytesOf e = 8)
    (hl : len = 0 ∨ ∃ el sp, d = .slice el sp ∧ el.length = len) : len ≤ 17592186044416 := by
  rcases hl with rfl | ⟨el, sp, rfl, rfl⟩
  · omega
  · have := sized_slice h ht hd hu
    rw [hb] at this
    simp [reachBytes] at this
    omega
end Go.Proofs.Ytbdpjbmfhnbheaa
namespace Go.Proofs.Ytbdpjbmfhnbheaa
open Go Go.Vx Go.ChangeShapes Go.WideShapes Go.ChangeAt Go.RowKit
set_option linter.all false
set_option maxRecDepth 4000
theorem top_row (H : Type) (enc : TypeId × Value → H) (W : World) (base : Nat) (args : Array Value) (ds gs : List (DataW H)) (before : List MemPlace)
    (hval : ∀ (j : Nat) t v, Try.f4.params[j]? = some t → args[j]? = some v → Value.okWide Try.prog W .any base t v)
    (hW : DataW.Whole enc Try.prog Try.f4.params.toList Rows.huffCodesSpec.vars false W args.toList ds gs before)
    (hz : (DataW.weightsEach Try.prog (Try.f4.params.toList ++ Rows.huffCodesSpec.plain.varTypes Try.prog) (ds ++ gs)).all (· ≤ reachBytes) = true) (hL : laidMetH Try.prog [] W) :
    Calls Try.prog 4 args W fun e W' => ∃ v, e = .returned v ∧ Rows.huffCodesSpec.post enc Try.prog Try.f4 false true false false W args v W' := by
  have hW' := hW
  obtain ⟨p, q, hA0, hV, rfl, hfz, hnd⟩ := hW
  have hA : DataW.TrodAll enc Try.prog W 0 (fun _ => true) true Try.f4.params.toList args.toList ds p := hA0
  rw [Try.params4] at hA hval hz
  obtain ⟨v0, vs0, d0, ds0, p0, q0, hargs, rfl, rfl, h0, r0⟩ := trodAll_cons hA
  obtain ⟨rfl, rfl, rfl⟩ := trodAll_nil r0
  obtain rfl : args = #[v0] := by cases args; simp_all
  obtain ⟨rfl, rfl⟩ := trodVars_none hV
  obtain ⟨a0, l0, c0, rfl⟩ := okWide_slice Try.underlying23 (hval 0 _ v0 rfl rfl)
  obtain ⟨x0, e0, ⟨s0, w0⟩, b0, g0⟩ := open_intr Try.underlying23 Try.underlying3 (by kernel_rfl) h0
  have r0 : l0 ≤ 17592186044416 := reach_of8 hz (j := 0) rfl rfl Try.underlying23 (by kernel_rfl) g0
  clear hA0
  have lt0 : ∀ x ∈ p0, x.block < W.heap.size := by obtain ⟨m, hm⟩ := h0; exact DataW.trod_lt m _ _ _ hm
  have hc : Calls Try.prog 4 #[.slice a0 l0 c0] W fun e W' => e = .returned (.bool true) ∧ Kept W W' := by
    refine bridge (fun {i} => ?_)
    subst e0
    exact codesL_n a0 c0 x0 _ s0 r0
  refine hc.mono fun e W' ⟨he, bel⟩ => ?_
  subst he
  exact ⟨_, rfl, _, _, _, [], _, [], hW', trodAll_mk1 (shut_bool Try.underlying4 _), (trodAll_cons_mk (Kept.trod Try.laidOut (by kernel_rfl) (of_decide_eq_true (by kernel_rfl)) h0 bel lt0) trodAll_mk0), rfl, bel.frame _, fun h => by cases h⟩
theorem reads (os : Os) {H : Type} (enc : TypeId × Value → H) : ∃ places, DataW.whole enc Try.prog ((World.holding Try.prog os ⟨#[], #[], []⟩).forCall (fun _ _ => 0) ⟨#[], #[.slice none 0 0], []⟩).memory Try.f4.params.toList Rows.huffCodesSpec.vars false #[.slice none 0 0].toList 8 = some ([.nil], [], places) :=
  ⟨[], by kernel_rfl⟩
set_option maxRecDepth 100000 in
theorem top_lifted (os : Os) (started : os.Started) (H : Type) (enc : TypeId × Value → H) (F : Stop.Interp) :
    ReturnsInHanded {} Try.checked os 4 .any ((OpenSpec.ofChange Rows.huffCodesSpec).preRow enc Try.prog Try.f4 Rows.huffCodesRow.domain false Rows.huffCodesRow.laid) (((OpenSpec.ofChange Rows.huffCodesSpec).at F).post enc Try.prog Try.f4 false true false false) := by
  obtain ⟨places, hx⟩ := reads os enc
  refine returnsInHanded_of_row (C := Try.checked) (s := (OpenSpec.ofChange Rows.huffCodesSpec)) Try.own started (by kernel_rfl) Try.func4
    (witness_row_at (enc := enc) (C := Try.checked) false (World.holding Try.prog os ⟨#[], #[], []⟩) #[.slice none 0 0] rfl (by kernel_rfl) (by kernel_rfl) (by kernel_rfl)
      (OpenSpec.preRow_of_cond 8 hx (by kernel_rfl) (fun k hk => by cases hk) (by kernel_rfl) (laidMet_of_run' 8 (by kernel_rfl) (by kernel_rfl)))) ?_
  intro W base args ds gs before hval hW _ hcond hz hL _ _
  exact top_row H enc W base args ds gs before hval hW hz hL
theorem top_over : Rows.HuffCodesSaid :=
  OpenClaim.holds_of_cond 4 Try.f4 rfl rfl rfl rfl rfl rfl rfl ⟨rfl, rfl, rfl, rfl, rfl⟩ rfl rfl rfl rfl rfl (by kernel_rfl) Try.func4 (by kernel_rfl)
    (of_decide_eq_true (by kernel_rfl)) (by unfold Func.isWrapper; first | (rw [if_pos (by decide +kernel)]; kernel_rfl) | (rw [if_neg (by decide +kernel)]; exact ⟨rfl, rfl⟩))
    (fun os started H enc _ F => by rw [OpenClaim.pre_eq_preRow]; exact top_lifted os started H enc F)
theorem top_holds : Rows.HuffCodesSaid := top_over
end Go.Proofs.Ytbdpjbmfhnbheaa
