/- Package huff: a code for reading. It proves no statement by itself. No conditions. -/
import Derived.Test.YtkiaegkojlhaeaaDoorZb
import Derived.Test.YtkiaegkojlhaeaaDoorWd
namespace Go.Hf
set_option linter.all false
/-- The symbols of a length, of the first i. -/
def smb (l : List Nat) (i n : Nat) : List Nat := (List.range i).filter fun j => l.getD j 0 == n && decide (0 < n)
theorem smb_succ (l : List Nat) (i n : Nat) : smb l (i + 1) n = smb l i n ++ (if l.getD i 0 = n ∧ 0 < n then [i] else []) := by
  unfold smb
  rw [List.range_succ, List.filter_append]
  congr 1
  by_cases h : l.getD i 0 = n ∧ 0 < n
  · rw [if_pos h, List.filter_cons, if_pos (by simp only [Bool.and_eq_true, beq_iff_eq, decide_eq_true_eq]; exact h)]; rfl
  · rw [if_neg h, List.filter_cons, if_neg (by simp only [Bool.and_eq_true, beq_iff_eq, decide_eq_true_eq]; exact h)]; rfl
theorem smb_le (l : List Nat) (i n : Nat) : (smb l i n).length ≤ i := by
  have := List.length_filter_le (fun j => l.getD j 0 == n && decide (0 < n)) (List.range i)
  rw [List.length_range] at this
  exact this
theorem smb_length {l : List Nat} {n : Nat} (h0 : 0 < n) : ∀ {i : Nat}, i ≤ l.length → (smb l i n).length = cn (l.take i) n
  | 0, _ => by simp [smb, cn]
  | i + 1, hi => by
    rw [smb_succ, List.length_append, smb_length h0 (by omega), cn_take_succ (by omega)]
    congr 1
    by_cases h : l.getD i 0 = n
    · rw [if_pos ⟨h, h0⟩, if_pos h]; rfl
    · rw [if_neg (fun hh => h hh.1), if_neg h]; rfl
theorem smb_app (l : List Nat) (n i : Nat) : ∀ k, ∃ r, smb l (i + k) n = smb l i n ++ r
  | 0 => ⟨[], by simp⟩
  | k + 1 => by
    obtain ⟨r, hr⟩ := smb_app l n i k
    rw [show i + (k + 1) = (i + k) + 1 from rfl, smb_succ, hr, List.append_assoc]
    exact ⟨_, rfl⟩
theorem smb_get {l : List Nat} {n i : Nat} (hi : l[i]? = some n) (h0 : 0 < n) : (smb l l.length n)[cn (l.take i) n]? = some i := by
  have hlt : i < l.length := (List.getElem?_eq_some_iff.1 hi).1
  have hg : l.getD i 0 = n := by simp [List.getD, hi]
  obtain ⟨r, hr⟩ := smb_app l n (i + 1) (l.length - (i + 1))
  rw [show i + 1 + (l.length - (i + 1)) = l.length from by omega] at hr
  rw [hr, smb_succ, if_pos ⟨hg, h0⟩, ← smb_length h0 (Nat.le_of_lt hlt)]
  simp
end Go.Hf
namespace Go.Proofs.YtkiaegkojlhaeaaDoor
open Go Go.Vx Go.Hf
variable [W0]
set_option maxRecDepth 4000
set_option linter.all false

omit [W0] in
/-- The lists of symbols, one a length. -/
structure SyR (l : List Nat) (i : Nat) (vs : List Value) (Cs : List Chunk) : Prop where
  lv : vs.length = 16
  lc : Cs.length = 16
  at_ : ∀ n, n < 16 → ∃ v C, vs[n]? = some v ∧ Cs[n]? = some C ∧ Ow 3 1 v (smb l i n).length (ivn (smb l i n)) C
theorem flat_set {α : Type} : ∀ {Cs : List (List α)} {n : Nat} {C : List α}, Cs[n]? = some C → ∃ D1 D2, Cs.flatten = D1 ++ (C ++ D2) ∧ ∀ C', (Cs.set n C').flatten = D1 ++ (C' ++ D2)
  | [], n, C, h => by simp at h
  | D :: r, 0, C, h => by
    simp at h
    subst h
    exact ⟨[], r.flatten, by simp, fun C' => by simp⟩
  | D :: r, n + 1, C, h => by
    simp at h
    obtain ⟨D1, D2, h1, h2⟩ := flat_set h
    exact ⟨D ++ D1, D2, by simp [h1], fun C' => by simp [h2]⟩
theorem SyR.new (l : List Nat) : SyR l 0 (List.replicate 16 (.slice none 0 0)) (List.replicate 16 []) := by
  refine ⟨by simp, by simp, fun n hn => ⟨_, _, ?_, ?_, .inl ⟨rfl, rfl, rfl, rfl⟩⟩⟩
  · rw [List.getElem?_replicate, if_pos hn]
  · rw [List.getElem?_replicate, if_pos hn]
theorem SyR.step {l : List Nat} {i : Nat} {vs : List Value} {Cs : List Chunk} (h : SyR l i vs Cs) {v' : Value} {C' : Chunk} (h0 : 0 < l.getD i 0) (h15 : l.getD i 0 < 16)
    (ho : Ow 3 1 v' ((smb l i (l.getD i 0)).length + 1) (ivn (smb l i (l.getD i 0)) ++ ivn [i]) C') : SyR l (i + 1) (vs.set (l.getD i 0) v') (Cs.set (l.getD i 0) C') := by
  refine ⟨by rw [List.length_set]; exact h.lv, by rw [List.length_set]; exact h.lc, fun n hn => ?_⟩
  by_cases he : l.getD i 0 = n
  · subst he
    refine ⟨v', C', List.getElem?_set_self (by rw [h.lv]; exact hn), List.getElem?_set_self (by rw [h.lc]; exact hn), ?_⟩
    rw [smb_succ, if_pos ⟨rfl, h0⟩, List.length_append]
    have e : ivn (smb l i (l.getD i 0) ++ [i]) = ivn (smb l i (l.getD i 0)) ++ ivn [i] := by simp [ivn]
    rw [e]
    exact ho
  · obtain ⟨v, C, h1, h2, h3⟩ := h.at_ n hn
    refine ⟨v, C, by rw [List.getElem?_set_ne he]; exact h1, by rw [List.getElem?_set_ne he]; exact h2, ?_⟩
    rw [smb_succ, if_neg (fun hh => he hh.1), List.append_nil]
    exact h3
theorem SyR.skip {l : List Nat} {i : Nat} {vs : List Value} {Cs : List Chunk} (h : SyR l i vs Cs) (h0 : l.getD i 0 = 0) : SyR l (i + 1) vs Cs := by
  refine ⟨h.lv, h.lc, fun n hn => ?_⟩
  obtain ⟨v, C, h1, h2, h3⟩ := h.at_ n hn
  refine ⟨v, C, h1, h2, ?_⟩
  rw [smb_succ, if_neg (fun hh => by omega), List.append_nil]
  exact h3
omit [W0] in
/-- The cells of a code. -/
def coC (l : List Nat) (vs : List Value) : List Value := wnv (fsl l 16) ++ (vs ++ [.int .i64 (kS l : Int)])
omit [W0] in
/-- A code lies at p. -/
def CoD (l : List Nat) (p : Nat) (C : Chunk) : Prop := ∃ vs Cs, C = [(p, cl (coC l vs) 120)] ++ Cs.flatten ∧ SyR l l.length vs Cs

theorem co_build (Fv : List Value) (h : Fv.length = 16) (k : Int) : fillL [(0, 16), (16, 16), (32, 1)] (wnv zI ++ (List.replicate 16 (.slice none 0 0) ++ [.int .i64 0])) [(0, .agg Fv.toArray), (2, .int .i64 k)] = some (Fv ++ (List.replicate 16 (.slice none 0 0) ++ [.int .i64 k])) := by
  have e : (wnv zI).length = 16 := by decide
  have p1 : patch (wnv zI ++ (List.replicate 16 (Value.slice none 0 0) ++ [.int .i64 0])) 0 Fv = Fv ++ (List.replicate 16 (.slice none 0 0) ++ [.int .i64 0]) := by
    unfold patch
    rw [Nat.zero_add, h, ← e, List.drop_left]
    simp
  have p2 : patch (Fv ++ (List.replicate 16 (Value.slice none 0 0) ++ [.int .i64 0])) 32 [.int .i64 k] = Fv ++ (List.replicate 16 (.slice none 0 0) ++ [.int .i64 k]) := by
    unfold patch
    rw [List.take_append, List.drop_append, h]
    rw [List.take_of_length_le (by omega), List.drop_of_length_le (by simp; omega)]
    simp
  have c1 : (Value.agg Fv.toArray).cells.toList = Fv := rfl
  have c2 : (Value.int .i64 k).cells.toList = [.int .i64 k] := rfl
  unfold fillL
  simp only [List.getElem?_cons_zero]
  rw [if_pos (by refine ⟨by rw [← Array.length_toList, c1, h], by simp [e]⟩), c1, p1]
  unfold fillL
  simp only [List.getElem?_cons_succ, List.getElem?_cons_zero]
  rw [if_pos (by refine ⟨rfl, by simp [h]⟩), c2, p2]
  rfl
theorem ow_one {e m : Nat} {v : Value} {xs : List Value} {C : Chunk} (h : Ow e 1 v m xs C) : v.oneCell' = true := by
  rcases h with ⟨rfl, _⟩ | ⟨b, cap, rest, rfl, _⟩ <;> rfl
theorem co_nth {Fv vs : List Value} {s v : Value} {x : Nat} (h : Fv.length = 16) (hv : vs[x]? = some v) : nth (Fv ++ (vs ++ [s])) (16 + x * 1) = some v := by
  have hlt := (List.getElem?_eq_some_iff.1 hv).1
  rw [nth_eq, Nat.mul_one, List.getElem?_append_right (by omega), h, show 16 + x - 16 = x from by omega, List.getElem?_append_left hlt]
  exact hv
theorem co_set {Fv vs : List Value} {s v : Value} {x : Nat} (h : Fv.length = 16) (hv : x < vs.length) : (Fv ++ (vs ++ [s])).set (16 + x * 1) v = Fv ++ (vs.set x v ++ [s]) := by
  rw [Nat.mul_one, List.set_append_right _ _ (by omega), h, show 16 + x - 16 = x from by omega, List.set_append_left _ _ hv]

set_option maxHeartbeats 4000000 in
theorem hnew_n (a : Option Addr) (c : Nat) (ls : List Int) (L : List Chunk) (h : Sl L 1 (.slice a ls.length c) ls.length (intsN ls)) (hl : ls.length ≤ 17592186044416) :
    Gv Tryd.prog 75 [.slice a ls.length c].toArray L (fun r L' => (cdE ls ≠ 0 ∧ r = .tuple #[.pointer none, .int .i64 (cdE ls : Int)] ∧ L' = L) ∨
      (cdE ls = 0 ∧ ∃ p C, r = .tuple #[.pointer (some ⟨p, 0, none⟩), .int .i64 0] ∧ L' = C :: L ∧ CoD (nl ls) p C)) := by
  refine Gv.of_body Tryd.func75 rfl rfl ?_
  have hno : cdE ls ≠ 0 → ∀ (M : List (Nat × Value)) (D : Chunk), lk M 2 = some (.pointer none) → lk M 3 = some (.int .i64 (cdE ls : Int)) →
      WQ Tryd.f75.ntmps (bodyPost Tryd.prog Tryd.f75 (fun e w' => ∃ v L', e = .returned v ∧ ((cdE ls ≠ 0 ∧ v = .tuple #[.pointer none, .int .i64 (cdE ls : Int)] ∧ L' = L) ∨
      (cdE ls = 0 ∧ ∃ p C, v = .tuple #[.pointer (some ⟨p, 0, none⟩), .int .i64 0] ∧ L' = C :: L ∧ CoD (nl ls) p C)) ∧ Holds w' L') .ret) M (D :: L) := by
    intro he M D h2 h3
    refine WQ_retH (rs := [.tmp 2, .tmp 3]) (vs := [.pointer none, .int .i64 (cdE ls : Int)]) rfl (by simp [resT, h2, h3]) ?_
    exact ⟨L, fun w hw => hw.drop, .inl ⟨he, rfl, rfl⟩⟩
  have ht := fun L' h' => checked_n a c ls L' h' hl
  have hf := fun L' (h0 : cdE ls = 0) => firsts_n (nl ls) L' (cdE_inv h0).2.2 (by rw [nl_length]; exact (cdE_inv h0).1)
  have hs := fun L' (h0 : cdE ls = 0) => share_n (nl ls) L' (by rw [nl_length]; exact hl) (fun x hx => okL_nl (cdE_inv h0).2.1 hx)
  have hte : cdE ls = 0 → ivn (tal (nl ls)) = ivn (talC ls) := fun h0 => by unfold talC; rw [if_pos h0]
  have htl : (ivn (talC ls)).length = 16 := by rw [ivn_length, talC_length]
  have hto : ones (ivn (talC ls)) = true := ivn_ones
  generalize ivn (tal (nl ls)) = sv at hf hte hs
  generalize ivn (talC ls) = tv at ht hte htl hto
  (repeat' (first | (show WL _ _ _ _ _ _ _; first | refine jA ?_ | refine jB ?_ | refine jC ?_ | refine jD ?_ | refine jE ?_ | refine jF ?_) | (show OW _ _ _ _ _ _; first | refine OW_W ?_ | refine jI ?_ | refine jJ ?_ | refine jK (fun bk => ?_) | refine jL (fun bk => ?_)) | (show WC _ _ _ _ _ _; first | refine jM ?_ | refine jN ?_ | refine jO ?_ | refine jP ?_ | refine jR ?_ | refine jS ?_ | refine jT ?_ | refine jU ?_) | (show WQ _ _ _ _; with_reducible first | refine jV ?_ | refine jW ?_ | refine jX ?_ | refine jY ?_ | refine jZ ?_ | refine kA ?_ | refine kB ?_ | refine kC ?_) | ((first | (refine jG (fun hc => ?_) (fun hc => ?_) <;> rw [hc]) | refine jQ (fun hc => ?_) (fun hc => ?_)) <;> (try simp only [nrB] at hc) <;> (try (exfalso; first | omega | exact hc trivial | exact hc rfl)))))
  refine OW_callP rfl rfl rfl (ht _ h) rfl ?_
  (repeat' (first | (show WL _ _ _ _ _ _ _; first | refine jA ?_ | refine jB ?_ | refine jC ?_ | refine jD ?_ | refine jE ?_ | refine jF ?_) | (show OW _ _ _ _ _ _; first | refine OW_W ?_ | refine jI ?_ | refine jJ ?_ | refine jK (fun bk => ?_) | refine jL (fun bk => ?_)) | (show WC _ _ _ _ _ _; first | refine jM ?_ | refine jN ?_ | refine jO ?_ | refine jP ?_ | refine jR ?_ | refine jS ?_ | refine jT ?_ | refine jU ?_) | (show WQ _ _ _ _; with_reducible first | refine jV ?_ | refine jW ?_ | refine jX ?_ | refine jY ?_ | refine jZ ?_ | refine kA ?_ | refine kB ?_ | refine kC ?_) | ((first | (refine jG (fun hc => ?_) (fun hc => ?_) <;> rw [hc]) | refine jQ (fun hc => ?_) (fun hc => ?_)) <;> (try simp only [nrB] at hc) <;> (try (exfalso; first | omega | exact hc trivial | exact hc rfl)))))
  obtain ⟨b4, hb4⟩ : ∃ b4, b4 = bk := ⟨_, rfl⟩
  rw [← hb4]
  refine OW_holds (L' := [(b4, cl (ivn zI) 125)] :: L) (fun w h => h) ?_
  clear hb4
  refine OW_storeAggTo (l := ivn zI) (vs := tv) tv rfl rfl htl hto ?_ (by repeat (first | exact Upd.here | apply Upd.there)) (by rw [htl]; decide) ?_
  · have e : (ivn zI).length = 16 := by decide
    simp [patch, htl, e]
  (repeat' (first | (show WL _ _ _ _ _ _ _; first | refine jA ?_ | refine jB ?_ | refine jC ?_ | refine jD ?_ | refine jE ?_ | refine jF ?_) | (show OW _ _ _ _ _ _; first | refine OW_W ?_ | refine jI ?_ | refine jJ ?_ | refine jK (fun bk => ?_) | refine jL (fun bk => ?_)) | (show WC _ _ _ _ _ _; first | refine jM ?_ | refine jN ?_ | refine jO ?_ | refine jP ?_ | refine jR ?_ | refine jS ?_ | refine jT ?_ | refine jU ?_) | (show WQ _ _ _ _; with_reducible first | refine jV ?_ | refine jW ?_ | refine jX ?_ | refine jY ?_ | refine jZ ?_ | refine kA ?_ | refine kB ?_ | refine kC ?_) | ((first | (refine jG (fun hc => ?_) (fun hc => ?_) <;> rw [hc]) | refine jQ (fun hc => ?_) (fun hc => ?_)) <;> (try simp only [nrB] at hc) <;> (try (exfalso; first | omega | exact hc trivial | exact hc rfl)))))
  · exact hno (by omega) _ _ rfl rfl
  have h0 : cdE ls = 0 := by omega
  obtain ⟨h400, hok, hk⟩ := cdE_inv h0
  have hf := hf ([(b4, cl tv 125)] :: L) h0
  have hs := hs ([(b4, cl tv 125)] :: L) h0
  rw [hte h0] at hf hs
  obtain ⟨l, hll⟩ : ∃ l, l = nl ls := ⟨_, rfl⟩
  have hlen : l.length = ls.length := by rw [hll, nl_length]
  rw [← hll] at hk hf hs
  have h15 : ∀ x ∈ l, x ≤ 15 := fun x hx => okL_nl hok (by rw [← hll]; exact hx)
  have hco : ∀ vs, coC l vs = wnv (fsl l 16) ++ (vs ++ [.int .i64 (kS l : Int)]) := fun vs => rfl
  have hFl : (wnv (fsl l 16)).length = 16 := by rw [wnv_length, fsl_length]
  have hFo : ones (wnv (fsl l 16)) = true := wnv_ones
  generalize hFv : wnv (fsl l 16) = Fv at hf hco hFl hFo
  refine WC_drawAll [] mixed ?_
  refine WR_w 0 ?_ (he := EV_loadAll (vs := tv) rfl Fnd.here htl)
  refine WR_w 2 ?_ (he := EV_loadAll (vs := tv) rfl Fnd.here htl)
  (refine WR_one 1 (by kernel_rfl) rfl rfl ?_)
  refine OW_callP rfl rfl rfl hf rfl ?_
  refine ⟨iC, ?_⟩
  (refine WR_one 3 (by kernel_rfl) rfl rfl ?_)
  refine OW_callP rfl rfl rfl hs rfl ?_
  refine ⟨iC, ?_⟩
  (refine WR_take 4 rfl rfl (by kernel_rfl) (by repeat (first | with_reducible exact PO.body | with_reducible exact RP_po | with_reducible refine PO.then ?_ | with_reducible refine PO.block ?_)) iC (EV_build rfl (co_build Fv hFl (kS l : Int))) (by rfl) ?_)
  (refine WR_one 5 (by kernel_rfl) rfl rfl ?_)
  refine OW_box rfl rfl (fun p => ?_)
  refine ⟨iC, ?_⟩
  (refine WR_w 6 ?_)
  (refine WR_done (by kernel_rfl) ?_)
  (repeat' (first | (show WL _ _ _ _ _ _ _; first | refine jA ?_ | refine jB ?_ | refine jC ?_ | refine jD ?_ | refine jE ?_ | refine jF ?_) | (show OW _ _ _ _ _ _; first | refine OW_W ?_ | refine jI ?_ | refine jJ ?_ | refine jK (fun bk => ?_) | refine jL (fun bk => ?_)) | (show WC _ _ _ _ _ _; first | refine jM ?_ | refine jN ?_ | refine jO ?_ | refine jP ?_ | refine jR ?_ | refine jS ?_ | refine jT ?_ | refine jU ?_) | (show WQ _ _ _ _; with_reducible first | refine jV ?_ | refine jW ?_ | refine jX ?_ | refine jY ?_ | refine jZ ?_ | refine kA ?_ | refine kB ?_ | refine kC ?_) | ((first | (refine jG (fun hc => ?_) (fun hc => ?_) <;> rw [hc]) | refine jQ (fun hc => ?_) (fun hc => ?_)) <;> (try simp only [nrB] at hc) <;> (try (exfalso; first | omega | exact hc trivial | exact hc rfl)))))
  have hls : (nl ls).length = ls.length := nl_length ls
  refine WC_loop (X := Nat × List Value × List Chunk) (fun x => [(6, .pointer (some ⟨p, 0, none⟩)), (23, .slice a ls.length c), (24, .int .i64 (ls.length : Int)), (25, .int .i64 (x.1 : Int))])
    (fun x => [(p, cl (Fv ++ (x.2.1 ++ [.int .i64 (kS l : Int)])) 120)] :: x.2.2.flatten :: [(b4, cl tv 125)] :: L) (fun x => x.1 ≤ ls.length ∧ SyR l x.1 x.2.1 x.2.2) (fun x => ls.length - x.1)
    (0, List.replicate 16 (.slice none 0 0), List.replicate 16 []) ⟨Nat.zero_le _, SyR.new l⟩ (by repeat (first | exact Sub.nil | refine Sub.cons rfl ?_ | refine Sub.cons (lk_int rfl (by first | omega | (dsimp only; omega))) ?_)) (fun w h => ?_) ?_
  · show Holds w (_ :: (List.replicate 16 ([] : Chunk)).flatten :: _)
    rw [show (List.replicate 16 ([] : Chunk)).flatten = [] from by decide]
    exact (iC : Inc _ _).holds (Holds.gap.2 h)
  intro x ⟨hx1, hx2⟩
  obtain ⟨i, vs, Cs⟩ := x
  simp only at hx1 hx2 ⊢
  (repeat' (first | (show WL _ _ _ _ _ _ _; first | refine jA ?_ | refine jB ?_ | refine jC ?_ | refine jD ?_ | refine jE ?_ | refine jF ?_) | (show OW _ _ _ _ _ _; first | refine OW_W ?_ | refine jI ?_ | refine jJ ?_ | refine jK (fun bk => ?_) | refine jL (fun bk => ?_)) | (show WC _ _ _ _ _ _; first | refine jM ?_ | refine jN ?_ | refine jO ?_ | refine jP ?_ | refine jR ?_ | refine jS ?_ | refine jT ?_ | refine jU ?_) | (show WQ _ _ _ _; with_reducible first | refine jV ?_ | refine jW ?_ | refine jX ?_ | refine jY ?_ | refine jZ ?_ | refine kA ?_ | refine kB ?_ | refine kC ?_) | ((first | (refine jG (fun hc => ?_) (fun hc => ?_) <;> rw [hc]) | refine jQ (fun hc => ?_) (fun hc => ?_)) <;> (try simp only [nrB] at hc) <;> (try (exfalso; first | omega | exact hc trivial | exact hc rfl)))))
  · have hlt : i < ls.length := by omega
    obtain ⟨b, off, cap, cc, T, fr, hve, hfn, hcell⟩ := sl_at h (ints_get hlt)
    injection hve with q1 q2 q3
    subst q1 q3
    clear q2
    have hat := okL_at hok i
    rw [← hll] at hat
    rw [← hat.2.2] at hcell
    have hstep := @SyR.step _ l i vs Cs hx2
    have hskip := hx2.skip
    obtain ⟨x, hx⟩ : ∃ x, x = l.getD i 0 := ⟨_, rfl⟩
    have hx15 : x ≤ 15 := by omega
    rw [← hx] at hcell hstep hskip
    refine OW_W ?_ (he := EV_indexAddr (j := i) rfl rfl rfl hlt)
    (repeat' (first | (show WL _ _ _ _ _ _ _; first | refine jA ?_ | refine jB ?_ | refine jC ?_ | refine jD ?_ | refine jE ?_ | refine jF ?_) | (show OW _ _ _ _ _ _; first | refine OW_W ?_ | refine jI ?_ | refine jJ ?_ | refine jK (fun bk => ?_) | refine jL (fun bk => ?_)) | (show WC _ _ _ _ _ _; first | refine jM ?_ | refine jN ?_ | refine jO ?_ | refine jP ?_ | refine jR ?_ | refine jS ?_ | refine jT ?_ | refine jU ?_) | (show WQ _ _ _ _; with_reducible first | refine jV ?_ | refine jW ?_ | refine jX ?_ | refine jY ?_ | refine jZ ?_ | refine kA ?_ | refine kB ?_ | refine kC ?_) | ((first | (refine jG (fun hc => ?_) (fun hc => ?_) <;> rw [hc]) | refine jQ (fun hc => ?_) (fun hc => ?_)) <;> (try simp only [nrB] at hc) <;> (try (exfalso; first | omega | exact hc trivial | exact hc rfl)))))
    refine OW_W ?_ (he := EV_load rfl hfn.there.there.there hcell)
    (repeat' (first | (show WL _ _ _ _ _ _ _; first | refine jA ?_ | refine jB ?_ | refine jC ?_ | refine jD ?_ | refine jE ?_ | refine jF ?_) | (show OW _ _ _ _ _ _; first | refine OW_W ?_ | refine jI ?_ | refine jJ ?_ | refine jK (fun bk => ?_) | refine jL (fun bk => ?_)) | (show WC _ _ _ _ _ _; first | refine jM ?_ | refine jN ?_ | refine jO ?_ | refine jP ?_ | refine jR ?_ | refine jS ?_ | refine jT ?_ | refine jU ?_) | (show WQ _ _ _ _; with_reducible first | refine jV ?_ | refine jW ?_ | refine jX ?_ | refine jY ?_ | refine jZ ?_ | refine kA ?_ | refine kB ?_ | refine kC ?_) | ((first | (refine jG (fun hc => ?_) (fun hc => ?_) <;> rw [hc]) | refine jQ (fun hc => ?_) (fun hc => ?_)) <;> (try simp only [nrB] at hc) <;> (try (exfalso; first | omega | exact hc trivial | exact hc rfl)))))
    · have hx0 : 0 < x := by omega
      obtain ⟨v, C, hv, hC, ho⟩ := hx2.at_ x (by omega)
      obtain ⟨D1, D2, hfl, hfl2⟩ := flat_set hC
      have hsl := smb_le l i x
      refine WC_holds' (L' := [(p, cl (Fv ++ (vs ++ [.int .i64 (kS l : Int)])) 120)] :: D1 :: C :: D2 :: [(b4, cl tv 125)] :: L) (fun w h => ?_) ?_
      · rw [hfl] at h
        simpa [Holds, List.append_assoc] using h
      refine WC_draw [[(p, cl (Fv ++ (vs ++ [.int .i64 (kS l : Int)])) 120)]] [14] mixed ?_
      (refine WR_w 0 ?_; refine WR_w 1 ?_; refine WR_w 2 ?_; refine WR_w 3 ?_; refine WR_w 4 ?_; refine WR_w 5 ?_; refine WR_w 6 ?_)
      refine WR_w 7 ?_ (he := EV_loadc rfl (by repeat (first | exact Fnd.here | refine Fnd.there ?_)) (co_nth hFl hv))
      (refine WR_w 8 ?_; refine WR_w 11 ?_; refine WR_w 12 ?_)
      (refine WR_one 9 (by kernel_rfl) rfl rfl ?_)
      refine OW_buildSlice (cs := ivn [i]) rfl (by rfl) (by simp [fillL, patch, Value.cells, zeros]; rfl) (by omega) rfl rfl (fun bs => ?_)
      refine ⟨iC, ?_⟩
      (refine WR_one 10 (by kernel_rfl) rfl rfl ?_)
      refine OW_append rfl rfl ho (sl_cells (c := (ivn [i]).toArray) (xs := ivn [i]) (m := 1) Fnd.here rfl (by simp)) (by repeat (first | exact Zip.here _ | apply Zip.there)) rfl ivn_ones (by omega) (by simp [maxLen]; omega) rfl (fun v' C' ho' _ _ => ?_)
      refine ⟨iC, ?_⟩
      (refine WR_w 13 ?_)
      (refine WR_last 14 (by kernel_rfl) rfl rfl rfl ?_)
      refine OW_storeTo (Fv ++ (vs.set x v' ++ [.int .i64 (kS l : Int)])) rfl rfl (ow_one ho') (co_set hFl (by rw [hx2.lv]; omega)) (by repeat (first | exact Upd.here | apply Upd.there)) (by rw [List.length_append, List.length_append, hFl, hx2.lv]; simp; omega) ?_
      (refine WR_done (by kernel_rfl) ?_)
      (repeat' (first | (show WL _ _ _ _ _ _ _; first | refine jA ?_ | refine jB ?_ | refine jC ?_ | refine jD ?_ | refine jE ?_ | refine jF ?_) | (show OW _ _ _ _ _ _; first | refine OW_W ?_ | refine jI ?_ | refine jJ ?_ | refine jK (fun bk => ?_) | refine jL (fun bk => ?_)) | (show WC _ _ _ _ _ _; first | refine jM ?_ | refine jN ?_ | refine jO ?_ | refine jP ?_ | refine jR ?_ | refine jS ?_ | refine jT ?_ | refine jU ?_) | (show WQ _ _ _ _; with_reducible first | refine jV ?_ | refine jW ?_ | refine jX ?_ | refine jY ?_ | refine jZ ?_ | refine kA ?_ | refine kB ?_ | refine kC ?_) | ((first | (refine jG (fun hc => ?_) (fun hc => ?_) <;> rw [hc]) | refine jQ (fun hc => ?_) (fun hc => ?_)) <;> (try simp only [nrB] at hc) <;> (try (exfalso; first | omega | exact hc trivial | exact hc rfl)))))
      refine WQ_round (X := Nat × List Value × List Chunk) (μ := fun x => ls.length - x.1) (x := (i, vs, Cs)) (i + 1, vs.set x v', Cs.set x C') (by simp only; omega) ⟨by simp only; omega, hstep hx0 (by omega) ho'⟩ (by repeat (first | exact Sub.nil | refine Sub.cons rfl ?_ | refine Sub.cons (lk_int rfl (by first | omega | (dsimp only; omega))) ?_)) (fun w h => ?_)
      have h2 := (iC : Inc ([(p, cl (Fv ++ (vs.set x v' ++ [.int .i64 (kS l : Int)])) 120)] :: D1 :: C' :: D2 :: [(b4, cl tv 125)] :: L) _).holds h
      simp only [hfl2]
      simpa [Holds, List.append_assoc] using h2
    · have hx0 : x = 0 := by omega
      refine WQ_round (X := Nat × List Value × List Chunk) (μ := fun x => ls.length - x.1) (x := (i, vs, Cs)) (i + 1, vs, Cs) (by simp only; omega) ⟨by simp only; omega, hskip hx0⟩ (by repeat (first | exact Sub.nil | refine Sub.cons rfl ?_ | refine Sub.cons (lk_int rfl (by first | omega | (dsimp only; omega))) ?_)) (fun w h => h)
  · have hie : i = l.length := by omega
    rw [hie] at hx2
    first | refine WQ_retH rfl rfl ?_ | refine WQ_endH rfl rfl ?_
    refine ⟨(_ :: L), fun w h => ?_, .inr ⟨h0, p, _, rfl, rfl, vs, Cs, rfl, by rw [← hll]; exact hx2⟩⟩
    rw [← hll, hco]
    have h2 := (iC : Inc ([(p, cl (Fv ++ (vs ++ [.int .i64 (kS l : Int)])) 120)] :: Cs.flatten :: L) _).holds h
    exact Holds.split.2 h2
end Go.Proofs.YtkiaegkojlhaeaaDoor
