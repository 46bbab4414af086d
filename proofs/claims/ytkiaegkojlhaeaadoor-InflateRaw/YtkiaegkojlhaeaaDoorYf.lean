/- The document's codes of lengths. It proves no statement by itself. No conditions. -/
import Derived.Test.YtkiaegkojlhaeaaDoorYe
namespace Go.Hf
set_option linter.all false
/-- The error of a list of lengths, and its codes. -/
def cdE (ls : List Int) : Nat := if 400 < ls.length ∨ okL ls = false then 1 else if 32768 < kS (nl ls) then 3 else 0
def cdL (ls : List Int) : List Nat := if cdE ls = 0 then cds (nl ls) else []
theorem cdE_one {ls : List Int} (h : 400 < ls.length ∨ okL ls = false) : cdE ls = 1 ∧ cdL ls = [] := by
  have e : cdE ls = 1 := if_pos h
  exact ⟨e, by unfold cdL; rw [e]; rfl⟩
theorem cdE_three {ls : List Int} (h1 : ls.length ≤ 400) (h2 : okL ls = true) (h3 : 32768 < kS (nl ls)) : cdE ls = 3 ∧ cdL ls = [] := by
  have e : cdE ls = 3 := by unfold cdE; rw [if_neg (by rw [h2]; simp; omega), if_pos h3]
  exact ⟨e, by unfold cdL; rw [e]; rfl⟩
theorem cdE_zero {ls : List Int} (h1 : ls.length ≤ 400) (h2 : okL ls = true) (h3 : kS (nl ls) ≤ 32768) : cdE ls = 0 ∧ cdL ls = cds (nl ls) := by
  have e : cdE ls = 0 := by unfold cdE; rw [if_neg (by rw [h2]; simp; omega), if_neg (by omega)]
  exact ⟨e, by unfold cdL; rw [e]; rfl⟩
theorem cdE_inv {ls : List Int} (h : cdE ls = 0) : ls.length ≤ 400 ∧ okL ls = true ∧ kS (nl ls) ≤ 32768 := by
  unfold cdE at h
  split at h
  · omega
  · rename_i h1
    split at h
    · omega
    · refine ⟨by omega, ?_, by omega⟩
      cases ho : okL ls with
      | true => rfl
      | false => exact absurd (.inr ho) h1
/-- The number before a length's first code. -/
def nx (l : List Nat) (n : Nat) : Nat := fs l (n - 1) + if n - 1 = 0 then 0 else cn l (n - 1)
theorem nx_two (l : List Nat) {n : Nat} (h : 1 ≤ n) : nx l n * 2 ^ 1 = fs l n := by
  obtain ⟨m, rfl⟩ : ∃ m, n = m + 1 := ⟨n - 1, by omega⟩
  simp only [nx, Nat.add_sub_cancel, fs]
  omega
theorem nx_next (l : List Nat) {n : Nat} (h : 1 ≤ n) : nx l (n + 1) = fs l n + cn l n := by
  unfold nx
  rw [Nat.add_sub_cancel, if_neg (by omega)]
/-- The codes so far: of all shorter lengths, of this one up to a place. -/
def outs (l : List Nat) (n j : Nat) : List Nat := (List.range l.length).map fun i => if (0 < l.getD i 0 ∧ l.getD i 0 < n) ∨ (l.getD i 0 = n ∧ i < j) then cd l i else 0
theorem outs_length (l : List Nat) (n j : Nat) : (outs l n j).length = l.length := by simp [outs]
theorem outs_get {l : List Nat} {n j i : Nat} (hi : i < l.length) : (outs l n j)[i]? = some (if (0 < l.getD i 0 ∧ l.getD i 0 < n) ∨ (l.getD i 0 = n ∧ i < j) then cd l i else 0) := by
  unfold outs
  rw [List.getElem?_map, List.getElem?_range hi]
  rfl
theorem outs_ext {l : List Nat} {A : List Nat} {n j : Nat} (hl : A.length = l.length) (h : ∀ i, i < l.length → A[i]? = some (if (0 < l.getD i 0 ∧ l.getD i 0 < n) ∨ (l.getD i 0 = n ∧ i < j) then cd l i else 0)) : A = outs l n j := by
  apply List.ext_getElem?
  intro i
  rcases Nat.lt_or_ge i l.length with hi | hi
  · rw [h i hi, outs_get hi]
  · rw [List.getElem?_eq_none (by omega), List.getElem?_eq_none (by rw [outs_length]; exact hi)]
theorem outs_set {l : List Nat} {n j : Nat} (hj : j < l.length) (he : l.getD j 0 = n) : (outs l n j).set j (cd l j) = outs l n (j + 1) := by
  refine outs_ext (by rw [List.length_set, outs_length]) fun i hi => ?_
  by_cases h : i = j
  · subst h
    rw [List.getElem?_set_self (by rw [outs_length]; exact hi), if_pos (.inr ⟨he, by omega⟩)]
  · rw [List.getElem?_set_ne (by omega), outs_get hi]
    congr 1
    have e : (i < j) = (i < j + 1) := by apply propext; omega
    simp only [e]
theorem outs_skip {l : List Nat} {n j : Nat} (he : l.getD j 0 ≠ n) : outs l n j = outs l n (j + 1) := by
  refine outs_ext (outs_length l n j) fun i hi => ?_
  rw [outs_get hi]
  congr 1
  by_cases h : i = j
  · subst h
    simp only [he, false_and, or_false]
  · have e : (i < j) = (i < j + 1) := by apply propext; omega
    simp only [e]
theorem outs_next {l : List Nat} {n : Nat} (hn : 1 ≤ n) : outs l n l.length = outs l (n + 1) 0 := by
  refine outs_ext (outs_length l n _) fun i hi => ?_
  rw [outs_get hi]
  congr 1
  have e : ((0 < l.getD i 0 ∧ l.getD i 0 < n) ∨ (l.getD i 0 = n ∧ i < l.length)) = ((0 < l.getD i 0 ∧ l.getD i 0 < n + 1) ∨ (l.getD i 0 = n + 1 ∧ i < 0)) := by apply propext; omega
  simp only [e]
theorem outs_start (l : List Nat) : outs l 1 0 = List.replicate l.length 0 := by
  apply List.ext_getElem?
  intro i
  rcases Nat.lt_or_ge i l.length with hi | hi
  · rw [outs_get hi, List.getElem?_replicate, if_pos hi, if_neg (by omega)]
  · rw [List.getElem?_eq_none (by rw [outs_length]; exact hi), List.getElem?_eq_none (by simp; exact hi)]
theorem outs_end {l : List Nat} (h : ∀ x ∈ l, x ≤ 15) : outs l 16 0 = cds l := by
  unfold outs cds
  refine List.map_congr_left fun i hi => ?_
  have hil := List.mem_range.1 hi
  have hx : l.getD i 0 ≤ 15 := by
    have : l.getD i 0 = l[i] := by simp [List.getD, hil]
    rw [this]; exact h _ (List.getElem_mem hil)
  by_cases h0 : l.getD i 0 = 0
  · rw [if_neg (by omega)]
    unfold cd
    rw [if_pos h0]
  · rw [if_pos (.inl ⟨by omega, by omega⟩)]
theorem cn_take_succ {l : List Nat} {j : Nat} (hj : j < l.length) (n : Nat) : cn (l.take (j + 1)) n = cn (l.take j) n + if l.getD j 0 = n then 1 else 0 := by
  have hg : l.getD j 0 = l[j] := by simp [List.getD, hj]
  rw [List.take_add_one, List.getElem?_eq_getElem hj, cn_app, hg]
  congr 1
  simp only [Option.toList, cn_cons]
  simp [cn]
theorem cn_take_le (l : List Nat) (j n : Nat) : cn (l.take j) n ≤ cn l n := by
  have := cn_take_mono l n (show j ≤ max j l.length by omega)
  rwa [List.take_of_length_le (Nat.le_max_right j l.length)] at this
end Go.Hf
namespace Go.Proofs.YtkiaegkojlhaeaaDoor
open Go Go.Vx Go.Hf
variable [W0]
set_option maxRecDepth 4000
set_option linter.all false

set_option maxHeartbeats 2000000 in
theorem refcodes_n (a : Option Addr) (c : Nat) (ls : List Int) (L : List Chunk) (h : Sl L 1 (.slice a ls.length c) ls.length (intsN ls)) (hl : ls.length ≤ 17592186044416) :
    Gv Tryd.prog 62 [.slice a ls.length c].toArray L (fun r L' => ∃ u C, r = .tuple #[u, .int .i64 (cdE ls : Int)] ∧ L' = C :: L ∧ Ow 28 1 u (cdL ls).length (wnv (cdL ls)) C) := by
  refine Gv.of_body Tryd.func62 rfl rfl ?_
  have hno : ∀ (e : Nat), cdE ls = e → cdL ls = [] → ∀ M : List (Nat × Value), lk M 2 = some (.slice none 0 0) → lk M 3 = some (.int .i64 (e : Int)) →
      WQ Tryd.f62.ntmps (bodyPost Tryd.prog Tryd.f62 (fun e w' => ∃ v L', e = .returned v ∧ (∃ u C, v = .tuple #[u, .int .i64 (cdE ls : Int)] ∧ L' = C :: L ∧ Ow 28 1 u (cdL ls).length (wnv (cdL ls)) C) ∧ Holds w' L') .ret) M L := by
    intro e he hc M h2 h3
    refine WQ_retH (rs := [.tmp 2, .tmp 3]) (vs := [.slice none 0 0, .int .i64 (e : Int)]) rfl (by simp [resT, h2, h3]) ?_
    rw [he, hc]
    exact ⟨[] :: L, fun w hw => Holds.nil.2 hw, _, [], rfl, rfl, .inl ⟨rfl, rfl, rfl, rfl⟩⟩
  (repeat' (first | (show WL _ _ _ _ _ _ _; first | refine jA ?_ | refine jB ?_ | refine jC ?_ | refine jD ?_ | refine jE ?_ | refine jF ?_) | (show OW _ _ _ _ _ _; first | refine OW_E ?_ | refine jI ?_ | refine jJ ?_ | refine jK (fun bk => ?_) | refine jL (fun bk => ?_)) | (show WC _ _ _ _ _ _; first | refine jM ?_ | refine jN ?_ | refine jO ?_ | refine jP ?_ | refine jR ?_ | refine jS ?_ | refine jT ?_ | refine jU ?_) | (show WQ _ _ _ _; with_reducible first | refine jV ?_ | refine jW ?_ | refine jX ?_ | refine jY ?_ | refine jZ ?_ | refine kA ?_ | refine kB ?_ | refine kC ?_) | ((first | (refine jG (fun hc => ?_) (fun hc => ?_) <;> rw [hc]) | refine jQ (fun hc => ?_) (fun hc => ?_)) <;> (try simp only [nrB] at hc) <;> (try (exfalso; first | omega | exact hc trivial | exact hc rfl)))))
  · obtain ⟨e1, e2⟩ := cdE_one (ls := ls) (.inl (by omega))
    exact hno 1 e1 e2 _ rfl rfl
  have h400 : ls.length ≤ 400 := by omega
  refine OW_callP rfl rfl rfl (weight_n a c ls L h hl) rfl ?_
  have hw : okL ls = true → wgt ls = (kS (nl ls) : Int) := fun h => by unfold wgt; rw [h]; rfl
  cases hok : okL ls with
  | false =>
    have hw2 : wgt ls = -1 := by unfold wgt; rw [hok]; rfl
    rw [hw2]
    obtain ⟨e1, e2⟩ := cdE_one (ls := ls) (.inr hok)
    (repeat' (first | (show WL _ _ _ _ _ _ _; first | refine jA ?_ | refine jB ?_ | refine jC ?_ | refine jD ?_ | refine jE ?_ | refine jF ?_) | (show OW _ _ _ _ _ _; first | refine OW_E ?_ | refine jI ?_ | refine jJ ?_ | refine jK (fun bk => ?_) | refine jL (fun bk => ?_)) | (show WC _ _ _ _ _ _; first | refine jM ?_ | refine jN ?_ | refine jO ?_ | refine jP ?_ | refine jR ?_ | refine jS ?_ | refine jT ?_ | refine jU ?_) | (show WQ _ _ _ _; with_reducible first | refine jV ?_ | refine jW ?_ | refine jX ?_ | refine jY ?_ | refine jZ ?_ | refine kA ?_ | refine kB ?_ | refine kC ?_) | ((first | (refine jG (fun hc => ?_) (fun hc => ?_) <;> rw [hc]) | refine jQ (fun hc => ?_) (fun hc => ?_)) <;> (try simp only [nrB] at hc) <;> (try (exfalso; first | omega | exact hc trivial | exact hc rfl)))))
    exact hno 1 e1 e2 _ rfl rfl
  | true =>
    have hw1 := hw hok
    have hkl := kS_le (nl ls)
    rw [nl_length] at hkl
    rw [hw1]
    (repeat' (first | (show WL _ _ _ _ _ _ _; first | refine jA ?_ | refine jB ?_ | refine jC ?_ | refine jD ?_ | refine jE ?_ | refine jF ?_) | (show OW _ _ _ _ _ _; first | refine OW_E ?_ | refine jI ?_ | refine jJ ?_ | refine jK (fun bk => ?_) | refine jL (fun bk => ?_)) | (show WC _ _ _ _ _ _; first | refine jM ?_ | refine jN ?_ | refine jO ?_ | refine jP ?_ | refine jR ?_ | refine jS ?_ | refine jT ?_ | refine jU ?_) | (show WQ _ _ _ _; with_reducible first | refine jV ?_ | refine jW ?_ | refine jX ?_ | refine jY ?_ | refine jZ ?_ | refine kA ?_ | refine kB ?_ | refine kC ?_) | ((first | (refine jG (fun hc => ?_) (fun hc => ?_) <;> rw [hc]) | refine jQ (fun hc => ?_) (fun hc => ?_)) <;> (try simp only [nrB] at hc) <;> (try (exfalso; first | omega | exact hc trivial | exact hc rfl)))))
    refine OW_callP rfl rfl rfl (weight_n a c ls L h hl) rfl ?_
    rw [hw1]
    (repeat' (first | (show WL _ _ _ _ _ _ _; first | refine jA ?_ | refine jB ?_ | refine jC ?_ | refine jD ?_ | refine jE ?_ | refine jF ?_) | (show OW _ _ _ _ _ _; first | refine OW_E ?_ | refine jI ?_ | refine jJ ?_ | refine jK (fun bk => ?_) | refine jL (fun bk => ?_)) | (show WC _ _ _ _ _ _; first | refine jM ?_ | refine jN ?_ | refine jO ?_ | refine jP ?_ | refine jR ?_ | refine jS ?_ | refine jT ?_ | refine jU ?_) | (show WQ _ _ _ _; with_reducible first | refine jV ?_ | refine jW ?_ | refine jX ?_ | refine jY ?_ | refine jZ ?_ | refine kA ?_ | refine kB ?_ | refine kC ?_) | ((first | (refine jG (fun hc => ?_) (fun hc => ?_) <;> rw [hc]) | refine jQ (fun hc => ?_) (fun hc => ?_)) <;> (try simp only [nrB] at hc) <;> (try (exfalso; first | omega | exact hc trivial | exact hc rfl)))))
    · obtain ⟨e1, e2⟩ := cdE_three h400 hok (by omega)
      exact hno 3 e1 e2 _ rfl rfl
    obtain ⟨l, hll⟩ : ∃ l, l = nl ls := ⟨_, rfl⟩
    have hlen : l.length = ls.length := by rw [hll, nl_length]
    have hk : kS l ≤ 32768 := by rw [hll]; omega
    have h15 : ∀ x ∈ l, x ≤ 15 := fun x hx => okL_nl hok (by rw [← hll]; exact hx)
    obtain ⟨e1, e2⟩ := cdE_zero h400 hok (by rw [← hll]; exact hk)
    rw [← hll] at e2
    have hfit : ∀ n, 1 ≤ n → n ≤ 15 → fs l n + cn l n ≤ 32768 := fun n h1 h2 => Nat.le_trans (fs_fit hk h1 h2) (Nat.le_trans (Nat.pow_le_pow_right (by decide) h2) (by decide))
    have hnx : ∀ n, 1 ≤ n → n ≤ 16 → nx l n ≤ 32768 := fun n h1 h2 => by
      rcases Nat.eq_or_lt_of_le h1 with h3 | h3
      · subst h3; simp [nx, fs]
      · have := hfit (n - 1) (by omega) (by omega)
        have h4 := nx_next l (n := n - 1) (by omega)
        rw [show n - 1 + 1 = n from by omega] at h4
        omega
    refine OW_makeSlice (m := ls.length) (c := ls.length) rfl rfl (by rfl) (by omega) (by omega) (by omega) rfl (fun bn => ?_)
    rw [show zeros (Value.int .u32 0).cells.toList ls.length = wnv (outs l 1 0) from by rw [outs_start, hlen]; exact zeros_wnv _]
    (repeat' (first | (show WL _ _ _ _ _ _ _; first | refine jA ?_ | refine jB ?_ | refine jC ?_ | refine jD ?_ | refine jE ?_ | refine jF ?_) | (show OW _ _ _ _ _ _; first | refine OW_E ?_ | refine jI ?_ | refine jJ ?_ | refine jK (fun bk => ?_) | refine jL (fun bk => ?_)) | (show WC _ _ _ _ _ _; first | refine jM ?_ | refine jN ?_ | refine jO ?_ | refine jP ?_ | refine jR ?_ | refine jS ?_ | refine jT ?_ | refine jU ?_) | (show WQ _ _ _ _; with_reducible first | refine jV ?_ | refine jW ?_ | refine jX ?_ | refine jY ?_ | refine jZ ?_ | refine kA ?_ | refine kB ?_ | refine kC ?_) | ((first | (refine jG (fun hc => ?_) (fun hc => ?_) <;> rw [hc]) | refine jQ (fun hc => ?_) (fun hc => ?_)) <;> (try simp only [nrB] at hc) <;> (try (exfalso; first | omega | exact hc trivial | exact hc rfl)))))
    refine WC_loop (X := Nat) (fun n => [(0, .slice a ls.length c), (4, .slice (some ⟨bn, 0, none⟩) ls.length ls.length), (5, .int .u32 ((nx l n : Nat) : Int)), (6, .int .i64 (n : Int))]) (fun n => [(bn, cl (wnv (outs l n 0)) 28)] :: L) (fun n => 1 ≤ n ∧ n ≤ 16) (fun n => 16 - n) 1 ⟨by omega, by omega⟩ (by repeat (first | exact Sub.nil | refine Sub.cons rfl ?_ | refine Sub.cons (lk_int rfl (by first | omega | (dsimp only; omega))) ?_)) (fun w h => h) ?_
    intro n ⟨hn1, hn2⟩
    have hnn := hnx n hn1 hn2
    (repeat' (first | (show WL _ _ _ _ _ _ _; first | refine jA ?_ | refine jB ?_ | refine jC ?_ | refine jD ?_ | refine jE ?_ | refine jF ?_) | (show OW _ _ _ _ _ _; first | refine OW_E ?_ | refine jI ?_ | refine jJ ?_ | refine jK (fun bk => ?_) | refine jL (fun bk => ?_)) | (show WC _ _ _ _ _ _; first | refine jM ?_ | refine jN ?_ | refine jO ?_ | refine jP ?_ | refine jR ?_ | refine jS ?_ | refine jT ?_ | refine jU ?_) | (show WQ _ _ _ _; with_reducible first | refine jV ?_ | refine jW ?_ | refine jX ?_ | refine jY ?_ | refine jZ ?_ | refine kA ?_ | refine kB ?_ | refine kC ?_) | ((first | (refine jG (fun hc => ?_) (fun hc => ?_) <;> rw [hc]) | refine jQ (fun hc => ?_) (fun hc => ?_)) <;> (try simp only [nrB] at hc) <;> (try (exfalso; first | omega | exact hc trivial | exact hc rfl)))))
    · have hn15 : n ≤ 15 := by omega
      have hf := hfit n hn1 hn15
      refine OW_EV (EV_nshl (nx l n) 1 rfl rfl rfl rfl rfl (by simp only [IntKind.bits]; omega)) rfl ?_
      rw [nx_two l hn1]
      (repeat' (first | (show WL _ _ _ _ _ _ _; first | refine jA ?_ | refine jB ?_ | refine jC ?_ | refine jD ?_ | refine jE ?_ | refine jF ?_) | (show OW _ _ _ _ _ _; first | refine OW_E ?_ | refine jI ?_ | refine jJ ?_ | refine jK (fun bk => ?_) | refine jL (fun bk => ?_)) | (show WC _ _ _ _ _ _; first | refine jM ?_ | refine jN ?_ | refine jO ?_ | refine jP ?_ | refine jR ?_ | refine jS ?_ | refine jT ?_ | refine jU ?_) | (show WQ _ _ _ _; with_reducible first | refine jV ?_ | refine jW ?_ | refine jX ?_ | refine jY ?_ | refine jZ ?_ | refine kA ?_ | refine kB ?_ | refine kC ?_) | ((first | (refine jG (fun hc => ?_) (fun hc => ?_) <;> rw [hc]) | refine jQ (fun hc => ?_) (fun hc => ?_)) <;> (try simp only [nrB] at hc) <;> (try (exfalso; first | omega | exact hc trivial | exact hc rfl)))))
      refine WC_loop (X := Nat) (fun j => [(0, .slice a ls.length c), (4, .slice (some ⟨bn, 0, none⟩) ls.length ls.length), (5, .int .u32 ((fs l n + cn (l.take j) n : Nat) : Int)), (6, .int .i64 (n : Int)), (7, .int .i64 (j : Int))]) (fun j => [(bn, cl (wnv (outs l n j)) 28)] :: L) (fun j => j ≤ ls.length) (fun j => ls.length - j) 0 (Nat.zero_le _) (by repeat (first | exact Sub.nil | refine Sub.cons rfl ?_ | refine Sub.cons (lk_int rfl (by first | omega | (dsimp only; omega))) ?_)) (fun w h => h) ?_
      intro j hj
      have hct := cn_take_le l j n
      (repeat' (first | (show WL _ _ _ _ _ _ _; first | refine jA ?_ | refine jB ?_ | refine jC ?_ | refine jD ?_ | refine jE ?_ | refine jF ?_) | (show OW _ _ _ _ _ _; first | refine OW_E ?_ | refine jI ?_ | refine jJ ?_ | refine jK (fun bk => ?_) | refine jL (fun bk => ?_)) | (show WC _ _ _ _ _ _; first | refine jM ?_ | refine jN ?_ | refine jO ?_ | refine jP ?_ | refine jR ?_ | refine jS ?_ | refine jT ?_ | refine jU ?_) | (show WQ _ _ _ _; with_reducible first | refine jV ?_ | refine jW ?_ | refine jX ?_ | refine jY ?_ | refine jZ ?_ | refine kA ?_ | refine kB ?_ | refine kC ?_) | ((first | (refine jG (fun hc => ?_) (fun hc => ?_) <;> rw [hc]) | refine jQ (fun hc => ?_) (fun hc => ?_)) <;> (try simp only [nrB] at hc) <;> (try (exfalso; first | omega | exact hc trivial | exact hc rfl)))))
      · have hlt : j < ls.length := by omega
        obtain ⟨b, off, cap, cc, T, fr, hve, hfn, hcell⟩ := sl_at h (ints_get hlt)
        injection hve with q1 q2 q3
        subst q1 q3
        clear q2
        have hat := (okL_at hok j).2.2
        rw [← hll] at hat
        rw [← hat] at hcell
        have hcs := cn_take_succ (l := l) (j := j) (by omega) n
        refine OW_EV (EV_indexAddr (j := j) rfl rfl rfl hlt) rfl ?_
        (repeat' (first | (show WL _ _ _ _ _ _ _; first | refine jA ?_ | refine jB ?_ | refine jC ?_ | refine jD ?_ | refine jE ?_ | refine jF ?_) | (show OW _ _ _ _ _ _; first | refine OW_E ?_ | refine jI ?_ | refine jJ ?_ | refine jK (fun bk => ?_) | refine jL (fun bk => ?_)) | (show WC _ _ _ _ _ _; first | refine jM ?_ | refine jN ?_ | refine jO ?_ | refine jP ?_ | refine jR ?_ | refine jS ?_ | refine jT ?_ | refine jU ?_) | (show WQ _ _ _ _; with_reducible first | refine jV ?_ | refine jW ?_ | refine jX ?_ | refine jY ?_ | refine jZ ?_ | refine kA ?_ | refine kB ?_ | refine kC ?_) | ((first | (refine jG (fun hc => ?_) (fun hc => ?_) <;> rw [hc]) | refine jQ (fun hc => ?_) (fun hc => ?_)) <;> (try simp only [nrB] at hc) <;> (try (exfalso; first | omega | exact hc trivial | exact hc rfl)))))
        refine OW_EV (EV_load rfl hfn.there hcell) rfl ?_
        (repeat' (first | (show WL _ _ _ _ _ _ _; first | refine jA ?_ | refine jB ?_ | refine jC ?_ | refine jD ?_ | refine jE ?_ | refine jF ?_) | (show OW _ _ _ _ _ _; first | refine OW_E ?_ | refine jI ?_ | refine jJ ?_ | refine jK (fun bk => ?_) | refine jL (fun bk => ?_)) | (show WC _ _ _ _ _ _; first | refine jM ?_ | refine jN ?_ | refine jO ?_ | refine jP ?_ | refine jR ?_ | refine jS ?_ | refine jT ?_ | refine jU ?_) | (show WQ _ _ _ _; with_reducible first | refine jV ?_ | refine jW ?_ | refine jX ?_ | refine jY ?_ | refine jZ ?_ | refine kA ?_ | refine kB ?_ | refine kC ?_) | ((first | (refine jG (fun hc => ?_) (fun hc => ?_) <;> rw [hc]) | refine jQ (fun hc => ?_) (fun hc => ?_)) <;> (try simp only [nrB] at hc) <;> (try (exfalso; first | omega | exact hc trivial | exact hc rfl)))))
        · have hg : l.getD j 0 = n := by omega
          rw [if_pos hg] at hcs
          have hcd : cd l j = fs l n + cn (l.take j) n := by unfold cd; rw [hg, if_neg (by omega)]
          rw [← hcd]
          refine OW_EV (EV_indexAddr0 (j := j) (len := ls.length) rfl rfl rfl hlt) rfl ?_
          (repeat' (first | (show WL _ _ _ _ _ _ _; first | refine jA ?_ | refine jB ?_ | refine jC ?_ | refine jD ?_ | refine jE ?_ | refine jF ?_) | (show OW _ _ _ _ _ _; first | refine OW_E ?_ | refine jI ?_ | refine jJ ?_ | refine jK (fun bk => ?_) | refine jL (fun bk => ?_)) | (show WC _ _ _ _ _ _; first | refine jM ?_ | refine jN ?_ | refine jO ?_ | refine jP ?_ | refine jR ?_ | refine jS ?_ | refine jT ?_ | refine jU ?_) | (show WQ _ _ _ _; with_reducible first | refine jV ?_ | refine jW ?_ | refine jX ?_ | refine jY ?_ | refine jZ ?_ | refine kA ?_ | refine kB ?_ | refine kC ?_) | ((first | (refine jG (fun hc => ?_) (fun hc => ?_) <;> rw [hc]) | refine jQ (fun hc => ?_) (fun hc => ?_)) <;> (try simp only [nrB] at hc) <;> (try (exfalso; first | omega | exact hc trivial | exact hc rfl)))))
          refine OW_storeTo (l := wnv (outs l n j)) (wnv (outs l n (j + 1))) rfl rfl rfl (by rw [Nat.mul_one, ← outs_set (by omega) hg]; simp [wnv, List.map_set]) (by repeat (first | exact Upd.here | apply Upd.there)) (by simp [wnv, outs_length]; omega) ?_
          (repeat' (first | (show WL _ _ _ _ _ _ _; first | refine jA ?_ | refine jB ?_ | refine jC ?_ | refine jD ?_ | refine jE ?_ | refine jF ?_) | (show OW _ _ _ _ _ _; first | refine OW_E ?_ | refine jI ?_ | refine jJ ?_ | refine jK (fun bk => ?_) | refine jL (fun bk => ?_)) | (show WC _ _ _ _ _ _; first | refine jM ?_ | refine jN ?_ | refine jO ?_ | refine jP ?_ | refine jR ?_ | refine jS ?_ | refine jT ?_ | refine jU ?_) | (show WQ _ _ _ _; with_reducible first | refine jV ?_ | refine jW ?_ | refine jX ?_ | refine jY ?_ | refine jZ ?_ | refine kA ?_ | refine kB ?_ | refine kC ?_) | ((first | (refine jG (fun hc => ?_) (fun hc => ?_) <;> rw [hc]) | refine jQ (fun hc => ?_) (fun hc => ?_)) <;> (try simp only [nrB] at hc) <;> (try (exfalso; first | omega | exact hc trivial | exact hc rfl)))))
          refine OW_EV (EV_ari rfl rfl rfl) rfl ?_
          rw [show ((cd l j : Nat) : Int) + 1 = ((fs l n + cn (l.take (j + 1)) n : Nat) : Int) from by rw [hcs, hcd]; omega, wrap_nat rfl (by simp only [IntKind.bits]; have := cn_take_le l (j + 1) n; omega)]
          (repeat' (first | (show WL _ _ _ _ _ _ _; first | refine jA ?_ | refine jB ?_ | refine jC ?_ | refine jD ?_ | refine jE ?_ | refine jF ?_) | (show OW _ _ _ _ _ _; first | refine OW_E ?_ | refine jI ?_ | refine jJ ?_ | refine jK (fun bk => ?_) | refine jL (fun bk => ?_)) | (show WC _ _ _ _ _ _; first | refine jM ?_ | refine jN ?_ | refine jO ?_ | refine jP ?_ | refine jR ?_ | refine jS ?_ | refine jT ?_ | refine jU ?_) | (show WQ _ _ _ _; with_reducible first | refine jV ?_ | refine jW ?_ | refine jX ?_ | refine jY ?_ | refine jZ ?_ | refine kA ?_ | refine kB ?_ | refine kC ?_) | ((first | (refine jG (fun hc => ?_) (fun hc => ?_) <;> rw [hc]) | refine jQ (fun hc => ?_) (fun hc => ?_)) <;> (try simp only [nrB] at hc) <;> (try (exfalso; first | omega | exact hc trivial | exact hc rfl)))))
          refine WQ_round (X := Nat) (μ := fun j => ls.length - j) (x := j) (j + 1) (by omega) (by omega) (by repeat (first | exact Sub.nil | refine Sub.cons rfl ?_ | refine Sub.cons (lk_int rfl (by first | omega | (dsimp only; omega))) ?_)) (fun w h => h)
        · have hg : l.getD j 0 ≠ n := fun he => hc (by omega)
          rw [if_neg hg] at hcs
          have hcs2 : cn (l.take (j + 1)) n = cn (l.take j) n := hcs
          rw [← hcs2]
          refine WQ_round (X := Nat) (μ := fun j => ls.length - j) (x := j) (j + 1) (by omega) (by omega) (by repeat (first | exact Sub.nil | refine Sub.cons rfl ?_ | refine Sub.cons (lk_int rfl (by first | omega | (dsimp only; omega))) ?_)) ?_
          rw [← outs_skip hg]
          exact fun w h => h
      · have hje : j = l.length := by omega
        subst hje
        rw [List.take_length, ← nx_next l hn1, outs_next hn1]
        refine WQ_round (X := Nat) (μ := fun n => 16 - n) (x := n) (n + 1) (by omega) ⟨by omega, by omega⟩ (by repeat (first | exact Sub.nil | refine Sub.cons rfl ?_ | refine Sub.cons (lk_int rfl (by first | omega | (dsimp only; omega))) ?_)) (fun w h => h)
    · have hn16 : n = 16 := by omega
      subst hn16
      rw [outs_end h15]
      (first | refine WQ_retI rfl rfl ?_ | refine WQ_endI rfl rfl ?_)
      have hcl : (cds l).length = ls.length := by simp [cds, hlen]
      refine ⟨[(bn, cl (wnv (cds l)) 28)] :: L, iC, _, _, by rw [e1]; rfl, rfl, ?_⟩
      rw [e2, hcl]
      exact .inr ⟨bn, ls.length, [], rfl, by rw [List.append_nil], by rw [wnv_length, hcl, Nat.mul_one], by simp, Nat.le_refl _, by simp [maxLen]; omega⟩
end Go.Proofs.YtkiaegkojlhaeaaDoor
