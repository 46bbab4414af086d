/- Package inflate: blocks of codes of their own. It proves no statement by itself. No conditions. -/
import Derived.Test.YtkiaegkojlhaeaaDoorIp
namespace Go.If
open Go.Vx Go.Hf
set_option linter.all false
def ordL : List Nat := [16, 17, 18, 0, 8, 7, 9, 6, 10, 5, 11, 4, 12, 3, 13, 2, 14, 1, 15]
def rpB (k : Nat) : Nat := if k = 16 then 2 else if k = 17 then 3 else if k = 18 then 7 else 0
def rpA (k : Nat) : Nat := if k = 16 then 3 else if k = 17 then 3 else if k = 18 then 11 else 1
def rpV (k : Nat) (l : List Nat) : Nat := if k = 16 then l.getD (l.length - 1) 0 else if k = 17 ∨ k = 18 then 0 else k
/-- One length, or some: the state. -/
def rpS [W0] (d : List UInt8) (own : List Nat) (m : Nat) (s : S6) (l : List Nat) : S6 :=
  if (sy d s own).e ≠ 0 then sy d s own
  else if (tk d (sy d s own) (rpB (sv d s own))).e ≠ 0 then tk d (sy d s own) (rpB (sv d s own))
  else if (sv d s own = 16 ∧ l = []) ∨ m < l.length + (rpA (sv d s own) + tv d (sy d s own) (rpB (sv d s own))) then fl (tk d (sy d s own) (rpB (sv d s own))) 3
  else tk d (sy d s own) (rpB (sv d s own))
/-- The lengths so far. -/
def rpL [W0] (d : List UInt8) (own : List Nat) (s : S6) (l : List Nat) : List Nat := l ++ List.replicate (rpA (sv d s own) + tv d (sy d s own) (rpB (sv d s own))) (rpV (sv d s own) l)
def lpS [W0] (d : List UInt8) (own : List Nat) (m : Nat) : Nat → S6 → List Nat → S6 × List Nat
  | 0, s, l => (s, l)
  | f + 1, s, l => if s.e = 0 ∧ l.length < m then (if (rpS d own m s l).e = 0 then lpS d own m f (rpS d own m s l) (rpL d own s l) else (rpS d own m s l, l)) else (s, l)
def owS [W0] (d : List UInt8) : Nat → Nat → S6 → List Nat → S6 × List Nat
  | 0, _, s, o => (s, o)
  | k + 1, i, s, o => if (tk d s 3).e ≠ 0 then (tk d s 3, o) else owS d k (i + 1) (tk d s 3) (o.set (ordL.getD i 0) (tv d s 3))
/-- The code of the lengths. -/
def lcS [W0] (d : List UInt8) (s : S6) : S6 × List Nat :=
  if (tk d s 4).e ≠ 0 then (tk d s 4, [])
  else if (owS d (4 + tv d s 4) 0 (tk d s 4) (List.replicate 19 0)).1.e ≠ 0 then owS d (4 + tv d s 4) 0 (tk d s 4) (List.replicate 19 0)
  else if kS (owS d (4 + tv d s 4) 0 (tk d s 4) (List.replicate 19 0)).2 = 32768 then owS d (4 + tv d s 4) 0 (tk d s 4) (List.replicate 19 0)
  else (fl (owS d (4 + tv d s 4) 0 (tk d s 4) (List.replicate 19 0)).1 3, [])
def dyK (n1 : Nat) (q : S6 × List Nat) : S6 × List Nat × Nat :=
  if q.2.getD 256 0 ≠ 0 ∧ kS (q.2.take n1) = 32768 ∧ (kS (q.2.drop n1) = 32768 ∨ sgl (q.2.drop n1) = true) then (q.1, q.2, n1) else (fl q.1 3, [], 0)
def dyT [W0] (d : List UInt8) (n1 n2 : Nat) (s : S6) : S6 × List Nat × Nat :=
  if (lcS d s).1.e ≠ 0 then ((lcS d s).1, [], 0)
  else if (lpS d (lcS d s).2 (n1 + n2) (n1 + n2) (lcS d s).1 []).1.e ≠ 0 then ((lpS d (lcS d s).2 (n1 + n2) (n1 + n2) (lcS d s).1 []).1, [], 0)
  else dyK n1 (lpS d (lcS d s).2 (n1 + n2) (n1 + n2) (lcS d s).1 [])
/-- What a block of codes of its own begins with. -/
def dyS [W0] (d : List UInt8) (s : S6) : S6 × List Nat × Nat :=
  if (tk d s 5).e ≠ 0 then (tk d s 5, [], 0)
  else if 29 < tv d s 5 then (fl (tk d s 5) 3, [], 0)
  else if (tk d (tk d s 5) 5).e ≠ 0 then (tk d (tk d s 5) 5, [], 0)
  else if 29 < tv d (tk d s 5) 5 then (fl (tk d (tk d s 5) 5) 3, [], 0)
  else dyT d (257 + tv d s 5) (1 + tv d (tk d s 5) 5) (tk d (tk d s 5) 5)
theorem fl3 {s : S6} (h : s.e = 0) (k : Nat) : (fl s k).e = k := by rw [fl_e, if_pos h]
theorem ow_facts [W0] (d : List UInt8) : ∀ k i s o, s.e = 0 → s.t ≤ 8 * d.length → o.length = 19 → (∀ x ∈ o, x ≤ 7) → (owS d k i s o).2.length = 19 ∧ (∀ x ∈ (owS d k i s o).2, x ≤ 7) ∧ (owS d k i s o).1.out = s.out
  | 0, i, s, o, he, ht, h1, h2 => ⟨h1, h2, rfl⟩
  | k + 1, i, s, o, he, ht, h1, h2 => by
    rw [owS]
    split
    · exact ⟨h1, h2, tk_out _ _ _⟩
    · rename_i h
      have h0 : (tk d s 3).e = 0 := by omega
      have hb : tv d s 3 < 2 ^ 3 := by
        unfold tv
        split
        · exact Nat.mod_lt _ (by decide)
        · decide
      have ht2 : (tk d s 3).t ≤ 8 * d.length := by
        unfold tk
        split
        · assumption
        · rw [fl_t]; exact ht
      have := ow_facts d k (i + 1) (tk d s 3) (o.set (ordL.getD i 0) (tv d s 3)) h0 ht2 (by rw [List.length_set]; exact h1) (fun x hx => by
        rcases List.mem_or_eq_of_mem_set hx with h | rfl
        · exact h2 x h
        · omega)
      exact ⟨this.1, this.2.1, by rw [this.2.2, tk_out]⟩
theorem rpA_pos (k : Nat) : 1 ≤ rpA k ∧ rpA k ≤ 11 := by unfold rpA; repeat' split
                                                         all_goals omega
theorem rpB_le (k : Nat) : rpB k ≤ 7 := by unfold rpB; repeat' split
                                           all_goals omega
end Go.If
namespace Go.Proofs.YtkiaegkojlhaeaaDoor
open Go Go.Vx Go.Hf Go.If
variable [W0]
set_option maxRecDepth 4000
set_option linter.all false
omit [W0] in
/-- The table is laid. -/
def OrAt (L : List Chunk) : Prop := ∃ c T fr, Fnd L 0 (.cells c T fr) ∧ ∀ i, i < 19 → c[i]? = some (.int .i64 (ordL.getD i 0 : Int))
theorem OrAt.there {L : List Chunk} {C : Chunk} (h : OrAt L) : OrAt (C :: L) := by
  obtain ⟨c, T, fr, h1, h2⟩ := h
  exact ⟨c, T, fr, h1.there, h2⟩

set_option maxHeartbeats 2000000 in
theorem lengthOf_n (k : Nat) (a : Option Addr) (c : Nat) (l : List Nat) (L : List Chunk) (h : Sl L 1 (.slice a l.length c) l.length (ivn l)) (hk : k ≤ 400) (hl : l.length ≤ 1000) (h1 : ¬ (k = 16 ∧ l = [])) :
    GvP Tryd.prog 83 [.int .i64 (k : Int), .slice a l.length c].toArray L (.int .i64 ((rpV k l : Nat) : Int)) := by
  refine Gv.of_body Tryd.func83 rfl rfl ?_
  unfold rpV
  (repeat' (first | (show WL _ _ _ _ _ _ _; first | refine jA ?_ | refine jB ?_ | refine jC ?_ | refine jD ?_ | refine jE ?_ | refine jF ?_) | (show OW _ _ _ _ _ _; first | refine OW_E ?_ | refine jI ?_ | refine jJ ?_ | refine jK (fun bk => ?_) | refine jL (fun bk => ?_)) | (show WC _ _ _ _ _ _; first | refine jM ?_ | refine jN ?_ | refine jO ?_ | refine jP ?_ | refine jR ?_ | refine jS ?_ | refine jT ?_ | refine jU ?_) | (show WQ _ _ _ _; with_reducible first | refine jV ?_ | refine jW ?_ | refine jX ?_ | refine jY ?_ | refine jZ ?_ | refine kA ?_ | refine kB ?_ | refine kC ?_) | ((first | (refine jG (fun hc => ?_) (fun hc => ?_) <;> rw [hc]) | refine jQ (fun hc => ?_) (fun hc => ?_)) <;> (try simp only [nrB] at hc) <;> (try (exfalso; first | omega | exact hc trivial | exact hc rfl)))))
  · have h16 : k = 16 := by omega
    have hne : 0 < l.length := List.length_pos_iff.2 fun hh => h1 ⟨h16, hh⟩
    rw [if_pos h16]
    obtain ⟨x, hx⟩ : ∃ x, l[l.length - 1]? = some x := ⟨l[l.length - 1], List.getElem?_eq_getElem (by omega)⟩
    obtain ⟨b, off, cap, cc, T, fr, hve, hfn, hcell⟩ := sl_at h (ivn_get hx)
    injection hve with q1 q2 q3
    subst q1 q3
    clear q2
    rw [show l.getD (l.length - 1) 0 = x from by simp [List.getD, hx]]
    rw [show (l.length : Int) - 1 = ((l.length - 1 : Nat) : Int) from by omega]
    refine OW_EV (EV_indexAddr (j := l.length - 1) rfl rfl rfl (by omega)) rfl ?_
    (repeat' (first | (show WL _ _ _ _ _ _ _; first | refine jA ?_ | refine jB ?_ | refine jC ?_ | refine jD ?_ | refine jE ?_ | refine jF ?_) | (show OW _ _ _ _ _ _; first | refine OW_E ?_ | refine jI ?_ | refine jJ ?_ | refine jK (fun bk => ?_) | refine jL (fun bk => ?_)) | (show WC _ _ _ _ _ _; first | refine jM ?_ | refine jN ?_ | refine jO ?_ | refine jP ?_ | refine jR ?_ | refine jS ?_ | refine jT ?_ | refine jU ?_) | (show WQ _ _ _ _; with_reducible first | refine jV ?_ | refine jW ?_ | refine jX ?_ | refine jY ?_ | refine jZ ?_ | refine kA ?_ | refine kB ?_ | refine kC ?_) | ((first | (refine jG (fun hc => ?_) (fun hc => ?_) <;> rw [hc]) | refine jQ (fun hc => ?_) (fun hc => ?_)) <;> (try simp only [nrB] at hc) <;> (try (exfalso; first | omega | exact hc trivial | exact hc rfl)))))
    refine OW_EV (EV_load rfl hfn hcell) rfl ?_
    (repeat' (first | (show WL _ _ _ _ _ _ _; first | refine jA ?_ | refine jB ?_ | refine jC ?_ | refine jD ?_ | refine jE ?_ | refine jF ?_) | (show OW _ _ _ _ _ _; first | refine OW_E ?_ | refine jI ?_ | refine jJ ?_ | refine jK (fun bk => ?_) | refine jL (fun bk => ?_)) | (show WC _ _ _ _ _ _; first | refine jM ?_ | refine jN ?_ | refine jO ?_ | refine jP ?_ | refine jR ?_ | refine jS ?_ | refine jT ?_ | refine jU ?_) | (show WQ _ _ _ _; with_reducible first | refine jV ?_ | refine jW ?_ | refine jX ?_ | refine jY ?_ | refine jZ ?_ | refine kA ?_ | refine kB ?_ | refine kC ?_) | ((first | (refine jG (fun hc => ?_) (fun hc => ?_) <;> rw [hc]) | refine jQ (fun hc => ?_) (fun hc => ?_)) <;> (try simp only [nrB] at hc) <;> (try (exfalso; first | omega | exact hc trivial | exact hc rfl)))))
    ((first | refine WQ_retI rfl rfl ?_ | refine WQ_endI rfl rfl ?_); exact ⟨_, iC, rfl, rfl⟩)
  · rw [if_neg (by omega), if_pos (by omega)]
    ((first | refine WQ_retI rfl rfl ?_ | refine WQ_endI rfl rfl ?_); exact ⟨_, iC, rfl, rfl⟩)
  · rw [if_neg (by omega), if_pos (by omega)]
    ((first | refine WQ_retI rfl rfl ?_ | refine WQ_endI rfl rfl ?_); exact ⟨_, iC, rfl, rfl⟩)
  · rw [if_neg (by omega), if_neg (by omega)]
    ((first | refine WQ_retI rfl rfl ?_ | refine WQ_endI rfl rfl ?_); exact ⟨_, iC, rfl, rfl⟩)

set_option maxHeartbeats 2000000 in
theorem prun_n (p q most k : Nat) (v kn : Value) (d : List UInt8) (s : S6) (D E : Chunk) (L : List Chunk) (h : RdN q d s.t D E) (hl : d.length ≤ 140737488355328) (he : s.e = 0) (hk : k ≤ 400) :
    Gv Tryd.prog 82 [.pointer (some ⟨p, 0, none⟩), .int .i64 (k : Int)].toArray (rdR p q v most kn :: D :: E :: L) (fun r L' =>
      ((tk d s (rpB k)).e ≠ 0 ∧ r = .tuple #[.int .i64 0, .int .i64 ((tk d s (rpB k)).e : Int)] ∧ L' = L) ∨
      ((tk d s (rpB k)).e = 0 ∧ r = .tuple #[.int .i64 ((rpA k + tv d s (rpB k) : Nat) : Int), .int .i64 0] ∧ ∃ D', RdN q d (tk d s (rpB k)).t D' E ∧ L' = rdR p q v most kn :: D' :: E :: L)) := by
  refine Gv.of_body Tryd.func82 rfl rfl ?_
  have hpc := fun n least h1 h2 => pcount_n p q most n least v kn d s D E L h hl h1 he h2
  have key : ∀ (n least : Nat), rpB k = n → rpA k = least → n ≤ 32 → least ≤ 1000000 → ∀ r L', (((tk d s n).e ≠ 0 ∧ r = Value.tuple #[.int .i64 0, .int .i64 ((tk d s n).e : Int)] ∧ L' = L) ∨
      ((tk d s n).e = 0 ∧ r = .tuple #[.int .i64 ((least + tv d s n : Nat) : Int), .int .i64 0] ∧ ∃ D', RdN q d (tk d s n).t D' E ∧ L' = rdR p q v most kn :: D' :: E :: L)) → ∃ x y, r = .tuple #[x, y] ∧ (((tk d s (rpB k)).e ≠ 0 ∧ r = Value.tuple #[.int .i64 0, .int .i64 ((tk d s (rpB k)).e : Int)] ∧ L' = L) ∨
      ((tk d s (rpB k)).e = 0 ∧ r = .tuple #[.int .i64 ((rpA k + tv d s (rpB k) : Nat) : Int), .int .i64 0] ∧ ∃ D', RdN q d (tk d s (rpB k)).t D' E ∧ L' = rdR p q v most kn :: D' :: E :: L)) := by
    intro n least e1 e2 _ _ r L' hp
    subst e1 e2
    rcases hp with ⟨h1, rfl, h3⟩ | ⟨h1, rfl, h3⟩
    · exact ⟨_, _, rfl, .inl ⟨h1, rfl, h3⟩⟩
    · exact ⟨_, _, rfl, .inr ⟨h1, rfl, h3⟩⟩
  (repeat' (first | (show WL _ _ _ _ _ _ _; first | refine jA ?_ | refine jB ?_ | refine jC ?_ | refine jD ?_ | refine jE ?_ | refine jF ?_) | (show OW _ _ _ _ _ _; first | refine OW_E ?_ | refine jI ?_ | refine jJ ?_ | refine jK (fun bk => ?_) | refine jL (fun bk => ?_)) | (show WC _ _ _ _ _ _; first | refine jM ?_ | refine jN ?_ | refine jO ?_ | refine jP ?_ | refine jR ?_ | refine jS ?_ | refine jT ?_ | refine jU ?_) | (show WQ _ _ _ _; with_reducible first | refine jV ?_ | refine jW ?_ | refine jX ?_ | refine jY ?_ | refine jZ ?_ | refine kA ?_ | refine kB ?_ | refine kC ?_) | ((first | (refine jG (fun hc => ?_) (fun hc => ?_) <;> rw [hc]) | refine jQ (fun hc => ?_) (fun hc => ?_)) <;> (try simp only [nrB] at hc) <;> (try (exfalso; first | omega | exact hc trivial | exact hc rfl)))))
  · have h16 : k = 16 := by omega
    refine OW_call rfl rfl rfl (hpc 2 3 (by decide) (by decide)) rfl (fun r L' hp => ?_)
    obtain ⟨x, y, rfl, hp⟩ := key 2 3 (by rw [h16]; rfl) (by rw [h16]; rfl) (by decide) (by decide) r L' hp
    (repeat' (first | (show WL _ _ _ _ _ _ _; first | refine jA ?_ | refine jB ?_ | refine jC ?_ | refine jD ?_ | refine jE ?_ | refine jF ?_) | (show OW _ _ _ _ _ _; first | refine OW_E ?_ | refine jI ?_ | refine jJ ?_ | refine jK (fun bk => ?_) | refine jL (fun bk => ?_)) | (show WC _ _ _ _ _ _; first | refine jM ?_ | refine jN ?_ | refine jO ?_ | refine jP ?_ | refine jR ?_ | refine jS ?_ | refine jT ?_ | refine jU ?_) | (show WQ _ _ _ _; with_reducible first | refine jV ?_ | refine jW ?_ | refine jX ?_ | refine jY ?_ | refine jZ ?_ | refine kA ?_ | refine kB ?_ | refine kC ?_) | ((first | (refine jG (fun hc => ?_) (fun hc => ?_) <;> rw [hc]) | refine jQ (fun hc => ?_) (fun hc => ?_)) <;> (try simp only [nrB] at hc) <;> (try (exfalso; first | omega | exact hc trivial | exact hc rfl)))))
    (first | refine WQ_retI rfl rfl ?_ | refine WQ_endI rfl rfl ?_)
    exact ⟨_, iC, hp⟩
  · have h17 : k = 17 := by omega
    refine OW_call rfl rfl rfl (hpc 3 3 (by decide) (by decide)) rfl (fun r L' hp => ?_)
    obtain ⟨x, y, rfl, hp⟩ := key 3 3 (by rw [h17]; rfl) (by rw [h17]; rfl) (by decide) (by decide) r L' hp
    (repeat' (first | (show WL _ _ _ _ _ _ _; first | refine jA ?_ | refine jB ?_ | refine jC ?_ | refine jD ?_ | refine jE ?_ | refine jF ?_) | (show OW _ _ _ _ _ _; first | refine OW_E ?_ | refine jI ?_ | refine jJ ?_ | refine jK (fun bk => ?_) | refine jL (fun bk => ?_)) | (show WC _ _ _ _ _ _; first | refine jM ?_ | refine jN ?_ | refine jO ?_ | refine jP ?_ | refine jR ?_ | refine jS ?_ | refine jT ?_ | refine jU ?_) | (show WQ _ _ _ _; with_reducible first | refine jV ?_ | refine jW ?_ | refine jX ?_ | refine jY ?_ | refine jZ ?_ | refine kA ?_ | refine kB ?_ | refine kC ?_) | ((first | (refine jG (fun hc => ?_) (fun hc => ?_) <;> rw [hc]) | refine jQ (fun hc => ?_) (fun hc => ?_)) <;> (try simp only [nrB] at hc) <;> (try (exfalso; first | omega | exact hc trivial | exact hc rfl)))))
    (first | refine WQ_retI rfl rfl ?_ | refine WQ_endI rfl rfl ?_)
    exact ⟨_, iC, hp⟩
  · have h18 : k = 18 := by omega
    refine OW_call rfl rfl rfl (hpc 7 11 (by decide) (by decide)) rfl (fun r L' hp => ?_)
    obtain ⟨x, y, rfl, hp⟩ := key 7 11 (by rw [h18]; rfl) (by rw [h18]; rfl) (by decide) (by decide) r L' hp
    (repeat' (first | (show WL _ _ _ _ _ _ _; first | refine jA ?_ | refine jB ?_ | refine jC ?_ | refine jD ?_ | refine jE ?_ | refine jF ?_) | (show OW _ _ _ _ _ _; first | refine OW_E ?_ | refine jI ?_ | refine jJ ?_ | refine jK (fun bk => ?_) | refine jL (fun bk => ?_)) | (show WC _ _ _ _ _ _; first | refine jM ?_ | refine jN ?_ | refine jO ?_ | refine jP ?_ | refine jR ?_ | refine jS ?_ | refine jT ?_ | refine jU ?_) | (show WQ _ _ _ _; with_reducible first | refine jV ?_ | refine jW ?_ | refine jX ?_ | refine jY ?_ | refine jZ ?_ | refine kA ?_ | refine kB ?_ | refine kC ?_) | ((first | (refine jG (fun hc => ?_) (fun hc => ?_) <;> rw [hc]) | refine jQ (fun hc => ?_) (fun hc => ?_)) <;> (try simp only [nrB] at hc) <;> (try (exfalso; first | omega | exact hc trivial | exact hc rfl)))))
    (first | refine WQ_retI rfl rfl ?_ | refine WQ_endI rfl rfl ?_)
    exact ⟨_, iC, hp⟩
  · have e1 : rpB k = 0 := by unfold rpB; rw [if_neg (by omega), if_neg (by omega), if_neg (by omega)]
    have e2 : rpA k = 1 := by unfold rpA; rw [if_neg (by omega), if_neg (by omega), if_neg (by omega)]
    rw [e1, e2, tk_zero h.1, tv_zero]
    refine WQ_retI (rs := [.tmp 4, .tmp 5]) (vs := [.int .i64 1, .int .i64 0]) rfl rfl ?_
    exact ⟨_, iC, .inr ⟨he, rfl, D, h, rfl⟩⟩

set_option maxHeartbeats 4000000 in
theorem lengthCode_n (p q most : Nat) (v kn : Value) (d : List UInt8) (s : S6) (D E : Chunk) (L : List Chunk) (h : RdN q d s.t D E) (hl : d.length ≤ 140737488355328) (he : s.e = 0) (hor : OrAt L) :
    Gv Tryd.prog 81 [.pointer (some ⟨p, 0, none⟩)].toArray (rdR p q v most kn :: D :: E :: L) (fun r L' =>
      ((lcS d s).1.e ≠ 0 ∧ r = .tuple #[.pointer none, .int .i64 ((lcS d s).1.e : Int)] ∧ L' = L) ∨
      ((lcS d s).1.e = 0 ∧ ∃ pc Co D', r = .tuple #[.pointer (some ⟨pc, 0, none⟩), .int .i64 0] ∧ RdN q d (lcS d s).1.t D' E ∧ CoD (lcS d s).2 pc Co ∧ kS (lcS d s).2 = 32768 ∧ (lcS d s).2.length = 19 ∧ (∀ x ∈ (lcS d s).2, x ≤ 7) ∧ (lcS d s).1.out = s.out ∧ L' = rdR p q v most kn :: D' :: E :: Co :: L)) := by
  refine Gv.of_body Tryd.func81 rfl rfl ?_
  have hc := pcount_n p q most 4 4 v kn d s D E L h hl (by decide) he (by decide)
  have hto := tk_out d s 4
  have htv := tv_lt d s 4
  have htt : (tk d s 4).e = 0 → (tk d s 4).t ≤ 8 * d.length := fun h0 => by
    unfold tk at h0 ⊢
    split
    · assumption
    · rw [fl_t]; exact h.1
  unfold lcS
  generalize tv d s 4 = n at hc htv ⊢
  generalize tk d s 4 = s1 at hc hto htt ⊢
  (repeat' (first | (show WL _ _ _ _ _ _ _; first | refine jA ?_ | refine jB ?_ | refine jC ?_ | refine jD ?_ | refine jE ?_ | refine jF ?_) | (show OW _ _ _ _ _ _; first | refine OW_E ?_ | refine jI ?_ | refine jJ ?_ | refine jK (fun bk => ?_) | refine jL (fun bk => ?_)) | (show WC _ _ _ _ _ _; first | refine jM ?_ | refine jN ?_ | refine jO ?_ | refine jP ?_ | refine jR ?_ | refine jS ?_ | refine jT ?_ | refine jU ?_) | (show WQ _ _ _ _; with_reducible first | refine jV ?_ | refine jW ?_ | refine jX ?_ | refine jY ?_ | refine jZ ?_ | refine kA ?_ | refine kB ?_ | refine kC ?_) | ((first | (refine jG (fun hc => ?_) (fun hc => ?_) <;> rw [hc]) | refine jQ (fun hc => ?_) (fun hc => ?_)) <;> (try simp only [nrB] at hc) <;> (try (exfalso; first | omega | exact hc trivial | exact hc rfl)))))
  refine OW_call rfl rfl rfl hc rfl (fun r L' hp => ?_)
  rcases hp with ⟨h1, rfl, rfl⟩ | ⟨h1, rfl, D1, hr1, rfl⟩
  · rw [if_pos h1]
    (repeat' (first | (show WL _ _ _ _ _ _ _; first | refine jA ?_ | refine jB ?_ | refine jC ?_ | refine jD ?_ | refine jE ?_ | refine jF ?_) | (show OW _ _ _ _ _ _; first | refine OW_E ?_ | refine jI ?_ | refine jJ ?_ | refine jK (fun bk => ?_) | refine jL (fun bk => ?_)) | (show WC _ _ _ _ _ _; first | refine jM ?_ | refine jN ?_ | refine jO ?_ | refine jP ?_ | refine jR ?_ | refine jS ?_ | refine jT ?_ | refine jU ?_) | (show WQ _ _ _ _; with_reducible first | refine jV ?_ | refine jW ?_ | refine jX ?_ | refine jY ?_ | refine jZ ?_ | refine kA ?_ | refine kB ?_ | refine kC ?_) | ((first | (refine jG (fun hc => ?_) (fun hc => ?_) <;> rw [hc]) | refine jQ (fun hc => ?_) (fun hc => ?_)) <;> (try simp only [nrB] at hc) <;> (try (exfalso; first | omega | exact hc trivial | exact hc rfl)))))
    refine WQ_retI (rs := [.tmp 2, .tmp 3]) (vs := [.pointer none, .int .i64 (s1.e : Int)]) rfl rfl ?_
    exact ⟨_, iC, .inl ⟨h1, rfl, rfl⟩⟩
  rw [if_neg (show ¬ s1.e ≠ 0 by omega)]
  have hfa := ow_facts d (4 + n) 0 s1 (List.replicate 19 0) h1 (htt h1) (by simp) (by simp)
  generalize hR : owS d (4 + n) 0 s1 (List.replicate 19 0) = R at hfa ⊢
  rw [hto] at hfa
  (repeat' (first | (show WL _ _ _ _ _ _ _; first | refine jA ?_ | refine jB ?_ | refine jC ?_ | refine jD ?_ | refine jE ?_ | refine jF ?_) | (show OW _ _ _ _ _ _; first | refine OW_E ?_ | refine jI ?_ | refine jJ ?_ | refine jK (fun bk => ?_) | refine jL (fun bk => ?_)) | (show WC _ _ _ _ _ _; first | refine jM ?_ | refine jN ?_ | refine jO ?_ | refine jP ?_ | refine jR ?_ | refine jS ?_ | refine jT ?_ | refine jU ?_) | (show WQ _ _ _ _; with_reducible first | refine jV ?_ | refine jW ?_ | refine jX ?_ | refine jY ?_ | refine jZ ?_ | refine kA ?_ | refine kB ?_ | refine kC ?_) | ((first | (refine jG (fun hc => ?_) (fun hc => ?_) <;> rw [hc]) | refine jQ (fun hc => ?_) (fun hc => ?_)) <;> (try simp only [nrB] at hc) <;> (try (exfalso; first | omega | exact hc trivial | exact hc rfl)))))
  refine OW_makeSlice (m := 19) (c := 19) rfl rfl (by rfl) (by omega) (by omega) (by omega) rfl (fun b => ?_)
  rw [zeros_int]
  (repeat' (first | (show WL _ _ _ _ _ _ _; first | refine jA ?_ | refine jB ?_ | refine jC ?_ | refine jD ?_ | refine jE ?_ | refine jF ?_) | (show OW _ _ _ _ _ _; first | refine OW_E ?_ | refine jI ?_ | refine jJ ?_ | refine jK (fun bk => ?_) | refine jL (fun bk => ?_)) | (show WC _ _ _ _ _ _; first | refine jM ?_ | refine jN ?_ | refine jO ?_ | refine jP ?_ | refine jR ?_ | refine jS ?_ | refine jT ?_ | refine jU ?_) | (show WQ _ _ _ _; with_reducible first | refine jV ?_ | refine jW ?_ | refine jX ?_ | refine jY ?_ | refine jZ ?_ | refine kA ?_ | refine kB ?_ | refine kC ?_) | ((first | (refine jG (fun hc => ?_) (fun hc => ?_) <;> rw [hc]) | refine jQ (fun hc => ?_) (fun hc => ?_)) <;> (try simp only [nrB] at hc) <;> (try (exfalso; first | omega | exact hc trivial | exact hc rfl)))))
  unfold rdR
  refine WC_loop (X := Nat × S6 × List Nat × Chunk) (fun x => [(0, .pointer (some ⟨p, 0, none⟩)), (6, .slice (some ⟨b, 0, none⟩) 19 19), (19, .int .i64 ((4 + n : Nat) : Int)), (20, .int .i64 (x.1 : Int))]) (fun x => [(b, cl (ivn x.2.2.1) 3)] :: rdR p q v most kn :: x.2.2.2 :: E :: L)
    (fun x => x.1 ≤ 4 + n ∧ x.2.1.e = 0 ∧ RdN q d x.2.1.t x.2.2.2 E ∧ x.2.2.1.length = 19 ∧ owS d (4 + n - x.1) x.1 x.2.1 x.2.2.1 = R) (fun x => 4 + n - x.1) (0, s1, List.replicate 19 0, D1) ⟨Nat.zero_le _, h1, hr1, by simp, hR⟩ (by repeat (first | exact Sub.nil | refine Sub.cons rfl ?_ | refine Sub.cons (lk_int rfl (by first | omega | (dsimp only; omega))) ?_)) (fun w h => h) ?_
  rintro ⟨i, s5, o, D5⟩ ⟨hi, he5, hr5, hol, hsl⟩
  simp only at hi he5 hr5 hol hsl ⊢
  (repeat' (first | (show WL _ _ _ _ _ _ _; first | refine jA ?_ | refine jB ?_ | refine jC ?_ | refine jD ?_ | refine jE ?_ | refine jF ?_) | (show OW _ _ _ _ _ _; first | refine OW_E ?_ | refine jI ?_ | refine jJ ?_ | refine jK (fun bk => ?_) | refine jL (fun bk => ?_)) | (show WC _ _ _ _ _ _; first | refine jM ?_ | refine jN ?_ | refine jO ?_ | refine jP ?_ | refine jR ?_ | refine jS ?_ | refine jT ?_ | refine jU ?_) | (show WQ _ _ _ _; with_reducible first | refine jV ?_ | refine jW ?_ | refine jX ?_ | refine jY ?_ | refine jZ ?_ | refine kA ?_ | refine kB ?_ | refine kC ?_) | ((first | (refine jG (fun hc => ?_) (fun hc => ?_) <;> rw [hc]) | refine jQ (fun hc => ?_) (fun hc => ?_)) <;> (try simp only [nrB] at hc) <;> (try (exfalso; first | omega | exact hc trivial | exact hc rfl)))))
  · obtain ⟨k2, hk2⟩ : ∃ k2, 4 + n - i = k2 + 1 := ⟨4 + n - i - 1, by omega⟩
    have hk3 : 4 + n - (i + 1) = k2 := by omega
    have htk := ptake_n p q most 3 v kn d s5 D5 E ([(b, cl (ivn o) 3)] :: L) hr5 hl (by decide) he5
    rw [hk2, owS] at hsl
    generalize tv d s5 3 = z at htk hsl
    generalize tk d s5 3 = s6 at htk hsl
    refine OW_call rfl rfl rfl (Gv.holds htk (fun w h => iH h)) rfl (fun r L' hp => ?_)
    rcases hp with ⟨h6, rfl, rfl⟩ | ⟨h6, rfl, D6, hr6, rfl⟩
    · rw [if_pos h6] at hsl
      subst hsl
      rw [if_pos (by exact h6)]
      (repeat' (first | (show WL _ _ _ _ _ _ _; first | refine jA ?_ | refine jB ?_ | refine jC ?_ | refine jD ?_ | refine jE ?_ | refine jF ?_) | (show OW _ _ _ _ _ _; first | refine OW_E ?_ | refine jI ?_ | refine jJ ?_ | refine jK (fun bk => ?_) | refine jL (fun bk => ?_)) | (show WC _ _ _ _ _ _; first | refine jM ?_ | refine jN ?_ | refine jO ?_ | refine jP ?_ | refine jR ?_ | refine jS ?_ | refine jT ?_ | refine jU ?_) | (show WQ _ _ _ _; with_reducible first | refine jV ?_ | refine jW ?_ | refine jX ?_ | refine jY ?_ | refine jZ ?_ | refine kA ?_ | refine kB ?_ | refine kC ?_) | ((first | (refine jG (fun hc => ?_) (fun hc => ?_) <;> rw [hc]) | refine jQ (fun hc => ?_) (fun hc => ?_)) <;> (try simp only [nrB] at hc) <;> (try (exfalso; first | omega | exact hc trivial | exact hc rfl)))))
      refine WQ_retI (rs := [.tmp 2, .tmp 3]) (vs := [.pointer none, .int .i64 (s6.e : Int)]) rfl rfl ?_
      exact ⟨_, iC, .inl ⟨h6, rfl, rfl⟩⟩
    rw [if_neg (show ¬ s6.e ≠ 0 by omega)] at hsl
    obtain ⟨tc, tT, tfr, hf1, hf2⟩ := hor
    have ho19 : ordL.getD i 0 < 19 := by
      have : ∀ j, j < 19 → ordL.getD j 0 < 19 := by decide
      exact this i (by omega)
    have hcell : tc[0 + i * 1]? = some (.int .i64 (ordL.getD i 0 : Int)) := by simpa using hf2 i (by omega)
    generalize ordL.getD i 0 = oi at hsl ho19 hcell
    (repeat' (first | (show WL _ _ _ _ _ _ _; first | refine jA ?_ | refine jB ?_ | refine jC ?_ | refine jD ?_ | refine jE ?_ | refine jF ?_) | (show OW _ _ _ _ _ _; first | refine OW_E ?_ | refine jI ?_ | refine jJ ?_ | refine jK (fun bk => ?_) | refine jL (fun bk => ?_)) | (show WC _ _ _ _ _ _; first | refine jM ?_ | refine jN ?_ | refine jO ?_ | refine jP ?_ | refine jR ?_ | refine jS ?_ | refine jT ?_ | refine jU ?_) | (show WQ _ _ _ _; with_reducible first | refine jV ?_ | refine jW ?_ | refine jX ?_ | refine jY ?_ | refine jZ ?_ | refine kA ?_ | refine kB ?_ | refine kC ?_) | ((first | (refine jG (fun hc => ?_) (fun hc => ?_) <;> rw [hc]) | refine jQ (fun hc => ?_) (fun hc => ?_)) <;> (try simp only [nrB] at hc) <;> (try (exfalso; first | omega | exact hc trivial | exact hc rfl)))))
    refine OW_EV (EV_indexAddrA' i rfl rfl rfl (by omega)) rfl ?_
    (repeat' (first | (show WL _ _ _ _ _ _ _; first | refine jA ?_ | refine jB ?_ | refine jC ?_ | refine jD ?_ | refine jE ?_ | refine jF ?_) | (show OW _ _ _ _ _ _; first | refine OW_E ?_ | refine jI ?_ | refine jJ ?_ | refine jK (fun bk => ?_) | refine jL (fun bk => ?_)) | (show WC _ _ _ _ _ _; first | refine jM ?_ | refine jN ?_ | refine jO ?_ | refine jP ?_ | refine jR ?_ | refine jS ?_ | refine jT ?_ | refine jU ?_) | (show WQ _ _ _ _; with_reducible first | refine jV ?_ | refine jW ?_ | refine jX ?_ | refine jY ?_ | refine jZ ?_ | refine kA ?_ | refine kB ?_ | refine kC ?_) | ((first | (refine jG (fun hc => ?_) (fun hc => ?_) <;> rw [hc]) | refine jQ (fun hc => ?_) (fun hc => ?_)) <;> (try simp only [nrB] at hc) <;> (try (exfalso; first | omega | exact hc trivial | exact hc rfl)))))
    refine OW_EV (EV_load rfl (by exact hf1.there.there.there.there) hcell) rfl ?_
    (repeat' (first | (show WL _ _ _ _ _ _ _; first | refine jA ?_ | refine jB ?_ | refine jC ?_ | refine jD ?_ | refine jE ?_ | refine jF ?_) | (show OW _ _ _ _ _ _; first | refine OW_E ?_ | refine jI ?_ | refine jJ ?_ | refine jK (fun bk => ?_) | refine jL (fun bk => ?_)) | (show WC _ _ _ _ _ _; first | refine jM ?_ | refine jN ?_ | refine jO ?_ | refine jP ?_ | refine jR ?_ | refine jS ?_ | refine jT ?_ | refine jU ?_) | (show WQ _ _ _ _; with_reducible first | refine jV ?_ | refine jW ?_ | refine jX ?_ | refine jY ?_ | refine jZ ?_ | refine kA ?_ | refine kB ?_ | refine kC ?_) | ((first | (refine jG (fun hc => ?_) (fun hc => ?_) <;> rw [hc]) | refine jQ (fun hc => ?_) (fun hc => ?_)) <;> (try simp only [nrB] at hc) <;> (try (exfalso; first | omega | exact hc trivial | exact hc rfl)))))
    refine OW_EV (EV_indexAddr (j := oi) rfl rfl rfl (by omega)) rfl ?_
    (repeat' (first | (show WL _ _ _ _ _ _ _; first | refine jA ?_ | refine jB ?_ | refine jC ?_ | refine jD ?_ | refine jE ?_ | refine jF ?_) | (show OW _ _ _ _ _ _; first | refine OW_E ?_ | refine jI ?_ | refine jJ ?_ | refine jK (fun bk => ?_) | refine jL (fun bk => ?_)) | (show WC _ _ _ _ _ _; first | refine jM ?_ | refine jN ?_ | refine jO ?_ | refine jP ?_ | refine jR ?_ | refine jS ?_ | refine jT ?_ | refine jU ?_) | (show WQ _ _ _ _; with_reducible first | refine jV ?_ | refine jW ?_ | refine jX ?_ | refine jY ?_ | refine jZ ?_ | refine kA ?_ | refine kB ?_ | refine kC ?_) | ((first | (refine jG (fun hc => ?_) (fun hc => ?_) <;> rw [hc]) | refine jQ (fun hc => ?_) (fun hc => ?_)) <;> (try simp only [nrB] at hc) <;> (try (exfalso; first | omega | exact hc trivial | exact hc rfl)))))
    have hse : (ivn o).set (0 + oi * 1) (.int .i64 (z : Int)) = ivn (o.set oi z) := by simp [ivn, List.map_set]
    refine OW_storeTo (ivn (o.set oi z)) rfl rfl rfl hse (by repeat (first | exact Upd.here | apply Upd.there)) (by rw [ivn_length]; omega) ?_
    (repeat' (first | (show WL _ _ _ _ _ _ _; first | refine jA ?_ | refine jB ?_ | refine jC ?_ | refine jD ?_ | refine jE ?_ | refine jF ?_) | (show OW _ _ _ _ _ _; first | refine OW_E ?_ | refine jI ?_ | refine jJ ?_ | refine jK (fun bk => ?_) | refine jL (fun bk => ?_)) | (show WC _ _ _ _ _ _; first | refine jM ?_ | refine jN ?_ | refine jO ?_ | refine jP ?_ | refine jR ?_ | refine jS ?_ | refine jT ?_ | refine jU ?_) | (show WQ _ _ _ _; with_reducible first | refine jV ?_ | refine jW ?_ | refine jX ?_ | refine jY ?_ | refine jZ ?_ | refine kA ?_ | refine kB ?_ | refine kC ?_) | ((first | (refine jG (fun hc => ?_) (fun hc => ?_) <;> rw [hc]) | refine jQ (fun hc => ?_) (fun hc => ?_)) <;> (try simp only [nrB] at hc) <;> (try (exfalso; first | omega | exact hc trivial | exact hc rfl)))))
    refine WQ_round (X := Nat × S6 × List Nat × Chunk) (μ := fun x => 4 + n - x.1) (x := (i, s5, o, D5)) (i + 1, s6, o.set oi z, D6) (by simp only; omega) ⟨by simp only; omega, h6, hr6, by simp only [List.length_set]; exact hol, by simp only; rw [hk3]; exact hsl⟩ (by repeat (first | exact Sub.nil | refine Sub.cons rfl ?_ | refine Sub.cons (lk_int rfl (by first | omega | (dsimp only; omega))) ?_)) (fun w h => iH h)
  · obtain rfl : i = 4 + n := by omega
    rw [show 4 + n - (4 + n) = 0 from by omega, owS] at hsl
    subst hsl
    simp only at hfa
    rw [if_neg (show ¬ (s5, o).1.e ≠ 0 from fun hh => hh he5)]
    have hcc := completeCode_n (some ⟨b, 0, none⟩) 19 o ([(b, cl (ivn o) 3)] :: rdR p q v most kn :: D5 :: E :: L) (by rw [hol]; exact sl_cells (c := (ivn o).toArray) Fnd.here (by rw [ivn_length, hol]) (by simp)) (fun x hx => by have := hfa.2.1 x hx; omega) (by omega)
    rw [hol] at hcc
    unfold rdR at hcc
    refine OW_call rfl rfl rfl hcc rfl (fun r L' hp => ?_)
    rcases hp with ⟨h7, rfl, rfl⟩ | ⟨h7, pc, Co, rfl, rfl, hco⟩
    · rw [if_neg (by exact h7)]
      simp only [fl3 he5]
      (repeat' (first | (show WL _ _ _ _ _ _ _; first | refine jA ?_ | refine jB ?_ | refine jC ?_ | refine jD ?_ | refine jE ?_ | refine jF ?_) | (show OW _ _ _ _ _ _; first | refine OW_E ?_ | refine jI ?_ | refine jJ ?_ | refine jK (fun bk => ?_) | refine jL (fun bk => ?_)) | (show WC _ _ _ _ _ _; first | refine jM ?_ | refine jN ?_ | refine jO ?_ | refine jP ?_ | refine jR ?_ | refine jS ?_ | refine jT ?_ | refine jU ?_) | (show WQ _ _ _ _; with_reducible first | refine jV ?_ | refine jW ?_ | refine jX ?_ | refine jY ?_ | refine jZ ?_ | refine kA ?_ | refine kB ?_ | refine kC ?_) | ((first | (refine jG (fun hc => ?_) (fun hc => ?_) <;> rw [hc]) | refine jQ (fun hc => ?_) (fun hc => ?_)) <;> (try simp only [nrB] at hc) <;> (try (exfalso; first | omega | exact hc trivial | exact hc rfl)))))
      (first | refine WQ_retI rfl rfl ?_ | refine WQ_endI rfl rfl ?_)
      exact ⟨_, iC, .inl ⟨by decide, rfl, rfl⟩⟩
    · rw [if_pos (by exact h7)]
      (repeat' (first | (show WL _ _ _ _ _ _ _; first | refine jA ?_ | refine jB ?_ | refine jC ?_ | refine jD ?_ | refine jE ?_ | refine jF ?_) | (show OW _ _ _ _ _ _; first | refine OW_E ?_ | refine jI ?_ | refine jJ ?_ | refine jK (fun bk => ?_) | refine jL (fun bk => ?_)) | (show WC _ _ _ _ _ _; first | refine jM ?_ | refine jN ?_ | refine jO ?_ | refine jP ?_ | refine jR ?_ | refine jS ?_ | refine jT ?_ | refine jU ?_) | (show WQ _ _ _ _; with_reducible first | refine jV ?_ | refine jW ?_ | refine jX ?_ | refine jY ?_ | refine jZ ?_ | refine kA ?_ | refine kB ?_ | refine kC ?_) | ((first | (refine jG (fun hc => ?_) (fun hc => ?_) <;> rw [hc]) | refine jQ (fun hc => ?_) (fun hc => ?_)) <;> (try simp only [nrB] at hc) <;> (try (exfalso; first | omega | exact hc trivial | exact hc rfl)))))
      (first | refine WQ_retI rfl rfl ?_ | refine WQ_endI rfl rfl ?_)
      exact ⟨_, iC, .inr ⟨he5, pc, Co, D5, rfl, hr5, hco, h7, hfa.1, hfa.2.1, hfa.2.2, rfl⟩⟩
end Go.Proofs.YtkiaegkojlhaeaaDoor
/- Package inflate: the lengths of a block's codes, and blocks of codes of their own. It proves no statement by itself. No conditions. -/
namespace Go.Hf
open Go.Vx
set_option linter.all false
theorem rdS_lt2 {l : List Nat} (hl : 0 < l.length) (w t z : Nat) : ∀ f n, (rdS l w t z f n).1 < l.length
  | 0, n => by simpa [rdS] using hl
  | f + 1, n => by
    have ih := rdS_lt2 hl w t z f (n + 1)
    unfold rdS
    split
    · rename_i i h
      exact (symAt_lt h).1
    · split
      · exact hl
      · split
        · exact hl
        · exact ih
end Go.Hf
namespace Go.If
open Go.Vx Go.Hf
set_option linter.all false
theorem sv_lt [W0] (d : List UInt8) (s : S6) {l : List Nat} (h : 0 < l.length) : sv d s l < l.length := by
  unfold sv
  split
  · exact rdS_lt2 h _ _ _ _ _
  · exact h
theorem rpV_le {k : Nat} {l : List Nat} (hk : k < 19) (h : ∀ x ∈ l, x ≤ 15) : rpV k l ≤ 15 := by
  unfold rpV
  split
  · by_cases hl : l.length - 1 < l.length
    · rw [show l.getD (l.length - 1) 0 = l[l.length - 1] from by simp [List.getD, hl]]
      exact h _ (List.getElem_mem hl)
    · rw [show l.getD (l.length - 1) 0 = 0 from by simp [List.getD, List.getElem?_eq_none (Nat.le_of_not_lt hl)]]
      omega
  · split
    · omega
    · omega
/-- The lengths of both codes. -/
def lgS [W0] (d : List UInt8) (m : Nat) (s : S6) : S6 × List Nat := if (lcS d s).1.e ≠ 0 then ((lcS d s).1, []) else lpS d (lcS d s).2 m m (lcS d s).1 []
theorem lpS_err [W0] {d : List UInt8} {own : List Nat} {m : Nat} {s : S6} {l : List Nat} (h : s.e ≠ 0) : ∀ f, lpS d own m f s l = (s, l)
  | 0 => rfl
  | f + 1 => by rw [lpS, if_neg (fun hh => h hh.1)]
theorem dyT_eq [W0] (d : List UInt8) (n1 n2 : Nat) (s : S6) : dyT d n1 n2 s = if (lgS d (n1 + n2) s).1.e ≠ 0 then ((lgS d (n1 + n2) s).1, [], 0) else dyK n1 (lgS d (n1 + n2) s) := by
  unfold dyT lgS
  by_cases h : (lcS d s).1.e ≠ 0
  · simp only [if_pos h]
  · simp only [if_neg h]
end Go.If
namespace Go.Proofs.YtkiaegkojlhaeaaDoor
open Go Go.Vx Go.Hf Go.If
variable [W0]
set_option maxRecDepth 4000
set_option linter.all false

set_option maxHeartbeats 8000000 in
theorem lengths_n (p q most m : Nat) (v kn : Value) (d : List UInt8) (s : S6) (D E : Chunk) (L : List Chunk) (h : RdN q d s.t D E) (hl : d.length ≤ 140737488355328) (he : s.e = 0) (hor : OrAt L) (hm : m ≤ 400) :
    Gv Tryd.prog 71 [.pointer (some ⟨p, 0, none⟩), .int .i64 (m : Int)].toArray (rdR p q v most kn :: D :: E :: L) (fun r L' =>
      ((lgS d m s).1.e ≠ 0 ∧ r = .tuple #[.slice none 0 0, .int .i64 ((lgS d m s).1.e : Int)] ∧ L' = L) ∨
      ((lgS d m s).1.e = 0 ∧ ∃ u Cq D', r = .tuple #[u, .int .i64 0] ∧ RdN q d (lgS d m s).1.t D' E ∧ Ow 3 1 u m (ivn (lgS d m s).2) Cq ∧ (lgS d m s).2.length = m ∧ (∀ x ∈ (lgS d m s).2, x ≤ 15) ∧ (lgS d m s).1.out = s.out ∧ L' = Cq :: rdR p q v most kn :: D' :: E :: L)) := by
  refine Gv.of_body Tryd.func71 rfl rfl ?_
  have hlc := lengthCode_n p q most v kn d s D E L h hl he hor
  unfold lgS
  generalize lcS d s = S at hlc ⊢
  obtain ⟨S1, own⟩ := S
  simp only at hlc ⊢
  (repeat' (first | (show WL _ _ _ _ _ _ _; first | refine jA ?_ | refine jB ?_ | refine jC ?_ | refine jD ?_ | refine jE ?_ | refine jF ?_) | (show OW _ _ _ _ _ _; first | refine OW_E ?_ | refine jI ?_ | refine jJ ?_ | refine jK (fun bk => ?_) | refine jL (fun bk => ?_)) | (show WC _ _ _ _ _ _; first | refine jM ?_ | refine jN ?_ | refine jO ?_ | refine jP ?_ | refine jR ?_ | refine jS ?_ | refine jT ?_ | refine jU ?_) | (show WQ _ _ _ _; with_reducible first | refine jV ?_ | refine jW ?_ | refine jX ?_ | refine jY ?_ | refine jZ ?_ | refine kA ?_ | refine kB ?_ | refine kC ?_) | ((first | (refine jG (fun hc => ?_) (fun hc => ?_) <;> rw [hc]) | refine jQ (fun hc => ?_) (fun hc => ?_)) <;> (try simp only [nrB] at hc) <;> (try (exfalso; first | omega | exact hc trivial | exact hc rfl)))))
  refine OW_call rfl rfl rfl hlc rfl (fun r L' hp => ?_)
  rcases hp with ⟨h1, rfl, rfl⟩ | ⟨h1, pc, Co, D1, rfl, hr1, hco, hks, hol, ho7, hout, rfl⟩
  · rw [if_pos h1]
    (repeat' (first | (show WL _ _ _ _ _ _ _; first | refine jA ?_ | refine jB ?_ | refine jC ?_ | refine jD ?_ | refine jE ?_ | refine jF ?_) | (show OW _ _ _ _ _ _; first | refine OW_E ?_ | refine jI ?_ | refine jJ ?_ | refine jK (fun bk => ?_) | refine jL (fun bk => ?_)) | (show WC _ _ _ _ _ _; first | refine jM ?_ | refine jN ?_ | refine jO ?_ | refine jP ?_ | refine jR ?_ | refine jS ?_ | refine jT ?_ | refine jU ?_) | (show WQ _ _ _ _; with_reducible first | refine jV ?_ | refine jW ?_ | refine jX ?_ | refine jY ?_ | refine jZ ?_ | refine kA ?_ | refine kB ?_ | refine kC ?_) | ((first | (refine jG (fun hc => ?_) (fun hc => ?_) <;> rw [hc]) | refine jQ (fun hc => ?_) (fun hc => ?_)) <;> (try simp only [nrB] at hc) <;> (try (exfalso; first | omega | exact hc trivial | exact hc rfl)))))
    refine WQ_retI (rs := [.tmp 4, .tmp 5]) (vs := [.slice none 0 0, .int .i64 (S1.e : Int)]) rfl rfl ?_
    exact ⟨_, iC, .inl ⟨h1, rfl, rfl⟩⟩
  rw [if_neg (show ¬ S1.e ≠ 0 by omega)]
  generalize hQ : lpS d own m m S1 [] = Q
  obtain ⟨q1, q2⟩ := Q
  simp only
  unfold rdR
  (repeat' (first | (show WL _ _ _ _ _ _ _; first | refine jA ?_ | refine jB ?_ | refine jC ?_ | refine jD ?_ | refine jE ?_ | refine jF ?_) | (show OW _ _ _ _ _ _; first | refine OW_E ?_ | refine jI ?_ | refine jJ ?_ | refine jK (fun bk => ?_) | refine jL (fun bk => ?_)) | (show WC _ _ _ _ _ _; first | refine jM ?_ | refine jN ?_ | refine jO ?_ | refine jP ?_ | refine jR ?_ | refine jS ?_ | refine jT ?_ | refine jU ?_) | (show WQ _ _ _ _; with_reducible first | refine jV ?_ | refine jW ?_ | refine jX ?_ | refine jY ?_ | refine jZ ?_ | refine kA ?_ | refine kB ?_ | refine kC ?_) | ((first | (refine jG (fun hc => ?_) (fun hc => ?_) <;> rw [hc]) | refine jQ (fun hc => ?_) (fun hc => ?_)) <;> (try simp only [nrB] at hc) <;> (try (exfalso; first | omega | exact hc trivial | exact hc rfl)))))
  refine WC_loop (X := Nat × S6 × List Nat × Value × Chunk × Chunk) (fun x => [(0, .pointer (some ⟨p, 0, none⟩)), (1, .int .i64 (m : Int)), (6, .pointer (some ⟨pc, 0, none⟩)), (8, x.2.2.2.1)]) (fun x => x.2.2.2.2.1 :: rdR p q v most kn :: x.2.2.2.2.2 :: E :: Co :: L)
    (fun x => x.2.1.e = 0 ∧ x.2.2.1.length ≤ m ∧ m ≤ x.1 + x.2.2.1.length ∧ (∀ y ∈ x.2.2.1, y ≤ 15) ∧ Ow 3 1 x.2.2.2.1 x.2.2.1.length (ivn x.2.2.1) x.2.2.2.2.1 ∧ RdN q d x.2.1.t x.2.2.2.2.2 E ∧ x.2.1.out = S1.out ∧ lpS d own m x.1 x.2.1 x.2.2.1 = (q1, q2)) (fun x => x.1)
    (m, S1, [], .slice none 0 0, [], D1) ⟨h1, Nat.zero_le _, by simp, by simp, .inl ⟨rfl, rfl, rfl, rfl⟩, hr1, rfl, hQ⟩ (by repeat (first | exact Sub.nil | refine Sub.cons rfl ?_ | refine Sub.cons (lk_int rfl (by first | omega | (dsimp only; omega))) ?_)) (fun w h => Holds.nil.2 h) ?_
  rintro ⟨f, s5, l, u, Cq, D5⟩ ⟨he5, hlm, hf, hl15, hou, hr5, hout5, hsl⟩
  simp only at he5 hlm hf hl15 hou hr5 hout5 hsl ⊢
  obtain ⟨ua, uc, rfl⟩ := ow_slc hou
  unfold rdR
  (repeat' (first | (show WL _ _ _ _ _ _ _; first | refine jA ?_ | refine jB ?_ | refine jC ?_ | refine jD ?_ | refine jE ?_ | refine jF ?_) | (show OW _ _ _ _ _ _; first | refine OW_E ?_ | refine jI ?_ | refine jJ ?_ | refine jK (fun bk => ?_) | refine jL (fun bk => ?_)) | (show WC _ _ _ _ _ _; first | refine jM ?_ | refine jN ?_ | refine jO ?_ | refine jP ?_ | refine jR ?_ | refine jS ?_ | refine jT ?_ | refine jU ?_) | (show WQ _ _ _ _; with_reducible first | refine jV ?_ | refine jW ?_ | refine jX ?_ | refine jY ?_ | refine jZ ?_ | refine kA ?_ | refine kB ?_ | refine kC ?_) | ((first | (refine jG (fun hc => ?_) (fun hc => ?_) <;> rw [hc]) | refine jQ (fun hc => ?_) (fun hc => ?_)) <;> (try simp only [nrB] at hc) <;> (try (exfalso; first | omega | exact hc trivial | exact hc rfl)))))
  · have hlt : l.length < m := by omega
    obtain ⟨g, rfl⟩ : ∃ z, f = z + 1 := ⟨f - 1, by omega⟩
    rw [lpS, if_pos ⟨he5, hlt⟩] at hsl
    have hsy := psym_n q pc own d s5 D5 E Co (Cq :: rdR p q v most kn :: L) hr5 hl he5 hco (by omega) (fun x hx => by have := ho7 x hx; omega) (by omega)
    have hk19 := sv_lt d s5 (l := own) (by omega)
    have hso := sy_out d s5 own
    unfold rpS rpL at hsl
    generalize sv d s5 own = k at hsy hk19 hsl
    generalize sy d s5 own = s6 at hsy hso hsl
    unfold rdR at hsy
    refine OW_call rfl rfl rfl (Gv.holds hsy (fun w h => iH h)) rfl (fun r L' hp => ?_)
    obtain ⟨D6, rfl, hr6, rfl⟩ := hp
    (repeat' (first | (show WL _ _ _ _ _ _ _; first | refine jA ?_ | refine jB ?_ | refine jC ?_ | refine jD ?_ | refine jE ?_ | refine jF ?_) | (show OW _ _ _ _ _ _; first | refine OW_E ?_ | refine jI ?_ | refine jJ ?_ | refine jK (fun bk => ?_) | refine jL (fun bk => ?_)) | (show WC _ _ _ _ _ _; first | refine jM ?_ | refine jN ?_ | refine jO ?_ | refine jP ?_ | refine jR ?_ | refine jS ?_ | refine jT ?_ | refine jU ?_) | (show WQ _ _ _ _; with_reducible first | refine jV ?_ | refine jW ?_ | refine jX ?_ | refine jY ?_ | refine jZ ?_ | refine kA ?_ | refine kB ?_ | refine kC ?_) | ((first | (refine jG (fun hc => ?_) (fun hc => ?_) <;> rw [hc]) | refine jQ (fun hc => ?_) (fun hc => ?_)) <;> (try simp only [nrB] at hc) <;> (try (exfalso; first | omega | exact hc trivial | exact hc rfl)))))
    · have h6 : s6.e ≠ 0 := by omega
      rw [if_pos h6, if_neg h6] at hsl
      injection hsl with e1 e2
      subst e1 e2
      refine WQ_retI (rs := [.tmp 4, .tmp 5]) (vs := [.slice none 0 0, .int .i64 (s6.e : Int)]) rfl rfl ?_
      exact ⟨_, iC, .inl ⟨h6, rfl, rfl⟩⟩
    have h6 : s6.e = 0 := by omega
    rw [if_neg (show ¬ s6.e ≠ 0 by omega)] at hsl
    have hrun := prun_n p q most k v kn d s6 D6 E (Co :: Cq :: L) hr6 hl h6 (by omega)
    have hto := tk_out d s6 (rpB k)
    have htv := tv_lt d s6 (rpB k)
    have hpw : 2 ^ rpB k ≤ 2 ^ 7 := Nat.pow_le_pow_right (by decide) (rpB_le k)
    have hra := rpA_pos k
    have hrv := rpV_le (l := l) (k := k) (by omega) hl15
    obtain ⟨n, hn⟩ : ∃ n, n = rpA k + tv d s6 (rpB k) := ⟨_, rfl⟩
    rw [← hn] at hrun hsl
    have hn1 : 1 ≤ n ∧ n ≤ 140 := by omega
    generalize tk d s6 (rpB k) = s7 at hrun hto hsl
    unfold rdR at hrun
    refine OW_call rfl rfl rfl (Gv.holds hrun (fun w h => iH h)) rfl (fun r L' hp => ?_)
    rcases hp with ⟨h7, rfl, rfl⟩ | ⟨h7, rfl, D7, hr7, rfl⟩
    · rw [if_pos h7, if_neg h7] at hsl
      injection hsl with e1 e2
      subst e1 e2
      (repeat' (first | (show WL _ _ _ _ _ _ _; first | refine jA ?_ | refine jB ?_ | refine jC ?_ | refine jD ?_ | refine jE ?_ | refine jF ?_) | (show OW _ _ _ _ _ _; first | refine OW_E ?_ | refine jI ?_ | refine jJ ?_ | refine jK (fun bk => ?_) | refine jL (fun bk => ?_)) | (show WC _ _ _ _ _ _; first | refine jM ?_ | refine jN ?_ | refine jO ?_ | refine jP ?_ | refine jR ?_ | refine jS ?_ | refine jT ?_ | refine jU ?_) | (show WQ _ _ _ _; with_reducible first | refine jV ?_ | refine jW ?_ | refine jX ?_ | refine jY ?_ | refine jZ ?_ | refine kA ?_ | refine kB ?_ | refine kC ?_) | ((first | (refine jG (fun hc => ?_) (fun hc => ?_) <;> rw [hc]) | refine jQ (fun hc => ?_) (fun hc => ?_)) <;> (try simp only [nrB] at hc) <;> (try (exfalso; first | omega | exact hc trivial | exact hc rfl)))))
      refine WQ_retI (rs := [.tmp 4, .tmp 5]) (vs := [.slice none 0 0, .int .i64 (s7.e : Int)]) rfl rfl ?_
      exact ⟨_, iC, .inl ⟨h7, rfl, rfl⟩⟩
    rw [if_neg (show ¬ s7.e ≠ 0 by omega)] at hsl
    have hbad : (k = 16 ∧ l = []) ∨ m < l.length + n → q1.e = 3 := by
      intro hb
      rw [if_pos hb, if_neg (by rw [fl3 h7]; decide)] at hsl
      injection hsl with e1 e2
      rw [← e1, fl3 h7]
    have hne : l.length = 0 ↔ l = [] := List.length_eq_zero_iff
    (repeat' (first | (show WL _ _ _ _ _ _ _; first | refine jA ?_ | refine jB ?_ | refine jC ?_ | refine jD ?_ | refine jE ?_ | refine jF ?_) | (show OW _ _ _ _ _ _; first | refine OW_E ?_ | refine jI ?_ | refine jJ ?_ | refine jK (fun bk => ?_) | refine jL (fun bk => ?_)) | (show WC _ _ _ _ _ _; first | refine jM ?_ | refine jN ?_ | refine jO ?_ | refine jP ?_ | refine jR ?_ | refine jS ?_ | refine jT ?_ | refine jU ?_) | (show WQ _ _ _ _; with_reducible first | refine jV ?_ | refine jW ?_ | refine jX ?_ | refine jY ?_ | refine jZ ?_ | refine kA ?_ | refine kB ?_ | refine kC ?_) | ((first | (refine jG (fun hc => ?_) (fun hc => ?_) <;> rw [hc]) | refine jQ (fun hc => ?_) (fun hc => ?_)) <;> (try simp only [nrB] at hc) <;> (try (exfalso; first | omega | exact hc trivial | exact hc rfl)))))
    · rw [hbad (.inl ⟨by omega, hne.1 (by omega)⟩)]
      refine WQ_retI (rs := [.tmp 4, .tmp 5]) (vs := [.slice none 0 0, .int .i64 3]) rfl rfl ?_
      exact ⟨_, iC, .inl ⟨by decide, rfl, rfl⟩⟩
    · rw [hbad (.inr (by omega))]
      refine WQ_retI (rs := [.tmp 4, .tmp 5]) (vs := [.slice none 0 0, .int .i64 3]) rfl rfl ?_
      exact ⟨_, iC, .inl ⟨by decide, rfl, rfl⟩⟩
    · have hg : ¬ ((k = 16 ∧ l = []) ∨ m < l.length + n) := by
        rintro (⟨h1, h2⟩ | h2)
        · have := hne.2 h2; omega
        · omega
      rw [if_neg hg, if_pos h7] at hsl
      have hlo := lengthOf_n k ua uc l (rdR p q v most kn :: D7 :: E :: Co :: Cq :: L) (sl_there (sl_there (sl_there (sl_there (ow_sl hou))))) (by omega) (by omega) (fun hh => hg (.inl hh))
      have hti := times_n (rpV k l) n (rdR p q v most kn :: D7 :: E :: Co :: Cq :: L) hn1.1 (by omega)
      unfold rdR at hlo hti
      generalize rpV k l = rv at hlo hti hrv hsl
      refine OW_callP rfl rfl rfl hlo rfl ?_
      (repeat' (first | (show WL _ _ _ _ _ _ _; first | refine jA ?_ | refine jB ?_ | refine jC ?_ | refine jD ?_ | refine jE ?_ | refine jF ?_) | (show OW _ _ _ _ _ _; first | refine OW_E ?_ | refine jI ?_ | refine jJ ?_ | refine jK (fun bk => ?_) | refine jL (fun bk => ?_)) | (show WC _ _ _ _ _ _; first | refine jM ?_ | refine jN ?_ | refine jO ?_ | refine jP ?_ | refine jR ?_ | refine jS ?_ | refine jT ?_ | refine jU ?_) | (show WQ _ _ _ _; with_reducible first | refine jV ?_ | refine jW ?_ | refine jX ?_ | refine jY ?_ | refine jZ ?_ | refine kA ?_ | refine kB ?_ | refine kC ?_) | ((first | (refine jG (fun hc => ?_) (fun hc => ?_) <;> rw [hc]) | refine jQ (fun hc => ?_) (fun hc => ?_)) <;> (try simp only [nrB] at hc) <;> (try (exfalso; first | omega | exact hc trivial | exact hc rfl)))))
      refine OW_call rfl rfl rfl hti rfl (fun r L' hp => ?_)
      obtain ⟨Ct, rfl, hot⟩ := hp
      (repeat' (first | (show WL _ _ _ _ _ _ _; first | refine jA ?_ | refine jB ?_ | refine jC ?_ | refine jD ?_ | refine jE ?_ | refine jF ?_) | (show OW _ _ _ _ _ _; first | refine OW_E ?_ | refine jI ?_ | refine jJ ?_ | refine jK (fun bk => ?_) | refine jL (fun bk => ?_)) | (show WC _ _ _ _ _ _; first | refine jM ?_ | refine jN ?_ | refine jO ?_ | refine jP ?_ | refine jR ?_ | refine jS ?_ | refine jT ?_ | refine jU ?_) | (show WQ _ _ _ _; with_reducible first | refine jV ?_ | refine jW ?_ | refine jX ?_ | refine jY ?_ | refine jZ ?_ | refine kA ?_ | refine kB ?_ | refine kC ?_) | ((first | (refine jG (fun hc => ?_) (fun hc => ?_) <;> rw [hc]) | refine jQ (fun hc => ?_) (fun hc => ?_)) <;> (try simp only [nrB] at hc) <;> (try (exfalso; first | omega | exact hc trivial | exact hc rfl)))))
      refine OW_append rfl rfl hou (ow_sl hot) (by repeat (first | exact Zip.here _ | apply Zip.there)) rfl ivn_ones (by omega) (by simp [maxLen]; omega) rfl (fun v' C' ho' _ _ => ?_)
      rw [← ivn_app] at ho'
      (repeat' (first | (show WL _ _ _ _ _ _ _; first | refine jA ?_ | refine jB ?_ | refine jC ?_ | refine jD ?_ | refine jE ?_ | refine jF ?_) | (show OW _ _ _ _ _ _; first | refine OW_E ?_ | refine jI ?_ | refine jJ ?_ | refine jK (fun bk => ?_) | refine jL (fun bk => ?_)) | (show WC _ _ _ _ _ _; first | refine jM ?_ | refine jN ?_ | refine jO ?_ | refine jP ?_ | refine jR ?_ | refine jS ?_ | refine jT ?_ | refine jU ?_) | (show WQ _ _ _ _; with_reducible first | refine jV ?_ | refine jW ?_ | refine jX ?_ | refine jY ?_ | refine jZ ?_ | refine kA ?_ | refine kB ?_ | refine kC ?_) | ((first | (refine jG (fun hc => ?_) (fun hc => ?_) <;> rw [hc]) | refine jQ (fun hc => ?_) (fun hc => ?_)) <;> (try simp only [nrB] at hc) <;> (try (exfalso; first | omega | exact hc trivial | exact hc rfl)))))
      refine WQ_round (X := Nat × S6 × List Nat × Value × Chunk × Chunk) (μ := fun x => x.1) (x := (g + 1, s5, l, .slice ua l.length uc, Cq, D5)) (g, s7, l ++ List.replicate n rv, v', C', D7) (by simp only; omega) ⟨h7, by simp; omega, by simp; omega, fun y hy => ?_, by simpa using ho', hr7, by rw [hto, hso, hout5], hsl⟩ (by repeat (first | exact Sub.nil | refine Sub.cons rfl ?_ | refine Sub.cons (lk_int rfl (by first | omega | (dsimp only; omega))) ?_)) (fun w h => iH h)
      rcases List.mem_append.1 hy with hy | hy
      · exact hl15 y hy
      · rw [List.eq_of_mem_replicate hy]; exact hrv
    · rw [hbad (.inr (by omega))]
      refine WQ_retI (rs := [.tmp 4, .tmp 5]) (vs := [.slice none 0 0, .int .i64 3]) rfl rfl ?_
      exact ⟨_, iC, .inl ⟨by decide, rfl, rfl⟩⟩
    · have hg : ¬ ((k = 16 ∧ l = []) ∨ m < l.length + n) := by
        rintro (⟨h1, h2⟩ | h2)
        · have := hne.2 h2; omega
        · omega
      rw [if_neg hg, if_pos h7] at hsl
      have hlo := lengthOf_n k ua uc l (rdR p q v most kn :: D7 :: E :: Co :: Cq :: L) (sl_there (sl_there (sl_there (sl_there (ow_sl hou))))) (by omega) (by omega) (fun hh => hg (.inl hh))
      have hti := times_n (rpV k l) n (rdR p q v most kn :: D7 :: E :: Co :: Cq :: L) hn1.1 (by omega)
      unfold rdR at hlo hti
      generalize rpV k l = rv at hlo hti hrv hsl
      refine OW_callP rfl rfl rfl hlo rfl ?_
      (repeat' (first | (show WL _ _ _ _ _ _ _; first | refine jA ?_ | refine jB ?_ | refine jC ?_ | refine jD ?_ | refine jE ?_ | refine jF ?_) | (show OW _ _ _ _ _ _; first | refine OW_E ?_ | refine jI ?_ | refine jJ ?_ | refine jK (fun bk => ?_) | refine jL (fun bk => ?_)) | (show WC _ _ _ _ _ _; first | refine jM ?_ | refine jN ?_ | refine jO ?_ | refine jP ?_ | refine jR ?_ | refine jS ?_ | refine jT ?_ | refine jU ?_) | (show WQ _ _ _ _; with_reducible first | refine jV ?_ | refine jW ?_ | refine jX ?_ | refine jY ?_ | refine jZ ?_ | refine kA ?_ | refine kB ?_ | refine kC ?_) | ((first | (refine jG (fun hc => ?_) (fun hc => ?_) <;> rw [hc]) | refine jQ (fun hc => ?_) (fun hc => ?_)) <;> (try simp only [nrB] at hc) <;> (try (exfalso; first | omega | exact hc trivial | exact hc rfl)))))
      refine OW_call rfl rfl rfl hti rfl (fun r L' hp => ?_)
      obtain ⟨Ct, rfl, hot⟩ := hp
      (repeat' (first | (show WL _ _ _ _ _ _ _; first | refine jA ?_ | refine jB ?_ | refine jC ?_ | refine jD ?_ | refine jE ?_ | refine jF ?_) | (show OW _ _ _ _ _ _; first | refine OW_E ?_ | refine jI ?_ | refine jJ ?_ | refine jK (fun bk => ?_) | refine jL (fun bk => ?_)) | (show WC _ _ _ _ _ _; first | refine jM ?_ | refine jN ?_ | refine jO ?_ | refine jP ?_ | refine jR ?_ | refine jS ?_ | refine jT ?_ | refine jU ?_) | (show WQ _ _ _ _; with_reducible first | refine jV ?_ | refine jW ?_ | refine jX ?_ | refine jY ?_ | refine jZ ?_ | refine kA ?_ | refine kB ?_ | refine kC ?_) | ((first | (refine jG (fun hc => ?_) (fun hc => ?_) <;> rw [hc]) | refine jQ (fun hc => ?_) (fun hc => ?_)) <;> (try simp only [nrB] at hc) <;> (try (exfalso; first | omega | exact hc trivial | exact hc rfl)))))
      refine OW_append rfl rfl hou (ow_sl hot) (by repeat (first | exact Zip.here _ | apply Zip.there)) rfl ivn_ones (by omega) (by simp [maxLen]; omega) rfl (fun v' C' ho' _ _ => ?_)
      rw [← ivn_app] at ho'
      (repeat' (first | (show WL _ _ _ _ _ _ _; first | refine jA ?_ | refine jB ?_ | refine jC ?_ | refine jD ?_ | refine jE ?_ | refine jF ?_) | (show OW _ _ _ _ _ _; first | refine OW_E ?_ | refine jI ?_ | refine jJ ?_ | refine jK (fun bk => ?_) | refine jL (fun bk => ?_)) | (show WC _ _ _ _ _ _; first | refine jM ?_ | refine jN ?_ | refine jO ?_ | refine jP ?_ | refine jR ?_ | refine jS ?_ | refine jT ?_ | refine jU ?_) | (show WQ _ _ _ _; with_reducible first | refine jV ?_ | refine jW ?_ | refine jX ?_ | refine jY ?_ | refine jZ ?_ | refine kA ?_ | refine kB ?_ | refine kC ?_) | ((first | (refine jG (fun hc => ?_) (fun hc => ?_) <;> rw [hc]) | refine jQ (fun hc => ?_) (fun hc => ?_)) <;> (try simp only [nrB] at hc) <;> (try (exfalso; first | omega | exact hc trivial | exact hc rfl)))))
      refine WQ_round (X := Nat × S6 × List Nat × Value × Chunk × Chunk) (μ := fun x => x.1) (x := (g + 1, s5, l, .slice ua l.length uc, Cq, D5)) (g, s7, l ++ List.replicate n rv, v', C', D7) (by simp only; omega) ⟨h7, by simp; omega, by simp; omega, fun y hy => ?_, by simpa using ho', hr7, by rw [hto, hso, hout5], hsl⟩ (by repeat (first | exact Sub.nil | refine Sub.cons rfl ?_ | refine Sub.cons (lk_int rfl (by first | omega | (dsimp only; omega))) ?_)) (fun w h => iH h)
      rcases List.mem_append.1 hy with hy | hy
      · exact hl15 y hy
      · rw [List.eq_of_mem_replicate hy]; exact hrv
  · have hlt : l.length = m := by omega
    have hq : lpS d own m f s5 l = (s5, l) := by
      cases f with
      | zero => rfl
      | succ f => rw [lpS, if_neg (fun hh => by omega)]
    rw [hq] at hsl
    injection hsl with e1 e2
    subst e1 e2
    rw [hlt] at hou
    rw [hlt]
    (first | refine WQ_retI rfl rfl ?_ | refine WQ_endI rfl rfl ?_)
    exact ⟨_, iC, .inr ⟨he5, _, Cq, D5, rfl, hr5, hou, (by first | exact hlt | rfl), hl15, by rw [hout5, hout], rfl⟩⟩
end Go.Proofs.YtkiaegkojlhaeaaDoor
/- Package inflate: blocks of codes of their own. It proves no statement by itself. No conditions. -/
namespace Go.If
open Go.Vx Go.Hf
set_option linter.all false
/-- A block of codes of its own. -/
def dbS [W0] (d : List UInt8) (most : Nat) (s : S6) : S6 :=
  if (dyS d s).1.e ≠ 0 then (dyS d s).1 else cdC d most ((dyS d s).2.1.take (dyS d s).2.2) ((dyS d s).2.1.drop (dyS d s).2.2) (8 * d.length + 1) (dyS d s).1
end Go.If
namespace Go.Proofs.YtkiaegkojlhaeaaDoor
open Go Go.Vx Go.Hf Go.If
variable [W0]
set_option maxRecDepth 4000
set_option linter.all false

set_option maxHeartbeats 8000000 in
theorem codes_n (p q most : Nat) (v kn : Value) (d : List UInt8) (s : S6) (D E : Chunk) (L : List Chunk) (h : RdN q d s.t D E) (hl : d.length ≤ 140737488355328) (he : s.e = 0) (hor : OrAt L) :
    Gv Tryd.prog 59 [.pointer (some ⟨p, 0, none⟩)].toArray (rdR p q v most kn :: D :: E :: L) (fun r L' =>
      ((dyS d s).1.e ≠ 0 ∧ r = .tuple #[.pointer none, .int .i64 ((dyS d s).1.e : Int)] ∧ L' = L) ∨
      ((dyS d s).1.e = 0 ∧ ∃ pc pl pd Cl Cd D' l dl, r = .tuple #[.pointer (some ⟨pc, 0, none⟩), .int .i64 0] ∧ l = (dyS d s).2.1.take (dyS d s).2.2 ∧ dl = (dyS d s).2.1.drop (dyS d s).2.2 ∧ RdN q d (dyS d s).1.t D' E ∧ CoD l pl Cl ∧ CoD dl pd Cd ∧ kS l ≤ 32768 ∧ (∀ x ∈ l, x ≤ 15) ∧ l.length ≤ 400 ∧ kS dl ≤ 32768 ∧ (∀ x ∈ dl, x ≤ 15) ∧ dl.length ≤ 400 ∧
        (dyS d s).1.out = s.out ∧ L' = csC pc pl pd :: Cl :: Cd :: rdR p q v most kn :: D' :: E :: L)) := by
  refine Gv.of_body Tryd.func59 rfl rfl ?_
  have hc1 := pcount_n p q most 5 257 v kn d s D E L h hl (by decide) he (by decide)
  have htv := tv_lt d s 5
  have hto := tk_out d s 5
  unfold dyS
  generalize tv d s 5 = z1 at hc1 htv ⊢
  generalize tk d s 5 = s1 at hc1 hto ⊢
  (repeat' (first | (show WL _ _ _ _ _ _ _; first | refine jA ?_ | refine jB ?_ | refine jC ?_ | refine jD ?_ | refine jE ?_ | refine jF ?_) | (show OW _ _ _ _ _ _; first | refine OW_E ?_ | refine jI ?_ | refine jJ ?_ | refine jK (fun bk => ?_) | refine jL (fun bk => ?_)) | (show WC _ _ _ _ _ _; first | refine jM ?_ | refine jN ?_ | refine jO ?_ | refine jP ?_ | refine jR ?_ | refine jS ?_ | refine jT ?_ | refine jU ?_) | (show WQ _ _ _ _; with_reducible first | refine jV ?_ | refine jW ?_ | refine jX ?_ | refine jY ?_ | refine jZ ?_ | refine kA ?_ | refine kB ?_ | refine kC ?_) | ((first | (refine jG (fun hc => ?_) (fun hc => ?_) <;> rw [hc]) | refine jQ (fun hc => ?_) (fun hc => ?_)) <;> (try simp only [nrB] at hc) <;> (try (exfalso; first | omega | exact hc trivial | exact hc rfl)))))
  refine OW_call rfl rfl rfl hc1 rfl (fun r L' hp => ?_)
  rcases hp with ⟨h1, rfl, rfl⟩ | ⟨h1, rfl, D1, hr1, rfl⟩
  · rw [if_pos h1]
    (repeat' (first | (show WL _ _ _ _ _ _ _; first | refine jA ?_ | refine jB ?_ | refine jC ?_ | refine jD ?_ | refine jE ?_ | refine jF ?_) | (show OW _ _ _ _ _ _; first | refine OW_E ?_ | refine jI ?_ | refine jJ ?_ | refine jK (fun bk => ?_) | refine jL (fun bk => ?_)) | (show WC _ _ _ _ _ _; first | refine jM ?_ | refine jN ?_ | refine jO ?_ | refine jP ?_ | refine jR ?_ | refine jS ?_ | refine jT ?_ | refine jU ?_) | (show WQ _ _ _ _; with_reducible first | refine jV ?_ | refine jW ?_ | refine jX ?_ | refine jY ?_ | refine jZ ?_ | refine kA ?_ | refine kB ?_ | refine kC ?_) | ((first | (refine jG (fun hc => ?_) (fun hc => ?_) <;> rw [hc]) | refine jQ (fun hc => ?_) (fun hc => ?_)) <;> (try simp only [nrB] at hc) <;> (try (exfalso; first | omega | exact hc trivial | exact hc rfl)))))
    refine WQ_retI (rs := [.tmp 2, .tmp 3]) (vs := [.pointer none, .int .i64 (s1.e : Int)]) rfl rfl ?_
    exact ⟨_, iC, .inl ⟨h1, rfl, rfl⟩⟩
  rw [if_neg (show ¬ s1.e ≠ 0 by omega)]
  have hc2 := pcount_n p q most 5 1 v kn d s1 D1 E L hr1 hl (by decide) h1 (by decide)
  have htv2 := tv_lt d s1 5
  have hto2 := tk_out d s1 5
  generalize tv d s1 5 = z2 at hc2 htv2 ⊢
  generalize tk d s1 5 = s2 at hc2 hto2 ⊢
  (repeat' (first | (show WL _ _ _ _ _ _ _; first | refine jA ?_ | refine jB ?_ | refine jC ?_ | refine jD ?_ | refine jE ?_ | refine jF ?_) | (show OW _ _ _ _ _ _; first | refine OW_E ?_ | refine jI ?_ | refine jJ ?_ | refine jK (fun bk => ?_) | refine jL (fun bk => ?_)) | (show WC _ _ _ _ _ _; first | refine jM ?_ | refine jN ?_ | refine jO ?_ | refine jP ?_ | refine jR ?_ | refine jS ?_ | refine jT ?_ | refine jU ?_) | (show WQ _ _ _ _; with_reducible first | refine jV ?_ | refine jW ?_ | refine jX ?_ | refine jY ?_ | refine jZ ?_ | refine kA ?_ | refine kB ?_ | refine kC ?_) | ((first | (refine jG (fun hc => ?_) (fun hc => ?_) <;> rw [hc]) | refine jQ (fun hc => ?_) (fun hc => ?_)) <;> (try simp only [nrB] at hc) <;> (try (exfalso; first | omega | exact hc trivial | exact hc rfl)))))
  · rw [if_pos (show 29 < z1 by omega)]
    simp only [fl3 h1]
    refine WQ_retI (rs := [.tmp 2, .tmp 3]) (vs := [.pointer none, .int .i64 3]) rfl rfl ?_
    exact ⟨_, iC, .inl ⟨by decide, rfl, rfl⟩⟩
  rw [if_neg (show ¬ 29 < z1 by omega)]
  refine OW_call rfl rfl rfl hc2 rfl (fun r L' hp => ?_)
  rcases hp with ⟨h2, rfl, rfl⟩ | ⟨h2, rfl, D2, hr2, rfl⟩
  · rw [if_pos h2]
    (repeat' (first | (show WL _ _ _ _ _ _ _; first | refine jA ?_ | refine jB ?_ | refine jC ?_ | refine jD ?_ | refine jE ?_ | refine jF ?_) | (show OW _ _ _ _ _ _; first | refine OW_E ?_ | refine jI ?_ | refine jJ ?_ | refine jK (fun bk => ?_) | refine jL (fun bk => ?_)) | (show WC _ _ _ _ _ _; first | refine jM ?_ | refine jN ?_ | refine jO ?_ | refine jP ?_ | refine jR ?_ | refine jS ?_ | refine jT ?_ | refine jU ?_) | (show WQ _ _ _ _; with_reducible first | refine jV ?_ | refine jW ?_ | refine jX ?_ | refine jY ?_ | refine jZ ?_ | refine kA ?_ | refine kB ?_ | refine kC ?_) | ((first | (refine jG (fun hc => ?_) (fun hc => ?_) <;> rw [hc]) | refine jQ (fun hc => ?_) (fun hc => ?_)) <;> (try simp only [nrB] at hc) <;> (try (exfalso; first | omega | exact hc trivial | exact hc rfl)))))
    refine WQ_retI (rs := [.tmp 2, .tmp 3]) (vs := [.pointer none, .int .i64 (s2.e : Int)]) rfl rfl ?_
    exact ⟨_, iC, .inl ⟨h2, rfl, rfl⟩⟩
  rw [if_neg (show ¬ s2.e ≠ 0 by omega)]
  (repeat' (first | (show WL _ _ _ _ _ _ _; first | refine jA ?_ | refine jB ?_ | refine jC ?_ | refine jD ?_ | refine jE ?_ | refine jF ?_) | (show OW _ _ _ _ _ _; first | refine OW_E ?_ | refine jI ?_ | refine jJ ?_ | refine jK (fun bk => ?_) | refine jL (fun bk => ?_)) | (show WC _ _ _ _ _ _; first | refine jM ?_ | refine jN ?_ | refine jO ?_ | refine jP ?_ | refine jR ?_ | refine jS ?_ | refine jT ?_ | refine jU ?_) | (show WQ _ _ _ _; with_reducible first | refine jV ?_ | refine jW ?_ | refine jX ?_ | refine jY ?_ | refine jZ ?_ | refine kA ?_ | refine kB ?_ | refine kC ?_) | ((first | (refine jG (fun hc => ?_) (fun hc => ?_) <;> rw [hc]) | refine jQ (fun hc => ?_) (fun hc => ?_)) <;> (try simp only [nrB] at hc) <;> (try (exfalso; first | omega | exact hc trivial | exact hc rfl)))))
  · rw [if_pos (show 29 < z2 by omega)]
    simp only [fl3 h2]
    refine WQ_retI (rs := [.tmp 2, .tmp 3]) (vs := [.pointer none, .int .i64 3]) rfl rfl ?_
    exact ⟨_, iC, .inl ⟨by decide, rfl, rfl⟩⟩
  rw [if_neg (show ¬ 29 < z2 by omega), dyT_eq]
  obtain ⟨n1, hn1⟩ : ∃ n1, n1 = 257 + z1 := ⟨_, rfl⟩
  obtain ⟨n2, hn2⟩ : ∃ n2, n2 = 1 + z2 := ⟨_, rfl⟩
  rw [← hn1, ← hn2]
  have hle := lengths_n p q most (n1 + n2) v kn d s2 D2 E L hr2 hl h2 hor (by omega)
  generalize lgS d (n1 + n2) s2 = Q at hle ⊢
  obtain ⟨q1, q2⟩ := Q
  simp only at hle ⊢
  rw [← Int.natCast_add]
  refine OW_call rfl rfl rfl hle rfl (fun r L' hp => ?_)
  rcases hp with ⟨h3, rfl, rfl⟩ | ⟨h3, u, Cq, D3, rfl, hr3, hou, hql, hq15, hout, rfl⟩
  · rw [if_pos h3]
    (repeat' (first | (show WL _ _ _ _ _ _ _; first | refine jA ?_ | refine jB ?_ | refine jC ?_ | refine jD ?_ | refine jE ?_ | refine jF ?_) | (show OW _ _ _ _ _ _; first | refine OW_E ?_ | refine jI ?_ | refine jJ ?_ | refine jK (fun bk => ?_) | refine jL (fun bk => ?_)) | (show WC _ _ _ _ _ _; first | refine jM ?_ | refine jN ?_ | refine jO ?_ | refine jP ?_ | refine jR ?_ | refine jS ?_ | refine jT ?_ | refine jU ?_) | (show WQ _ _ _ _; with_reducible first | refine jV ?_ | refine jW ?_ | refine jX ?_ | refine jY ?_ | refine jZ ?_ | refine kA ?_ | refine kB ?_ | refine kC ?_) | ((first | (refine jG (fun hc => ?_) (fun hc => ?_) <;> rw [hc]) | refine jQ (fun hc => ?_) (fun hc => ?_)) <;> (try simp only [nrB] at hc) <;> (try (exfalso; first | omega | exact hc trivial | exact hc rfl)))))
    refine WQ_retI (rs := [.tmp 2, .tmp 3]) (vs := [.pointer none, .int .i64 (q1.e : Int)]) rfl rfl ?_
    exact ⟨_, iC, .inl ⟨h3, rfl, rfl⟩⟩
  rw [if_neg (show ¬ q1.e ≠ 0 by omega)]
  unfold dyK
  simp only
  have hov2 := hou
  rcases hov2 with ⟨_, h0, _⟩ | ⟨b, cap, rest, rfl, rfl, hxl, hrl, hmc, hcm⟩
  · omega
  have hl4 : ∀ x ∈ q2.take n1, x ≤ 15 := fun x hx => hq15 x (List.mem_of_mem_take hx)
  have hd4 : ∀ x ∈ q2.drop n1, x ≤ 15 := fun x hx => hq15 x (List.mem_of_mem_drop hx)
  have hln : (q2.take n1).length = n1 := by simp; omega
  have hdn : (q2.drop n1).length = n2 := by simp; omega
  obtain ⟨x, hx⟩ : ∃ x, q2[256]? = some x := ⟨q2[256], List.getElem?_eq_getElem (by omega)⟩
  have hcell : (ivn q2 ++ rest).toArray[0 + 256 * 1]? = some (.int .i64 (x : Int)) := by
    have h5 := ivn_get hx
    have h6 := (List.getElem?_eq_some_iff.1 h5).1
    rw [List.getElem?_toArray, List.getElem?_append_left (by simpa using h6)]
    simpa using h5
  rw [show q2.getD 256 0 = x from by simp [List.getD, hx]]
  (repeat' (first | (show WL _ _ _ _ _ _ _; first | refine jA ?_ | refine jB ?_ | refine jC ?_ | refine jD ?_ | refine jE ?_ | refine jF ?_) | (show OW _ _ _ _ _ _; first | refine OW_E ?_ | refine jI ?_ | refine jJ ?_ | refine jK (fun bk => ?_) | refine jL (fun bk => ?_)) | (show WC _ _ _ _ _ _; first | refine jM ?_ | refine jN ?_ | refine jO ?_ | refine jP ?_ | refine jR ?_ | refine jS ?_ | refine jT ?_ | refine jU ?_) | (show WQ _ _ _ _; with_reducible first | refine jV ?_ | refine jW ?_ | refine jX ?_ | refine jY ?_ | refine jZ ?_ | refine kA ?_ | refine kB ?_ | refine kC ?_) | ((first | (refine jG (fun hc => ?_) (fun hc => ?_) <;> rw [hc]) | refine jQ (fun hc => ?_) (fun hc => ?_)) <;> (try simp only [nrB] at hc) <;> (try (exfalso; first | omega | exact hc trivial | exact hc rfl)))))
  refine OW_EV (EV_indexAddr (j := 256) rfl rfl rfl (by omega)) rfl ?_
  (repeat' (first | (show WL _ _ _ _ _ _ _; first | refine jA ?_ | refine jB ?_ | refine jC ?_ | refine jD ?_ | refine jE ?_ | refine jF ?_) | (show OW _ _ _ _ _ _; first | refine OW_E ?_ | refine jI ?_ | refine jJ ?_ | refine jK (fun bk => ?_) | refine jL (fun bk => ?_)) | (show WC _ _ _ _ _ _; first | refine jM ?_ | refine jN ?_ | refine jO ?_ | refine jP ?_ | refine jR ?_ | refine jS ?_ | refine jT ?_ | refine jU ?_) | (show WQ _ _ _ _; with_reducible first | refine jV ?_ | refine jW ?_ | refine jX ?_ | refine jY ?_ | refine jZ ?_ | refine kA ?_ | refine kB ?_ | refine kC ?_) | ((first | (refine jG (fun hc => ?_) (fun hc => ?_) <;> rw [hc]) | refine jQ (fun hc => ?_) (fun hc => ?_)) <;> (try simp only [nrB] at hc) <;> (try (exfalso; first | omega | exact hc trivial | exact hc rfl)))))
  refine OW_EV (EV_load rfl Fnd.here hcell) rfl ?_
  (repeat' (first | (show WL _ _ _ _ _ _ _; first | refine jA ?_ | refine jB ?_ | refine jC ?_ | refine jD ?_ | refine jE ?_ | refine jF ?_) | (show OW _ _ _ _ _ _; first | refine OW_E ?_ | refine jI ?_ | refine jJ ?_ | refine jK (fun bk => ?_) | refine jL (fun bk => ?_)) | (show WC _ _ _ _ _ _; first | refine jM ?_ | refine jN ?_ | refine jO ?_ | refine jP ?_ | refine jR ?_ | refine jS ?_ | refine jT ?_ | refine jU ?_) | (show WQ _ _ _ _; with_reducible first | refine jV ?_ | refine jW ?_ | refine jX ?_ | refine jY ?_ | refine jZ ?_ | refine kA ?_ | refine kB ?_ | refine kC ?_) | ((first | (refine jG (fun hc => ?_) (fun hc => ?_) <;> rw [hc]) | refine jQ (fun hc => ?_) (fun hc => ?_)) <;> (try simp only [nrB] at hc) <;> (try (exfalso; first | omega | exact hc trivial | exact hc rfl)))))
  · rw [if_neg (fun hh => hh.1 (by omega))]
    simp only [fl3 h3]
    refine WQ_retI (rs := [.tmp 2, .tmp 3]) (vs := [.pointer none, .int .i64 3]) rfl rfl ?_
    exact ⟨_, iC, .inl ⟨by decide, rfl, rfl⟩⟩
  have hco := codesOf_n (some ⟨b, 0, none⟩) (some ⟨b, n1 * 1, none⟩) cap (cap - n1) (q2.take n1) (q2.drop n1) ([(b, cl (ivn q2 ++ rest) 3)] :: rdR p q v most kn :: D3 :: E :: L)
    (.inr ⟨_, _, by rw [hln], RdAt.cl' (l := ivn q2 ++ rest) Fnd.here (by
      rw [ivn_length, hln]; unfold cut ivn
      rw [List.drop_zero, List.take_append_of_le_length (by simp; omega), List.map_take]), by rw [ivn_length]; simp⟩) hl4 (by omega)
    (.inr ⟨_, _, by rw [hdn], RdAt.cl' (l := ivn q2 ++ rest) Fnd.here (by
      rw [ivn_length, hdn]; unfold cut ivn
      rw [List.drop_append_of_le_length (by simp; omega), List.take_append_of_le_length (by simp; omega), Nat.mul_one, ← List.map_drop, ← List.map_take, List.take_of_length_le (by omega)]), by rw [ivn_length]; simp⟩) hd4 (by omega)
  rw [hln, hdn] at hco
  refine WC_draw [] [] mixed ?_
  (refine WR_t 0 ?_; refine WR_t 1 ?_)
  (refine WR_take 2 rfl rfl (by kernel_rfl) (by repeat (first | with_reducible exact PO.body | with_reducible exact RP_po | with_reducible refine PO.then ?_ | with_reducible refine PO.block ?_)) iC (EV_sliceTo (h := n1) rfl rfl rfl (by omega)) (by rfl) ?_)
  (refine WR_t 3 ?_; refine WR_t 4 ?_)
  (refine WR_take 5 rfl rfl (by kernel_rfl) (by repeat (first | with_reducible exact PO.body | with_reducible exact RP_po | with_reducible refine PO.then ?_ | with_reducible refine PO.block ?_)) iC (EV_sliceFrom0 (l := n1) (h := n1 + n2) rfl rfl rfl (by omega) (by omega) (by omega)) (by rfl) ?_)
  rw [show n1 + n2 - n1 = n2 from by omega]
  (refine WR_one 6 (by kernel_rfl) rfl rfl ?_)
  refine OW_call rfl rfl rfl hco rfl (fun r L' hp => ?_)
  rcases hp with ⟨h4, rfl, rfl⟩ | ⟨h4, pc, pl, pd, Cl, Cd, rfl, rfl, hcl, hcd⟩
  · refine ⟨iC, ?_⟩
    (refine WR_t 7 ?_; refine WR_t 8 ?_; refine WR_t 9 ?_; refine WR_t 10 ?_)
    (refine WR_done (by kernel_rfl) ?_)
    rw [if_neg (fun hh => h4 hh.2)]
    simp only [fl3 h3]
    (repeat' (first | (show WL _ _ _ _ _ _ _; first | refine jA ?_ | refine jB ?_ | refine jC ?_ | refine jD ?_ | refine jE ?_ | refine jF ?_) | (show OW _ _ _ _ _ _; first | refine OW_E ?_ | refine jI ?_ | refine jJ ?_ | refine jK (fun bk => ?_) | refine jL (fun bk => ?_)) | (show WC _ _ _ _ _ _; first | refine jM ?_ | refine jN ?_ | refine jO ?_ | refine jP ?_ | refine jR ?_ | refine jS ?_ | refine jT ?_ | refine jU ?_) | (show WQ _ _ _ _; with_reducible first | refine jV ?_ | refine jW ?_ | refine jX ?_ | refine jY ?_ | refine jZ ?_ | refine kA ?_ | refine kB ?_ | refine kC ?_) | ((first | (refine jG (fun hc => ?_) (fun hc => ?_) <;> rw [hc]) | refine jQ (fun hc => ?_) (fun hc => ?_)) <;> (try simp only [nrB] at hc) <;> (try (exfalso; first | omega | exact hc trivial | exact hc rfl)))))
    (first | refine WQ_retI rfl rfl ?_ | refine WQ_endI rfl rfl ?_)
    exact ⟨_, iC, .inl ⟨by decide, rfl, rfl⟩⟩
  · refine ⟨iC, ?_⟩
    (refine WR_t 7 ?_; refine WR_t 8 ?_; refine WR_t 9 ?_; refine WR_t 10 ?_)
    (refine WR_done (by kernel_rfl) ?_)
    rw [if_pos ⟨by omega, h4⟩]
    have hks := kS_sum (q2.drop n1)
    have hkd : kS (q2.drop n1) ≤ 32768 := by
      rcases h4.2 with h | h
      · omega
      · rw [sgl_sum] at h
        have := of_decide_eq_true h
        omega
    have h41 := h4.1
    (repeat' (first | (show WL _ _ _ _ _ _ _; first | refine jA ?_ | refine jB ?_ | refine jC ?_ | refine jD ?_ | refine jE ?_ | refine jF ?_) | (show OW _ _ _ _ _ _; first | refine OW_E ?_ | refine jI ?_ | refine jJ ?_ | refine jK (fun bk => ?_) | refine jL (fun bk => ?_)) | (show WC _ _ _ _ _ _; first | refine jM ?_ | refine jN ?_ | refine jO ?_ | refine jP ?_ | refine jR ?_ | refine jS ?_ | refine jT ?_ | refine jU ?_) | (show WQ _ _ _ _; with_reducible first | refine jV ?_ | refine jW ?_ | refine jX ?_ | refine jY ?_ | refine jZ ?_ | refine kA ?_ | refine kB ?_ | refine kC ?_) | ((first | (refine jG (fun hc => ?_) (fun hc => ?_) <;> rw [hc]) | refine jQ (fun hc => ?_) (fun hc => ?_)) <;> (try simp only [nrB] at hc) <;> (try (exfalso; first | omega | exact hc trivial | exact hc rfl)))))
    (first | refine WQ_retI rfl rfl ?_ | refine WQ_endI rfl rfl ?_)
    exact ⟨_, iC, .inr ⟨h3, pc, pl, pd, Cl, Cd, D3, _, _, rfl, rfl, rfl, hr3, hcl, hcd, (show kS (q2.take n1) ≤ 32768 by omega), hl4, (show (q2.take n1).length ≤ 400 by omega), hkd, hd4, (show (q2.drop n1).length ≤ 400 by omega), by rw [hout, hto2, hto], rfl⟩⟩

set_option maxHeartbeats 4000000 in
theorem pdynamic_n (p q most : Nat) (v kn : Value) (d : List UInt8) (s : S6) (D E C : Chunk) (L : List Chunk) (h : RdN q d s.t D E) (hl : d.length ≤ 140737488355328) (he : s.e = 0) (hm : most ≤ 1000000) (hkn : kn.oneCell' = true) (hor : OrAt L)
    (ho : Ow 5 1 v s.out.length (bsv s.out) C) (hom : s.out.length ≤ most) :
    Gv Tryd.prog 47 [.pointer (some ⟨p, 0, none⟩)].toArray (rdR p q v most kn :: D :: E :: C :: L) (fun r L' =>
      ((dbS d most s).e ≠ 0 ∧ r = .int .i64 ((dbS d most s).e : Int) ∧ L' = L) ∨
      ((dbS d most s).e = 0 ∧ r = .int .i64 0 ∧ ∃ v' D' C', Ow 5 1 v' (dbS d most s).out.length (bsv (dbS d most s).out) C' ∧ (dbS d most s).out.length ≤ most ∧ RdN q d (dbS d most s).t D' E ∧ L' = rdR p q v' most kn :: D' :: E :: C' :: L)) := by
  refine Gv.of_body Tryd.func47 rfl rfl ?_
  have hco := codes_n p q most v kn d s D E (C :: L) h hl he hor.there
  unfold dbS
  generalize dyS d s = Y at hco ⊢
  obtain ⟨s1, ly, ny⟩ := Y
  simp only at hco ⊢
  (repeat' (first | (show WL _ _ _ _ _ _ _; first | refine jA ?_ | refine jB ?_ | refine jC ?_ | refine jD ?_ | refine jE ?_ | refine jF ?_) | (show OW _ _ _ _ _ _; first | refine OW_E ?_ | refine jI ?_ | refine jJ ?_ | refine jK (fun bk => ?_) | refine jL (fun bk => ?_)) | (show WC _ _ _ _ _ _; first | refine jM ?_ | refine jN ?_ | refine jO ?_ | refine jP ?_ | refine jR ?_ | refine jS ?_ | refine jT ?_ | refine jU ?_) | (show WQ _ _ _ _; with_reducible first | refine jV ?_ | refine jW ?_ | refine jX ?_ | refine jY ?_ | refine jZ ?_ | refine kA ?_ | refine kB ?_ | refine kC ?_) | ((first | (refine jG (fun hc => ?_) (fun hc => ?_) <;> rw [hc]) | refine jQ (fun hc => ?_) (fun hc => ?_)) <;> (try simp only [nrB] at hc) <;> (try (exfalso; first | omega | exact hc trivial | exact hc rfl)))))
  refine OW_call rfl rfl rfl hco rfl (fun r L' hp => ?_)
  rcases hp with ⟨h1, rfl, rfl⟩ | ⟨h1, pc, pl, pd, Cl, Cd, D1, l, dl, rfl, rfl, rfl, hr1, hcl, hcd, hk1, h151, hl4, hk2, h152, hd4, hout, rfl⟩
  · rw [if_pos h1]
    (repeat' (first | (show WL _ _ _ _ _ _ _; first | refine jA ?_ | refine jB ?_ | refine jC ?_ | refine jD ?_ | refine jE ?_ | refine jF ?_) | (show OW _ _ _ _ _ _; first | refine OW_E ?_ | refine jI ?_ | refine jJ ?_ | refine jK (fun bk => ?_) | refine jL (fun bk => ?_)) | (show WC _ _ _ _ _ _; first | refine jM ?_ | refine jN ?_ | refine jO ?_ | refine jP ?_ | refine jR ?_ | refine jS ?_ | refine jT ?_ | refine jU ?_) | (show WQ _ _ _ _; with_reducible first | refine jV ?_ | refine jW ?_ | refine jX ?_ | refine jY ?_ | refine jZ ?_ | refine kA ?_ | refine kB ?_ | refine kC ?_) | ((first | (refine jG (fun hc => ?_) (fun hc => ?_) <;> rw [hc]) | refine jQ (fun hc => ?_) (fun hc => ?_)) <;> (try simp only [nrB] at hc) <;> (try (exfalso; first | omega | exact hc trivial | exact hc rfl)))))
    (first | refine WQ_retI rfl rfl ?_ | refine WQ_endI rfl rfl ?_)
    exact ⟨_, iC, .inl ⟨h1, rfl, rfl⟩⟩
  rw [if_neg (show ¬ s1.e ≠ 0 by omega)]
  rw [← hout] at ho hom
  have hcd2 := pcoded_n p q pc pl pd most v kn (ly.take ny) (ly.drop ny) d s1 D1 E C Cl Cd L hr1 hl h1 hm hkn ho hom hcl hk1 h151 hl4 hcd hk2 h152 hd4
  generalize cdC d most (ly.take ny) (ly.drop ny) (8 * d.length + 1) s1 = R at hcd2 ⊢
  (repeat' (first | (show WL _ _ _ _ _ _ _; first | refine jA ?_ | refine jB ?_ | refine jC ?_ | refine jD ?_ | refine jE ?_ | refine jF ?_) | (show OW _ _ _ _ _ _; first | refine OW_E ?_ | refine jI ?_ | refine jJ ?_ | refine jK (fun bk => ?_) | refine jL (fun bk => ?_)) | (show WC _ _ _ _ _ _; first | refine jM ?_ | refine jN ?_ | refine jO ?_ | refine jP ?_ | refine jR ?_ | refine jS ?_ | refine jT ?_ | refine jU ?_) | (show WQ _ _ _ _; with_reducible first | refine jV ?_ | refine jW ?_ | refine jX ?_ | refine jY ?_ | refine jZ ?_ | refine kA ?_ | refine kB ?_ | refine kC ?_) | ((first | (refine jG (fun hc => ?_) (fun hc => ?_) <;> rw [hc]) | refine jQ (fun hc => ?_) (fun hc => ?_)) <;> (try simp only [nrB] at hc) <;> (try (exfalso; first | omega | exact hc trivial | exact hc rfl)))))
  refine OW_call rfl rfl rfl (Gv.holds hcd2 (fun w h => iH h)) rfl (fun r L' hp => ?_)
  rcases hp with ⟨h2, rfl, rfl⟩ | ⟨h2, rfl, v', D', C', ho', hl', hr', rfl⟩
  · (repeat' (first | (show WL _ _ _ _ _ _ _; first | refine jA ?_ | refine jB ?_ | refine jC ?_ | refine jD ?_ | refine jE ?_ | refine jF ?_) | (show OW _ _ _ _ _ _; first | refine OW_E ?_ | refine jI ?_ | refine jJ ?_ | refine jK (fun bk => ?_) | refine jL (fun bk => ?_)) | (show WC _ _ _ _ _ _; first | refine jM ?_ | refine jN ?_ | refine jO ?_ | refine jP ?_ | refine jR ?_ | refine jS ?_ | refine jT ?_ | refine jU ?_) | (show WQ _ _ _ _; with_reducible first | refine jV ?_ | refine jW ?_ | refine jX ?_ | refine jY ?_ | refine jZ ?_ | refine kA ?_ | refine kB ?_ | refine kC ?_) | ((first | (refine jG (fun hc => ?_) (fun hc => ?_) <;> rw [hc]) | refine jQ (fun hc => ?_) (fun hc => ?_)) <;> (try simp only [nrB] at hc) <;> (try (exfalso; first | omega | exact hc trivial | exact hc rfl)))))
    (first | refine WQ_retI rfl rfl ?_ | refine WQ_endI rfl rfl ?_)
    exact ⟨_, iC, .inl ⟨h2, rfl, rfl⟩⟩
  · (repeat' (first | (show WL _ _ _ _ _ _ _; first | refine jA ?_ | refine jB ?_ | refine jC ?_ | refine jD ?_ | refine jE ?_ | refine jF ?_) | (show OW _ _ _ _ _ _; first | refine OW_E ?_ | refine jI ?_ | refine jJ ?_ | refine jK (fun bk => ?_) | refine jL (fun bk => ?_)) | (show WC _ _ _ _ _ _; first | refine jM ?_ | refine jN ?_ | refine jO ?_ | refine jP ?_ | refine jR ?_ | refine jS ?_ | refine jT ?_ | refine jU ?_) | (show WQ _ _ _ _; with_reducible first | refine jV ?_ | refine jW ?_ | refine jX ?_ | refine jY ?_ | refine jZ ?_ | refine kA ?_ | refine kB ?_ | refine kC ?_) | ((first | (refine jG (fun hc => ?_) (fun hc => ?_) <;> rw [hc]) | refine jQ (fun hc => ?_) (fun hc => ?_)) <;> (try simp only [nrB] at hc) <;> (try (exfalso; first | omega | exact hc trivial | exact hc rfl)))))
    (first | refine WQ_retI rfl rfl ?_ | refine WQ_endI rfl rfl ?_)
    exact ⟨_, iC, .inr ⟨h2, rfl, v', D', C', ho', hl', hr', rfl⟩⟩
end Go.Proofs.YtkiaegkojlhaeaaDoor
