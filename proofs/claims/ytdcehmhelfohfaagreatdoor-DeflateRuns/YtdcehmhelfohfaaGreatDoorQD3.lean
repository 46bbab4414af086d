/- Contracts and facts on the way to the top. It proves no statement by itself. No conditions. -/
import Derived.Test.YtdcehmhelfohfaaGreatDoorQD2
namespace Go.If
open Go.Vx Go.Hf
set_option linter.all false
def rpV (k : Nat) (l : List Nat) : Nat := if k = 16 then l.getD (l.length - 1) 0 else if k = 17 ∨ k = 18 then 0 else k
def rpS [W0] (d : List UInt8) (own : List Nat) (m : Nat) (s : S6) (l : List Nat) : S6 :=
  if (sy d s own).e ≠ 0 then sy d s own
  else if (tk d (sy d s own) (rpB (sv d s own))).e ≠ 0 then tk d (sy d s own) (rpB (sv d s own))
  else if (sv d s own = 16 ∧ l = []) ∨ m < l.length + (rpA (sv d s own) + tv d (sy d s own) (rpB (sv d s own))) then fl (tk d (sy d s own) (rpB (sv d s own))) 3
  else tk d (sy d s own) (rpB (sv d s own))
def rpL [W0] (d : List UInt8) (own : List Nat) (s : S6) (l : List Nat) : List Nat := l ++ List.replicate (rpA (sv d s own) + tv d (sy d s own) (rpB (sv d s own))) (rpV (sv d s own) l)
def lpS [W0] (d : List UInt8) (own : List Nat) (m : Nat) : Nat → S6 → List Nat → S6 × List Nat
  | 0, s, l => (s, l)
  | f + 1, s, l => if s.e = 0 ∧ l.length < m then (if (rpS d own m s l).e = 0 then lpS d own m f (rpS d own m s l) (rpL d own s l) else (rpS d own m s l, l)) else (s, l)
def owS [W0] (d : List UInt8) : Nat → Nat → S6 → List Nat → S6 × List Nat
  | 0, _, s, o => (s, o)
  | k + 1, i, s, o => if (tk d s 3).e ≠ 0 then (tk d s 3, o) else owS d k (i + 1) (tk d s 3) (o.set (ordL.getD i 0) (tv d s 3))
def lcS [W0] (d : List UInt8) (s : S6) : S6 × List Nat :=
  if (tk d s 4).e ≠ 0 then (tk d s 4, [])
  else if (owS d (4 + tv d s 4) 0 (tk d s 4) (List.replicate 19 0)).1.e ≠ 0 then owS d (4 + tv d s 4) 0 (tk d s 4) (List.replicate 19 0)
  else if kS (owS d (4 + tv d s 4) 0 (tk d s 4) (List.replicate 19 0)).2 = 32768 then owS d (4 + tv d s 4) 0 (tk d s 4) (List.replicate 19 0)
  else (fl (owS d (4 + tv d s 4) 0 (tk d s 4) (List.replicate 19 0)).1 3, [])
def dyK (n1 : Nat) (q : S6 × List Nat) : S6 × List Nat × Nat :=
  if q.2.getD 256 0 ≠ 0 ∧ kS (q.2.take n1) = 32768 ∧ (kS (q.2.drop n1) = 32768 ∨ sgl (q.2.drop n1) = true) then (q.1, q.2, n1) else (fl q.1 3, [], 0)
def dyT [W0] (d : List UInt8) (n1 n2 : Nat) (s : S6) : S6 × List Nat × Nat :=
  if (lcS d s).1.e ≠ 0 then ((lcS d s).1, [], 0)
  else if (lpS d (lcS d s).2 (n1 + n2) (n1 + n2) (lcS d s).1 []).1.e ≠ 0 then ((lpS d (lcS d s).2 (n1 + n2) (n1 + n2) (lcS d s).1 []).1, [], 0)
  else dyK n1 (lpS d (lcS d s).2 (n1 + n2) (n1 + n2) (lcS d s).1 [])
def dyS [W0] (d : List UInt8) (s : S6) : S6 × List Nat × Nat :=
  if (tk d s 5).e ≠ 0 then (tk d s 5, [], 0)
  else if 29 < tv d s 5 then (fl (tk d s 5) 3, [], 0)
  else if (tk d (tk d s 5) 5).e ≠ 0 then (tk d (tk d s 5) 5, [], 0)
  else if 29 < tv d (tk d s 5) 5 then (fl (tk d (tk d s 5) 5) 3, [], 0)
  else dyT d (257 + tv d s 5) (1 + tv d (tk d s 5) 5) (tk d (tk d s 5) 5)
theorem fl3 {s : S6} (h : s.e = 0) (k : Nat) : (fl s k).e = k := by rw [fl_e, if_pos h]
theorem ow_facts [W0] (d : List UInt8) : ∀ k i s o, s.e = 0 → s.t ≤ 8 * d.length → o.length = 19 → (∀ x ∈ o, x ≤ 7) → (owS d k i s o).2.length = 19 ∧ (∀ x ∈ (owS d k i s o).2, x ≤ 7) ∧ (owS d k i s o).1.out = s.out
  | 0, i, s, o, he, ht, h1, h2 => ⟨h1, h2, rfl⟩
  | k + 1, i, s, o, he, ht, h1, h2 => by
    rw [owS]
    split
    · exact ⟨h1, h2, tk_out _ _ _⟩
    · rename_i h
      have h0 : (tk d s 3).e = 0 := by omega
      have hb : tv d s 3 < 2 ^ 3 := by
        unfold tv
        split
        · exact Nat.mod_lt _ (by decide)
        · decide
      have ht2 : (tk d s 3).t ≤ 8 * d.length := by
        unfold tk
        split
        · assumption
        · rw [fl_t]; exact ht
      have := ow_facts d k (i + 1) (tk d s 3) (o.set (ordL.getD i 0) (tv d s 3)) h0 ht2 (by rw [List.length_set]; exact h1) (fun x hx => by
        rcases List.mem_or_eq_of_mem_set hx with h | rfl
        · exact h2 x h
        · omega)
      exact ⟨this.1, this.2.1, by rw [this.2.2, tk_out]⟩
theorem rpA_pos (k : Nat) : 1 ≤ rpA k ∧ rpA k ≤ 11 := by
  unfold rpA
  repeat' split
  all_goals omega
theorem rpB_le (k : Nat) : rpB k ≤ 7 := by
  unfold rpB
  repeat' split
  all_goals omega
end Go.If
namespace Go.Proofs.YtdcehmhelfohfaaGreatDoor
open Go Go.Vx Go.Hf Go.If
variable [W0]
set_option maxRecDepth 4000
set_option linter.all false
set_option maxHeartbeats 2000000 in
theorem lengthOf_n (k : Nat) (a : Option Addr) (c : Nat) (l : List Nat) (L : List Chunk) (h : Sl L 1 (.slice a l.length c) l.length (ivn l)) (hk : k ≤ 400) (hl : l.length ≤ 1000) (h1 : ¬ (k = 16 ∧ l = [])) :
    GvP Tryz.prog 145 [.int .i64 (k : Int), .slice a l.length c].toArray L (.int .i64 ((rpV k l : Nat) : Int)) := by
  refine Gv.of_body Tryz.func145 rfl rfl ?_
  unfold rpV
  (repeat' first|refine kW ?_|refine kU fun bk=>?_|refine kV fun hc=>?_|refine kZ (fun hc=>?_) fun hc=>?_|fail)
  · have h16 : k = 16 := by omega
    have hne : 0 < l.length := List.length_pos_iff.2 fun hh => h1 ⟨h16, hh⟩
    rw [if_pos h16]
    obtain ⟨x, hx⟩ : ∃ x, l[l.length - 1]? = some x := ⟨l[l.length - 1], List.getElem?_eq_getElem (by omega)⟩
    obtain ⟨b, off, cap, cc, T, fr, hve, hfn, hcell⟩ := sl_at h (ivn_get hx)
    injection hve with q1 q2 q3
    subst q1 q3
    clear q2
    rw [show l.getD (l.length - 1) 0 = x from by simp [List.getD, hx]]
    rw [show (l.length : Int) - 1 = ((l.length - 1 : Nat) : Int) from by omega]
    refine OW_EV (EV_indexAddr (j := l.length - 1) rfl rfl rfl (by omega)) rfl ?_
    (repeat' first|refine kW ?_|refine kU fun bk=>?_|refine kV fun hc=>?_|refine kZ (fun hc=>?_) fun hc=>?_|fail)
    refine OW_EV (EV_load rfl hfn hcell) rfl ?_
    (repeat' first|refine kW ?_|refine kU fun bk=>?_|refine kV fun hc=>?_|refine kZ (fun hc=>?_) fun hc=>?_|fail)
    exact kE
  · rw [if_neg (by omega), if_pos (by omega)]
    exact kE
  · rw [if_neg (by omega), if_pos (by omega)]
    exact kE
  · rw [if_neg (by omega), if_neg (by omega)]
    exact kE
set_option maxHeartbeats 2000000 in
theorem prun_n (p q most k : Nat) (v kn : Value) (d : List UInt8) (s : S6) (D E : Chunk) (L : List Chunk) (h : RdN q d s.t D E) (hl : d.length ≤ 140737488355328) (he : s.e = 0) (hk : k ≤ 400) :
    Gv Tryz.prog 144 [.pointer (some ⟨p, 0, none⟩), .int .i64 (k : Int)].toArray (rdR p q v most kn :: D :: E :: L) (fun r L' =>
      ((tk d s (rpB k)).e ≠ 0 ∧ r = .tuple #[.int .i64 0, .int .i64 ((tk d s (rpB k)).e : Int)] ∧ L' = L) ∨
      ((tk d s (rpB k)).e = 0 ∧ r = .tuple #[.int .i64 ((rpA k + tv d s (rpB k) : Nat) : Int), .int .i64 0] ∧ ∃ D', RdN q d (tk d s (rpB k)).t D' E ∧ L' = rdR p q v most kn :: D' :: E :: L)) := by
  refine Gv.of_body Tryz.func144 rfl rfl ?_
  have hb : rpA k ≤ 11 ∧ rpB k ≤ 7 := by unfold rpA rpB; split <;> (try split) <;> (try split) <;> omega
  have hru := srun_n k (rdR p q v most kn :: D :: E :: L) (by omega)
  have hpc := pcount_n p q most (rpB k) (rpA k) v kn d s D E L h hl (by omega) he (by omega)
  generalize rpA k = ra at hb hru hpc ⊢
  generalize rpB k = rb at hb hru hpc ⊢
  generalize tv d s rb = z at hpc ⊢
  generalize tk d s rb = s1 at hpc ⊢
  (repeat' first|refine kW ?_|refine kU fun bk=>?_|refine kV fun hc=>?_|refine kZ (fun hc=>?_) fun hc=>?_|fail)
  refine OW_callP rfl rfl rfl hru rfl ?_
  (repeat' first|refine kW ?_|refine kU fun bk=>?_|refine kV fun hc=>?_|refine kZ (fun hc=>?_) fun hc=>?_|fail)
  refine OW_call rfl rfl rfl hpc rfl (fun r L' hp => ?_)
  rcases hp with ⟨h1, rfl, rfl⟩ | ⟨h1, rfl, D', hr, rfl⟩
  · (repeat' first|refine kW ?_|refine kU fun bk=>?_|refine kV fun hc=>?_|refine kZ (fun hc=>?_) fun hc=>?_|fail)
    refine kR ?_
    exact ⟨_, iC, .inl ⟨h1, rfl, rfl⟩⟩
  · (repeat' first|refine kW ?_|refine kU fun bk=>?_|refine kV fun hc=>?_|refine kZ (fun hc=>?_) fun hc=>?_|fail)
    refine kR ?_
    exact ⟨_, iC, .inr ⟨h1, rfl, D', hr, rfl⟩⟩
set_option maxHeartbeats 4000000 in
theorem lengthCode_n (p q most : Nat) (v kn : Value) (d : List UInt8) (s : S6) (D E : Chunk) (L : List Chunk) (h : RdN q d s.t D E) (hl : d.length ≤ 140737488355328) (he : s.e = 0) (hor : OrAt L) :
    Gv Tryz.prog 143 [.pointer (some ⟨p, 0, none⟩)].toArray (rdR p q v most kn :: D :: E :: L) (fun r L' =>
      ((lcS d s).1.e ≠ 0 ∧ r = .tuple #[.pointer none, .int .i64 ((lcS d s).1.e : Int)] ∧ L' = L) ∨
      ((lcS d s).1.e = 0 ∧ ∃ pc Co D', r = .tuple #[.pointer (some ⟨pc, 0, none⟩), .int .i64 0] ∧ RdN q d (lcS d s).1.t D' E ∧ CoD (lcS d s).2 pc Co ∧ kS (lcS d s).2 = 32768 ∧ (lcS d s).2.length = 19 ∧ (∀ x ∈ (lcS d s).2, x ≤ 7) ∧ (lcS d s).1.out = s.out ∧ L' = rdR p q v most kn :: D' :: E :: Co :: L)) := by
  refine Gv.of_body Tryz.func143 rfl rfl ?_
  have hc := pcount_n p q most 4 4 v kn d s D E L h hl (by decide) he (by decide)
  have hto := tk_out d s 4
  have htv := tv_lt d s 4
  have htt : (tk d s 4).e = 0 → (tk d s 4).t ≤ 8 * d.length := fun h0 => by
    unfold tk at h0 ⊢
    split
    · assumption
    · rw [fl_t]; exact h.1
  unfold lcS
  generalize tv d s 4 = n at hc htv ⊢
  generalize tk d s 4 = s1 at hc hto htt ⊢
  (repeat' first|refine kW ?_|refine kU fun bk=>?_|refine kV fun hc=>?_|refine kZ (fun hc=>?_) fun hc=>?_|fail)
  refine OW_call rfl rfl rfl hc rfl (fun r L' hp => ?_)
  rcases hp with ⟨h1, rfl, rfl⟩ | ⟨h1, rfl, D1, hr1, rfl⟩
  · rw [if_pos h1]
    (repeat' first|refine kW ?_|refine kU fun bk=>?_|refine kV fun hc=>?_|refine kZ (fun hc=>?_) fun hc=>?_|fail)
    refine WQ_retI (rs := [.tmp 2, .tmp 3]) (vs := [.pointer none, .int .i64 (s1.e : Int)]) rfl rfl ?_
    exact ⟨_, iC, .inl ⟨h1, rfl, rfl⟩⟩
  rw [if_neg (show ¬ s1.e ≠ 0 by omega)]
  have hfa := ow_facts d (4 + n) 0 s1 (List.replicate 19 0) h1 (htt h1) (by simp) (by simp)
  generalize hR : owS d (4 + n) 0 s1 (List.replicate 19 0) = R at hfa ⊢
  rw [hto] at hfa
  (repeat' first|refine kW ?_|refine kU fun bk=>?_|refine kV fun hc=>?_|refine kZ (fun hc=>?_) fun hc=>?_|fail)
  refine OW_makeSlice (m := 19) (c := 19) rfl rfl (by rfl) (by omega) (by omega) (by omega) rfl (fun b => ?_)
  rw [zeros_int]
  (repeat' first|refine kW ?_|refine kU fun bk=>?_|refine kV fun hc=>?_|refine kZ (fun hc=>?_) fun hc=>?_|fail)
  unfold rdR
  refine WC_loop (X := Nat × S6 × List Nat × Chunk) (fun x => [(0, .pointer (some ⟨p, 0, none⟩)), (6, .slice (some ⟨b, 0, none⟩) 19 19), (19, .int .i64 ((4 + n : Nat) : Int)), (20, .int .i64 (x.1 : Int))]) (fun x => [(b, cl (ivn x.2.2.1) 3)] :: rdR p q v most kn :: x.2.2.2 :: E :: L)
    (fun x => x.1 ≤ 4 + n ∧ x.2.1.e = 0 ∧ RdN q d x.2.1.t x.2.2.2 E ∧ x.2.2.1.length = 19 ∧ owS d (4 + n - x.1) x.1 x.2.1 x.2.2.1 = R) (fun x => 4 + n - x.1) (0, s1, List.replicate 19 0, D1) ⟨Nat.zero_le _, h1, hr1, by simp, hR⟩ iS (fun w h => h) ?_
  rintro ⟨i, s5, o, D5⟩ ⟨hi, he5, hr5, hol, hsl⟩
  simp only at hi he5 hr5 hol hsl ⊢
  (repeat' first|refine kW ?_|refine kU fun bk=>?_|refine kV fun hc=>?_|refine kZ (fun hc=>?_) fun hc=>?_|fail)
  · obtain ⟨k2, hk2⟩ : ∃ k2, 4 + n - i = k2 + 1 := ⟨4 + n - i - 1, by omega⟩
    have hk3 : 4 + n - (i + 1) = k2 := by omega
    have htk := ptake_n p q most 3 v kn d s5 D5 E ([(b, cl (ivn o) 3)] :: L) hr5 hl (by decide) he5
    rw [hk2, owS] at hsl
    generalize tv d s5 3 = z at htk hsl
    generalize tk d s5 3 = s6 at htk hsl
    refine OW_call rfl rfl rfl (Gv.holds htk (fun w h => iH h)) rfl (fun r L' hp => ?_)
    rcases hp with ⟨h6, rfl, rfl⟩ | ⟨h6, rfl, D6, hr6, rfl⟩
    · rw [if_pos h6] at hsl
      subst hsl
      rw [if_pos (by exact h6)]
      (repeat' first|refine kW ?_|refine kU fun bk=>?_|refine kV fun hc=>?_|refine kZ (fun hc=>?_) fun hc=>?_|fail)
      refine WQ_retI (rs := [.tmp 2, .tmp 3]) (vs := [.pointer none, .int .i64 (s6.e : Int)]) rfl rfl ?_
      exact ⟨_, iC, .inl ⟨h6, rfl, rfl⟩⟩
    rw [if_neg (show ¬ s6.e ≠ 0 by omega)] at hsl
    have ho19 : ordL.getD i 0 < 19 := by
      have : ∀ j, j < 19 → ordL.getD j 0 < 19 := by decide
      exact this i (by omega)
    have hord := sordered_n i ([(b, cl (ivn o) 3)] :: rdR p q v most kn :: D6 :: E :: L) hor.there.there.there.there (by omega)
    unfold rdR at hord
    generalize ordL.getD i 0 = oi at hsl ho19 hord
    (repeat' first|refine kW ?_|refine kU fun bk=>?_|refine kV fun hc=>?_|refine kZ (fun hc=>?_) fun hc=>?_|fail)
    refine OW_callP rfl rfl rfl (GvP.of hord iC iC) rfl ?_
    (repeat' first|refine kW ?_|refine kU fun bk=>?_|refine kV fun hc=>?_|refine kZ (fun hc=>?_) fun hc=>?_|fail)
    refine OW_EV (EV_indexAddr (j := oi) rfl rfl rfl (by omega)) rfl ?_
    (repeat' first|refine kW ?_|refine kU fun bk=>?_|refine kV fun hc=>?_|refine kZ (fun hc=>?_) fun hc=>?_|fail)
    have hse : (ivn o).set (0 + oi * 1) (.int .i64 (z : Int)) = ivn (o.set oi z) := by simp [ivn, List.map_set]
    refine OW_storeTo (ivn (o.set oi z)) rfl rfl rfl hse iU (by rw [ivn_length]; omega) ?_
    (repeat' first|refine kW ?_|refine kU fun bk=>?_|refine kV fun hc=>?_|refine kZ (fun hc=>?_) fun hc=>?_|fail)
    refine WQ_round (X := Nat × S6 × List Nat × Chunk) (μ := fun x => 4 + n - x.1) (x := (i, s5, o, D5)) (i + 1, s6, o.set oi z, D6) (by simp only; omega) ⟨by simp only; omega, h6, hr6, by simp only [List.length_set]; exact hol, by simp only; rw [hk3]; exact hsl⟩ iS (fun w h => iH h)
  · obtain rfl : i = 4 + n := by omega
    rw [show 4 + n - (4 + n) = 0 from by omega, owS] at hsl
    subst hsl
    simp only at hfa
    rw [if_neg (show ¬ (s5, o).1.e ≠ 0 from fun hh => hh he5)]
    have hcc := completeCode_n (some ⟨b, 0, none⟩) 19 o ([(b, cl (ivn o) 3)] :: rdR p q v most kn :: D5 :: E :: L) (by rw [hol]; exact sl_cells (c := (ivn o).toArray) Fnd.here (by rw [ivn_length, hol]) (by simp)) (fun x hx => by have := hfa.2.1 x hx; omega) (by omega)
    rw [hol] at hcc
    unfold rdR at hcc
    refine OW_call rfl rfl rfl hcc rfl (fun r L' hp => ?_)
    rcases hp with ⟨h7, rfl, rfl⟩ | ⟨h7, pc, Co, rfl, rfl, hco⟩
    · rw [if_neg (by exact h7)]
      simp only [fl3 he5]
      (repeat' first|refine kW ?_|refine kU fun bk=>?_|refine kV fun hc=>?_|refine kZ (fun hc=>?_) fun hc=>?_|fail)
      refine kR ?_
      exact ⟨_, iC, .inl ⟨by decide, rfl, rfl⟩⟩
    · rw [if_pos (by exact h7)]
      (repeat' first|refine kW ?_|refine kU fun bk=>?_|refine kV fun hc=>?_|refine kZ (fun hc=>?_) fun hc=>?_|fail)
      refine kR ?_
      exact ⟨_, iC, .inr ⟨he5, pc, Co, D5, rfl, hr5, hco, h7, hfa.1, hfa.2.1, hfa.2.2, rfl⟩⟩
end Go.Proofs.YtdcehmhelfohfaaGreatDoor
namespace Go.Hf
open Go.Vx
set_option linter.all false
theorem rdS_lt2 {l : List Nat} (hl : 0 < l.length) (w t z : Nat) : ∀ f n, (rdS l w t z f n).1 < l.length
  | 0, n => by simpa [rdS] using hl
  | f + 1, n => by
    have ih := rdS_lt2 hl w t z f (n + 1)
    unfold rdS
    split
    · rename_i i h
      exact (symAt_lt h).1
    · split
      · exact hl
      · split
        · exact hl
        · exact ih
end Go.Hf
namespace Go.If
open Go.Vx Go.Hf
set_option linter.all false
theorem sv_lt [W0] (d : List UInt8) (s : S6) {l : List Nat} (h : 0 < l.length) : sv d s l < l.length := by
  unfold sv
  split
  · exact rdS_lt2 h _ _ _ _ _
  · exact h
theorem rpV_le {k : Nat} {l : List Nat} (hk : k < 19) (h : ∀ x ∈ l, x ≤ 15) : rpV k l ≤ 15 := by
  unfold rpV
  split
  · by_cases hl : l.length - 1 < l.length
    · rw [show l.getD (l.length - 1) 0 = l[l.length - 1] from by simp [List.getD, hl]]
      exact h _ (List.getElem_mem hl)
    · rw [show l.getD (l.length - 1) 0 = 0 from by simp [List.getD, List.getElem?_eq_none (Nat.le_of_not_lt hl)]]
      omega
  · split
    · omega
    · omega
def lgS [W0] (d : List UInt8) (m : Nat) (s : S6) : S6 × List Nat := if (lcS d s).1.e ≠ 0 then ((lcS d s).1, []) else lpS d (lcS d s).2 m m (lcS d s).1 []
theorem dyT_eq [W0] (d : List UInt8) (n1 n2 : Nat) (s : S6) : dyT d n1 n2 s = if (lgS d (n1 + n2) s).1.e ≠ 0 then ((lgS d (n1 + n2) s).1, [], 0) else dyK n1 (lgS d (n1 + n2) s) := by
  unfold dyT lgS
  by_cases h : (lcS d s).1.e ≠ 0
  · simp only [if_pos h]
  · simp only [if_neg h]
end Go.If
namespace Go.Proofs.YtdcehmhelfohfaaGreatDoor
open Go Go.Vx Go.Hf Go.If
variable [W0]
set_option maxRecDepth 4000
set_option linter.all false
set_option maxHeartbeats 8000000 in
theorem plengths_n (p q most m : Nat) (v kn : Value) (d : List UInt8) (s : S6) (D E : Chunk) (L : List Chunk) (h : RdN q d s.t D E) (hl : d.length ≤ 140737488355328) (he : s.e = 0) (hor : OrAt L) (hm : m ≤ 400) :
    Gv Tryz.prog 125 [.pointer (some ⟨p, 0, none⟩), .int .i64 (m : Int)].toArray (rdR p q v most kn :: D :: E :: L) (fun r L' =>
      ((lgS d m s).1.e ≠ 0 ∧ r = .tuple #[.slice none 0 0, .int .i64 ((lgS d m s).1.e : Int)] ∧ L' = L) ∨
      ((lgS d m s).1.e = 0 ∧ ∃ u Cq D', r = .tuple #[u, .int .i64 0] ∧ RdN q d (lgS d m s).1.t D' E ∧ Ow 3 1 u m (ivn (lgS d m s).2) Cq ∧ (lgS d m s).2.length = m ∧ (∀ x ∈ (lgS d m s).2, x ≤ 15) ∧ (lgS d m s).1.out = s.out ∧ L' = Cq :: rdR p q v most kn :: D' :: E :: L)) := by
  refine Gv.of_body Tryz.func125 rfl rfl ?_
  have hlc := lengthCode_n p q most v kn d s D E L h hl he hor
  unfold lgS
  generalize lcS d s = S at hlc ⊢
  obtain ⟨S1, own⟩ := S
  simp only at hlc ⊢
  (repeat' first|refine kW ?_|refine kU fun bk=>?_|refine kV fun hc=>?_|refine kZ (fun hc=>?_) fun hc=>?_|fail)
  refine OW_call rfl rfl rfl hlc rfl (fun r L' hp => ?_)
  rcases hp with ⟨h1, rfl, rfl⟩ | ⟨h1, pc, Co, D1, rfl, hr1, hco, hks, hol, ho7, hout, rfl⟩
  · rw [if_pos h1]
    (repeat' first|refine kW ?_|refine kU fun bk=>?_|refine kV fun hc=>?_|refine kZ (fun hc=>?_) fun hc=>?_|fail)
    refine WQ_retI (rs := [.tmp 4, .tmp 5]) (vs := [.slice none 0 0, .int .i64 (S1.e : Int)]) rfl rfl ?_
    exact ⟨_, iC, .inl ⟨h1, rfl, rfl⟩⟩
  rw [if_neg (show ¬ S1.e ≠ 0 by omega)]
  generalize hQ : lpS d own m m S1 [] = Q
  obtain ⟨q1, q2⟩ := Q
  simp only
  unfold rdR
  (repeat' first|refine kW ?_|refine kU fun bk=>?_|refine kV fun hc=>?_|refine kZ (fun hc=>?_) fun hc=>?_|fail)
  refine WC_loop (X := Nat × S6 × List Nat × Value × Chunk × Chunk) (fun x => [(0, .pointer (some ⟨p, 0, none⟩)), (1, .int .i64 (m : Int)), (6, .pointer (some ⟨pc, 0, none⟩)), (8, x.2.2.2.1)]) (fun x => x.2.2.2.2.1 :: rdR p q v most kn :: x.2.2.2.2.2 :: E :: Co :: L)
    (fun x => x.2.1.e = 0 ∧ x.2.2.1.length ≤ m ∧ m ≤ x.1 + x.2.2.1.length ∧ (∀ y ∈ x.2.2.1, y ≤ 15) ∧ Ow 3 1 x.2.2.2.1 x.2.2.1.length (ivn x.2.2.1) x.2.2.2.2.1 ∧ RdN q d x.2.1.t x.2.2.2.2.2 E ∧ x.2.1.out = S1.out ∧ lpS d own m x.1 x.2.1 x.2.2.1 = (q1, q2)) (fun x => x.1)
    (m, S1, [], .slice none 0 0, [], D1) ⟨h1, Nat.zero_le _, by simp, by simp, .inl ⟨rfl, rfl, rfl, rfl⟩, hr1, rfl, hQ⟩ iS (fun w h => Holds.nil.2 h) ?_
  rintro ⟨f, s5, l, u, Cq, D5⟩ ⟨he5, hlm, hf, hl15, hou, hr5, hout5, hsl⟩
  simp only at he5 hlm hf hl15 hou hr5 hout5 hsl ⊢
  obtain ⟨ua, uc, rfl⟩ := ow_slc hou
  unfold rdR
  (repeat' first|refine kW ?_|refine kU fun bk=>?_|refine kV fun hc=>?_|refine kZ (fun hc=>?_) fun hc=>?_|fail)
  · have hlt : l.length < m := by omega
    obtain ⟨g, rfl⟩ : ∃ z, f = z + 1 := ⟨f - 1, by omega⟩
    rw [lpS, if_pos ⟨he5, hlt⟩] at hsl
    have hsy := psym_n q pc own d s5 D5 E Co (Cq :: rdR p q v most kn :: L) hr5 hl he5 hco (by omega) (fun x hx => by have := ho7 x hx; omega) (by omega)
    have hk19 := sv_lt d s5 (l := own) (by omega)
    have hso := sy_out d s5 own
    unfold rpS rpL at hsl
    generalize sv d s5 own = k at hsy hk19 hsl
    generalize sy d s5 own = s6 at hsy hso hsl
    unfold rdR at hsy
    refine OW_call rfl rfl rfl (Gv.holds hsy (fun w h => iH h)) rfl (fun r L' hp => ?_)
    obtain ⟨D6, rfl, hr6, rfl⟩ := hp
    (repeat' first|refine kW ?_|refine kU fun bk=>?_|refine kV fun hc=>?_|refine kZ (fun hc=>?_) fun hc=>?_|fail)
    · have h6 : s6.e ≠ 0 := by omega
      rw [if_pos h6, if_neg h6] at hsl
      injection hsl with e1 e2
      subst e1 e2
      refine WQ_retI (rs := [.tmp 4, .tmp 5]) (vs := [.slice none 0 0, .int .i64 (s6.e : Int)]) rfl rfl ?_
      exact ⟨_, iC, .inl ⟨h6, rfl, rfl⟩⟩
    have h6 : s6.e = 0 := by omega
    rw [if_neg (show ¬ s6.e ≠ 0 by omega)] at hsl
    have hrun := prun_n p q most k v kn d s6 D6 E (Co :: Cq :: L) hr6 hl h6 (by omega)
    have hto := tk_out d s6 (rpB k)
    have htv := tv_lt d s6 (rpB k)
    have hpw : 2 ^ rpB k ≤ 2 ^ 7 := Nat.pow_le_pow_right (by decide) (rpB_le k)
    have hra := rpA_pos k
    have hrv := rpV_le (l := l) (k := k) (by omega) hl15
    obtain ⟨n, hn⟩ : ∃ n, n = rpA k + tv d s6 (rpB k) := ⟨_, rfl⟩
    rw [← hn] at hrun hsl
    have hn1 : 1 ≤ n ∧ n ≤ 140 := by omega
    generalize tk d s6 (rpB k) = s7 at hrun hto hsl
    unfold rdR at hrun
    refine OW_call rfl rfl rfl (Gv.holds hrun (fun w h => iH h)) rfl (fun r L' hp => ?_)
    rcases hp with ⟨h7, rfl, rfl⟩ | ⟨h7, rfl, D7, hr7, rfl⟩
    · rw [if_pos h7, if_neg h7] at hsl
      injection hsl with e1 e2
      subst e1 e2
      (repeat' first|refine kW ?_|refine kU fun bk=>?_|refine kV fun hc=>?_|refine kZ (fun hc=>?_) fun hc=>?_|fail)
      refine WQ_retI (rs := [.tmp 4, .tmp 5]) (vs := [.slice none 0 0, .int .i64 (s7.e : Int)]) rfl rfl ?_
      exact ⟨_, iC, .inl ⟨h7, rfl, rfl⟩⟩
    rw [if_neg (show ¬ s7.e ≠ 0 by omega)] at hsl
    have hbad : (k = 16 ∧ l = []) ∨ m < l.length + n → q1.e = 3 := by
      intro hb
      rw [if_pos hb, if_neg (by rw [fl3 h7]; decide)] at hsl
      injection hsl with e1 e2
      rw [← e1, fl3 h7]
    have hne : l.length = 0 ↔ l = [] := List.length_eq_zero_iff
    (repeat' first|refine kW ?_|refine kU fun bk=>?_|refine kV fun hc=>?_|refine kZ (fun hc=>?_) fun hc=>?_|fail)
    · rw [hbad (.inl ⟨by omega, hne.1 (by omega)⟩)]
      refine WQ_retI (rs := [.tmp 4, .tmp 5]) (vs := [.slice none 0 0, .int .i64 3]) rfl rfl ?_
      exact ⟨_, iC, .inl ⟨by decide, rfl, rfl⟩⟩
    · rw [hbad (.inr (by omega))]
      refine WQ_retI (rs := [.tmp 4, .tmp 5]) (vs := [.slice none 0 0, .int .i64 3]) rfl rfl ?_
      exact ⟨_, iC, .inl ⟨by decide, rfl, rfl⟩⟩
    · have hg : ¬ ((k = 16 ∧ l = []) ∨ m < l.length + n) := by
        rintro (⟨h1, h2⟩ | h2)
        · have := hne.2 h2; omega
        · omega
      rw [if_neg hg, if_pos h7] at hsl
      have hlo := lengthOf_n k ua uc l (rdR p q v most kn :: D7 :: E :: Co :: Cq :: L) (sl_there (sl_there (sl_there (sl_there (ow_sl hou))))) (by omega) (by omega) (fun hh => hg (.inl hh))
      unfold rdR at hlo
      generalize rpV k l = rv at hlo hrv hsl
      refine OW_callP rfl rfl rfl hlo rfl ?_
      (repeat' first|refine kW ?_|refine kU fun bk=>?_|refine kV fun hc=>?_|refine kZ (fun hc=>?_) fun hc=>?_|fail)
      refine OW_buildSlice (cs := [.int .i64 (rv : Int)]) rfl (by rfl) (by first | (simp [fillL, patch, Value.cells, zeros]; done) | (simp [fillL, patch, Value.cells, zeros]; rfl)) (by omega) rfl rfl (fun b => ?_)
      (repeat' first|refine kW ?_|refine kU fun bk=>?_|refine kV fun hc=>?_|refine kZ (fun hc=>?_) fun hc=>?_|fail)
      refine OW_call rfl rfl rfl (repeat_n b rv n _ Fnd.here hn1.1 (by omega)) rfl (fun r L' hp => ?_)
      obtain ⟨Ct, rfl, hot⟩ := hp
      (repeat' first|refine kW ?_|refine kU fun bk=>?_|refine kV fun hc=>?_|refine kZ (fun hc=>?_) fun hc=>?_|fail)
      refine OW_append rfl rfl hou (ow_sl hot) (by repeat (first | exact Zip.here _ | apply Zip.there)) rfl ivn_ones (by omega) (by simp [maxLen]; omega) rfl (fun v' C' ho' _ _ => ?_)
      rw [← ivn_app] at ho'
      (repeat' first|refine kW ?_|refine kU fun bk=>?_|refine kV fun hc=>?_|refine kZ (fun hc=>?_) fun hc=>?_|fail)
      refine WQ_round (X := Nat × S6 × List Nat × Value × Chunk × Chunk) (μ := fun x => x.1) (x := (g + 1, s5, l, .slice ua l.length uc, Cq, D5)) (g, s7, l ++ List.replicate n rv, v', C', D7) (by simp only; omega) ⟨h7, by simp; omega, by simp; omega, fun y hy => ?_, by simpa using ho', hr7, by rw [hto, hso, hout5], hsl⟩ iS (fun w h => iH h)
      rcases List.mem_append.1 hy with hy | hy
      · exact hl15 y hy
      · rw [List.eq_of_mem_replicate hy]; exact hrv
    · rw [hbad (.inr (by omega))]
      refine WQ_retI (rs := [.tmp 4, .tmp 5]) (vs := [.slice none 0 0, .int .i64 3]) rfl rfl ?_
      exact ⟨_, iC, .inl ⟨by decide, rfl, rfl⟩⟩
    · have hg : ¬ ((k = 16 ∧ l = []) ∨ m < l.length + n) := by
        rintro (⟨h1, h2⟩ | h2)
        · have := hne.2 h2; omega
        · omega
      rw [if_neg hg, if_pos h7] at hsl
      have hlo := lengthOf_n k ua uc l (rdR p q v most kn :: D7 :: E :: Co :: Cq :: L) (sl_there (sl_there (sl_there (sl_there (ow_sl hou))))) (by omega) (by omega) (fun hh => hg (.inl hh))
      unfold rdR at hlo
      generalize rpV k l = rv at hlo hrv hsl
      refine OW_callP rfl rfl rfl hlo rfl ?_
      (repeat' first|refine kW ?_|refine kU fun bk=>?_|refine kV fun hc=>?_|refine kZ (fun hc=>?_) fun hc=>?_|fail)
      refine OW_buildSlice (cs := [.int .i64 (rv : Int)]) rfl (by rfl) (by first | (simp [fillL, patch, Value.cells, zeros]; done) | (simp [fillL, patch, Value.cells, zeros]; rfl)) (by omega) rfl rfl (fun b => ?_)
      (repeat' first|refine kW ?_|refine kU fun bk=>?_|refine kV fun hc=>?_|refine kZ (fun hc=>?_) fun hc=>?_|fail)
      refine OW_call rfl rfl rfl (repeat_n b rv n _ Fnd.here hn1.1 (by omega)) rfl (fun r L' hp => ?_)
      obtain ⟨Ct, rfl, hot⟩ := hp
      (repeat' first|refine kW ?_|refine kU fun bk=>?_|refine kV fun hc=>?_|refine kZ (fun hc=>?_) fun hc=>?_|fail)
      refine OW_append rfl rfl hou (ow_sl hot) (by repeat (first | exact Zip.here _ | apply Zip.there)) rfl ivn_ones (by omega) (by simp [maxLen]; omega) rfl (fun v' C' ho' _ _ => ?_)
      rw [← ivn_app] at ho'
      (repeat' first|refine kW ?_|refine kU fun bk=>?_|refine kV fun hc=>?_|refine kZ (fun hc=>?_) fun hc=>?_|fail)
      refine WQ_round (X := Nat × S6 × List Nat × Value × Chunk × Chunk) (μ := fun x => x.1) (x := (g + 1, s5, l, .slice ua l.length uc, Cq, D5)) (g, s7, l ++ List.replicate n rv, v', C', D7) (by simp only; omega) ⟨h7, by simp; omega, by simp; omega, fun y hy => ?_, by simpa using ho', hr7, by rw [hto, hso, hout5], hsl⟩ iS (fun w h => iH h)
      rcases List.mem_append.1 hy with hy | hy
      · exact hl15 y hy
      · rw [List.eq_of_mem_replicate hy]; exact hrv
  · have hlt : l.length = m := by omega
    have hq : lpS d own m f s5 l = (s5, l) := by
      cases f with
      | zero => rfl
      | succ f => rw [lpS, if_neg (fun hh => by omega)]
    rw [hq] at hsl
    injection hsl with e1 e2
    subst e1 e2
    rw [hlt] at hou
    rw [hlt]
    refine kR ?_
    exact ⟨_, iC, .inr ⟨he5, _, Cq, D5, rfl, hr5, hou, (by first | exact hlt | rfl), hl15, by rw [hout5, hout], rfl⟩⟩
end Go.Proofs.YtdcehmhelfohfaaGreatDoor
namespace Go.If
open Go.Vx Go.Hf
set_option linter.all false
def dbS [W0] (d : List UInt8) (most : Nat) (s : S6) : S6 :=
  if (dyS d s).1.e ≠ 0 then (dyS d s).1 else cdC d most ((dyS d s).2.1.take (dyS d s).2.2) ((dyS d s).2.1.drop (dyS d s).2.2) (8 * d.length + 1) (dyS d s).1
end Go.If
namespace Go.Proofs.YtdcehmhelfohfaaGreatDoor
open Go Go.Vx Go.Hf Go.If
variable [W0]
set_option maxRecDepth 4000
set_option linter.all false
set_option maxHeartbeats 8000000 in
theorem codes_n (p q most : Nat) (v kn : Value) (d : List UInt8) (s : S6) (D E : Chunk) (L : List Chunk) (h : RdN q d s.t D E) (hl : d.length ≤ 140737488355328) (he : s.e = 0) (hor : OrAt L) :
    Gv Tryz.prog 104 [.pointer (some ⟨p, 0, none⟩)].toArray (rdR p q v most kn :: D :: E :: L) (fun r L' =>
      ((dyS d s).1.e ≠ 0 ∧ r = .tuple #[.pointer none, .int .i64 ((dyS d s).1.e : Int)] ∧ L' = L) ∨
      ((dyS d s).1.e = 0 ∧ ∃ pc pl pd Cl Cd D' l dl, r = .tuple #[.pointer (some ⟨pc, 0, none⟩), .int .i64 0] ∧ l = (dyS d s).2.1.take (dyS d s).2.2 ∧ dl = (dyS d s).2.1.drop (dyS d s).2.2 ∧ RdN q d (dyS d s).1.t D' E ∧ CoD l pl Cl ∧ CoD dl pd Cd ∧ kS l ≤ 32768 ∧ (∀ x ∈ l, x ≤ 15) ∧ l.length ≤ 400 ∧ kS dl ≤ 32768 ∧ (∀ x ∈ dl, x ≤ 15) ∧ dl.length ≤ 400 ∧
        (dyS d s).1.out = s.out ∧ L' = csC pc pl pd :: Cl :: Cd :: rdR p q v most kn :: D' :: E :: L)) := by
  refine Gv.of_body Tryz.func104 rfl rfl ?_
  have hc1 := pcount_n p q most 5 257 v kn d s D E L h hl (by decide) he (by decide)
  have htv := tv_lt d s 5
  have hto := tk_out d s 5
  unfold dyS
  generalize tv d s 5 = z1 at hc1 htv ⊢
  generalize tk d s 5 = s1 at hc1 hto ⊢
  (repeat' first|refine kW ?_|refine kU fun bk=>?_|refine kV fun hc=>?_|refine kZ (fun hc=>?_) fun hc=>?_|fail)
  refine OW_call rfl rfl rfl hc1 rfl (fun r L' hp => ?_)
  rcases hp with ⟨h1, rfl, rfl⟩ | ⟨h1, rfl, D1, hr1, rfl⟩
  · rw [if_pos h1]
    (repeat' first|refine kW ?_|refine kU fun bk=>?_|refine kV fun hc=>?_|refine kZ (fun hc=>?_) fun hc=>?_|fail)
    refine WQ_retI (rs := [.tmp 2, .tmp 3]) (vs := [.pointer none, .int .i64 (s1.e : Int)]) rfl rfl ?_
    exact ⟨_, iC, .inl ⟨h1, rfl, rfl⟩⟩
  rw [if_neg (show ¬ s1.e ≠ 0 by omega)]
  have hc2 := pcount_n p q most 5 1 v kn d s1 D1 E L hr1 hl (by decide) h1 (by decide)
  have htv2 := tv_lt d s1 5
  have hto2 := tk_out d s1 5
  generalize tv d s1 5 = z2 at hc2 htv2 ⊢
  generalize tk d s1 5 = s2 at hc2 hto2 ⊢
  (repeat' first|refine kW ?_|refine kU fun bk=>?_|refine kV fun hc=>?_|refine kZ (fun hc=>?_) fun hc=>?_|fail)
  · rw [if_pos (show 29 < z1 by omega)]
    simp only [fl3 h1]
    refine WQ_retI (rs := [.tmp 2, .tmp 3]) (vs := [.pointer none, .int .i64 3]) rfl rfl ?_
    exact ⟨_, iC, .inl ⟨by decide, rfl, rfl⟩⟩
  rw [if_neg (show ¬ 29 < z1 by omega)]
  refine OW_call rfl rfl rfl hc2 rfl (fun r L' hp => ?_)
  rcases hp with ⟨h2, rfl, rfl⟩ | ⟨h2, rfl, D2, hr2, rfl⟩
  · rw [if_pos h2]
    (repeat' first|refine kW ?_|refine kU fun bk=>?_|refine kV fun hc=>?_|refine kZ (fun hc=>?_) fun hc=>?_|fail)
    refine WQ_retI (rs := [.tmp 2, .tmp 3]) (vs := [.pointer none, .int .i64 (s2.e : Int)]) rfl rfl ?_
    exact ⟨_, iC, .inl ⟨h2, rfl, rfl⟩⟩
  rw [if_neg (show ¬ s2.e ≠ 0 by omega)]
  (repeat' first|refine kW ?_|refine kU fun bk=>?_|refine kV fun hc=>?_|refine kZ (fun hc=>?_) fun hc=>?_|fail)
  · rw [if_pos (show 29 < z2 by omega)]
    simp only [fl3 h2]
    refine WQ_retI (rs := [.tmp 2, .tmp 3]) (vs := [.pointer none, .int .i64 3]) rfl rfl ?_
    exact ⟨_, iC, .inl ⟨by decide, rfl, rfl⟩⟩
  rw [if_neg (show ¬ 29 < z2 by omega), dyT_eq]
  obtain ⟨n1, hn1⟩ : ∃ n1, n1 = 257 + z1 := ⟨_, rfl⟩
  obtain ⟨n2, hn2⟩ : ∃ n2, n2 = 1 + z2 := ⟨_, rfl⟩
  rw [← hn1, ← hn2]
  have hle := plengths_n p q most (n1 + n2) v kn d s2 D2 E L hr2 hl h2 hor (by omega)
  generalize lgS d (n1 + n2) s2 = Q at hle ⊢
  obtain ⟨q1, q2⟩ := Q
  simp only at hle ⊢
  rw [← Int.natCast_add]
  refine OW_call rfl rfl rfl hle rfl (fun r L' hp => ?_)
  rcases hp with ⟨h3, rfl, rfl⟩ | ⟨h3, u, Cq, D3, rfl, hr3, hou, hql, hq15, hout, rfl⟩
  · rw [if_pos h3]
    (repeat' first|refine kW ?_|refine kU fun bk=>?_|refine kV fun hc=>?_|refine kZ (fun hc=>?_) fun hc=>?_|fail)
    refine WQ_retI (rs := [.tmp 2, .tmp 3]) (vs := [.pointer none, .int .i64 (q1.e : Int)]) rfl rfl ?_
    exact ⟨_, iC, .inl ⟨h3, rfl, rfl⟩⟩
  rw [if_neg (show ¬ q1.e ≠ 0 by omega)]
  unfold dyK
  simp only
  have hov2 := hou
  rcases hov2 with ⟨_, h0, _⟩ | ⟨b, cap, rest, rfl, rfl, hxl, hrl, hmc, hcm⟩
  · omega
  have hl4 : ∀ x ∈ q2.take n1, x ≤ 15 := fun x hx => hq15 x (List.mem_of_mem_take hx)
  have hd4 : ∀ x ∈ q2.drop n1, x ≤ 15 := fun x hx => hq15 x (List.mem_of_mem_drop hx)
  have hln : (q2.take n1).length = n1 := by simp; omega
  have hdn : (q2.drop n1).length = n2 := by simp; omega
  obtain ⟨x, hx⟩ : ∃ x, q2[256]? = some x := ⟨q2[256], List.getElem?_eq_getElem (by omega)⟩
  have hcell : (ivn q2 ++ rest).toArray[0 + 256 * 1]? = some (.int .i64 (x : Int)) := by
    have h5 := ivn_get hx
    have h6 := (List.getElem?_eq_some_iff.1 h5).1
    rw [List.getElem?_toArray, List.getElem?_append_left (by simpa using h6)]
    simpa using h5
  rw [show q2.getD 256 0 = x from by simp [List.getD, hx]]
  (repeat' first|refine kW ?_|refine kU fun bk=>?_|refine kV fun hc=>?_|refine kZ (fun hc=>?_) fun hc=>?_|fail)
  refine OW_EV (EV_indexAddr (j := 256) rfl rfl rfl (by omega)) rfl ?_
  (repeat' first|refine kW ?_|refine kU fun bk=>?_|refine kV fun hc=>?_|refine kZ (fun hc=>?_) fun hc=>?_|fail)
  refine OW_EV (EV_load rfl Fnd.here hcell) rfl ?_
  (repeat' first|refine kW ?_|refine kU fun bk=>?_|refine kV fun hc=>?_|refine kZ (fun hc=>?_) fun hc=>?_|fail)
  · rw [if_neg (fun hh => hh.1 (by omega))]
    simp only [fl3 h3]
    refine WQ_retI (rs := [.tmp 2, .tmp 3]) (vs := [.pointer none, .int .i64 3]) rfl rfl ?_
    exact ⟨_, iC, .inl ⟨by decide, rfl, rfl⟩⟩
  have hco := codesOf_n (some ⟨b, 0, none⟩) (some ⟨b, n1 * 1, none⟩) cap (cap - n1) (q2.take n1) (q2.drop n1) ([(b, cl (ivn q2 ++ rest) 3)] :: rdR p q v most kn :: D3 :: E :: L)
    (.inr ⟨_, _, by rw [hln], RdAt.cl' (l := ivn q2 ++ rest) Fnd.here (by
      rw [ivn_length, hln]; unfold cut ivn
      rw [List.drop_zero, List.take_append_of_le_length (by simp; omega), List.map_take]), by rw [ivn_length]; simp⟩) hl4 (by omega)
    (.inr ⟨_, _, by rw [hdn], RdAt.cl' (l := ivn q2 ++ rest) Fnd.here (by
      rw [ivn_length, hdn]; unfold cut ivn
      rw [List.drop_append_of_le_length (by simp; omega), List.take_append_of_le_length (by simp; omega), Nat.mul_one, ← List.map_drop, ← List.map_take, List.take_of_length_le (by omega)]), by rw [ivn_length]; simp⟩) hd4 (by omega)
  rw [hln, hdn] at hco
  refine WC_draw [] [] mixed ?_
  (refine WR_t 0 ?_; refine WR_t 1 ?_)
  (refine WR_take 2 rfl rfl (by kernel_rfl) iP iC (EV_sliceTo (h := n1) rfl rfl rfl (by omega)) (by rfl) ?_)
  (refine WR_t 3 ?_; refine WR_t 4 ?_)
  (refine WR_take 5 rfl rfl (by kernel_rfl) iP iC (EV_sliceFrom0 (l := n1) (h := n1 + n2) rfl rfl rfl (by omega) (by omega) (by omega)) (by rfl) ?_)
  rw [show n1 + n2 - n1 = n2 from by omega]
  (refine WR_one 6 (by kernel_rfl) rfl rfl ?_)
  refine OW_call rfl rfl rfl hco rfl (fun r L' hp => ?_)
  rcases hp with ⟨h4, rfl, rfl⟩ | ⟨h4, pc, pl, pd, Cl, Cd, rfl, rfl, hcl, hcd⟩
  · refine ⟨iC, ?_⟩
    (refine WR_t 7 ?_; refine WR_t 8 ?_; refine WR_t 9 ?_; refine WR_t 10 ?_)
    (refine WR_done (by kernel_rfl) ?_)
    rw [if_neg (fun hh => h4 hh.2)]
    simp only [fl3 h3]
    (repeat' first|refine kW ?_|refine kU fun bk=>?_|refine kV fun hc=>?_|refine kZ (fun hc=>?_) fun hc=>?_|fail)
    refine kR ?_
    exact ⟨_, iC, .inl ⟨by decide, rfl, rfl⟩⟩
  · refine ⟨iC, ?_⟩
    (refine WR_t 7 ?_; refine WR_t 8 ?_; refine WR_t 9 ?_; refine WR_t 10 ?_)
    (refine WR_done (by kernel_rfl) ?_)
    rw [if_pos ⟨by omega, h4⟩]
    have hks := kS_sum (q2.drop n1)
    have hkd : kS (q2.drop n1) ≤ 32768 := by
      rcases h4.2 with h | h
      · omega
      · rw [sgl_sum] at h
        have := of_decide_eq_true h
        omega
    have h41 := h4.1
    (repeat' first|refine kW ?_|refine kU fun bk=>?_|refine kV fun hc=>?_|refine kZ (fun hc=>?_) fun hc=>?_|fail)
    refine kR ?_
    exact ⟨_, iC, .inr ⟨h3, pc, pl, pd, Cl, Cd, D3, _, _, rfl, rfl, rfl, hr3, hcl, hcd, (show kS (q2.take n1) ≤ 32768 by omega), hl4, (show (q2.take n1).length ≤ 400 by omega), hkd, hd4, (show (q2.drop n1).length ≤ 400 by omega), by rw [hout, hto2, hto], rfl⟩⟩
set_option maxHeartbeats 4000000 in
theorem pdynamic_n (p q most : Nat) (v kn : Value) (d : List UInt8) (s : S6) (D E C : Chunk) (L : List Chunk) (h : RdN q d s.t D E) (hl : d.length ≤ 140737488355328) (he : s.e = 0) (hm : most ≤ 1000000) (hkn : kn.oneCell' = true) (hor : OrAt L)
    (ho : Ow 5 1 v s.out.length (bsv s.out) C) (hom : s.out.length ≤ most) :
    Gv Tryz.prog 77 [.pointer (some ⟨p, 0, none⟩)].toArray (rdR p q v most kn :: D :: E :: C :: L) (fun r L' =>
      ((dbS d most s).e ≠ 0 ∧ r = .int .i64 ((dbS d most s).e : Int) ∧ L' = L) ∨
      ((dbS d most s).e = 0 ∧ r = .int .i64 0 ∧ ∃ v' D' C', Ow 5 1 v' (dbS d most s).out.length (bsv (dbS d most s).out) C' ∧ (dbS d most s).out.length ≤ most ∧ RdN q d (dbS d most s).t D' E ∧ L' = rdR p q v' most kn :: D' :: E :: C' :: L)) := by
  refine Gv.of_body Tryz.func77 rfl rfl ?_
  have hco := codes_n p q most v kn d s D E (C :: L) h hl he hor.there
  unfold dbS
  generalize dyS d s = Y at hco ⊢
  obtain ⟨s1, ly, ny⟩ := Y
  simp only at hco ⊢
  (repeat' first|refine kW ?_|refine kU fun bk=>?_|refine kV fun hc=>?_|refine kZ (fun hc=>?_) fun hc=>?_|fail)
  refine OW_call rfl rfl rfl hco rfl (fun r L' hp => ?_)
  rcases hp with ⟨h1, rfl, rfl⟩ | ⟨h1, pc, pl, pd, Cl, Cd, D1, l, dl, rfl, rfl, rfl, hr1, hcl, hcd, hk1, h151, hl4, hk2, h152, hd4, hout, rfl⟩
  · rw [if_pos h1]
    (repeat' first|refine kW ?_|refine kU fun bk=>?_|refine kV fun hc=>?_|refine kZ (fun hc=>?_) fun hc=>?_|fail)
    refine kR ?_
    exact ⟨_, iC, .inl ⟨h1, rfl, rfl⟩⟩
  rw [if_neg (show ¬ s1.e ≠ 0 by omega)]
  rw [← hout] at ho hom
  have hcd2 := pcoded_n p q pc pl pd most v kn (ly.take ny) (ly.drop ny) d s1 D1 E C Cl Cd L hr1 hl h1 hm hkn ho hom hcl hk1 h151 hl4 hcd hk2 h152 hd4
  generalize cdC d most (ly.take ny) (ly.drop ny) (8 * d.length + 1) s1 = R at hcd2 ⊢
  (repeat' first|refine kW ?_|refine kU fun bk=>?_|refine kV fun hc=>?_|refine kZ (fun hc=>?_) fun hc=>?_|fail)
  refine OW_call rfl rfl rfl (Gv.holds hcd2 (fun w h => iH h)) rfl (fun r L' hp => ?_)
  rcases hp with ⟨h2, rfl, rfl⟩ | ⟨h2, rfl, v', D', C', ho', hl', hr', rfl⟩
  · (repeat' first|refine kW ?_|refine kU fun bk=>?_|refine kV fun hc=>?_|refine kZ (fun hc=>?_) fun hc=>?_|fail)
    refine kR ?_
    exact ⟨_, iC, .inl ⟨h2, rfl, rfl⟩⟩
  · (repeat' first|refine kW ?_|refine kU fun bk=>?_|refine kV fun hc=>?_|refine kZ (fun hc=>?_) fun hc=>?_|fail)
    refine kR ?_
    exact ⟨_, iC, .inr ⟨h2, rfl, v', D', C', ho', hl', hr', rfl⟩⟩
end Go.Proofs.YtdcehmhelfohfaaGreatDoor
namespace Go.If
open Go.Vx Go.Hf
set_option linter.all false
structure Le (a b : S6) : Prop where
  t : a.t ≤ b.t
  o : a.out.length ≤ b.out.length
theorem Le.rfl' (a : S6) : Le a a := ⟨Nat.le_refl _, Nat.le_refl _⟩
theorem Le.tr {a b c : S6} (h : Le a b) (h2 : Le b c) : Le a c := ⟨Nat.le_trans h.t h2.t, Nat.le_trans h.o h2.o⟩
theorem fl_le (s : S6) (k : Nat) : Le s (fl s k) := ⟨by rw [fl_t]; exact Nat.le_refl _, by rw [fl_out]; exact Nat.le_refl _⟩
theorem tk_le (d : List UInt8) (s : S6) (n : Nat) : Le s (tk d s n) := ⟨tk_t d s n, by rw [tk_out]; exact Nat.le_refl _⟩
theorem sy_o [W0] (d : List UInt8) (s : S6) (l : List Nat) : (sy d s l).out = s.out := by
  unfold sy
  split
  · exact fl_out _ _
  · rfl
theorem sy_le [W0] (d : List UInt8) (s : S6) (l : List Nat) : Le s (sy d s l) := ⟨sy_t d s l, by rw [sy_o]; exact Nat.le_refl _⟩
theorem pt_le (most : Nat) (s : S6) (c : UInt8) : Le s (pt most s c) := by
  by_cases h : s.out.length < most
  · rw [pt_ok h]; exact ⟨Nat.le_refl _, by simp⟩
  · rw [pt_no (by omega)]; exact fl_le _ _
theorem cpL_le (most far : Nat) : ∀ n s, Le s (cpL most far n s)
  | 0, s => Le.rfl' s
  | n + 1, s => by
    rw [cpL]
    split
    · exact (pt_le _ _ _).tr (cpL_le most far n _)
    · exact Le.rfl' s
theorem mtS_le [W0] (d : List UInt8) (most k : Nat) (dl : List Nat) (s : S6) : Le s (mtS d most k dl s) := by
  unfold mtS
  have h1 := tk_le d s (lnB k).2
  have h2 := sy_le d (tk d s (lnB k).2) dl
  generalize tk d s (lnB k).2 = s1 at h1 h2 ⊢
  have h3 := h1.tr h2
  split
  · exact fl_le _ _
  · split
    · exact h3
    · split
      · exact h3.tr (fl_le _ _)
      · unfold mtD
        refine h3.tr (Le.tr ?_ (cpL_le _ _ _ _))
        split
        · exact (tk_le _ _ _).tr (fl_le _ _)
        · exact tk_le _ _ _
theorem cdC_le [W0] (d : List UInt8) (most : Nat) (l dl : List Nat) : ∀ f s, Le s (cdC d most l dl f s)
  | 0, s => Le.rfl' s
  | f + 1, s => by
    rw [cdC]
    have h := sy_le d s l
    split
    · exact Le.rfl' s
    · split
      · exact h
      · split
        · exact h.tr ((pt_le _ _ _).tr (cdC_le d most l dl f _))
        · split
          · exact h
          · exact h.tr ((mtS_le _ _ _ _ _).tr (cdC_le d most l dl f _))
theorem stL_le [W0] (d : List UInt8) (most : Nat) : ∀ k s, Le s (stL d most k s)
  | 0, s => Le.rfl' s
  | k + 1, s => by
    rw [stL]
    have h := tk_le d s 8
    split
    · refine Le.tr ?_ (stL_le d most k _)
      split
      · exact h.tr (pt_le _ _ _)
      · exact h
    · exact Le.rfl' s
theorem stS_le [W0] (d : List UInt8) (most : Nat) (s : S6) : Le s (stS d most s) := by
  unfold stS
  simp only
  have h0 : Le s ⟨8 * ((s.t + 7) / 8), s.out, s.e⟩ := ⟨by simp only; omega, Nat.le_refl _⟩
  have h1 := tk_le d ⟨8 * ((s.t + 7) / 8), s.out, s.e⟩ 16
  have h2 := tk_le d (tk d ⟨8 * ((s.t + 7) / 8), s.out, s.e⟩ 16) 16
  refine (h0.tr (h1.tr h2)).tr (Le.tr ?_ (stL_le d most _ _))
  split
  · exact Le.rfl' _
  · exact fl_le _ _
theorem rpS_le [W0] (d : List UInt8) (own : List Nat) (m : Nat) (s : S6) (l : List Nat) : Le s (rpS d own m s l) := by
  unfold rpS
  have h1 := sy_le d s own
  have h2 := h1.tr (tk_le d (sy d s own) (rpB (sv d s own)))
  split
  · exact h1
  · split
    · exact h2
    · split
      · exact h2.tr (fl_le _ _)
      · exact h2
theorem lpS_le [W0] (d : List UInt8) (own : List Nat) (m : Nat) : ∀ f s l, Le s (lpS d own m f s l).1
  | 0, s, l => Le.rfl' s
  | f + 1, s, l => by
    rw [lpS]
    have h := rpS_le d own m s l
    split
    · split
      · exact h.tr (lpS_le d own m f _ _)
      · exact h
    · exact Le.rfl' s
theorem owS_le [W0] (d : List UInt8) : ∀ k i s o, Le s (owS d k i s o).1
  | 0, i, s, o => Le.rfl' s
  | k + 1, i, s, o => by
    rw [owS]
    have h := tk_le d s 3
    split
    · exact h
    · exact h.tr (owS_le d k _ _ _)
theorem lcS_le [W0] (d : List UInt8) (s : S6) : Le s (lcS d s).1 := by
  unfold lcS
  have h := tk_le d s 4
  have h2 := h.tr (owS_le d (4 + tv d s 4) 0 (tk d s 4) (List.replicate 19 0))
  split
  · exact h
  · split
    · exact h2
    · split
      · exact h2
      · exact h2.tr (fl_le _ _)
theorem lgS_le [W0] (d : List UInt8) (m : Nat) (s : S6) : Le s (lgS d m s).1 := by
  unfold lgS
  have h := lcS_le d s
  split
  · exact h
  · exact h.tr (lpS_le _ _ _ _ _ _)
theorem dyT_le [W0] (d : List UInt8) (n1 n2 : Nat) (s : S6) : Le s (dyT d n1 n2 s).1 := by
  rw [dyT_eq]
  have h := lgS_le d (n1 + n2) s
  split
  · exact h
  · unfold dyK
    split
    · exact h
    · exact h.tr (fl_le _ _)
theorem dyS_le [W0] (d : List UInt8) (s : S6) : Le s (dyS d s).1 := by
  unfold dyS
  have h1 := tk_le d s 5
  have h2 := h1.tr (tk_le d (tk d s 5) 5)
  repeat' split
  · exact h1
  · exact h1.tr (fl_le _ _)
  · exact h2
  · exact h2.tr (fl_le _ _)
  · exact h2.tr (dyT_le _ _ _ _)
theorem dbS_le [W0] (d : List UInt8) (most : Nat) (s : S6) : Le s (dbS d most s) := by
  unfold dbS
  have h := dyS_le d s
  split
  · exact h
  · exact h.tr (cdC_le _ _ _ _ _ _)
def bkS [W0] (d : List UInt8) (most k : Nat) (s : S6) : S6 := if k = 0 then stS d most s else if k = 1 then cdC d most fxL fxD (8 * d.length + 1) s else dbS d most s
theorem bkS_le [W0] (d : List UInt8) (most k : Nat) (s : S6) : Le s (bkS d most k s) := by
  unfold bkS
  repeat' split
  · exact stS_le _ _ _
  · exact cdC_le _ _ _ _ _ _
  · exact dbS_le _ _ _
def rwS [W0] (d : List UInt8) (most : Nat) : Nat → S6 → S6
  | 0, s => s
  | f + 1, s => if (tk d s 3).e ≠ 0 then tk d s 3
    else if 5 < tv d s 3 then fl (tk d s 3) 3
    else if (bkS d most (tv d s 3 / 2) (tk d s 3)).e ≠ 0 then bkS d most (tv d s 3 / 2) (tk d s 3)
    else if tv d s 3 % 2 = 1 then bkS d most (tv d s 3 / 2) (tk d s 3)
    else rwS d most f (bkS d most (tv d s 3 / 2) (tk d s 3))
def rawS [W0] (d : List UInt8) (most : Nat) : S6 := rwS d most (8 * d.length + 1) ⟨0, [], 0⟩
end Go.If
namespace Go.Vx
theorem Gv.monoD {P : Program} {L : List Chunk} {f : FuncId} {args : Array Value} {post post' : Value → List Chunk → Prop} [W0] (h : Gv P f args L post) (hp : ∀ v L', post v L' → ∃ L'', (∀ w, Holds w L' → Holds w L'') ∧ post' v L'') : Gv P f args L post' :=
  ⟨fun w hw => (h.out w hw).mono fun _ _ he => let ⟨v, L', h1, h2, h3⟩ := he; let ⟨L'', h4, h5⟩ := hp v L' h2; ⟨v, L'', h1, h5, h4 _ h3⟩⟩
end Go.Vx
namespace Go.Proofs.YtdcehmhelfohfaaGreatDoor
open Go Go.Vx Go.Hf Go.If
variable [W0]
set_option maxRecDepth 4000
set_option linter.all false
omit [W0] in
def knF : List Value := [.func (.func 75) #[] #[], .func (.func 76) #[] #[], .func (.func 77) #[] #[]]
set_option maxHeartbeats 2000000 in
theorem kinds_n (L : List Chunk) : GvP Tryz.prog 40 #[] L (.agg knF.toArray) := by
  refine Gv.of_body (args := []) Tryz.func40 rfl rfl ?_
  (repeat' first|refine kW ?_|refine kU fun bk=>?_|refine kV fun hc=>?_|refine kZ (fun hc=>?_) fun hc=>?_|fail)
  refine OW_EV (EV_buildArr (cs := knF) rfl (by rfl) (by rfl)) rfl ?_
  (repeat' first|refine kW ?_|refine kU fun bk=>?_|refine kV fun hc=>?_|refine kZ (fun hc=>?_) fun hc=>?_|fail)
  refine OW_holds (L' := [(bk, cl [.nilFunc, .nilFunc, .nilFunc] 98)] :: L) (fun w h => h) ?_
  refine OW_storeAggTo (l := [.nilFunc, .nilFunc, .nilFunc]) (vs := knF) knF rfl rfl (by rfl) (by rfl) (by rfl) iU (by decide) ?_
  (repeat' first|refine kW ?_|refine kU fun bk=>?_|refine kV fun hc=>?_|refine kZ (fun hc=>?_) fun hc=>?_|fail)
  first
    | (refine WQ_retC (vs := [.agg knF.toArray]) rfl (.agg ⟨by kernel_rfl, by kernel_rfl⟩ rfl (RdAt.cl' (vs := knF) (by repeat (first | assumption | exact Fnd.here | refine Fnd.there ?_)) rfl) rfl .nil) ?_
       exact ⟨L, fun w h => h.drop, rfl, rfl⟩)
    | (refine WQ_endC (vs := [.agg knF.toArray]) rfl (.agg ⟨by kernel_rfl, by kernel_rfl⟩ rfl (RdAt.cl' (vs := knF) (by repeat (first | assumption | exact Fnd.here | refine Fnd.there ?_)) rfl) rfl .nil) ?_
       exact ⟨L, fun w h => h.drop, rfl, rfl⟩)
set_option maxHeartbeats 4000000 in
/-- A block, by its type. -/
theorem block_n (k p q most : Nat) (v kn : Value) (d : List UInt8) (s : S6) (D E C K : Chunk) (L : List Chunk) (hk : k < 3) (h : RdN q d s.t D E) (hl : d.length ≤ 140737488355328) (he : s.e = 0) (hm : most ≤ 1000000) (hkn : KnD kn K) (hor : OrAt L)
    (ho : Ow 5 1 v s.out.length (bsv s.out) C) (hom : s.out.length ≤ most) : ∃ f, knF[k]? = some (.func (.func f) #[] #[]) ∧ BD Tryz.prog f ∧
    Gv Tryz.prog f [.pointer (some ⟨p, 0, none⟩)].toArray (rdR p q v most kn :: D :: E :: C :: K :: L) (fun r L' =>
      ((bkS d most k s).e ≠ 0 ∧ r = .int .i64 ((bkS d most k s).e : Int) ∧ L' = L) ∨
      ((bkS d most k s).e = 0 ∧ r = .int .i64 0 ∧ ∃ v' D' C' kn' K', KnD kn' K' ∧ Ow 5 1 v' (bkS d most k s).out.length (bsv (bkS d most k s).out) C' ∧ (bkS d most k s).out.length ≤ most ∧ RdN q d (bkS d most k s).t D' E ∧
        L' = rdR p q v' most kn' :: D' :: E :: C' :: K' :: L)) := by
  rcases (by omega : k = 0 ∨ k = 1 ∨ k = 2) with rfl | rfl | rfl
  · refine ⟨75, rfl, inferInstance, ?_⟩
    refine Gv.monoD (Gv.holds (pstored_n p q most v kn d s D E C (K :: L) h hl he hm hkn.one ho hom) (fun w h => h)) (fun r L' hp => ?_)
    rcases hp with ⟨h1, rfl, rfl⟩ | ⟨h1, rfl, v', D', C', ho', hl', hr', rfl⟩
    · exact ⟨L, fun w h => h.drop, .inl ⟨h1, rfl, rfl⟩⟩
    · exact ⟨_, fun w h => h, .inr ⟨h1, rfl, v', D', C', kn, K, hkn, ho', hl', hr', rfl⟩⟩
  · refine ⟨76, rfl, inferInstance, ?_⟩
    exact pfixed_n p q most v kn d s D E C K L h hl he hm hkn ho hom
  · refine ⟨77, rfl, inferInstance, ?_⟩
    refine Gv.monoD (pdynamic_n p q most v kn d s D E C (K :: L) h hl he hm hkn.one hor.there ho hom) (fun r L' hp => ?_)
    rcases hp with ⟨h1, rfl, rfl⟩ | ⟨h1, rfl, v', D', C', ho', hl', hr', rfl⟩
    · exact ⟨L, fun w h => h.drop, .inl ⟨h1, rfl, rfl⟩⟩
    · exact ⟨_, fun w h => h, .inr ⟨h1, rfl, v', D', C', kn, K, hkn, ho', hl', hr', rfl⟩⟩
set_option maxHeartbeats 8000000 in
theorem blocks_n (p q most : Nat) (v kn : Value) (d : List UInt8) (s : S6) (D E C K : Chunk) (L : List Chunk) (h : RdN q d s.t D E) (hl : d.length ≤ 140737488355328) (he : s.e = 0) (hm : most ≤ 1000000) (hkn : KnD kn K) (hor : OrAt L)
    (ho : Ow 5 1 v s.out.length (bsv s.out) C) (hom : s.out.length ≤ most) :
    Gv Tryz.prog 17 [.pointer (some ⟨p, 0, none⟩)].toArray (rdR p q v most kn :: D :: E :: C :: K :: L) (fun r L' =>
      ((rwS d most (8 * d.length + 1) s).e ≠ 0 ∧ r = .int .i64 ((rwS d most (8 * d.length + 1) s).e : Int) ∧ L' = L) ∨
      ((rwS d most (8 * d.length + 1) s).e = 0 ∧ r = .int .i64 0 ∧ ∃ v' D' C' kn', Ow 5 1 v' (rwS d most (8 * d.length + 1) s).out.length (bsv (rwS d most (8 * d.length + 1) s).out) C' ∧ (rwS d most (8 * d.length + 1) s).out.length ≤ most ∧ RdN q d (rwS d most (8 * d.length + 1) s).t D' E ∧ L' = rdR p q v' most kn' :: D' :: E :: C' :: L)) := by
  refine Gv.of_body Tryz.func17 rfl rfl ?_
  generalize hR : rwS d most (8 * d.length + 1) s = R
  (repeat' first|refine kW ?_|refine kU fun bk=>?_|refine kV fun hc=>?_|refine kZ (fun hc=>?_) fun hc=>?_|fail)
  refine OW_callP rfl rfl rfl (kinds_n _) rfl ?_
  (repeat' first|refine kW ?_|refine kU fun bk=>?_|refine kV fun hc=>?_|refine kZ (fun hc=>?_) fun hc=>?_|fail)
  obtain ⟨b3, hb3⟩ : ∃ b3, b3 = bk := ⟨_, rfl⟩
  rw [← hb3]
  refine OW_holds (L' := [(b3, cl [.nilFunc, .nilFunc, .nilFunc] 98)] :: rdR p q v most kn :: D :: E :: C :: K :: L) (fun w h => h) ?_
  clear hb3
  refine OW_storeAggTo (l := [.nilFunc, .nilFunc, .nilFunc]) (vs := knF) knF rfl rfl (by rfl) (by rfl) (by rfl) iU (by decide) ?_
  (repeat' first|refine kW ?_|refine kU fun bk=>?_|refine kV fun hc=>?_|refine kZ (fun hc=>?_) fun hc=>?_|fail)
  refine WC_loop (X := Nat × S6 × Bool × Value × Chunk × Chunk × Value × Chunk) (fun x => [(0, .pointer (some ⟨p, 0, none⟩)), (3, .pointer (some ⟨b3, 0, none⟩)), (4, .bool x.2.2.1)])
    (fun x => [(b3, cl knF 98)] :: rdR p q x.2.2.2.1 most x.2.2.2.2.2.2.1 :: x.2.2.2.2.1 :: E :: x.2.2.2.2.2.1 :: x.2.2.2.2.2.2.2 :: L)
    (fun x => x.2.1.e = 0 ∧ RdN q d x.2.1.t x.2.2.2.2.1 E ∧ Ow 5 1 x.2.2.2.1 x.2.1.out.length (bsv x.2.1.out) x.2.2.2.2.2.1 ∧ x.2.1.out.length ≤ most ∧ KnD x.2.2.2.2.2.2.1 x.2.2.2.2.2.2.2 ∧ (x.2.2.1 = false → 8 * d.length < x.1 + x.2.1.t ∧ rwS d most x.1 x.2.1 = R) ∧ (x.2.2.1 = true → x.2.1 = R)) (fun x => if x.2.2.1 then 0 else x.1 + 1)
    (8 * d.length + 1, s, false, v, D, C, kn, K) ⟨he, h, ho, hom, hkn, fun _ => ⟨by simp only; omega, hR⟩, fun hh => by cases hh⟩ iS (fun w h => h) ?_
  clear hR ho hom h
  rintro ⟨f, s1, bb, v1, D1, C1, kn1, K1⟩ ⟨he1, hr1, ho1, hl1, hk1, hf1, hf2⟩
  simp only at he1 hr1 ho1 hl1 hk1 hf1 hf2 ⊢
  cases bb with
  | true =>
    have hf2 := hf2 rfl
    subst hf2
    (repeat' first|refine kW ?_|refine kU fun bk=>?_|refine kV fun hc=>?_|refine kZ (fun hc=>?_) fun hc=>?_|fail)
    refine kR ?_
    exact ⟨_, iC, .inr ⟨he1, rfl, v1, D1, C1, kn1, ho1, hl1, hr1, rfl⟩⟩
  | false =>
    obtain ⟨hf3, hsl⟩ := hf1 rfl
    clear hf1 hf2
    have ht1 := hr1.1
    obtain ⟨f, rfl⟩ : ∃ g, f = g + 1 := ⟨f - 1, by omega⟩
    rw [rwS] at hsl
    have htk := ptake_n p q most 3 v1 kn1 d s1 D1 E (C1 :: K1 :: [(b3, cl knF 98)] :: L) hr1 hl (by decide) he1
    have htv := tv_lt d s1 3
    have hto := tk_out d s1 3
    have htt : (tk d s1 3).e = 0 → (tk d s1 3).t = s1.t + 3 := fun h0 => by
      by_cases hc : s1.t + 3 ≤ 8 * d.length
      · rw [tk_ok hc]
      · rw [Go.If.tk_no hc he1] at h0; cases h0
    generalize tv d s1 3 = z at htk htv hsl
    generalize tk d s1 3 = s2 at htk hto htt hsl
    rw [← hto] at ho1 hl1
    (repeat' first|refine kW ?_|refine kU fun bk=>?_|refine kV fun hc=>?_|refine kZ (fun hc=>?_) fun hc=>?_|fail)
    refine OW_call rfl rfl rfl (Gv.holds htk (fun w h => iH h)) rfl (fun r L' hp => ?_)
    rcases hp with ⟨h2, rfl, rfl⟩ | ⟨h2, rfl, D2, hr2, rfl⟩
    · rw [if_pos h2] at hsl
      subst hsl
      (repeat' first|refine kW ?_|refine kU fun bk=>?_|refine kV fun hc=>?_|refine kZ (fun hc=>?_) fun hc=>?_|fail)
      refine kR ?_
      exact ⟨_, iC, .inl ⟨h2, rfl, rfl⟩⟩
    rw [if_neg (show ¬ s2.e ≠ 0 by omega)] at hsl
    have htt := htt h2
    (repeat' first|refine kW ?_|refine kU fun bk=>?_|refine kV fun hc=>?_|refine kZ (fun hc=>?_) fun hc=>?_|fail)
    refine OW_EV (EV_bit rfl rfl (bit_and16 (a := z) (b := 1) (by omega) (by decide))) rfl ?_
    rw [Nat.and_one_is_mod]
    (repeat' first|refine kW ?_|refine kU fun bk=>?_|refine kV fun hc=>?_|refine kZ (fun hc=>?_) fun hc=>?_|fail)
    · rw [if_pos (show 5 < z by omega)] at hsl
      have e3 : R.e = 3 := by rw [← hsl, fl3 h2]
      rw [e3]
      refine kR ?_
      exact ⟨_, iC, .inl ⟨by decide, rfl, rfl⟩⟩
    rw [if_neg (show ¬ 5 < z by omega)] at hsl
    have hle := bkS_le d most (z / 2) s2
    obtain ⟨fn, hfn, hbd, hbk⟩ := block_n (z / 2) p q most v1 kn1 d s2 D2 E C1 K1 ([(b3, cl knF 98)] :: L) (by omega) hr2 hl h2 hm hk1 hor.there ho1 hl1
    generalize bkS d most (z / 2) s2 = s3 at hsl hle hbk
    haveI := hbd
    refine OW_EV (EV_indexAddrA' (z / 2) rfl rfl (by omega) (by omega)) rfl ?_
    (repeat' first|refine kW ?_|refine kU fun bk=>?_|refine kV fun hc=>?_|refine kZ (fun hc=>?_) fun hc=>?_|fail)
    refine OW_EV (EV_load (v := .func (.func fn) #[] #[]) rfl (by exact Fnd.there (Fnd.there (Fnd.there (Fnd.there (Fnd.there Fnd.here))))) (by rw [Nat.zero_add, Nat.mul_one, List.getElem?_toArray]; exact hfn)) rfl ?_
    (repeat' first|refine kW ?_|refine kU fun bk=>?_|refine kV fun hc=>?_|refine kZ (fun hc=>?_) fun hc=>?_|fail)
    refine OW_call rfl rfl rfl (Gv.holds hbk (fun w h => iH h)) rfl (fun r L' hp => ?_)
    rcases hp with ⟨h3, rfl, rfl⟩ | ⟨h3, rfl, v3, D3, C3, kn3, K3, hk3, ho3, hl3, hr3, rfl⟩
    · rw [if_pos h3] at hsl
      subst hsl
      (repeat' first|refine kW ?_|refine kU fun bk=>?_|refine kV fun hc=>?_|refine kZ (fun hc=>?_) fun hc=>?_|fail)
      refine kR ?_
      exact ⟨_, iC, .inl ⟨h3, rfl, rfl⟩⟩
    rw [if_neg (show ¬ s3.e ≠ 0 by omega)] at hsl
    have hlt := hle.t
    (repeat' first|refine kW ?_|refine kU fun bk=>?_|refine kV fun hc=>?_|refine kZ (fun hc=>?_) fun hc=>?_|fail)
    refine WQ_round (X := Nat × S6 × Bool × Value × Chunk × Chunk × Value × Chunk) (μ := fun x => if x.2.2.1 then 0 else x.1 + 1) (x := (f + 1, s1, false, v1, D1, C1, kn1, K1)) (f, s3, ((z % 2 : Nat) : Int) == 1, v3, D3, C3, kn3, K3) (by simp only [Bool.false_eq_true, if_false]; split <;> omega) ⟨h3, hr3, ho3, hl3, hk3, fun hb => ?_, fun hb => ?_⟩ iS (fun w h => iH h)
    · have hb2 : ¬ z % 2 = 1 := fun hh => by simp only [hh] at hb; cases hb
      rw [if_neg hb2] at hsl
      exact ⟨by simp only; omega, hsl⟩
    · have hb2 : z % 2 = 1 := by
        simp only at hb
        have := eq_of_beq hb
        omega
      rw [if_pos hb2] at hsl
      exact hsl
set_option maxHeartbeats 4000000 in
theorem praw_n (a : Option Addr) (c : Nat) (d : List UInt8) (most : Int) (m : Nat) (L : List Chunk) (hv : Sl L 1 (.slice a d.length c) d.length (bsv d)) (hl : d.length ≤ 140737488355328) (hm1 : max most 0 = (m : Int)) (hm : m ≤ 1000000) (hor : OrAt L) :
    Gv Tryz.prog 9 [.slice a d.length c, .int .i64 most].toArray L (fun r L' =>
      ((rawS d m).e ≠ 0 ∧ r = .tuple #[.slice none 0 0, .int .i64 0, .int .i64 ((rawS d m).e : Int)] ∧ L' = L) ∨
      ((rawS d m).e = 0 ∧ ∃ v C, r = .tuple #[v, .int .i64 (((rawS d m).t + 7) / 8 : Nat), .int .i64 0] ∧ Ow 5 1 v (rawS d m).out.length (bsv (rawS d m).out) C ∧ (rawS d m).out.length ≤ m ∧ (rawS d m).t ≤ 8 * d.length ∧ L' = C :: L)) := by
  refine Gv.of_body Tryz.func9 rfl rfl ?_
  (repeat' first|refine kW ?_|refine kU fun bk=>?_|refine kV fun hc=>?_|refine kZ (fun hc=>?_) fun hc=>?_|fail)
  refine OW_call rfl rfl rfl (read_n d _ L hv hl) rfl (fun r L' hp => ?_)
  obtain ⟨q, D, E, rfl, hr, rfl⟩ := hp
  (repeat' first|refine kW ?_|refine kU fun bk=>?_|refine kV fun hc=>?_|refine kZ (fun hc=>?_) fun hc=>?_|fail)
  rw [hm1]
  obtain ⟨p, hp⟩ : ∃ p, p = bk := ⟨_, rfl⟩
  rw [← hp]
  clear hp
  refine OW_holds (L' := rdR p q (.slice none 0 0) m (.pointer none) :: D :: E :: [] :: [] :: L) (fun w h => by
    have h' : Holds w (rdR p q (.slice none 0 0) m (.pointer none) :: D :: E :: L) := h
    simpa only [Holds, List.flatten_cons, List.nil_append] using h') ?_
  have hb := blocks_n p q m (.slice none 0 0) (.pointer none) d ⟨0, [], 0⟩ D E [] [] L hr hl rfl hm (.inl ⟨rfl, rfl⟩) hor (.inl ⟨rfl, rfl, rfl, rfl⟩) (Nat.zero_le _)
  change Gv _ _ _ _ (fun r L' => ((rawS d m).e ≠ 0 ∧ r = .int .i64 ((rawS d m).e : Int) ∧ L' = L) ∨ ((rawS d m).e = 0 ∧ r = .int .i64 0 ∧ ∃ v' D' C' kn', Ow 5 1 v' (rawS d m).out.length (bsv (rawS d m).out) C' ∧ (rawS d m).out.length ≤ m ∧ RdN q d (rawS d m).t D' E ∧ L' = rdR p q v' m kn' :: D' :: E :: C' :: L)) at hb
  generalize rawS d m = R at hb ⊢
  refine OW_call rfl rfl rfl hb rfl (fun r L' hp => ?_)
  rcases hp with ⟨h1, rfl, rfl⟩ | ⟨h1, rfl, v1, D1, C1, kn1, ho1, hl1, hr1, rfl⟩
  · (repeat' first|refine kW ?_|refine kU fun bk=>?_|refine kV fun hc=>?_|refine kZ (fun hc=>?_) fun hc=>?_|fail)
    refine WQ_retI (rs := [.tmp 4, .tmp 5, .tmp 6]) (vs := [.slice none 0 0, .int .i64 0, .int .i64 (R.e : Int)]) rfl rfl ?_
    exact ⟨_, iC, .inl ⟨h1, rfl, rfl⟩⟩
  · obtain ⟨ht1, rv, rfl, hoE⟩ := hr1
    have hus := used_n q ((R.t + 7) / 8) rv (.int .u64 ((val d / 2 ^ R.t % 2 ^ (8 * ((R.t + 7) / 8) - R.t) : Nat) : Int)) (.int .i64 ((8 * ((R.t + 7) / 8) - R.t : Nat) : Int)) 96 (rdR p q v1 m kn1 :: [(q, cl (rdC rv d R.t ((R.t + 7) / 8)) 96)] :: E :: C1 :: L) (by exact Fnd.there Fnd.here)
    generalize hn : (R.t + 7) / 8 = n at hus ⊢
    unfold rdR at hus ⊢
    (repeat' first|refine kW ?_|refine kU fun bk=>?_|refine kV fun hc=>?_|refine kZ (fun hc=>?_) fun hc=>?_|fail)
    refine WC_draw [[(p, cl [.pointer (some ⟨q, 0, none⟩), v1, .int .i64 (m : Int), kn1] 46)]] [] mixed ?_
    (refine WR_t 0 ?_; refine WR_t 1 ?_; refine WR_t 2 ?_; refine WR_t 3 ?_; refine WR_t 4 ?_; refine WR_t 5 ?_; refine WR_t 6 ?_; refine WR_t 7 ?_)
    (refine WR_one 8 (by kernel_rfl) rfl rfl ?_)
    refine OW_callP rfl rfl rfl hus rfl ?_
    refine ⟨iC, ?_⟩
    (refine WR_t 9 ?_; refine WR_t 10 ?_; refine WR_t 11 ?_)
    (refine WR_done (by kernel_rfl) ?_)
    (repeat' first|refine kW ?_|refine kU fun bk=>?_|refine kV fun hc=>?_|refine kZ (fun hc=>?_) fun hc=>?_|fail)
    refine WQ_retI (rs := [.tmp 4, .tmp 5, .tmp 6]) (vs := [v1, .int .i64 (n : Int), .int .i64 0]) rfl rfl ?_
    exact ⟨C1 :: L, iC, .inr ⟨h1, v1, C1, rfl, ho1, hl1, ht1, rfl⟩⟩
end Go.Proofs.YtdcehmhelfohfaaGreatDoor
namespace Go.If
open Go.Vx Go.Hf
set_option linter.all false
def At (d : List UInt8) (t v n : Nat) : Prop := val d / 2 ^ t % 2 ^ n = v ∧ t + n ≤ 8 * d.length
theorem tk_at [W0] {d : List UInt8} {s : S6} {v n : Nat} (h : At d s.t v n) : tk d s n = ⟨s.t + n, s.out, s.e⟩ ∧ tv d s n = v := ⟨tk_ok h.2, by rw [tv_ok h.2]; exact h.1⟩
theorem At.split {d : List UInt8} {t v n r m : Nat} (h : At d t (v + 2 ^ n * r) (n + m)) (hv : v < 2 ^ n) : At d t v n ∧ At d (t + n) r m := by
  obtain ⟨h1, h2⟩ := h
  rw [Nat.pow_add, Nat.mod_mul] at h1
  generalize hx : val d / 2 ^ t = x at h1
  have hp : 0 < 2 ^ n := Nat.pow_pos (by decide)
  have hlt := Nat.mod_lt x hp
  have e1 : x % 2 ^ n = v := by
    have h3 := congrArg (· % 2 ^ n) h1
    simp only [Nat.add_mul_mod_self_left] at h3
    rwa [Nat.mod_eq_of_lt hlt, Nat.mod_eq_of_lt hv] at h3
  have e2 : x / 2 ^ n % 2 ^ m = r := by
    rw [e1] at h1
    have h4 : 2 ^ n * (x / 2 ^ n % 2 ^ m) = 2 ^ n * r := by omega
    exact Nat.eq_of_mul_eq_mul_left hp h4
  refine ⟨⟨by rw [hx]; exact e1, by omega⟩, ⟨?_, by omega⟩⟩
  rw [Nat.pow_add, ← Nat.div_div_eq_div_mul, hx]
  exact e2
theorem sy_at [W0] {d : List UInt8} {s : S6} {l : List Nat} {i n : Nat} (he : s.e = 0) (hi : l[i]? = some n) (h0 : 0 < n) (h15 : n ≤ 15) (hc : cd l i < 2 ^ n) (h : At d s.t (mir (cd l i) n) n) :
    sy d s l = ⟨s.t + n, s.out, 0⟩ ∧ sv d s l = i := by
  have hb : hv (val d) s.t n = cd l i := by
    rw [hv_mir, ← mir_mod (val d / 2 ^ s.t) (Nat.le_refl n), h.1, mir_mir, Nat.mod_eq_of_lt hc]
  have hr := rd_hit (z := 8 * d.length) hi h0 h15 hb h.2
  unfold sy sv fl
  rw [if_pos he, if_pos (by exact he), if_pos he, hr]
  exact ⟨rfl, rfl⟩
def itV : List (Nat × Nat) → Nat
  | [] => 0
  | x :: r => x.1 + 2 ^ x.2 * itV r
def itL : List (Nat × Nat) → Nat
  | [] => 0
  | x :: r => x.2 + itL r
theorem itL_app : ∀ a b : List (Nat × Nat), itL (a ++ b) = itL a + itL b
  | [], b => by simp [itL]
  | x :: a, b => by rw [List.cons_append, itL, itL, itL_app a b]; omega
theorem itV_app : ∀ a b : List (Nat × Nat), itV (a ++ b) = itV a + 2 ^ itL a * itV b
  | [], b => by simp [itV, itL]
  | x :: a, b => by
    rw [List.cons_append, itV, itV, itL, itV_app a b, Nat.mul_add, Nat.pow_add, Nat.mul_assoc]
    omega
theorem itV_lt : ∀ {a : List (Nat × Nat)}, (∀ x ∈ a, x.1 < 2 ^ x.2) → itV a < 2 ^ itL a
  | [], _ => by simp [itV, itL]
  | x :: a, h => by
    have h1 := h x List.mem_cons_self
    have h2 := itV_lt (a := a) (fun y hy => h y (List.mem_cons_of_mem _ hy))
    rw [itV, itL, Nat.pow_add]
    have h3 : 2 ^ x.2 * (itV a + 1) ≤ 2 ^ x.2 * 2 ^ itL a := Nat.mul_le_mul_left _ h2
    rw [Nat.mul_add] at h3
    omega
theorem at_all [W0] {a : List (Nat × Nat)} (h : ∀ x ∈ a, x.1 < 2 ^ x.2) : At (leB (itV a) ((itL a + 7) / 8)) 0 (itV a) (itL a) := by
  have hlt := itV_lt h
  have hle : itL a ≤ 8 * ((itL a + 7) / 8) := by omega
  have h2 : itV a < 2 ^ (8 * ((itL a + 7) / 8)) := Nat.lt_of_lt_of_le hlt (Nat.pow_le_pow_right (by decide) hle)
  refine ⟨?_, by rw [leB_length]; omega⟩
  rw [val_leB, Nat.mod_eq_of_lt h2, Nat.pow_zero, Nat.div_one, Nat.mod_eq_of_lt hlt]
def cpW (far : Nat) : Nat → List UInt8 → List UInt8
  | 0, o => o
  | k + 1, o => cpW far k (o ++ [o.getD (o.length - far) 0])
theorem cpL_fit (most far : Nat) : ∀ n s, s.e = 0 → s.out.length + n ≤ most → cpL most far n s = ⟨s.t, cpW far n s.out, 0⟩
  | 0, s, he, _ => by
    obtain ⟨t, o, e⟩ := s
    simp only at he
    subst he
    rfl
  | n + 1, s, he, h => by
    rw [cpL, if_pos he, pt_ok (by omega), cpL_fit most far n ⟨s.t, s.out ++ [s.out.getD (s.out.length - far) 0], s.e⟩ he (by simp; omega)]
    rfl
theorem val_append (a b : List UInt8) : val (a ++ b) = val a + 2 ^ (8 * a.length) * val b := by
  induction a with
  | nil => simp [val]
  | cons x a ih =>
    rw [List.cons_append, val, val, ih, List.length_cons, Nat.mul_add, Nat.mul_succ, Nat.pow_add, Nat.mul_comm (2 ^ (8 * a.length)) (2 ^ 8), Nat.mul_assoc]
    omega
theorem stL_at [W0] (d : List UInt8) (most : Nat) : ∀ (p : List UInt8) (s : S6), s.e = 0 → s.out.length + p.length ≤ most → At d s.t (val p) (8 * p.length) → stL d most p.length s = ⟨s.t + 8 * p.length, s.out ++ p, 0⟩
  | [], s, he, ho, h => by
    obtain ⟨t, o, e⟩ := s
    simp only at he
    subst he
    simp [stL]
  | c :: p, s, he, ho, h => by
    have hc := c.toNat_lt
    have h' : At d s.t (c.toNat + 2 ^ 8 * val p) (8 + 8 * p.length) := by
      have e : 8 * (c :: p).length = 8 + 8 * p.length := by rw [List.length_cons]; omega
      rw [e] at h
      exact h
    obtain ⟨h1, h2⟩ := h'.split (by omega)
    obtain ⟨e1, e2⟩ := tk_at h1
    rw [List.length_cons, stL, if_pos he, e1, e2]
    simp only
    rw [if_pos he, pt_ok (by simp at ho ⊢; omega), UInt8.ofNat_toNat]
    rw [stL_at d most p ⟨s.t + 8, s.out ++ [c], s.e⟩ he (by simp at ho ⊢; omega) h2]
    simp
    omega
end Go.If
namespace Go.Df
open Go.Vx Go.Hf Go.If
set_option linter.all false
theorem cdFit {l : List Nat} (hk : kS l ≤ 32768) (h15 : ∀ i, l.getD i 0 ≤ 15) {s : Nat} (hs : s < l.length) (h0 : 0 < l.getD s 0) : cd l s < 2 ^ l.getD s 0 := by
  have hi : l[s]? = some (l.getD s 0) := by simp [List.getD, hs]
  exact Nat.lt_of_lt_of_le (cd_in hi (by omega)).2 (fs_fit hk h0 (h15 s))
def Bi (d : List UInt8) (t : Nat) (a : List (Nat × Nat)) : Prop := At d t (itV a) (itL a)
theorem Bi.cons [W0] {d : List UInt8} {t : Nat} {x : Nat × Nat} {a : List (Nat × Nat)} (h : Bi d t (x :: a)) (hx : x.1 < 2 ^ x.2) : At d t x.1 x.2 ∧ Bi d (t + x.2) a := At.split (v := x.1) (n := x.2) (r := itV a) (m := itL a) h hx
theorem Bi.app [W0] : ∀ {d : List UInt8} {t : Nat} {a b : List (Nat × Nat)}, Bi d t (a ++ b) → (∀ x ∈ a, x.1 < 2 ^ x.2) → Bi d t a ∧ Bi d (t + itL a) b := by
  intro d t a b h ha
  have h' : At d t (itV a + 2 ^ itL a * itV b) (itL a + itL b) := by
    have := h
    unfold Bi at this
    rwa [itV_app, itL_app] at this
  obtain ⟨h1, h2⟩ := h'.split (itV_lt ha)
  exact ⟨h1, h2⟩
def sc [W0] (l : List Nat) (i : Nat) : Nat × Nat := (mir (cd l i) (l.getD i 0), l.getD i 0)
structure Cok (l : List Nat) : Prop where
  k : kS l ≤ 32768
  le : ∀ x ∈ l, x ≤ 15
theorem Cok.at {l : List Nat} (h : Cok l) (i : Nat) : l.getD i 0 ≤ 15 := by
  by_cases hi : i < l.length
  · have e : l.getD i 0 = l[i] := by simp [List.getD, hi]
    rw [e]; exact h.le _ (List.getElem_mem hi)
  · rw [show l.getD i 0 = 0 from by simp [List.getD, List.getElem?_eq_none (Nat.le_of_not_lt hi)]]; omega
theorem sc_lt [W0] (l : List Nat) (i : Nat) : (sc l i).1 < 2 ^ (sc l i).2 := mir_lt _ _
theorem lt_of_pos {l : List Nat} {i : Nat} (h : 0 < l.getD i 0) : i < l.length := by
  by_cases hi : i < l.length
  · exact hi
  · rw [show l.getD i 0 = 0 from by simp [List.getD, List.getElem?_eq_none (Nat.le_of_not_lt hi)]] at h; omega
theorem sy_bi [W0] {d : List UInt8} {s : S6} {l : List Nat} {i : Nat} (hl : Cok l) (he : s.e = 0) (h0 : 0 < l.getD i 0) (h : At d s.t (sc l i).1 (sc l i).2) :
    sy d s l = ⟨s.t + l.getD i 0, s.out, 0⟩ ∧ sv d s l = i := by
  have hi := lt_of_pos h0
  exact sy_at he (by simp [List.getD, hi]) h0 (hl.at i) (cdFit hl.k hl.at hi h0) h
inductive Tok
  | lit (c : UInt8)
  | mt (k x t y : Nat)
def lnT (k x : Nat) : Nat := (lnB k).1 + x
def dsT (t y : Nat) : Nat := baB 1 2 4 t + y
def tkI [W0] (l dl : List Nat) : Tok → List (Nat × Nat)
  | .lit c => [sc l c.toNat]
  | .mt k x t y => [sc l k, (x, (lnB k).2), sc dl t, (y, exB t 2 4)]
def tkW : Tok → List UInt8 → List UInt8
  | .lit c, o => o ++ [c]
  | .mt k x t y, o => cpW (dsT t y) (lnT k x) o
def tkOk (l dl : List Nat) (n : Nat) : Tok → Prop
  | .lit c => 0 < l.getD c.toNat 0
  | .mt k x t y => 257 ≤ k ∧ k ≤ 285 ∧ 0 < l.getD k 0 ∧ x < 2 ^ (lnB k).2 ∧ t ≤ 29 ∧ 0 < dl.getD t 0 ∧ y < 2 ^ exB t 2 4 ∧ dsT t y ≤ n
def tkN : Tok → Nat
  | .lit _ => 1
  | .mt k x _ _ => lnT k x
theorem tkI_lt [W0] {l dl : List Nat} {n : Nat} {k : Tok} (h : tkOk l dl n k) : ∀ x ∈ tkI l dl k, x.1 < 2 ^ x.2 := by
  intro x hx
  cases k with
  | lit c =>
    rw [List.mem_singleton.1 hx]
    exact sc_lt _ _
  | mt k x t y =>
    obtain ⟨h1, h2, h3, h4, h5, h6, h7, h8⟩ := h
    simp only [tkI, List.mem_cons, List.not_mem_nil, or_false] at hx
    rcases hx with rfl | rfl | rfl | rfl
    · exact sc_lt _ _
    · exact h4
    · exact sc_lt _ _
    · exact h7
theorem cpW_length (far : Nat) : ∀ n o, (cpW far n o).length = o.length + n
  | 0, o => rfl
  | n + 1, o => by rw [cpW, cpW_length far n]; simp; omega
theorem tkW_length (k : Tok) (o : List UInt8) : (tkW k o).length = o.length + tkN k := by
  cases k with
  | lit c => simp [tkW, tkN]
  | mt k x t y => rw [tkW, cpW_length]; rfl
theorem tok_at [W0] {d : List UInt8} {most : Nat} {l dl : List Nat} {s : S6} {k : Tok} {f : Nat} (hl : Cok l) (hd : Cok dl) (he : s.e = 0) (hk : tkOk l dl s.out.length k) (hm : s.out.length + tkN k ≤ most) (h : Bi d s.t (tkI l dl k)) :
    cdC d most l dl (f + 1) s = cdC d most l dl f ⟨s.t + itL (tkI l dl k), tkW k s.out, 0⟩ := by
  cases k with
  | lit c =>
    have hc := c.toNat_lt
    obtain ⟨h1, _⟩ := Bi.cons h (sc_lt _ _)
    obtain ⟨e1, e2⟩ := sy_bi hl he hk h1
    rw [cdC, if_neg (show ¬ s.e ≠ 0 from fun hh => hh he), e1, e2, if_neg (show ¬ (0 : Nat) ≠ 0 by decide), if_pos (show c.toNat < 256 by omega), pt_ok (show (⟨s.t + l.getD c.toNat 0, s.out, 0⟩ : S6).out.length < most by simp only [tkN] at hm ⊢; omega), UInt8.ofNat_toNat]
    rfl
  | mt k x t y =>
    obtain ⟨k1, k2, k3, k4, k5, k6, k7, k8⟩ := hk
    obtain ⟨h1, h⟩ := Bi.cons h (sc_lt _ _)
    obtain ⟨h2, h⟩ := Bi.cons h k4
    obtain ⟨h3, h⟩ := Bi.cons h (sc_lt _ _)
    obtain ⟨h4, _⟩ := Bi.cons h k7
    obtain ⟨e1, e2⟩ := sy_bi hl he k3 h1
    rw [cdC, if_neg (show ¬ s.e ≠ 0 from fun hh => hh he), e1, e2, if_neg (show ¬ (0 : Nat) ≠ 0 by decide), if_neg (show ¬ k < 256 by omega), if_neg (show ¬ k = 256 by omega)]
    obtain ⟨e3, e4⟩ := tk_at (s := ⟨s.t + l.getD k 0, s.out, 0⟩) h2
    obtain ⟨e5, e6⟩ := sy_bi (s := ⟨s.t + l.getD k 0 + (lnB k).2, s.out, 0⟩) hd rfl k6 h3
    obtain ⟨e7, e8⟩ := tk_at (s := ⟨s.t + l.getD k 0 + (lnB k).2 + dl.getD t 0, s.out, 0⟩) h4
    simp only at e3 e4 e5 e6 e7 e8
    unfold mtS
    rw [if_neg (show ¬ 285 < k by omega), e3, e4, e5, e6, if_neg (show ¬ (0 : Nat) ≠ 0 by decide), if_neg (show ¬ 29 < t by omega)]
    unfold mtD
    have k8' : baB 1 2 4 t + y ≤ s.out.length := k8
    rw [e7, e8, if_neg (fun hh => by have := hh.2; simp only at this; omega), cpL_fit most _ _ ⟨s.t + l.getD k 0 + (lnB k).2 + dl.getD t 0 + exB t 2 4, s.out, 0⟩ rfl (show s.out.length + ((lnB k).1 + x) ≤ most from hm)]
    have e9 : s.t + itL (tkI l dl (.mt k x t y)) = s.t + l.getD k 0 + (lnB k).2 + dl.getD t 0 + exB t 2 4 := by
      simp only [tkI, itL, sc]
      omega
    rw [e9]
    rfl
def tsI [W0] (l dl : List Nat) : List Tok → List (Nat × Nat)
  | [] => []
  | k :: r => tkI l dl k ++ tsI l dl r
def tsW : List Tok → List UInt8 → List UInt8
  | [], o => o
  | k :: r, o => tsW r (tkW k o)
def tsN : List Tok → Nat
  | [] => 0
  | k :: r => tkN k + tsN r
def tsOk (l dl : List Nat) : Nat → List Tok → Prop
  | _, [] => True
  | n, k :: r => tkOk l dl n k ∧ tsOk l dl (n + tkN k) r
theorem tsI_lt [W0] {l dl : List Nat} : ∀ {ts : List Tok} {n : Nat}, tsOk l dl n ts → ∀ x ∈ tsI l dl ts, x.1 < 2 ^ x.2
  | [], _, _, x, hx => by cases hx
  | k :: r, n, h, x, hx => by
    rcases List.mem_append.1 hx with hx | hx
    · exact tkI_lt h.1 x hx
    · exact tsI_lt h.2 x hx
theorem toks_at [W0] {d : List UInt8} {most : Nat} {l dl : List Nat} (hl : Cok l) (hd : Cok dl) : ∀ (ts : List Tok) (s : S6) (f : Nat), s.e = 0 → ts.length ≤ f → tsOk l dl s.out.length ts → s.out.length + tsN ts ≤ most → Bi d s.t (tsI l dl ts) →
    cdC d most l dl f s = cdC d most l dl (f - ts.length) ⟨s.t + itL (tsI l dl ts), tsW ts s.out, 0⟩
  | [], s, f, he, hf, hk, hm, h => by
    obtain ⟨t, o, e⟩ := s
    simp only at he
    subst he
    rfl
  | k :: r, s, f, he, hf, hk, hm, h => by
    obtain ⟨g, rfl⟩ : ∃ g, f = g + 1 := ⟨f - 1, by simp at hf; omega⟩
    obtain ⟨h1, h2⟩ := Bi.app h (tkI_lt hk.1)
    have hm' : s.out.length + (tkN k + tsN r) ≤ most := hm
    rw [tok_at hl hd he hk.1 (by omega) h1]
    rw [toks_at hl hd r ⟨s.t + itL (tkI l dl k), tkW k s.out, 0⟩ g rfl (by simp at hf; omega) (by simp only [tkW_length]; exact hk.2) (by simp only [tkW_length]; omega) h2]
    rw [show g + 1 - (k :: r).length = g - r.length by simp]
    simp only [tsI, itL_app, tsW, Nat.add_assoc]
theorem block_at [W0] {d : List UInt8} {most f : Nat} {l dl : List Nat} {ts : List Tok} {s : S6} (hl : Cok l) (hd : Cok dl) (he : s.e = 0) (hf : ts.length < f) (hk : tsOk l dl s.out.length ts) (h256 : 0 < l.getD 256 0) (hm : s.out.length + tsN ts ≤ most) (h : Bi d s.t (tsI l dl ts ++ [sc l 256])) :
    cdC d most l dl f s = ⟨s.t + itL (tsI l dl ts ++ [sc l 256]), tsW ts s.out, 0⟩ := by
  obtain ⟨h1, h2⟩ := Bi.app h (tsI_lt hk)
  rw [toks_at hl hd ts s f he (by omega) hk hm h1]
  obtain ⟨g, hg⟩ : ∃ g, f - ts.length = g + 1 := ⟨f - ts.length - 1, by omega⟩
  obtain ⟨h3, _⟩ := Bi.cons h2 (sc_lt _ _)
  obtain ⟨e1, e2⟩ := sy_bi (s := ⟨s.t + itL (tsI l dl ts), tsW ts s.out, 0⟩) hl rfl h256 h3
  rw [hg, cdC, if_neg (show ¬ (0 : Nat) ≠ 0 by decide), e1, e2, if_neg (show ¬ (0 : Nat) ≠ 0 by decide), if_neg (show ¬ 256 < 256 by decide), if_pos rfl, itL_app]
  simp only [itL, sc, Nat.add_zero, Nat.add_assoc]
theorem fxL_ok : Cok fxL := ⟨by decide +kernel, by decide +kernel⟩
theorem fxD_ok : Cok fxD := ⟨by decide +kernel, by decide +kernel⟩
end Go.Df
namespace Go.Df
open Go.Vx Go.Hf Go.If
set_option linter.all false
inductive Rl
  | len (v : Nat)
  | rep (x : Nat)
  | few (x : Nat)
  | more (x : Nat)
def rlI [W0] (own : List Nat) : Rl → List (Nat × Nat)
  | .len v => [sc own v]
  | .rep x => [sc own 16, (x, 2)]
  | .few x => [sc own 17, (x, 3)]
  | .more x => [sc own 18, (x, 7)]
def rlW : Rl → List Nat → List Nat
  | .len v, l => l ++ [v]
  | .rep x, l => l ++ List.replicate (3 + x) (l.getD (l.length - 1) 0)
  | .few x, l => l ++ List.replicate (3 + x) 0
  | .more x, l => l ++ List.replicate (11 + x) 0
def rlN : Rl → Nat
  | .len _ => 1
  | .rep x => 3 + x
  | .few x => 3 + x
  | .more x => 11 + x
def rlOk (own : List Nat) (n : Nat) : Rl → Prop
  | .len v => v ≤ 15 ∧ 0 < own.getD v 0
  | .rep x => 0 < n ∧ x < 4 ∧ 0 < own.getD 16 0
  | .few x => x < 8 ∧ 0 < own.getD 17 0
  | .more x => x < 128 ∧ 0 < own.getD 18 0
theorem rlI_lt [W0] {own : List Nat} {n : Nat} {r : Rl} (h : rlOk own n r) : ∀ x ∈ rlI own r, x.1 < 2 ^ x.2 := by
  intro x hx
  cases r with
  | len v => rw [List.mem_singleton.1 hx]; exact sc_lt _ _
  | rep v =>
    simp only [rlI, List.mem_cons, List.not_mem_nil, or_false] at hx
    rcases hx with rfl | rfl
    · exact sc_lt _ _
    · exact h.2.1
  | few v =>
    simp only [rlI, List.mem_cons, List.not_mem_nil, or_false] at hx
    rcases hx with rfl | rfl
    · exact sc_lt _ _
    · exact h.1
  | more v =>
    simp only [rlI, List.mem_cons, List.not_mem_nil, or_false] at hx
    rcases hx with rfl | rfl
    · exact sc_lt _ _
    · exact h.1
theorem rlW_length (r : Rl) (l : List Nat) : (rlW r l).length = l.length + rlN r := by
  cases r <;> simp [rlW, rlN]
theorem rlN_pos (r : Rl) : 1 ≤ rlN r := by cases r <;> simp only [rlN] <;> omega
theorem rp_at [W0] {d : List UInt8} {own l : List Nat} {m k x : Nat} {s : S6} (ho : Cok own) (he : s.e = 0) (h0 : 0 < own.getD k 0) (h1 : At d s.t (sc own k).1 (sc own k).2) (h2 : At d (s.t + own.getD k 0) x (rpB k)) (h3 : ¬ (k = 16 ∧ l = [])) (h4 : l.length + (rpA k + x) ≤ m) :
    rpS d own m s l = ⟨s.t + own.getD k 0 + rpB k, s.out, 0⟩ ∧ rpL d own s l = l ++ List.replicate (rpA k + x) (rpV k l) := by
  obtain ⟨e1, e2⟩ := sy_bi ho he h0 h1
  obtain ⟨e3, e4⟩ := tk_at (s := ⟨s.t + own.getD k 0, s.out, 0⟩) h2
  simp only at e3 e4
  unfold rpS rpL
  rw [e1, e2, e3, e4, if_neg (show ¬ (0 : Nat) ≠ 0 by decide), if_neg (show ¬ (0 : Nat) ≠ 0 by decide), if_neg (fun hh => by rcases hh with hh | hh; exact h3 hh; omega)]
  exact ⟨rfl, rfl⟩
theorem rl_at [W0] {d : List UInt8} {own l : List Nat} {m : Nat} {s : S6} {r : Rl} (ho : Cok own) (he : s.e = 0) (hk : rlOk own l.length r) (hm : l.length + rlN r ≤ m) (h : Bi d s.t (rlI own r)) :
    rpS d own m s l = ⟨s.t + itL (rlI own r), s.out, 0⟩ ∧ rpL d own s l = rlW r l := by
  have hne : 0 < l.length → l ≠ [] := fun h hh => by rw [hh] at h; cases h
  cases r with
  | len v =>
    obtain ⟨k1, k2⟩ := hk
    obtain ⟨h1, _⟩ := Bi.cons h (sc_lt _ _)
    have hb : rpB v = 0 := by unfold rpB; rw [if_neg (by omega), if_neg (by omega), if_neg (by omega)]
    have hA : rpA v = 1 := by unfold rpA; rw [if_neg (by omega), if_neg (by omega), if_neg (by omega)]
    have hV : rpV v l = v := by unfold rpV; rw [if_neg (by omega), if_neg (by omega)]
    have h2 : At d (s.t + own.getD v 0) 0 (rpB v) := by rw [hb]; exact ⟨by rw [Nat.pow_zero, Nat.mod_one], by have := h1.2; simp only [sc] at this; omega⟩
    have := rp_at (l := l) (m := m) ho he k2 h1 h2 (fun hh => by omega) (by rw [hA]; exact hm)
    rw [hb, hA, hV] at this
    exact this
  | rep x =>
    obtain ⟨k1, k2, k3⟩ := hk
    obtain ⟨h1, h⟩ := Bi.cons h (sc_lt _ _)
    obtain ⟨h2, _⟩ := Bi.cons h k2
    exact rp_at (l := l) (m := m) ho he k3 h1 h2 (fun hh => hne k1 hh.2) hm
  | few x =>
    obtain ⟨k1, k2⟩ := hk
    obtain ⟨h1, h⟩ := Bi.cons h (sc_lt _ _)
    obtain ⟨h2, _⟩ := Bi.cons h k1
    exact rp_at (l := l) (m := m) ho he k2 h1 h2 (fun hh => by omega) hm
  | more x =>
    obtain ⟨k1, k2⟩ := hk
    obtain ⟨h1, h⟩ := Bi.cons h (sc_lt _ _)
    obtain ⟨h2, _⟩ := Bi.cons h k1
    exact rp_at (l := l) (m := m) ho he k2 h1 h2 (fun hh => by omega) hm
def rsI [W0] (own : List Nat) : List Rl → List (Nat × Nat)
  | [] => []
  | r :: q => rlI own r ++ rsI own q
def rsW : List Rl → List Nat → List Nat
  | [], l => l
  | r :: q, l => rsW q (rlW r l)
def rsN : List Rl → Nat
  | [] => 0
  | r :: q => rlN r + rsN q
def rsOk (own : List Nat) : Nat → List Rl → Prop
  | _, [] => True
  | n, r :: q => rlOk own n r ∧ rsOk own (n + rlN r) q
theorem rsI_lt [W0] {own : List Nat} : ∀ {rs : List Rl} {n : Nat}, rsOk own n rs → ∀ x ∈ rsI own rs, x.1 < 2 ^ x.2
  | [], _, _, x, hx => by cases hx
  | r :: q, n, h, x, hx => by
    rcases List.mem_append.1 hx with hx | hx
    · exact rlI_lt h.1 x hx
    · exact rsI_lt h.2 x hx
theorem rsW_length : ∀ (rs : List Rl) (l : List Nat), (rsW rs l).length = l.length + rsN rs
  | [], l => rfl
  | r :: q, l => by rw [rsW, rsW_length q, rlW_length, rsN]; omega
theorem rs_at [W0] {d : List UInt8} {own : List Nat} {m : Nat} (ho : Cok own) : ∀ (rs : List Rl) (f : Nat) (s : S6) (l : List Nat), s.e = 0 → rsOk own l.length rs → l.length + rsN rs = m → m ≤ f + l.length → Bi d s.t (rsI own rs) →
    lpS d own m f s l = (⟨s.t + itL (rsI own rs), s.out, 0⟩, rsW rs l)
  | [], f, s, l, he, hk, hm, hf, h => by
    obtain ⟨t, o, e⟩ := s
    simp only at he
    subst he
    cases f with
    | zero => rfl
    | succ f => rw [lpS, if_neg (fun hh => by simp only [rsN] at hm; omega)]; rfl
  | r :: q, f, s, l, he, hk, hm, hf, h => by
    have hp := rlN_pos r
    have hm' : l.length + (rlN r + rsN q) = m := hm
    obtain ⟨g, rfl⟩ : ∃ g, f = g + 1 := ⟨f - 1, by omega⟩
    obtain ⟨h1, h2⟩ := Bi.app h (rlI_lt hk.1)
    obtain ⟨e1, e2⟩ := rl_at (m := m) ho he hk.1 (by omega) h1
    rw [lpS, if_pos ⟨he, by omega⟩, e1, e2, if_pos rfl]
    rw [rs_at ho q g ⟨s.t + itL (rlI own r), s.out, 0⟩ (rlW r l) rfl (by rw [rlW_length]; exact hk.2) (by rw [rlW_length]; omega) (by rw [rlW_length]; omega) h2]
    simp only [rsI, itL_app, rsW, Nat.add_assoc]
def owI (own : List Nat) : Nat → Nat → List (Nat × Nat)
  | 0, _ => []
  | k + 1, i => (own.getD (ordL.getD i 0) 0, 3) :: owI own k (i + 1)
def owF (own : List Nat) : Nat → Nat → List Nat → List Nat
  | 0, _, o => o
  | k + 1, i, o => owF own k (i + 1) (o.set (ordL.getD i 0) (own.getD (ordL.getD i 0) 0))
theorem owI_L (own : List Nat) : ∀ k i, itL (owI own k i) = 3 * k
  | 0, i => rfl
  | k + 1, i => by rw [owI, itL, owI_L own k]; omega
theorem owI_lt {own : List Nat} (h7 : ∀ i, own.getD i 0 ≤ 7) : ∀ k i, ∀ x ∈ owI own k i, x.1 < 2 ^ x.2
  | 0, i, x, hx => by cases hx
  | k + 1, i, x, hx => by
    rcases List.mem_cons.1 hx with rfl | hx
    · have := h7 (ordL.getD i 0); simp only; omega
    · exact owI_lt h7 k _ x hx
theorem ow_at [W0] {d : List UInt8} {own : List Nat} (h7 : ∀ i, own.getD i 0 ≤ 7) : ∀ (k i : Nat) (s : S6) (o : List Nat), s.e = 0 → Bi d s.t (owI own k i) → owS d k i s o = (⟨s.t + 3 * k, s.out, 0⟩, owF own k i o)
  | 0, i, s, o, he, h => by
    obtain ⟨t, q, e⟩ := s
    simp only at he
    subst he
    rfl
  | k + 1, i, s, o, he, h => by
    obtain ⟨h1, h2⟩ := Bi.cons h (show own.getD (ordL.getD i 0) 0 < 2 ^ 3 by have := h7 (ordL.getD i 0); omega)
    obtain ⟨e1, e2⟩ := tk_at h1
    rw [owS, e1, e2, if_neg (fun hh => hh he), ow_at h7 k (i + 1) ⟨s.t + 3, s.out, s.e⟩ _ he h2]
    simp only [owF]
    rw [show s.t + 3 + 3 * k = s.t + 3 * (k + 1) by omega]
theorem owF_length (own : List Nat) : ∀ k i o, (owF own k i o).length = o.length
  | 0, i, o => rfl
  | k + 1, i, o => by rw [owF, owF_length own k, List.length_set]
theorem owF_get {own : List Nat} : ∀ (k i : Nat) (o : List Nat) (j : Nat), j < o.length →
    (∀ q, i ≤ q → q < i + k → ordL.getD q 0 = j → (owF own k i o).getD j 0 = own.getD j 0) ∧ ((∀ q, i ≤ q → q < i + k → ordL.getD q 0 ≠ j) → (owF own k i o).getD j 0 = o.getD j 0)
  | 0, i, o, j, hj => ⟨fun q h1 h2 => by omega, fun _ => rfl⟩
  | k + 1, i, o, j, hj => by
    obtain ⟨g1, g2⟩ := owF_get k (i + 1) (o.set (ordL.getD i 0) (own.getD (ordL.getD i 0) 0)) j (by rw [List.length_set]; exact hj)
    rw [owF]
    by_cases h2 : ordL.getD i 0 = j
    · have hv : (owF own k (i + 1) (o.set (ordL.getD i 0) (own.getD (ordL.getD i 0) 0))).getD j 0 = own.getD j 0 := by
        by_cases hq : ∃ q, i + 1 ≤ q ∧ q < i + 1 + k ∧ ordL.getD q 0 = j
        · obtain ⟨q, q1, q2, q3⟩ := hq
          exact g1 q q1 q2 q3
        · rw [g2 (fun q q1 q2 q3 => hq ⟨q, q1, q2, q3⟩), h2]
          simp [List.getD, hj]
      exact ⟨fun q _ _ _ => hv, fun h => absurd h2 (h i (by omega) (by omega))⟩
    · refine ⟨fun q q1 q2 q3 => ?_, fun h => ?_⟩
      · have hne : q ≠ i := fun hh => h2 (by rw [← hh]; exact q3)
        exact g1 q (by omega) (by omega) q3
      · rw [g2 (fun q q1 q2 => h q (by omega) (by omega))]
        generalize ordL.getD i 0 = oi at h2 ⊢
        simp only [List.getD_eq_getElem?_getD]
        rw [List.getElem?_set_ne h2]
theorem ord_all : ∀ j, j < 19 → ∃ q, q < 19 ∧ ordL.getD q 0 = j := by decide
theorem owF_own {own : List Nat} {n : Nat} (hl : own.length = 19) (hn : n ≤ 19) (hz : ∀ i, n ≤ i → i < 19 → own.getD (ordL.getD i 0) 0 = 0) : owF own n 0 (List.replicate 19 0) = own := by
  refine List.ext_getElem (by rw [owF_length, hl]; simp) fun j h1 h2 => ?_
  obtain ⟨g1, g2⟩ := owF_get (own := own) n 0 (List.replicate 19 0) j (by rw [List.length_replicate]; omega)
  have e1 : (owF own n 0 (List.replicate 19 0)).getD j 0 = (owF own n 0 (List.replicate 19 0))[j] := by rw [List.getD_eq_getElem?_getD, List.getElem?_eq_getElem h1]; rfl
  have e2 : own.getD j 0 = own[j] := by simp [List.getD, h2]
  rw [← e1, ← e2]
  obtain ⟨q, q1, q2⟩ := ord_all j (by omega)
  by_cases hq : q < n
  · exact g1 q (Nat.zero_le _) (by omega) q2
  · by_cases hh : ∃ q', 0 ≤ q' ∧ q' < 0 + n ∧ ordL.getD q' 0 = j
    · obtain ⟨q', r1, r2, r3⟩ := hh
      exact g1 q' r1 r2 r3
    · rw [g2 (fun q' r1 r2 r3 => hh ⟨q', r1, r2, r3⟩)]
      have := hz q (by omega) q1
      rw [q2] at this
      rw [this]
      have hj19 : j < 19 := by omega
      rw [List.getD_eq_getElem?_getD, List.getElem?_replicate, if_pos hj19]
      rfl
theorem lc_at [W0] {d : List UInt8} {own : List Nat} {z : Nat} {s : S6} (hl : own.length = 19) (h7 : ∀ i, own.getD i 0 ≤ 7) (hk : kS own = 32768) (hzz : z ≤ 15) (hz : ∀ i, 4 + z ≤ i → i < 19 → own.getD (ordL.getD i 0) 0 = 0) (he : s.e = 0) (h : Bi d s.t ((z, 4) :: owI own (4 + z) 0)) :
    lcS d s = (⟨s.t + itL ((z, 4) :: owI own (4 + z) 0), s.out, 0⟩, own) := by
  obtain ⟨h1, h2⟩ := Bi.cons h (show z < 2 ^ 4 by omega)
  obtain ⟨e1, e2⟩ := tk_at h1
  have e3 := ow_at (d := d) h7 (4 + z) 0 ⟨s.t + 4, s.out, s.e⟩ (List.replicate 19 0) he h2
  rw [owF_own hl (by omega) hz] at e3
  unfold lcS
  rw [e1, e2, if_neg (fun hh => hh he), e3, if_neg (show ¬ (0 : Nat) ≠ 0 by decide), if_pos hk]
  rw [itL, owI_L]
  simp only [Nat.add_assoc]
def hdI [W0] (own : List Nat) (n1 n2 z : Nat) (rs : List Rl) : List (Nat × Nat) := (n1 - 257, 5) :: (n2 - 1, 5) :: ((z, 4) :: owI own (4 + z) 0) ++ rsI own rs
structure HdOk (own : List Nat) (n1 n2 z : Nat) (rs : List Rl) : Prop where
  n1a : 257 ≤ n1
  n1b : n1 ≤ 286
  n2a : 1 ≤ n2
  n2b : n2 ≤ 30
  ol : own.length = 19
  o7 : ∀ i, own.getD i 0 ≤ 7
  ok : kS own = 32768
  zb : z ≤ 15
  zz : ∀ i, 4 + z ≤ i → i < 19 → own.getD (ordL.getD i 0) 0 = 0
  ro : rsOk own 0 rs
  rn : rsN rs = n1 + n2
  e256 : (rsW rs []).getD 256 0 ≠ 0
  kl : kS ((rsW rs []).take n1) = 32768
  kd : kS ((rsW rs []).drop n1) = 32768 ∨ sgl ((rsW rs []).drop n1) = true
theorem HdOk.own {own : List Nat} {n1 n2 z : Nat} {rs : List Rl} (h : HdOk own n1 n2 z rs) : Cok own := ⟨by rw [h.ok]; exact Nat.le_refl _, fun x hx => by
  obtain ⟨i, hi, rfl⟩ := List.getElem_of_mem hx
  have := h.o7 i
  rw [show own.getD i 0 = own[i] from by simp [List.getD, hi]] at this
  omega⟩
theorem hdI_lt [W0] {own : List Nat} {n1 n2 z : Nat} {rs : List Rl} (h : HdOk own n1 n2 z rs) : ∀ x ∈ hdI own n1 n2 z rs, x.1 < 2 ^ x.2 := by
  intro x hx
  have b1 := h.n1b
  have b2 := h.n2b
  have b3 := h.zb
  rcases List.mem_append.1 hx with hx | hx
  · simp only [List.mem_cons] at hx
    rcases hx with rfl | rfl | rfl | hx
    · simp only; omega
    · simp only; omega
    · simp only; omega
    · exact owI_lt h.o7 _ _ x hx
  · exact rsI_lt h.ro x hx
theorem dy_at [W0] {d : List UInt8} {own : List Nat} {n1 n2 z : Nat} {rs : List Rl} {s : S6} (hh : HdOk own n1 n2 z rs) (he : s.e = 0) (h : Bi d s.t (hdI own n1 n2 z rs)) :
    dyS d s = (⟨s.t + itL (hdI own n1 n2 z rs), s.out, 0⟩, rsW rs [], n1) := by
  have b1 := hh.n1a
  have b2 := hh.n1b
  have b3 := hh.n2a
  have b4 := hh.n2b
  have b5 := hh.zb
  have hd2 : hdI own n1 n2 z rs = (n1 - 257, 5) :: (n2 - 1, 5) :: (((z, 4) :: owI own (4 + z) 0) ++ rsI own rs) := rfl
  rw [hd2] at h ⊢
  obtain ⟨h1, h⟩ := Bi.cons h (show n1 - 257 < 2 ^ 5 by omega)
  obtain ⟨h2, h⟩ := Bi.cons h (show n2 - 1 < 2 ^ 5 by omega)
  obtain ⟨h3, h4⟩ := Bi.app h (by
    intro x hx
    rcases List.mem_cons.1 hx with rfl | hx
    · simp only; omega
    · exact owI_lt hh.o7 _ _ x hx)
  obtain ⟨e1, e2⟩ := tk_at h1
  obtain ⟨e3, e4⟩ := tk_at (s := ⟨s.t + 5, s.out, s.e⟩) h2
  have e5 := lc_at (s := ⟨s.t + 5 + 5, s.out, s.e⟩) hh.ol hh.o7 hh.ok hh.zb hh.zz he h3
  simp only at e3 e4 e5
  have e6 := rs_at (m := n1 + n2) hh.own rs (n1 + n2) ⟨s.t + 5 + 5 + itL ((z, 4) :: owI own (4 + z) 0), s.out, 0⟩ [] rfl hh.ro (by rw [hh.rn]; simp) (by omega) h4
  have hk : dyK n1 (⟨s.t + 5 + 5 + itL ((z, 4) :: owI own (4 + z) 0) + itL (rsI own rs), s.out, 0⟩, rsW rs []) = (⟨s.t + 5 + 5 + itL ((z, 4) :: owI own (4 + z) 0) + itL (rsI own rs), s.out, 0⟩, rsW rs [], n1) := by
    unfold dyK
    rw [if_pos ⟨hh.e256, hh.kl, hh.kd⟩]
  unfold dyS
  rw [e1, e2, if_neg (fun q => q he), if_neg (show ¬ 29 < n1 - 257 by omega), e3, e4, if_neg (fun q => q he), if_neg (show ¬ 29 < n2 - 1 by omega), show 257 + (n1 - 257) = n1 by omega, show 1 + (n2 - 1) = n2 by omega]
  unfold dyT
  rw [e5, if_neg (show ¬ (0 : Nat) ≠ 0 by decide), e6, if_neg (show ¬ (0 : Nat) ≠ 0 by decide), hk]
  simp only [itL, itL_app, List.cons_append, Nat.add_assoc]
theorem fx_at [W0] {d : List UInt8} {most : Nat} {ts : List Tok} {s : S6} (he : s.e = 0) (hf : ts.length ≤ 8 * d.length) (hk : tsOk fxL fxD s.out.length ts) (hm : s.out.length + tsN ts ≤ most) (h : Bi d s.t (tsI fxL fxD ts ++ [sc fxL 256])) :
    bkS d most 1 s = ⟨s.t + itL (tsI fxL fxD ts ++ [sc fxL 256]), tsW ts s.out, 0⟩ := by
  unfold bkS
  rw [if_neg (by decide), if_pos rfl]
  exact block_at fxL_ok fxD_ok he (by omega) hk (by decide) hm h
theorem kd_le {l : List Nat} (h : kS l = 32768 ∨ sgl l = true) : kS l ≤ 32768 := by
  have hs := kS_sum l
  rcases h with h | h
  · omega
  · rw [sgl_sum] at h
    have := of_decide_eq_true h
    omega
theorem dn_at [W0] {d : List UInt8} {most : Nat} {own l dl : List Nat} {n1 n2 z : Nat} {rs : List Rl} {ts : List Tok} {s : S6} (hh : HdOk own n1 n2 z rs) (hl : (rsW rs []).take n1 = l) (hdl : (rsW rs []).drop n1 = dl) (h15 : ∀ x ∈ rsW rs [], x ≤ 15) (he : s.e = 0) (hf : ts.length ≤ 8 * d.length)
    (hk : tsOk l dl s.out.length ts) (hm : s.out.length + tsN ts ≤ most) (h : Bi d s.t (hdI own n1 n2 z rs ++ (tsI l dl ts ++ [sc l 256]))) :
    bkS d most 2 s = ⟨s.t + itL (hdI own n1 n2 z rs ++ (tsI l dl ts ++ [sc l 256])), tsW ts s.out, 0⟩ := by
  obtain ⟨h1, h2⟩ := Bi.app h (hdI_lt hh)
  have e1 := dy_at hh he h1
  unfold bkS dbS
  rw [if_neg (by decide), if_neg (by decide), e1, if_neg (show ¬ (0 : Nat) ≠ 0 by decide), hl, hdl]
  have hcl : Cok l := ⟨by rw [← hl, hh.kl]; exact Nat.le_refl _, fun x hx => h15 x (by rw [← hl] at hx; exact List.mem_of_mem_take hx)⟩
  have hcd : Cok dl := ⟨by rw [← hdl]; exact kd_le hh.kd, fun x hx => h15 x (by rw [← hdl] at hx; exact List.mem_of_mem_drop hx)⟩
  have h256 : 0 < l.getD 256 0 := by
    have := hh.e256
    have hb := hh.n1a
    have hg : l.getD 256 0 = (rsW rs []).getD 256 0 := by rw [← hl, List.getD_eq_getElem?_getD, List.getD_eq_getElem?_getD, List.getElem?_take, if_pos (by omega)]
    rw [hg]; omega
  rw [block_at (s := ⟨s.t + itL (hdI own n1 n2 z rs), s.out, 0⟩) hcl hcd rfl (by omega) hk h256 hm h2]
  simp only [itL_app, Nat.add_assoc]
theorem st_at [W0] {d p : List UInt8} {most a : Nat} {s : S6} (he : s.e = 0) (ha : a = 8 * ((s.t + 7) / 8)) (hp : p.length < 65536) (hm : s.out.length + p.length ≤ most) (h : At d a (p.length + 2 ^ 16 * ((65535 - p.length) + 2 ^ 16 * val p)) (16 + (16 + 8 * p.length))) :
    bkS d most 0 s = ⟨a + 32 + 8 * p.length, s.out ++ p, 0⟩ := by
  obtain ⟨h1, h⟩ := h.split (show p.length < 2 ^ 16 by omega)
  obtain ⟨h2, h3⟩ := h.split (show 65535 - p.length < 2 ^ 16 by omega)
  obtain ⟨e1, e2⟩ := tk_at (s := ⟨a, s.out, s.e⟩) h1
  obtain ⟨e3, e4⟩ := tk_at (s := ⟨a + 16, s.out, s.e⟩) h2
  simp only at e1 e2 e3 e4
  unfold bkS
  rw [if_pos rfl]
  unfold stS
  simp only
  rw [← ha, e1, e2, e3, e4, if_pos (show p.length + (65535 - p.length) = 65535 by omega)]
  rw [stL_at d most p ⟨a + 16 + 16, s.out, s.e⟩ he hm h3]
theorem rw_at [W0] {d : List UInt8} {most f h ty : Nat} {s s' : S6} (he : s.e = 0) (hh : h ≤ 1) (ht : ty ≤ 2) (ha : At d s.t (h + 2 * ty) 3) (hb : bkS d most ty ⟨s.t + 3, s.out, 0⟩ = s') (he' : s'.e = 0) :
    rwS d most (f + 1) s = if h = 1 then s' else rwS d most f s' := by
  obtain ⟨e1, e2⟩ := tk_at ha
  rw [rwS, e1, e2, if_neg (fun q => q he), if_neg (show ¬ 5 < h + 2 * ty by omega), he, show (h + 2 * ty) / 2 = ty by omega, hb, if_neg (fun q => q he')]
  by_cases h1 : h = 1
  · rw [if_pos h1, if_pos (by omega)]
  · rw [if_neg h1, if_neg (by omega)]
theorem bi_all [W0] {a : List (Nat × Nat)} (h : ∀ x ∈ a, x.1 < 2 ^ x.2) (x : List UInt8) : Bi (leB (itV a) ((itL a + 7) / 8) ++ x) 0 a := by
  have h0 := at_all h
  obtain ⟨h1, h2⟩ := h0
  have hb : itL a ≤ 8 * (leB (itV a) ((itL a + 7) / 8)).length := by omega
  refine ⟨?_, by rw [List.length_append]; omega⟩
  rw [val_append, Nat.pow_zero, Nat.div_one]
  rw [Nat.pow_zero, Nat.div_one] at h1
  obtain ⟨k, hk⟩ : ∃ k, 8 * (leB (itV a) ((itL a + 7) / 8)).length = itL a + k := ⟨_, (Nat.add_sub_cancel' hb).symm⟩
  rw [hk, Nat.pow_add, Nat.mul_assoc, Nat.add_mul_mod_self_left]
  exact h1
end Go.Df
namespace Go.Vx
open Go Go.WideMaps
variable [W0]
set_option linter.all false
omit [W0] in
/-- Three bytes as a key. -/
def kv3 (l : List UInt8) : Value := .agg (bsv l).toArray
omit [W0] in
class KA (P : Program) (k : Nat) (e : outParam Nat) : Prop where
  arr : ArrKey P k e 3
  byte : P.underlying e = some (.int .u8)
  pos : ∃ m, P.types.size = m + 1
omit [W0] in
theorem bsv_inj : ∀ {a b : List UInt8}, bsv a = bsv b → a = b
  | [], [], _ => rfl
  | [], _ :: _, h => by simp [bsv] at h
  | _ :: _, [], h => by simp [bsv] at h
  | x :: a, y :: b, h => by
    simp only [bsv, List.map_cons, List.cons.injEq, Value.int.injEq, true_and] at h
    have h1 : x.toNat = y.toNat := by omega
    rw [UInt8.toNat_inj.1 h1, bsv_inj h.2]
omit [W0] in
theorem kv3_inj {a b : List UInt8} (h : kv3 a = kv3 b) : a = b := by
  unfold kv3 at h
  simp only [Value.agg.injEq] at h
  exact bsv_inj (by simpa using congrArg Array.toList h)
omit [W0] in
theorem byte_wf (x : UInt8) : (Lit.int .u8 (x.toNat : Int)).wf = true := by
  have := x.toNat_lt
  simp [Lit.wf, IntKind.wrap, IntKind.bits, IntKind.signed, IntKind.min, IntKind.max]
  omega
omit [W0] in
theorem KA.key {P : Program} {k e : Nat} (h : KA P k e) {l : List UInt8} (hl : l.length = 3) : ∃ q, keyOf P k (kv3 l) = some q := by
  match l, hl with
  | [a, b, c], _ =>
    obtain ⟨m, hm⟩ := h.pos
    have hk := h.arr.keyType ⟨m, hm⟩
    have h1 : ∀ (x : UInt8) (D : Nat), P.keyLits (D + 1) e [.int .u8 (x.toNat : Int)] = some [.int .u8 (x.toNat : Int)] := fun x D => by
      unfold Program.keyLits
      rw [h.byte]
      simp only [byte_wf, and_self, if_true]
    have h2 : P.keyLits (P.types.size + 1) k [.int .u8 (a.toNat : Int), .int .u8 (b.toNat : Int), .int .u8 (c.toNat : Int)] = some [.int .u8 (a.toNat : Int), .int .u8 (b.toNat : Int), .int .u8 (c.toNat : Int)] := by
      rw [hm]
      unfold Program.keyLits
      rw [h.arr.hu]
      simp only [h.arr.size, h.arr.one]
      rw [if_pos (by rfl)]
      simp only [List.range_succ, List.range_zero, List.nil_append, List.cons_append, List.mapM_cons, List.mapM_nil, List.drop, List.take, Nat.zero_mul, Nat.one_mul, Nat.mul_one, h1]
      rfl
    unfold keyOf
    rw [h.arr.hu]
    have hf : (kv3 [a, b, c]).formed P k = true := by
      unfold kv3 Value.formed
      simp only [h.arr.hu, h.arr.size]
      rfl
    have hc : (kv3 [a, b, c]).cells.toList = [.int .u8 (a.toNat : Int), .int .u8 (b.toNat : Int), .int .u8 (c.toNat : Int)] := by simp [kv3, bsv, Value.cells]
    simp only [hk, hf, hc, h2, Bool.and_self, if_true, Option.map_some]
    exact ⟨_, rfl⟩
omit [W0] in
/-- What a map's block holds. -/
structure MpR (es : Array MapEntry) (g : List UInt8 → Option Nat) : Prop where
  ent : ∀ e ∈ es.toList, ∃ l m, l.length = 3 ∧ e.key = kv3 l ∧ e.val = .int .i64 ((m : Nat) : Int) ∧ g l = some m
  has : ∀ l m, l.length = 3 → g l = some m → ∃ e ∈ es.toList, e.key = kv3 l
  one : ∀ (i j : Nat) (e f : MapEntry), es[i]? = some e → es[j]? = some f → e.key = f.key → i = j
omit [W0] in
theorem MpR.nil : MpR #[] (fun _ => none) := ⟨fun e h => by simp at h, fun l m _ h => by simp at h, fun i j e f h => by simp at h⟩
omit [W0] in
def ups (g : List UInt8 → Option Nat) (l : List UInt8) (m : Nat) : List UInt8 → Option Nat := fun q => if q = l then some m else g q
omit [W0] in
theorem MpR.find {P : Program} {k e : Nat} (hk : KA P k e) {es : Array MapEntry} {g : List UInt8 → Option Nat} (h : MpR es g) {l : List UInt8} (hl : l.length = 3) (w : World) :
    (g l = none ∧ (Instr.findKey k (kv3 l) es.toList).run P w = .ok none w ∧ ∀ x ∈ es.toList, x.key ≠ kv3 l) ∨
    ∃ m j x, g l = some m ∧ (Instr.findKey k (kv3 l) es.toList).run P w = .ok (some (j, .int .i64 ((m : Nat) : Int))) w ∧ es[j]? = some x ∧ x.key = kv3 l := by
  obtain ⟨q, hq⟩ := hk.key hl
  have hall : ∀ x ∈ es.toList, ∃ y, keyOf P k x.key = some y := fun x hx => by
    obtain ⟨l', m', h1, h2, _⟩ := h.ent x hx
    rw [h2]
    exact hk.key h1
  rcases hk.arr.law.find w hq es.toList hall with ⟨h1, h2⟩ | ⟨j, x, h1, h2, h3⟩
  · left
    refine ⟨?_, h1, h2⟩
    cases hg : g l with
    | none => rfl
    | some m =>
      obtain ⟨x, hx, hxk⟩ := h.has l m hl hg
      exact absurd hxk (h2 x hx)
  · right
    have hx : x ∈ es.toList := List.mem_of_getElem? h2
    obtain ⟨l', m, g1, g2, g3, g4⟩ := h.ent x hx
    rw [h3] at g2
    have e := kv3_inj g2
    subst e
    exact ⟨m, j, x, g4, by rw [h1, g3], by simpa using h2, h3⟩
section
variable {P : Program} {n : Nat} {Q : Exit → Act → World → Prop} {M : List (Nat × Value)} {L : List Chunk} {K : List (Nat × Value) → List Chunk → Prop}
variable {d : Nat} {ty : TypeId} {ps : String} {af : Array Edge} {g : Option (Nat × Bool)} {x y z : Operand} {v : Value}
theorem OW_makeMap {t : Nat} (hn : Nat.blt d n = true) (h : ∀ b, K ((d, .map (some b)) :: M) ([(b, .map #[] 0)] :: L)) : OW P n ⟨some d, .makeMap t none, ty, ps, af, g⟩ K M L :=
  OW_newval (f := fun b => .map (some b)) rfl hn (fun a w ha hw => by
    simp only [execOp, Option.map_none, Sem.run_bind, show (Instr.makeMap t none).run P w = .ok (.map (some w.heap.size)) (w.alloc (.map #[] 0)) from rfl, Result.andThen_ok, Sem.run_pure]) h
theorem EV_look3 {mt kt et e b c : Nat} {es : Array MapEntry} {f : List UInt8 → Option Nat} {l : List UInt8} (hm : P.underlying mt = some (.map kt et)) [hz : ZV P et (.int .i64 0)] [hk : KA P kt e] (hx : ev M x = some (.map (some b))) (hy : ev M y = some (kv3 l)) (hl : l.length = 3)
    (hf : Fnd L b (.map es c)) (hr : MpR es f) : EV P n ⟨some d, .lookup mt x y true, ty, ps, af, g⟩ M L d (.tuple #[.int .i64 (((f l).getD 0 : Nat) : Int), .bool (f l).isSome]) :=
  ⟨rfl, fun a w ha hw => by
    obtain ⟨q, hq⟩ := hk.key hl
    have hb := hf.get hw
    have hc := hk.arr.law.check w es.isEmpty hq
    simp only [execOp, ha.eval hx, ha.eval hy, Instr.lookup, Sem.run_bind, run_underlying hm, Go.MapKept.run_getObj_map hb, Result.andThen_ok, Sem.run_pure, hc]
    rcases hr.find hk hl w with ⟨h1, h2, _⟩ | ⟨m, j, x, h1, h2, _⟩
    · simp only [h2, h1, Result.andThen_ok, Sem.run_bind, zero_run hz.out, Sem.run_pure]
      rfl
    · simp only [h2, h1, Result.andThen_ok, Sem.run_bind, Sem.run_pure]
      rfl⟩
omit [W0] in
theorem getMod (es : Array MapEntry) (j : Nat) (f : MapEntry → MapEntry) (i : Nat) : (es.modify j f)[i]? = if j = i then (es[i]?).map f else es[i]? := by
  rw [Array.getElem?_modify]
omit [W0] in
theorem MpR.push {es : Array MapEntry} {f : List UInt8 → Option Nat} (h : MpR es f) {l : List UInt8} (hl : l.length = 3) (m c : Nat) (hno : ∀ x ∈ es.toList, x.key ≠ kv3 l) :
    MpR (es.push { key := kv3 l, val := .int .i64 ((m : Nat) : Int), born := c }) (ups f l m) := by
  refine ⟨fun e he => ?_, fun q r hq hr => ?_, fun i j e e' hi hj hk => ?_⟩
  · simp only [Array.toList_push, List.mem_append, List.mem_singleton] at he
    rcases he with he | rfl
    · obtain ⟨l', m', h1, h2, h3, h4⟩ := h.ent e he
      refine ⟨l', m', h1, h2, h3, ?_⟩
      unfold ups
      rw [if_neg (fun hh => hno e he (by rw [h2, hh]))]
      exact h4
    · exact ⟨l, m, hl, rfl, rfl, by unfold ups; rw [if_pos rfl]⟩
  · unfold ups at hr
    split at hr
    · rename_i hh
      exact ⟨_, by simp only [Array.toList_push, List.mem_append, List.mem_singleton]; exact .inr rfl, by rw [hh]⟩
    · obtain ⟨e, he, hk⟩ := h.has q r hq hr
      exact ⟨e, by simp only [Array.toList_push, List.mem_append]; exact .inl he, hk⟩
  · rw [Array.getElem?_push] at hi hj
    have hnew : ∀ (i : Nat) (e : MapEntry), es[i]? = some e → e.key ≠ kv3 l := fun i e hi => hno e (List.mem_of_getElem? (by simpa using hi))
    split at hi <;> split at hj
    · omega
    · cases hi
      exact absurd hk.symm (hnew j e' hj)
    · cases hj
      exact absurd hk (hnew i e hi)
    · exact h.one i j e e' hi hj hk
omit [W0] in
def eset (l : List UInt8) (m : Nat) (e : MapEntry) : MapEntry := { e with key := kv3 l, val := .int .i64 ((m : Nat) : Int) }
omit [W0] in
theorem MpR.mod {es : Array MapEntry} {f : List UInt8 → Option Nat} (h : MpR es f) {l : List UInt8} (hl : l.length = 3) (m : Nat) {j : Nat} {x : MapEntry} (hj : es[j]? = some x) (hx : x.key = kv3 l) :
    MpR (es.modify j (eset l m)) (ups f l m) := by
  have hg : ∀ (i : Nat) (e : MapEntry), (es.modify j (eset l m))[i]? = some e → ∃ e0 : MapEntry, es[i]? = some e0 ∧ e.key = e0.key ∧ ((i = j ∧ e.key = kv3 l ∧ e.val = .int .i64 ((m : Nat) : Int)) ∨ (i ≠ j ∧ e = e0)) := by
    intro i e hi
    rw [getMod] at hi
    split at hi
    · rename_i hh
      subst hh
      rw [hj] at hi
      simp only [Option.map_some, Option.some.injEq] at hi
      subst hi
      exact ⟨x, hj, hx.symm, .inl ⟨rfl, rfl, rfl⟩⟩
    · exact ⟨e, hi, rfl, .inr ⟨fun hh => by omega, rfl⟩⟩
  refine ⟨fun e he => ?_, fun q r hq hr => ?_, fun i i' e e' hi hi' hk => ?_⟩
  · obtain ⟨i, hi⟩ := List.getElem?_of_mem he
    obtain ⟨e0, g1, g2, g3⟩ := hg i e (by rw [← Array.getElem?_toList]; exact hi)
    rcases g3 with ⟨rfl, g4, g5⟩ | ⟨g4, rfl⟩
    · exact ⟨l, m, hl, g4, g5, by unfold ups; rw [if_pos rfl]⟩
    · obtain ⟨l', m', h1, h2, h3, h4⟩ := h.ent e (List.mem_of_getElem? (by rw [Array.getElem?_toList]; exact g1))
      refine ⟨l', m', h1, h2, h3, ?_⟩
      unfold ups
      rw [if_neg (fun hh => g4 (h.one i j e x g1 hj (by rw [h2, hx, hh])))]
      exact h4
  · unfold ups at hr
    have hin : ∀ (i : Nat) (e : MapEntry), es[i]? = some e → ∃ e' ∈ (es.modify j (eset l m)).toList, e'.key = e.key := by
      intro i e hi
      have hgm := getMod es j (eset l m) i
      by_cases hh : j = i
      · subst hh
        rw [hj] at hi
        cases hi
        rw [if_pos rfl, hj] at hgm
        exact ⟨eset l m x, List.mem_of_getElem? (i := j) (by rw [Array.getElem?_toList]; exact hgm), hx.symm⟩
      · rw [if_neg hh, hi] at hgm
        exact ⟨e, List.mem_of_getElem? (i := i) (by rw [Array.getElem?_toList]; exact hgm), rfl⟩
    split at hr
    · rename_i hh
      obtain ⟨e', h1, h2⟩ := hin j x hj
      exact ⟨e', h1, by rw [h2, hx, hh]⟩
    · obtain ⟨e, he, hk⟩ := h.has q r hq hr
      obtain ⟨i, hi⟩ := List.getElem?_of_mem he
      obtain ⟨e', h1, h2⟩ := hin i e (by rw [← Array.getElem?_toList]; exact hi)
      exact ⟨e', h1, by rw [h2, hk]⟩
  · obtain ⟨e0, g1, g2, _⟩ := hg i e hi
    obtain ⟨e1, g3, g4, _⟩ := hg i' e' hi'
    exact h.one i i' e0 e1 g1 g3 (by rw [← g2, ← g4, hk])
omit [W0] in
/-- A map of one's own. -/
def MpD (b : Nat) (f : List UInt8 → Option Nat) (C : Chunk) : Prop := ∃ es c, C = [(b, .map es c)] ∧ MpR es f
theorem EV_mlook {mt kt et e b : Nat} {f : List UInt8 → Option Nat} {l : List UInt8} {C : Chunk} (hm : P.underlying mt = some (.map kt et)) [hz : ZV P et (.int .i64 0)] [hk : KA P kt e] (hx : ev M x = some (.map (some b))) (hy : ev M y = some (kv3 l)) (hl : l.length = 3)
    (hr : MpD b f C) (hi : Inc [C] L) : EV P n ⟨some d, .lookup mt x y true, ty, ps, af, g⟩ M L d (.tuple #[.int .i64 (((f l).getD 0 : Nat) : Int), .bool (f l).isSome]) := by
  obtain ⟨es, c, rfl, hr⟩ := hr
  obtain ⟨R, hp⟩ := hi
  exact EV_look3 hm hx hy hl (Fnd.perm .here hp.symm) hr
theorem OW_mapUp {mt kt et e b m : Nat} {f : List UInt8 → Option Nat} {l : List UInt8} {C : Chunk} {A B : List Chunk} (hm : P.underlying mt = some (.map kt et)) [hk : KA P kt e] (hx : ev M x = some (.map (some b))) (hy : ev M y = some (kv3 l)) (hl : l.length = 3) (hv : ev M z = some (.int .i64 ((m : Nat) : Int)))
    (hr : MpD b f C) (hzip : Zip C L A B) (h : ∀ C', MpD b (ups f l m) C' → K M (A ++ C' :: B)) : OW P n ⟨none, .mapUpdate mt x y z, ty, ps, af, g⟩ K M L := ⟨fun a w next Q ha hw hk' => by
  obtain ⟨es, c, rfl, hr⟩ := hr
  have hL := hzip.eq
  subst hL
  have hw' := hw.perm List.perm_middle
  have hb : w.heap[b]? = some (.map es c) := (Fnd.here (L := A ++ B)).get hw'
  have hlt : b < w.heap.size := by
    rcases Nat.lt_or_ge b w.heap.size with h' | h'
    · exact h'
    · simp [Array.getElem?_eq_none h'] at hb
  obtain ⟨q, hq⟩ := hk.key hl
  have hc := hk.arr.law.check w false hq
  have hst := hk.arr.law.stays w hq
  obtain ⟨es', c', hr', hrun⟩ : ∃ es' c', MpR es' (ups f l m) ∧ (execOp a.eval ⟨none, .mapUpdate mt x y z, ty, ps, af, g⟩).run P w = .ok .skip { w with heap := w.heap.setIfInBounds b (.map es' c') } := by
    rcases hr.find hk hl w with ⟨h1, h2, h3⟩ | ⟨m0, j, e0, h1, h2, h3, h4⟩
    · refine ⟨_, c + 1, hr.push hl m c h3, ?_⟩
      simp only [execOp, ha.eval hx, ha.eval hy, ha.eval hv, Instr.mapUpdate, Sem.run_bind, run_underlying hm, Go.MapKept.run_getObj_map hb, Result.andThen_ok, Sem.run_pure, hc, h2, Go.MapKept.run_setObj_map _ hb]
    · refine ⟨_, c, hr.mod hl m h3 h4, ?_⟩
      simp only [execOp, ha.eval hx, ha.eval hy, ha.eval hv, Instr.mapUpdate, Sem.run_bind, run_underlying hm, Go.MapKept.run_getObj_map hb, Result.andThen_ok, Sem.run_pure, hc, h2, h3, Option.map_some, Option.getD_some, h4, hst, Go.MapKept.run_setObj_map _ hb]
      rfl
  unfold Oper.wp
  rw [hrun, Oper.upon_skip]
  refine (hk' _ _ (h [(b, .map es' c')] ⟨es', c', rfl, hr'⟩)).out _ _ ha (Holds.perm (L := [(b, .map es' c')] :: (A ++ B)) ?_ List.perm_middle.symm)
  refine hw'.upd Upd.front ?_ (fun c2 hc2 => ?_) rfl rfl
  · show (w.heap.setIfInBounds b _)[b]? = _
    rw [Array.getElem?_setIfInBounds_self_of_lt hlt]
  · show (w.heap.setIfInBounds b _)[c2]? = _
    rw [Array.getElem?_setIfInBounds_ne (fun hh => hc2 hh.symm)]⟩
theorem EV_toArr {t e len k : Nat} [hs : AR P t e len k] {a0 : Addr} {m cap : Nat} (hx : ev M x = some (.slice (some a0) m cap)) (hm : len ≤ m) : EV P n ⟨some d, .sliceToArrayPointer t x, ty, ps, af, g⟩ M L d (.pointer (some a0)) :=
  ⟨rfl, fun a w ha _ => by
    obtain ⟨hu, _⟩ := hs.parts
    have : ¬ m < len := by omega
    simp [execOp, ha.eval hx, Instr.arrayAt, run_underlying hu, this]⟩
omit [W0] in
theorem rd_take {L : List Chunk} {a : Addr} {xs : List Value} (h : RdAt L a xs) (k : Nat) : RdAt L a (xs.take k) := by
  rcases h with h0 | ⟨b, off, cc, TT, fr, h1, h2, h3⟩
  · exact .inl (by rw [h0]; simp)
  · refine .inr ⟨b, off, cc, TT, fr, h1, h2, fun j u hj => ?_⟩
    rw [List.getElem?_take] at hj
    split at hj
    · exact h3 _ _ hj
    · cases hj
omit [W0] in
/-- A slice that can be read, with its room. -/
structure Rs (L : List Chunk) (k : Nat) (v : Value) (m : Nat) (xs : List Value) : Prop where
  sl : Sl L k v m xs
  room : ∃ a c, v = .slice a m c ∧ m ≤ c
theorem Rs.sub {L L' : List Chunk} (hs : ∀ x ∈ L.flatten, x ∈ L'.flatten) {k m : Nat} {v : Value} {xs : List Value} (h : Rs L k v m xs) : Rs L' k v m xs := ⟨sl_sub hs h.sl, h.room⟩
theorem Rs.there {L : List Chunk} {C : Chunk} {k m : Nat} {v : Value} {xs : List Value} (h : Rs L k v m xs) : Rs (C :: L) k v m xs := ⟨sl_there h.sl, h.room⟩
theorem Rs.ow {e k m : Nat} {v : Value} {xs : List Value} {C : Chunk} {L : List Chunk} (h : Ow e k v m xs C) : Rs (C :: L) k v m xs := by
  refine ⟨ow_sl h, ?_⟩
  rcases h with ⟨rfl, rfl, _⟩ | ⟨b, cap, rest, rfl, _, _, _, hmc, _⟩
  · exact ⟨_, _, rfl, Nat.le_refl _⟩
  · exact ⟨_, _, rfl, hmc⟩
theorem Rs.one {L : List Chunk} {k m : Nat} {v : Value} {xs : List Value} (h : Rs L k v m xs) : v.oneCell' = true := by obtain ⟨a, c, rfl, _⟩ := h.room; rfl
theorem Rs.nil {L : List Chunk} {k : Nat} : Rs L k (.slice none 0 0) 0 [] := ⟨.inl ⟨0, rfl, rfl, rfl⟩, none, 0, rfl, Nat.le_refl _⟩
theorem Rs.len {L : List Chunk} {k m : Nat} {v : Value} {xs : List Value} (h : Rs L k v m xs) : xs.length = m * k := by
  rcases h.sl with ⟨c, rfl, rfl, rfl⟩ | ⟨a, cap, rfl, _, hl⟩
  · simp
  · exact hl
theorem EV_sliceRs {P : Program} {T e k by_ : Nat} [hs : SL P T e k by_] {v : Value} {m : Nat} {xs : List Value} {L0 : List Chunk} (hO : Rs L0 k v m xs) {l h : Nat} (h1 : l ≤ h) (h2 : h ≤ m) :
    ∃ r, Rs L0 k r (h - l) ((xs.drop (l * k)).take ((h - l) * k)) ∧ ∀ {n : Nat} {M : List (Nat × Value)} {L : List Chunk} {d : Nat} {ty : TypeId} {ps : String} {af : Array Edge} {g : Option (Nat × Bool)} {x : Operand} {lo hi : Option Operand},
      ev M x = some v → bnd M lo 0 = some (l : Int) → bnd M hi m = some (h : Int) → EV P n ⟨some d, .slice T x lo hi none, ty, ps, af, g⟩ M L d r := by
  obtain ⟨a, c, rfl, hmc⟩ := hO.room
  have hlen := hO.len
  refine ⟨.slice (if c = l then a else a.map (·.add (l * k))) (h - l) (c - l), ⟨?_, _, _, rfl, by omega⟩, ?_⟩
  · rcases hO.sl with ⟨c', hv, rfl, rfl⟩ | ⟨a', cap, hv, hr, hl⟩
    · cases hv
      refine .inl ⟨c - l, ?_, by omega, by simp⟩
      rw [show h - l = 0 from by omega]
      split <;> rfl
    · cases hv
      refine .inr ⟨if c = l then a' else a'.add (l * k), c - l, by split <;> rfl, ?_, ?_⟩
      · rcases hr with h0 | ⟨b, off, cc, TT, fr, rfl, hf, hc⟩
        · subst h0
          exact .inl (by simp)
        · by_cases hcl : c = l
          · rw [if_pos hcl]
            refine .inl ?_
            rw [show h - l = 0 from by omega, Nat.zero_mul, List.take_zero]
          · rw [if_neg hcl, addr_add]
            refine .inr ⟨b, off + l * k, cc, TT, fr, rfl, hf, fun j u hj => ?_⟩
            rw [List.getElem?_take] at hj
            split at hj
            · rw [List.getElem?_drop] at hj
              rw [Nat.add_assoc]
              exact hc _ _ hj
            · cases hj
      · rw [List.length_take, List.length_drop, hlen]
        have : (h - l) * k ≤ m * k - l * k := by rw [← Nat.sub_mul]; exact Nat.mul_le_mul_right k (by omega)
        omega
  · intro n M L d ty ps af g x lo hi hx hl hh
    exact ⟨rfl, fun a' w ha _ => by
      obtain ⟨hu, i', hi', hk', _, hk0⟩ := hs.parts
      simp [execOp, ha.eval hx, Instr.sliceAt, Instr.slice, underlying, hu, sliceBounds_run ha hl hh h1 (show h ≤ c by omega), sizeOf, typeInfo, hi', hk']⟩
end
end Go.Vx
namespace Go.Vx
theorem Inc.mem [W0] {S L : List Chunk} (h : Inc S L) : ∀ x ∈ S.flatten, x ∈ L.flatten := by
  obtain ⟨R, hp⟩ := h
  intro x hx
  exact hp.flatten.mem_iff.2 (by rw [List.flatten_append]; exact List.mem_append_left _ hx)
theorem iM [W0] {S L : List Chunk} (h : Inc S L := by exact (by repeat (first | exact Inc.refl | exact Inc.nil | (show Inc (_ :: _) _; refine Inc.cons (by repeat (first | exact Take.here | apply Take.there)) ?_) | refine Inc.skip ?_))) : ∀ x ∈ S.flatten, x ∈ L.flatten := h.mem
end Go.Vx
namespace Go.Df
open Go.Vx Go.If
set_option linter.all false
def lenB (v : Nat) : Nat := if v = 0 then 0 else Nat.log2 v + 1
def plF (v st : Nat) : Nat := st * (lenB (v / st) - 1) + v / 2 ^ (lenB (v / st) - 1)
def olN (n : Nat) : Nat := if n = 258 then 285 else 257 + plF (n - 3) 4
def odN (d : Nat) : Nat := plF (d - 1) 2
theorem lenB_b {v k : Nat} (h1 : 2 ^ k ≤ v) (h2 : v < 2 ^ (k + 1)) : lenB v = k + 1 := by
  have h0 : v ≠ 0 := by have : 0 < 2 ^ k := Nat.pow_pos (by decide); omega
  unfold lenB
  rw [if_neg h0, show Nat.log2 v = k from (Nat.log2_eq_iff h0).2 ⟨h1, h2⟩]
theorem pl_sp {v st : Nat} (hs : 1 ≤ st) : spF (plF v st) st ≤ v ∧ v - spF (plF v st) st < 2 ^ spX (plF v st) st := by
  by_cases h0 : v / st = 0
  · have hv : v < st := by
      rcases Nat.lt_or_ge v st with h | h
      · exact h
      · have : 1 ≤ v / st := (Nat.le_div_iff_mul_le (by omega)).2 (by omega)
        omega
    have e : plF v st = v := by unfold plF lenB; rw [if_pos h0]; simp
    unfold spF spX
    rw [e, if_pos (by omega), if_pos (by omega)]
    simp
  · obtain ⟨k, hk⟩ : ∃ k, k = Nat.log2 (v / st) := ⟨_, rfl⟩
    have hlb : lenB (v / st) - 1 = k := by unfold lenB; rw [if_neg h0, hk]; rfl
    have h1 := (Nat.log2_eq_iff h0).1 hk.symm
    have a1 : 2 ^ k * st ≤ v := (Nat.le_div_iff_mul_le (by omega)).1 h1.1
    have a2 : v < 2 ^ (k + 1) * st := (Nat.div_lt_iff_lt_mul (by omega)).1 h1.2
    have hp : 0 < 2 ^ k := Nat.pow_pos (by decide)
    have b1 : st ≤ v / 2 ^ k := (Nat.le_div_iff_mul_le hp).2 (by rw [Nat.mul_comm]; exact a1)
    have b2 : v / 2 ^ k < 2 * st := (Nat.div_lt_iff_lt_mul hp).2 (by rw [Nat.pow_succ] at a2; rw [show 2 * st * 2 ^ k = 2 ^ k * 2 * st from by rw [Nat.mul_comm (2 * st), Nat.mul_assoc]]; exact a2)
    obtain ⟨m, hm⟩ : ∃ m, m = v / 2 ^ k - st := ⟨_, rfl⟩
    have e : plF v st = st * k + (st + m) := by unfold plF; rw [hlb, hm]; omega
    have hmod := Nat.div_add_mod v (2 ^ k)
    have hml := Nat.mod_lt v hp
    have hvk : v / 2 ^ k = st + m := by omega
    rw [hvk] at hmod
    unfold spF spX
    rw [e]
    by_cases hk0 : k = 0
    · subst hk0
      rw [if_pos (by omega), if_pos (by omega)]
      simp only [Nat.mul_zero, Nat.zero_add, Nat.pow_zero, Nat.one_mul] at hmod hml ⊢
      omega
    · have h2 : ¬ st * k + (st + m) < 2 * st := by
        have : st * 1 ≤ st * k := Nat.mul_le_mul_left _ (by omega)
        omega
      have hmst : m < st := by omega
      have e1 : (st * k + (st + m)) / st = k + 1 := by
        rw [show st * k + (st + m) = m + st * (k + 1) from by rw [Nat.mul_add, Nat.mul_one]; omega, Nat.add_mul_div_left _ _ (by omega), Nat.div_eq_of_lt hmst]
        omega
      have e2 : (st * k + (st + m)) % st = m := by
        rw [show st * k + (st + m) = m + st * (k + 1) from by rw [Nat.mul_add, Nat.mul_one]; omega, Nat.add_mul_mod_self_left, Nat.mod_eq_of_lt hmst]
      rw [if_neg h2, if_neg h2, e1, e2, show k + 1 - 1 = k from rfl, Nat.mul_comm]
      omega
theorem plF_mono_b {v st k : Nat} (hs : 1 ≤ st) (h : v < 2 ^ k * st) (hk : 1 ≤ k) : plF v st < st * (k + 1) := by
  by_cases h0 : v / st = 0
  · have hv : v < st := by
      rcases Nat.lt_or_ge v st with h | h
      · exact h
      · have : 1 ≤ v / st := (Nat.le_div_iff_mul_le (by omega)).2 (by omega)
        omega
    have e : plF v st = v := by unfold plF lenB; rw [if_pos h0]; simp
    rw [e]
    have : st * 1 ≤ st * (k + 1) := Nat.mul_le_mul_left _ (by omega)
    omega
  · obtain ⟨j, hj⟩ : ∃ j, j = Nat.log2 (v / st) := ⟨_, rfl⟩
    have hlb : lenB (v / st) - 1 = j := by unfold lenB; rw [if_neg h0, hj]; rfl
    have h1 := (Nat.log2_eq_iff h0).1 hj.symm
    have a1 : 2 ^ j * st ≤ v := (Nat.le_div_iff_mul_le (by omega)).1 h1.1
    have a2 : v < 2 ^ (j + 1) * st := (Nat.div_lt_iff_lt_mul (by omega)).1 h1.2
    have hp : 0 < 2 ^ j := Nat.pow_pos (by decide)
    have b2 : v / 2 ^ j < 2 * st := (Nat.div_lt_iff_lt_mul hp).2 (by rw [Nat.pow_succ] at a2; rw [show 2 * st * 2 ^ j = 2 ^ j * 2 * st from by rw [Nat.mul_comm (2 * st), Nat.mul_assoc]]; exact a2)
    have hjk : j < k := by
      rcases Nat.lt_or_ge j k with h' | h'
      · exact h'
      · have : 2 ^ k ≤ 2 ^ j := Nat.pow_le_pow_right (by decide) h'
        have := Nat.mul_le_mul_right st this
        omega
    have h3 : st * j ≤ st * (k - 1) := Nat.mul_le_mul_left _ (by omega)
    have h4 : st * (k + 1) = st * (k - 1) + 2 * st := by
      rw [show k + 1 = (k - 1) + 2 from by omega, Nat.mul_add]; omega
    unfold plF
    rw [hlb]
    omega
theorem olN_ok {n : Nat} (h3 : 3 ≤ n) (h : n ≤ 258) : 257 ≤ olN n ∧ olN n ≤ 285 ∧ (lnB (olN n)).1 ≤ n ∧ n - (lnB (olN n)).1 < 2 ^ (lnB (olN n)).2 := by
  have : ∀ n, n < 259 → 3 ≤ n → 257 ≤ olN n ∧ olN n ≤ 285 ∧ (lnB (olN n)).1 ≤ n ∧ n - (lnB (olN n)).1 < 2 ^ (lnB (olN n)).2 := by decide +kernel
  exact this n (by omega) h3
theorem odN_ok {d : Nat} (h1 : 1 ≤ d) (h : d ≤ 32768) : odN d ≤ 29 ∧ baB 1 2 4 (odN d) ≤ d ∧ d - baB 1 2 4 (odN d) < 2 ^ exB (odN d) 2 4 := by
  have hb : odN d < 2 * (14 + 1) := plF_mono_b (v := d - 1) (st := 2) (k := 14) (by decide) (by omega) (by decide)
  have hp := pl_sp (v := d - 1) (st := 2) (by decide)
  have hs := sp_dst (odN d) (by omega)
  have hp' : spF (odN d) 2 ≤ d - 1 ∧ d - 1 - spF (odN d) 2 < 2 ^ spX (odN d) 2 := hp
  rw [hs.2] at hp'
  rw [← hs.1]
  exact ⟨by omega, by omega, by omega⟩
end Go.Df
namespace Go.Df
open Go.Vx Go.If
set_option linter.all false
theorem tabQ (s : ByteArray) (h : (List.range 256).all (fun i => s[i]? == some (UInt8.ofNat (lenB i))) = true) {w : Nat} (hw : w < 256) : s[w]? = some (UInt8.ofNat (lenB w)) := by
  rw [List.all_eq_true] at h
  have := h w (by simpa using hw)
  simpa using this
theorem lenB_le : ∀ w, w < 256 → lenB w ≤ 8 := by decide +kernel
theorem lenB_256 {v : Nat} (h1 : 256 ≤ v) (h2 : v < 65536) : lenB v = 8 + lenB (v / 256) := by
  have h0 : v / 256 ≠ 0 := by omega
  have h3 := (Nat.log2_eq_iff h0).1 rfl
  obtain ⟨k, hk⟩ : ∃ k, k = Nat.log2 (v / 256) := ⟨_, rfl⟩
  rw [← hk] at h3
  have e1 : lenB (v / 256) = k + 1 := lenB_b h3.1 h3.2
  have a1 : 2 ^ k * 256 ≤ v := (Nat.le_div_iff_mul_le (by decide)).1 h3.1
  have a2 : v < 2 ^ (k + 1) * 256 := (Nat.div_lt_iff_lt_mul (by decide)).1 h3.2
  have e2 : lenB v = k + 8 + 1 := lenB_b (by rw [Nat.pow_add]; exact a1) (by rw [show k + 8 + 1 = (k + 1) + 8 from by omega, Nat.pow_add]; exact a2)
  omega
end Go.Df
namespace Go.Vx
variable [W0] {P : Program} {n : Nat} {M : List (Nat × Value)} {L : List Chunk} {d : Nat} {ty : TypeId} {ps : String} {af : Array Edge} {g : Option (Nat × Bool)} {x y : Operand}
theorem EV_shrN {t u : TypeId} {k k' : IntKind} {a s : Nat} (hx : ev M x = some (.int k (a : Int))) (hy : ev M y = some (.int k' (s : Int))) (hs : s ≤ k.bits) :
    EV P n ⟨some d, .binOp .shr t x y u, ty, ps, af, g⟩ M L d (.int k ((a / 2 ^ s : Nat) : Int)) := by
  refine EV_shr hx hy (by omega) ?_
  rw [Int.toNat_natCast, Nat.min_eq_left hs, Int.fdiv_eq_ediv_of_nonneg _ (by exact Int.le_of_lt (Int.pow_pos (by decide)))]
  simp
end Go.Vx
namespace Go.Proofs.YtdcehmhelfohfaaGreatDoor
open Go Go.Vx Go.Hf Go.If Go.Df
variable [W0]
set_option maxRecDepth 4000
set_option linter.all false
set_option maxHeartbeats 2000000 in
theorem len64_n (v : Nat) (L : List Chunk) (h : v < 65536) : GvP Tryz.prog 149 [.int .u64 (v : Int)].toArray L (.int .i64 ((lenB v : Nat) : Int)) := by
  refine Gv.of_body Tryz.func149 rfl rfl ?_
  (repeat' first|refine kW ?_|refine kU fun bk=>?_|refine kV fun hc=>?_|refine kZ (fun hc=>?_) fun hc=>?_|fail)
  · rw [lenB_256 (by omega) h]
    obtain ⟨w, hw9⟩ : ∃ w, w = v / 256 := ⟨_, rfl⟩
    have hw : w < 256 := by omega
    rw [← hw9]
    have hle := lenB_le w hw
    refine OW_EV (EV_indexStr (j := w) (u := UInt8.ofNat (lenB w)) rfl rfl (by rw [wrap_u8]; omega) (tabQ _ (by kernel_rfl) hw)) rfl ?_
    rw [show ((UInt8.ofNat (lenB w)).toNat : Int) = ((lenB w : Nat) : Int) from by rw [UInt8.toNat_ofNat', Nat.mod_eq_of_lt (by omega)]]
    generalize lenB w = z at hle ⊢
    refine jA ?_
    refine OW_EV (EV_convII (r := (z : Int)) rfl (wrap_i64 (by omega) (by omega))) rfl ?_
    (repeat' first|refine kW ?_|refine kU fun bk=>?_|refine kV fun hc=>?_|refine kZ (fun hc=>?_) fun hc=>?_|fail)
    refine kR ?_
    exact ⟨_, iC, by rw [Int.natCast_add]; rfl, rfl⟩
  · have hw : v < 256 := by omega
    have hle := lenB_le v hw
    refine OW_EV (EV_indexStr (j := v) (u := UInt8.ofNat (lenB v)) rfl rfl (by rw [wrap_u8]; omega) (tabQ _ (by kernel_rfl) hw)) rfl ?_
    rw [show ((UInt8.ofNat (lenB v)).toNat : Int) = ((lenB v : Nat) : Int) from by rw [UInt8.toNat_ofNat', Nat.mod_eq_of_lt (by omega)]]
    generalize lenB v = z at hle ⊢
    refine jA ?_
    refine OW_EV (EV_convII (r := (z : Int)) rfl (wrap_i64 (by omega) (by omega))) rfl ?_
    (repeat' first|refine kW ?_|refine kU fun bk=>?_|refine kV fun hc=>?_|refine kZ (fun hc=>?_) fun hc=>?_|fail)
    refine kR ?_
    exact ⟨_, iC, by simp [tupled], rfl⟩
theorem len_n (v : Nat) (L : List Chunk) (h : v < 65536) : GvP Tryz.prog 132 [.int .u64 (v : Int)].toArray L (.int .i64 ((lenB v : Nat) : Int)) := by
  refine Gv.of_body Tryz.func132 rfl rfl ?_
  have h6 := len64_n v L h
  (repeat' first|refine kW ?_|refine kU fun bk=>?_|refine kV fun hc=>?_|refine kZ (fun hc=>?_) fun hc=>?_|fail)
  refine OW_callP rfl rfl rfl h6 rfl ?_
  (repeat' first|refine kW ?_|refine kU fun bk=>?_|refine kV fun hc=>?_|refine kZ (fun hc=>?_) fun hc=>?_|fail)
  refine kR ?_
  exact ⟨_, iC, rfl, rfl⟩
set_option maxHeartbeats 2000000 in
theorem place_n (v st : Nat) (L : List Chunk) (hv : v < 65536) (h1 : 1 ≤ st) (h2 : st ≤ 4) : GvP Tryz.prog 117 [.int .i64 (v : Int), .int .i64 (st : Int)].toArray L (.int .i64 ((plF v st : Nat) : Int)) := by
  refine Gv.of_body Tryz.func117 rfl rfl ?_
  have hq : v / st ≤ v := Nat.div_le_self _ _
  have hl := len_n (v / st) L (by omega)
  have hb : lenB (v / st) ≤ 16 := by
    unfold lenB
    split
    · omega
    · rename_i h0
      have := (Nat.log2_lt h0).2 (show v / st < 2 ^ 16 by omega)
      omega
  unfold plF
  (repeat' first|refine kW ?_|refine kU fun bk=>?_|refine kV fun hc=>?_|refine kZ (fun hc=>?_) fun hc=>?_|fail)
  refine OW_EV (EV_quoN v st rfl rfl rfl rfl (by omega) (by omega)) rfl ?_
  generalize v / st = y at hl hb hq ⊢
  (repeat' first|refine kW ?_|refine kU fun bk=>?_|refine kV fun hc=>?_|refine kZ (fun hc=>?_) fun hc=>?_|fail)
  refine OW_callP rfl rfl rfl hl rfl ?_
  generalize lenB y = z at hb ⊢
  (repeat' first|refine kW ?_|refine kU fun bk=>?_|refine kV fun hc=>?_|refine kZ (fun hc=>?_) fun hc=>?_|fail)
  rw [show max (0 : Int) ((z : Int) - 1) = ((z - 1 : Nat) : Int) from by omega]
  obtain ⟨x, hx⟩ : ∃ x, x = z - 1 := ⟨_, rfl⟩
  rw [← hx]
  have hst : st * x ≤ 4 * 16 := Nat.mul_le_mul h2 (by omega)
  have hv2 : v / 2 ^ x ≤ v := Nat.div_le_self _ _
  refine OW_EV (EV_ari64 (r := ((st * x : Nat) : Int)) rfl rfl (by simp [ariI]) (by omega)) rfl ?_
  (repeat' first|refine kW ?_|refine kU fun bk=>?_|refine kV fun hc=>?_|refine kZ (fun hc=>?_) fun hc=>?_|fail)
  refine OW_EV (EV_shrN (k := .i64) (a := v) (s := x) rfl rfl (by simp only [IntKind.bits]; omega)) rfl ?_
  generalize st * x = A at hst ⊢
  generalize v / 2 ^ x = B at hv2 ⊢
  (repeat' first|refine kW ?_|refine kU fun bk=>?_|refine kV fun hc=>?_|refine kZ (fun hc=>?_) fun hc=>?_|fail)
  rw [show (A : Int) + (B : Int) = ((A + B : Nat) : Int) from by omega]
  refine kR ?_
  exact ⟨_, iC, rfl, rfl⟩
theorem olen_n (n : Nat) (L : List Chunk) (h3 : 3 ≤ n) (h : n ≤ 258) : GvP Tryz.prog 108 [.int .i64 (n : Int)].toArray L (.int .i64 ((olN n : Nat) : Int)) := by
  refine Gv.of_body Tryz.func108 rfl rfl ?_
  have hp := place_n (n - 3) 4 L (by omega) (by decide) (by decide)
  have hb := olN_ok h3 h
  unfold olN at *
  (repeat' first|refine kW ?_|refine kU fun bk=>?_|refine kV fun hc=>?_|refine kZ (fun hc=>?_) fun hc=>?_|fail)
  · rw [if_pos (show n = 258 by omega)]
    refine kR ?_
    exact ⟨_, iC, rfl, rfl⟩
  · rw [if_neg (show ¬ n = 258 by omega)] at hb ⊢
    rw [show (n : Int) - 3 = ((n - 3 : Nat) : Int) from by omega]
    refine OW_callP rfl rfl rfl hp rfl ?_
    generalize plF (n - 3) 4 = z at hb ⊢
    (repeat' first|refine kW ?_|refine kU fun bk=>?_|refine kV fun hc=>?_|refine kZ (fun hc=>?_) fun hc=>?_|fail)
    rw [show (257 : Int) + (z : Int) = ((257 + z : Nat) : Int) from by omega]
    refine kR ?_
    exact ⟨_, iC, rfl, rfl⟩
theorem odist_n (d : Nat) (L : List Chunk) (h1 : 1 ≤ d) (h : d ≤ 32768) : GvP Tryz.prog 96 [.int .i64 (d : Int)].toArray L (.int .i64 ((odN d : Nat) : Int)) := by
  refine Gv.of_body Tryz.func96 rfl rfl ?_
  have hp := place_n (d - 1) 2 L (by omega) (by decide) (by decide)
  unfold odN
  (repeat' first|refine kW ?_|refine kU fun bk=>?_|refine kV fun hc=>?_|refine kZ (fun hc=>?_) fun hc=>?_|fail)
  rw [show (d : Int) - 1 = ((d - 1 : Nat) : Int) from by omega]
  refine OW_callP rfl rfl rfl hp rfl ?_
  (repeat' first|refine kW ?_|refine kU fun bk=>?_|refine kV fun hc=>?_|refine kZ (fun hc=>?_) fun hc=>?_|fail)
  refine kR ?_
  exact ⟨_, iC, rfl, rfl⟩
end Go.Proofs.YtdcehmhelfohfaaGreatDoor
namespace Go.Vx
open Go
set_option linter.all false
def flt {α : Type} (f : α → List Value) : List α → List Value
  | [] => []
  | x :: r => f x ++ flt f r
theorem flt_app {α : Type} (f : α → List Value) : ∀ a b, flt f (a ++ b) = flt f a ++ flt f b
  | [], b => rfl
  | x :: a, b => by simp only [List.cons_append, flt, flt_app f a b, List.append_assoc]
theorem flt_ones {α : Type} {f : α → List Value} (h : ∀ x, ones (f x) = true) : ∀ a, ones (flt f a) = true
  | [] => rfl
  | x :: a => by
    have h1 := h x
    have h2 := flt_ones h a
    simp only [ones] at h1 h2 ⊢
    simp only [flt, List.all_append, h1, h2, Bool.and_self]
theorem flt_drop {α : Type} {f : α → List Value} {k : Nat} (h : ∀ x, (f x).length = k) : ∀ (a : List α) (n : Nat), (flt f a).drop (n * k) = flt f (a.drop n)
  | a, 0 => by simp
  | [], n + 1 => by simp [flt]
  | x :: a, n + 1 => by
    rw [flt, List.drop_succ_cons, ← flt_drop h a n, Nat.succ_mul, List.drop_append, h, show n * k + k - k = n * k from by omega, List.drop_of_length_le (by rw [h]; omega), List.nil_append]
theorem flt_take {α : Type} {f : α → List Value} {k : Nat} (h : ∀ x, (f x).length = k) : ∀ (a : List α) (n : Nat), (flt f a).take (n * k) = flt f (a.take n)
  | a, 0 => by simp [flt]
  | [], n + 1 => by simp [flt]
  | x :: a, n + 1 => by
    rw [flt, List.take_succ_cons, flt, ← flt_take h a n, Nat.succ_mul, List.take_append, h, show n * k + k - k = n * k from by omega, List.take_of_length_le (by rw [h]; omega)]
theorem flt_at {α : Type} {f : α → List Value} {k : Nat} (h : ∀ x, (f x).length = k) {a : List α} {j : Nat} {x : α} (hj : a[j]? = some x) : cut (flt f a) (j * k) k = f x := by
  unfold cut
  rw [flt_drop h]
  have hlt : j < a.length := by
    rcases Nat.lt_or_ge j a.length with h' | h'
    · exact h'
    · simp [List.getElem?_eq_none h'] at hj
  have hx : a[j] = x := by rw [List.getElem?_eq_getElem hlt] at hj; simpa using hj
  rw [List.drop_eq_getElem_cons hlt, hx, flt, List.take_append_of_le_length (by rw [h]; exact Nat.le_refl _), List.take_of_length_le (by rw [h]; exact Nat.le_refl _)]
theorem Rs.elem [W0] {L : List Chunk} {k m : Nat} {v : Value} {xs : List Value} (h : Rs L k v m xs) {j : Nat} (hj : j < m) (hk : 0 < k) :
    ∃ b off cap, v = .slice (some ⟨b, off, none⟩) m cap ∧ RdAt L ⟨b, off + j * k, none⟩ (cut xs (j * k) k) := by
  have hlen := h.len
  have hjk : j * k + k ≤ m * k := by rw [← Nat.succ_mul]; exact Nat.mul_le_mul_right k hj
  rcases h.sl with ⟨c, rfl, rfl, _⟩ | ⟨a, cap, rfl, hr, hl⟩
  · omega
  · rcases hr with h0 | ⟨b, off, cc, TT, fr, rfl, hf, hc⟩
    · rw [h0] at hlen
      simp only [List.length_nil] at hlen
      omega
    · refine ⟨b, off, cap, rfl, .inr ⟨b, off + j * k, cc, TT, fr, rfl, hf, fun q u hq => ?_⟩⟩
      unfold cut at hq
      rw [List.getElem?_take] at hq
      split at hq
      · rw [List.getElem?_drop] at hq
        rw [Nat.add_assoc]
        exact hc _ _ hq
      · cases hq
theorem RdAt.sub [W0] {L L' : List Chunk} (hs : ∀ x ∈ L.flatten, x ∈ L'.flatten) {a : Addr} {vs : List Value} (h : RdAt L a vs) : RdAt L' a vs := rd_sub hs h
end Go.Vx
namespace Go.Df
open Go.Vx Go.If Go.Hf
set_option linter.all false
def TkOk (t : Nat × Nat) : Prop := (t.2 = 0 ∧ t.1 < 256) ∨ (1 ≤ t.2 ∧ t.2 ≤ 32768 ∧ 3 ≤ t.1 ∧ t.1 ≤ 258)
def tsy (t : Nat × Nat) : Nat := if t.2 = 0 then t.1 else olN t.1
def tsz (t : Nat × Nat) : Nat := if t.2 = 0 then 1 else t.1
def tok (t : Nat × Nat) : Tok := if t.2 = 0 then .lit (UInt8.ofNat t.1) else .mt (olN t.1) (t.1 - (lnB (olN t.1)).1) (odN t.2) (t.2 - baB 1 2 4 (odN t.2))
theorem tsy_lt {t : Nat × Nat} (h : TkOk t) : tsy t < 286 ∧ (t.2 ≠ 0 → 257 ≤ tsy t) ∧ tsy t ≠ 256 := by
  unfold tsy
  rcases h with ⟨h1, h2⟩ | ⟨h1, h2, h3, h4⟩
  · rw [if_pos h1]; exact ⟨by omega, fun h => absurd h1 h, by omega⟩
  · rw [if_neg (by omega)]
    have := olN_ok h3 h4
    exact ⟨by omega, fun _ => this.1, by omega⟩
theorem tsI_app [W0] {l dl : List Nat} : ∀ (a b : List Tok), tsI l dl (a ++ b) = tsI l dl a ++ tsI l dl b
  | [], b => rfl
  | x :: a, b => by simp only [List.cons_append, tsI, tsI_app a b, List.append_assoc]
theorem takeSucc {α : Type} {l : List α} {j : Nat} {x : α} (h : l[j]? = some x) : l.take (j + 1) = l.take j ++ [x] := by
  rw [List.take_succ, h]; rfl
end Go.Df
namespace Go.Proofs.YtdcehmhelfohfaaGreatDoor
open Go Go.Vx Go.Hf Go.If Go.Df
variable [W0]
set_option maxRecDepth 4000
set_option linter.all false
theorem cvW {n : Nat} (h : n < 4294967296) : IntKind.u32.wrap (n : Int) = (n : Int) := wrap_nat (k := .u32) rfl (by simp only [IntKind.bits]; omega)
omit [W0] in
def TkV (t : Nat × Nat) : List Value := [.int .i64 (t.1 : Int), .int .i64 (t.2 : Int)]
omit [W0] in
theorem TkV_len (t : Nat × Nat) : (TkV t).length = 2 := rfl
structure TkR (L : List Chunk) (v : Value) (ts : List (Nat × Nat)) : Prop where
  rs : Rs L 2 v ts.length (flt TkV ts)
  ok : ∀ t ∈ ts, TkOk t
theorem TkR.sub {L L' : List Chunk} (hs : ∀ x ∈ L.flatten, x ∈ L'.flatten) {v : Value} {ts : List (Nat × Nat)} (h : TkR L v ts) : TkR L' v ts := ⟨h.rs.sub hs, h.ok⟩
structure CdR (L : List Chunk) (vl vc : Value) (ls : List Nat) : Prop where
  l : Rs L 1 vl ls.length (ivn ls)
  c : Rs L 1 vc ls.length (wnv (cds ls))
  ok : Cok ls
  n : ls.length ≤ 400
theorem CdR.sub {L L' : List Chunk} (hs : ∀ x ∈ L.flatten, x ∈ L'.flatten) {vl vc : Value} {ls : List Nat} (h : CdR L vl vc ls) : CdR L' vl vc ls := ⟨h.l.sub hs, h.c.sub hs, h.ok, h.n⟩
def WrI (p : Nat) (a : List (Nat × Nat)) (D E : Chunk) : Prop := WrD p (itV a) (itL a) D E
theorem WrI.add {p : Nat} {a : List (Nat × Nat)} {v n : Nat} {D E : Chunk} (h : WrD p (itV a + 2 ^ itL a * v) (itL a + n) D E) : WrI p (a ++ [(v, n)]) D E := by
  unfold WrI
  rw [itV_app, itL_app]
  simp only [itV, itL, Nat.mul_zero, Nat.add_zero]
  exact h
theorem WrI.new (p : Nat) : WrI p [] [(p, cl [.slice none 0 0, .int .u64 0, .int .i64 0] 74)] [] := WrD.new p
theorem iput_n (p v n : Nat) (a : List (Nat × Nat)) (D E : Chunk) (L : List Chunk) (h : WrI p a D E) (hn : n ≤ 32) (hv : v < 2 ^ n) (hN : itL a ≤ 1125899906841600) :
    Gv Tryz.prog 32 [.pointer (some ⟨p, 0, none⟩), .int .u32 (v : Int), .int .i64 (n : Int)].toArray (D :: E :: L) (fun r L' => r = .tuple #[] ∧ ∃ D' E', WrI p (a ++ [(v, n)]) D' E' ∧ L' = D' :: E' :: L) := by
  have hp := put_n p (itV a) (itL a) v (n : Int) D E L h (Nat.lt_of_lt_of_le hv (Nat.pow_le_pow_right (by decide) hn)) hN
  refine hp.mono fun r L' hq => ?_
  obtain ⟨rfl, D', E', hw, rfl⟩ := hq
  rw [clp_nat hn, Nat.mod_eq_of_lt hv] at hw
  exact ⟨rfl, D', E', WrI.add hw, rfl⟩
theorem tsym_n (t : Nat × Nat) (L : List Chunk) (h : TkOk t) : GvP Tryz.prog 86 [.agg (TkV t).toArray].toArray L (.int .i64 ((tsy t : Nat) : Int)) := by
  refine Gv.of_body Tryz.func86 rfl rfl ?_
  obtain ⟨v, d⟩ := t
  have ho := fun L => olen_n v L
  unfold TkV tsy
  unfold TkOk at h
  simp only at h ho ⊢
  (repeat' first|refine kW ?_|refine kU fun bk=>?_|refine kV fun hc=>?_|refine kZ (fun hc=>?_) fun hc=>?_|fail)
  · rw [if_pos (show d = 0 by omega)]
    refine kR ?_
    exact ⟨_, iC, rfl, rfl⟩
  · rw [if_neg (show ¬ d = 0 by omega)]
    refine OW_callP rfl rfl rfl (ho _ (by omega) (by omega)) rfl ?_
    (repeat' first|refine kW ?_|refine kU fun bk=>?_|refine kV fun hc=>?_|refine kZ (fun hc=>?_) fun hc=>?_|fail)
    refine kR ?_
    exact ⟨_, iC, rfl, rfl⟩
theorem tsize_n (t : Nat × Nat) (L : List Chunk) : GvP Tryz.prog 98 [.agg (TkV t).toArray].toArray L (.int .i64 ((tsz t : Nat) : Int)) := by
  refine Gv.of_body Tryz.func98 rfl rfl ?_
  obtain ⟨v, d⟩ := t
  unfold TkV tsz
  simp only
  (repeat' first|refine kW ?_|refine kU fun bk=>?_|refine kV fun hc=>?_|refine kZ (fun hc=>?_) fun hc=>?_|fail)
  · rw [if_pos (show d = 0 by omega)]
    refine kR ?_
    exact ⟨_, iC, rfl, rfl⟩
  · rw [if_neg (show ¬ d = 0 by omega)]
    refine kR ?_
    exact ⟨_, iC, rfl, rfl⟩
set_option maxHeartbeats 4000000 in
theorem cwrite_n (vl vc : Value) (ls : List Nat) (i p : Nat) (a : List (Nat × Nat)) (D E : Chunk) (L : List Chunk) (hc : CdR L vl vc ls) (hi : i < ls.length) (h : WrI p a D E) (hN : itL a ≤ 1125899906841600) :
    Gv Tryz.prog 87 [.agg #[vl, vc], .int .i64 (i : Int), .pointer (some ⟨p, 0, none⟩)].toArray (D :: E :: L) (fun r L' => r = .tuple #[] ∧ ∃ D' E', WrI p (a ++ [sc ls i]) D' E' ∧ L' = D' :: E' :: L) := by
  refine Gv.of_body Tryz.func87 rfl rfl ?_
  have h15 := hc.ok.at i
  have hcd : cd ls i < 2 ^ 32 := by
    by_cases h0 : 0 < ls.getD i 0
    · exact Nat.lt_of_lt_of_le (cdFit hc.ok.k hc.ok.at hi h0) (Nat.pow_le_pow_right (by decide) (by omega))
    · unfold cd; rw [if_pos (by omega)]; decide
  have hcode := fun B => code_n p (itV a) (itL a) (cd ls i) ((ls.getD i 0 : Nat) : Int) D E (B :: L) h hcd hN
  have hgl : (ivn ls)[i]? = some (.int .i64 ((ls.getD i 0 : Nat) : Int)) := ivn_get (by simp [List.getD, hi])
  have hgc : (wnv (cds ls))[i]? = some (.int .u32 ((cd ls i : Nat) : Int)) := by simp [wnv, cds, hi]
  obtain ⟨b1, o1, c1, cc1, T1, f1, rfl, hf1, hv1⟩ := sl_at hc.l.sl hgl
  obtain ⟨b2, o2, c2, cc2, T2, f2, rfl, hf2, hv2⟩ := sl_at hc.c.sl hgc
  unfold sc
  generalize ls.getD i 0 = n at h15 hcode hv1 ⊢
  generalize cd ls i = x at hcode hcd hv2 ⊢
  (repeat' first|refine kW ?_|refine kU fun bk=>?_|refine kV fun hc=>?_|refine kZ (fun hc=>?_) fun hc=>?_|fail)
  refine WC_drawAll [11] mixed ?_
  (refine WR_t 0 ?_; refine WR_t 1 ?_; refine WR_t 2 ?_; refine WR_t 3 ?_)
  (refine WR_take 4 rfl rfl (by kernel_rfl) iP iC (EV_indexAddr (j := i) rfl rfl rfl hi) (by rfl) ?_)
  (refine WR_take 5 rfl rfl (by kernel_rfl) iP iC (EV_load rfl (.there (.there (.there hf2))) hv2) (by rfl) ?_)
  (refine WR_t 6 ?_; refine WR_t 7 ?_; refine WR_t 8 ?_)
  (refine WR_take 9 rfl rfl (by kernel_rfl) iP iC (EV_indexAddr (j := i) rfl rfl rfl hi) (by rfl) ?_)
  (refine WR_take 10 rfl rfl (by kernel_rfl) iP iC (EV_load rfl (.there (.there (.there hf1))) hv1) (by rfl) ?_)
  (refine WR_last 11 (by kernel_rfl) rfl rfl rfl ?_)
  refine OW_call rfl rfl rfl (Gv.holds (hcode _) (fun w h => iH h)) rfl (fun r L' hp => ?_)
  obtain ⟨rfl, D', E', hw, rfl⟩ := hp
  rw [clp_nat (by omega)] at hw
  (refine WR_done (by kernel_rfl) ?_)
  (repeat' first|refine kW ?_|refine kU fun bk=>?_|refine kV fun hc=>?_|refine kZ (fun hc=>?_) fun hc=>?_|fail)
  refine kR ?_
  exact ⟨_, iC, rfl, D', E', WrI.add hw, rfl⟩
omit [W0] in
/-- A block's codes and tokens, as they lie. -/
def cdV (vt v1 v2 v3 v4 : Value) (size : Nat) : List Value := [vt, v1, v2, v3, v4, .int .i64 (size : Int)]
structure CoR (L : List Chunk) (vt v1 v2 v3 v4 : Value) (ts : List (Nat × Nat)) (l dl : List Nat) : Prop where
  t : TkR L vt ts
  a : CdR L v1 v2 l
  b : CdR L v3 v4 dl
  ll : 286 ≤ l.length
  dd : 30 ≤ dl.length
  nt : ts.length ≤ 200000
theorem CoR.sub {L L' : List Chunk} (hs : ∀ x ∈ L.flatten, x ∈ L'.flatten) {vt v1 v2 v3 v4 : Value} {ts : List (Nat × Nat)} {l dl : List Nat} (h : CoR L vt v1 v2 v3 v4 ts l dl) : CoR L' vt v1 v2 v3 v4 ts l dl :=
  ⟨h.t.sub hs, h.a.sub hs, h.b.sub hs, h.ll, h.dd, h.nt⟩
theorem sub_there {L : List Chunk} {C : Chunk} : ∀ x ∈ L.flatten, x ∈ (C :: L).flatten := fun x hx => by simp [hx]
set_option maxHeartbeats 4000000 in
theorem wdist_n (vt v1 v2 v3 v4 : Value) (size d p : Nat) (ts : List (Nat × Nat)) (l dl : List Nat) (a : List (Nat × Nat)) (D E : Chunk) (L : List Chunk) (hc : CoR L vt v1 v2 v3 v4 ts l dl) (h1 : 1 ≤ d) (h2 : d ≤ 32768) (h : WrI p a D E) (hN : itL a ≤ 1125899906841500) :
    Gv Tryz.prog 89 [.agg (cdV vt v1 v2 v3 v4 size).toArray, .int .i64 (d : Int), .pointer (some ⟨p, 0, none⟩)].toArray (D :: E :: L) (fun r L' => r = .tuple #[] ∧ ∃ D' E', WrI p (a ++ [sc dl (odN d), (d - baB 1 2 4 (odN d), exB (odN d) 2 4)]) D' E' ∧ L' = D' :: E' :: L) := by
  refine Gv.of_body Tryz.func89 rfl rfl ?_
  have hod := fun L => odist_n d L h1 h2
  obtain ⟨k1, k2, k3⟩ := odN_ok h1 h2
  have hb := dsB_b (odN d) (by omega)
  have hsd := fun L => sdistance_n (odN d) L (by omega)
  have hcw := fun B => cwrite_n v3 v4 dl (odN d) p a D E (B :: L) (hc.b.sub sub_there) (by have := hc.dd; omega) h (by omega)
  have hsl : (sc dl (odN d)).2 ≤ 15 := hc.b.ok.at _
  have hpu := fun D' E' B hw => iput_n p (d - baB 1 2 4 (odN d)) (exB (odN d) 2 4) (a ++ [sc dl (odN d)]) D' E' (B :: L) hw (by omega) k3 (by rw [itL_app]; simp only [itL]; omega)
  rw [List.append_assoc] at hpu
  generalize sc dl (odN d) = it at hcw hpu ⊢
  generalize baB 1 2 4 (odN d) = z at k2 k3 hsd hpu hb ⊢
  generalize exB (odN d) 2 4 = e at k3 hsd hpu hb ⊢
  generalize odN d = t at *
  unfold cdV
  (repeat' first|refine kW ?_|refine kU fun bk=>?_|refine kV fun hc=>?_|refine kZ (fun hc=>?_) fun hc=>?_|fail)
  refine OW_callP rfl rfl rfl (hod _) rfl ?_
  (repeat' first|refine kW ?_|refine kU fun bk=>?_|refine kV fun hc=>?_|refine kZ (fun hc=>?_) fun hc=>?_|fail)
  refine OW_call rfl rfl rfl (Gv.holds (hcw _) (fun w h => iH h)) rfl (fun r L' hp => ?_)
  obtain ⟨rfl, D', E', hw, rfl⟩ := hp
  have hpu := fun B => hpu D' E' B hw
  (repeat' first|refine kW ?_|refine kU fun bk=>?_|refine kV fun hc=>?_|refine kZ (fun hc=>?_) fun hc=>?_|fail)
  refine OW_callP rfl rfl rfl (hsd _) rfl ?_
  (repeat' first|refine kW ?_|refine kU fun bk=>?_|refine kV fun hc=>?_|refine kZ (fun hc=>?_) fun hc=>?_|fail)
  rw [show (d : Int) - (z : Int) = ((d - z : Nat) : Int) from by omega] 
  rw [cvW (show d - z < 4294967296 by omega)]
  refine OW_call rfl rfl rfl (Gv.holds (hpu _) (fun w h => iH h)) rfl (fun r L' hp => ?_)
  obtain ⟨rfl, D2, E2, hw2, rfl⟩ := hp
  (repeat' first|refine kW ?_|refine kU fun bk=>?_|refine kV fun hc=>?_|refine kZ (fun hc=>?_) fun hc=>?_|fail)
  refine kR ?_
  exact ⟨_, iC, rfl, D2, E2, hw2, rfl⟩
end Go.Proofs.YtdcehmhelfohfaaGreatDoor
namespace Go.Df
open Go.Vx Go.If Go.Hf
set_option linter.all false
theorem tkI_le [W0] {l dl : List Nat} (hl : Cok l) (hd : Cok dl) {t : Nat × Nat} (h : TkOk t) : itL (tkI l dl (tok t)) ≤ 48 := by
  unfold tok
  have h1 := hl.at
  have h2 := hd.at
  rcases h with ⟨h0, h3⟩ | ⟨h3, h4, h5, h6⟩
  · rw [if_pos h0]
    simp only [tkI, itL, sc]
    have := h1 (UInt8.ofNat t.1).toNat
    omega
  · rw [if_neg (by omega)]
    have k1 := olN_ok h5 h6
    have k2 := odN_ok h3 h4
    have k3 := lnB_b (olN t.1) (by omega) (by omega)
    have k4 := dsB_b (odN t.2) (by omega)
    simp only [tkI, itL, sc]
    have := h1 (olN t.1)
    have := h2 (odN t.2)
    omega
theorem tsI_le [W0] {l dl : List Nat} (hl : Cok l) (hd : Cok dl) : ∀ {ts : List (Nat × Nat)}, (∀ t ∈ ts, TkOk t) → itL (tsI l dl (ts.map tok)) ≤ 48 * ts.length
  | [], _ => by simp [tsI, itL]
  | t :: r, h => by
    have h1 := tkI_le hl hd (h t (by simp))
    have h2 := tsI_le hl hd (ts := r) (fun x hx => h x (by simp [hx]))
    rw [List.map_cons, tsI, itL_app, List.length_cons]
    omega
theorem tkI_lit [W0] {l dl : List Nat} {t : Nat × Nat} (h : TkOk t) (h0 : t.2 = 0) : tkI l dl (tok t) = [sc l (tsy t)] := by
  unfold tok tsy
  rw [if_pos h0, if_pos h0]
  simp only [tkI]
  have hlt : t.1 < 256 := by rcases h with ⟨_, h⟩ | ⟨h, _⟩; exact h; omega
  rw [UInt8.toNat_ofNat', Nat.mod_eq_of_lt hlt]
theorem tkI_mt [W0] {l dl : List Nat} {t : Nat × Nat} (h0 : t.2 ≠ 0) : tkI l dl (tok t) = [sc l (tsy t)] ++ ([(t.1 - (lnB (tsy t)).1, (lnB (tsy t)).2)] ++ [sc dl (odN t.2), (t.2 - baB 1 2 4 (odN t.2), exB (odN t.2) 2 4)]) := by
  unfold tok tsy
  rw [if_neg h0, if_neg h0]
  rfl
end Go.Df
namespace Go.Proofs.YtdcehmhelfohfaaGreatDoor
open Go Go.Vx Go.Hf Go.If Go.Df
variable [W0]
set_option maxRecDepth 4000
set_option linter.all false
def coI (l dl : List Nat) (ts : List (Nat × Nat)) : List (Nat × Nat) := tsI l dl (ts.map tok) ++ [sc l 256]
set_option maxHeartbeats 8000000 in
theorem cowrite_n (vt v1 v2 v3 v4 : Value) (size p : Nat) (ts : List (Nat × Nat)) (l dl : List Nat) (a : List (Nat × Nat)) (D E : Chunk) (L : List Chunk) (hK : CoR L vt v1 v2 v3 v4 ts l dl) (h : WrI p a D E) (hN : itL a ≤ 1125890000000000) :
    Gv Tryz.prog 60 [.agg (cdV vt v1 v2 v3 v4 size).toArray, .pointer (some ⟨p, 0, none⟩)].toArray (D :: E :: L) (fun r L' => r = .tuple #[] ∧ ∃ D' E', WrI p (a ++ coI l dl ts) D' E' ∧ L' = D' :: E' :: L) := by
  refine Gv.of_body Tryz.func60 rfl rfl ?_
  obtain ⟨ta, tc, hvt9⟩ : ∃ ta tc, vt = .slice ta ts.length tc := by obtain ⟨a, c, h, _⟩ := hK.t.rs.room; exact ⟨a, c, h⟩
  subst hvt9
  have hnt := hK.nt
  have hle := fun j => tsI_le hK.a.ok hK.b.ok (ts := ts.take j) (fun t ht => hK.t.ok t (List.mem_of_mem_take ht))
  unfold cdV
  (repeat' first|refine kW ?_|refine kU fun bk=>?_|refine kV fun hc=>?_|refine kZ (fun hc=>?_) fun hc=>?_|fail)
  refine WC_loop (X := Nat × Chunk × Chunk) (fun x => [(1, .pointer (some ⟨p, 0, none⟩)), (2, .pointer (some ⟨bk, 0, none⟩)), (10, .slice ta ts.length tc), (11, .int .i64 (ts.length : Int)), (12, .int .i64 (x.1 : Int))]) (fun x => [(bk, cl [.slice ta ts.length tc, v1, v2, v3, v4, .int .i64 (size : Int)] 89)] :: x.2.1 :: x.2.2 :: L)
    (fun x => x.1 ≤ ts.length ∧ WrI p (a ++ tsI l dl ((ts.take x.1).map tok)) x.2.1 x.2.2) (fun x => ts.length - x.1) (0, D, E) ⟨Nat.zero_le _, by simpa [tsI] using h⟩ iS (fun w h => h) ?_
  clear h D E
  rintro ⟨j, D, E⟩ ⟨hj, h⟩
  simp only at hj h ⊢
  have hlj := hle j
  rw [List.length_take, Nat.min_eq_left hj] at hlj
  generalize hA : a ++ tsI l dl ((ts.take j).map tok) = A at h
  have hAL : itL A ≤ 1125890000000000 + 48 * j := by rw [← hA, itL_app]; omega
  (repeat' first|refine kW ?_|refine kU fun bk=>?_|refine kV fun hc=>?_|refine kZ (fun hc=>?_) fun hc=>?_|fail)
  · have hjl : j < ts.length := by omega
    obtain ⟨t, ht⟩ : ∃ t, ts[j]? = some t := ⟨ts[j], List.getElem?_eq_getElem hjl⟩
    have hto := hK.t.ok t (List.mem_of_getElem? ht)
    have hsy := tsy_lt hto
    obtain ⟨tb, toff, tcap, hv9, hrd⟩ := hK.t.rs.elem hjl (by decide)
    injection hv9 with q1 q2 q3
    subst q1 q3
    clear q2
    rw [flt_at TkV_len ht] at hrd
    refine OW_EV (EV_indexAddr (j := j) rfl rfl rfl hjl) rfl ?_
    (repeat' first|refine kW ?_|refine kU fun bk=>?_|refine kV fun hc=>?_|refine kZ (fun hc=>?_) fun hc=>?_|fail)
    refine OW_EV (EV_loadAgg rfl (rd_there (rd_there (rd_there hrd))) rfl) rfl ?_
    unfold TkV
    (repeat' first|refine kW ?_|refine kU fun bk=>?_|refine kV fun hc=>?_|refine kZ (fun hc=>?_) fun hc=>?_|fail)
    refine OW_callP rfl rfl rfl (tsym_n t _ hto) rfl ?_
    have hcw := fun B1 B2 => cwrite_n v1 v2 l (tsy t) p A D E (B1 :: B2 :: L) ((hK.a.sub sub_there).sub sub_there) (by have := hK.ll; omega) h (by omega)
    (repeat' first|refine kW ?_|refine kU fun bk=>?_|refine kV fun hc=>?_|refine kZ (fun hc=>?_) fun hc=>?_|fail)
    refine OW_call rfl rfl rfl (Gv.holds (hcw _ _) (fun w h => iH h)) rfl (fun r L' hp => ?_)
    obtain ⟨rfl, D1, E1, hw1, rfl⟩ := hp
    (repeat' first|refine kW ?_|refine kU fun bk=>?_|refine kV fun hc=>?_|refine kZ (fun hc=>?_) fun hc=>?_|fail)
    · have h0 : t.2 ≠ 0 := by omega
      have hmt : 1 ≤ t.2 ∧ t.2 ≤ 32768 ∧ 3 ≤ t.1 ∧ t.1 ≤ 258 := by rcases hto with ⟨h1, _⟩ | h1; omega; exact h1
      have h257 := hsy.2.1 h0
      have hlb := lnB_b (tsy t) hsy.1 h257
      have hol := olN_ok hmt.2.2.1 hmt.2.2.2
      have hty : tsy t = olN t.1 := by unfold tsy; rw [if_neg h0]
      rw [← hty] at hol
      have hs1 := hK.a.ok.at (tsy t)
      have hs2 : (sc l (tsy t)).2 ≤ 15 := hs1
      have hsl := fun L => slength_n (tsy t) L h257 (by omega)
      have hpu := fun B1 B2 => iput_n p (t.1 - (lnB (tsy t)).1) (lnB (tsy t)).2 (A ++ [sc l (tsy t)]) D1 E1 (B1 :: B2 :: L) hw1 (by omega) hol.2.2.2 (by rw [itL_app]; simp only [itL]; omega)
      have hAL2 : itL ((A ++ [sc l (tsy t)]) ++ [(t.1 - (lnB (tsy t)).1, (lnB (tsy t)).2)]) ≤ 1125890000000000 + 48 * j + 20 := by rw [itL_app, itL_app]; simp only [itL]; omega
      have hwd := fun B1 B2 D2 E2 hw2 => wdist_n (.slice (some ⟨tb, toff, none⟩) ts.length tc) v1 v2 v3 v4 size t.2 p ts l dl ((A ++ [sc l (tsy t)]) ++ [(t.1 - (lnB (tsy t)).1, (lnB (tsy t)).2)]) D2 E2 (B1 :: B2 :: L) ((hK.sub sub_there).sub sub_there) hmt.1 hmt.2.1 hw2 (by omega)
      have hitems : ((A ++ [sc l (tsy t)]) ++ [(t.1 - (lnB (tsy t)).1, (lnB (tsy t)).2)]) ++ [sc dl (odN t.2), (t.2 - baB 1 2 4 (odN t.2), exB (odN t.2) 2 4)] = a ++ tsI l dl ((ts.take (j + 1)).map tok) := by
        rw [takeSucc ht, List.map_append, tsI_app, ← List.append_assoc, hA]
        simp only [List.map_cons, List.map_nil, tsI, List.append_nil]
        rw [tkI_mt h0]
        simp only [List.append_assoc]
      rw [hitems] at hwd
      clear hitems hAL2
      unfold cdV at hwd
      generalize lnB (tsy t) = lb at hol hlb hsl hpu hwd
      refine OW_callP rfl rfl rfl (hsl _) rfl ?_
      (repeat' first|refine kW ?_|refine kU fun bk=>?_|refine kV fun hc=>?_|refine kZ (fun hc=>?_) fun hc=>?_|fail)
      rw [show (t.1 : Int) - (lb.1 : Int) = ((t.1 - lb.1 : Nat) : Int) from by omega, cvW (show t.1 - lb.1 < 4294967296 by omega)]
      refine OW_call rfl rfl rfl (Gv.holds (hpu _ _) (fun w h => iH h)) rfl (fun r L' hp => ?_)
      obtain ⟨rfl, D2, E2, hw2, rfl⟩ := hp
      have hwd := fun B1 B2 => hwd B1 B2 D2 E2 hw2
      (repeat' first|refine kW ?_|refine kU fun bk=>?_|refine kV fun hc=>?_|refine kZ (fun hc=>?_) fun hc=>?_|fail)
      refine OW_call rfl rfl rfl (Gv.holds (hwd _ _) (fun w h => iH h)) rfl (fun r L' hp => ?_)
      obtain ⟨rfl, D3, E3, hw3, rfl⟩ := hp
      (repeat' first|refine kW ?_|refine kU fun bk=>?_|refine kV fun hc=>?_|refine kZ (fun hc=>?_) fun hc=>?_|fail)
      refine WQ_round (X := Nat × Chunk × Chunk) (μ := fun x => ts.length - x.1) (x := (j, D, E)) (j + 1, D3, E3) (by simp only; omega) ⟨by simp only; omega, hw3⟩ iS (fun w h => iH h)
    · have h0 : t.2 = 0 := by omega
      have hitems : A ++ [sc l (tsy t)] = a ++ tsI l dl ((ts.take (j + 1)).map tok) := by
        rw [takeSucc ht, List.map_append, tsI_app, ← List.append_assoc, hA]
        simp only [List.map_cons, List.map_nil, tsI, List.append_nil]
        rw [tkI_lit hto h0]
      rw [hitems] at hw1
      refine WQ_round (X := Nat × Chunk × Chunk) (μ := fun x => ts.length - x.1) (x := (j, D, E)) (j + 1, D1, E1) (by simp only; omega) ⟨by simp only; omega, hw1⟩ iS (fun w h => iH h)
  · obtain rfl : j = ts.length := by omega
    rw [List.take_length] at hA
    have hcw := fun B1 => cwrite_n v1 v2 l 256 p A D E (B1 :: L) (hK.a.sub sub_there) (by have := hK.ll; omega) h (by omega)
    (repeat' first|refine kW ?_|refine kU fun bk=>?_|refine kV fun hc=>?_|refine kZ (fun hc=>?_) fun hc=>?_|fail)
    refine OW_call rfl rfl rfl (Gv.holds (hcw _) (fun w h => iH h)) rfl (fun r L' hp => ?_)
    obtain ⟨rfl, D1, E1, hw1, rfl⟩ := hp
    rw [← hA, List.append_assoc] at hw1
    (repeat' first|refine kW ?_|refine kU fun bk=>?_|refine kV fun hc=>?_|refine kZ (fun hc=>?_) fun hc=>?_|fail)
    refine kR ?_
    exact ⟨_, iC, rfl, D1, E1, hw1, rfl⟩
end Go.Proofs.YtdcehmhelfohfaaGreatDoor
namespace Go.Df
open Go.Vx Go.If Go.Hf
set_option linter.all false
def rnI [W0] (own : List Nat) : List (Nat × Nat) → List (Nat × Nat)
  | [] => []
  | r :: q => sc own r.1 :: (r.2, rpB r.1) :: rnI own q
theorem rnI_app [W0] {own : List Nat} : ∀ a b, rnI own (a ++ b) = rnI own a ++ rnI own b
  | [], b => rfl
  | x :: a, b => by simp only [List.cons_append, rnI, rnI_app a b]
def orI (o : List Nat) : List (Nat × Nat) := o.map fun n => (n, 3)
theorem orI_L : ∀ o, itL (orI o) = 3 * o.length
  | [] => rfl
  | x :: o => by
    have := orI_L o
    simp only [orI] at this
    simp only [orI, List.map_cons, itL, List.length_cons, this]; omega
def hwI [W0] (n1 n2 : Nat) (o own : List Nat) (rs : List (Nat × Nat)) : List (Nat × Nat) := [(n1 - 257, 5), (n2 - 1, 5), (o.length - 4, 4)] ++ (orI o ++ rnI own rs)
theorem rnI_le [W0] {own : List Nat} (ho : Cok own) : ∀ rs : List (Nat × Nat), itL (rnI own rs) ≤ 22 * rs.length
  | [] => Nat.le_refl _
  | r :: q => by
    have h1 := rnI_le ho q
    have h2 := ho.at r.1
    have h3 : rpB r.1 ≤ 7 := by unfold rpB; split <;> (try split) <;> (try split) <;> omega
    simp only [rnI, itL, sc, List.length_cons]
    omega
end Go.Df
namespace Go.Proofs.YtdcehmhelfohfaaGreatDoor
open Go Go.Vx Go.Hf Go.If Go.Df
variable [W0]
set_option maxRecDepth 4000
set_option linter.all false
omit [W0] in
def hdV (n1 n2 : Nat) (vo v1 v2 vr : Value) : List Value := [.int .i64 (n1 : Int), .int .i64 (n2 : Int), vo, v1, v2, vr]
structure HdR (L : List Chunk) (vo v1 v2 vr : Value) (n1 n2 : Nat) (o own : List Nat) (rs : List (Nat × Nat)) : Prop where
  ord : Rs L 1 vo o.length (ivn o)
  c : CdR L v1 v2 own
  run : Rs L 2 vr rs.length (flt TkV rs)
  b1 : 257 ≤ n1 ∧ n1 ≤ 286
  b2 : 1 ≤ n2 ∧ n2 ≤ 30
  ol : 4 ≤ o.length ∧ o.length ≤ 19
  o7 : ∀ x ∈ o, x < 8
  o19 : own.length = 19
  rn : rs.length ≤ 400
  ro : ∀ x ∈ rs, x.1 < 19 ∧ x.2 < 2 ^ rpB x.1
theorem HdR.sub {L L' : List Chunk} (hs : ∀ x ∈ L.flatten, x ∈ L'.flatten) {vo v1 v2 vr : Value} {n1 n2 : Nat} {o own : List Nat} {rs : List (Nat × Nat)} (h : HdR L vo v1 v2 vr n1 n2 o own rs) : HdR L' vo v1 v2 vr n1 n2 o own rs :=
  ⟨h.ord.sub hs, h.c.sub hs, h.run.sub hs, h.b1, h.b2, h.ol, h.o7, h.o19, h.rn, h.ro⟩
set_option maxHeartbeats 8000000 in
theorem hdwrite_n (vo v1 v2 vr : Value) (n1 n2 p : Nat) (o own : List Nat) (rs a : List (Nat × Nat)) (D E : Chunk) (L : List Chunk) (hK : HdR L vo v1 v2 vr n1 n2 o own rs) (h : WrI p a D E) (hN : itL a ≤ 1125890000000000) :
    Gv Tryz.prog 61 [.agg (hdV n1 n2 vo v1 v2 vr).toArray, .pointer (some ⟨p, 0, none⟩)].toArray (D :: E :: L) (fun r L' => r = .tuple #[] ∧ ∃ D' E', WrI p (a ++ hwI n1 n2 o own rs) D' E' ∧ L' = D' :: E' :: L) := by
  refine Gv.of_body Tryz.func61 rfl rfl ?_
  obtain ⟨oa, oc, hvo9⟩ : ∃ ta tc, vo = .slice ta o.length tc := by obtain ⟨a, c, h, _⟩ := hK.ord.room; exact ⟨a, c, h⟩
  obtain ⟨ra, rc, hvr9⟩ : ∃ ta tc, vr = .slice ta rs.length tc := by obtain ⟨a, c, h, _⟩ := hK.run.room; exact ⟨a, c, h⟩
  subst hvo9 hvr9
  have hn1 := hK.b1
  have hn2 := hK.b2
  have hol := hK.ol
  have hrn := hK.rn
  unfold hdV
  (repeat' first|refine kW ?_|refine kU fun bk=>?_|refine kV fun hc=>?_|refine kZ (fun hc=>?_) fun hc=>?_|fail)
  rw [show (n1 : Int) - 257 = ((n1 - 257 : Nat) : Int) from by omega, cvW (show n1 - 257 < 4294967296 by omega)]
  refine OW_call rfl rfl rfl (Gv.holds (iput_n p (n1 - 257) 5 a D E ([(bk, cl (hdV n1 n2 (.slice oa o.length oc) v1 v2 (.slice ra rs.length rc)) 127)] :: L) h (by decide) (by omega) (by omega)) (fun w h => iH h)) rfl (fun r L' hp => ?_)
  obtain ⟨rfl, D1, E1, hw1, rfl⟩ := hp
  unfold hdV
  (repeat' first|refine kW ?_|refine kU fun bk=>?_|refine kV fun hc=>?_|refine kZ (fun hc=>?_) fun hc=>?_|fail)
  rw [show (n2 : Int) - 1 = ((n2 - 1 : Nat) : Int) from by omega, cvW (show n2 - 1 < 4294967296 by omega)]
  refine OW_call rfl rfl rfl (iput_n p (n2 - 1) 5 _ D1 E1 _ hw1 (by decide) (by omega) (by rw [itL_app]; simp only [itL]; omega)) rfl (fun r L' hp => ?_)
  obtain ⟨rfl, D2, E2, hw2, rfl⟩ := hp
  (repeat' first|refine kW ?_|refine kU fun bk=>?_|refine kV fun hc=>?_|refine kZ (fun hc=>?_) fun hc=>?_|fail)
  rw [show (o.length : Int) - 4 = ((o.length - 4 : Nat) : Int) from by omega, cvW (show o.length - 4 < 4294967296 by omega)]
  refine OW_call rfl rfl rfl (iput_n p (o.length - 4) 4 _ D2 E2 _ hw2 (by decide) (by omega) (by rw [itL_app, itL_app]; simp only [itL]; omega)) rfl (fun r L' hp => ?_)
  obtain ⟨rfl, D3, E3, hw3, rfl⟩ := hp
  rw [show a ++ [(n1 - 257, 5)] ++ [(n2 - 1, 5)] ++ [(o.length - 4, 4)] = a ++ [(n1 - 257, 5), (n2 - 1, 5), (o.length - 4, 4)] from by simp] at hw3
  generalize hA : a ++ [(n1 - 257, 5), (n2 - 1, 5), (o.length - 4, 4)] = A at hw3
  have hAL : itL A ≤ 1125890000000014 := by rw [← hA, itL_app]; simp only [itL]; omega
  (repeat' first|refine kW ?_|refine kU fun bk=>?_|refine kV fun hc=>?_|refine kZ (fun hc=>?_) fun hc=>?_|fail)
  refine WC_loop (X := Nat × Chunk × Chunk) (fun x => [(1, .pointer (some ⟨p, 0, none⟩)), (2, .pointer (some ⟨bk, 0, none⟩)), (30, .slice oa o.length oc), (31, .int .i64 (o.length : Int)), (32, .int .i64 (x.1 : Int))])
    (fun x => x.2.1 :: x.2.2 :: [(bk, cl [.int .i64 (n1 : Int), .int .i64 (n2 : Int), .slice oa o.length oc, v1, v2, .slice ra rs.length rc] 127)] :: L)
    (fun x => x.1 ≤ o.length ∧ WrI p (A ++ orI (o.take x.1)) x.2.1 x.2.2) (fun x => o.length - x.1) (0, D3, E3) ⟨Nat.zero_le _, by simpa [orI] using hw3⟩ iS (fun w h => iH h) ?_
  clear hw1 hw2 hw3 D1 D2 D3 E1 E2 E3 h D E
  rintro ⟨j, D, E⟩ ⟨hj, h⟩
  simp only at hj h ⊢
  have hlj := orI_L (o.take j)
  rw [List.length_take, Nat.min_eq_left hj] at hlj
  (repeat' first|refine kW ?_|refine kU fun bk=>?_|refine kV fun hc=>?_|refine kZ (fun hc=>?_) fun hc=>?_|fail)
  · have hjl : j < o.length := by omega
    obtain ⟨x, hx⟩ : ∃ x, o[j]? = some x := ⟨o[j], List.getElem?_eq_getElem hjl⟩
    have hx8 := hK.o7 x (List.mem_of_getElem? hx)
    obtain ⟨b1, o1, c1, cc1, T1, f1, hv9, hf1, hv1⟩ := sl_at hK.ord.sl (ivn_get hx)
    injection hv9 with q1 q2 q3
    subst q1 q3
    clear q2
    refine OW_EV (EV_indexAddr (j := j) rfl rfl rfl hjl) rfl ?_
    (repeat' first|refine kW ?_|refine kU fun bk=>?_|refine kV fun hc=>?_|refine kZ (fun hc=>?_) fun hc=>?_|fail)
    refine OW_EV (EV_load rfl (.there (.there (.there hf1))) hv1) rfl ?_
    (repeat' first|refine kW ?_|refine kU fun bk=>?_|refine kV fun hc=>?_|refine kZ (fun hc=>?_) fun hc=>?_|fail)
    rw [cvW (show x < 4294967296 by omega)]
    refine OW_call rfl rfl rfl (iput_n p x 3 _ D E _ h (by decide) (by omega) (by rw [itL_app]; omega)) rfl (fun r L' hp => ?_)
    obtain ⟨rfl, D1, E1, hw1, rfl⟩ := hp
    have hitems : A ++ orI (o.take j) ++ [(x, 3)] = A ++ orI (o.take (j + 1)) := by rw [takeSucc hx, List.append_assoc]; simp [orI]
    rw [hitems] at hw1
    (repeat' first|refine kW ?_|refine kU fun bk=>?_|refine kV fun hc=>?_|refine kZ (fun hc=>?_) fun hc=>?_|fail)
    refine WQ_round (X := Nat × Chunk × Chunk) (μ := fun x => o.length - x.1) (x := (j, D, E)) (j + 1, D1, E1) (by simp only; omega) ⟨by simp only; omega, hw1⟩ iS (fun w h => iH h)
  obtain rfl : j = o.length := by omega
  rw [List.take_length] at h
  generalize hB : A ++ orI o = B at h
  have hBL : itL B ≤ 1125890000000100 := by rw [← hB, itL_app, orI_L]; omega
  (repeat' first|refine kW ?_|refine kU fun bk=>?_|refine kV fun hc=>?_|refine kZ (fun hc=>?_) fun hc=>?_|fail)
  refine WC_loop (X := Nat × Chunk × Chunk) (fun x => [(1, .pointer (some ⟨p, 0, none⟩)), (2, .pointer (some ⟨bk, 0, none⟩)), (42, .slice ra rs.length rc), (43, .int .i64 (rs.length : Int)), (44, .int .i64 (x.1 : Int))])
    (fun x => x.2.1 :: x.2.2 :: [(bk, cl [.int .i64 (n1 : Int), .int .i64 (n2 : Int), .slice oa o.length oc, v1, v2, .slice ra rs.length rc] 127)] :: L)
    (fun x => x.1 ≤ rs.length ∧ WrI p (B ++ rnI own (rs.take x.1)) x.2.1 x.2.2) (fun x => rs.length - x.1) (0, D, E) ⟨Nat.zero_le _, by simpa [rnI] using h⟩ iS (fun w h => iH h) ?_
  clear hj hlj h D E
  rintro ⟨j, D, E⟩ ⟨hj, h⟩
  simp only at hj h ⊢
  have hlj := rnI_le hK.c.ok (rs.take j)
  rw [List.length_take, Nat.min_eq_left hj] at hlj
  (repeat' first|refine kW ?_|refine kU fun bk=>?_|refine kV fun hc=>?_|refine kZ (fun hc=>?_) fun hc=>?_|fail)
  · have hjl : j < rs.length := by omega
    obtain ⟨x, hx⟩ : ∃ x, rs[j]? = some x := ⟨rs[j], List.getElem?_eq_getElem hjl⟩
    have hxo := hK.ro x (List.mem_of_getElem? hx)
    have hx7 : rpB x.1 ≤ 7 := by unfold rpB; split <;> (try split) <;> (try split) <;> omega
    have hx2 : x.2 < 2 ^ 7 := Nat.lt_of_lt_of_le hxo.2 (Nat.pow_le_pow_right (by decide) hx7)
    obtain ⟨tb, toff, tcap, hv9, hrd⟩ := hK.run.elem hjl (by decide)
    injection hv9 with q1 q2 q3
    subst q1 q3
    clear q2
    rw [flt_at TkV_len hx] at hrd
    refine OW_EV (EV_indexAddr (j := j) rfl rfl rfl hjl) rfl ?_
    (repeat' first|refine kW ?_|refine kU fun bk=>?_|refine kV fun hc=>?_|refine kZ (fun hc=>?_) fun hc=>?_|fail)
    refine OW_EV (EV_loadAgg rfl (rd_there (rd_there (rd_there hrd))) rfl) rfl ?_
    unfold TkV
    (repeat' first|refine kW ?_|refine kU fun bk=>?_|refine kV fun hc=>?_|refine kZ (fun hc=>?_) fun hc=>?_|fail)
    have hcw := fun B1 B2 => cwrite_n v1 v2 own x.1 p _ D E (B1 :: B2 :: L) ((hK.c.sub sub_there).sub sub_there) (by have := hK.o19; omega) h (by rw [itL_app]; omega)
    refine OW_call rfl rfl rfl (Gv.holds (hcw _ _) (fun w h => iH h)) rfl (fun r L' hp => ?_)
    obtain ⟨rfl, D1, E1, hw1, rfl⟩ := hp
    (repeat' first|refine kW ?_|refine kU fun bk=>?_|refine kV fun hc=>?_|refine kZ (fun hc=>?_) fun hc=>?_|fail)
    refine OW_callP rfl rfl rfl (srun_n x.1 _ (by omega)) rfl ?_
    have hs2 : (sc own x.1).2 ≤ 15 := hK.c.ok.at _
    have hpu := fun B1 B2 => iput_n p x.2 (rpB x.1) _ D1 E1 (B1 :: B2 :: L) hw1 (by omega) hxo.2 (by rw [itL_app, itL_app]; simp only [itL]; omega)
    have hitems : B ++ rnI own (rs.take j) ++ [sc own x.1] ++ [(x.2, rpB x.1)] = B ++ rnI own (rs.take (j + 1)) := by rw [takeSucc hx, rnI_app]; simp [rnI]
    rw [hitems] at hpu
    (repeat' first|refine kW ?_|refine kU fun bk=>?_|refine kV fun hc=>?_|refine kZ (fun hc=>?_) fun hc=>?_|fail)
    rw [cvW (show x.2 < 4294967296 by omega)]
    refine OW_call rfl rfl rfl (Gv.holds (hpu _ _) (fun w h => iH h)) rfl (fun r L' hp => ?_)
    obtain ⟨rfl, D2, E2, hw2, rfl⟩ := hp
    (repeat' first|refine kW ?_|refine kU fun bk=>?_|refine kV fun hc=>?_|refine kZ (fun hc=>?_) fun hc=>?_|fail)
    refine WQ_round (X := Nat × Chunk × Chunk) (μ := fun x => rs.length - x.1) (x := (j, D, E)) (j + 1, D2, E2) (by simp only; omega) ⟨by simp only; omega, hw2⟩ iS (fun w h => iH h)
  · obtain rfl : j = rs.length := by omega
    rw [List.take_length, ← hB, ← hA] at h
    refine kR ?_
    exact ⟨_, iC, rfl, D, E, by unfold hwI; simpa [List.append_assoc] using h, rfl⟩
end Go.Proofs.YtdcehmhelfohfaaGreatDoor
namespace Go.Df
open Go.Vx Go.If Go.Hf
set_option linter.all false
inductive Blk
  | st (t : List UInt8)
  | fx (ts : List (Nat × Nat))
  | dn (ts : List (Nat × Nat)) (l dl : List Nat) (n1 n2 : Nat) (o own : List Nat) (rs : List (Nat × Nat))
def raI (b : List UInt8) : List (Nat × Nat) := b.map fun c => (c.toNat, 8)
theorem raI_L : ∀ b, itL (raI b) = 8 * b.length
  | [] => rfl
  | x :: b => by
    have := raI_L b
    simp only [raI] at this
    simp only [raI, List.map_cons, itL, List.length_cons, this]; omega
theorem raI_V : ∀ b, itV (raI b) = val b
  | [] => rfl
  | x :: b => by
    have := raI_V b
    simp only [raI] at this
    simp only [raI, List.map_cons, itV, this, val]
theorem hwI_le [W0] {own o : List Nat} (ho : Cok own) (hl : o.length ≤ 19) (rs : List (Nat × Nat)) (n1 n2 : Nat) : itL (hwI n1 n2 o own rs) ≤ 100 + 22 * rs.length := by
  have := rnI_le ho rs
  unfold hwI
  rw [itL_app, itL_app, orI_L]
  simp only [itL]
  omega
def blI [W0] (n : Nat) : Blk → List (Nat × Nat)
  | .st t => [(0, 2), (0, 8 * ((n + 2 + 7) / 8) - (n + 2)), (t.length, 16), (65535 - t.length, 16)] ++ raI t
  | .fx ts => (1, 2) :: (tsI fxL fxD (ts.map tok) ++ [sc fxL 256])
  | .dn ts l dl n1 n2 o own rs => (2, 2) :: (hwI n1 n2 o own rs ++ (tsI l dl (ts.map tok) ++ [sc l 256]))
end Go.Df
namespace Go.Vx
variable [W0] {P : Program} {n : Nat} {M : List (Nat × Value)} {L : List Chunk} {d : Nat} {ty : TypeId} {ps : String} {af : Array Edge} {g : Option (Nat × Bool)} {x y : Operand}
theorem EV_nnot {t : TypeId} {m : Nat} (hx : ev M x = some (.int .u32 (m : Int))) (hm : m < 4294967296) :
    EV P n ⟨some d, .unOp .xor t x, ty, ps, af, g⟩ M L d (.int .u32 ((4294967295 - m : Nat) : Int)) := by
  have := EV_wnot (P := P) (n := n) (L := L) (d := d) (ty := ty) (ps := ps) (af := af) (g := g) (t := t) hx (ha' := (⟨by rw [BitVec.ofInt_natCast]⟩ : WI (m : Int) (BitVec.ofNat 32 m)))
  rw [BitVec.toNat_not, BitVec.toNat_ofNat, Nat.mod_eq_of_lt (show m < 2 ^ 32 by omega)] at this
  exact this
end Go.Vx
namespace Go.Proofs.YtdcehmhelfohfaaGreatDoor
open Go Go.Vx Go.Hf Go.If Go.Df
variable [W0]
set_option maxRecDepth 4000
set_option linter.all false
def BlkR (L : List Chunk) (v : Value) : Blk → Prop
  | .st t => ∃ vt, v = .iface 121 (.agg #[vt]) ∧ Rs L 1 vt t.length (bsv t) ∧ t.length ≤ 65535
  | .fx ts => ∃ vt v1 v2 v3 v4, v = .iface 91 (.agg (cdV vt v1 v2 v3 v4 (itL (coI fxL fxD ts))).toArray) ∧ CoR L vt v1 v2 v3 v4 ts fxL fxD
  | .dn ts l dl n1 n2 o own rs => ∃ vt v1 v2 v3 v4 vo v5 v6 vr, v = .iface 129 (.agg (cdV vt v1 v2 v3 v4 (itL (coI l dl ts)) ++ hdV n1 n2 vo v5 v6 vr).toArray) ∧ CoR L vt v1 v2 v3 v4 ts l dl ∧ HdR L vo v5 v6 vr n1 n2 o own rs
theorem BlkR.sub {L L' : List Chunk} (hs : ∀ x ∈ L.flatten, x ∈ L'.flatten) {v : Value} {B : Blk} (h : BlkR L v B) : BlkR L' v B := by
  cases B with
  | st t => obtain ⟨vt, h1, h2, h3⟩ := h; exact ⟨vt, h1, h2.sub hs, h3⟩
  | fx ts => obtain ⟨vt, v1, v2, v3, v4, h1, h2⟩ := h; exact ⟨vt, v1, v2, v3, v4, h1, h2.sub hs⟩
  | dn ts l dl n1 n2 o own rs => obtain ⟨vt, v1, v2, v3, v4, vo, v5, v6, vr, h1, h2, h3⟩ := h; exact ⟨vt, v1, v2, v3, v4, vo, v5, v6, vr, h1, h2.sub hs, h3.sub hs⟩
set_option maxHeartbeats 4000000 in
theorem swrite_n (vt : Value) (t : List UInt8) (p : Nat) (a : List (Nat × Nat)) (D E : Chunk) (L : List Chunk) (hK : Rs L 1 vt t.length (bsv t)) (ht : t.length ≤ 65535) (h : WrI p a D E) (hN : itL a ≤ 1125890000000000) :
    Gv Tryz.prog 59 [.agg #[vt], .pointer (some ⟨p, 0, none⟩)].toArray (D :: E :: L) (fun r L' => r = .tuple #[] ∧ ∃ D' E', WrI p (a ++ ([(0, 8 * ((itL a + 7) / 8) - itL a), (t.length, 16), (65535 - t.length, 16)] ++ raI t)) D' E' ∧ L' = D' :: E' :: L) := by
  refine Gv.of_body (args := [.agg #[vt], .pointer (some ⟨p, 0, none⟩)]) Tryz.func59 rfl rfl ?_
  obtain ⟨ta, tc, hvt9⟩ : ∃ ta tc, vt = .slice ta t.length tc := by obtain ⟨a, c, h, _⟩ := hK.room; exact ⟨a, c, h⟩
  subst hvt9
  have hal := fun B => walign_n p (itV a) (itL a) D E (B :: L) h (by omega)
  (repeat' first|refine kW ?_|refine kU fun bk=>?_|refine kV fun hc=>?_|refine kZ (fun hc=>?_) fun hc=>?_|fail)
  refine OW_call rfl rfl rfl (Gv.holds (hal _) (fun w h => iH h)) rfl (fun r L' hp => ?_)
  obtain ⟨rfl, D1, E1, hw1, rfl⟩ := hp
  have hA1 : WrI p (a ++ [(0, 8 * ((itL a + 7) / 8) - itL a)]) D1 E1 := by
    refine WrI.add ?_
    rw [Nat.mul_zero, Nat.add_zero, show itL a + (8 * ((itL a + 7) / 8) - itL a) = 8 * ((itL a + 7) / 8) from by omega]
    exact hw1
  have hL1 : itL (a ++ [(0, 8 * ((itL a + 7) / 8) - itL a)]) = 8 * ((itL a + 7) / 8) := by rw [itL_app]; simp only [itL]; omega
  (repeat' first|refine kW ?_|refine kU fun bk=>?_|refine kV fun hc=>?_|refine kZ (fun hc=>?_) fun hc=>?_|fail)
  rw [cvW (show t.length < 4294967296 by omega)]
  have hpu := fun B => iput_n p t.length 16 _ D1 E1 (B :: L) hA1 (by decide) (by omega) (by rw [hL1]; omega)
  refine OW_call rfl rfl rfl (Gv.holds (hpu _) (fun w h => iH h)) rfl (fun r L' hp => ?_)
  obtain ⟨rfl, D2, E2, hw2, rfl⟩ := hp
  have hL2 : itL (a ++ [(0, 8 * ((itL a + 7) / 8) - itL a)] ++ [(t.length, 16)]) = 8 * ((itL a + 7) / 8) + 16 := by rw [itL_app, hL1]; simp only [itL]
  (repeat' first|refine kW ?_|refine kU fun bk=>?_|refine kV fun hc=>?_|refine kZ (fun hc=>?_) fun hc=>?_|fail)
  refine OW_EV (EV_nnot rfl (by omega)) rfl ?_
  (repeat' first|refine kW ?_|refine kU fun bk=>?_|refine kV fun hc=>?_|refine kZ (fun hc=>?_) fun hc=>?_|fail)
  have hpv := fun B => put_n p _ _ (4294967295 - t.length) ((16 : Nat) : Int) D2 E2 (B :: L) hw2 (by omega) (by rw [hL2]; omega)
  refine OW_call rfl rfl rfl (Gv.holds (hpv _) (fun w h => iH h)) rfl (fun r L' hp => ?_)
  obtain ⟨rfl, D3, E3, hw3, rfl⟩ := hp
  rw [clp_nat (by decide), show (4294967295 - t.length) % 2 ^ 16 = 65535 - t.length from by omega] at hw3
  have hw3 := WrI.add hw3
  have hL3 : itL (a ++ [(0, 8 * ((itL a + 7) / 8) - itL a)] ++ [(t.length, 16)] ++ [(65535 - t.length, 16)]) = 8 * ((itL a + 7) / 8 + 4) := by rw [itL_app, hL2]; simp only [itL]; omega
  (repeat' first|refine kW ?_|refine kU fun bk=>?_|refine kV fun hc=>?_|refine kZ (fun hc=>?_) fun hc=>?_|fail)
  have hra := fun B => raw_n p _ _ t (.slice ta t.length tc) D3 E3 (B :: L) hw3 (by rw [hL3]; omega) (sl_there hK.sl) (by rw [hL3]; omega)
  refine OW_call rfl rfl rfl (Gv.holds (hra _) (fun w h => iH h)) rfl (fun r L' hp => ?_)
  obtain ⟨rfl, D4, E4, hw4, rfl⟩ := hp
  rw [hL3, show (8 * ((itL a + 7) / 8 + 4) + 7) / 8 = (itL a + 7) / 8 + 4 from by omega] at hw4
  (repeat' first|refine kW ?_|refine kU fun bk=>?_|refine kV fun hc=>?_|refine kZ (fun hc=>?_) fun hc=>?_|fail)
  refine kR ?_
  refine ⟨_, iC, rfl, D4, E4, ?_, rfl⟩
  have e1 : a ++ ([(0, 8 * ((itL a + 7) / 8) - itL a), (t.length, 16), (65535 - t.length, 16)] ++ raI t) = (a ++ [(0, 8 * ((itL a + 7) / 8) - itL a)] ++ [(t.length, 16)] ++ [(65535 - t.length, 16)]) ++ raI t := by simp
  rw [e1]
  generalize a ++ [(0, 8 * ((itL a + 7) / 8) - itL a)] ++ [(t.length, 16)] ++ [(65535 - t.length, 16)] = A at hw4 hL3 ⊢
  unfold WrI
  rw [itV_app, itL_app, raI_V, raI_L, hL3]
  exact WrD.cast hw4 (by omega)
set_option maxHeartbeats 8000000 in
theorem bwrite_n (v : Value) (B : Blk) (p : Nat) (a : List (Nat × Nat)) (D E : Chunk) (L : List Chunk) (hK : BlkR L v B) (h : WrI p a D E) (hN : itL a ≤ 1125880000000000) :
    Gv Tryz.prog 33 [v, .pointer (some ⟨p, 0, none⟩)].toArray (D :: E :: L) (fun r L' => r = .tuple #[] ∧ ∃ D' E', WrI p (a ++ blI (itL a) B) D' E' ∧ L' = D' :: E' :: L) := by
  cases B with
  | st t =>
    obtain ⟨vt, rfl, hrs, ht⟩ := hK
    obtain ⟨ta, tc, rfl, _⟩ := hrs.room
    refine Gv.of_body (args := [.iface 121 (.agg #[.slice ta t.length tc]), .pointer (some ⟨p, 0, none⟩)]) Tryz.func33 rfl rfl ?_
    (repeat' first|refine kW ?_|refine kU fun bk=>?_|refine kV fun hc=>?_|refine kZ (fun hc=>?_) fun hc=>?_|fail)
    refine OW_call rfl rfl rfl (Gv.holds (iput_n p 0 2 a D E ([(bk, cl [.slice ta t.length tc] 121)] :: L) h (by decide) (by decide) (by omega)) (fun w h => iH h)) rfl (fun r L' hp => ?_)
    obtain ⟨rfl, D1, E1, hw1, rfl⟩ := hp
    have hL1 : itL (a ++ [(0, 2)]) = itL a + 2 := by rw [itL_app]; rfl
    have hsw := swrite_n (.slice ta t.length tc) t p _ D1 E1 ([(bk, cl [.slice ta t.length tc] 121)] :: L) hrs.there ht hw1 (by rw [hL1]; omega)
    rw [hL1] at hsw
    (repeat' first|refine kW ?_|refine kU fun bk=>?_|refine kV fun hc=>?_|refine kZ (fun hc=>?_) fun hc=>?_|fail)
    refine OW_call rfl rfl rfl (Gv.holds hsw (fun w h => iH h)) rfl (fun r L' hp => ?_)
    obtain ⟨rfl, D2, E2, hw2, rfl⟩ := hp
    (repeat' first|refine kW ?_|refine kU fun bk=>?_|refine kV fun hc=>?_|refine kZ (fun hc=>?_) fun hc=>?_|fail)
    refine kR ?_
    refine ⟨_, iC, rfl, D2, E2, ?_, rfl⟩
    simpa [blI] using hw2
  | fx ts =>
    obtain ⟨vt, v1, v2, v3, v4, rfl, hco⟩ := hK
    generalize itL (coI fxL fxD ts) = size
    obtain ⟨ta, tc, rfl, _⟩ := hco.t.rs.room
    obtain ⟨a1, c1, rfl, _⟩ := hco.a.l.room
    obtain ⟨a2, c2, rfl, _⟩ := hco.a.c.room
    obtain ⟨a3, c3, rfl, _⟩ := hco.b.l.room
    obtain ⟨a4, c4, rfl, _⟩ := hco.b.c.room
    unfold cdV
    refine Gv.of_body (args := [.iface 91 (.agg #[.slice ta ts.length tc, .slice a1 fxL.length c1, .slice a2 fxL.length c2, .slice a3 fxD.length c3, .slice a4 fxD.length c4, .int .i64 (size : Int)]), .pointer (some ⟨p, 0, none⟩)]) Tryz.func33 rfl rfl ?_
    (repeat' first|refine kW ?_|refine kU fun bk=>?_|refine kV fun hc=>?_|refine kZ (fun hc=>?_) fun hc=>?_|fail)
    have hpu := fun B1 B2 => iput_n p 1 2 a D E (B1 :: B2 :: L) h (by decide) (by decide) (by omega)
    refine OW_call rfl rfl rfl (Gv.holds (hpu _ _) (fun w h => iH h)) rfl (fun r L' hp => ?_)
    obtain ⟨rfl, D1, E1, hw1, rfl⟩ := hp
    have hL1 : itL (a ++ [(1, 2)]) = itL a + 2 := by rw [itL_app]; rfl
    have hsw := fun B1 B2 => cowrite_n (.slice ta ts.length tc) (.slice a1 fxL.length c1) (.slice a2 fxL.length c2) (.slice a3 fxD.length c3) (.slice a4 fxD.length c4) size p ts fxL fxD _ D1 E1 (B1 :: B2 :: L) ((hco.sub sub_there).sub sub_there) hw1 (by rw [hL1]; omega)
    unfold cdV at hsw
    (repeat' first|refine kW ?_|refine kU fun bk=>?_|refine kV fun hc=>?_|refine kZ (fun hc=>?_) fun hc=>?_|fail)
    refine OW_call rfl rfl rfl (Gv.holds (hsw _ _) (fun w h => iH h)) rfl (fun r L' hp => ?_)
    obtain ⟨rfl, D2, E2, hw2, rfl⟩ := hp
    (repeat' first|refine kW ?_|refine kU fun bk=>?_|refine kV fun hc=>?_|refine kZ (fun hc=>?_) fun hc=>?_|fail)
    refine kR ?_
    refine ⟨_, iC, rfl, D2, E2, ?_, rfl⟩
    simpa [blI, coI] using hw2
  | dn ts l dl n1 n2 o own rs =>
    obtain ⟨vt, v1, v2, v3, v4, vo, v5, v6, vr, rfl, hco, hhd⟩ := hK
    have hcl := hwI_le hhd.c.ok hhd.ol.2 rs n1 n2
    have hrn := hhd.rn
    generalize itL (coI l dl ts) = size
    obtain ⟨ta, tc, rfl, _⟩ := hco.t.rs.room
    obtain ⟨a1, c1, rfl, _⟩ := hco.a.l.room
    obtain ⟨a2, c2, rfl, _⟩ := hco.a.c.room
    obtain ⟨a3, c3, rfl, _⟩ := hco.b.l.room
    obtain ⟨a4, c4, rfl, _⟩ := hco.b.c.room
    obtain ⟨ao, co, rfl, _⟩ := hhd.ord.room
    obtain ⟨a5, c5, rfl, _⟩ := hhd.c.l.room
    obtain ⟨a6, c6, rfl, _⟩ := hhd.c.c.room
    obtain ⟨ar, cr, rfl, _⟩ := hhd.run.room
    unfold cdV hdV
    refine Gv.of_body (args := [.iface 129 (.agg #[.slice ta ts.length tc, .slice a1 l.length c1, .slice a2 l.length c2, .slice a3 dl.length c3, .slice a4 dl.length c4, .int .i64 (size : Int), .int .i64 (n1 : Int), .int .i64 (n2 : Int), .slice ao o.length co, .slice a5 own.length c5, .slice a6 own.length c6, .slice ar rs.length cr]), .pointer (some ⟨p, 0, none⟩)]) Tryz.func33 rfl rfl ?_
    (repeat' first|refine kW ?_|refine kU fun bk=>?_|refine kV fun hc=>?_|refine kZ (fun hc=>?_) fun hc=>?_|fail)
    have hpu := fun B1 B2 B3 => iput_n p 2 2 a D E (B1 :: B2 :: B3 :: L) h (by decide) (by decide) (by omega)
    refine OW_call rfl rfl rfl (Gv.holds (hpu _ _ _) (fun w h => iH h)) rfl (fun r L' hp => ?_)
    obtain ⟨rfl, D1, E1, hw1, rfl⟩ := hp
    have hL1 : itL (a ++ [(2, 2)]) = itL a + 2 := by rw [itL_app]; rfl
    have hhw := fun B1 B2 B3 => hdwrite_n (.slice ao o.length co) (.slice a5 own.length c5) (.slice a6 own.length c6) (.slice ar rs.length cr) n1 n2 p o own rs _ D1 E1 (B1 :: B2 :: B3 :: L) (((hhd.sub sub_there).sub sub_there).sub sub_there) hw1 (by rw [hL1]; omega)
    unfold hdV at hhw
    (repeat' first|refine kW ?_|refine kU fun bk=>?_|refine kV fun hc=>?_|refine kZ (fun hc=>?_) fun hc=>?_|fail)
    refine OW_call rfl rfl rfl (Gv.holds (hhw _ _ _) (fun w h => iH h)) rfl (fun r L' hp => ?_)
    obtain ⟨rfl, D2, E2, hw2, rfl⟩ := hp
    have hsw := fun B1 B2 B3 => cowrite_n (.slice ta ts.length tc) (.slice a1 l.length c1) (.slice a2 l.length c2) (.slice a3 dl.length c3) (.slice a4 dl.length c4) size p ts l dl _ D2 E2 (B1 :: B2 :: B3 :: L) (((hco.sub sub_there).sub sub_there).sub sub_there) hw2 (by rw [itL_app, hL1]; omega)
    unfold cdV at hsw
    (repeat' first|refine kW ?_|refine kU fun bk=>?_|refine kV fun hc=>?_|refine kZ (fun hc=>?_) fun hc=>?_|fail)
    refine OW_call rfl rfl rfl (Gv.holds (hsw _ _ _) (fun w h => iH h)) rfl (fun r L' hp => ?_)
    obtain ⟨rfl, D3, E3, hw3, rfl⟩ := hp
    (repeat' first|refine kW ?_|refine kU fun bk=>?_|refine kV fun hc=>?_|refine kZ (fun hc=>?_) fun hc=>?_|fail)
    refine kR ?_
    refine ⟨_, iC, rfl, D3, E3, ?_, rfl⟩
    simpa [blI, coI] using hw3
end Go.Proofs.YtdcehmhelfohfaaGreatDoor
namespace Go.Df
open Go.Vx Go.If Go.Hf
set_option linter.all false
def bsI [W0] (a : List (Nat × Nat)) : List Blk → List (Nat × Nat)
  | [] => a
  | B :: r => bsI ((a ++ [(0, 1)]) ++ blI (itL a + 1) B) r
theorem bsI_app [W0] (B : Blk) : ∀ (x : List Blk) (a : List (Nat × Nat)), bsI a (x ++ [B]) = (bsI a x ++ [(0, 1)]) ++ blI (itL (bsI a x) + 1) B
  | [], a => rfl
  | C :: x, a => by rw [List.cons_append, bsI, bsI, bsI_app B x]
def wrI [W0] (x : List Blk) (q : Blk) : List (Nat × Nat) := (bsI [] x ++ [(1, 1)]) ++ blI (itL (bsI [] x) + 1) q
end Go.Df
namespace Go.Proofs.YtdcehmhelfohfaaGreatDoor
open Go Go.Vx Go.Hf Go.If Go.Df
variable [W0]
set_option maxRecDepth 4000
set_option linter.all false
theorem BlkR.le {L : List Chunk} {v : Value} {B : Blk} (h : BlkR L v B) (n : Nat) : itL (blI n B) ≤ 10000000 := by
  cases B with
  | st t =>
    obtain ⟨vt, _, _, h3⟩ := h
    simp only [blI]
    rw [itL_app, raI_L]
    simp only [itL]
    omega
  | fx ts =>
    obtain ⟨vt, v1, v2, v3, v4, _, hc⟩ := h
    have h1 := tsI_le hc.a.ok hc.b.ok hc.t.ok
    have h2 : (sc fxL 256).2 ≤ 15 := hc.a.ok.at 256
    have h3 := hc.nt
    simp only [blI, itL]
    rw [itL_app]
    simp only [itL]
    omega
  | dn ts l dl n1 n2 o own rs =>
    obtain ⟨vt, v1, v2, v3, v4, vo, v5, v6, vr, _, hc, hh⟩ := h
    have h1 := tsI_le hc.a.ok hc.b.ok hc.t.ok
    have h2 : (sc l 256).2 ≤ 15 := hc.a.ok.at 256
    have h3 := hc.nt
    have h4 := hwI_le hh.c.ok hh.ol.2 rs n1 n2
    have h5 := hh.rn
    simp only [blI, itL]
    rw [itL_app, itL_app]
    simp only [itL]
    omega
structure BlsR (L : List Chunk) (v : Value) (bs : List Blk) : Prop where
  ex : ∃ vs : List Value, Rs L 1 v bs.length vs ∧ ones vs = true ∧ ∀ (i : Nat) (B : Blk), bs[i]? = some B → ∃ u, vs[i]? = some u ∧ BlkR L u B
theorem BlsR.sub {L L' : List Chunk} (hs : ∀ x ∈ L.flatten, x ∈ L'.flatten) {v : Value} {bs : List Blk} (h : BlsR L v bs) : BlsR L' v bs := by
  obtain ⟨vs, h1, h2, h3⟩ := h.ex
  exact ⟨vs, h1.sub hs, h2, fun i B hi => by obtain ⟨u, h4, h5⟩ := h3 i B hi; exact ⟨u, h4, h5.sub hs⟩⟩
theorem bsI_le {L : List Chunk} {v : Value} {bs : List Blk} (h : BlsR L v bs) (j : Nat) (hj : j ≤ bs.length) : itL (bsI [] (bs.take j)) ≤ 10000001 * j := by
  obtain ⟨vs, _, _, h3⟩ := h.ex
  induction j with
  | zero => simp [bsI, itL]
  | succ j ih =>
    have hjl : j < bs.length := hj
    obtain ⟨B, hB⟩ : ∃ B, bs[j]? = some B := ⟨bs[j], List.getElem?_eq_getElem hjl⟩
    obtain ⟨u, _, hu⟩ := h3 j B hB
    have h4 := hu.le (itL (bsI [] (bs.take j)) + 1)
    have h5 := ih (by omega)
    rw [takeSucc hB, bsI_app, itL_app, itL_app]
    simp only [itL]
    omega
set_option maxHeartbeats 8000000 in
theorem written_n (v : Value) (bs : List Blk) (q : Blk) (L : List Chunk) (hK : BlsR L v (bs ++ [q])) (hn : bs.length ≤ 1000) :
    Gv Tryz.prog 14 [v].toArray L (fun r L' => ∃ C, Ow 5 1 r ((itL (wrI bs q) + 7) / 8) (bsv (leB (itV (wrI bs q)) ((itL (wrI bs q) + 7) / 8))) C ∧ L' = C :: L) := by
  refine Gv.of_body (args := [v]) Tryz.func14 rfl rfl ?_
  obtain ⟨vs, hrs, hon, hbl⟩ := hK.ex
  rw [List.length_append, List.length_singleton] at hrs
  obtain ⟨r, hr, hev⟩ := EV_sliceRs (P := Tryz.prog) (T := 39) hrs (l := 0) (h := bs.length) (by omega) (by omega)
  obtain ⟨va, vc, rfl, _⟩ := hrs.room
  rw [Nat.zero_mul, List.drop_zero, Nat.sub_zero, Nat.mul_one] at hr
  obtain ⟨ra, rc, rfl, _⟩ := hr.room
  (repeat' first|refine kW ?_|refine kU fun bk=>?_|refine kV fun hc=>?_|refine kZ (fun hc=>?_) fun hc=>?_|fail)
  rw [show ((bs.length + 1 : Nat) : Int) - 1 = (bs.length : Int) from by omega]
  refine OW_EV (hev rfl rfl rfl) rfl ?_
  have hall : ∀ j, j ≤ bs.length → itL (bsI [] (bs.take j)) ≤ 10000001 * j := fun j hj => by
    have := bsI_le hK j (by simp; omega)
    rwa [List.take_append_of_le_length hj] at this
  (repeat' first|refine kW ?_|refine kU fun bk=>?_|refine kV fun hc=>?_|refine kZ (fun hc=>?_) fun hc=>?_|fail)
  refine WC_loop (X := Nat × Chunk × Chunk) (fun x => [(0, .slice va (bs.length + 1) vc), (3, .pointer (some ⟨bk, 0, none⟩)), (12, .slice ra (bs.length - 0) rc), (13, .int .i64 ((bs.length - 0 : Nat) : Int)), (14, .int .i64 (x.1 : Int))]) (fun x => x.2.1 :: x.2.2 :: L)
    (fun x => x.1 ≤ bs.length ∧ WrI bk (bsI [] (bs.take x.1)) x.2.1 x.2.2) (fun x => bs.length - x.1) (0, _, []) ⟨Nat.zero_le _, WrI.new bk⟩ iS (fun w h => Holds.gap.2 h) ?_
  rintro ⟨j, D, E⟩ ⟨hj, h⟩
  simp only at hj h ⊢
  have hlj := hall j hj
  (repeat' first|refine kW ?_|refine kU fun bk=>?_|refine kV fun hc=>?_|refine kZ (fun hc=>?_) fun hc=>?_|fail)
  · have hjl : j < bs.length := by omega
    obtain ⟨B, hB⟩ : ∃ B, bs[j]? = some B := ⟨bs[j], List.getElem?_eq_getElem hjl⟩
    obtain ⟨u, hu, hbu⟩ := hbl j B (by rw [List.getElem?_append_left hjl]; exact hB)
    obtain ⟨b1, o1, c1, cc1, T1, f1, hv9, hf1, hv1⟩ := sl_at hr.sl (k := j) (u := u) (by rw [List.getElem?_take, if_pos (by omega)]; exact hu)
    injection hv9 with q1 q2 q3
    subst q1 q3
    clear q2
    refine OW_EV (EV_indexAddr (j := j) rfl rfl rfl (by omega)) rfl ?_
    (repeat' first|refine kW ?_|refine kU fun bk=>?_|refine kV fun hc=>?_|refine kZ (fun hc=>?_) fun hc=>?_|fail)
    refine OW_EV (EV_load rfl (.there (.there hf1)) hv1) rfl ?_
    (repeat' first|refine kW ?_|refine kU fun bk=>?_|refine kV fun hc=>?_|refine kZ (fun hc=>?_) fun hc=>?_|fail)
    refine OW_call rfl rfl rfl (iput_n bk 0 1 _ D E L h (by decide) (by decide) (by omega)) rfl (fun r L' hp => ?_)
    obtain ⟨rfl, D1, E1, hw1, rfl⟩ := hp
    have hL1 : itL (bsI [] (bs.take j) ++ [(0, 1)]) = itL (bsI [] (bs.take j)) + 1 := by rw [itL_app]; rfl
    have hbw := bwrite_n u B bk _ D1 E1 L hbu hw1 (by rw [hL1]; omega)
    rw [hL1, ← bsI_app, ← takeSucc hB] at hbw
    (repeat' first|refine kW ?_|refine kU fun bk=>?_|refine kV fun hc=>?_|refine kZ (fun hc=>?_) fun hc=>?_|fail)
    refine OW_call rfl rfl rfl hbw rfl (fun r L' hp => ?_)
    obtain ⟨rfl, D2, E2, hw2, rfl⟩ := hp
    (repeat' first|refine kW ?_|refine kU fun bk=>?_|refine kV fun hc=>?_|refine kZ (fun hc=>?_) fun hc=>?_|fail)
    refine WQ_round (X := Nat × Chunk × Chunk) (μ := fun x => bs.length - x.1) (x := (j, D, E)) (j + 1, D2, E2) (by simp only; omega) ⟨by simp only; omega, hw2⟩ iS (fun w h => iH h)
  · obtain rfl : j = bs.length := by omega
    rw [List.take_length] at h hlj
    obtain ⟨u, hu, hbu⟩ := hbl bs.length q (by simp)
    obtain ⟨b1, o1, c1, cc1, T1, f1, hv9, hf1, hv1⟩ := sl_at hrs.sl hu
    injection hv9 with q1 q2 q3
    subst q1 q3
    clear q2
    refine OW_call rfl rfl rfl (iput_n bk 1 1 _ D E L h (by decide) (by decide) (by omega)) rfl (fun r L' hp => ?_)
    obtain ⟨rfl, D1, E1, hw1, rfl⟩ := hp
    have hL1 : itL (bsI [] bs ++ [(1, 1)]) = itL (bsI [] bs) + 1 := by rw [itL_app]; rfl
    have hle := hbu.le (itL (bsI [] bs) + 1)
    have hbw := bwrite_n u q bk _ D1 E1 L hbu hw1 (by rw [hL1]; omega)
    rw [hL1] at hbw
    have hwI : itL (wrI bs q) ≤ 1125880000000000 := by unfold wrI; rw [itL_app, hL1]; omega
    (repeat' first|refine kW ?_|refine kU fun bk=>?_|refine kV fun hc=>?_|refine kZ (fun hc=>?_) fun hc=>?_|fail)
    rw [show ((bs.length + 1 : Nat) : Int) - 1 = (bs.length : Int) from by omega]
    refine OW_EV (EV_indexAddr (j := bs.length) rfl rfl rfl (by omega)) rfl ?_
    (repeat' first|refine kW ?_|refine kU fun bk=>?_|refine kV fun hc=>?_|refine kZ (fun hc=>?_) fun hc=>?_|fail)
    refine OW_EV (EV_load rfl (.there (.there hf1)) hv1) rfl ?_
    (repeat' first|refine kW ?_|refine kU fun bk=>?_|refine kV fun hc=>?_|refine kZ (fun hc=>?_) fun hc=>?_|fail)
    refine OW_call rfl rfl rfl hbw rfl (fun r L' hp => ?_)
    obtain ⟨rfl, D2, E2, hw2, rfl⟩ := hp
    (repeat' first|refine kW ?_|refine kU fun bk=>?_|refine kV fun hc=>?_|refine kZ (fun hc=>?_) fun hc=>?_|fail)
    refine OW_call rfl rfl rfl (wbytes_n bk _ _ D2 E2 L hw2 (by show itL (wrI bs q) ≤ _; omega)) rfl (fun r L' hp => ?_)
    obtain ⟨C, rfl, ho⟩ := hp
    (repeat' first|refine kW ?_|refine kU fun bk=>?_|refine kV fun hc=>?_|refine kZ (fun hc=>?_) fun hc=>?_|fail)
    refine kR ?_
    exact ⟨_, iC, C, ho, rfl⟩
end Go.Proofs.YtdcehmhelfohfaaGreatDoor
namespace Go.Proofs.YtdcehmhelfohfaaGreatDoor
open Go Go.Vx Go.ChangeShapes Go.WideShapes Go.ChangeAt Go.RowKit
set_option maxRecDepth 4000
set_option linter.all false
def blks (W : World) : Chunk := W.heap.toList.zipIdx.map fun x => (x.2, x.1)
theorem blks_mem {W : World} {b : Nat} {o : Obj} : (b, o) ∈ blks W ↔ W.heap[b]? = some o := by
  unfold blks
  rw [List.mem_map]
  constructor
  · rintro ⟨⟨x, i⟩, hm, he⟩
    simp at he
    obtain ⟨rfl, rfl⟩ := he
    have := List.mk_mem_zipIdx_iff_getElem?.1 hm
    simpa using this
  · intro h
    exact ⟨(o, b), List.mk_mem_zipIdx_iff_getElem?.2 (by simpa using h), rfl⟩
theorem blks_keys (W : World) : ((blks W).map Prod.fst).Nodup := by
  have : (blks W).map Prod.fst = List.range' 0 W.heap.toList.length := by
    unfold blks
    rw [List.map_map]
    exact List.zipIdx_map_snd 0 _
  rw [this]
  exact List.nodup_range'
structure Kept (W W' : World) : Prop where
  os : W'.os = W.os
  output : W'.output = W.output
  block : ∀ k, k < W.heap.size → W'.heap[k]? = W.heap[k]?
theorem bridge {P : Program} {f : FuncId} {args : Array Value} {W : World} {v : Value} (h : ∀ [W0], GvP P f args [blks W] v) : Calls P f args W fun e W' => e = .returned v ∧ Kept W W' := by
  letI i : W0 := ⟨W.os, W.output⟩
  have h0 : GvP P f args [blks W] v := h
  have hH : Holds W [blks W] := ⟨by simpa using blks_keys W, fun x hx => blks_mem.1 (by simpa using hx), rfl, rfl⟩
  refine (h0.out W hH).mono fun e W' he => ?_
  obtain ⟨v', L', rfl, ⟨rfl, rfl⟩, hw⟩ := he
  refine ⟨rfl, hw.2.2.1, hw.2.2.2, fun k hk => ?_⟩
  have hm : W.heap[k]? = some W.heap[k] := by simp [hk]
  rw [hm]
  exact hw.2.1 (k, W.heap[k]) (by simpa using blks_mem.2 hm)
theorem Kept.frame {W W' : World} (h : Kept W W') (may : MemPlace → Prop) : W.keptBut W' may := by
  refine ⟨h.os, h.output, fun i hi => ?_⟩
  rw [h.block i hi]
  split <;> simp_all
theorem Kept.same {W W' : World} (h : Kept W W') {p : MemPlace} (hp : p.block < W.heap.size) : W.sameAt W' p := by
  cases p with
  | cell b o => exact World.cell?_of_block (w := W) (h.block b hp)
  | map b => exact h.block b hp
theorem Tryz.own : ownKnob Tryz.prog.godebug = none := by kernel_rfl
end Go.Proofs.YtdcehmhelfohfaaGreatDoor
namespace Go.Proofs.YtdcehmhelfohfaaGreatDoor
open Go Go.Vx
variable [W0]
set_option maxRecDepth 4000
set_option linter.all false
omit [W0] in
/-- A word turned to the left. -/
def rol (w : BitVec 32) (s : Nat) : BitVec 32 := w <<< s ||| w >>> (32 - s)
omit [W0] in
def stChoice (b c d : BitVec 32) : BitVec 32 := (b &&& c ||| ~~~ b &&& d) + 1518500249#32
omit [W0] in
def stParity (b c d : BitVec 32) : BitVec 32 := (b ^^^ c ^^^ d) + 1859775393#32
omit [W0] in
def stMajority (b c d : BitVec 32) : BitVec 32 := (b &&& c ||| b &&& d ||| c &&& d) + 2400959708#32
omit [W0] in
def stLast (b c d : BitVec 32) : BitVec 32 := (b ^^^ c ^^^ d) + 3395469782#32
abbrev w32 (w : BitVec 32) : Value := .int .u32 (w.toNat : Int)
end Go.Proofs.YtdcehmhelfohfaaGreatDoor
namespace Go.Proofs.YtdcehmhelfohfaaGreatDoor
open Go Go.Vx
variable [W0]
set_option maxRecDepth 4000
set_option linter.all false
omit [W0] in
/-- Word i of a block. -/
def wordAt (blk : List UInt8) (i : Nat) : BitVec 32 :=
  b2w (blk.getD (4 * i) 0) <<< 24 ||| b2w (blk.getD (4 * i + 1) 0) <<< 16 ||| b2w (blk.getD (4 * i + 2) 0) <<< 8 ||| b2w (blk.getD (4 * i + 3) 0)
omit [W0] in
def schedNext (blk : List UInt8) (l : List (BitVec 32)) : BitVec 32 :=
  if l.length < 16 then wordAt blk l.length
  else rol (l.getD (l.length - 3) 0 ^^^ l.getD (l.length - 8) 0 ^^^ l.getD (l.length - 14) 0 ^^^ l.getD (l.length - 16) 0) 1
omit [W0] in
/-- The first t words of a block's schedule. -/
def sched (blk : List UInt8) : Nat → List (BitVec 32)
  | 0 => []
  | t + 1 => sched blk t ++ [schedNext blk (sched blk t)]
omit [W0] in
/-- The chain. -/
structure H5 where
  a : BitVec 32
  b : BitVec 32
  c : BitVec 32
  d : BitVec 32
  e : BitVec 32
end Go.Proofs.YtdcehmhelfohfaaGreatDoor
namespace Go.Proofs.YtdcehmhelfohfaaGreatDoor
open Go Go.Vx
variable [W0]
set_option maxRecDepth 4000
set_option linter.all false
omit [W0] in
def kindF : Nat → BitVec 32 → BitVec 32 → BitVec 32 → BitVec 32
  | 0 => stChoice
  | 1 => stParity
  | 2 => stMajority
  | _ => stLast
omit [W0] in
/-- One step. -/
def rnd (k : Nat) (h : H5) (w : BitVec 32) : H5 := ⟨rol h.a 5 + kindF k h.b h.c h.d + h.e + w, h.a, rol h.b 30, h.c, h.d⟩
omit [W0] in
/-- The first t steps. -/
def rounds (ws : List (BitVec 32)) (h : H5) : Nat → H5
  | 0 => h
  | t + 1 => rnd (t / 20) (rounds ws h t) (ws.getD t 0)
omit [W0] in
def add5 (h r : H5) : H5 := ⟨h.a + r.a, h.b + r.b, h.c + r.c, h.d + r.d, h.e + r.e⟩
omit [W0] in
/-- A block taken into the chain. -/
def mixN (h : H5) (blk : List UInt8) : H5 := add5 h (rounds (sched blk 80) h 80)
end Go.Proofs.YtdcehmhelfohfaaGreatDoor
namespace Go.Proofs.YtdcehmhelfohfaaGreatDoor
open Go Go.Vx
variable [W0]
set_option maxRecDepth 4000
set_option linter.all false
omit [W0] in
def h50 : H5 := ⟨1732584193#32, 4023233417#32, 2562383102#32, 271733878#32, 3285377520#32⟩
omit [W0] in
/-- The chain behind the first k blocks of a text. -/
def chainN (t : List UInt8) : Nat → H5
  | 0 => h50
  | k + 1 => mixN (chainN t k) ((t.drop (64 * k)).take 64)
theorem chainN_app (t u : List UInt8) : ∀ k, 64 * k ≤ t.length → chainN (t ++ u) k = chainN t k
  | 0, _ => rfl
  | k + 1, h => by
    have e : ((t ++ u).drop (64 * k)).take 64 = (t.drop (64 * k)).take 64 := by
      rw [List.drop_append_of_le_length (by omega), List.take_append_of_le_length (by simp; omega)]
    simp only [chainN, chainN_app t u k (by omega), e]
omit [W0] in
/-- What a digest in progress is of a text. -/
structure ShaI (t : List UInt8) (h : H5) (blk : List UInt8) : Prop where
  len : blk.length = 64
  chain : h = chainN t (t.length / 64)
  rest : blk.take (t.length % 64) = t.drop (64 * (t.length / 64))
omit [W0] in
def fillB (blk : List UInt8) (r : Nat) (u : List UInt8) : List UInt8 := blk.take r ++ (u ++ blk.drop (r + u.length))
theorem fillB_length {blk u : List UInt8} {r : Nat} (hb : blk.length = 64) (h : r + u.length ≤ 64) : (fillB blk r u).length = 64 := by
  simp [fillB]; omega
theorem fillB_take {blk u : List UInt8} {r : Nat} (hb : blk.length = 64) (h : r + u.length ≤ 64) : (fillB blk r u).take (r + u.length) = blk.take r ++ u := by
  unfold fillB
  have e : (blk.take r ++ u).length = r + u.length := by simp; omega
  rw [← List.append_assoc, ← e, List.take_left]
theorem ShaI.part {t u : List UInt8} {h : H5} {blk : List UInt8} (hi : ShaI t h blk) (hu : t.length % 64 + u.length < 64) : ShaI (t ++ u) h (fillB blk (t.length % 64) u) := by
  have e1 : (t ++ u).length / 64 = t.length / 64 := by simp; omega
  have e2 : (t ++ u).length % 64 = t.length % 64 + u.length := by simp; omega
  refine ⟨fillB_length hi.len (by omega), ?_, ?_⟩
  · rw [e1, chainN_app _ _ _ (by omega)]; exact hi.chain
  · rw [e1, e2, fillB_take hi.len (by omega), hi.rest, List.drop_append_of_le_length (by omega)]
theorem ShaI.full {t u : List UInt8} {h : H5} {blk : List UInt8} (hi : ShaI t h blk) (hu : t.length % 64 + u.length = 64) : ShaI (t ++ u) (mixN h (fillB blk (t.length % 64) u)) (fillB blk (t.length % 64) u) := by
  have e1 : (t ++ u).length / 64 = t.length / 64 + 1 := by simp; omega
  have e2 : (t ++ u).length % 64 = 0 := by simp; omega
  have hl := fillB_length (u := u) hi.len (show t.length % 64 + u.length ≤ 64 by omega)
  have ht := fillB_take (u := u) hi.len (show t.length % 64 + u.length ≤ 64 by omega)
  rw [hu, List.take_of_length_le (by omega), hi.rest] at ht
  have e3 : ((t ++ u).drop (64 * (t.length / 64))).take 64 = fillB blk (t.length % 64) u := by
    rw [ht, List.drop_append_of_le_length (by omega), List.take_of_length_le]
    simp; omega
  refine ⟨hl, ?_, ?_⟩
  · rw [e1]
    simp only [chainN]
    rw [chainN_app _ _ _ (by omega), ← hi.chain, e3]
  · rw [e1, e2, List.take_zero, List.drop_of_length_le (by simp; omega)]
theorem ShaI.new : ShaI [] h50 (List.replicate 64 0) := ⟨by simp, rfl, rfl⟩
omit [W0] in
/-- A slice that can be read, and its room. -/
structure SlC (L : List Chunk) (k : Nat) (v : Value) (m : Nat) (xs : List Value) : Prop where
  sl : Sl L k v m xs
  room : ∃ a c, v = .slice a m c ∧ m ≤ c
theorem SlC.there {L : List Chunk} {C : Chunk} {k m : Nat} {v : Value} {xs : List Value} (h : SlC L k v m xs) : SlC (C :: L) k v m xs := ⟨sl_there h.sl, h.room⟩
theorem SlC.ow {e k m : Nat} {v : Value} {xs : List Value} {C : Chunk} {L : List Chunk} (h : Ow e k v m xs C) : SlC (C :: L) k v m xs := by
  refine ⟨ow_sl h, ?_⟩
  rcases h with ⟨rfl, rfl, _⟩ | ⟨b, cap, rest, rfl, _, _, _, hmc, _⟩
  · exact ⟨_, _, rfl, Nat.le_refl _⟩
  · exact ⟨_, _, rfl, hmc⟩
theorem SlC.cut {L : List Chunk} {bb off m cap q : Nat} {l : List UInt8} {c : Array Value} {T : TypeId} {fr : Nat × Nat} (hf : Fnd L bb (.cells c T fr)) (hc : ∀ j u, (bsv l)[j]? = some u → c[off + j]? = some u) (hm : l.length = m) (hq : q ≤ m) (hmc : m ≤ cap) :
    SlC L 1 (.slice (some ⟨bb, if cap = q then off else off + q * 1, none⟩) (m - q) (cap - q)) (m - q) (bsv (l.drop q)) := by
  refine ⟨.inr ⟨_, _, rfl, ?_, by simp [bsv_length, hm]⟩, _, _, rfl, by omega⟩
  by_cases h0 : m = q
  · refine .inl ?_
    rw [List.drop_of_length_le (by omega)]; rfl
  · refine .inr ⟨bb, _, c, T, fr, rfl, hf, fun j u hj => ?_⟩
    rw [if_neg (by omega), Nat.mul_one, Nat.add_assoc]
    refine hc _ _ ?_
    rw [← hj]
    simp [bsv]
end Go.Proofs.YtdcehmhelfohfaaGreatDoor
namespace Go.Proofs.YtdcehmhelfohfaaGreatDoor
open Go Go.Vx
variable [W0]
set_option maxRecDepth 4000
set_option linter.all false
omit [W0] in
def hbs (h : H5) : List (BitVec 32) := [h.a, h.b, h.c, h.d, h.e]
end Go.Proofs.YtdcehmhelfohfaaGreatDoor
namespace Go.Proofs.YtdcehmhelfohfaaGreatDoor
open Go Go.Vx
variable [W0]
set_option maxRecDepth 4000
set_option linter.all false
theorem sl_byte {L : List Chunk} {v : Value} {m k : Nat} {t : List UInt8} (h : Sl L 1 v m (bsv t)) (hk : k < m) :
    ∃ bb off cap c T fr, v = .slice (some ⟨bb, off, none⟩) m cap ∧ Fnd L bb (.cells c T fr) ∧ c[off + k * 1]? = some (.int .u8 ((t.getD k 0).toNat : Int)) := by
  rcases h with ⟨c, rfl, rfl, h0⟩ | ⟨a, cap, rfl, hr, hl⟩
  · omega
  · have hlt : k < t.length := by rw [bsv_length] at hl; omega
    have hg : (bsv t)[k]? = some (.int .u8 ((t.getD k 0).toNat : Int)) := bsv_get (by simp [List.getD, hlt])
    rcases hr with h0 | ⟨b, off, c, T, fr, rfl, h1, h2⟩
    · rw [h0] at hg; simp at hg
    · exact ⟨b, off, cap, c, T, fr, rfl, h1, by rw [Nat.mul_one]; exact h2 _ _ hg⟩
theorem take_succ {α : Type} {t : List α} {k : Nat} (d : α) (h : k < t.length) : t.take (k + 1) = t.take k ++ [t.getD k d] := by
  rw [List.take_add_one, List.getElem?_eq_getElem h]
  simp [List.getD, h]
omit [W0] in
def adlA (a : BitVec 32) (x : UInt8) : BitVec 32 := (a + b2w x) % 65521#32
omit [W0] in
def adlN (s : BitVec 32 × BitVec 32) (t : List UInt8) : BitVec 32 × BitVec 32 := t.foldl (fun s x => (adlA s.1 x, (s.2 + adlA s.1 x) % 65521#32)) s
theorem adlN_snoc (s : BitVec 32 × BitVec 32) (t : List UInt8) (x : UInt8) : adlN s (t ++ [x]) = (adlA (adlN s t).1 x, ((adlN s t).2 + adlA (adlN s t).1 x) % 65521#32) := by simp [adlN]
omit [W0] in
def adlV (s : BitVec 32 × BitVec 32) : BitVec 32 := s.2 <<< 16 ||| s.1
theorem newAdler_n (L : List Chunk) : Gv Tryz.prog 54 [].toArray L (fun r L' => ∃ p, r = .pointer (some ⟨p, 0, none⟩) ∧ L' = [(p, cl [w32 1#32, w32 0#32] 153)] :: L) := by
  refine Gv.of_body Tryz.func54 rfl rfl ?_
  (repeat' first|refine kX ?_|refine kU fun bk=>?_|refine kV fun hc=>?_|refine kZ (fun hc=>?_) fun hc=>?_|fail)
  first | refine WQ_retH rfl rfl ?_ | refine WQ_endH rfl rfl ?_
  exact ⟨[(bk, cl [w32 1#32, w32 0#32] 153)] :: L, fun w h => h, bk, rfl, rfl⟩
theorem adlerwrite_n (s : BitVec 32 × BitVec 32) (t : List UInt8) (v : Value) (p : Nat) (L : List Chunk) (hlen : t.length < 576460752303423488) (hv : SlC L 1 v t.length (bsv t)) :
    Gv Tryz.prog 55 [.pointer (some ⟨p, 0, none⟩), v].toArray ([(p, cl [w32 s.1, w32 s.2] 153)] :: L)
      (fun z L' => z = .tuple #[] ∧ L' = [(p, cl [w32 (adlN s t).1, w32 (adlN s t).2] 153)] :: L) := by
  refine Gv.of_body Tryz.func55 rfl rfl ?_
  obtain ⟨a, c, rfl, hmc⟩ := hv.room
  (repeat' first|refine kX ?_|refine kU fun bk=>?_|refine kV fun hc=>?_|refine kZ (fun hc=>?_) fun hc=>?_|fail)
  refine WC_drawAll [] mixed ?_
  (refine WR_w 0 ?_; refine WR_w 1 ?_; refine WR_w 2 ?_; refine WR_w 3 ?_; refine WR_w 4 ?_; refine WR_w 5 ?_; refine WR_w 6 ?_; refine WR_w 7 ?_; refine WR_w 8 ?_; refine WR_w 9 ?_)
  (refine WR_done (by kernel_rfl) ?_)
  (repeat' first|refine kX ?_|refine kU fun bk=>?_|refine kV fun hc=>?_|refine kZ (fun hc=>?_) fun hc=>?_|fail)
  refine WC_loop (X := Nat) (fun k => [(0, .pointer (some ⟨p, 0, none⟩)), (4, w32 (adlN s (t.take k)).1), (5, w32 (adlN s (t.take k)).2), (16, .slice a t.length c), (17, .int .i64 (t.length : Int)), (18, .int .i64 (k : Int))])
    (fun k => [(p, cl [w32 s.1, w32 s.2] 153)] :: L) (fun k => k ≤ t.length) (fun k => t.length - k) 0 (Nat.zero_le _) (by repeat (first | exact Sub.nil | refine Sub.cons rfl ?_ | refine Sub.cons (lk_int rfl (by first | omega | (dsimp only; omega))) ?_)) (fun w h => h) ?_
  intro k hk
  replace hk : k ≤ t.length := hk
  (repeat' first|refine kX ?_|refine kU fun bk=>?_|refine kV fun hc=>?_|refine kZ (fun hc=>?_) fun hc=>?_|fail)
  · have hlt : k < t.length := by omega
    obtain ⟨bb, off, cap, cc, bT, bfr, hve, hfn, hcell⟩ := sl_byte hv.sl hlt
    injection hve with e1 e2 e3
    subst e1 e3
    clear e2
    (repeat' first|refine kX ?_|refine kU fun bk=>?_|refine kV fun hc=>?_|refine kZ (fun hc=>?_) fun hc=>?_|fail)
    refine OW_W ?_ (he := EV_load rfl hfn.there hcell)
    (repeat' first|refine kX ?_|refine kU fun bk=>?_|refine kV fun hc=>?_|refine kZ (fun hc=>?_) fun hc=>?_|fail)
    refine WQ_round (X := Nat) (J := fun k => k ≤ t.length) (μ := fun k => t.length - k) (x := k) (k + 1) (by omega) (show k + 1 ≤ t.length by omega) ?_ (fun w h => h)
    rw [take_succ 0 hlt, adlN_snoc]
    exact (by repeat (first | exact Sub.nil | refine Sub.cons rfl ?_ | refine Sub.cons (lk_int rfl (by first | omega | (dsimp only; omega))) ?_))
  · have hk : k = t.length := by omega
    subst hk
    rw [List.take_length]
    (first | refine WQ_retI rfl rfl ?_ | refine WQ_endI rfl rfl ?_)
    exact ⟨_, iC, rfl, rfl⟩
theorem adlervalue_n (s : BitVec 32 × BitVec 32) (p : Nat) (L : List Chunk) (hf : Fnd L p (cl [w32 s.1, w32 s.2] 153)) : GvP Tryz.prog 56 [.pointer (some ⟨p, 0, none⟩)].toArray L (w32 (adlV s)) := by
  refine Gv.of_body Tryz.func56 rfl rfl ?_
  (repeat' first|refine kX ?_|refine kU fun bk=>?_|refine kV fun hc=>?_|refine kZ (fun hc=>?_) fun hc=>?_|fail)
  refine WC_drawAll [] mixed ?_
  (refine WR_w 0 ?_; refine WR_w 1 ?_; refine WR_w 2 ?_; refine WR_w 3 ?_; refine WR_w 4 ?_; refine WR_w 5 ?_; refine WR_w 6 ?_; refine WR_w 7 ?_; refine WR_w 8 ?_; refine WR_w 9 ?_; refine WR_w 10 ?_)
  (refine WR_done (by kernel_rfl) ?_)
  (repeat' first|refine kX ?_|refine kU fun bk=>?_|refine kV fun hc=>?_|refine kZ (fun hc=>?_) fun hc=>?_|fail)
  ((first | refine WQ_retI rfl rfl ?_ | refine WQ_endI rfl rfl ?_); exact ⟨_, iC, rfl, rfl⟩)
theorem adler_n (t : List UInt8) (v : Value) (L : List Chunk) (hlen : t.length < 576460752303423488) (hv : SlC L 1 v t.length (bsv t)) :
    GvP Tryz.prog 29 [v].toArray L (w32 (adlV (adlN (1#32, 0#32) t))) := by
  refine Gv.of_body Tryz.func29 rfl rfl ?_
  (repeat' first|refine kX ?_|refine kU fun bk=>?_|refine kV fun hc=>?_|refine kZ (fun hc=>?_) fun hc=>?_|fail)
  refine OW_call rfl rfl rfl (newAdler_n L) rfl (fun r L' hp => ?_)
  obtain ⟨p, rfl, rfl⟩ := hp
  (repeat' first|refine kX ?_|refine kU fun bk=>?_|refine kV fun hc=>?_|refine kZ (fun hc=>?_) fun hc=>?_|fail)
  refine OW_call rfl rfl rfl (adlerwrite_n (1#32, 0#32) t v p L hlen hv) rfl (fun r L' hp => ?_)
  obtain ⟨rfl, rfl⟩ := hp
  (repeat' first|refine kX ?_|refine kU fun bk=>?_|refine kV fun hc=>?_|refine kZ (fun hc=>?_) fun hc=>?_|fail)
  refine OW_callP rfl rfl rfl (adlervalue_n (adlN (1#32, 0#32) t) p _ Fnd.here) rfl ?_
  (repeat' first|refine kX ?_|refine kU fun bk=>?_|refine kV fun hc=>?_|refine kZ (fun hc=>?_) fun hc=>?_|fail)
  ((first | refine WQ_retI rfl rfl ?_ | refine WQ_endI rfl rfl ?_); exact ⟨_, iC, rfl, rfl⟩)
end Go.Proofs.YtdcehmhelfohfaaGreatDoor
namespace Go.Vx
open Go
set_option linter.all false
variable [W0]
omit [W0] in
/-- No cell of the row is marked. -/
def FrOk (fr : Nat × Nat) (n : Nat) : Prop := ∀ j, j < n → ¬ (fr.1 ≤ j ∧ j < fr.2)
theorem FrOk.zero (n : Nat) : FrOk (0, 0) n := fun j _ h => by simp at h
theorem FrOk.behind (n : Nat) : FrOk (n, n + 1) n := fun j hj h => by simp at h; omega
end Go.Vx
namespace Go.Df
open Go.Vx Go.If Go.Hf
set_option linter.all false
def stF : Nat → List UInt8 → List Blk
  | 0, b => [.st b]
  | f + 1, b => if 65535 < b.length then .st (b.take 65535) :: stF f (b.drop 65535) else [.st b]
def stB (b : List UInt8) : List Blk := stF b.length b
theorem stF_stop {b : List UInt8} (h : ¬ 65535 < b.length) : ∀ f, stF f b = [.st b]
  | 0 => rfl
  | f + 1 => by rw [stF, if_neg h]
end Go.Df
namespace Go.Proofs.YtdcehmhelfohfaaGreatDoor
open Go Go.Vx Go.Hf Go.If Go.Df
variable [W0]
set_option maxRecDepth 4000
set_option linter.all false
structure BlsO (L : List Chunk) (v : Value) (bs : List Blk) (C : Chunk) : Prop where
  ex : ∃ vs : List Value, Ow 76 1 v bs.length vs C ∧ ones vs = true ∧ ∀ (i : Nat) (B : Blk), bs[i]? = some B → ∃ u, vs[i]? = some u ∧ BlkR L u B
theorem BlsO.r {L : List Chunk} {v : Value} {bs : List Blk} {C : Chunk} (h : BlsO L v bs C) : BlsR (C :: L) v bs := by
  obtain ⟨vs, h1, h2, h3⟩ := h.ex
  exact ⟨vs, Rs.ow h1, h2, fun i B hi => by obtain ⟨u, h4, h5⟩ := h3 i B hi; exact ⟨u, h4, h5.sub sub_there⟩⟩
theorem BlsO.sub {L L' : List Chunk} (hs : ∀ x ∈ L.flatten, x ∈ L'.flatten) {v : Value} {bs : List Blk} {C : Chunk} (h : BlsO L v bs C) : BlsO L' v bs C := by
  obtain ⟨vs, h1, h2, h3⟩ := h.ex
  exact ⟨vs, h1, h2, fun i B hi => by obtain ⟨u, h4, h5⟩ := h3 i B hi; exact ⟨u, h4, h5.sub hs⟩⟩
theorem BlsO.nil (L : List Chunk) : BlsO L (.slice none 0 0) [] [] := ⟨[], .inl ⟨rfl, rfl, rfl, rfl⟩, rfl, fun i B h => by simp at h⟩
theorem BlsO.push {L : List Chunk} {v' u : Value} {bs : List Blk} {B : Blk} {C' : Chunk} {vs : List Value} (h2 : ones vs = true) (h3 : ∀ (i : Nat) (B : Blk), bs[i]? = some B → ∃ u, vs[i]? = some u ∧ BlkR L u B) (hl : vs.length = bs.length)
    (ho : Ow 76 1 v' (bs.length + 1) (vs ++ [u]) C') (h1 : u.oneCell' = true) (hB : BlkR L u B) : BlsO L v' (bs ++ [B]) C' := by
  refine ⟨vs ++ [u], by simpa using ho, ?_, fun i B' hi => ?_⟩
  · simp only [ones, List.all_append, List.all_cons, List.all_nil, Bool.and_true, h1] at h2 ⊢
    exact h2
  · rcases Nat.lt_or_ge i bs.length with hlt | hge
    · rw [List.getElem?_append_left hlt] at hi
      obtain ⟨u', h4, h5⟩ := h3 i B' hi
      exact ⟨u', by rw [List.getElem?_append_left (by omega)]; exact h4, h5⟩
    · rw [List.getElem?_append_right hge] at hi
      have h0 : i - bs.length = 0 := by
        rcases Nat.eq_zero_or_pos (i - bs.length) with h | h
        · exact h
        · rw [List.getElem?_eq_none (show [B].length ≤ i - bs.length from h)] at hi
          cases hi
      rw [h0] at hi
      simp only [List.getElem?_cons_zero, Option.some.injEq] at hi
      subst hi
      exact ⟨u, by rw [List.getElem?_append_right (by omega), show i - vs.length = 0 from by omega]; rfl, hB⟩
theorem flags_n (level : Int) (L : List Chunk) : GvP Tryz.prog 28 [.int .i64 level].toArray L (.int .u8 (if level ≤ 0 then 1 else if level = 1 then 94 else 156)) := by
  refine Gv.of_body Tryz.func28 rfl rfl ?_
  (repeat' first|refine kW ?_|refine kU fun bk=>?_|refine kV fun hc=>?_|refine kZ (fun hc=>?_) fun hc=>?_|fail)
  · rw [if_pos (by omega)]
    refine kR ?_
    exact ⟨_, iC, rfl, rfl⟩
  · rw [if_neg (by omega), if_pos (by omega)]
    refine kR ?_
    exact ⟨_, iC, rfl, rfl⟩
  · rw [if_neg (by omega), if_neg (by omega)]
    refine kR ?_
    exact ⟨_, iC, rfl, rfl⟩
set_option maxHeartbeats 8000000 in
theorem storedOf_n (v : Value) (b : List UInt8) (S L : List Chunk) (ht : Rs S 1 v b.length (bsv b)) (hb : b.length ≤ 200000) :
    Gv Tryz.prog 35 [v].toArray L (fun r L' => ∃ C, BlsO S r (stB b) C ∧ L' = C :: L) := by
  refine Gv.of_body (args := [v]) Tryz.func35 rfl rfl ?_
  (repeat' first|refine kW ?_|refine kU fun bk=>?_|refine kV fun hc=>?_|refine kZ (fun hc=>?_) fun hc=>?_|fail)
  refine WC_loop (X := Nat × List UInt8 × Value × List Blk × Value × Chunk) (fun x => [(0, x.2.2.1), (3, x.2.2.2.2.1)]) (fun x => x.2.2.2.2.2 :: L)
    (fun x => Rs S 1 x.2.2.1 x.2.1.length (bsv x.2.1) ∧ x.2.1.length ≤ x.1 ∧ x.1 ≤ 200000 ∧ BlsO S x.2.2.2.2.1 x.2.2.2.1 x.2.2.2.2.2 ∧ x.2.2.2.1.length + x.1 ≤ 200000 ∧ x.2.2.2.1 ++ stF x.1 x.2.1 = stB b) (fun x => x.1) (b.length, b, v, [], .slice none 0 0, [])
    ⟨ht, Nat.le_refl _, hb, BlsO.nil S, by simpa using hb, rfl⟩ iS (fun w h => Holds.nil.2 h) ?_
  clear ht v
  rintro ⟨f, t, v, bs, vl, Cl⟩ ⟨ht, htf, hf2, hbl, hbn, hst⟩
  simp only at ht htf hf2 hbl hbn hst ⊢
  obtain ⟨va, vc, rfl, hroom⟩ := ht.room
  obtain ⟨vs, hov, hon, hex⟩ := hbl.ex
  have hvl : vs.length = bs.length := by rcases hov with ⟨_, h0, rfl, _⟩ | ⟨_, _, _, _, _, h, _⟩; simpa using h0.symm; omega
  (repeat' first|refine kW ?_|refine kU fun bk=>?_|refine kV fun hc=>?_|refine kZ (fun hc=>?_) fun hc=>?_|fail)
  · have hlt : 65535 < t.length := by omega
    obtain ⟨g, rfl⟩ : ∃ g, f = g + 1 := ⟨f - 1, by omega⟩
    rw [stF, if_pos hlt] at hst
    obtain ⟨r1, hr1, hev1⟩ := EV_sliceRs (P := Tryz.prog) (T := 22) ht (l := 0) (h := 65535) (by omega) (by omega)
    obtain ⟨r2, hr2, hev2⟩ := EV_sliceRs (P := Tryz.prog) (T := 22) ht (l := 65535) (h := t.length) (by omega) (by omega)
    have e1 : (((bsv t).drop (0 * 1)).take ((65535 - 0) * 1)) = bsv (t.take 65535) := by simp [bsv, List.map_take]
    have e2 : (((bsv t).drop (65535 * 1)).take ((t.length - 65535) * 1)) = bsv (t.drop 65535) := by
      rw [Nat.mul_one, Nat.mul_one, List.take_of_length_le (by rw [List.length_drop, bsv_length]; exact Nat.le_refl _)]
      simp [bsv, List.map_drop]
    rw [e1] at hr1
    rw [e2] at hr2
    refine OW_EV (hev1 rfl rfl rfl) rfl ?_
    obtain ⟨ra, rc, rfl, _⟩ := hr1.room
    (repeat' first|refine kW ?_|refine kU fun bk=>?_|refine kV fun hc=>?_|refine kZ (fun hc=>?_) fun hc=>?_|fail)
    refine OW_buildSlice (cs := [.iface 121 (.agg #[.slice ra (65535 - 0) rc])]) rfl (by rfl) (by first | (simp [fillL, patch, Value.cells, zeros]; done) | (simp [fillL, patch, Value.cells, zeros]; rfl)) (by omega) rfl rfl (fun bn => ?_)
    (repeat' first|refine kW ?_|refine kU fun bk=>?_|refine kV fun hc=>?_|refine kZ (fun hc=>?_) fun hc=>?_|fail)
    refine OW_append rfl rfl hov (sl_cells (k := 1) (c := #[.iface 121 (.agg #[.slice ra (65535 - 0) rc])]) (xs := [.iface 121 (.agg #[.slice ra (65535 - 0) rc])]) (m := 1) Fnd.here rfl (by simp)) (by repeat (first | exact Zip.here _ | apply Zip.there)) rfl (by rfl) (by omega) (by simp [maxLen]; omega) rfl (fun v' C' ho' _ _ => ?_)
    have hbl' := BlsO.push (B := .st (t.take 65535)) hon hex hvl ho' rfl ⟨_, rfl, by rw [List.length_take, Nat.min_eq_left (by omega)]; exact hr1, by rw [List.length_take]; omega⟩
    (repeat' first|refine kW ?_|refine kU fun bk=>?_|refine kV fun hc=>?_|refine kZ (fun hc=>?_) fun hc=>?_|fail)
    refine OW_EV (hev2 rfl rfl rfl) rfl ?_
    (repeat' first|refine kW ?_|refine kU fun bk=>?_|refine kV fun hc=>?_|refine kZ (fun hc=>?_) fun hc=>?_|fail)
    refine WQ_round (X := Nat × List UInt8 × Value × List Blk × Value × Chunk) (μ := fun x => x.1) (x := (g + 1, t, .slice va t.length vc, bs, vl, Cl)) (g, t.drop 65535, r2, bs ++ [.st (t.take 65535)], v', C') (by simp only; omega) ⟨by simp only; rw [List.length_drop]; exact hr2, by simp only [List.length_drop]; omega, by simp only; omega, hbl', by simp only [List.length_append, List.length_singleton]; omega, by simp only; rw [List.append_assoc]; exact hst⟩ iS (fun w h => iH h)
  · rw [stF_stop (by omega)] at hst
    refine OW_buildSlice (cs := [.iface 121 (.agg #[.slice va t.length vc])]) rfl (by rfl) (by first | (simp [fillL, patch, Value.cells, zeros]; done) | (simp [fillL, patch, Value.cells, zeros]; rfl)) (by omega) rfl rfl (fun bn => ?_)
    (repeat' first|refine kW ?_|refine kU fun bk=>?_|refine kV fun hc=>?_|refine kZ (fun hc=>?_) fun hc=>?_|fail)
    refine OW_append rfl rfl hov (sl_cells (k := 1) (c := #[.iface 121 (.agg #[.slice va t.length vc])]) (xs := [.iface 121 (.agg #[.slice va t.length vc])]) (m := 1) Fnd.here rfl (by simp)) (by repeat (first | exact Zip.here _ | apply Zip.there)) rfl (by rfl) (by omega) (by simp [maxLen]; omega) rfl (fun v' C' ho' _ _ => ?_)
    have hbl' := BlsO.push (B := .st t) hon hex hvl ho' rfl ⟨_, rfl, ht, by omega⟩
    rw [hst] at hbl'
    (repeat' first|refine kW ?_|refine kU fun bk=>?_|refine kV fun hc=>?_|refine kZ (fun hc=>?_) fun hc=>?_|fail)
    refine kR ?_
    exact ⟨_, iC, C', hbl', rfl⟩
end Go.Proofs.YtdcehmhelfohfaaGreatDoor
namespace Go.Df
open Go.Vx Go.If Go.Hf
set_option linter.all false
def be4 (n : Nat) : List UInt8 := [UInt8.ofNat (n / 16777216), UInt8.ofNat (n / 65536), UInt8.ofNat (n / 256), UInt8.ofNat n]
def flB (level : Int) : UInt8 := if level ≤ 0 then 1 else if level = 1 then 94 else 156
def wrB [W0] (x : List Blk) (q : Blk) : List UInt8 := leB (itV (wrI x q)) ((itL (wrI x q) + 7) / 8)
theorem u8w [W0] (m : Nat) : IntKind.u8.wrap (m : Int) = ((UInt8.ofNat m).toNat : Int) := by rw [wrap_u8, UInt8.toNat_ofNat']; omega
end Go.Df
namespace Go.Proofs.YtdcehmhelfohfaaGreatDoor
open Go Go.Vx Go.Hf Go.If Go.Df
variable [W0]
set_option maxRecDepth 4000
set_option linter.all false
theorem raw0_n (v : Value) (level : Int) (b : List UInt8) (x : List Blk) (q : Blk) (L : List Chunk) (ht : Rs L 1 v b.length (bsv b)) (hb : b.length ≤ 200000) (hl : level ≤ 0) (hs : stB b = x ++ [q]) (hx : x.length ≤ 1000) :
    Gv Tryz.prog 8 [v, .int .i64 level].toArray L (fun r L' => ∃ C, Ow 5 1 r (wrB x q).length (bsv (wrB x q)) C ∧ L' = C :: L) := by
  refine Gv.of_body (args := [v, .int .i64 level]) Tryz.func8 rfl rfl ?_
  have hbo : Gv Tryz.prog 15 [v, .int .i64 level].toArray L (fun r L' => ∃ C, BlsO L r (stB b) C ∧ L' = C :: L) := by
    refine Gv.of_body (args := [v, .int .i64 level]) Tryz.func15 rfl rfl ?_
    (repeat' first|refine kW ?_|refine kU fun bk=>?_|refine kV fun hc=>?_|refine kZ (fun hc=>?_) fun hc=>?_|fail)
    refine OW_call rfl rfl rfl (storedOf_n v b L L ht hb) rfl (fun r L' hp => ?_)
    obtain ⟨C, hbl, rfl⟩ := hp
    (repeat' first|refine kW ?_|refine kU fun bk=>?_|refine kV fun hc=>?_|refine kZ (fun hc=>?_) fun hc=>?_|fail)
    refine kR ?_
    exact ⟨_, iC, C, hbl, rfl⟩
  (repeat' first|refine kW ?_|refine kU fun bk=>?_|refine kV fun hc=>?_|refine kZ (fun hc=>?_) fun hc=>?_|fail)
  refine OW_call rfl rfl rfl hbo rfl (fun r L' hp => ?_)
  obtain ⟨C, hbl, rfl⟩ := hp
  rw [hs] at hbl
  (repeat' first|refine kW ?_|refine kU fun bk=>?_|refine kV fun hc=>?_|refine kZ (fun hc=>?_) fun hc=>?_|fail)
  refine OW_call rfl rfl rfl (written_n r x q _ hbl.r hx) rfl (fun r2 L' hp => ?_)
  obtain ⟨C2, ho, rfl⟩ := hp
  (repeat' first|refine kW ?_|refine kU fun bk=>?_|refine kV fun hc=>?_|refine kZ (fun hc=>?_) fun hc=>?_|fail)
  refine kR ?_
  exact ⟨_, iC, C2, by rw [show (wrB x q).length = (itL (wrI x q) + 7) / 8 from leB_length _ _]; exact ho, rfl⟩
set_option maxHeartbeats 8000000 in
theorem zlib_n (v : Value) (level : Int) (b o : List UInt8) (L : List Chunk) (Q : List UInt8 → Prop) (R : List Chunk → Prop) (hRC : ∀ C L', R L' → R (C :: L')) (hR : R L) (ht : Rs L 1 v b.length (bsv b)) (hb : b.length ≤ 200000)
    (hraw : ∀ L', R L' → Rs L' 1 v b.length (bsv b) → Gv Tryz.prog 8 [v, .int .i64 level].toArray L' (fun r L2 => ∃ C o, Q o ∧ o.length ≤ 1000000000 ∧ Ow 5 1 r o.length (bsv o) C ∧ L2 = C :: L')) :
    Gv Tryz.prog 12 [v, .int .i64 level].toArray L (fun r L' => ∃ C o, Q o ∧ o.length ≤ 1000000000 ∧ Ow 5 1 r (2 + o.length + 4) (bsv ([120, flB level] ++ o ++ be4 (adlV (adlN (1#32, 0#32) b)).toNat)) C ∧ L' = C :: L) := by
  refine Gv.of_body (args := [v, .int .i64 level]) Tryz.func12 rfl rfl ?_
  have had := fun L' (h : Rs L' 1 v b.length (bsv b)) => adler_n b v L' (by omega) ⟨h.sl, h.room⟩
  obtain ⟨n, hn⟩ : ∃ n, n = (adlV (adlN (1#32, 0#32) b)).toNat := ⟨_, rfl⟩
  have hn2 : n < 4294967296 := by rw [hn]; exact (adlV (adlN (1#32, 0#32) b)).isLt
  unfold w32 at had
  rw [← hn] at had ⊢
  have hfl : (if level ≤ 0 then (1 : Int) else if level = 1 then 94 else 156) = ((flB level).toNat : Int) := by
    unfold flB
    split
    · rfl
    · split <;> rfl
  have hfn := fun L => flags_n level L
  rw [hfl] at hfn
  (repeat' first|refine kW ?_|refine kU fun bk=>?_|refine kV fun hc=>?_|refine kZ (fun hc=>?_) fun hc=>?_|fail)
  refine OW_callP rfl rfl rfl (hfn _) rfl ?_
  (repeat' first|refine kW ?_|refine kU fun bk=>?_|refine kV fun hc=>?_|refine kZ (fun hc=>?_) fun hc=>?_|fail)
  refine OW_buildSlice (cs := bsv [120, flB level]) rfl (by rfl) (by first | (simp [fillL, patch, Value.cells, zeros]; done) | (simp [fillL, patch, Value.cells, zeros]; rfl)) (by omega) rfl rfl (fun bn => ?_)
  (repeat' first|refine kW ?_|refine kU fun bk=>?_|refine kV fun hc=>?_|refine kZ (fun hc=>?_) fun hc=>?_|fail)
  refine OW_call rfl rfl rfl (hraw _ (hRC _ _ hR) ht.there) rfl (fun r L' hp => ?_)
  obtain ⟨C, o, hQ, hol, ho, rfl⟩ := hp
  (repeat' first|refine kW ?_|refine kU fun bk=>?_|refine kV fun hc=>?_|refine kZ (fun hc=>?_) fun hc=>?_|fail)
  have hb2 : Ow 5 1 (.slice (some ⟨bn, 0, none⟩) 2 2) 2 (bsv [120, flB level]) [(bn, cl (bsv [120, flB level]) 5)] := .inr ⟨bn, 2, [], rfl, by rw [List.append_nil], rfl, rfl, Nat.le_refl _, by simp [maxLen]⟩
  refine OW_append rfl rfl hb2 (ow_sl ho) (by repeat (first | exact Zip.here _ | apply Zip.there)) rfl bsv_ones (by omega) (by simp [maxLen]; omega) rfl (fun v' C' ho' _ _ => ?_)
  rw [← bsv_append] at ho'
  (repeat' first|refine kW ?_|refine kU fun bk=>?_|refine kV fun hc=>?_|refine kZ (fun hc=>?_) fun hc=>?_|fail)
  refine OW_callP rfl rfl rfl (had _ ht.there.there) rfl ?_
  (repeat' first|refine kW ?_|refine kU fun bk=>?_|refine kV fun hc=>?_|refine kZ (fun hc=>?_) fun hc=>?_|fail)
  rw [show (n : Int) / 16777216 = ((n / 16777216 : Nat) : Int) from by omega, show (n : Int) / 65536 = ((n / 65536 : Nat) : Int) from by omega, show (n : Int) / 256 = ((n / 256 : Nat) : Int) from by omega, u8w, u8w, u8w, u8w]
  refine OW_buildSlice (cs := bsv (be4 n)) rfl (by rfl) (by first | (simp [fillL, patch, Value.cells, zeros]; done) | (simp [fillL, patch, Value.cells, zeros]; rfl)) (by omega) rfl rfl (fun b4 => ?_)
  refine jA ?_
  refine OW_append rfl rfl ho' (sl_cells (k := 1) (c := (bsv (be4 n)).toArray) (xs := bsv (be4 n)) (m := 4) Fnd.here rfl (by simp)) (by repeat (first | exact Zip.here _ | apply Zip.there)) rfl bsv_ones (by omega) (by simp [maxLen]; omega) rfl (fun v2 C2 ho2 _ _ => ?_)
  rw [← bsv_append] at ho2
  (repeat' first|refine kW ?_|refine kU fun bk=>?_|refine kV fun hc=>?_|refine kZ (fun hc=>?_) fun hc=>?_|fail)
  refine kR ?_
  exact ⟨_, iC, C2, o, hQ, hol, ho2, rfl⟩
end Go.Proofs.YtdcehmhelfohfaaGreatDoor
namespace Go.Df
open Go.Vx
set_option linter.all false
def tr (b : List UInt8) (i : Nat) : List UInt8 := (b.drop i).take 3
theorem tr_len {b : List UInt8} {i : Nat} (h : i + 3 ≤ b.length) : (tr b i).length = 3 := by unfold tr; rw [List.length_take, List.length_drop]; omega
def lastP (b : List UInt8) : Nat → List UInt8 → Option Nat
  | 0, _ => none
  | p + 1, l => if p + 3 ≤ b.length ∧ tr b p = l then some p else lastP b p l
theorem lastP_some {b : List UInt8} : ∀ {p : Nat} {l : List UInt8} {q : Nat}, lastP b p l = some q → q < p ∧ q + 3 ≤ b.length ∧ tr b q = l
  | 0, l, q, h => by cases h
  | p + 1, l, q, h => by
    rw [lastP] at h
    split at h
    · cases h; exact ⟨by omega, by assumption⟩
    · have := lastP_some h; exact ⟨by omega, this.2⟩
def nr (b : List UInt8) (i : Nat) : Option Nat := if i + 3 ≤ b.length then lastP b i (tr b i) else none
theorem nr_some {b : List UInt8} {i q : Nat} (h : nr b i = some q) : q < i ∧ i + 3 ≤ b.length ∧ tr b q = tr b i := by
  unfold nr at h
  split at h
  · have := lastP_some h; exact ⟨this.1, by assumption, this.2.2⟩
  · cases h
def encP : Option Nat → Int
  | none => -1
  | some q => (q : Int)
def cmF (b : List UInt8) (p i : Nat) : Nat → Nat → Nat
  | 0, n => n
  | f + 1, n => if b.getD (p + n) 0 = b.getD (i + n) 0 then cmF b p i f (n + 1) else n
theorem cmF_le (b : List UInt8) (p i : Nat) : ∀ f n, n ≤ cmF b p i f n ∧ cmF b p i f n ≤ n + f
  | 0, n => by rw [cmF]; omega
  | f + 1, n => by
    rw [cmF]
    split
    · have := cmF_le b p i f (n + 1); omega
    · omega
theorem cmF_eq (b : List UInt8) (p i : Nat) : ∀ f n k, n ≤ k → k < cmF b p i f n → b.getD (p + k) 0 = b.getD (i + k) 0
  | 0, n, k, h1, h2 => by rw [cmF] at h2; omega
  | f + 1, n, k, h1, h2 => by
    rw [cmF] at h2
    split at h2
    · rcases Nat.eq_or_lt_of_le h1 with rfl | h1
      · assumption
      · exact cmF_eq b p i f (n + 1) k h1 h2
    · omega
theorem cmF_ge (b : List UInt8) (p i : Nat) : ∀ f n m, m ≤ n + f → (∀ k, n ≤ k → k < m → b.getD (p + k) 0 = b.getD (i + k) 0) → m ≤ cmF b p i f n
  | 0, n, m, h1, h2 => by rw [cmF]; omega
  | f + 1, n, m, h1, h2 => by
    rw [cmF]
    split
    · exact cmF_ge b p i f (n + 1) m (by omega) fun k h3 h4 => h2 k (by omega) h4
    · rename_i hh
      rcases Nat.lt_or_ge n m with h3 | h3
      · exact absurd (h2 n (Nat.le_refl _) h3) hh
      · exact h3
def cm (b : List UInt8) (p i most : Nat) : Nat := cmF b p i most 0
def mostL (b : List UInt8) (i : Nat) : Nat := min 258 (b.length - i)
def lgF (b : List UInt8) (reach : Int) (i : Nat) : Nat → Option Nat → Nat × Nat → Nat × Nat
  | 0, _, m => m
  | f + 1, none, m => m
  | f + 1, some q, m => if m.1 < mostL b i ∧ (i : Int) - (q : Int) ≤ reach then lgF b reach i f (nr b q) (if m.1 < cm b q i (mostL b i) then (cm b q i (mostL b i), i - q) else m) else m
def lg (b : List UInt8) (reach : Int) (i : Nat) : Nat × Nat := lgF b reach i 256 (nr b i) (0, 0)
structure MOk (b : List UInt8) (reach : Int) (i n d : Nat) : Prop where
  n3 : 3 ≤ n
  nm : n ≤ 258
  fit : i + n ≤ b.length
  d1 : 1 ≤ d
  dr : (d : Int) ≤ reach
  di : d ≤ i
  eq : ∀ k, k < n → b.getD (i + k) 0 = b.getD (i + k - d) 0
theorem tr_get {b : List UInt8} {p i : Nat} (h : tr b p = tr b i) : ∀ k, k < 3 → b.getD (p + k) 0 = b.getD (i + k) 0 := by
  intro k hk
  have h2 := congrArg (fun l => l[k]?) h
  simp only [tr, List.getElem?_take, hk, if_true, List.getElem?_drop] at h2
  simp only [List.getD_eq_getElem?_getD, h2]
theorem lgF_ok {b : List UInt8} {reach : Int} {i : Nat} (hi : i + 3 ≤ b.length) : ∀ (f : Nat) (p : Option Nat) (m : Nat × Nat), (∀ q, p = some q → q < i ∧ tr b q = tr b i) → (m.1 = 0 ∨ MOk b reach i m.1 m.2) →
    (lgF b reach i f p m).1 = 0 ∨ MOk b reach i (lgF b reach i f p m).1 (lgF b reach i f p m).2
  | 0, p, m, hp, hm => by rw [lgF]; exact hm
  | f + 1, none, m, hp, hm => by rw [lgF]; exact hm
  | f + 1, some q, m, hp, hm => by
    rw [lgF]
    split
    · rename_i hc
      obtain ⟨q1, q2⟩ := hp q rfl
      refine lgF_ok hi f _ _ (fun q' hq' => ?_) ?_
      · have := nr_some hq'
        exact ⟨by omega, by rw [this.2.2, q2]⟩
      · split
        · right
          have hc3 : 3 ≤ cm b q i (mostL b i) := cmF_ge b q i _ 0 3 (by unfold mostL; omega) fun k _ h => tr_get q2 k h
          have hcl := (cmF_le b q i (mostL b i) 0).2
          have hcl' : cm b q i (mostL b i) ≤ mostL b i := by unfold cm; omega
          unfold mostL at hcl'
          unfold mostL at hc3
          exact ⟨hc3, by unfold mostL; omega, by unfold mostL; omega, by simp only; omega, by simp only; omega, by simp only; omega, fun k hk => by
            have := cmF_eq b q i _ 0 k (Nat.zero_le _) hk
            rw [show i + k - (i - q) = q + k from by omega, this]⟩
        · exact hm
    · exact hm
theorem lg_ok (b : List UInt8) (reach : Int) (i : Nat) : (lg b reach i).1 = 0 ∨ MOk b reach i (lg b reach i).1 (lg b reach i).2 := by
  unfold lg
  by_cases hi : i + 3 ≤ b.length
  · exact lgF_ok hi 256 _ _ (fun q hq => ⟨(nr_some hq).1, (nr_some hq).2.2⟩) (.inl rfl)
  · left
    unfold nr
    rw [if_neg hi]
    rfl
def msF (b : List UInt8) (reach : Int) : Nat → Nat → List (Nat × Nat × Nat)
  | 0, _ => []
  | f + 1, i => if i < b.length then (if 0 < (lg b reach i).1 then [(i, lg b reach i)] else []) ++ msF b reach f (i + max (lg b reach i).1 1) else []
def msR (b : List UInt8) (reach : Int) : List (Nat × Nat × Nat) := msF b (min reach 32768) b.length 0
def MsOk (b : List UInt8) (reach : Int) : Nat → List (Nat × Nat × Nat) → Prop
  | _, [] => True
  | i, m :: r => i ≤ m.1 ∧ MOk b reach m.1 m.2.1 m.2.2 ∧ MsOk b reach (m.1 + m.2.1) r
theorem MsOk.mono {b : List UInt8} {reach : Int} : ∀ {i j : Nat} {l : List (Nat × Nat × Nat)}, i ≤ j → MsOk b reach j l → MsOk b reach i l
  | _, _, [], _, _ => trivial
  | _, _, m :: r, h, hm => ⟨Nat.le_trans h hm.1, hm.2⟩
theorem msF_ok (b : List UInt8) (reach : Int) : ∀ f i, MsOk b reach i (msF b reach f i)
  | 0, i => trivial
  | f + 1, i => by
    rw [msF]
    split
    · split
      · rename_i h
        have hm := (lg_ok b reach i).resolve_left (by omega)
        refine ⟨Nat.le_refl _, hm, ?_⟩
        have := msF_ok b reach f (i + max (lg b reach i).1 1)
        exact this.mono (by simp only; omega)
      · exact (msF_ok b reach f _).mono (by omega)
    · trivial
theorem MOk.le {b : List UInt8} {r s : Int} {i n d : Nat} (h : MOk b r i n d) (hr : r ≤ s) : MOk b s i n d := ⟨h.n3, h.nm, h.fit, h.d1, Int.le_trans h.dr hr, h.di, h.eq⟩
theorem MsOk.le {b : List UInt8} {r s : Int} (hr : r ≤ s) : ∀ {i : Nat} {l : List (Nat × Nat × Nat)}, MsOk b r i l → MsOk b s i l
  | _, [], _ => trivial
  | _, m :: q, h => ⟨h.1, h.2.1.le hr, h.2.2.le hr⟩
theorem msR_ok (b : List UInt8) (reach : Int) : MsOk b (min reach 32768) 0 (msR b reach) := msF_ok b _ _ _
theorem msF_fuel (b : List UInt8) (reach : Int) : ∀ f i g, b.length - i ≤ f → f ≤ g → msF b reach g i = msF b reach f i
  | 0, i, 0, _, _ => rfl
  | 0, i, g + 1, h1, _ => by rw [msF, msF, if_neg (by omega)]
  | f + 1, i, g + 1, h1, h2 => by
    rw [msF, msF]
    split
    · rw [msF_fuel b reach f _ g (by omega) (by omega)]
    · rfl
end Go.Df
namespace Go.Proofs.YtdcehmhelfohfaaGreatDoor
open Go Go.Vx Go.Df
set_option maxRecDepth 4000
set_option linter.all false
theorem mapTy : Tryz.prog.underlying 50 = some (.map 105 3) := by kernel_rfl
instance : KA Tryz.prog 105 5 := ⟨⟨by kernel_rfl, by kernel_rfl, by kernel_rfl, by kernel_rfl⟩, by kernel_rfl, ⟨Tryz.prog.types.size - 1, by kernel_rfl⟩⟩
variable [W0]
omit [W0] in
/-- A finder's cells. -/
def fnV (v : Value) (reach : Int) (mb : Nat) (ve : Value) : List Value := [v, .int .i64 reach, .map (some mb), ve]
omit [W0] in
def fnO (v : Value) (reach : Int) (mb : Nat) (ve : Value) : Obj := cl (fnV v reach mb ve) 53
theorem slb {L : List Chunk} {v : Value} {m : Nat} {t : List UInt8} (h : Sl L 1 v m (bsv t)) (hm : 0 < m) :
    ∃ bb off cap c T fr, v = .slice (some ⟨bb, off, none⟩) m cap ∧ Fnd L bb (.cells c T fr) ∧ ∀ k, k < m → c[off + k * 1]? = some (.int .u8 ((t.getD k 0).toNat : Int)) := by
  rcases h with ⟨c, rfl, rfl, h0⟩ | ⟨a, cap, rfl, hr, hl⟩
  · omega
  · rw [bsv_length, Nat.mul_one] at hl
    rcases hr with h0 | ⟨b, off, c, T, fr, rfl, h1, h2⟩
    · have h9 : (bsv t).length = 0 := by rw [h0]; rfl
      rw [bsv_length] at h9
      omega
    · exact ⟨b, off, cap, c, T, fr, rfl, h1, fun k hk => by rw [Nat.mul_one]; exact h2 _ _ (bsv_get (by simp [List.getD, show k < t.length by omega]))⟩
theorem begins_n (p mb : Nat) (v ve : Value) (reach : Int) (b : List UInt8) (i : Nat) (L : List Chunk) (ht : Sl L 1 v b.length (bsv b)) (hf : Fnd L p (fnO v reach mb ve)) (hb : b.length ≤ 200000) (hi : i ≤ 200000) :
    GvP Tryz.prog 44 [.pointer (some ⟨p, 0, none⟩), .int .i64 (i : Int)].toArray L (.bool (decide (i + 3 ≤ b.length))) := by
  refine Gv.of_body Tryz.func44 rfl rfl ?_
  obtain ⟨va, vc, rfl⟩ := sl_slice ht
  unfold fnO fnV at hf
  (repeat' first|refine kW ?_|refine kU fun bk=>?_|refine kV fun hc=>?_|refine kZ (fun hc=>?_) fun hc=>?_|fail)
  refine kR ?_
  exact ⟨_, iC, congrArg Value.bool (by rw [Bool.eq_iff_iff]; simp only [decide_eq_true_eq]; omega), rfl⟩
set_option maxHeartbeats 2000000 in
theorem common_n (p mb : Nat) (v ve : Value) (reach : Int) (b : List UInt8) (q i most : Nat) (L : List Chunk) (ht : Sl L 1 v b.length (bsv b)) (hf : Fnd L p (fnO v reach mb ve)) (hb : b.length ≤ 200000) (hi : i + most ≤ b.length) (hq : q ≤ i) (h0 : i < b.length) :
    GvP Tryz.prog 43 [.pointer (some ⟨p, 0, none⟩), .int .i64 (q : Int), .int .i64 (i : Int), .int .i64 (most : Int)].toArray L (.int .i64 ((cm b q i most : Nat) : Int)) := by
  refine Gv.of_body Tryz.func43 rfl rfl ?_
  obtain ⟨bb, off, cap, cc, T, fr, rfl, hfn, hcs⟩ := slb ht (by omega)
  unfold fnO fnV at hf
  (repeat' first|refine kW ?_|refine kU fun bk=>?_|refine kV fun hc=>?_|refine kZ (fun hc=>?_) fun hc=>?_|fail)
  refine WC_loop (X := Nat) (fun x => [(0, .pointer (some ⟨p, 0, none⟩)), (1, .int .i64 (q : Int)), (2, .int .i64 (i : Int)), (3, .int .i64 (most : Int)), (9, .int .i64 (x : Int))]) (fun x => L)
    (fun x => x ≤ most ∧ cmF b q i (most - x) x = cm b q i most) (fun x => most - x) 0 ⟨Nat.zero_le _, rfl⟩ iS (fun w h => h) ?_
  rintro k ⟨hk, hm⟩
  (repeat' first|refine kW ?_|refine kU fun bk=>?_|refine kV fun hc=>?_|refine kZ (fun hc=>?_) fun hc=>?_|fail)
  by_cases hkm : k < most
  · obtain ⟨f, hf2⟩ : ∃ f, most - k = f + 1 := ⟨most - k - 1, by omega⟩
    rw [hf2, cmF] at hm
    have hc1 := hcs (q + k) (by omega)
    have hc2 := hcs (i + k) (by omega)
    generalize b.getD (q + k) 0 = x at hm hc1
    generalize b.getD (i + k) 0 = y at hm hc2
    refine WC_drawAll [] mixed ?_
    (refine WR_t 0 ?_; refine WR_t 1 ?_; refine WR_t 2 ?_; refine WR_t 3 ?_)
    rw [show decide ((k : Int) < (most : Int)) = true from by simp; omega]
    (refine WR_u 4 ?_; refine WR_u 5 ?_; refine WR_u 6 ?_; refine WR_u 7 ?_; refine WR_u 8 ?_; refine WR_u 9 ?_; refine WR_u 10 ?_)
    (refine WR_takeOn 11 rfl rfl rfl (by kernel_rfl) iP iC (EV_indexAddr (j := q + k) (len := b.length) rfl rfl (by omega) (by omega)) (by rfl) ?_)
    (refine WR_takeOn 12 rfl rfl rfl (by kernel_rfl) iP iC (EV_load rfl hfn hc1) (by rfl) ?_)
    (refine WR_u 13 ?_; refine WR_u 14 ?_; refine WR_u 15 ?_; refine WR_u 16 ?_; refine WR_u 17 ?_; refine WR_u 18 ?_; refine WR_u 19 ?_)
    (refine WR_takeOn 20 rfl rfl rfl (by kernel_rfl) iP iC (EV_indexAddr (j := i + k) (len := b.length) rfl rfl (by omega) (by omega)) (by rfl) ?_)
    (refine WR_takeOn 21 rfl rfl rfl (by kernel_rfl) iP iC (EV_load rfl hfn hc2) (by rfl) ?_)
    (refine WR_u 22 ?_)
    (refine WR_t 23 ?_)
    (refine WR_done (by kernel_rfl) ?_)
    (repeat' first|refine kW ?_|refine kU fun bk=>?_|refine kV fun hc=>?_|refine kZ (fun hc=>?_) fun hc=>?_|fail)
    · have hxy : x = y := UInt8.toNat_inj.1 (by omega)
      rw [if_pos hxy] at hm
      refine WQ_round (X := Nat) (μ := fun x => most - x) (x := k) (k + 1) (by show most - (k + 1) < most - k; omega) ⟨by omega, by rw [show most - (k + 1) = f from by omega]; exact hm⟩ iS (fun w h => h)
    · have hxy : ¬ x = y := fun hh => hc (by rw [hh])
      rw [if_neg hxy] at hm
      rw [← hm]
      refine kR ?_
      exact ⟨_, iC, rfl, rfl⟩
  · obtain rfl : k = most := by omega
    rw [show k - k = 0 from by omega, cmF] at hm
    refine WC_drawAll [] mixed ?_
    (refine WR_t 0 ?_; refine WR_t 1 ?_; refine WR_t 2 ?_; refine WR_t 3 ?_)
    rw [show decide ((k : Int) < (k : Int)) = false from by simp]
    (refine WR_v 4 ?_; refine WR_v 5 ?_; refine WR_v 6 ?_; refine WR_v 7 ?_; refine WR_v 8 ?_; refine WR_v 9 ?_; refine WR_v 10 ?_; refine WR_v 11 ?_; refine WR_v 12 ?_; refine WR_v 13 ?_; refine WR_v 14 ?_; refine WR_v 15 ?_; refine WR_v 16 ?_; refine WR_v 17 ?_; refine WR_v 18 ?_; refine WR_v 19 ?_; refine WR_v 20 ?_; refine WR_v 21 ?_; refine WR_v 22 ?_)
    (refine WR_t 23 ?_)
    (refine WR_done (by kernel_rfl) ?_)
    (repeat' first|refine kW ?_|refine kU fun bk=>?_|refine kV fun hc=>?_|refine kZ (fun hc=>?_) fun hc=>?_|fail)
    rw [← hm]
    refine kR ?_
    exact ⟨_, iC, rfl, rfl⟩
set_option maxHeartbeats 2000000 in
theorem triple_n (p mb : Nat) (v ve : Value) (reach : Int) (b : List UInt8) (i : Nat) (L : List Chunk) (ht : Rs L 1 v b.length (bsv b)) (hf : Fnd L p (fnO v reach mb ve)) (hb : b.length ≤ 200000) (hi : i + 3 ≤ b.length) :
    GvP Tryz.prog 45 [.pointer (some ⟨p, 0, none⟩), .int .i64 (i : Int)].toArray L (kv3 (tr b i)) := by
  refine Gv.of_body Tryz.func45 rfl rfl ?_
  obtain ⟨r, hr, hev⟩ := EV_sliceRs (P := Tryz.prog) (T := 22) ht (l := i) (h := b.length) (by omega) (Nat.le_refl _)
  obtain ⟨va, vc, rfl, _⟩ := ht.room
  unfold fnO fnV at hf
  have hl3 : (bsv (tr b i)).length = 3 := by rw [bsv_length, tr_len hi]
  have htr : (((bsv b).drop (i * 1)).take ((b.length - i) * 1)).take 3 = bsv (tr b i) := by
    rw [Nat.mul_one, Nat.mul_one, List.take_take, show min 3 (b.length - i) = 3 from by omega]
    simp [bsv, tr, List.map_take, List.map_drop]
  rcases hr.sl with ⟨c0, _, h0, _⟩ | ⟨a0, cap0, rfl, hrd, hlen⟩
  · omega
  have hrd := rd_take hrd 3
  rw [htr] at hrd
  (repeat' first|refine kW ?_|refine kU fun bk=>?_|refine kV fun hc=>?_|refine kZ (fun hc=>?_) fun hc=>?_|fail)
  refine OW_EV (hev rfl rfl rfl) rfl ?_
  (repeat' first|refine kW ?_|refine kU fun bk=>?_|refine kV fun hc=>?_|refine kZ (fun hc=>?_) fun hc=>?_|fail)
  refine OW_EV (EV_toArr rfl (by omega)) rfl ?_
  (repeat' first|refine kW ?_|refine kU fun bk=>?_|refine kV fun hc=>?_|refine kZ (fun hc=>?_) fun hc=>?_|fail)
  refine OW_EV (EV_loadAgg rfl (rd_there hrd) hl3) rfl ?_
  (repeat' first|refine kW ?_|refine kU fun bk=>?_|refine kV fun hc=>?_|refine kZ (fun hc=>?_) fun hc=>?_|fail)
  refine OW_storeAggTo (l := [.int .u8 0, .int .u8 0, .int .u8 0]) (bsv (tr b i)) rfl rfl hl3 bsv_ones (by
    match bsv (tr b i), hl3 with
    | [x, y, z], _ => rfl) iU (by simp [hl3]) ?_
  (repeat' first|refine kW ?_|refine kU fun bk=>?_|refine kV fun hc=>?_|refine kZ (fun hc=>?_) fun hc=>?_|fail)
  have hrc : RdAt ([(bk, cl (bsv (tr b i)) 105)] :: L) ⟨bk, 0, none⟩ (bsv (tr b i)) := RdAt.cl' Fnd.here (by unfold cut; rw [List.drop_zero, List.take_length])
  first
    | (refine WQ_retC (vs := [kv3 (tr b i)]) rfl (.agg ⟨by kernel_rfl, by kernel_rfl⟩ rfl hrc hl3 .nil) ?_
       exact ⟨_, fun w h => h.drop, rfl, rfl⟩)
    | (refine WQ_endC (vs := [kv3 (tr b i)]) rfl (.agg ⟨by kernel_rfl, by kernel_rfl⟩ rfl hrc hl3 .nil) ?_
       exact ⟨_, fun w h => h.drop, rfl, rfl⟩)
set_option maxHeartbeats 2000000 in
theorem nearest_n (p mb : Nat) (v ve : Value) (reach : Int) (b : List UInt8) (i : Nat) (C : Chunk) (L : List Chunk) (ht : Rs L 1 v b.length (bsv b)) (hf : Fnd L p (fnO v reach mb ve)) (hb : b.length ≤ 200000) (hi : i ≤ 200000) (hm : MpD mb (lastP b i) C) (hin : Inc [C] L) :
    GvP Tryz.prog 42 [.pointer (some ⟨p, 0, none⟩), .int .i64 (i : Int)].toArray L (.int .i64 (encP (nr b i))) := by
  refine Gv.of_body Tryz.func42 rfl rfl ?_
  have h1 := begins_n p mb v ve reach b i L ht.sl hf hb hi
  have hf' := hf
  unfold fnO fnV at hf'
  unfold nr
  (repeat' first|refine kW ?_|refine kU fun bk=>?_|refine kV fun hc=>?_|refine kZ (fun hc=>?_) fun hc=>?_|fail)
  refine OW_callP rfl rfl rfl h1 rfl ?_
  (repeat' first|refine kW ?_|refine kU fun bk=>?_|refine kV fun hc=>?_|refine kZ (fun hc=>?_) fun hc=>?_|fail)
  · rw [if_pos hc]
    have h2 := triple_n p mb v ve reach b i L ht hf hb hc
    refine WC_drawAll [] mixed ?_
    (refine WR_t 0 ?_; refine WR_t 1 ?_; refine WR_t 2 ?_; refine WR_t 3 ?_; refine WR_t 4 ?_; refine WR_t 5 ?_)
    (refine WR_one 6 (by kernel_rfl) rfl rfl ?_)
    refine OW_callP rfl rfl rfl h2 rfl ?_
    refine ⟨iC, ?_⟩
    (refine WR_take 7 rfl rfl (by kernel_rfl) iP iC (EV_mlook mapTy rfl rfl (tr_len hc) hm hin) (by rfl) ?_)
    (refine WR_t 8 ?_; refine WR_t 9 ?_; refine WR_t 10 ?_; refine WR_t 11 ?_; refine WR_t 12 ?_)
    (refine WR_done (by kernel_rfl) ?_)
    cases hg : lastP b i (tr b i) with
    | none =>
      simp only [Option.getD_none, Option.isSome_none]
      (repeat' first|refine kW ?_|refine kU fun bk=>?_|refine kV fun hc=>?_|refine kZ (fun hc=>?_) fun hc=>?_|fail)
      refine kR ?_
      exact ⟨_, iC, rfl, rfl⟩
    | some q =>
      simp only [Option.getD_some, Option.isSome_some]
      (repeat' first|refine kW ?_|refine kU fun bk=>?_|refine kV fun hc=>?_|refine kZ (fun hc=>?_) fun hc=>?_|fail)
      refine kR ?_
      exact ⟨_, iC, rfl, rfl⟩
  · rw [if_neg hc]
    refine kR ?_
    exact ⟨_, iC, rfl, rfl⟩
end Go.Proofs.YtdcehmhelfohfaaGreatDoor
namespace Go.Df
open Go.Vx
set_option linter.all false
theorem lastP_up {b : List UInt8} {t : Nat} (h : t + 3 ≤ b.length) : ups (lastP b t) (tr b t) t = lastP b (t + 1) := by
  funext l
  unfold ups
  rw [lastP]
  by_cases hl : l = tr b t
  · rw [if_pos hl, if_pos ⟨h, hl.symm⟩]
  · rw [if_neg hl, if_neg (fun hh => hl hh.2.symm)]
theorem lastP_no {b : List UInt8} {t : Nat} (h : ¬ t + 3 ≤ b.length) : lastP b t = lastP b (t + 1) := by
  funext l
  rw [lastP, if_neg (fun hh => h hh.1)]
def ers (b : List UInt8) (t : Nat) : List Value := (List.range t).map fun q => .int .i64 (encP (nr b q))
theorem ers_succ (b : List UInt8) (t : Nat) : ers b (t + 1) = ers b t ++ [.int .i64 (encP (nr b t))] := by simp [ers, List.range_succ]
theorem ers_get {b : List UInt8} {t q : Nat} (h : q < t) : (ers b t)[q]? = some (.int .i64 (encP (nr b q))) := by simp [ers, h]
end Go.Df
namespace Go.Proofs.YtdcehmhelfohfaaGreatDoor
open Go Go.Vx Go.Df
set_option maxRecDepth 4000
set_option linter.all false
variable [W0]
set_option maxHeartbeats 4000000 in
theorem pass_n (p mb : Nat) (v ve : Value) (reach : Int) (b : List UInt8) (t k : Nat) (C1 C2 : Chunk) (L : List Chunk) (ht : Rs L 1 v b.length (bsv b)) (hb : b.length ≤ 200000) (hk : t + k ≤ b.length) (hm : MpD mb (lastP b t) C1) (ho : Ow 3 1 ve t (ers b t) C2) :
    Gv Tryz.prog 20 [.pointer (some ⟨p, 0, none⟩), .int .i64 (k : Int)].toArray ([(p, fnO v reach mb ve)] :: C1 :: C2 :: L) (fun r L' => r = .tuple #[] ∧ ∃ ve' C1' C2', MpD mb (lastP b (t + k)) C1' ∧ Ow 3 1 ve' (t + k) (ers b (t + k)) C2' ∧ L' = [(p, fnO v reach mb ve')] :: C1' :: C2' :: L) := by
  refine Gv.of_body Tryz.func20 rfl rfl ?_
  (repeat' first|refine kW ?_|refine kU fun bk=>?_|refine kV fun hc=>?_|refine kZ (fun hc=>?_) fun hc=>?_|fail)
  refine WC_loop (X := Nat × Value × Chunk × Chunk) (fun x => [(0, .pointer (some ⟨p, 0, none⟩)), (5, .int .i64 (k : Int)), (6, .int .i64 (x.1 : Int))]) (fun x => [(p, fnO v reach mb x.2.1)] :: x.2.2.1 :: x.2.2.2 :: L)
    (fun x => x.1 ≤ k ∧ MpD mb (lastP b (t + x.1)) x.2.2.1 ∧ Ow 3 1 x.2.1 (t + x.1) (ers b (t + x.1)) x.2.2.2) (fun x => k - x.1) (0, ve, C1, C2) ⟨Nat.zero_le _, hm, ho⟩ iS (fun w h => h) ?_
  clear hm ho ve C1 C2
  rintro ⟨j, ve, C1, C2⟩ ⟨hj, hm, ho⟩
  simp only at hj hm ho ⊢
  obtain ⟨va, vc, rfl⟩ := ow_slc ho
  unfold fnO fnV
  (repeat' first|refine kW ?_|refine kU fun bk=>?_|refine kV fun hc=>?_|refine kZ (fun hc=>?_) fun hc=>?_|fail)
  · have hnr := nearest_n p mb v (.slice va (t + j) vc) reach b (t + j) C1 ([(p, fnO v reach mb (.slice va (t + j) vc))] :: C1 :: C2 :: L) ht.there.there.there Fnd.here hb (by omega) hm iC
    unfold fnO fnV at hnr
    refine WC_draw [[(p, cl [v, .int .i64 reach, .map (some mb), .slice va (t + j) vc] 53)]] [12] mixed ?_
    (refine WR_t 0 ?_; refine WR_t 1 ?_; refine WR_t 2 ?_; refine WR_t 3 ?_; refine WR_t 4 ?_; refine WR_t 5 ?_; refine WR_t 6 ?_)
    (refine WR_one 7 (by kernel_rfl) rfl rfl ?_)
    refine OW_callP rfl rfl rfl hnr rfl ?_
    refine ⟨iC, ?_⟩
    (refine WR_one 8 (by kernel_rfl) rfl rfl ?_)
    refine OW_buildSlice (cs := [.int .i64 (encP (nr b (t + j)))]) rfl (by rfl) (by first | (simp [fillL, patch, Value.cells, zeros]; done) | (simp [fillL, patch, Value.cells, zeros]; rfl)) (by omega) rfl rfl (fun bn => ?_)
    refine ⟨iC, ?_⟩
    (refine WR_one 9 (by kernel_rfl) rfl rfl ?_)
    refine OW_append rfl rfl ho (sl_cells (k := 1) (c := #[.int .i64 (encP (nr b (t + j)))]) (xs := [.int .i64 (encP (nr b (t + j)))]) (m := 1) Fnd.here rfl (by simp)) (by repeat (first | exact Zip.here _ | apply Zip.there)) rfl (by rfl) (by omega) (by simp [maxLen]; omega) rfl (fun ve' C2' ho' _ _ => ?_)
    rw [← ers_succ] at ho'
    refine ⟨iC, ?_⟩
    (refine WR_t 10 ?_; refine WR_t 11 ?_)
    (refine WR_last 12 (by kernel_rfl) rfl rfl rfl ?_)
    refine OW_storeTo [v, .int .i64 reach, .map (some mb), ve'] rfl rfl (ow_one ho') rfl iU (by simp) ?_
    (refine WR_done (by kernel_rfl) ?_)
    have hbg := begins_n p mb v ve' reach b (t + j) ([(bn, cl [.int .i64 (encP (nr b (t + j)))] 3)] :: [(p, fnO v reach mb ve')] :: C1 :: C2' :: L) ht.there.there.there.there.sl (.there .here) hb (by omega)
    unfold fnO fnV at hbg
    (repeat' first|refine kW ?_|refine kU fun bk=>?_|refine kV fun hc=>?_|refine kZ (fun hc=>?_) fun hc=>?_|fail)
    refine OW_callP rfl rfl rfl hbg rfl ?_
    (repeat' first|refine kW ?_|refine kU fun bk=>?_|refine kV fun hc=>?_|refine kZ (fun hc=>?_) fun hc=>?_|fail)
    · have htr := triple_n p mb v ve' reach b (t + j) ([(bn, cl [.int .i64 (encP (nr b (t + j)))] 3)] :: [(p, fnO v reach mb ve')] :: C1 :: C2' :: L) ht.there.there.there.there (.there .here) hb hc
      unfold fnO fnV at htr
      refine WC_draw [[(p, cl [v, .int .i64 reach, .map (some mb), ve'] 53)]] [8] mixed ?_
      (refine WR_t 0 ?_; refine WR_t 1 ?_; refine WR_t 2 ?_; refine WR_t 3 ?_; refine WR_t 4 ?_; refine WR_t 5 ?_; refine WR_t 7 ?_)
      (refine WR_one 6 (by kernel_rfl) rfl rfl ?_)
      refine OW_callP rfl rfl rfl htr rfl ?_
      refine ⟨iC, ?_⟩
      (refine WR_last 8 (by kernel_rfl) rfl rfl rfl ?_)
      refine OW_mapUp (m := t + j) mapTy rfl rfl (tr_len hc) rfl hm (by repeat (first | exact Zip.here _ | apply Zip.there)) (fun C1' hm' => ?_)
      rw [lastP_up hc] at hm'
      (refine WR_done (by kernel_rfl) ?_)
      (repeat' first|refine kW ?_|refine kU fun bk=>?_|refine kV fun hc=>?_|refine kZ (fun hc=>?_) fun hc=>?_|fail)
      refine WQ_round (X := Nat × Value × Chunk × Chunk) (μ := fun x => k - x.1) (x := (j, .slice va (t + j) vc, C1, C2)) (j + 1, ve', C1', C2') (by simp only; omega) ⟨by simp only; omega, hm', ho'⟩ iS (fun w h => iH h)
    · rw [lastP_no hc] at hm
      refine WQ_round (X := Nat × Value × Chunk × Chunk) (μ := fun x => k - x.1) (x := (j, .slice va (t + j) vc, C1, C2)) (j + 1, ve', C1, C2') (by simp only; omega) ⟨by simp only; omega, hm, ho'⟩ iS (fun w h => iH h)
  · obtain rfl : j = k := by omega
    refine kR ?_
    exact ⟨_, iC, rfl, _, _, _, hm, ho, rfl⟩
end Go.Proofs.YtdcehmhelfohfaaGreatDoor
namespace Go.Df
open Go.Vx
set_option linter.all false
theorem lgF_stop {b : List UInt8} {reach : Int} {i f n d : Nat} {p : Option Nat} (h : f = 0 ∨ ∀ q, p = some q → ¬ (n < mostL b i ∧ (i : Int) - (q : Int) ≤ reach)) : lgF b reach i f p (n, d) = (n, d) := by
  cases f with
  | zero => rfl
  | succ f =>
    have h := h.resolve_left (by omega)
    cases p with
    | none => rfl
    | some q => rw [lgF, if_neg (h q rfl)]
end Go.Df
namespace Go.Proofs.YtdcehmhelfohfaaGreatDoor
open Go Go.Vx Go.Df
set_option maxRecDepth 4000
set_option linter.all false
variable [W0]
set_option maxHeartbeats 8000000 in
theorem longest_n (p mb : Nat) (v ve : Value) (reach : Int) (b : List UInt8) (i : Nat) (C : Chunk) (L : List Chunk) (ht : Rs L 1 v b.length (bsv b)) (hf : Fnd L p (fnO v reach mb ve)) (hb : b.length ≤ 200000) (hi : i < b.length) (hm : MpD mb (lastP b i) C) (hin : Inc [C] L)
    (hve : Sl L 1 ve i (ers b i)) (hreach : -9223372036854775808 ≤ reach ∧ reach ≤ 32768) :
    Gv Tryz.prog 19 [.pointer (some ⟨p, 0, none⟩), .int .i64 (i : Int)].toArray L (fun r L' => (∃ a : Nat, r = .agg #[.int .i64 (a : Int), .int .i64 ((lg b reach i).1 : Int), .int .i64 ((lg b reach i).2 : Int)] ∧ ((lg b reach i).1 ≠ 0 → a = i)) ∧ L' = L) := by
  refine Gv.of_body Tryz.func19 rfl rfl ?_
  obtain ⟨va, vc, hv9⟩ : ∃ va vc, v = .slice va b.length vc := by obtain ⟨a, c, h, _⟩ := ht.room; exact ⟨a, c, h⟩
  subst hv9
  have hf' := hf
  unfold fnO fnV at hf'
  (repeat' first|refine kW ?_|refine kU fun bk=>?_|refine kV fun hc=>?_|refine kZ (fun hc=>?_) fun hc=>?_|fail)
  rename_i bk4
  obtain ⟨bk5, hbk5⟩ : ∃ x, x = bk := ⟨_, rfl⟩
  subst hbk5
  have hnr := nearest_n p mb (.slice va b.length vc) ve reach b i C ([(bk5, cl [.int .i64 0, .int .i64 0, .int .i64 0] 31)] :: [(bk4, cl [.int .i64 0, .int .i64 0, .int .i64 0] 31)] :: L) ht.there.there (.there (.there hf)) hb (by omega) hm (by
    obtain ⟨R, hp⟩ := hin
    exact (Inc.skip (Inc.skip ⟨R, hp⟩)))
  refine OW_callP rfl rfl rfl hnr rfl ?_
  (repeat' first|refine kW ?_|refine kU fun bk=>?_|refine kV fun hc=>?_|refine kZ (fun hc=>?_) fun hc=>?_|fail)
  have hmost : min (258 : Int) ((b.length : Int) - (i : Int)) = ((mostL b i : Nat) : Int) := by unfold mostL; omega
  try rw [hmost]
  refine WC_loop (X := Nat × Option Nat × Nat × Nat × Nat) (fun x => [(0, .pointer (some ⟨p, 0, none⟩)), (1, .int .i64 (i : Int)), (4, .pointer (some ⟨bk4, 0, none⟩)), (5, .pointer (some ⟨bk5, 0, none⟩)), (6, .int .i64 ((mostL b i : Nat) : Int)), (7, .int .i64 (encP x.2.1)), (8, .int .i64 (x.1 : Int))])
    (fun x => [(bk5, cl [.int .i64 (x.2.2.1 : Int), .int .i64 (x.2.2.2.1 : Int), .int .i64 (x.2.2.2.2 : Int)] 31)] :: [(bk4, cl [.int .i64 0, .int .i64 0, .int .i64 0] 31)] :: L)
    (fun x => x.1 ≤ 256 ∧ (∀ q, x.2.1 = some q → q < i) ∧ (x.2.2.2.1 ≠ 0 → x.2.2.1 = i) ∧ x.2.2.1 ≤ 200000 ∧ x.2.2.2.1 ≤ 258 ∧ lgF b reach i (256 - x.1) x.2.1 (x.2.2.2.1, x.2.2.2.2) = lg b reach i) (fun x => 256 - x.1) (0, nr b i, 0, 0, 0)
    ⟨by simp only; omega, fun q hq => (nr_some hq).1, fun h => absurd rfl h, by simp only; omega, by simp only; omega, rfl⟩ iS (fun w h => h) ?_
  rintro ⟨j, q0, a, n, d⟩ ⟨hj, hq, ha, ha2, hn2, hlg⟩
  simp only at hj hq ha ha2 hn2 hlg ⊢
  have fin : lgF b reach i (256 - j) q0 (n, d) = (n, d) → (lg b reach i).1 = n ∧ (lg b reach i).2 = d := fun h => by rw [← hlg, h]; exact ⟨rfl, rfl⟩
  have hst : patch [Value.int .i64 0, Value.int .i64 0, Value.int .i64 0] 0 [Value.int .i64 (a : Int), Value.int .i64 (n : Int), Value.int .i64 (d : Int)] = [Value.int .i64 (a : Int), Value.int .i64 (n : Int), Value.int .i64 (d : Int)] := rfl
  cases q0 with
  | none =>
    obtain ⟨f1, f2⟩ := fin (lgF_stop (.inr fun q h => by cases h))
    rw [f1, f2]
    simp only [encP]
    (repeat' first|refine kW ?_|refine kU fun bk=>?_|refine kV fun hc=>?_|refine kZ (fun hc=>?_) fun hc=>?_|fail)
    all_goals
      first
        | (refine WQ_retC (vs := [.agg #[.int .i64 (a : Int), .int .i64 (n : Int), .int .i64 (d : Int)]]) rfl (.agg ⟨by kernel_rfl, by kernel_rfl⟩ rfl (RdAt.cl' (vs := [.int .i64 (a : Int), .int .i64 (n : Int), .int .i64 (d : Int)]) (by repeat (first | assumption | exact Fnd.here | refine Fnd.there ?_)) rfl) rfl .nil) ?_
           exact ⟨_, fun w h => h.drop.drop, ⟨a, rfl, ha⟩, rfl⟩)
        | (refine WQ_endC (vs := [.agg #[.int .i64 (a : Int), .int .i64 (n : Int), .int .i64 (d : Int)]]) rfl (.agg ⟨by kernel_rfl, by kernel_rfl⟩ rfl (RdAt.cl' (vs := [.int .i64 (a : Int), .int .i64 (n : Int), .int .i64 (d : Int)]) (by repeat (first | assumption | exact Fnd.here | refine Fnd.there ?_)) rfl) rfl .nil) ?_
           exact ⟨_, fun w h => h.drop.drop, ⟨a, rfl, ha⟩, rfl⟩)
  | some q =>
    have hqi := hq q rfl
    simp only [encP]
    by_cases hgo : j < 256 ∧ n < mostL b i ∧ (i : Int) - (q : Int) ≤ reach
    · obtain ⟨g1, g2, g3⟩ := hgo
      obtain ⟨f, hf2⟩ : ∃ f, 256 - j = f + 1 := ⟨256 - j - 1, by omega⟩
      rw [hf2, lgF, if_pos ⟨g2, g3⟩] at hlg
      have hcm := common_n p mb (.slice va b.length vc) ve reach b q i (mostL b i) ([(bk5, cl [.int .i64 (a : Int), .int .i64 (n : Int), .int .i64 (d : Int)] 31)] :: [(bk4, cl [.int .i64 0, .int .i64 0, .int .i64 0] 31)] :: L) ht.there.there.sl (.there (.there hf)) hb (by unfold mostL; omega) (by omega) hi
      have hcl : cm b q i (mostL b i) ≤ mostL b i := by have := (cmF_le b q i (mostL b i) 0).2; unfold cm; omega
      have hml : mostL b i ≤ 258 := by unfold mostL; omega
      obtain ⟨be, oe, ce, cc, TT, fr, rfl, hfe, hce⟩ := sl_at hve (ers_get hqi)
      (repeat' first|refine kW ?_|refine kU fun bk=>?_|refine kV fun hc=>?_|refine kZ (fun hc=>?_) fun hc=>?_|fail)
      refine OW_callP rfl rfl rfl hcm rfl ?_
      generalize cm b q i (mostL b i) = n' at hlg hcl
      (repeat' first|refine kW ?_|refine kU fun bk=>?_|refine kV fun hc=>?_|refine kZ (fun hc=>?_) fun hc=>?_|fail)
      · rw [if_pos (show n < n' by omega)] at hlg
        refine OW_EV (EV_indexAddr (j := q) rfl rfl rfl hqi) rfl ?_
        (repeat' first|refine kW ?_|refine kU fun bk=>?_|refine kV fun hc=>?_|refine kZ (fun hc=>?_) fun hc=>?_|fail)
        refine OW_EV (EV_load rfl (.there (.there hfe)) hce) rfl ?_
        (repeat' first|refine kW ?_|refine kU fun bk=>?_|refine kV fun hc=>?_|refine kZ (fun hc=>?_) fun hc=>?_|fail)
        refine WQ_round (X := Nat × Option Nat × Nat × Nat × Nat) (μ := fun x => 256 - x.1) (x := (j, some q, a, n, d)) (j + 1, nr b q, i, n', i - q) (by simp only; omega) ⟨by simp only; omega, fun q' hq' => by have := (nr_some hq').1; omega, fun _ => rfl, by simp only; omega, by simp only; omega, by simp only; rw [show 256 - (j + 1) = f from by omega]; exact hlg⟩ iS (fun w h => by
          rw [show ((i - q : Nat) : Int) = (i : Int) - (q : Int) from by omega]
          exact h)
      · rw [if_neg (show ¬ n < n' by omega)] at hlg
        refine OW_EV (EV_indexAddr (j := q) rfl rfl rfl hqi) rfl ?_
        (repeat' first|refine kW ?_|refine kU fun bk=>?_|refine kV fun hc=>?_|refine kZ (fun hc=>?_) fun hc=>?_|fail)
        refine OW_EV (EV_load rfl (.there (.there hfe)) hce) rfl ?_
        (repeat' first|refine kW ?_|refine kU fun bk=>?_|refine kV fun hc=>?_|refine kZ (fun hc=>?_) fun hc=>?_|fail)
        refine WQ_round (X := Nat × Option Nat × Nat × Nat × Nat) (μ := fun x => 256 - x.1) (x := (j, some q, a, n, d)) (j + 1, nr b q, a, n, d) (by simp only; omega) ⟨by simp only; omega, fun q' hq' => by have := (nr_some hq').1; omega, ha, by simp only; omega, by simp only; omega, by simp only; rw [show 256 - (j + 1) = f from by omega]; exact hlg⟩ iS (fun w h => h)
    · obtain ⟨f1, f2⟩ := fin (lgF_stop (by
        by_cases hj2 : j < 256
        · exact .inr fun q' h => by cases h; exact fun hh => hgo ⟨hj2, hh⟩
        · exact .inl (by omega)))
      rw [f1, f2]
      (repeat' first|refine kW ?_|refine kU fun bk=>?_|refine kV fun hc=>?_|refine kZ (fun hc=>?_) fun hc=>?_|fail)
      all_goals
        first
          | (exfalso; exact hgo ⟨by omega, by omega, by omega⟩)
          | (refine WQ_retC (vs := [.agg #[.int .i64 (a : Int), .int .i64 (n : Int), .int .i64 (d : Int)]]) rfl (.agg ⟨by kernel_rfl, by kernel_rfl⟩ rfl (RdAt.cl' (vs := [.int .i64 (a : Int), .int .i64 (n : Int), .int .i64 (d : Int)]) (by repeat (first | assumption | exact Fnd.here | refine Fnd.there ?_)) rfl) rfl .nil) ?_
             exact ⟨_, fun w h => h.drop.drop, ⟨a, rfl, ha⟩, rfl⟩)
          | (refine WQ_endC (vs := [.agg #[.int .i64 (a : Int), .int .i64 (n : Int), .int .i64 (d : Int)]]) rfl (.agg ⟨by kernel_rfl, by kernel_rfl⟩ rfl (RdAt.cl' (vs := [.int .i64 (a : Int), .int .i64 (n : Int), .int .i64 (d : Int)]) (by repeat (first | assumption | exact Fnd.here | refine Fnd.there ?_)) rfl) rfl .nil) ?_
             exact ⟨_, fun w h => h.drop.drop, ⟨a, rfl, ha⟩, rfl⟩)
end Go.Proofs.YtdcehmhelfohfaaGreatDoor
