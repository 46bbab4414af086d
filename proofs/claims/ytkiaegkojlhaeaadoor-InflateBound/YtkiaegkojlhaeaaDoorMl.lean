/- Codes of their own, and all blocks, read twice under other bounds. It proves no statement by itself. No conditions. -/
import Derived.Test.YtkiaegkojlhaeaaDoorMk
namespace Go.If
open Go.Vx Go.Hf
set_option linter.all false
section
variable [W0] {d d' : List UInt8} {most most' : Nat}
/-- The second reading of a state and what goes with it. -/
def Sp {α : Type} (d' : List UInt8) (most' : Nat) (x x' : S6 × α) : Prop :=
  (x' = x ∧ Ok d' most' x.1) ∨ (x'.1.e = 4 ∧ 8 * d'.length < x.1.t) ∨ (x'.1.e = 5 ∧ most' < x.1.out.length)
theorem Sp.err {α : Type} {s1 s1' : S6} {x x' : S6 × α} (h : (s1'.e = 4 ∧ 8 * d'.length < s1.t) ∨ (s1'.e = 5 ∧ most' < s1.out.length)) (hl : Le s1 x.1) (he : s1'.e ≠ 0 → x'.1.e = s1'.e) : Sp d' most' x x' := by
  rcases h with ⟨h1, h2⟩ | ⟨h1, h2⟩
  · exact .inr (.inl ⟨by rw [he (by rw [h1]; decide), h1], Nat.lt_of_lt_of_le h2 hl.t⟩)
  · exact .inr (.inr ⟨by rw [he (by rw [h1]; decide), h1], Nat.lt_of_lt_of_le h2 hl.o⟩)
theorem bad {s1 s1' : S6} (h : (s1'.e = 4 ∧ 8 * d'.length < s1.t) ∨ (s1'.e = 5 ∧ most' < s1.out.length)) : s1'.e ≠ 0 := by
  rcases h with ⟨h, _⟩ | ⟨h, _⟩ <;> rw [h] <;> decide
theorem Sp.self {α : Type} {x : S6 × α} (h : Sp d most x x) (he : x.1.e = 0) : Ok d most x.1 := by
  rcases h with ⟨_, h⟩ | ⟨h, _⟩ | ⟨h, _⟩
  · exact h
  · rw [he] at h; cases h
  · rw [he] at h; cases h
theorem owS_sim (hg : Ag d d') : ∀ k i (s : S6) (o : List Nat), Ok d most s → Ok d' most' s → (owS d k i s o).1.e = 0 → Sp d' most' (owS d k i s o) (owS d' k i s o)
  | 0, i, s, o, h, h', _ => .inl ⟨rfl, h'⟩
  | k + 1, i, s, o, h, h', hA => by
    rw [owS] at hA ⊢
    rw [owS]
    by_cases h1 : (tk d s 3).e ≠ 0
    · rw [if_pos h1] at hA; exact absurd hA h1
    have h1' : (tk d s 3).e = 0 := by omega
    rw [if_neg h1] at hA ⊢
    have hok := tk_ok' h h1'
    obtain ⟨ht, htv⟩ := tk_sim (n := 3) hg h h' h1'
    rcases ht with ⟨q, q2⟩ | q
    · have q3 : (tk d' s 3).e = 0 := by rw [q]; exact h1'
      rw [if_neg (by omega), htv q3, q]
      exact owS_sim hg k (i + 1) _ _ hok q2 hA
    · rw [if_pos (bad q)]
      exact Sp.err q (owS_le _ _ _ _ _) (fun _ => rfl)
theorem lcS_sim (hg : Ag d d') {s : S6} (h : Ok d most s) (h' : Ok d' most' s) (hA : (lcS d s).1.e = 0) : Sp d' most' (lcS d s) (lcS d' s) := by
  unfold lcS at *
  by_cases h1 : (tk d s 4).e ≠ 0
  · rw [if_pos h1] at hA; exact absurd hA h1
  have h1' : (tk d s 4).e = 0 := by omega
  rw [if_neg h1] at hA ⊢
  have hok := tk_ok' h h1'
  have hle := owS_le d (4 + tv d s 4) 0 (tk d s 4) (List.replicate 19 0)
  have hos := fun (h' : Ok d' most' (tk d s 4)) hA => owS_sim (d' := d') (most' := most') hg (4 + tv d s 4) 0 (tk d s 4) (List.replicate 19 0) hok h' hA
  by_cases h2 : (owS d (4 + tv d s 4) 0 (tk d s 4) (List.replicate 19 0)).1.e ≠ 0
  · rw [if_pos h2] at hA; exact absurd hA h2
  rw [if_neg h2] at hA ⊢
  have h2' : (owS d (4 + tv d s 4) 0 (tk d s 4) (List.replicate 19 0)).1.e = 0 := by omega
  by_cases h3 : kS (owS d (4 + tv d s 4) 0 (tk d s 4) (List.replicate 19 0)).2 = 32768
  · rw [if_pos h3] at hA ⊢
    obtain ⟨ht, htv⟩ := tk_sim (n := 4) hg h h' h1'
    rcases ht with ⟨q, q2⟩ | q
    · have q3 : (tk d' s 4).e = 0 := by rw [q]; exact h1'
      rw [if_neg (by omega), htv q3, q]
      rcases hos q2 h2' with ⟨r, r2⟩ | r
      · rw [r, if_neg h2, if_pos h3]
        exact .inl ⟨rfl, r2⟩
      · rw [if_pos (bad r)]
        exact Sp.err r (Le.rfl' _) (fun _ => rfl)
    · rw [if_pos (bad q)]
      exact Sp.err q hle (fun _ => rfl)
  · rw [if_neg h3] at hA
    rw [fl3 h2'] at hA; cases hA
theorem rpS_sim (hg : Ag d d') {own : List Nat} {m : Nat} {s : S6} {l : List Nat} (h : Ok d most s) (h' : Ok d' most' s) (hA : (rpS d own m s l).e = 0) : Sm d' most' (rpS d own m s l) (rpS d' own m s l) ∧ ((rpS d' own m s l).e = 0 → rpL d' own s l = rpL d own s l) := by
  unfold rpS rpL at *
  by_cases h1 : (sy d s own).e ≠ 0
  · rw [if_pos h1] at hA; exact absurd hA h1
  have h1' : (sy d s own).e = 0 := by omega
  rw [if_neg h1] at hA ⊢
  have hok := sy_ok' h h1'
  have hle := tk_le d (sy d s own) (rpB (sv d s own))
  by_cases h2 : (tk d (sy d s own) (rpB (sv d s own))).e ≠ 0
  · rw [if_pos h2] at hA; exact absurd hA h2
  have h2' : (tk d (sy d s own) (rpB (sv d s own))).e = 0 := by omega
  rw [if_neg h2] at hA ⊢
  by_cases h3 : (sv d s own = 16 ∧ l = []) ∨ m < l.length + (rpA (sv d s own) + tv d (sy d s own) (rpB (sv d s own)))
  · rw [if_pos h3, fl3 h2'] at hA; cases hA
  rw [if_neg h3] at hA ⊢
  obtain ⟨hs, hsv⟩ := sy_sim (l := own) hg h h' h1'
  rcases hs with ⟨q, q2⟩ | q
  · have q3 : (sy d' s own).e = 0 := by rw [q]; exact h1'
    rw [if_neg (show ¬ (sy d' s own).e ≠ 0 by omega), hsv q3, q]
    obtain ⟨ht, htv⟩ := tk_sim (n := rpB (sv d s own)) hg hok q2 h2'
    rcases ht with ⟨r, r2⟩ | r
    · have r3 : (tk d' (sy d s own) (rpB (sv d s own))).e = 0 := by rw [r]; exact h2'
      rw [if_neg (show ¬ (tk d' (sy d s own) (rpB (sv d s own))).e ≠ 0 by omega), htv r3, if_neg h3, r]
      exact ⟨.inl ⟨rfl, r2⟩, fun _ => rfl⟩
    · rw [if_pos (bad r)]
      exact ⟨Sm.err r (Le.rfl' _) (fun _ => rfl), fun he => absurd he (bad r)⟩
  · rw [if_pos (bad q)]
    exact ⟨Sm.err q hle (fun _ => rfl), fun he => absurd he (bad q)⟩
theorem lpS_sim (hg : Ag d d') {own : List Nat} {m : Nat} : ∀ f (s : S6) (l : List Nat), Ok d most s → Ok d' most' s → (lpS d own m f s l).1.e = 0 → Sp d' most' (lpS d own m f s l) (lpS d' own m f s l)
  | 0, s, l, h, h', _ => .inl ⟨rfl, h'⟩
  | f + 1, s, l, h, h', hA => by
    rw [lpS] at hA ⊢
    rw [lpS]
    by_cases hc : s.e = 0 ∧ l.length < m
    · rw [if_pos hc] at hA ⊢
      rw [if_pos hc]
      by_cases h1 : (rpS d own m s l).e = 0
      · rw [if_pos h1] at hA ⊢
        have hok := (rpS_sim (d' := d) (most' := most) Ag.refl h h h1).1.self h1
        obtain ⟨hr, hrl⟩ := rpS_sim (most' := most') hg h h' h1
        rcases hr with ⟨q, q2⟩ | q
        · have q3 : (rpS d' own m s l).e = 0 := by rw [q]; exact h1
          rw [if_pos q3, hrl q3, q]
          exact lpS_sim hg f _ _ hok q2 hA
        · rw [if_neg (bad q)]
          exact Sp.err q (lpS_le _ _ _ _ _ _) (fun _ => rfl)
      · rw [if_neg h1] at hA; exact absurd hA h1
    · rw [if_neg hc, if_neg hc]
      exact .inl ⟨rfl, h'⟩
theorem lgS_sim (hg : Ag d d') {m : Nat} {s : S6} (h : Ok d most s) (h' : Ok d' most' s) (hA : (lgS d m s).1.e = 0) : Sp d' most' (lgS d m s) (lgS d' m s) := by
  unfold lgS at *
  by_cases h1 : (lcS d s).1.e ≠ 0
  · rw [if_pos h1] at hA; exact absurd hA h1
  have h1' : (lcS d s).1.e = 0 := by omega
  rw [if_neg h1] at hA ⊢
  have hok := (lcS_sim (d' := d) (most' := most) Ag.refl h h h1').self h1'
  rcases lcS_sim (most' := most') hg h h' h1' with ⟨q, q2⟩ | q
  · rw [q, if_neg h1]
    exact lpS_sim hg _ _ _ hok q2 hA
  · rw [if_pos (bad q)]
    exact Sp.err q (lpS_le _ _ _ _ _ _) (fun _ => rfl)
theorem dyT_sim (hg : Ag d d') {n1 n2 : Nat} {s : S6} (h : Ok d most s) (h' : Ok d' most' s) (hA : (dyT d n1 n2 s).1.e = 0) : Sp d' most' (dyT d n1 n2 s) (dyT d' n1 n2 s) := by
  rw [dyT_eq] at hA ⊢
  rw [dyT_eq]
  by_cases h1 : (lgS d (n1 + n2) s).1.e ≠ 0
  · rw [if_pos h1] at hA; exact absurd hA h1
  have h1' : (lgS d (n1 + n2) s).1.e = 0 := by omega
  rw [if_neg h1] at hA ⊢
  unfold dyK at hA ⊢
  split at hA
  · rename_i hc
    rw [if_pos hc]
    rcases lgS_sim (most' := most') hg h h' h1' with ⟨q, q2⟩ | q
    · rw [q, if_neg h1, if_pos hc]
      exact .inl ⟨rfl, q2⟩
    · rw [if_pos (bad q)]
      exact Sp.err q (Le.rfl' _) (fun _ => rfl)
  · rw [fl3 h1'] at hA; cases hA
theorem dyS_sim (hg : Ag d d') {s : S6} (h : Ok d most s) (h' : Ok d' most' s) (hA : (dyS d s).1.e = 0) : Sp d' most' (dyS d s) (dyS d' s) := by
  unfold dyS at *
  by_cases h1 : (tk d s 5).e ≠ 0
  · rw [if_pos h1] at hA; exact absurd hA h1
  have h1' : (tk d s 5).e = 0 := by omega
  rw [if_neg h1] at hA ⊢
  have hok := tk_ok' h h1'
  by_cases h2 : 29 < tv d s 5
  · rw [if_pos h2, fl3 h1'] at hA; cases hA
  rw [if_neg h2] at hA ⊢
  by_cases h3 : (tk d (tk d s 5) 5).e ≠ 0
  · rw [if_pos h3] at hA; exact absurd hA h3
  have h3' : (tk d (tk d s 5) 5).e = 0 := by omega
  rw [if_neg h3] at hA ⊢
  have hok2 := tk_ok' hok h3'
  by_cases h4 : 29 < tv d (tk d s 5) 5
  · rw [if_pos h4, fl3 h3'] at hA; cases hA
  rw [if_neg h4] at hA ⊢
  have hle := dyT_le d (257 + tv d s 5) (1 + tv d (tk d s 5) 5) (tk d (tk d s 5) 5)
  obtain ⟨ht, htv⟩ := tk_sim (n := 5) hg h h' h1'
  rcases ht with ⟨q, q2⟩ | q
  · have q3 : (tk d' s 5).e = 0 := by rw [q]; exact h1'
    rw [if_neg (show ¬ (tk d' s 5).e ≠ 0 by omega), htv q3, if_neg h2, q]
    obtain ⟨hu, huv⟩ := tk_sim (n := 5) hg hok q2 h3'
    rcases hu with ⟨r, r2⟩ | r
    · have r3 : (tk d' (tk d s 5) 5).e = 0 := by rw [r]; exact h3'
      rw [if_neg (show ¬ (tk d' (tk d s 5) 5).e ≠ 0 by omega), huv r3, if_neg h4, r]
      exact dyT_sim hg hok2 r2 hA
    · rw [if_pos (bad r)]
      exact Sp.err r hle (fun _ => rfl)
  · rw [if_pos (bad q)]
    exact Sp.err q ((tk_le _ _ _).tr hle) (fun _ => rfl)
theorem dbS_sim (hg : Ag d d') {s : S6} (h : Ok d most s) (h' : Ok d' most' s) (hA : (dbS d most s).e = 0) : Sm d' most' (dbS d most s) (dbS d' most' s) := by
  unfold dbS at *
  by_cases h1 : (dyS d s).1.e ≠ 0
  · rw [if_pos h1] at hA; exact absurd hA h1
  have h1' : (dyS d s).1.e = 0 := by omega
  rw [if_neg h1] at hA ⊢
  have hok := (dyS_sim (d' := d) (most' := most) Ag.refl h h h1').self h1'
  rcases dyS_sim (most' := most') hg h h' h1' with ⟨q, q2⟩ | q
  · rw [q, if_neg h1]
    exact cdC_sim hg _ _ _ hok q2 (by omega) (by omega) hA
  · rw [if_pos (bad q)]
    exact Sm.err q (cdC_le _ _ _ _ _ _) (fun _ => rfl)
theorem bkS_sim (hg : Ag d d') {k : Nat} {s : S6} (h : Ok d most s) (h' : Ok d' most' s) (hA : (bkS d most k s).e = 0) : Sm d' most' (bkS d most k s) (bkS d' most' k s) := by
  unfold bkS at *
  by_cases h0 : k = 0
  · rw [if_pos h0] at hA ⊢; rw [if_pos h0]; exact stS_sim hg h h' hA
  · rw [if_neg h0] at hA ⊢
    rw [if_neg h0]
    by_cases h1 : k = 1
    · rw [if_pos h1] at hA ⊢; rw [if_pos h1]; exact cdC_sim hg _ _ _ h h' (by omega) (by omega) hA
    · rw [if_neg h1] at hA ⊢; rw [if_neg h1]; exact dbS_sim hg h h' hA
theorem rwS_le (d : List UInt8) (most : Nat) : ∀ f s, Le s (rwS d most f s)
  | 0, s => Le.rfl' s
  | f + 1, s => by
    rw [rwS]
    have h1 := tk_le d s 3
    have h2 := h1.tr (bkS_le d most (tv d s 3 / 2) (tk d s 3))
    repeat' split
    · exact h1
    · exact h1.tr (fl_le _ _)
    · exact h2
    · exact h2
    · exact h2.tr (rwS_le d most f _)
theorem rwS_sim (hg : Ag d d') : ∀ f f' (s : S6), Ok d most s → Ok d' most' s → 8 * d.length < f + s.t → 8 * d'.length < f' + s.t → (rwS d most f s).e = 0 → Sm d' most' (rwS d most f s) (rwS d' most' f' s)
  | 0, f', s, h, h', hf, hf', hA => by have := h.t; omega
  | f + 1, 0, s, h, h', hf, hf', hA => by have := h'.t; omega
  | f + 1, f' + 1, s, h, h', hf, hf', hA => by
    rw [rwS] at hA ⊢
    rw [rwS]
    by_cases h1 : (tk d s 3).e ≠ 0
    · rw [if_pos h1] at hA; exact absurd hA h1
    have h1' : (tk d s 3).e = 0 := by omega
    rw [if_neg h1] at hA ⊢
    have hok := tk_ok' h h1'
    have htt : (tk d s 3).t = s.t + 3 := by
      by_cases hc : s.t + 3 ≤ 8 * d.length
      · rw [tk_ok hc]
      · rw [tk_no hc h.e] at h1'; cases h1'
    by_cases h2 : 5 < tv d s 3
    · rw [if_pos h2, fl3 h1'] at hA; cases hA
    rw [if_neg h2] at hA ⊢
    by_cases h3 : (bkS d most (tv d s 3 / 2) (tk d s 3)).e ≠ 0
    · rw [if_pos h3] at hA; exact absurd hA h3
    have h3' : (bkS d most (tv d s 3 / 2) (tk d s 3)).e = 0 := by omega
    rw [if_neg h3] at hA ⊢
    have hle := bkS_le d most (tv d s 3 / 2) (tk d s 3)
    have hok2 := (bkS_sim (d' := d) (most' := most) Ag.refl hok hok h3').self h3'
    have hle2 : Le (bkS d most (tv d s 3 / 2) (tk d s 3)) (if tv d s 3 % 2 = 1 then bkS d most (tv d s 3 / 2) (tk d s 3) else rwS d most f (bkS d most (tv d s 3 / 2) (tk d s 3))) := by
      split
      · exact Le.rfl' _
      · exact rwS_le _ _ _ _
    obtain ⟨ht, htv⟩ := tk_sim (n := 3) hg h h' h1'
    rcases ht with ⟨q, q2⟩ | q
    · have q3 : (tk d' s 3).e = 0 := by rw [q]; exact h1'
      rw [if_neg (show ¬ (tk d' s 3).e ≠ 0 by omega), htv q3, if_neg h2, q]
      rcases bkS_sim (most' := most') hg hok q2 h3' with ⟨r, r2⟩ | r
      · rw [r, if_neg h3]
        by_cases hl : tv d s 3 % 2 = 1
        · rw [if_pos hl, if_pos hl]
          exact .inl ⟨rfl, r2⟩
        · rw [if_neg hl] at hA ⊢
          rw [if_neg hl]
          have := hle.t
          exact rwS_sim hg f f' _ hok2 r2 (by omega) (by omega) hA
      · rw [if_pos (bad r)]
        exact Sm.err r hle2 (fun _ => rfl)
    · rw [if_pos (bad q)]
      exact Sm.err q (hle.tr hle2) (fun _ => rfl)
/-- All of it, read twice. -/
theorem rawS_sim (hg : Ag d d') (hA : (rawS d most).e = 0) : Sm d' most' (rawS d most) (rawS d' most') :=
  rwS_sim hg _ _ _ ⟨rfl, Nat.zero_le _, Nat.zero_le _⟩ ⟨rfl, Nat.zero_le _, Nat.zero_le _⟩ (by omega) (by omega) hA
theorem ag_app (a b : List UInt8) : Ag a (a ++ b) := by
  intro t n h1 _
  rw [val_append']
  obtain ⟨k, hk⟩ : ∃ k, 8 * a.length = t + n + k := ⟨8 * a.length - t - n, by omega⟩
  rw [hk, Nat.pow_add, Nat.pow_add, Nat.mul_assoc, Nat.mul_assoc, Nat.add_mul_div_left _ _ (Nat.pow_pos (by decide)), Nat.add_mul_mod_self_left]
where
  val_append' {a b : List UInt8} : val (a ++ b) = val a + 2 ^ (8 * a.length) * val b := by
    induction a with
    | nil => simp [val]
    | cons x a ih =>
      rw [List.cons_append, val, val, ih, List.length_cons, Nat.mul_add, Nat.mul_succ, Nat.pow_add, Nat.mul_comm (2 ^ (8 * a.length)) (2 ^ 8), Nat.mul_assoc]
      omega
theorem Ag.symm (h : Ag d d') : Ag d' d := fun t n h1 h2 => (h t n h2 h1).symm
end
end Go.If
