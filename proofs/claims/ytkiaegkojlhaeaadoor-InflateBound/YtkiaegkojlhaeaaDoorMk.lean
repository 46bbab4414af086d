/- Blocks read twice, under other bounds. It proves no statement by itself. No conditions. -/
import Derived.Test.YtkiaegkojlhaeaaDoorMj
namespace Go.If
open Go.Vx Go.Hf
set_option linter.all false
section
variable [W0] {d d' : List UInt8} {most most' : Nat}
theorem Sm.self' {s1 : S6} (h : Sm d most s1 s1) (he : s1.e = 0) : Ok d most s1 := h.self he
theorem tk_ok' {s : S6} {n : Nat} (h : Ok d most s) (hA : (tk d s n).e = 0) : Ok d most (tk d s n) := (tk_sim (most := most) (most' := most) Ag.refl h h hA).1.self hA
theorem sy_ok' {s : S6} {l : List Nat} (h : Ok d most s) (hA : (sy d s l).e = 0) : Ok d most (sy d s l) := (sy_sim (most := most) (most' := most) Ag.refl h h hA).1.self hA
theorem tk_e {s : S6} {n : Nat} (he : s.e ≠ 0) : (tk d s n).e = s.e := tk_err he
/-- The error of what went wrong is the one that is told. -/
theorem ne0 {s : S6} {P : Prop} (h : s.e = 0 → P) (hn : ¬ P) : s.e ≠ 0 := fun he => hn (h he)
theorem lnS_sim (hg : Ag d d') {s : S6} {k : Nat} (h : Ok d most s) (h' : Ok d' most' s) (hk : ¬ 285 < k) (hA : (tk d s (lnB k).2).e = 0) : Sm d' most' (tk d s (lnB k).2) (tk d' s (lnB k).2) ∧ ((tk d' s (lnB k).2).e = 0 → tv d' s (lnB k).2 = tv d s (lnB k).2) := tk_sim hg h h' hA
theorem dsS_le (s : S6) (dl : List Nat) : Le s (dsS d dl s) := by
  unfold dsS
  have h1 := sy_le d s dl
  split
  · exact h1
  · split
    · exact h1.tr (fl_le _ _)
    · exact h1.tr (tk_le _ _ _)
theorem dsS_sim (hg : Ag d d') {s : S6} {dl : List Nat} (h : Ok d most s) (h' : Ok d' most' s) (hA : (dsS d dl s).e = 0) : Sm d' most' (dsS d dl s) (dsS d' dl s) ∧ ((dsS d' dl s).e = 0 → dsV d' dl s = dsV d dl s) := by
  have hle := tk_le d (sy d s dl) (exB (sv d s dl) 2 4)
  unfold dsS dsV at *
  by_cases h1 : (sy d s dl).e ≠ 0
  · rw [if_pos h1] at hA; exact absurd hA h1
  have h1' : (sy d s dl).e = 0 := by omega
  rw [if_neg h1] at hA ⊢
  by_cases h2 : 29 < sv d s dl
  · rw [if_pos h2, fl_e, if_pos h1'] at hA; cases hA
  rw [if_neg h2] at hA ⊢
  obtain ⟨hs, hsv⟩ := sy_sim (l := dl) hg h h' h1'
  have hok := sy_ok' h h1'
  rcases hs with ⟨q, q2⟩ | q
  · have q3 : (sy d' s dl).e = 0 := by rw [q]; exact h1'
    rw [if_neg (by omega), hsv q3, if_neg h2, q]
    obtain ⟨ht, htv⟩ := tk_sim (n := exB (sv d s dl) 2 4) hg hok q2 hA
    exact ⟨ht, fun he => by rw [htv he]⟩
  · have q3 : (sy d' s dl).e ≠ 0 := by rcases q with ⟨q, _⟩ | ⟨q, _⟩ <;> rw [q] <;> decide
    rw [if_pos q3]
    exact ⟨Sm.err q hle (fun _ => rfl), fun he => absurd he q3⟩
theorem mtS_sim (hg : Ag d d') {s : S6} {k : Nat} {dl : List Nat} (h : Ok d most s) (h' : Ok d' most' s) (hA : (mtS d most k dl s).e = 0) : Sm d' most' (mtS d most k dl s) (mtS d' most' k dl s) := by
  by_cases h285 : 285 < k
  · rw [mtS_over h285, fl_e, if_pos h.e] at hA; cases hA
  have hln : lnS d k s = tk d s (lnB k).2 := by unfold lnS; rw [if_neg h285]
  have hln' : lnS d' k s = tk d' s (lnB k).2 := by unfold lnS; rw [if_neg h285]
  have h1 : (tk d s (lnB k).2).e = 0 := by
    by_cases h1 : (lnS d k s).e = 0
    · rwa [hln] at h1
    · rw [mtS_err1 h1] at hA; exact absurd hA h1
  have h2 : (dsS d dl (tk d s (lnB k).2)).e = 0 := by
    by_cases h2 : (dsS d dl (tk d s (lnB k).2)).e = 0
    · exact h2
    · rw [mtS_err2 h285 h2] at hA; exact absurd hA h2
  have hm := mtS_ok (most := most) (k := k) h285 h2
  rw [hm] at hA
  have hfar : ¬ (dsS d dl (tk d s (lnB k).2)).out.length < dsV d dl (tk d s (lnB k).2) := by
    intro hf
    rw [if_pos hf] at hA
    have e3 : (fl (dsS d dl (tk d s (lnB k).2)) 3).e = 3 := fl3 h2 3
    rw [cpL_err (by rw [e3]; decide), e3] at hA
    cases hA
  rw [if_neg hfar] at hA hm
  rw [hm]
  obtain ⟨ht, htv⟩ := tk_sim (n := (lnB k).2) hg h h' h1
  have hok1 := tk_ok' h h1
  rcases ht with ⟨q, q2⟩ | q
  · have q3 : (tk d' s (lnB k).2).e = 0 := by rw [q]; exact h1
    obtain ⟨hd, hdv⟩ := dsS_sim (dl := dl) hg hok1 q2 h2
    have hok2 : Ok d most (dsS d dl (tk d s (lnB k).2)) := (dsS_sim (most' := most) Ag.refl hok1 hok1 h2).1.self h2
    rcases hd with ⟨r, r2⟩ | r
    · have r3 : (dsS d' dl (tk d' s (lnB k).2)).e = 0 := by rw [q, r]; exact h2
      have r4 : (dsS d' dl (tk d s (lnB k).2)).e = 0 := by rw [r]; exact h2
      rw [mtS_ok h285 r3, htv q3, q, hdv r4, r, if_neg hfar]
      exact cpL_sim _ _ hok2 r2 hA
    · have r4 : (dsS d' dl (tk d s (lnB k).2)).e ≠ 0 := by rcases r with ⟨r, _⟩ | ⟨r, _⟩ <;> rw [r] <;> decide
      have r3 := mtS_err2 (most := most') (d := d') (s := s) (dl := dl) h285 (by rw [q]; exact r4)
      refine Sm.err r (cpL_le _ _ _ _) (fun _ => ?_)
      rw [r3, q]
  · have q3 : (tk d' s (lnB k).2).e ≠ 0 := by rcases q with ⟨q, _⟩ | ⟨q, _⟩ <;> rw [q] <;> decide
    refine Sm.err q ((dsS_le _ _).tr (cpL_le _ _ _ _)) (fun _ => ?_)
    rw [mtS_err1 (by rw [hln']; exact q3), hln']
theorem cdC_sim (hg : Ag d d') {l dl : List Nat} : ∀ f f' (s : S6), Ok d most s → Ok d' most' s → 8 * d.length < f + s.t → 8 * d'.length < f' + s.t → (cdC d most l dl f s).e = 0 → Sm d' most' (cdC d most l dl f s) (cdC d' most' l dl f' s)
  | 0, f', s, h, h', hf, hf', hA => by have := h.t; omega
  | f + 1, 0, s, h, h', hf, hf', hA => by have := h'.t; omega
  | f + 1, f' + 1, s, h, h', hf, hf', hA => by
    rw [cdC, if_neg (show ¬ s.e ≠ 0 from fun hh => hh h.e)] at hA ⊢
    rw [cdC, if_neg (show ¬ s.e ≠ 0 from fun hh => hh h.e)]
    by_cases h1 : (sy d s l).e ≠ 0
    · rw [if_pos h1] at hA; exact absurd hA h1
    have h1' : (sy d s l).e = 0 := by omega
    rw [if_neg h1] at hA ⊢
    have hgo := sy_go h.e h1'
    have hok := sy_ok' h h1'
    obtain ⟨hs, hsv⟩ := sy_sim (l := l) hg h h' h1'
    rcases hs with ⟨q, q2⟩ | q
    · have q3 : (sy d' s l).e = 0 := by rw [q]; exact h1'
      rw [if_neg (show ¬ (sy d' s l).e ≠ 0 by omega), hsv q3, q]
      by_cases hk : sv d s l < 256
      · rw [if_pos hk] at hA ⊢
        rw [if_pos hk]
        generalize UInt8.ofNat (sv d s l) = c at hA ⊢
        have hp : (pt most (sy d s l) c).e = 0 := by
          by_cases hp : (pt most (sy d s l) c).e = 0
          · exact hp
          · rw [cdC_err hp] at hA; exact absurd hA hp
        have hpt := pt_t most (sy d s l) c
        have hok2 := (pt_sim (d' := d) (most' := most) hok hok hp).self hp
        rcases pt_sim (d' := d') (most' := most') hok q2 hp with ⟨r, r2⟩ | r
        · rw [r]; exact cdC_sim hg f f' _ hok2 r2 (by omega) (by omega) hA
        · exact Sm.err r (cdC_le _ _ _ _ _ _) (fun he => by rw [cdC_err he])
      · rw [if_neg hk] at hA ⊢
        rw [if_neg hk]
        by_cases hk2 : sv d s l = 256
        · rw [if_pos hk2, if_pos hk2]
          exact .inl ⟨rfl, q2⟩
        · rw [if_neg hk2] at hA ⊢
          rw [if_neg hk2]
          have hp : (mtS d most (sv d s l) dl (sy d s l)).e = 0 := by
            by_cases hp : (mtS d most (sv d s l) dl (sy d s l)).e = 0
            · exact hp
            · rw [cdC_err hp] at hA; exact absurd hA hp
          have hpt := mtS_t d most (sv d s l) dl (sy d s l)
          have hok2 := (mtS_sim (d' := d) (most' := most) Ag.refl hok hok hp).self hp
          rcases mtS_sim (d' := d') (most' := most') hg hok q2 hp with ⟨r, r2⟩ | r
          · rw [r]; exact cdC_sim hg f f' _ hok2 r2 (by omega) (by omega) hA
          · exact Sm.err r (cdC_le _ _ _ _ _ _) (fun he => by rw [cdC_err he])
    · have q3 : (sy d' s l).e ≠ 0 := by rcases q with ⟨q, _⟩ | ⟨q, _⟩ <;> rw [q] <;> decide
      rw [if_pos q3]
      refine Sm.err q ?_ (fun _ => rfl)
      split
      · exact (pt_le _ _ _).tr (cdC_le _ _ _ _ _ _)
      · split
        · exact Le.rfl' _
        · exact (mtS_le _ _ _ _ _).tr (cdC_le _ _ _ _ _ _)
theorem stL_sim (hg : Ag d d') : ∀ k (s : S6), Ok d most s → Ok d' most' s → (stL d most k s).e = 0 → Sm d' most' (stL d most k s) (stL d' most' k s)
  | 0, s, h, h', _ => .inl ⟨rfl, h'⟩
  | k + 1, s, h, h', hA => by
    rw [stL, if_pos h.e] at hA ⊢
    rw [stL, if_pos h.e]
    by_cases h1 : (tk d s 8).e = 0
    · rw [if_pos h1] at hA ⊢
      have hok := tk_ok' h h1
      have hp : (pt most (tk d s 8) (UInt8.ofNat (tv d s 8))).e = 0 := by
        by_cases hp : (pt most (tk d s 8) (UInt8.ofNat (tv d s 8))).e = 0
        · exact hp
        · rw [stL_err hp] at hA; exact absurd hA hp
      have hok2 := (pt_sim (d' := d) (most' := most) hok hok hp).self hp
      obtain ⟨ht, htv⟩ := tk_sim (n := 8) hg h h' h1
      rcases ht with ⟨q, q2⟩ | q
      · have q3 : (tk d' s 8).e = 0 := by rw [q]; exact h1
        rw [if_pos q3, htv q3, q]
        rcases pt_sim (d' := d') (most' := most') hok q2 hp with ⟨r, r2⟩ | r
        · rw [r]; exact stL_sim hg k _ hok2 r2 hA
        · exact Sm.err r (stL_le _ _ _ _) (fun he => by rw [stL_err he])
      · have q3 : (tk d' s 8).e ≠ 0 := by rcases q with ⟨q, _⟩ | ⟨q, _⟩ <;> rw [q] <;> decide
        rw [if_neg q3]
        exact Sm.err q ((pt_le _ _ _).tr (stL_le _ _ _ _)) (fun he => by rw [stL_err he])
    · rw [if_neg h1, stL_err h1] at hA
      exact absurd hA h1
theorem stS_sim (hg : Ag d d') {s : S6} (h : Ok d most s) (h' : Ok d' most' s) (hA : (stS d most s).e = 0) : Sm d' most' (stS d most s) (stS d' most' s) := by
  have a0 : Ok d most ⟨8 * ((s.t + 7) / 8), s.out, s.e⟩ := ⟨h.e, by have := h.t; simp only; omega, h.o⟩
  have a0' : Ok d' most' ⟨8 * ((s.t + 7) / 8), s.out, s.e⟩ := ⟨h.e, by have := h'.t; simp only; omega, h'.o⟩
  have h1 : (tk d ⟨8 * ((s.t + 7) / 8), s.out, s.e⟩ 16).e = 0 := by
    by_cases h1 : (tk d ⟨8 * ((s.t + 7) / 8), s.out, s.e⟩ 16).e = 0
    · exact h1
    · rw [stS_1 h1] at hA; exact absurd hA h1
  have h2 : (tk d (tk d ⟨8 * ((s.t + 7) / 8), s.out, s.e⟩ 16) 16).e = 0 := by
    by_cases h2 : (tk d (tk d ⟨8 * ((s.t + 7) / 8), s.out, s.e⟩ 16) 16).e = 0
    · exact h2
    · rw [stS_2 h2] at hA; exact absurd hA h2
  have h3 : tv d ⟨8 * ((s.t + 7) / 8), s.out, s.e⟩ 16 + tv d (tk d ⟨8 * ((s.t + 7) / 8), s.out, s.e⟩ 16) 16 = 65535 := by
    by_cases h3 : tv d ⟨8 * ((s.t + 7) / 8), s.out, s.e⟩ 16 + tv d (tk d ⟨8 * ((s.t + 7) / 8), s.out, s.e⟩ 16) 16 = 65535
    · exact h3
    · rw [stS_3 h2 h3] at hA; cases hA
  rw [stS_4 h3] at hA ⊢
  have b1 := stS_1 (d := d') (most := most') (s := s)
  have b2 := stS_2 (d := d') (most := most') (s := s)
  have b4 := stS_4 (d := d') (most := most') (s := s)
  generalize (⟨8 * ((s.t + 7) / 8), s.out, s.e⟩ : S6) = s0 at *
  have hok1 := tk_ok' a0 h1
  have hok2 := tk_ok' hok1 h2
  obtain ⟨ht, htv⟩ := tk_sim (n := 16) hg a0 a0' h1
  rcases ht with ⟨q, q2⟩ | q
  · have q3 : (tk d' s0 16).e = 0 := by rw [q]; exact h1
    obtain ⟨hu, huv⟩ := tk_sim (n := 16) hg hok1 q2 h2
    rcases hu with ⟨r, r2⟩ | r
    · have r3 : (tk d' (tk d s0 16) 16).e = 0 := by rw [r]; exact h2
      have h3' : tv d' s0 16 + tv d' (tk d' s0 16) 16 = 65535 := by rw [q, htv q3, huv r3]; exact h3
      rw [b4 h3', htv q3, q, r]
      exact stL_sim hg _ _ hok2 r2 hA
    · have r3 : (tk d' (tk d s0 16) 16).e ≠ 0 := by rcases r with ⟨r, _⟩ | ⟨r, _⟩ <;> rw [r] <;> decide
      refine Sm.err r (stL_le _ _ _ _) (fun _ => ?_)
      rw [b2 (by rw [q]; exact r3), q]
  · have q3 : (tk d' s0 16).e ≠ 0 := by rcases q with ⟨q, _⟩ | ⟨q, _⟩ <;> rw [q] <;> decide
    exact Sm.err q ((tk_le _ _ _).tr (stL_le _ _ _ _)) (fun _ => b1 q3)
end
end Go.If
