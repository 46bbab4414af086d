/- Contracts and facts on the way to the top. It proves no statement by itself. No conditions. -/
import Derived.Test.YtbdpjbmfhnbheaaPF1
namespace Go.So
set_option linter.all false
variable {α : Type}
def Blk (key : α → Nat) (s n : Nat) (f : Nat → α) : Prop := ∀ c, s ∣ c → Srt key c (min (c + s) n) f
theorem dvd_step {d c a : Nat} (h1 : d ∣ c) (h2 : d ∣ a) (h : c < a) : c + d ≤ a := by
  obtain ⟨x, rfl⟩ := h1
  obtain ⟨y, rfl⟩ := h2
  have hxy : x < y := by
    rcases Nat.lt_or_ge x y with h' | h'
    · exact h'
    · have := Nat.mul_le_mul_left d h'
      omega
  have := Nat.mul_le_mul_left d hxy
  rw [Nat.mul_succ] at this
  exact this
structure Half (key : α → Nat) (s n a : Nat) (f : Nat → α) : Prop where
  al : 2 * s ∣ a
  le : a ≤ n
  lo : ∀ c, 2 * s ∣ c → c + 2 * s ≤ a → Srt key c (c + 2 * s) f
  hi : ∀ c, s ∣ c → a ≤ c → Srt key c (min (c + s) n) f
theorem Half.start {key : α → Nat} {s n : Nat} {f : Nat → α} (hs : 0 < s) (h : Blk key s n f) : Half key s n 0 f := ⟨Nat.dvd_zero _, Nat.zero_le _, fun c hc h2 => by omega, fun c hc _ => h c hc⟩
theorem Half.dv {key : α → Nat} {s n a : Nat} {f : Nat → α} (h : Half key s n a f) : s ∣ a := Nat.dvd_trans (Nat.dvd_mul_left s 2) h.al
theorem Half.two {key : α → Nat} {s n a : Nat} {f : Nat → α} (h : Half key s n a f) (hb : a + s ≤ n) : Srt key a (a + s) f ∧ Srt key (a + s) (min (a + 2 * s) n) f := by
  have h1 := h.hi a h.dv (Nat.le_refl _)
  have h2 := h.hi (a + s) (Nat.dvd_add h.dv (Nat.dvd_refl s)) (by omega)
  rw [Nat.min_eq_left hb] at h1
  rw [show a + s + s = a + 2 * s from by omega] at h2
  exact ⟨h1, h2⟩
theorem Half.step {key : α → Nat} {s n a : Nat} {f g : Nat → α} (hs : 0 < s) (h : Half key s n a f) (hb : a + 2 * s ≤ n) (hm : Mv a (a + 2 * s) f g) (ho : Srt key a (a + 2 * s) g) : Half key s n (a + 2 * s) g := by
  refine ⟨Nat.dvd_add h.al (Nat.dvd_refl _), hb, fun c hc h2 => ?_, fun c hc h2 => ?_⟩
  · by_cases e : c = a
    · rw [e]; exact ho
    · have h3 : c < a := by omega
      have h4 := dvd_step hc h.al h3
      exact (h.lo c hc h4).congr fun k p q => hm.out (.inl (by omega))
  · exact (h.hi c hc (by omega)).congr fun k p q => hm.out (.inr (by omega))
theorem Half.fin {key : α → Nat} {s n a : Nat} {f g : Nat → α} (hs : 0 < s) (h : Half key s n a f) (hb : n < a + 2 * s) (hm : Mv a n f g) (ho : Srt key a n g) : Blk key (2 * s) n g := by
  intro c hc
  by_cases e : c < a
  · have h4 := dvd_step hc h.al e
    rw [Nat.min_eq_left (by have := h.le; omega)]
    exact (h.lo c hc h4).congr fun k p q => hm.out (.inl (by omega))
  · by_cases e2 : c = a
    · rw [e2, Nat.min_eq_right (by omega)]; exact ho
    · have h4 := dvd_step h.al hc (by omega)
      intro i j p q r
      omega
end Go.So
namespace Go.Proofs.Ytbdpjbmfhnbheaa
open Go Go.Vx Go.So
variable [W0]
set_option maxRecDepth 4000
set_option linter.all false
theorem insert_nil (v : Value) (L : List Chunk) : GvP Try.prog 60 [v, .int .i64 0, .int .i64 0, cmpV].toArray L (.tuple #[]) := by
  refine Gv.of_body Try.func60 rfl rfl ?_
  (repeat' first|refine kW ?_|refine kU fun bk=>?_|refine kV fun hc=>?_|refine kZ (fun hc=>?_) fun hc=>?_|fail)
  refine WC_loop (X := Unit) (fun _ => [(2, .int .i64 0), (8, .int .i64 1)]) (fun _ => L) (fun _ => True) (fun _ => 0) () trivial iS (fun w h => h) ?_
  intro _ _
  (repeat' first|refine kW ?_|refine kU fun bk=>?_|refine kV fun hc=>?_|refine kZ (fun hc=>?_) fun hc=>?_|fail)
  exact kE
set_option maxHeartbeats 8000000 in
theorem stable_c (f : Nat → Nat × Nat) (N b0 cap : Nat) (rest : List Value) (L : List Chunk) (hN : N ≤ 1000) :
    Gv Try.prog 54 [.slice (some ⟨b0, 0, none⟩) N cap, .int .i64 (N : Int), cmpV].toArray ([(b0, cl (cvs f N ++ rest) 63)] :: L)
      (fun r L' => r = .tuple #[] ∧ ∃ g, Mv 0 N f g ∧ Srt ky 0 N g ∧ L' = [(b0, cl (cvs g N ++ rest) 63)] :: L) := by
  refine Gv.of_body Try.func54 rfl rfl ?_
  (repeat' first|refine kW ?_|refine kU fun bk=>?_|refine kV fun hc=>?_|refine kZ (fun hc=>?_) fun hc=>?_|fail)
  refine WC_loop (X := Nat × (Nat → Nat × Nat)) (fun x => [(0, .slice (some ⟨b0, 0, none⟩) N cap), (1, .int .i64 (N : Int)), (2, cmpV), (6, .int .i64 20), (7, .int .i64 (x.1 : Int)), (8, .int .i64 ((x.1 + 20 : Nat) : Int))])
    (fun x => [(b0, cl (cvs x.2 N ++ rest) 63)] :: L) (fun x => 20 ∣ x.1 ∧ x.1 ≤ N ∧ Mv 0 N f x.2 ∧ ∀ c, 20 ∣ c → c + 20 ≤ x.1 → Srt ky c (c + 20) x.2) (fun x => N - x.1) (0, f)
    ⟨Nat.dvd_zero _, Nat.zero_le _, .refl f, fun c hc h => by simp only at h; omega⟩ iS (fun w h => h) ?_
  rintro ⟨a, g⟩ ⟨q1, q2, q3, q4⟩
  simp only at q1 q2 q3 q4 ⊢
  (repeat' first|refine kW ?_|refine kU fun bk=>?_|refine kV fun hc=>?_|refine kZ (fun hc=>?_) fun hc=>?_|fail)
  · refine OW_call rfl rfl rfl (insert_c g N b0 cap a (a + 20) rest L hN (by omega) (by omega)) rfl (fun r L' hp => ?_)
    obtain ⟨rfl, g1, hg1, hg2, rfl⟩ := hp
    (repeat' first|refine kW ?_|refine kU fun bk=>?_|refine kV fun hc=>?_|refine kZ (fun hc=>?_) fun hc=>?_|fail)
    refine WQ_round (X := Nat × (Nat → Nat × Nat)) (μ := fun x => N - x.1) (x := (a, g)) (a + 20, g1) (by simp only; omega) ⟨Nat.dvd_add q1 (Nat.dvd_refl _), by simp only; omega, q3.trans (hg1.mono (Nat.zero_le _) (by omega)), fun c hc h => ?_⟩ iS (fun w h => h)
    simp only at h
    by_cases e : c = a
    · rw [e]; exact hg2
    · have h4 := dvd_step hc q1 (by omega)
      exact (q4 c hc h4).congr fun k p q => hg1.out (.inl (by omega))
  · refine OW_call rfl rfl rfl (insert_c g N b0 cap a N rest L hN q2 (Nat.le_refl _)) rfl (fun r L' hp => ?_)
    obtain ⟨rfl, g1, hg1, hg2, rfl⟩ := hp
    have hblk : Blk ky 20 N g1 := by
      intro c hc
      by_cases e : c < a
      · have h4 := dvd_step hc q1 e
        rw [Nat.min_eq_left (by omega)]
        exact (q4 c hc h4).congr fun k p q => hg1.out (.inl (by omega))
      · by_cases e2 : c = a
        · rw [e2, Nat.min_eq_right (by omega)]; exact hg2
        · have h4 := dvd_step q1 hc (by omega)
          intro i j p q r
          omega
    have hmv : Mv 0 N f g1 := q3.trans (hg1.mono (Nat.zero_le _) (Nat.le_refl _))
    clear hg1 hg2 q1 q2 q3 q4
    (repeat' first|refine kW ?_|refine kU fun bk=>?_|refine kV fun hc=>?_|refine kZ (fun hc=>?_) fun hc=>?_|fail)
    refine WC_loop (X := Nat × (Nat → Nat × Nat)) (fun x => [(0, .slice (some ⟨b0, 0, none⟩) N cap), (1, .int .i64 (N : Int)), (2, cmpV), (6, .int .i64 (x.1 : Int))])
      (fun x => [(b0, cl (cvs x.2 N ++ rest) 63)] :: L) (fun x => 0 < x.1 ∧ Mv 0 N f x.2 ∧ Blk ky x.1 N x.2) (fun x => N - x.1) (20, g1)
      ⟨by simp only; omega, hmv, hblk⟩ iS (fun w h => h) ?_
    rintro ⟨s, g2⟩ ⟨r1, r2, r3⟩
    simp only at r1 r2 r3 ⊢
    (repeat' first|refine kW ?_|refine kU fun bk=>?_|refine kV fun hc=>?_|refine kZ (fun hc=>?_) fun hc=>?_|fail)
    · refine WC_loop (X := Nat × (Nat → Nat × Nat)) (fun x => [(0, .slice (some ⟨b0, 0, none⟩) N cap), (1, .int .i64 (N : Int)), (2, cmpV), (6, .int .i64 (s : Int)), (7, .int .i64 (x.1 : Int)), (8, .int .i64 ((x.1 + 2 * s : Nat) : Int))])
        (fun x => [(b0, cl (cvs x.2 N ++ rest) 63)] :: L) (fun x => Mv 0 N f x.2 ∧ Half ky s N x.1 x.2) (fun x => N - x.1) (0, g2)
        ⟨r2, Half.start r1 r3⟩ iS (fun w h => h) ?_
      rintro ⟨a2, g3⟩ ⟨t1, t2⟩
      simp only at t1 t2 ⊢
      have t3 := t2.le
      (repeat' first|refine kW ?_|refine kU fun bk=>?_|refine kV fun hc=>?_|refine kZ (fun hc=>?_) fun hc=>?_|fail)
      · rw [show (a2 : Int) + (s : Int) = ((a2 + s : Nat) : Int) from by omega]
        obtain ⟨u1, u2⟩ := t2.two (by omega)
        rw [Nat.min_eq_left (by omega)] at u2
        refine OW_call rfl rfl rfl (merge_c N hN (2 * s) g3 b0 cap a2 (a2 + s) (a2 + 2 * s) rest L (by omega) (by omega) (by omega) (by omega) u1 u2) rfl (fun r L' hp => ?_)
        obtain ⟨rfl, g4, hg1, hg2, rfl⟩ := hp
        (repeat' first|refine kW ?_|refine kU fun bk=>?_|refine kV fun hc=>?_|refine kZ (fun hc=>?_) fun hc=>?_|fail)
        refine WQ_round (X := Nat × (Nat → Nat × Nat)) (μ := fun x => N - x.1) (x := (a2, g3)) (a2 + 2 * s, g4) (by simp only; omega) ⟨t1.trans (hg1.mono (Nat.zero_le _) (by omega)), t2.step r1 (by omega) hg1 hg2⟩ iS (fun w h => h)
      · rw [show (a2 : Int) + (s : Int) = ((a2 + s : Nat) : Int) from by omega]
        obtain ⟨u1, u2⟩ := t2.two (by omega)
        rw [Nat.min_eq_right (by omega)] at u2
        refine OW_call rfl rfl rfl (merge_c N hN N g3 b0 cap a2 (a2 + s) N rest L (by omega) (by omega) (by omega) (Nat.le_refl _) u1 u2) rfl (fun r L' hp => ?_)
        obtain ⟨rfl, g4, hg1, hg2, rfl⟩ := hp
        (repeat' first|refine kW ?_|refine kU fun bk=>?_|refine kV fun hc=>?_|refine kZ (fun hc=>?_) fun hc=>?_|fail)
        refine WQ_round (X := Nat × (Nat → Nat × Nat)) (μ := fun x => N - x.1) (x := (s, g2)) (2 * s, g4) (by simp only; omega) ⟨by simp only; omega, t1.trans (hg1.mono (Nat.zero_le _) (Nat.le_refl _)), t2.fin r1 (by omega) hg1 hg2⟩ iS (fun w h => h)
      · have u1 := t2.hi a2 t2.dv (Nat.le_refl _)
        rw [Nat.min_eq_right (by omega)] at u1
        refine WQ_round (X := Nat × (Nat → Nat × Nat)) (μ := fun x => N - x.1) (x := (s, g2)) (2 * s, g3) (by simp only; omega) ⟨by simp only; omega, t1, t2.fin r1 (by omega) (.refl g3) u1⟩ iS (fun w h => h)
    · have u1 := r3 0 (Nat.dvd_zero _)
      rw [Nat.min_eq_right (by omega)] at u1
      refine kR ?_
      exact ⟨_, iC, rfl, g2, r2, u1, rfl⟩
theorem stable_nil (v : Value) (L : List Chunk) : GvP Try.prog 54 [v, .int .i64 0, cmpV].toArray L (.tuple #[]) := by
  refine Gv.of_body Try.func54 rfl rfl ?_
  (repeat' first|refine kW ?_|refine kU fun bk=>?_|refine kV fun hc=>?_|refine kZ (fun hc=>?_) fun hc=>?_|fail)
  refine WC_loop (X := Unit) (fun _ => [(0, v), (1, .int .i64 0), (2, cmpV), (6, .int .i64 20), (7, .int .i64 0), (8, .int .i64 20)]) (fun _ => L) (fun _ => True) (fun _ => 0) () trivial iS (fun w h => h) ?_
  intro _ _
  (repeat' first|refine kW ?_|refine kU fun bk=>?_|refine kV fun hc=>?_|refine kZ (fun hc=>?_) fun hc=>?_|fail)
  refine OW_callP rfl rfl rfl (insert_nil v L) rfl ?_
  (repeat' first|refine kW ?_|refine kU fun bk=>?_|refine kV fun hc=>?_|refine kZ (fun hc=>?_) fun hc=>?_|fail)
  refine WC_loop (X := Unit) (fun _ => [(1, .int .i64 0), (6, .int .i64 20)]) (fun _ => L) (fun _ => True) (fun _ => 0) () trivial iS (fun w h => h) ?_
  intro _ _
  (repeat' first|refine kW ?_|refine kU fun bk=>?_|refine kV fun hc=>?_|refine kZ (fun hc=>?_) fun hc=>?_|fail)
  exact kE
theorem sortst_c (f : Nat → Nat × Nat) (N b0 cap : Nat) (rest : List Value) (L : List Chunk) (hN : N ≤ 1000) :
    Gv Try.prog 45 [.slice (some ⟨b0, 0, none⟩) N cap, cmpV].toArray ([(b0, cl (cvs f N ++ rest) 63)] :: L)
      (fun r L' => r = .tuple #[] ∧ ∃ g, Mv 0 N f g ∧ Srt ky 0 N g ∧ L' = [(b0, cl (cvs g N ++ rest) 63)] :: L) := by
  refine Gv.of_body Try.func45 rfl rfl ?_
  (repeat' first|refine kW ?_|refine kU fun bk=>?_|refine kV fun hc=>?_|refine kZ (fun hc=>?_) fun hc=>?_|fail)
  refine OW_call rfl rfl rfl (stable_c f N b0 cap rest L hN) rfl (fun r L' hp => ?_)
  obtain ⟨rfl, g, h1, h2, rfl⟩ := hp
  (repeat' first|refine kW ?_|refine kU fun bk=>?_|refine kV fun hc=>?_|refine kZ (fun hc=>?_) fun hc=>?_|fail)
  refine kR ?_
  exact ⟨_, iC, rfl, g, h1, h2, rfl⟩
theorem sortst_nil (L : List Chunk) : GvP Try.prog 45 [.slice none 0 0, cmpV].toArray L (.tuple #[]) := by
  refine Gv.of_body Try.func45 rfl rfl ?_
  (repeat' first|refine kW ?_|refine kU fun bk=>?_|refine kV fun hc=>?_|refine kZ (fun hc=>?_) fun hc=>?_|fail)
  refine OW_callP rfl rfl rfl (stable_nil _ L) rfl ?_
  (repeat' first|refine kW ?_|refine kU fun bk=>?_|refine kV fun hc=>?_|refine kZ (fun hc=>?_) fun hc=>?_|fail)
  exact kE
end Go.Proofs.Ytbdpjbmfhnbheaa
namespace Go.Vx
open Go
set_option linter.all false
variable [W0]
omit [W0] in
/-- The fence that lets all in, in a round or outside one. -/
abbrev Fr (ro : Option Nat) : Fence := { Fence.wide with round := ro }
omit [W0] in
/-- Nothing is let out. -/
structure NL (Q : Exit → Act → World → Prop) : Prop where
  out : ∀ a w, ¬ Q .outgrown a w
theorem NL.then {Q : Exit → Act → World → Prop} {K : Act → World → Prop} (h : NL Q) : NL (Exit.then K Q) := ⟨h.out⟩
theorem NL.block {Q : Exit → Act → World → Prop} {i : Nat} (h : NL Q) : NL (Exit.inBlock i Q) := ⟨h.out⟩
omit [W0] in
/-- No call is put off. -/
def noDef (o : Oper) : Bool := match o.op with | .defer _ => false | _ => true
omit [W0] in
theorem noDef_ne {o : Oper} (h : noDef o = true) : ∀ c, o.op ≠ .defer c := fun c hc => by unfold noDef at h; rw [hc] at h; cases h
section
variable {P : Program} {n : Nat} {ro : Option Nat} {Q : Exit → Act → World → Prop} {M : List (Nat × Value)} {L : List Chunk} {K : List (Nat × Value) → List Chunk → Prop}
omit [W0] in
theorem rows_in {row : String} {args : Array Value} {w : World} {R : Value → World → Prop} (h : Rows P row args w R) : RowsIn (Fr ro) 0 P row args w R :=
  fun c cs _ => let ⟨v, w', r, s⟩ := h c cs; ⟨v, w', r, (stepsIn_wide (P := P)).2 s⟩
omit [W0] in
theorem calls_in {f : FuncId} {args : Array Value} {w : World} {R : Ending → World → Prop} {m : Nat} (h : Calls P f args w R) : CallsIn (Fr ro) m P f args w R := (callsIn_wide (n := m)).2 h
omit [W0] in
theorem upon_in {o : Oper} {a : Act} {next : Act → World → Prop} {r : Result Next} (h : o.upon P a next Q r) : o.uponIn (Fr ro) 0 P a next Q r := by
  cases r with
  | ok x w' =>
    cases x <;> simp only [Oper.upon] at h <;> simp only [Oper.uponIn] <;>
      first
        | exact h
        | exact ⟨fun hh => absurd (a := false = true) hh Bool.false_ne_true, (calls_in h).mono (fun e w'' he => by cases e <;> exact he)⟩
        | exact ⟨fun hh => absurd (a := false = true) hh Bool.false_ne_true, rows_in h⟩
        | exact False.elim h
  | halt x w' => cases x <;> simp only [Oper.upon] at h <;> simp only [Oper.uponIn] <;> exact h
omit [W0] in
theorem semAt_in {o : Oper} (hd : noDef o = true) (ρ : Operand → Value) : o.semAt ro ρ = execOp ρ o := Oper.semAt_eq ro ρ o (noDef_ne hd)
omit [W0] in
theorem wp_in {o : Oper} {a : Act} {w : World} {next : Act → World → Prop} (hd : noDef o = true) (h : o.wp P a w next Q) : o.wpIn (Fr ro) 0 P a w next Q := by
  refine ⟨fun _ _ => trivial, ?_⟩
  show o.uponIn (Fr ro) 0 P a next Q ((o.semAt ro a.eval).run P w)
  rw [semAt_in hd]
  exact upon_in h
omit [W0] in
theorem wpList_in {ops : Array Oper} (hN : NL Q) : ∀ {rest : List Oper} {a : Act} {w : World}, rest.all noDef = true → wpList P ops Q rest a w → wpListIn (Fr ro) 0 P ops Q rest a w
  | [], _, _, _, h => h
  | o :: rest, a, w, hd, h => by
    simp only [List.all_cons, Bool.and_eq_true] at hd
    unfold wpList at h
    unfold wpListIn
    split
    · rename_i hw
      rw [if_pos hw] at h
      rcases h with h | ⟨_, a', w', hl⟩
      · exact Oper.wpIn_mono (fun a w hh => wpList_in hN hd.2 hh) (wp_in hd.1 h)
      · exact absurd hl (hN.out a' w')
    · rename_i hw
      rw [if_neg hw] at h
      exact ⟨fun _ _ => trivial, wpList_in hN hd.2 h⟩
omit [W0] in
theorem wpOp_in {ops : Array Oper} (hN : NL Q) (hd : ∀ (i : Nat) (o : Oper), ops[i]? = some o → noDef o = true) {i : Nat} {K K' : Act → World → Prop} {a : Act} {w : World} (hk : ∀ a w, K a w → K' a w) (h : wpOp P ops Q i K a w) : wpOpIn (Fr ro) 0 P ops Q i K' a w := by
  unfold wpOp at h
  unfold wpOpIn
  split
  · rename_i ho; rw [ho] at h; exact hk _ _ h
  · rename_i o ho
    rw [ho] at h
    simp only at h
    split
    · rename_i hw
      rw [if_pos hw] at h
      rcases h with h | ⟨_, a', w', hl⟩
      · exact Oper.wpIn_mono hk (wp_in (hd i o ho) h)
      · exact absurd hl (hN.out a' w')
    · rename_i hw
      rw [if_neg hw] at h
      exact ⟨fun _ _ => trivial, hk _ _ h⟩
omit [W0] in
theorem wpAny_in {ops : Array Oper} {md : Region.Mode} (hN : NL Q) (hd : ∀ (i : Nat) (o : Oper), ops[i]? = some o → noDef o = true) : ∀ (fuel : Nat) (listed : Array Bool) (a : Act) (w : World), wpAny P md ops Q fuel listed a w → wpAnyIn (Fr ro) 0 P md ops Q fuel listed a w
  | 0, _, _, _, h => h
  | fuel + 1, listed, a, w, h => ⟨h.1, fun i hi => wpOp_in hN hd (fun a w hh => wpAny_in hN hd fuel _ a w hh) (h.2 i hi)⟩
structure Wic (P : Program) (n : Nat) (ro : Option Nat) (c : Code) (Q : Exit → Act → World → Prop) (M : List (Nat × Value)) (L : List Chunk) : Prop where
  out : ∀ a w, St n M a → Holds w L → c.wpIn (Fr ro) 0 P Q a w
structure Wjc (P : Program) (n : Nat) (ro : Option Nat) (ops : Array Oper) (Q : Exit → Act → World → Prop) (rest : List Oper) (M : List (Nat × Value)) (L : List Chunk) : Prop where
  out : ∀ a w, St n M a → Holds w L → wpListIn (Fr ro) 0 P ops Q rest a w
theorem Wic.holds {L' : List Chunk} {c : Code} (h : Wic P n ro c Q M L') (hl : ∀ w, Holds w L → Holds w L') : Wic P n ro c Q M L := ⟨fun a w ha hw => h.out a w ha (hl w hw)⟩
theorem Wic.sub {M' : List (Nat × Value)} {c : Code} (h : Wic P n ro c Q M' L) (hs : Sub M' M) : Wic P n ro c Q M L := ⟨fun a w ha hw => h.out a w (ha.sub hs) hw⟩
theorem WI_seq {x y : Code} (h : Wic P n ro x (Exit.then (y.wpIn (Fr ro) 0 P Q) Q) M L) : Wic P n ro (.seq x y) Q M L := ⟨fun a w ha hw => wpIn_seq (h.out a w ha hw)⟩
theorem WI_skip (h : WQ n (Q .normal) M L) : Wic P n ro .skip Q M L := ⟨fun a w ha hw => wpIn_skip (h.out a w ha hw)⟩
theorem WI_exit {id : Nat} (h : WQ n (Q (.exit id)) M L) : Wic P n ro (.exit id) Q M L := ⟨fun a w ha hw => wpIn_exit (h.out a w ha hw)⟩
theorem WI_ret (h : WQ n (Q .ret) M L) : Wic P n ro .ret Q M L := ⟨fun a w ha hw => wpIn_ret (h.out a w ha hw)⟩
theorem WI_block {id : Nat} {c : Code} (h : Wic P n ro c (Exit.inBlock id Q) M L) : Wic P n ro (.block id c) Q M L := ⟨fun a w ha hw => wpIn_block (h.out a w ha hw)⟩
theorem WI_cond {c : Operand} {x y : Code} {t : Bool} (hc : ev M c = some (.bool t)) (ht : t = true → Wic P n ro x Q M L) (hf : t = false → Wic P n ro y Q M L) :
    Wic P n ro (.cond c x y) Q M L := ⟨fun a w ha hw => wpIn_cond_split (ha.eval hc) (fun h => (ht h).out a w ha hw) (fun h => (hf h).out a w ha hw)⟩
theorem WI_true {c : Operand} {x y : Code} (hc : ev M c = some (.bool true)) (ht : Wic P n ro x Q M L) : Wic P n ro (.cond c x y) Q M L := ⟨fun a w ha hw => wpIn_cond_true (ha.eval hc) (ht.out a w ha hw)⟩
theorem WI_false {c : Operand} {x y : Code} (hc : ev M c = some (.bool false)) (ht : Wic P n ro y Q M L) : Wic P n ro (.cond c x y) Q M L := ⟨fun a w ha hw => wpIn_cond_false (ha.eval hc) (ht.out a w ha hw)⟩
theorem WI_region {id : Nat} {l : List Oper} (hN : NL Q) (hd : l.all noDef = true) (h : WL P n l.toArray Q l M L) : Wic P n ro (.region id l.toArray false) Q M L := ⟨fun a w ha hw => wpIn_region_lit (wpList_in hN hd (h.out a w ha hw))⟩
theorem WI_list {id : Nat} {l : List Oper} (h : Wjc P n ro l.toArray Q l M L) : Wic P n ro (.region id l.toArray false) Q M L := ⟨fun a w ha hw => wpIn_region_lit (h.out a w ha hw)⟩
theorem all_get {l : List Oper} (hd : l.all noDef = true) : ∀ (i : Nat) (o : Oper), l.toArray[i]? = some o → noDef o = true := fun i o h => by
  rw [List.getElem?_toArray] at h
  exact (List.all_eq_true.1 hd) o (List.mem_of_getElem? h)
theorem WI_draw (S : List Chunk) (T : List Nat) {id : Nat} {ops : List Oper} (hN : NL Q) (hd : ops.all noDef = true) (hm : P.follows .mixedOrders = true) (h : WR P n ops Q S T ops.length (Array.replicate ops.length false) M L) : Wic P n ro (.region id ops.toArray true) Q M L := ⟨fun a w ha hw => by
  refine wpIn_region_any hm (wpAny_in hN (all_get hd) _ _ _ _ (wpAny_of_T (S := fun w => Holds w S) (T := T) _ _ _ _ ?_))
  have := h.out a { w with drawn := w.drawn + 1 } ha (hw.same rfl rfl rfl)
  simpa using this⟩
theorem WJ_nil {ops : Array Oper} (h : WQ n (Q .normal) M L) : Wjc P n ro ops Q [] M L := ⟨fun a w ha hw => h.out a w ha hw⟩
theorem WJ_op {ops : Array Oper} {rest : List Oper} {o : Oper} (hg : o.guard = none) (hd : noDef o = true) (h : OW P n o (Wjc P n ro ops Q rest) M L) : Wjc P n ro ops Q (o :: rest) M L := ⟨fun a w ha hw => by
  unfold wpListIn
  rw [if_pos (by simp [Region.wanted, hg])]
  exact wp_in hd (h.out a w _ Q ha hw fun M' L' hk => ⟨hk.out⟩)⟩
theorem WQ_codeI {c : Code} (h : Wic P n ro c Q M L) : WQ n (c.wpIn (Fr ro) 0 P Q) M L := ⟨h.out⟩
theorem WI_loop {X : Type} {c : Code} (MI : X → List (Nat × Value)) (LI : X → List Chunk) (J : X → Prop) (μ : X → Nat) (x0 : X) (hJ : J x0) (hM : Sub (MI x0) M) (hL : ∀ w, Holds w L → Holds w (LI x0))
    (hround : ∀ x, J x → Wic P n ro c (Exit.then (fun a' w' => ∃ x', μ x' < μ x ∧ J x' ∧ St n (MI x') a' ∧ Holds w' (LI x')) Q) (MI x) (LI x)) : Wic P n ro (.loop c) Q M L := ⟨fun a w ha hw => by
  intro b k cs hro hb hr
  have key : ∀ m x, μ x = m → J x → ∀ a w, St n (MI x) a → Holds w (LI x) →
      ∃ e a' w', Q e a' w' ∧ ArrivesIn (Machine.fenced P (Fr ro)) P (lone (b.atR a (.code c :: .inLoop c :: k)) cs w) b k cs e a' w' := by
    intro m
    induction m using Nat.strongRecOn with
    | _ m ih =>
      intro x hm hx a w ha hw
      obtain ⟨e, a₁, w₁, hq, harr⟩ := (hround x hx).out a w ha hw b (.inLoop c :: k) cs hro hb hr
      subst hm
      cases e with
      | normal =>
        obtain ⟨x', hlt, hJ', ha', hw'⟩ := hq
        obtain ⟨e₂, a₂, w₂, hq₂, harr₂⟩ := ih (μ x') hlt x' rfl hJ' a₁ w₁ ha' hw'
        exact ⟨e₂, a₂, w₂, hq₂, .of_steps (StepsIn.trans harr (.one (fenced_calm hb hr rfl) stepR_inLoop)) harr₂⟩
      | exit id => exact ⟨_, a₁, w₁, hq, .pass (x := .inLoop c) rfl (fun _ _ => .inl (by simp)) harr⟩
      | goto l => exact ⟨_, a₁, w₁, hq, .pass (x := .inLoop c) rfl (fun _ _ => .inl (by simp)) harr⟩
      | ret => exact ⟨_, a₁, w₁, hq, .pass (x := .inLoop c) rfl (fun _ _ => .inl (by simp)) harr⟩
      | panic ch => exact ⟨_, a₁, w₁, hq, .pass (x := .inLoop c) rfl (fun _ _ => .inl (by simp)) harr⟩
      | outgrown => exact ⟨_, a₁, w₁, hq, .pass (x := .inLoop c) rfl (fun _ _ => .inl (by simp)) harr⟩
  obtain ⟨e, a', w', hq, harr⟩ := key _ x0 rfl hJ a w (ha.sub hM) (hL w hw)
  exact ⟨e, a', w', hq, .of_steps (.one (fenced_calm hb hr rfl) stepR_loop) harr⟩⟩
end
end Go.Vx
namespace Go.Vx
open Go
set_option linter.all false
variable [W0]
section
variable {P : Program} {n : Nat} {ro : Option Nat} {Q : Exit → Act → World → Prop} {M : List (Nat × Value)} {L : List Chunk} {K : List (Nat × Value) → List Chunk → Prop}
structure Yd (P : Program) (l : Nat) (args : List Value) (L : List Chunk) (post : List Chunk → Prop) : Prop where
  out : ∀ w, Holds w L → ∃ fn tmps assign body, (Instr.yield l args.toArray).run P w = .ok (.round l fn tmps assign body) w ∧
    RoundIn Fence.wide 0 P l fn tmps assign body w (fun e w' => e = .returned (.bool true) ∧ ∃ L', post L' ∧ Holds w' L')
theorem WJ_yield {ops : Array Oper} {rest : List Oper} {d l : Nat} {ty : TypeId} {ps : String} {af : Array Edge} {x : Operand} {xs : List Operand} {ats : Array TypeId} {vs : List Value} {post : List Chunk → Prop}
    (hx : ev M x = some (.func (.yield l) #[] #[])) (hvs : evs M xs = some vs) (hy : Yd P l vs L post) (hn : Nat.blt d n = true) (h : ∀ L', post L' → Wjc P n ro ops Q rest ((d, .bool true) :: M) L') :
    Wjc P n ro ops Q (⟨some d, .call ⟨.value x, xs.toArray, ats⟩, ty, ps, af, none⟩ :: rest) M L := ⟨fun a w ha hw => by
  unfold wpListIn
  rw [if_pos (by simp [Region.wanted])]
  refine ⟨fun _ _ => trivial, ?_⟩
  obtain ⟨fn, tmps, assign, body, hrun, hround⟩ := hy.out w hw
  have hr : (execOp a.eval ⟨some d, .call ⟨.value x, xs.toArray, ats⟩, ty, ps, af, none⟩).run P w = .ok (.round l fn tmps assign body) w := by
    have hm : Array.map a.eval xs.toArray = vs.toArray := by rw [← ha.evals hvs]; simp
    simp only [execOp, resolve, ha.eval hx, hm, Deferred.ofValue, Sem.run_bind, Sem.run_pure, Result.andThen_ok, invoke]
    simpa using hrun
  show Oper.uponIn (Fr ro) 0 P _ a _ Q ((Oper.semAt ro a.eval _).run P w)
  rw [semAt_in rfl, hr]
  refine ⟨fun hh => absurd (a := false = true) hh Bool.false_ne_true, ?_⟩
  refine RoundIn.mono (F := Fr ro) (show RoundIn (Fr ro) (0 - 1) P l fn tmps assign body w _ from hround) ?_
  rintro e w' ⟨rfl, L', hp, hw'⟩
  exact (h L' hp).out _ _ (ha.put _ hn) hw'⟩
def YdAll (P : Program) (l : Nat) (xs : List (List Value)) (J : Nat → List Chunk → Prop) : Prop :=
  ∀ (R : List Chunk) (k : Nat) (L' : List Chunk), k < xs.length → J k L' → Yd P l (xs.getD k []) (L' ++ R) (fun L'' => ∃ L3, J (k + 1) L3 ∧ L'' = L3 ++ R)
structure It (P : Program) (gf : FuncId) (lb : Array Value) (Lit : List Chunk) (xs : List (List Value)) : Prop where
  out : ∀ (l : Nat) (J : Nat → List Chunk → Prop) (L0 : List Chunk), J 0 L0 → YdAll P l xs J → ∀ w, Holds w (L0 ++ Lit) →
    CallsIn Fence.wide 0 P gf (#[.func (.yield l) #[] #[]] ++ lb) w (fun e w' => ∃ v L', e = .returned v ∧ (∃ L3, J xs.length L3 ∧ L' = L3 ++ Lit) ∧ Holds w' L')
theorem It.of_body {gf : FuncId} {fn : Func} {c : Code} {lb : List Value} {Lit : List Chunk} {xs : List (List Value)} (hf : P.funcs[gf]? = some fn) (hb : fn.body = some c) (hle : Nat.ble (lb.length + 1) fn.ntmps = true)
    (h : ∀ (l : Nat) (J : Nat → List Chunk → Prop) (L0 : List Chunk), J 0 L0 → YdAll P l xs J → Wic P fn.ntmps none c (bodyPost P fn (fun e w' => ∃ v L', e = .returned v ∧ (∃ L3, J xs.length L3 ∧ L' = L3 ++ Lit) ∧ Holds w' L')) (params 0 (.func (.yield l) #[] #[] :: lb)) (L0 ++ Lit)) :
    It P gf lb.toArray Lit xs := ⟨fun l J L0 h0 hy w hw => by
  have e : #[Value.func (.yield l) #[] #[]] ++ lb.toArray = (Value.func (.yield l) #[] #[] :: lb).toArray := by simp
  rw [e]
  refine callsIn_of_wp hf hb trivial ((h l J L0 h0 hy).out _ w ⟨rfl, ?_, ?_⟩ hw)
  · have := Nat.le_of_ble_eq_true hle
    simp; omega
  · intro t v ht
    obtain ⟨_, h2⟩ := params_get (.func (.yield l) #[] #[] :: lb) 0 t v ht
    have h2' : (Value.func (.yield l) #[] #[] :: lb)[t]? = some v := by simpa using h2
    have hlt : t < (Value.func (.yield l) #[] #[] :: lb).length := by
      rcases Nat.lt_or_ge t (Value.func (.yield l) #[] #[] :: lb).length with h' | h'
      · exact h'
      · simp [List.getElem?_eq_none h'] at h2'
    rw [Array.getElem?_append_left (by simpa using hlt)]
    simpa using h2'⟩
def setM (zs : List (Nat × Value)) (M : List (Nat × Value)) : List (Nat × Value) := zs.foldl (fun M x => x :: M) M
theorem St.setp : ∀ {zs : List (Nat × Value)} {M : List (Nat × Value)} {tm : Array Value}, St n M ⟨tm, []⟩ → zs.all (fun z => Nat.blt z.1 n) = true → St n (setM zs M) ⟨zs.foldl (fun t x => t.setIfInBounds x.1 x.2) tm, []⟩
  | [], _, _, h, _ => h
  | z :: r, M, tm, h, hz => by
    simp only [List.all_cons, Bool.and_eq_true] at hz
    exact St.setp (zs := r) (M := z :: M) (tm := tm.setIfInBounds z.1 z.2) (h.put z.2 hz.1) hz.2
theorem Holds.putL {w : World} {l : Nat} {o o' : Obj} (h : Holds w ([(l, o)] :: L)) : Holds (w.putObj l o') ([(l, o')] :: L) := by
  have hb : w.heap[l]? = some o := Fnd.here.get h
  have hlt : l < w.heap.size := (Array.getElem?_eq_some_iff.1 hb).1
  exact h.upd .here (World.putObj_heap_same hlt) (fun c hc => World.putObj_heap_other hc) rfl rfl
theorem NL.body {fn : Func} {X : Value → List Chunk → World → Prop} : NL (bodyPost P fn (fun e w' => ∃ v L3, e = .returned v ∧ X v L3 w')) := ⟨fun a w h => by
  obtain ⟨v, L3, he, _⟩ := h
  cases he⟩
def noVal (o : Oper) : Bool := match o.op with | .call c => (match c.callee with | .value (.tmp _) => false | _ => true) | _ => true
theorem WI_regionV {id : Nat} {l : List Oper} (hv : l.all noVal = true) (hN : NL Q) (hd : l.all noDef = true) (h : WL P n l.toArray Q l M L) : Wic P n ro (.region id l.toArray false) Q M L := WI_region hN hd h
theorem Fnd.right {A B : List Chunk} {b : Nat} {o : Obj} (h : Fnd B b o) : Fnd (A ++ B) b o := by
  simp only [Fnd, List.flatten_append, List.mem_append] at *; exact .inr h
theorem Fnd.left {A B : List Chunk} {b : Nat} {o : Obj} (h : Fnd A b o) : Fnd (A ++ B) b o := by
  simp only [Fnd, List.flatten_append, List.mem_append] at *; exact .inl h
def RP (J : Nat → List Chunk → Prop) (k : Nat) (R : List Chunk) : Exit → Act → World → Prop := fun e _ w => e = .normal ∧ ∃ L3, J k L3 ∧ Holds w (L3 ++ R)
theorem RP_po {J : Nat → List Chunk → Prop} {k : Nat} {R : List Chunk} : PO (RP J k R) := ⟨fun c a d v w h => by cases h.1⟩
theorem RP_nl {J : Nat → List Chunk → Prop} {k : Nat} {R : List Chunk} : NL (RP J k R) := ⟨fun a w h => by cases h.1⟩
theorem WQ_RP {J : Nat → List Chunk → Prop} {k : Nat} {R : List Chunk} (L3 : List Chunk) (hJ : J k L3) (hL : ∀ w, Holds w L → Holds w (L3 ++ R)) : WQ n (RP J k R .normal) M L := ⟨fun a w _ hw => ⟨rfl, L3, hJ, hL w hw⟩⟩
def AP (n : Nat) (MA : List (Nat × Value)) (L : List Chunk) : Exit → Act → World → Prop := Exit.then (fun a w => St n MA a ∧ Holds w L) (fun _ _ _ => False)
theorem AP_nl {MA : List (Nat × Value)} {L : List Chunk} : NL (AP n MA L) := ⟨fun a w h => h⟩
theorem WQ_AP {MA : List (Nat × Value)} {L1 : List Chunk} (hs : Sub MA M) (hL : ∀ w, Holds w L → Holds w L1) : WQ n (AP n MA L1 .normal) M L := ⟨fun a w ha hw => ⟨ha.sub hs, hL w hw⟩⟩
theorem WR_r {S : List Chunk} {ops : List Oper} {T : List Nat} {fuel : Nat} {listed : Array Bool} {d : Nat} {v : Value} (i : Nat) {o : Oper} (h : WR P n ops Q S T fuel (listed.setIfInBounds i true) ((d, v) :: M) L)
    (hi : ops[i]? = some o := by exact rfl) (hg : o.guard = none := by exact rfl) (hb : takeB ops T listed i = true := by kernel_rfl) (hPO : PO Q := by exact iP) (hinc : Inc S L := by exact iC) (he : EV P n o M S d v := by exact (by first | (show EV _ _ ⟨_, .move _, _, _, _, _⟩ _ _ _ _; first | exact EV_move rfl) | (show EV _ _ ⟨_, .assign _, _, _, _, _⟩ _ _ _ _; first | exact EV_assign rfl) | (show EV _ _ ⟨_, .nilCheck _, _, _, _, _⟩ _ _ _ _; first | exact EV_nilCheck rfl) | (show EV _ _ ⟨_, .fieldAddr .., _, _, _, _⟩ _ _ _ _; first | exact EV_fieldAddr0 rfl | exact EV_fieldAddr rfl) | (show EV _ _ ⟨_, .load .., _, _, _, _⟩ _ _ _ _; first | exact EV_loadc rfl (by repeat (first | assumption | exact Fnd.here | refine Fnd.there ?_)) rfl | exact EV_loadAggC rfl (by repeat (first | assumption | exact Fnd.here | refine Fnd.there ?_)) rfl) | (show EV _ _ ⟨_, .binOp .., _, _, _, _⟩ _ _ _ _; first | exact EV_cmp rfl rfl rfl | exact EV_ari64 rfl rfl rfl (by omega) | exact EV_shr rfl rfl (by decide) (shr_lit (by omega) (by simp [IntKind.bits]; rfl)) | exact EV_strEq rfl rfl | exact EV_strNe rfl rfl | exact EV_strLt rfl rfl | exact EV_sliceEqNil rfl rfl | exact EV_sliceNeNil rfl rfl | exact EV_ptrEqNil rfl rfl | exact EV_ptrNeNil rfl rfl | exact EV_boolEq rfl rfl | exact EV_boolNe rfl rfl) | (show EV _ _ ⟨_, .convert .., _, _, _, _⟩ _ _ _ _; first | exact EV_convII rfl (wrap_i64 (by omega) (by omega)) | exact EV_convII rfl (wrap_u64 (by omega) (by omega)) | exact EV_convII rfl rfl) | (show EV _ _ ⟨_, .extract .., _, _, _, _⟩ _ _ _ _; first | exact EV_extract rfl rfl) | (show EV _ _ ⟨_, .unOp .., _, _, _, _⟩ _ _ _ _; first | exact EV_not rfl) | (show EV _ _ ⟨_, .pick .., _, _, _, _⟩ _ _ _ _; first | exact EV_pick rfl rfl) | (show EV _ _ ⟨_, .call ⟨.builtin .len, _, _⟩, _, _, _, _⟩ _ _ _ _; first | exact EV_lenSl rfl | exact EV_lenStr rfl) | (show EV _ _ ⟨_, .call ⟨.builtin .cap, _, _⟩, _, _, _, _⟩ _ _ _ _; first | exact EV_capSl rfl) | (show EV _ _ ⟨_, .call ⟨.builtin .min, _, _⟩, _, _, _, _⟩ _ _ _ _; first | exact EV_min rfl rfl) | (show EV _ _ ⟨_, .call ⟨.builtin .max, _, _⟩, _, _, _, _⟩ _ _ _ _; first | exact EV_max rfl rfl) | (show EV _ _ ⟨_, .makeInterface .., _, _, _, _⟩ _ _ _ _; first | exact EV_makeInterface rfl) | (show EV _ _ ⟨_, .makeFunc .., _, _, _, _⟩ _ _ _ _; first | exact EV_makeFunc rfl rfl) | (show EV _ _ ⟨_, .typeAssert .., _, _, _, _⟩ _ _ _ _; first | exact EV_assertYes rfl | exact EV_assertNo rfl rfl) | (show EV _ _ ⟨_, .build .., _, _, _, _⟩ _ _ _ _; first | exact EV_build rfl (by simp [fillL, patch, Value.cells]; rfl)))) (hn : Nat.blt d n = true := by exact rfl) :
    WR P n ops Q S T (fuel + 1) listed M L := WR_take i hi hg hb hPO hinc he hn h
theorem WC_range {g : Operand} {ps : List Tmp} {assign body : Code} {gf : FuncId} {lb : Array Value} [hbd : BD P gf] (hx : ev M g = some (.func (.func gf) #[] lb)) {Lit : List Chunk} {xs : List (List Value)} (hit : It P gf lb Lit xs)
    (J : Nat → List Chunk → Prop) (L0 : List Chunk) (h0 : J 0 L0) (hL : ∀ w, Holds w L → Holds w (L0 ++ Lit)) (hps : ∀ k, k < xs.length → (xs.getD k []).length = ps.length) (hpn : ps.all (fun t => Nat.blt t n) = true)
    (MA : Nat → List Chunk → List (Nat × Value))
    (hassign : ∀ (l k : Nat) (L' R : List Chunk), k < xs.length → J k L' → Wic P n (some l) assign (AP n (MA k L') (L' ++ R)) (setM (ps.zip (xs.getD k [])) M) (L' ++ R))
    (hbody : ∀ (l k : Nat) (L' R : List Chunk), k < xs.length → J k L' → Wic P n (some l) body (RP J (k + 1) R) (MA k L') (L' ++ R))
    (hdone : ∀ (D : Nat) (a : Act) (w : World) (L3 : List Chunk), St n M { a with defers := [] } → a.defers = [⟨.collected D, #[]⟩] → J xs.length L3 → Holds w ([(D, .deferred (some []))] :: (L3 ++ Lit)) → Q .normal a w) :
    WC P n (.rangeFunc g ps.toArray assign body) Q M L := ⟨fun a w ha hw => by
  refine (wpIn_wide (n := 0)).1 (wpIn_rangeFunc fun fn _ => ?_)
  obtain ⟨rec, hrec⟩ : ∃ rec : LoopState → Loop, rec = fun st => { state := st, pending := none, fn, tmps := a.tmps, params := ps.toArray, assign, body, defers := w.heap.size } := ⟨_, rfl⟩
  obtain ⟨D, hD⟩ : ∃ D, D = w.heap.size := ⟨_, rfl⟩
  obtain ⟨l, hl⟩ : ∃ l, l = w.heap.size + 1 := ⟨_, rfl⟩
  have hW1 : Holds ((w.alloc (.deferred (some []))).alloc (.loop (rec .ready))) ([(l, .loop (rec .ready))] :: [(D, .deferred (some []))] :: (L0 ++ Lit)) := by
    have h1 := ((hL w hw).alloc (.deferred (some []))).alloc (.loop (rec .ready))
    rw [World.size_alloc, ← hl, ← hD] at h1
    exact h1
  obtain ⟨W1, hW1e⟩ : ∃ W1, W1 = (w.alloc (.deferred (some []))).alloc (.loop (rec .ready)) := ⟨_, rfl⟩
  rw [← hW1e] at hW1
  refine ⟨l, [{ target := .collected D, args := #[] }], W1, { target := .fn (.func gf) lb, args := #[.func (.yield l) #[] #[]] }, W1, gf, #[.func (.yield l) #[] #[]] ++ lb, W1, ?_, ?_, fun _ _ => trivial, ?_, fun hh => absurd (a := false = true) hh Bool.false_ne_true, ?_⟩
  · have := run_enterLoop_outer (P := P) (w := w) fn a.tmps ps.toArray assign body
    rw [hl, hD, hW1e, hrec]
    exact this
  · simp only [resolve, ha.eval hx]
    simp [Deferred.ofValue, Act.eval]
  · simp only [invoke]
    exact callFunc_run hbd.out _ _
  · obtain ⟨J', hJ'⟩ : ∃ J' : Nat → List Chunk → Prop, ∀ k L'', J' k L'' ↔ ∃ L', J k L' ∧ L'' = [(l, .loop (rec .ready))] :: [(D, .deferred (some []))] :: L' := ⟨fun k L'' => ∃ L', J k L' ∧ L'' = [(l, .loop (rec .ready))] :: [(D, .deferred (some []))] :: L', fun _ _ => Iff.rfl⟩
    have hyd : YdAll P l xs J' := by
      intro R k L'' hk hj
      obtain ⟨L', hj0, rfl⟩ := (hJ' k L'').1 hj
      refine ⟨fun w1 hw1 => ?_⟩
      have hrl : w1.heap[l]? = some (.loop (rec .ready)) := Fnd.here.get hw1
      have hy := run_yield (P := P) (args := (xs.getD k []).toArray) hrl (by rw [hrec]; simpa using hps k hk)
      rw [hrec] at hy
      refine ⟨fn, _, assign, body, hy, roundIn_of_wpIn trivial ?_⟩
      have hperm : ∀ (A B : Chunk), (A :: B :: (L' ++ R)).Perm (L' ++ (A :: B :: R)) := fun A B => by
        refine ((List.perm_middle (l₁ := L') (a := A) (l₂ := B :: R)).trans (.cons A ?_)).symm
        exact List.perm_middle
      have hst : St n (setM (ps.zip (xs.getD k [])) M) ⟨(ps.zip (xs.getD k [])).foldl (fun t x => t.setIfInBounds x.1 x.2) a.tmps, []⟩ := by
        refine St.setp ⟨rfl, ha.size, ha.get⟩ ?_
        rw [List.all_eq_true]
        intro z hz
        exact (List.all_eq_true.1 hpn) z.1 (List.of_mem_zip hz).1
      have ha1 := (hassign l k L' ([(l, .loop (rec .ready))] :: [(D, .deferred (some []))] :: R) hk hj0).out _ w1 hst (hw1.perm (hperm _ _))
      have etm : (ps.toArray.zip (xs.getD k []).toArray).foldl (fun tmps (x : Tmp × Value) => tmps.setIfInBounds x.1 x.2) a.tmps = (ps.zip (xs.getD k [])).foldl (fun t x => t.setIfInBounds x.1 x.2) a.tmps := by simp
      show Code.wpIn (Fence.wide.inRound l) 0 P assign _ { tmps := (ps.toArray.zip (xs.getD k []).toArray).foldl (fun tmps (x : Tmp × Value) => tmps.setIfInBounds x.1 x.2) a.tmps, defers := [] } w1
      rw [etm]
      refine wpIn_mono (F := Fr (some l)) ha1 ?_
      rintro e a2 w2 h2
      cases e with
      | normal =>
        obtain ⟨hs2, hw2⟩ := h2
        have hw2' := hw2.perm (hperm _ _).symm
        have hrl2 : w2.heap[l]? = some (.loop (rec .ready)) := Fnd.here.get hw2'
        have hw3 := hw2'.putL (o' := .loop { rec .ready with state := .busy })
        refine ⟨_, run_beginRound hrl2 (by rw [hrec]), ?_⟩
        have hb1 := (hbody l k L' ([(l, .loop { rec .ready with state := .busy })] :: [(D, .deferred (some []))] :: R) hk hj0).out a2 _ hs2 (hw3.perm (hperm _ _))
        refine wpIn_mono (F := Fr (some l)) hb1 ?_
        rintro e a3 w4 ⟨rfl, L3, hj3, hw4⟩
        have hperm3 : ([(l, .loop { rec .ready with state := .busy })] :: [(D, .deferred (some []))] :: (L3 ++ R)).Perm (L3 ++ ([(l, .loop { rec .ready with state := .busy })] :: [(D, .deferred (some []))] :: R)) := by
          refine ((List.perm_middle (l₁ := L3)).trans (.cons _ ?_)).symm
          exact List.perm_middle
        have hw4' := hw4.perm hperm3.symm
        have hrl4 : w4.heap[l]? = some (.loop { rec .ready with state := .busy }) := Fnd.here.get hw4'
        refine ⟨_, _, run_endRound none hrl4, ?_⟩
        refine ⟨rfl, _, ⟨_, (hJ' (k + 1) _).2 ⟨L3, hj3, rfl⟩, rfl⟩, ?_⟩
        have hw5 := hw4'.putL (o' := .loop (rec .ready))
        have er : (Obj.loop { { rec .ready with state := .busy } with state := if (none : Option Code).isNone then .ready else .done, pending := none }) = .loop (rec .ready) := by rw [hrec]; rfl
        rw [er]
        exact hw5
      | exit id => exact h2.elim
      | goto t => exact h2.elim
      | ret => exact h2.elim
      | panic c => exact h2.elim
      | outgrown => exact h2.elim
    have hW1' : Holds W1 (([(l, .loop (rec .ready))] :: [(D, .deferred (some []))] :: L0) ++ Lit) := hW1
    have hcall := hit.out l J' _ ((hJ' 0 _).2 ⟨L0, h0, rfl⟩) hyd _ hW1'
    refine CallsIn.mono hcall ?_
    rintro e w3 ⟨v, L3', rfl, ⟨L3, hj3, rfl⟩, hw3⟩
    obtain ⟨L4, hj4, rfl⟩ := (hJ' _ _).1 hj3
    have hrl3 : w3.heap[l]? = some (.loop (rec .ready)) := Fnd.here.get hw3
    have hpn : (rec .ready).pending = none := by rw [hrec]
    have hend : (Instr.endLoop l).run P w3 = .ok none (w3.putObj l (.loop { rec .ready with state := .exhausted })) :=
      (run_endLoop (P := P) hrl3 (by rw [hrec]; intro h; cases h)).trans (by simp [hpn])
    refine ⟨none, w3.putObj l (.loop { rec .ready with state := .exhausted }), hend, ?_⟩
    have hw5 : Holds (w3.putObj l (.loop { rec .ready with state := .exhausted })) ([(l, .loop { rec .ready with state := .exhausted })] :: [(D, .deferred (some []))] :: (L4 ++ Lit)) := hw3.putL
    refine hdone D _ _ L4 ⟨rfl, ha.size, ha.get⟩ ?_ hj4 hw5.drop
    show [_] ++ a.defers = _
    rw [ha.defers]
    rfl⟩
structure Wmc (P : Program) (n D : Nat) (c : Code) (Q : Exit → Act → World → Prop) (M : List (Nat × Value)) (L : List Chunk) : Prop where
  out : ∀ a w, St n M { a with defers := [] } → a.defers = [⟨.collected D, #[]⟩] → Holds w L → c.wp P Q a w
structure Wnc (P : Program) (n D : Nat) (ops : Array Oper) (Q : Exit → Act → World → Prop) (rest : List Oper) (M : List (Nat × Value)) (L : List Chunk) : Prop where
  out : ∀ a w, St n M { a with defers := [] } → a.defers = [⟨.collected D, #[]⟩] → Holds w L → wpList P ops Q rest a w
structure Wpc (n D : Nat) (q : Act → World → Prop) (M : List (Nat × Value)) (L : List Chunk) : Prop where
  out : ∀ a w, St n M { a with defers := [] } → a.defers = [⟨.collected D, #[]⟩] → Holds w L → q a w
theorem WM_seq {D : Nat} {x y : Code} (h : Wmc P n D x (Exit.then (y.wp P Q) Q) M L) : Wmc P n D (.seq x y) Q M L := ⟨fun a w ha hd hw => wp_seq (h.out a w ha hd hw)⟩
theorem WM_ret {D : Nat} (h : Wpc n D (Q .ret) M L) : Wmc P n D .ret Q M L := ⟨fun a w ha hd hw => wp_ret (h.out a w ha hd hw)⟩
theorem WM_region {D : Nat} {id : Nat} {l : List Oper} (h : Wnc P n D l.toArray Q l M L) : Wmc P n D (.region id l.toArray false) Q M L := ⟨fun a w ha hd hw => wp_region_lit (h.out a w ha hd hw)⟩
theorem WN_nil {D : Nat} {ops : Array Oper} (h : Wpc n D (Q .normal) M L) : Wnc P n D ops Q [] M L := ⟨fun a w ha hd hw => wpList_nil (h.out a w ha hd hw)⟩
theorem WN_ev {D : Nat} {ops : Array Oper} {rest : List Oper} {o : Oper} {d : Nat} {v : Value} (hg : o.guard = none) (he : EV P n o M L d v) (hn : Nat.blt d n = true) (h : Wnc P n D ops Q rest ((d, v) :: M) L) : Wnc P n D ops Q (o :: rest) M L := ⟨fun a w ha hd hw => by
  unfold wpList
  rw [if_pos (by simp [Region.wanted, hg])]
  refine .inl ?_
  unfold Oper.wp
  have hr := he.run { a with defers := [] } w ha hw
  have hae : ({ a with defers := [] } : Act).eval = a.eval := by funext x; cases x <;> rfl
  rw [hae] at hr
  rw [hr, Oper.upon_value, he.dst]
  refine h.out _ w (ha.put v hn) ?_ hw
  exact hd⟩
theorem WP_code {D : Nat} {c : Code} {K : Act → World → Prop} (hK : K = c.wp P Q) (h : Wmc P n D c Q M L) : Wpc n D K M L := by subst hK; exact ⟨h.out⟩
theorem WP_end {D : Nat} {fn : Func} {post : Value → List Chunk → Prop} {rs : List ResultVar} {vs : List Value} {e : Exit} (he : e = .ret ∨ e = .normal) (hr : fn.results = rs.toArray) (h : resT M rs = some vs) {L1 : List Chunk} (hL : ∀ w, Holds w L → Holds w ([(D, .deferred (some []))] :: L1)) (hp : post (tupled vs) L1) :
    Wpc n D (bodyPostM Fence.wide 0 P fn (fun e w' => ∃ v L', e = .returned v ∧ post v L' ∧ Holds w' L') e) M L := ⟨fun a w ha hd hw => by
  have key : LeavesInM Fence.wide 0 P fn a.tmps (fun e w' => ∃ v L', e = .returned v ∧ post v L' ∧ Holds w' L') a.defers .returning w := by
    rw [hd]
    have hw2 := hL w hw
    have hk : w.heap[D]? = some (.deferred (some [])) := Fnd.here.get hw2
    have hw3 : Holds (w.putObj D (.deferred none)) ([(D, .deferred none)] :: L1) := hw2.putL
    refine ⟨by simp, .inl ⟨D, _, rfl, run_takeDeferred hk, ?_⟩⟩
    exact ⟨tupled vs, results_run (a := { a with defers := [] }) ha hr h, tupled vs, L1, rfl, hp, hw3.drop⟩
  rcases he with rfl | rfl <;> exact key⟩
theorem Gv.of_bodyM {f : FuncId} {fn : Func} {c : Code} {args : List Value} {post : Value → List Chunk → Prop} (hf : P.funcs[f]? = some fn) (hb : fn.body = some c) (hle : Nat.ble args.length fn.ntmps = true)
    (h : WC P fn.ntmps c (bodyPostM Fence.wide 0 P fn (fun e w' => ∃ v L', e = .returned v ∧ post v L' ∧ Holds w' L')) (params 0 args) L) : Gv P f args.toArray L post := ⟨fun w hw => by
  refine (callsIn_wide (n := 0)).1 (callsIn_of_wp_marks hf hb trivial ((wpIn_wide (n := 0)).2 (h.out _ w ⟨rfl, ?_, ?_⟩ hw)))
  · have := Nat.le_of_ble_eq_true hle
    simp; omega
  · intro t v ht
    obtain ⟨_, h2⟩ := params_get args 0 t v ht
    have h2' : args[t]? = some v := by simpa using h2
    have hlt : t < args.length := by
      rcases Nat.lt_or_ge t args.length with h' | h'
      · exact h'
      · simp [List.getElem?_eq_none h'] at h2'
    rw [Array.getElem?_append_left (by simpa using hlt)]
    simpa using h2'⟩
theorem kTi {c : Operand} {x y : Code} {t : Bool} {p : Prop} (ht : p → Wic P n ro x Q M L) (hc : ev M c = some (.bool t) := by exact rfl) (hn : t = false → False := by (intro hc; (try simp only [nrB] at hc); first | omega | exact hc trivial | exact hc rfl)) (hp : t = true → p := by (intro hc; (try simp only [nrB] at hc); exact hc)) : Wic P n ro (.cond c x y) Q M L :=
  WI_cond hc (fun h => ht (hp h)) (fun h => (hn h).elim)
theorem kFi {c : Operand} {x y : Code} {t : Bool} {p : Prop} (hf : p → Wic P n ro y Q M L) (hc : ev M c = some (.bool t) := by exact rfl) (hn : t = true → False := by (intro hc; (try simp only [nrB] at hc); first | omega | exact hc trivial | exact hc rfl)) (hp : t = false → p := by (intro hc; (try simp only [nrB] at hc); exact hc)) : Wic P n ro (.cond c x y) Q M L :=
  WI_cond hc (fun h => (hn h).elim) (fun h => hf (hp h))
theorem kQi {c : Operand} {x y : Code} {t : Bool} {p q : Prop} (ht : p → Wic P n ro x Q M L) (hf : q → Wic P n ro y Q M L) (hc : ev M c = some (.bool t) := by exact rfl) (hp : t = true → p := by (intro hc; (try simp only [nrB] at hc); exact hc)) (hq : t = false → q := by (intro hc; (try simp only [nrB] at hc); exact hc)) : Wic P n ro (.cond c x y) Q M L :=
  WI_cond hc (fun h => ht (hp h)) (fun h => hf (hq h))
theorem kI {p q : Prop} (h : q) (s : Wr q → p := by (intro h9; (first | (show WL _ _ _ _ _ _ _; first | refine jA ?_ | refine jB ?_ | refine jC ?_ | refine jD ?_ | refine jE ?_ | refine jF ?_) | (show OW _ _ _ _ _ _; first | refine OW_E ?_ | refine jI ?_ | refine jJ ?_) | (show Wic _ _ _ _ _ _ _; first | refine WI_seq ?_ | refine WI_regionV rfl (by repeat (first | with_reducible exact NL.body | with_reducible exact RP_nl | with_reducible exact AP_nl | with_reducible refine NL.then ?_ | with_reducible refine NL.block ?_)) rfl ?_ | refine WI_true rfl ?_ | refine WI_false rfl ?_ | refine WI_skip ?_ | refine WI_ret ?_ | refine WI_exit ?_ | refine WI_block ?_) | (show WQ _ _ _ _; with_reducible first | refine jV ?_ | refine WQ_codeI ?_ | refine jX ?_ | refine jY ?_ | refine jZ ?_ | refine kA ?_ | refine kB ?_ | refine kC ?_)); (repeat (first | (show WL _ _ _ _ _ _ _; first | refine jA ?_ | refine jB ?_ | refine jC ?_ | refine jD ?_ | refine jE ?_ | refine jF ?_) | (show OW _ _ _ _ _ _; first | refine OW_E ?_ | refine jI ?_ | refine jJ ?_) | (show Wic _ _ _ _ _ _ _; first | refine WI_seq ?_ | refine WI_regionV rfl (by repeat (first | with_reducible exact NL.body | with_reducible exact RP_nl | with_reducible exact AP_nl | with_reducible refine NL.then ?_ | with_reducible refine NL.block ?_)) rfl ?_ | refine WI_true rfl ?_ | refine WI_false rfl ?_ | refine WI_skip ?_ | refine WI_ret ?_ | refine WI_exit ?_ | refine WI_block ?_) | (show WQ _ _ _ _; with_reducible first | refine jV ?_ | refine WQ_codeI ?_ | refine jX ?_ | refine jY ?_ | refine jZ ?_ | refine kA ?_ | refine kB ?_ | refine kC ?_))); exact h9.out)) : p := s ⟨h⟩
theorem kJ {p A g : Prop} (h : p → A) (s : Wr (p → A) → g := by (intro h9; first | ((show Wic _ _ _ _ _ _ _); first | exact kTi h9.out | exact kFi h9.out) | ((show WL _ _ _ _ _ _ _); first | (refine jG (fun hc => ?_) (fun hc => ?_); (focus (rw [hc]; have h8 := hc; (try simp only [nrB] at h8); exact h9.out h8)); (exfalso; (try simp only [nrB] at hc); first | done | omega)) | (refine jG (fun hc => ?_) (fun hc => ?_); rotate_left; (focus (rw [hc]; have h8 := hc; (try simp only [nrB] at h8); exact h9.out h8)); (exfalso; (try simp only [nrB] at hc); first | done | omega))))) : g := s ⟨h⟩
theorem kK {p q A B g : Prop} (ht : p → A) (hf : q → B) (s : Wr ((p → A) ∧ (q → B)) → g := by (intro h9; first | ((show Wic _ _ _ _ _ _ _); exact kQi h9.out.1 h9.out.2) | ((show WL _ _ _ _ _ _ _); (refine jG (fun hc => ?_) (fun hc => ?_); (focus (rw [hc]; have h8 := hc; (try simp only [nrB] at h8); exact h9.out.1 h8)); (rw [hc]; have h8 := hc; (try simp only [nrB] at h8); exact h9.out.2 h8))))) : g := s ⟨ht, hf⟩
theorem kL {p q : Prop} (h : q) (s : Wr q → p := by (intro h9; (first | (show Wjc _ _ _ _ _ _ _ _; first | refine WJ_op rfl rfl ?_ | refine WJ_nil ?_) | (show OW _ _ _ _ _ _; first | refine OW_E ?_ | refine jI ?_ | refine jJ ?_) | (show Wic _ _ _ _ _ _ _; first | refine WI_seq ?_ | refine WI_regionV rfl (by repeat (first | with_reducible exact NL.body | with_reducible exact RP_nl | with_reducible exact AP_nl | with_reducible refine NL.then ?_ | with_reducible refine NL.block ?_)) rfl ?_ | refine WI_true rfl ?_ | refine WI_false rfl ?_ | refine WI_skip ?_ | refine WI_ret ?_ | refine WI_exit ?_ | refine WI_block ?_) | (show WQ _ _ _ _; with_reducible first | refine jV ?_ | refine WQ_codeI ?_ | refine jX ?_ | refine jY ?_ | refine jZ ?_ | refine kA ?_ | refine kB ?_ | refine kC ?_)); (repeat (first | (show Wjc _ _ _ _ _ _ _ _; first | refine WJ_op rfl rfl ?_ | refine WJ_nil ?_) | (show OW _ _ _ _ _ _; first | refine OW_E ?_ | refine jI ?_ | refine jJ ?_) | (show Wic _ _ _ _ _ _ _; first | refine WI_seq ?_ | refine WI_regionV rfl (by repeat (first | with_reducible exact NL.body | with_reducible exact RP_nl | with_reducible exact AP_nl | with_reducible refine NL.then ?_ | with_reducible refine NL.block ?_)) rfl ?_ | refine WI_true rfl ?_ | refine WI_false rfl ?_ | refine WI_skip ?_ | refine WI_ret ?_ | refine WI_exit ?_ | refine WI_block ?_) | (show WQ _ _ _ _; with_reducible first | refine jV ?_ | refine WQ_codeI ?_ | refine jX ?_ | refine jY ?_ | refine jZ ?_ | refine kA ?_ | refine kB ?_ | refine kC ?_))); exact h9.out)) : p := s ⟨h⟩
end
end Go.Vx
namespace Go.Proofs.Ytbdpjbmfhnbheaa
open Go Go.Vx
variable [W0]
set_option maxRecDepth 4000
set_option linter.all false
omit [W0] in
/-- The pieces of two of a slice. -/
def ckV (a : Option Addr) (m k : Nat) : Value := match a with
  | some ⟨b, off, none⟩ => .slice (some ⟨b, off + 2 * k * 2, none⟩) (min 2 (m - 2 * k)) (min 2 (m - 2 * k))
  | x => .slice x 0 0
omit [W0] in
def ckS (a : Option Addr) (m : Nat) : List (List Value) := (List.range ((m + 1) / 2)).map fun k => [ckV a m k]
theorem ckS_length (a : Option Addr) (m : Nat) : (ckS a m).length = (m + 1) / 2 := by simp [ckS]
theorem ckS_get (a : Option Addr) (m : Nat) {k : Nat} (h : k < (m + 1) / 2) : (ckS a m).getD k [] = [ckV a m k] := by simp [ckS, List.getD, h]
omit [W0] in
/-- A slice's header that may be cut. -/
def HdS (a : Option Addr) (m c : Nat) : Prop := m ≤ c ∧ ((a = none ∧ m = 0) ∨ ∃ b off, a = some ⟨b, off, none⟩)
theorem chunk_c (a : Option Addr) (m c : Nat) (L : List Chunk) :
    Gv Try.prog 62 [.slice a m c, .int .i64 2].toArray L
      (fun r L' => ∃ p q, r = .func (.func 64) #[] #[.pointer (some ⟨p, 0, none⟩), .pointer (some ⟨q, 0, none⟩)] ∧ L' = [(q, cl [.int .i64 2] 3)] :: [(p, cl [.slice a m c] 101)] :: L) := by
  refine Gv.of_body Try.func62 rfl rfl ?_
  (repeat' first|refine kW ?_|refine kU fun bk=>?_|refine kV fun hc=>?_|refine kZ (fun hc=>?_) fun hc=>?_|fail)
  first | refine WQ_retH rfl rfl ?_ | refine WQ_endH rfl rfl ?_
  exact ⟨_, fun w h => h, _, _, rfl, rfl⟩
set_option maxHeartbeats 4000000 in
theorem chunk_it (a : Option Addr) (m c p q : Nat) (hm : m ≤ 100000) (hh : HdS a m c) :
    It Try.prog 64 [.pointer (some ⟨p, 0, none⟩), .pointer (some ⟨q, 0, none⟩)].toArray ([(q, cl [.int .i64 2] 3)] :: [(p, cl [.slice a m c] 101)] :: []) (ckS a m) := by
  refine It.of_body Try.func64 rfl rfl fun l J L0 h0 hy => ?_
  obtain ⟨Lit, hLit⟩ : ∃ Lit : List Chunk, Lit = [(q, cl [.int .i64 2] 3)] :: [(p, cl [.slice a m c] 101)] :: [] := ⟨_, rfl⟩
  rw [← hLit]
  have fq : ∀ L', Fnd (L' ++ Lit) q (cl [.int .i64 2] 3) := fun L' => by rw [hLit]; exact Fnd.right Fnd.here
  have fp : ∀ L', Fnd (L' ++ Lit) p (cl [.slice a m c] 101) := fun L' => by rw [hLit]; exact Fnd.right (Fnd.there Fnd.here)
  (repeat' first|refine kI ?_|refine kU fun bk=>?_|refine kJ fun hc=>?_|refine kK (fun hc=>?_) fun hc=>?_|fail)
  refine WI_loop (X := Nat × List Chunk) (fun x => [(0, .func (.yield l) #[] #[]), (1, .pointer (some ⟨p, 0, none⟩)), (2, .pointer (some ⟨q, 0, none⟩)), (4, .int .i64 ((2 * x.1 : Nat) : Int))])
    (fun x => x.2 ++ Lit) (fun x => x.1 ≤ (ckS a m).length ∧ J x.1 x.2) (fun x => (ckS a m).length - x.1) (0, L0) ⟨Nat.zero_le _, h0⟩ iS (fun w h => h) ?_
  rintro ⟨k, L'⟩ ⟨hk, hj⟩
  simp only at hk hj ⊢
  rw [ckS_length] at hk
  (repeat' first|refine kI ?_|refine kU fun bk=>?_|refine kJ fun hc=>?_|refine kK (fun hc=>?_) fun hc=>?_|fail)
  refine OW_EV (EV_loadc rfl (fp L') rfl) rfl ?_
  (repeat' first|refine kI ?_|refine kU fun bk=>?_|refine kJ fun hc=>?_|refine kK (fun hc=>?_) fun hc=>?_|fail)
  · have hlt : 2 * k < m := by omega
    obtain ⟨hmc, hh⟩ := hh
    obtain ⟨b, off, rfl⟩ : ∃ b off, a = some ⟨b, off, none⟩ := by
      rcases hh with ⟨_, h⟩ | h
      · omega
      · exact h
    refine WI_draw (L' ++ Lit) [] (by repeat (first | with_reducible exact NL.body | with_reducible exact RP_nl | with_reducible exact AP_nl | with_reducible refine NL.then ?_ | with_reducible refine NL.block ?_)) rfl mixed ?_
    (refine WR_take 0 rfl rfl (by kernel_rfl) iP iC (EV_loadc rfl (fq L') rfl) (by rfl) ?_)
    (refine WR_take 1 rfl rfl (by kernel_rfl) iP iC (EV_loadc rfl (fp L') rfl) (by rfl) ?_)
    (refine WR_t 2 ?_)
    (refine WR_take 3 rfl rfl (by kernel_rfl) iP iC (EV_sliceSl (l := 2 * k) (h := m) rfl (bnd_int rfl rfl) rfl (by omega) hmc) (by rfl) ?_)
    (refine WR_t 4 ?_; refine WR_t 5 ?_)
    obtain ⟨e, he⟩ : ∃ e, e = min 2 (m - 2 * k) := ⟨_, rfl⟩
    rw [show min (2 : Int) ((m - 2 * k : Nat) : Int) = (e : Int) from by omega]
    (refine WR_t 6 ?_)
    (refine WR_done (by kernel_rfl) ?_)
    have hck : ckV (some ⟨b, off, none⟩) m k = .slice (some ⟨b, off + 2 * k * 2, none⟩) e e := by rw [he]; rfl
    (repeat' first|refine kI ?_|refine kU fun bk=>?_|refine kJ fun hc=>?_|refine kK (fun hc=>?_) fun hc=>?_|fail)
    refine WI_list ?_
    (repeat' first|refine kL ?_|refine kU fun bk=>?_|refine kJ fun hc=>?_|refine kK (fun hc=>?_) fun hc=>?_|fail)
    refine OW_EV (EV_loadc rfl (fp L') rfl) rfl ?_
    (repeat' first|refine kL ?_|refine kU fun bk=>?_|refine kJ fun hc=>?_|refine kK (fun hc=>?_) fun hc=>?_|fail)
    rw [show ((2 * k : Nat) : Int) + (e : Int) = ((2 * k + e : Nat) : Int) from by omega]
    refine OW_EV (EV_slice3 (l := 2 * k) (h := 2 * k + e) (m := 2 * k + e) rfl rfl rfl rfl (by omega) (Nat.le_refl _) (by omega)) rfl ?_
    rw [if_neg (by omega), show 2 * k + e - 2 * k = e from by omega, ← hck]
    have hyk := hy Lit k L' (by rw [ckS_length]; omega) hj
    rw [ckS_get _ _ (by omega)] at hyk
    refine WJ_yield rfl rfl hyk rfl ?_
    rintro L'' ⟨L3, hj3, rfl⟩
    (repeat' first|refine kL ?_|refine kU fun bk=>?_|refine kJ fun hc=>?_|refine kK (fun hc=>?_) fun hc=>?_|fail)
    (repeat' first|refine kI ?_|refine kU fun bk=>?_|refine kJ fun hc=>?_|refine kK (fun hc=>?_) fun hc=>?_|fail)
    refine OW_EV (EV_loadc rfl (fq L3) rfl) rfl ?_
    (repeat' first|refine kI ?_|refine kU fun bk=>?_|refine kJ fun hc=>?_|refine kK (fun hc=>?_) fun hc=>?_|fail)
    refine WQ_round (X := Nat × List Chunk) (μ := fun x => (ckS (some ⟨b, off, none⟩) m).length - x.1) (x := (k, L')) (k + 1, L3) (by simp only [ckS_length]; omega) ⟨by simp only [ckS_length]; omega, hj3⟩ iS (fun w h => h)
  · have hke : k = (m + 1) / 2 := by omega
    first | refine WQ_retH rfl rfl ?_ | refine WQ_endH rfl rfl ?_
    refine ⟨_, fun w h => h, L', ?_, rfl⟩
    rw [ckS_length, ← hke]
    exact hj
end Go.Proofs.Ytbdpjbmfhnbheaa
namespace Go.Pm
set_option linter.all false
structure It where
  w : Nat
  c : Option Nat
  f : Nat → Nat
def isC (x : It) : Bool := x.c.isSome
def coin (wt : Nat → Nat) (i : Nat) : It := ⟨wt i, some i, fun j => if j = i then 1 else 0⟩
def pack (a b : It) : It := ⟨a.w + b.w, none, fun i => a.f i + b.f i⟩
def pairs : List It → List It
  | a :: b :: r => pack a b :: pairs r
  | _ => []
structure Mg (cs ps A : List It) : Prop where
  up : A.Pairwise fun a b => a.w ≤ b.w
  cs : A.filter isC = cs
  ps : A.filter (fun x => !isC x) = ps
theorem pairs_length : ∀ l : List It, (pairs l).length = l.length / 2
  | [] => rfl
  | [_] => by simp [pairs]
  | a :: b :: r => by
    have := pairs_length r
    simp only [pairs, List.length_cons, this]
    omega
theorem pairs_isC : ∀ (l : List It), ∀ x ∈ pairs l, isC x = false
  | [], x, h => by simp [pairs] at h
  | [_], x, h => by simp [pairs] at h
  | a :: b :: r, x, h => by
    simp only [pairs, List.mem_cons] at h
    rcases h with rfl | h
    · rfl
    · exact pairs_isC r x h
theorem take_filter {α : Type} (q : α → Bool) : ∀ (l : List α) (m : Nat), (l.take m).filter q = (l.filter q).take ((l.take m).filter q).length
  | [], m => by simp
  | x :: r, 0 => by simp
  | x :: r, m + 1 => by
    simp only [List.take_succ_cons, List.filter_cons]
    have ih := take_filter q r m
    split
    · simp only [List.length_cons, List.take_succ_cons]
      rw [← ih]
    · exact ih
theorem filter_perm {α : Type} (q : α → Bool) : ∀ l : List α, l.Perm (l.filter q ++ l.filter fun x => !q x)
  | [] => .refl _
  | x :: r => by
    have ih := filter_perm q r
    cases h : q x with
    | true => simp only [List.filter_cons, h, if_true, Bool.not_true, Bool.false_eq_true, if_false, List.cons_append]; exact ih.cons x
    | false =>
      simp only [List.filter_cons, h, Bool.not_false, if_true, Bool.false_eq_true, if_false]
      exact (ih.cons x).trans List.perm_middle.symm
structure Lv (cs : List It) (lv : Nat → List It) : Prop where
  zero : lv 0 = []
  next : ∀ k, Mg cs (pairs (lv k)) (lv (k + 1))
section
variable {cs : List It} {lv : Nat → List It} (h : Lv cs lv)
def sC (lv : Nat → List It) (k m : Nat) : Nat := (((lv k).take m).filter isC).length
def pC (lv : Nat → List It) (k m : Nat) : Nat := (((lv k).take m).filter fun x => !isC x).length
def sel (lv : Nat → List It) : Nat → Nat → List Nat
  | 0, _ => []
  | k + 1, m => sC lv (k + 1) m :: sel lv k (2 * pC lv (k + 1) m)
theorem sp (lv : Nat → List It) (k m : Nat) (hm : m ≤ (lv k).length) : sC lv k m + pC lv k m = m := by
  have := (filter_perm isC ((lv k).take m)).length_eq
  simp only [List.length_append, List.length_take] at this
  unfold sC pC
  omega
include h in
theorem coins_of (k m : Nat) : ((lv (k + 1)).take m).filter isC = cs.take (sC lv (k + 1) m) := by
  have := take_filter isC (lv (k + 1)) m
  rw [(h.next k).cs] at this
  exact this
include h in
theorem packs_of (k m : Nat) : ((lv (k + 1)).take m).filter (fun x => !isC x) = (pairs (lv k)).take (pC lv (k + 1) m) := by
  have := take_filter (fun x => !isC x) (lv (k + 1)) m
  rw [(h.next k).ps] at this
  exact this
include h in
theorem pC_le (k m : Nat) : pC lv (k + 1) m ≤ (pairs (lv k)).length := by
  rw [← (h.next k).ps]
  unfold pC
  exact ((List.take_sublist m (lv (k + 1))).filter _).length_le
include h in
theorem sC_le (k m : Nat) : sC lv (k + 1) m ≤ cs.length := by
  rw [← (h.next k).cs]
  unfold sC
  exact ((List.take_sublist m (lv (k + 1))).filter _).length_le
include h in
theorem pC_two (k m : Nat) : 2 * pC lv (k + 1) m ≤ (lv k).length := by
  have := pC_le h k m
  rw [pairs_length] at this
  omega
def kr : List Nat → Nat
  | [] => 0
  | s :: r => s * 2 ^ r.length + kr r
theorem sel_length (lv : Nat → List It) : ∀ k m, (sel lv k m).length = k
  | 0, _ => rfl
  | k + 1, m => by simp [sel, sel_length lv k]
include h in
theorem kr_sel : ∀ k m, m ≤ (lv (k + 1)).length → kr (sel lv (k + 1) m) = m * 2 ^ k
  | 0, m, hm => by
    have h1 := sp lv 1 m hm
    have h2 := pC_le h 0 m
    rw [h.zero] at h2
    simp [pairs] at h2
    simp only [sel, kr, List.length_nil]
    simp only [Nat.zero_add] at h2 ⊢
    omega
  | k + 1, m, hm => by
    have h1 := sp lv (k + 2) m hm
    have h2 := pC_two h (k + 1) m
    have ih := kr_sel k _ h2
    rw [sel, kr, ih, sel_length, Nat.pow_succ]
    rw [show 2 * pC lv (k + 1 + 1) m * 2 ^ k = pC lv (k + 1 + 1) m * (2 ^ k * 2) from by rw [Nat.mul_comm 2, Nat.mul_assoc, Nat.mul_comm 2], ← Nat.add_mul, h1]
def down : List Nat → Prop
  | [] => True
  | [_] => True
  | a :: b :: r => b ≤ a ∧ down (b :: r)
theorem mem_pairs : ∀ {l : List It} {t : Nat} {x : It}, l[t]? = some x → (h2 : t < 2 * (pairs l).length) → (hp : ∀ y ∈ l, 0 < y.w) → ∃ y, (pairs l)[t / 2]? = some y ∧ x.w < y.w
  | [], t, x, h, _, _ => by simp at h
  | [_], t, x, h, h2, _ => by simp [pairs] at h2
  | a :: b :: r, 0, x, h, _, hp => by
    simp at h; subst h
    have := hp b (by simp)
    exact ⟨pack a b, rfl, by simp only [pack]; omega⟩
  | a :: b :: r, 1, x, h, _, hp => by
    simp at h; subst h
    have := hp a (by simp)
    exact ⟨pack a b, rfl, by simp only [pack]; omega⟩
  | a :: b :: r, t + 2, x, h, h2, hp => by
    have h' : r[t]? = some x := by simpa using h
    obtain ⟨y, hy, hw⟩ := mem_pairs h' (by simp [pairs] at h2; omega) (fun y hy => hp y (by simp [hy]))
    refine ⟨y, ?_, hw⟩
    rw [show (t + 2) / 2 = t / 2 + 1 from by omega]
    simpa [pairs] using hy
include h in
theorem pos (hp : ∀ x ∈ cs, 0 < x.w) : ∀ k, ∀ y ∈ lv k, 0 < y.w
  | 0, y, hy => by rw [h.zero] at hy; simp at hy
  | k + 1, y, hy => by
    cases hc : isC y with
    | true =>
      have : y ∈ (lv (k + 1)).filter isC := List.mem_filter.2 ⟨hy, hc⟩
      rw [(h.next k).cs] at this
      exact hp y this
    | false =>
      have : y ∈ (lv (k + 1)).filter fun x => !isC x := List.mem_filter.2 ⟨hy, by simp [hc]⟩
      rw [(h.next k).ps] at this
      have ih := pos hp k
      have key : ∀ (l : List It), (∀ z ∈ l, 0 < z.w) → ∀ z ∈ pairs l, 0 < z.w := by
        intro l
        induction l using pairs.induct with
        | case1 a b r ihr =>
          intro hl z hz
          simp only [pairs, List.mem_cons] at hz
          rcases hz with rfl | hz
          · have := hl a (by simp); simp only [pack]; omega
          · exact ihr (fun z hz => hl z (by simp [hz])) z hz
        | case2 l hl2 =>
          intro _ z hz
          rw [pairs] at hz
          · simp at hz
          · exact hl2
      exact key _ ih y this
include h in
theorem sel_down2 (hp : ∀ x ∈ cs, 0 < x.w) (k m : Nat) : sC lv (k + 1) (2 * pC lv (k + 2) m) ≤ sC lv (k + 2) m := by
  rcases Nat.lt_or_ge (sC lv (k + 2) m) (sC lv (k + 1) (2 * pC lv (k + 2) m)) with hlt | hle
  · exfalso
    have hn := sC_le h k (2 * pC lv (k + 2) m)
    have hcs : sC lv (k + 2) m < cs.length := by omega
    -- the coin that comes next
    obtain ⟨x, hx⟩ : ∃ x, cs[sC lv (k + 2) m]? = some x := ⟨cs[sC lv (k + 2) m], by simp [hcs]⟩
    have hin : x ∈ ((lv (k + 1)).take (2 * pC lv (k + 2) m)).filter isC := by
      rw [coins_of h]
      refine List.mem_of_getElem? (i := sC lv (k + 2) m) ?_
      rw [List.getElem?_take, if_pos hlt]; exact hx
    obtain ⟨hin1, hxc⟩ := List.mem_filter.1 hin
    obtain ⟨t, ht⟩ := List.getElem?_of_mem hin1
    rw [List.getElem?_take] at ht
    split at ht
    · rename_i htl
      have h2 : pC lv (k + 2) m ≤ (pairs (lv (k + 1))).length := pC_le h (k + 1) m
      have hpk : ((lv (k + 2)).take m).filter (fun x => !isC x) = (pairs (lv (k + 1))).take (pC lv (k + 2) m) := packs_of h (k + 1) m
      obtain ⟨y, hy, hyw⟩ := mem_pairs ht (by omega) (pos h hp (k + 1))
      have hym : y ∈ ((lv (k + 2)).take m).filter fun x => !isC x := by
        rw [hpk]
        refine List.mem_of_getElem? (i := t / 2) ?_
        rw [List.getElem?_take, if_pos (by omega)]; exact hy
      have hy1 := (List.mem_filter.1 hym).1
      -- the coin stands behind
      have hxd : x ∈ (lv (k + 2)).drop m := by
        have e : cs = ((lv (k + 2)).take m).filter isC ++ ((lv (k + 2)).drop m).filter isC := by
          rw [← List.filter_append, List.take_append_drop, (h.next (k + 1)).cs]
        have hl : (((lv (k + 2)).take m).filter isC).length = sC lv (k + 2) m := rfl
        rw [e, List.getElem?_append_right (by omega), hl, Nat.sub_self] at hx
        exact (List.mem_filter.1 (List.mem_of_getElem? hx)).1
      have hup := (h.next (k + 1)).up
      rw [← List.take_append_drop m (lv (k + 1 + 1)), List.pairwise_append] at hup
      have := hup.2.2 y hy1 x hxd
      omega
    · cases ht
  · exact hle
include h in
theorem sel_down (hp : ∀ x ∈ cs, 0 < x.w) : ∀ k m, down (sel lv k m)
  | 0, _ => trivial
  | 1, _ => trivial
  | k + 2, m => ⟨sel_down2 h hp k m, sel_down hp (k + 1) _⟩
end
end Go.Pm
namespace Go.Pm
set_option linter.all false
def ln (S : List Nat) (r : Nat) : Nat := (S.filter fun s => decide (r < s)).length
def sumTo (g : Nat → Nat) : Nat → Nat
  | 0 => 0
  | n + 1 => sumTo g n + g n
theorem sumTo_congr {g h : Nat → Nat} : ∀ {n : Nat}, (∀ i, i < n → g i = h i) → sumTo g n = sumTo h n
  | 0, _ => rfl
  | n + 1, hh => by
    have h1 := sumTo_congr (n := n) (fun i hi => hh i (by omega))
    simp only [sumTo, h1, hh n (by omega)]
theorem sumTo_add (g : Nat → Nat) (a : Nat) : ∀ b, sumTo g (a + b) = sumTo g a + sumTo (fun i => g (a + i)) b
  | 0 => rfl
  | b + 1 => by
    have h1 := sumTo_add g a b
    rw [← Nat.add_assoc]
    simp only [sumTo, h1]
    omega
theorem sumTo_const (c : Nat) : ∀ n, sumTo (fun _ => c) n = n * c
  | 0 => by simp [sumTo]
  | n + 1 => by simp only [sumTo, sumTo_const c n, Nat.add_mul, Nat.one_mul]
theorem sumTo_le (g : Nat → Nat) : ∀ {n i : Nat}, i < n → g i ≤ sumTo g n
  | 0, i, h => by omega
  | n + 1, i, h => by
    simp only [sumTo]
    rcases Nat.lt_or_ge i n with h' | h'
    · have := sumTo_le g h'; omega
    · rw [show i = n from by omega]; omega
theorem sumTo_two (g : Nat → Nat) {n i j : Nat} (hi : i < n) (hj : j < n) (hne : i ≠ j) : g i + g j ≤ sumTo g n := by
  induction n with
  | zero => omega
  | succ n ih =>
    simp only [sumTo]
    by_cases h1 : i = n
    · have := sumTo_le g (show j < n by omega); subst h1; omega
    · by_cases h2 : j = n
      · have := sumTo_le g (show i < n by omega); subst h2; omega
      · have := ih (by omega) (by omega); omega
theorem down_tail {s : Nat} {R : List Nat} (h : down (s :: R)) : down R := by
  cases R with
  | nil => trivial
  | cons b r => exact h.2
theorem down_le : ∀ {R : List Nat} {s : Nat}, down (s :: R) → ∀ x ∈ R, x ≤ s
  | [], s, _, x, hx => by simp at hx
  | b :: r, s, h, x, hx => by
    rcases List.mem_cons.1 hx with rfl | hx
    · exact h.1
    · exact Nat.le_trans (down_le h.2 x hx) h.1
theorem ln_cons (s : Nat) (R : List Nat) (r : Nat) : ln (s :: R) r = (if r < s then 1 else 0) + ln R r := by
  unfold ln
  by_cases h : r < s
  · simp [h]; omega
  · simp [h]
theorem ln_zero {R : List Nat} {r : Nat} (h : ∀ x ∈ R, x ≤ r) : ln R r = 0 := by
  unfold ln
  rw [List.filter_eq_nil_iff.2 (fun x hx => by have := h x hx; simp; omega)]
  rfl
theorem ln_le (S : List Nat) (r : Nat) : ln S r ≤ S.length := List.length_filter_le _ _
theorem ln_anti (S : List Nat) {r q : Nat} (h : r ≤ q) : ln S q ≤ ln S r := by
  induction S with
  | nil => simp [ln]
  | cons s R ih =>
    rw [ln_cons, ln_cons]
    split <;> split <;> omega
theorem shares : ∀ (S : List Nat) (n : Nat), down S → (∀ s ∈ S, s ≤ n) → sumTo (fun r => 2 ^ (S.length - ln S r)) n + kr S = n * 2 ^ S.length
  | [], n, _, _ => by simp [ln, kr, sumTo_const]
  | s :: R, n, hd, hn => by
    have hs : s ≤ n := hn s (by simp)
    have hR := down_le hd
    have ih := shares R s (down_tail hd) hR
    obtain ⟨j, rfl⟩ := Nat.le.dest hs
    rw [sumTo_add]
    have e1 : sumTo (fun r => 2 ^ ((s :: R).length - ln (s :: R) r)) s = sumTo (fun r => 2 ^ (R.length - ln R r)) s := by
      refine sumTo_congr fun r hr => ?_
      rw [ln_cons, if_pos hr, List.length_cons]
      congr 1
      omega
    have e2 : sumTo (fun i => 2 ^ ((s :: R).length - ln (s :: R) (s + i))) j = j * 2 ^ (R.length + 1) := by
      rw [← sumTo_const]
      refine sumTo_congr fun i hi => ?_
      rw [ln_cons, if_neg (by omega), ln_zero (fun x hx => by have := hR x hx; omega), List.length_cons]
      rfl
    rw [e1, e2, kr, List.length_cons, Nat.pow_succ]
    generalize sumTo (fun r => 2 ^ (R.length - ln R r)) s = x at *
    generalize 2 ^ R.length = y at *
    generalize kr R = z at *
    rw [Nat.add_mul, ← Nat.mul_assoc, ← Nat.mul_assoc]
    omega
section
variable {cs : List It} {lv : Nat → List It} (h : Lv cs lv)
include h in
theorem lv_length (k : Nat) : (lv (k + 1)).length = cs.length + (lv k).length / 2 := by
  have := (filter_perm isC (lv (k + 1))).length_eq
  rw [(h.next k).cs, (h.next k).ps] at this
  simpa [pairs_length] using this
include h in
theorem lv_room (hn : 0 < cs.length) : ∀ k, ∃ c, (lv (k + 1)).length + c = 2 * cs.length ∧ 1 ≤ c ∧ (c - 1) * 2 ^ k < cs.length
  | 0 => ⟨cs.length, by rw [lv_length h, h.zero]; simp; omega, hn, by omega⟩
  | k + 1 => by
    obtain ⟨c, h1, h2, h3⟩ := lv_room hn k
    refine ⟨(c + 1) / 2, by rw [lv_length h (k + 1)]; omega, by omega, ?_⟩
    have h4 : 2 * ((c + 1) / 2 - 1) ≤ c - 1 := by omega
    have h5 := Nat.mul_le_mul_right (2 ^ k) h4
    rw [Nat.pow_succ, Nat.mul_comm (2 ^ k), ← Nat.mul_assoc, Nat.mul_comm _ 2]
    omega
include h in
theorem lv_full (k : Nat) (hn : 0 < cs.length) (hk : cs.length ≤ 2 ^ (k + 1)) : 2 * cs.length - 2 ≤ (lv (k + 1)).length := by
  obtain ⟨c, h1, h2, h3⟩ := lv_room h hn k
  rw [Nat.pow_succ] at hk
  have h4 : c - 1 < 2 := by
    rcases Nat.lt_or_ge (c - 1) 2 with h' | h'
    · exact h'
    · have := Nat.mul_le_mul_right (2 ^ k) h'
      omega
  omega
theorem sel_all (hh : ∀ k m, sC lv (k + 1) m ≤ cs.length) : ∀ k m, ∀ s ∈ sel lv k m, s ≤ cs.length
  | 0, m, s, hs => by simp [sel] at hs
  | k + 1, m, s, hs => by
    simp only [sel, List.mem_cons] at hs
    rcases hs with rfl | hs
    · exact hh k m
    · exact sel_all hh k _ s hs
theorem whole (h : Lv cs lv) (hp : ∀ x ∈ cs, 0 < x.w) (k : Nat) (hn : 1 ≤ cs.length) (hk : cs.length ≤ 2 ^ (k + 1)) :
    sumTo (fun r => 2 ^ (k + 1 - ln (sel lv (k + 1) (2 * cs.length - 2)) r)) cs.length = 2 ^ (k + 1) := by
  have h1 := shares (sel lv (k + 1) (2 * cs.length - 2)) cs.length (sel_down h hp _ _) (sel_all (sC_le h) _ _)
  rw [sel_length, kr_sel h k _ (lv_full h k hn hk)] at h1
  have e : (2 * cs.length - 2) * 2 ^ k + 2 ^ (k + 1) = cs.length * 2 ^ (k + 1) := by
    rw [Nat.pow_succ, show 2 ^ k * 2 = 2 * 2 ^ k from Nat.mul_comm _ _, ← Nat.mul_assoc]
    obtain ⟨j, hj⟩ : ∃ j, cs.length = j + 1 := ⟨cs.length - 1, by omega⟩
    rw [hj, show 2 * (j + 1) - 2 = 2 * j from by omega, show (j + 1) * 2 = 2 * j + 2 from by omega, Nat.add_mul]
  omega
theorem taken (h : Lv cs lv) (hp : ∀ x ∈ cs, 0 < x.w) (k : Nat) (hn : 2 ≤ cs.length) (hk : cs.length ≤ 2 ^ (k + 1)) (r : Nat) (hr : r < cs.length) : 1 ≤ ln (sel lv (k + 1) (2 * cs.length - 2)) r := by
  have h1 := whole h hp k (by omega) hk
  rcases Nat.eq_zero_or_pos (ln (sel lv (k + 1) (2 * cs.length - 2)) r) with h0 | h0
  · exfalso
    obtain ⟨q, hq, hne⟩ : ∃ q, q < cs.length ∧ r ≠ q := by
      rcases Nat.eq_zero_or_pos r with h2 | h2
      · exact ⟨1, by omega, by omega⟩
      · exact ⟨0, by omega, by omega⟩
    have := sumTo_two (fun r => 2 ^ (k + 1 - ln (sel lv (k + 1) (2 * cs.length - 2)) r)) hr hq hne
    simp only [h0, Nat.sub_zero] at this
    have hpos : 0 < 2 ^ (k + 1 - ln (sel lv (k + 1) (2 * cs.length - 2)) q) := Nat.pow_pos (by decide)
    omega
  · exact h0
end
end Go.Pm
namespace Go.Pm
set_option linter.all false
section
variable {cs : List It} {lv : Nat → List It} (h : Lv cs lv)
theorem pack_more {c : Nat} (h : Lv cs lv) (hc : 0 < c) (he : ∀ x ∈ cs, x.w = c) : ∀ k, ∀ y ∈ lv k, isC y = false → c < y.w
  | 0, y, hy, _ => by rw [h.zero] at hy; simp at hy
  | k + 1, y, hy, hyc => by
    have hm : y ∈ (lv (k + 1)).filter fun x => !isC x := List.mem_filter.2 ⟨hy, by simp [hyc]⟩
    rw [(h.next k).ps] at hm
    have hall : ∀ z ∈ lv k, c ≤ z.w := by
      intro z hz
      cases k with
      | zero => rw [h.zero] at hz; simp at hz
      | succ k =>
        cases hzc : isC z with
        | true =>
          have hz2 : z ∈ (lv (k + 1)).filter isC := List.mem_filter.2 ⟨hz, hzc⟩
          rw [(h.next k).cs] at hz2
          exact Nat.le_of_eq (he z hz2).symm
        | false => exact Nat.le_of_lt (pack_more h hc he (k + 1) z hz hzc)
    have key : ∀ (l : List It), (∀ z ∈ l, c ≤ z.w) → ∀ z ∈ pairs l, c < z.w := by
      intro l
      induction l using pairs.induct with
      | case1 a b r ihr =>
        intro hl z hz
        simp only [pairs, List.mem_cons] at hz
        rcases hz with rfl | hz
        · have := hl a (by simp); have := hl b (by simp); simp only [pack]; omega
        · exact ihr (fun z hz => hl z (by simp [hz])) z hz
      | case2 l hl2 =>
        intro _ z hz
        rw [pairs] at hz
        · simp at hz
        · exact hl2
    exact key _ hall y hm
theorem flat_sC {c : Nat} (h : Lv cs lv) (hc : 0 < c) (he : ∀ x ∈ cs, x.w = c) (k m : Nat) (hm : m ≤ (lv (k + 1)).length) : sC lv (k + 1) m = min m cs.length := by
  have h1 := sp lv (k + 1) m hm
  have h2 := sC_le h k m
  rcases Nat.lt_or_ge (sC lv (k + 1) m) (min m cs.length) with hlt | hge
  · exfalso
    have hp : 0 < pC lv (k + 1) m := by omega
    obtain ⟨y, hy⟩ : ∃ y, y ∈ ((lv (k + 1)).take m).filter fun x => !isC x := by
      have : 0 < (((lv (k + 1)).take m).filter fun x => !isC x).length := hp
      exact ⟨_, List.getElem_mem this⟩
    obtain ⟨hy1, hyc⟩ := List.mem_filter.1 hy
    have hyw := pack_more h hc he (k + 1) y (List.mem_of_mem_take hy1) (by simpa using hyc)
    obtain ⟨x, hx⟩ : ∃ x, cs[sC lv (k + 1) m]? = some x := ⟨cs[sC lv (k + 1) m]'(by omega), by simp⟩
    have hxd : x ∈ (lv (k + 1)).drop m := by
      have e : cs = ((lv (k + 1)).take m).filter isC ++ ((lv (k + 1)).drop m).filter isC := by
        rw [← List.filter_append, List.take_append_drop, (h.next k).cs]
      have hl : (((lv (k + 1)).take m).filter isC).length = sC lv (k + 1) m := rfl
      have hx' := hx
      rw [e, List.getElem?_append_right (by omega), hl, Nat.sub_self] at hx'
      exact (List.mem_filter.1 (List.mem_of_getElem? hx')).1
    have hxw := he x (List.mem_of_getElem? hx)
    have hup := (h.next k).up
    rw [← List.take_append_drop m (lv (k + 1)), List.pairwise_append] at hup
    have := hup.2.2 y hy1 x hxd
    omega
  · omega
theorem sel_none (lv : Nat → List It) (r : Nat) : ∀ k, ln (sel lv k 0) r = 0
  | 0 => rfl
  | k + 1 => by
    have e : sC lv (k + 1) 0 = 0 := by simp [sC]
    have e2 : pC lv (k + 1) 0 = 0 := by simp [pC]
    rw [sel, ln_cons, e, e2, Nat.mul_zero, sel_none lv r k]
    simp
theorem flat {c : Nat} (h : Lv cs lv) (hc : 0 < c) (he : ∀ x ∈ cs, x.w = c) : ∀ (k t : Nat), 1 ≤ t → t ≤ cs.length → cs.length ≤ t * 2 ^ k → 2 * (cs.length - t) ≤ (lv k).length →
    ∃ K, t * 2 ^ K ≤ cs.length ∧ cs.length < t * 2 ^ (K + 1) ∧ ∀ r, r < cs.length → ln (sel lv k (2 * (cs.length - t))) r = K + (if r < 2 * (cs.length - t * 2 ^ K) then 1 else 0)
  | 0, t, h1, h2, h3, h4 => by
    rw [Nat.pow_zero, Nat.mul_one] at h3
    refine ⟨0, by omega, by simp; omega, fun r hr => ?_⟩
    simp [sel, ln]
    omega
  | k + 1, t, h1, h2, h3, h4 => by
    have hs := flat_sC h hc he k _ h4
    have hsp := sp lv (k + 1) _ h4
    have hp2 := pC_two h k (2 * (cs.length - t))
    rcases Nat.lt_or_ge cs.length (2 * t) with hlt | hge
    · refine ⟨0, by simpa using h2, by rw [Nat.pow_one]; omega, fun r hr => ?_⟩
      have e1 : sC lv (k + 1) (2 * (cs.length - t)) = 2 * (cs.length - t) := by omega
      have e2 : pC lv (k + 1) (2 * (cs.length - t)) = 0 := by omega
      rw [sel, ln_cons, e1, e2, Nat.mul_zero, sel_none, Nat.pow_zero, Nat.mul_one]
      omega
    · have e1 : sC lv (k + 1) (2 * (cs.length - t)) = cs.length := by omega
      have e2 : pC lv (k + 1) (2 * (cs.length - t)) = cs.length - 2 * t := by omega
      rw [e2] at hp2
      obtain ⟨K, g1, g2, g3⟩ := flat h hc he k (2 * t) (by omega) hge (by rw [Nat.pow_succ] at h3; rw [Nat.mul_comm 2 t, Nat.mul_assoc, Nat.mul_comm 2]; exact h3) hp2
      have f : ∀ q, 2 * t * 2 ^ q = t * 2 ^ (q + 1) := fun q => by rw [Nat.pow_succ, Nat.mul_comm 2 t, Nat.mul_assoc, Nat.mul_comm 2]
      rw [f] at g1 g2
      refine ⟨K + 1, g1, g2, fun r hr => ?_⟩
      rw [sel, ln_cons, e1, e2, if_pos hr, g3 r hr, f]
      omega
end
def psum : List Nat → List Nat
  | a :: b :: r => (a + b) :: psum r
  | _ => []
theorem pairs_w : ∀ l : List It, (pairs l).map It.w = psum (l.map It.w)
  | [] => rfl
  | [_] => rfl
  | a :: b :: r => by simp only [pairs, List.map_cons, psum, pairs_w r, pack]
structure Lw (ws : List Nat) (lw : Nat → List Nat) : Prop where
  zero : lw 0 = []
  up : ∀ k, (lw (k + 1)).Pairwise fun a b => a ≤ b
  perm : ∀ k, (lw (k + 1)).Perm (ws ++ psum (lw k))
theorem Lv.lw {cs : List It} {lv : Nat → List It} (h : Lv cs lv) : Lw (cs.map It.w) (fun k => (lv k).map It.w) where
  zero := by rw [h.zero]; rfl
  up k := by
    rw [List.pairwise_map]
    exact (h.next k).up
  perm k := by
    have := (filter_perm isC (lv (k + 1))).map It.w
    rw [(h.next k).cs, (h.next k).ps, List.map_append, pairs_w] at this
    exact this
theorem Lw.same {ws ws' : List Nat} {lw lw' : Nat → List Nat} (h : Lw ws lw) (h' : Lw ws' lw') (hp : ws.Perm ws') : ∀ k, lw k = lw' k
  | 0 => by rw [h.zero, h'.zero]
  | k + 1 => by
    have ih := Lw.same h h' hp k
    have p : (lw (k + 1)).Perm (lw' (k + 1)) := (h.perm k).trans (((hp.append (by rw [ih])).trans (h'.perm k).symm))
    exact List.Perm.eq_of_pairwise (fun a b _ _ h1 h2 => Nat.le_antisymm h1 h2) (h.up k) (h'.up k) p
end Go.Pm
namespace Go.Pm
set_option linter.all false
theorem pairs_get : ∀ {l : List Pm.It} {k : Nat} {x y : Pm.It}, l[2 * k]? = some x → l[2 * k + 1]? = some y → (pairs l)[k]? = some (pack x y)
  | [], k, x, y, h, _ => by simp at h
  | [_], 0, x, y, _, h => by simp at h
  | [_], k + 1, x, y, h, _ => by simp at h
  | a :: b :: r, 0, x, y, h1, h2 => by
    simp at h1 h2
    subst h1 h2
    rfl
  | a :: b :: r, k + 1, x, y, h1, h2 => by
    rw [show 2 * (k + 1) = 2 * k + 1 + 1 from by omega, List.getElem?_cons_succ, List.getElem?_cons_succ] at h1
    rw [show 2 * (k + 1) + 1 = 2 * k + 1 + 1 + 1 from by omega, List.getElem?_cons_succ, List.getElem?_cons_succ] at h2
    rw [pairs, List.getElem?_cons_succ]
    exact pairs_get h1 h2
end Go.Pm
namespace Go.Proofs.Ytbdpjbmfhnbheaa
open Go Go.Vx
variable [W0]
set_option maxRecDepth 4000
set_option linter.all false
omit [W0] in
/-- An item's cells. -/
def itv (x : Pm.It) : List Value := [.int .i64 (x.w : Int), .bool (!Pm.isC x)]
omit [W0] in
def itvs (l : List Pm.It) : List Value := l.flatMap itv
theorem itvs_length (l : List Pm.It) : (itvs l).length = l.length * 2 := by
  induction l with
  | nil => rfl
  | cons x r ih => simp [itvs, itv] at ih ⊢; omega
theorem itvs_app (a b : List Pm.It) : itvs (a ++ b) = itvs a ++ itvs b := by simp [itvs]
theorem itvs_ones (l : List Pm.It) : ones (itvs l) = true := by
  induction l with
  | nil => rfl
  | cons x r ih =>
    have e : itvs (x :: r) = .int .i64 (x.w : Int) :: .bool (!Pm.isC x) :: itvs r := rfl
    rw [e]
    simpa [ones, Value.oneCell'] using ih
theorem itvs_get : ∀ {l : List Pm.It} {i : Nat} {x : Pm.It}, l[i]? = some x → (itvs l)[i * 2]? = some (.int .i64 (x.w : Int)) ∧ (itvs l)[i * 2 + 1]? = some (.bool (!Pm.isC x))
  | [], i, x, h => by simp at h
  | a :: r, 0, x, h => by
    simp at h
    subst h
    exact ⟨rfl, rfl⟩
  | a :: r, i + 1, x, h => by
    simp at h
    have ih := itvs_get h
    have e : itvs (a :: r) = .int .i64 (a.w : Int) :: .bool (!Pm.isC a) :: itvs r := rfl
    rw [e, show (i + 1) * 2 = i * 2 + 1 + 1 from by omega]
    exact ih
theorem ow_one2 {e k m : Nat} {v : Value} {xs : List Value} {C : Chunk} (h : Ow e k v m xs C) : v.oneCell' = true := by
  rcases h with ⟨rfl, _⟩ | ⟨b, cap, rest, rfl, _⟩ <;> rfl
set_option maxHeartbeats 8000000 in
theorem pairs_c (v : Value) (l : List Pm.It) (Cb : Chunk) (L : List Chunk) (hO : Ow 109 2 v l.length (itvs l) Cb) (hl : l.length ≤ 1000) (hw : ∀ x ∈ l, x.w ≤ 2305843009213693952) :
    Gv Try.prog 57 [v].toArray (Cb :: L) (fun r L' => ∃ C, L' = C :: Cb :: L ∧ Ow 109 2 r (Pm.pairs l).length (itvs (Pm.pairs l)) C) := by
  obtain ⟨a, c, rfl, hh⟩ : ∃ a c, v = .slice a l.length c ∧ HdS a l.length c := by
    rcases hO with ⟨rfl, h1, _⟩ | ⟨b, cap, rest, rfl, _, _, _, h2, _⟩
    · rw [h1]; exact ⟨_, _, rfl, Nat.le_refl _, .inl ⟨rfl, rfl⟩⟩
    · exact ⟨_, _, rfl, h2, .inr ⟨b, 0, rfl⟩⟩
  refine Gv.of_bodyM Try.func57 rfl rfl ?_
  (repeat' first|refine kW ?_|refine kU fun bk=>?_|refine kV fun hc=>?_|refine kZ (fun hc=>?_) fun hc=>?_|fail)
  obtain ⟨b3, hb3⟩ : ∃ b3, b3 = bk := ⟨_, rfl⟩
  rw [← hb3]
  clear hb3
  refine OW_call rfl rfl rfl (chunk_c a l.length c _) rfl (fun r L' hp => ?_)
  obtain ⟨p, q, rfl, rfl⟩ := hp
  (repeat' first|refine kW ?_|refine kU fun bk=>?_|refine kV fun hc=>?_|refine kZ (fun hc=>?_) fun hc=>?_|fail)
  obtain ⟨J, hJ⟩ : ∃ J : Nat → List Chunk → Prop, ∀ k L', J k L' ↔ ∃ v C, Ow 109 2 v ((Pm.pairs l).take k).length (itvs ((Pm.pairs l).take k)) C ∧ L' = [(b3, cl [v] 101)] :: C :: Cb :: L := ⟨fun k L' => ∃ v C, Ow 109 2 v ((Pm.pairs l).take k).length (itvs ((Pm.pairs l).take k)) C ∧ L' = [(b3, cl [v] 101)] :: C :: Cb :: L, fun _ _ => Iff.rfl⟩
  refine WC_range (ps := [7]) rfl (chunk_it a l.length c p q (by omega) hh) J ([(b3, cl [.slice none 0 0] 101)] :: [] :: Cb :: L) ((hJ _ _).2 ⟨_, [], .inl ⟨rfl, rfl, rfl, rfl⟩, rfl⟩) (fun w h => ?_) (fun k hk => by rw [ckS_length] at hk; rw [ckS_get _ _ hk]; rfl) rfl
    (fun k _ => [(3, .pointer (some ⟨b3, 0, none⟩)), (4, ckV a l.length k)]) (fun lp k L' R hk hj => ?_) (fun lp k L' R hk hj => ?_) (fun D a' w L3 hst hd hj hw' => ?_)
  · have h2 := h.perm (List.perm_append_comm (l₁ := [[(q, cl [.int .i64 2] 3)], [(p, cl [.slice a l.length c] 101)]]) (l₂ := [(b3, cl [.slice none 0 0] 101)] :: Cb :: L))
    exact Holds.gap.2 h2
  · rw [ckS_length] at hk
    rw [ckS_get _ _ hk]
    show Wic _ _ _ _ _ ((7, ckV a l.length k) :: _) _
    (repeat' first|refine kI ?_|refine kU fun bk=>?_|refine kJ fun hc=>?_|refine kK (fun hc=>?_) fun hc=>?_|fail)
    exact WQ_AP iS (fun w h => h)
  · rw [ckS_length] at hk
    obtain ⟨v, C, ho, rfl⟩ := (hJ _ _).1 hj
    rcases hO with ⟨_, h1, _⟩ | ⟨b, cap, rest, hv, rfl, hxl, hrl, hmc, _⟩
    · omega
    injection hv with e1 e2 e3
    subst e1 e3
    clear e2
    show Wic _ _ _ _ _ _ ([(b3, cl [v] 101)] :: C :: [(b, cl (itvs l ++ rest) 109)] :: (L ++ R))
    have hpl := Pm.pairs_length l
    by_cases h2 : 2 * k + 2 ≤ l.length
    · have hck : ckV (some ⟨b, 0, none⟩) l.length k = .slice (some ⟨b, 0 + 2 * k * 2, none⟩) 2 2 := by
        show Value.slice (some ⟨b, 0 + 2 * k * 2, none⟩) (min 2 (l.length - 2 * k)) (min 2 (l.length - 2 * k)) = _
        rw [Nat.min_eq_left (by omega)]
      obtain ⟨x, hx⟩ : ∃ x, l[2 * k]? = some x := ⟨l[2 * k], by simp [show 2 * k < l.length from by omega]⟩
      obtain ⟨y, hy⟩ : ∃ y, l[2 * k + 1]? = some y := ⟨l[2 * k + 1], by simp [show 2 * k + 1 < l.length from by omega]⟩
      have hwx := hw x (List.mem_of_getElem? hx)
      have hwy := hw y (List.mem_of_getElem? hy)
      have hpg := Pm.pairs_get hx hy
      have hgx : nth (itvs l ++ rest) (0 + 2 * k * 2 + 0 * 2 + 0) = some (.int .i64 (x.w : Int)) := by
        have h3 := (itvs_get hx).1
        rw [nth_eq, show 0 + 2 * k * 2 + 0 * 2 + 0 = 2 * k * 2 from by omega, List.getElem?_append_left (List.getElem?_eq_some_iff.1 h3).1]
        exact h3
      have hgy : nth (itvs l ++ rest) (0 + 2 * k * 2 + 1 * 2 + 0) = some (.int .i64 (y.w : Int)) := by
        have h3 := (itvs_get hy).1
        rw [nth_eq, show 0 + 2 * k * 2 + 1 * 2 + 0 = (2 * k + 1) * 2 from by omega, List.getElem?_append_left (List.getElem?_eq_some_iff.1 h3).1]
        exact h3
      have htk : (Pm.pairs l).take (k + 1) = (Pm.pairs l).take k ++ [Pm.pack x y] := by rw [List.take_add_one, hpg]; rfl
      have htl : ((Pm.pairs l).take k).length = k := by rw [List.length_take, hpl]; omega
      rw [hck]
      (repeat' first|refine kI ?_|refine kU fun bk=>?_|refine kJ fun hc=>?_|refine kK (fun hc=>?_) fun hc=>?_|fail)
      refine WI_draw [[(b3, cl [v] 101)], [(b, cl (itvs l ++ rest) 109)]] [13] (by repeat (first | with_reducible exact NL.body | with_reducible exact RP_nl | with_reducible exact AP_nl | with_reducible refine NL.then ?_ | with_reducible refine NL.block ?_)) rfl mixed ?_
      (refine WR_r 0 ?_; refine WR_r 1 ?_)
      (refine WR_take 2 rfl rfl (by kernel_rfl) iP iC (EV_indexAddr (j := 0) rfl rfl rfl (by omega)) (by rfl) ?_)
      (refine WR_take 3 rfl rfl (by kernel_rfl) iP iC (EV_fieldAddr rfl) (by rfl) ?_)
      (refine WR_take 4 rfl rfl (by kernel_rfl) iP iC (EV_loadc rfl (Fnd.there Fnd.here) hgx) (by rfl) ?_)
      (refine WR_r 5 ?_)
      (refine WR_take 6 rfl rfl (by kernel_rfl) iP iC (EV_indexAddr (j := 1) rfl rfl rfl (by omega)) (by rfl) ?_)
      (refine WR_take 7 rfl rfl (by kernel_rfl) iP iC (EV_fieldAddr rfl) (by rfl) ?_)
      (refine WR_take 8 rfl rfl (by kernel_rfl) iP iC (EV_loadc rfl (Fnd.there Fnd.here) hgy) (by rfl) ?_)
      (refine WR_r 9 ?_)
      rw [← Int.natCast_add]
      (refine WR_r 10 ?_)
      (refine WR_one 11 (by kernel_rfl) rfl rfl ?_)
      refine OW_buildSlice (cs := itv (Pm.pack x y)) rfl (by rfl) (by simp [fillL, patch, Value.cells, zeros]; rfl) (by omega) rfl rfl (fun bs => ?_)
      refine ⟨iC, ?_⟩
      (refine WR_one 12 (by kernel_rfl) rfl rfl ?_)
      refine OW_append rfl rfl ho (sl_cells (k := 2) (c := (itv (Pm.pack x y)).toArray) (xs := itv (Pm.pack x y)) (m := 1) Fnd.here rfl (by simp)) (by repeat (first | exact Zip.here _ | apply Zip.there)) rfl (by rfl) (by omega) (by simp [maxLen]; omega) rfl (fun v' C' ho' _ _ => ?_)
      refine ⟨iC, ?_⟩
      (refine WR_last 13 (by kernel_rfl) rfl rfl rfl ?_)
      refine OW_storeTo [v'] rfl rfl (ow_one2 ho') rfl iU (by simp) ?_
      (refine WR_done (by kernel_rfl) ?_)
      (repeat' first|refine kI ?_|refine kU fun bk=>?_|refine kJ fun hc=>?_|refine kK (fun hc=>?_) fun hc=>?_|fail)
      refine WQ_RP ([(b3, cl [v'] 101)] :: C' :: [(b, cl (itvs l ++ rest) 109)] :: L) ((hJ _ _).2 ⟨v', C', ?_, rfl⟩) (fun w h => h.drop)
      rw [htk, itvs_app, List.length_append]
      exact ho'
    · have hck : ckV (some ⟨b, 0, none⟩) l.length k = .slice (some ⟨b, 0 + 2 * k * 2, none⟩) 1 1 := by
        show Value.slice (some ⟨b, 0 + 2 * k * 2, none⟩) (min 2 (l.length - 2 * k)) (min 2 (l.length - 2 * k)) = _
        rw [show min 2 (l.length - 2 * k) = 1 from by omega]
      rw [hck]
      (repeat' first|refine kI ?_|refine kU fun bk=>?_|refine kJ fun hc=>?_|refine kK (fun hc=>?_) fun hc=>?_|fail)
      refine WQ_RP ([(b3, cl [v] 101)] :: C :: [(b, cl (itvs l ++ rest) 109)] :: L) ((hJ _ _).2 ⟨v, C, ?_, rfl⟩) (fun w h => h)
      have e1 : (Pm.pairs l).take (k + 1) = (Pm.pairs l).take k := by rw [List.take_of_length_le (by omega), List.take_of_length_le (by omega)]
      rw [e1]
      exact ho
  · obtain ⟨v, C, ho, rfl⟩ := (hJ _ _).1 hj
    rw [ckS_length, List.take_of_length_le (by rw [Pm.pairs_length]; omega)] at ho
    have hw2 : Holds w (([(D, .deferred (some []))] :: [(b3, cl [v] 101)] :: C :: Cb :: L) ++ [[(q, cl [.int .i64 2] 3)], [(p, cl [.slice a l.length c] 101)]]) := hw'
    have hw3 := hw2.front
    change Code.wp _ _ _ a' w
    refine Wmc.out (M := [(3, .pointer (some ⟨b3, 0, none⟩))]) (L := [(D, .deferred (some []))] :: [(b3, cl [v] 101)] :: C :: Cb :: L) ?_ a' w (hst.sub iS) hd hw3
    refine WM_seq (WM_region (WN_ev rfl (EV_loadc rfl (Fnd.there Fnd.here) rfl) rfl (WN_ev rfl (EV_assign rfl) rfl (WN_nil (WP_code rfl (WM_ret ?_))))))
    exact WP_end (.inl rfl) rfl rfl (L1 := C :: Cb :: L) (fun w h => (iC : Inc ([(D, .deferred (some []))] :: C :: Cb :: L) _).holds h) ⟨C, rfl, ho⟩
end Go.Proofs.Ytbdpjbmfhnbheaa
namespace Go.Pm
set_option linter.all false
theorem pairs_up : ∀ {l : List Pm.It}, l.Pairwise (fun a b => a.w ≤ b.w) → (pairs l).Pairwise (fun a b => a.w ≤ b.w)
  | [], _ => .nil
  | [_], _ => .nil
  | a :: b :: r, h => by
    have ha := (List.pairwise_cons.1 h).1
    have h2 := (List.pairwise_cons.1 h).2
    have hb := (List.pairwise_cons.1 h2).1
    have hr := (List.pairwise_cons.1 h2).2
    refine List.pairwise_cons.2 ⟨fun x hx => ?_, pairs_up hr⟩
    obtain ⟨y, hy, hxy⟩ : ∃ y ∈ r, ∃ z ∈ r, x.w = y.w + z.w := by
      have key : ∀ l : List Pm.It, ∀ x ∈ pairs l, ∃ y ∈ l, ∃ z ∈ l, x.w = y.w + z.w := by
        intro l
        induction l using pairs.induct with
        | case1 a b r ih =>
          intro x hx
          rcases List.mem_cons.1 hx with rfl | hx
          · exact ⟨a, by simp, b, by simp, rfl⟩
          · obtain ⟨y, hy, z, hz, e⟩ := ih x hx
            exact ⟨y, by simp [hy], z, by simp [hz], e⟩
        | case2 t ht =>
          intro x hx
          match t, ht with
          | [], _ => simp [pairs] at hx
          | [_], _ => simp [pairs] at hx
          | a :: b :: r, ht => exact absurd rfl (ht a b r)
      exact key r x hx
    obtain ⟨z, hz, e⟩ := hxy
    have h1 := ha y (List.mem_cons_of_mem _ hy)
    have h3 := hb z hz
    show a.w + b.w ≤ x.w
    omega
structure Mp (cs ps : List Pm.It) (i t : Nat) (A : List Pm.It) : Prop where
  ci : A.filter isC = cs.take i
  pt : A.filter (fun x => !isC x) = ps.take t
  up : A.Pairwise fun a b => a.w ≤ b.w
  lc : ∀ x ∈ A, ∀ y ∈ cs.drop i, x.w ≤ y.w
  lp : ∀ x ∈ A, ∀ y ∈ ps.drop t, x.w ≤ y.w
theorem Mp.nil (cs ps : List Pm.It) : Mp cs ps 0 0 [] := ⟨by simp, by simp, .nil, fun x hx => by simp at hx, fun x hx => by simp at hx⟩
theorem up_app {A : List Pm.It} {x : Pm.It} (h : A.Pairwise fun a b => a.w ≤ b.w) (hx : ∀ y ∈ A, y.w ≤ x.w) : (A ++ [x]).Pairwise fun a b => a.w ≤ b.w := by
  rw [List.pairwise_append]
  exact ⟨h, List.pairwise_singleton _ _, fun a ha b hb => by rw [List.mem_singleton.1 hb]; exact hx a ha⟩
theorem drop_le {l : List Pm.It} {i : Nat} {x : Pm.It} (hl : l.Pairwise fun a b => a.w ≤ b.w) (hx : l[i]? = some x) : ∀ y ∈ l.drop i, x.w ≤ y.w := by
  intro y hy
  have hlt := (List.getElem?_eq_some_iff.1 hx).1
  have h2 := hl.sublist (List.drop_sublist i l)
  rw [List.drop_eq_getElem_cons hlt] at h2 hy
  have he : l[i] = x := by rw [List.getElem?_eq_getElem hlt] at hx; exact Option.some.inj hx
  rw [he] at h2 hy
  rcases List.mem_cons.1 hy with h | h
  · rw [h]; exact Nat.le_refl _
  · exact (List.pairwise_cons.1 h2).1 y h
theorem get_mem_drop {l : List Pm.It} {i : Nat} {x : Pm.It} (hx : l[i]? = some x) : x ∈ l.drop i := by
  have hlt := (List.getElem?_eq_some_iff.1 hx).1
  rw [List.drop_eq_getElem_cons hlt]
  have he : l[i] = x := by rw [List.getElem?_eq_getElem hlt] at hx; exact Option.some.inj hx
  rw [he]; exact List.mem_cons_self
theorem drop_sub {l : List Pm.It} {i : Nat} {y : Pm.It} (hy : y ∈ l.drop (i + 1)) : y ∈ l.drop i := by
  rw [← List.drop_drop] at hy
  exact List.mem_of_mem_drop hy
theorem Mp.pack {cs ps : List Pm.It} {i t : Nat} {A : List Pm.It} {x z : Pm.It} (h : Mp cs ps i t A) (hcs : cs.Pairwise fun a b => a.w ≤ b.w) (hps : ps.Pairwise fun a b => a.w ≤ b.w) (hpp : ∀ x ∈ ps, isC x = false)
    (hx : ps[t]? = some x) (hz : cs[i]? = some z) (hlt : x.w < z.w) : Mp cs ps i (t + 1) (A ++ [x]) := by
  have hxc := hpp x (List.mem_of_getElem? hx)
  refine ⟨?_, ?_, up_app h.up fun y hy => h.lp y hy x (get_mem_drop hx), fun a ha y hy => ?_, fun a ha y hy => ?_⟩
  · rw [List.filter_append, h.ci]; simp [hxc]
  · rw [List.filter_append, h.pt, List.take_add_one, hx]; simp [hxc]
  · rcases List.mem_append.1 ha with ha | ha
    · exact h.lc a ha y hy
    · rw [List.mem_singleton.1 ha]; exact Nat.le_trans (Nat.le_of_lt hlt) (drop_le hcs hz y hy)
  · rcases List.mem_append.1 ha with ha | ha
    · exact h.lp a ha y (drop_sub hy)
    · rw [List.mem_singleton.1 ha]; exact drop_le hps hx y (drop_sub hy)
theorem Mp.coin {cs ps : List Pm.It} {i t : Nat} {A : List Pm.It} {z : Pm.It} (h : Mp cs ps i t A) (hcs : cs.Pairwise fun a b => a.w ≤ b.w) (hps : ps.Pairwise fun a b => a.w ≤ b.w) (hcc : ∀ x ∈ cs, isC x = true)
    (hz : cs[i]? = some z) (hge : ∀ x, ps[t]? = some x → z.w ≤ x.w) : Mp cs ps (i + 1) t (A ++ [z]) := by
  have hzc := hcc z (List.mem_of_getElem? hz)
  refine ⟨?_, ?_, up_app h.up fun y hy => h.lc y hy z (get_mem_drop hz), fun a ha y hy => ?_, fun a ha y hy => ?_⟩
  · rw [List.filter_append, h.ci, List.take_add_one, hz]; simp [hzc]
  · rw [List.filter_append, h.pt]; simp [hzc]
  · rcases List.mem_append.1 ha with ha | ha
    · exact h.lc a ha y (drop_sub hy)
    · rw [List.mem_singleton.1 ha]; exact drop_le hcs hz y (drop_sub hy)
  · rcases List.mem_append.1 ha with ha | ha
    · exact h.lp a ha y hy
    · rw [List.mem_singleton.1 ha]
      cases hp : ps[t]? with
      | none => rw [List.drop_of_length_le (List.getElem?_eq_none_iff.1 hp)] at hy; simp at hy
      | some x => exact Nat.le_trans (hge x hp) (drop_le hps hp y hy)
theorem Mp.fin {cs ps : List Pm.It} {t : Nat} {A : List Pm.It} (h : Mp cs ps cs.length t A) (hps : ps.Pairwise fun a b => a.w ≤ b.w) (hpp : ∀ x ∈ ps, isC x = false) : Mg cs ps (A ++ ps.drop t) := by
  have h1 : (ps.drop t).filter isC = [] := List.filter_eq_nil_iff.2 fun x hx => by rw [hpp x (List.mem_of_mem_drop hx)]; simp
  have h2 : (ps.drop t).filter (fun x => !isC x) = ps.drop t := List.filter_eq_self.2 fun x hx => by rw [hpp x (List.mem_of_mem_drop hx)]; rfl
  refine ⟨?_, ?_, ?_⟩
  · rw [List.pairwise_append]
    exact ⟨h.up, hps.sublist (List.drop_sublist _ _), fun a ha b hb => h.lp a ha b hb⟩
  · rw [List.filter_append, h.ci, h1, List.take_length, List.append_nil]
  · rw [List.filter_append, h.pt, h2, List.take_append_drop]
theorem Mp.len {cs ps : List Pm.It} {i t : Nat} {A : List Pm.It} (h : Mp cs ps i t A) : A.length ≤ cs.length + ps.length := by
  have h1 := (filter_perm isC A).length_eq
  rw [List.length_append, h.ci, h.pt, List.length_take, List.length_take] at h1
  omega
end Go.Pm
namespace Go.Proofs.Ytbdpjbmfhnbheaa
open Go Go.Vx Go.So
variable [W0]
set_option maxRecDepth 4000
set_option linter.all false
omit [W0] in
/-- What is left of a list of packages. -/
def PsV (ps : List Pm.It) (Cp : Chunk) (v : Value) (t : Nat) : Prop := (ps.length ≤ t ∧ ∃ a c, v = .slice a 0 c) ∨
  (t < ps.length ∧ ∃ bp cp rp, v = .slice (some ⟨bp, t * 2, none⟩) (ps.length - t) (cp - t) ∧ ps.length ≤ cp ∧ Cp = [(bp, cl (itvs ps ++ rp) 109)])
theorem PsV.new {ps : List Pm.It} {Cp : Chunk} {v : Value} (h : Ow 109 2 v ps.length (itvs ps) Cp) : PsV ps Cp v 0 := by
  rcases h with ⟨rfl, h1, _⟩ | ⟨b, cap, rest, rfl, rfl, _, _, hmc, _⟩
  · exact .inl ⟨by omega, _, _, rfl⟩
  · rcases Nat.eq_zero_or_pos ps.length with h0 | h0
    · rw [h0]; exact .inl ⟨by omega, _, _, rfl⟩
    · exact .inr ⟨h0, b, cap, rest, by simp, hmc, rfl⟩
theorem itvs_drop (l : List Pm.It) (t : Nat) : itvs (l.drop t) = (itvs l).drop (t * 2) := by
  conv => rhs; rw [← List.take_append_drop t l, itvs_app]
  rcases Nat.lt_or_ge t l.length with h | h
  · have e : (itvs (l.take t)).length = t * 2 := by rw [itvs_length, List.length_take]; omega
    rw [← e, List.drop_left]
  · have e : (itvs (l.take t)).length ≤ t * 2 := by rw [itvs_length, List.length_take]; omega
    rw [List.drop_of_length_le h]
    show [] = _
    rw [show itvs ([] : List Pm.It) = [] from rfl, List.append_nil, List.drop_of_length_le e]
theorem PsV.sl {ps : List Pm.It} {Cp : Chunk} {v : Value} {t : Nat} {L : List Chunk} (h : PsV ps Cp v t) (hL : ∀ x ∈ Cp, x ∈ L.flatten) : Sl L 2 v (ps.drop t).length (itvs (ps.drop t)) := by
  rcases h with ⟨h1, a, c, rfl⟩ | ⟨h1, bp, cp, rp, rfl, h2, rfl⟩
  · rw [List.drop_of_length_le h1]
    cases a with
    | none => exact .inl ⟨c, rfl, rfl, rfl⟩
    | some a => exact .inr ⟨a, c, rfl, .inl rfl, rfl⟩
  · refine .inr ⟨⟨bp, t * 2, none⟩, cp - t, by rw [List.length_drop], ?_, itvs_length _⟩
    refine .inr ⟨bp, t * 2, _, _, (0, 0), rfl, hL (bp, _) (by simp; rfl), fun j u hj => ?_⟩
    rw [itvs_drop, List.getElem?_drop] at hj
    rw [List.getElem?_toArray, List.getElem?_append_left (List.getElem?_eq_some_iff.1 hj).1]
    exact hj
end Go.Proofs.Ytbdpjbmfhnbheaa
namespace Go.Proofs.Ytbdpjbmfhnbheaa
open Go Go.Vx Go.So
variable [W0]
set_option maxRecDepth 4000
set_option linter.all false
omit [W0] in
/-- The coins of a row, and the chunk that holds it. -/
def coinsOf (wt : Nat → Nat) (g : Nat → Nat × Nat) (N : Nat) : List Pm.It := (List.range N).map fun r => Pm.coin wt (g r).1
theorem coinsOf_get (wt : Nat → Nat) (g : Nat → Nat × Nat) {N i : Nat} (h : i < N) : (coinsOf wt g N)[i]? = some (Pm.coin wt (g i).1) := by simp [coinsOf, h]
theorem coinsOf_length (wt : Nat → Nat) (g : Nat → Nat × Nat) (N : Nat) : (coinsOf wt g N).length = N := by simp [coinsOf]
theorem coinsOf_isC (wt : Nat → Nat) (g : Nat → Nat × Nat) (N : Nat) : ∀ x ∈ coinsOf wt g N, Pm.isC x = true := by
  intro x hx
  obtain ⟨r, _, rfl⟩ := List.mem_map.1 hx
  rfl
theorem coinsOf_up {wt : Nat → Nat} {g : Nat → Nat × Nat} {N : Nat} (hs : Srt ky 0 N g) (hw : ∀ r, r < N → (g r).2 = wt (g r).1) : (coinsOf wt g N).Pairwise fun a b => a.w ≤ b.w := by
  rw [coinsOf, List.pairwise_map]
  refine List.Pairwise.imp_of_mem (fun {a b} ha hb (hab : a < b) => ?_) List.pairwise_lt_range
  have hb' := List.mem_range.1 hb
  have := hs a b (Nat.zero_le _) (by omega) hb'
  unfold ky at this
  rw [hw a (by omega), hw b hb'] at this
  exact this
set_option maxHeartbeats 16000000 in
theorem merged_c (wt : Nat → Nat) (g : Nat → Nat × Nat) (N b0 c0 : Nat) (rest : List Value) (v : Value) (lb : List Pm.It) (Cb : Chunk) (L : List Chunk) (hN : N ≤ 400) (hs : Srt ky 0 N g) (hgw : ∀ r, r < N → (g r).2 = wt (g r).1) (hgb : ∀ r, r < N → (g r).2 ≤ 1073741824)
    (hO : Ow 109 2 v lb.length (itvs lb) Cb) (hl : lb.length ≤ 1000) (hw : ∀ x ∈ lb, x.w ≤ 2305843009213693952) (hup : lb.Pairwise fun a b => a.w ≤ b.w) :
    Gv Try.prog 50 [.slice (some ⟨b0, 0, none⟩) N c0, v].toArray ([(b0, cl (cvs g N ++ rest) 63)] :: Cb :: L)
      (fun r L' => ∃ A C, L' = C :: [(b0, cl (cvs g N ++ rest) 63)] :: Cb :: L ∧ Ow 109 2 r A.length (itvs A) C ∧ Pm.Mg (coinsOf wt g N) (Pm.pairs lb) A) := by
  have hcs := coinsOf_up hs hgw
  have hps := Pm.pairs_up hup
  have hpp := Pm.pairs_isC lb
  have hcc := coinsOf_isC wt g N
  have hcl := coinsOf_length wt g N
  have hpl := Pm.pairs_length lb
  have hpc := pairs_c v lb Cb ([(b0, cl (cvs g N ++ rest) 63)] :: L) hO hl hw
  obtain ⟨va, vc, hvs⟩ : ∃ a c, v = .slice a lb.length c := by
    rcases hO with ⟨rfl, h1, _⟩ | ⟨b, cap, rest, rfl, _⟩
    · rw [h1]; exact ⟨_, _, rfl⟩
    · exact ⟨_, _, rfl⟩
  refine Gv.of_body Try.func50 rfl rfl ?_
  (repeat' first|refine kW ?_|refine kU fun bk=>?_|refine kV fun hc=>?_|refine kZ (fun hc=>?_) fun hc=>?_|fail)
  refine OW_call rfl rfl rfl (Gv.take hpc (by repeat (first | exact Take.here | apply Take.there))) rfl (fun r L' hp => ?_)
  obtain ⟨Cp, rfl, hop⟩ := hp
  obtain ⟨ps, hpse⟩ : ∃ ps, ps = Pm.pairs lb := ⟨_, rfl⟩
  rw [← hpse] at hop hps hpp hpl ⊢
  have hpv := PsV.new hop
  (repeat' first|refine kW ?_|refine kU fun bk=>?_|refine kV fun hc=>?_|refine kZ (fun hc=>?_) fun hc=>?_|fail)
  refine WC_loop (X := Nat × Nat × List Pm.It × Value × Chunk × Value) (fun x => [(5, x.2.2.2.1), (6, x.2.2.2.2.2), (11, .slice (some ⟨b0, 0, none⟩) N c0), (12, .int .i64 (N : Int)), (13, .int .i64 (x.1 : Int))])
    (fun x => [(b0, cl (cvs g N ++ rest) 63)] :: x.2.2.2.2.1 :: Cp :: Cb :: L)
    (fun x => x.1 ≤ N ∧ Pm.Mp (coinsOf wt g N) ps x.1 x.2.1 x.2.2.1 ∧ Ow 109 2 x.2.2.2.1 x.2.2.1.length (itvs x.2.2.1) x.2.2.2.2.1 ∧ PsV ps Cp x.2.2.2.2.2 x.2.1) (fun x => N - x.1) (0, 0, [], .slice none 0 0, [], r)
    ⟨Nat.zero_le _, Pm.Mp.nil _ _, .inl ⟨rfl, rfl, rfl, rfl⟩, hpv⟩ iS (fun w h => ?_) ?_
  · show Holds w ([(b0, cl (cvs g N ++ rest) 63)] :: [] :: Cp :: Cb :: L)
    exact Holds.gap.2 (iH h)
  clear hpv hpc
  rintro ⟨i, t, A, vi, Ci, vp⟩ ⟨q1, q2, q3, q4⟩
  simp only at q1 q2 q3 q4 ⊢
  (repeat' first|refine kW ?_|refine kU fun bk=>?_|refine kV fun hc=>?_|refine kZ (fun hc=>?_) fun hc=>?_|fail)
  · have hiN : i < N := by omega
    refine OW_EV (EV_indexAddr0 (j := i) (len := N) rfl rfl rfl hiN) rfl ?_
    (repeat' first|refine kW ?_|refine kU fun bk=>?_|refine kV fun hc=>?_|refine kZ (fun hc=>?_) fun hc=>?_|fail)
    refine OW_EV (EV_loadAgg rfl (cv_rd (f := g) (n := N) (j := i) (rest := rest) hiN Fnd.here) rfl) rfl ?_
    (repeat' first|refine kW ?_|refine kU fun bk=>?_|refine kV fun hc=>?_|refine kZ (fun hc=>?_) fun hc=>?_|fail)
    obtain ⟨bc, hbc⟩ : ∃ bc, bc = bk := ⟨_, rfl⟩
    rw [← hbc]
    clear hbc
    refine OW_holds (L' := [(bc, cl [.int .i64 0, .int .i64 0] 63)] :: [(b0, cl (cvs g N ++ rest) 63)] :: Ci :: Cp :: Cb :: L) (fun w h => h) ?_
    refine OW_storeAggTo (l := [.int .i64 0, .int .i64 0]) (vs := cv (g i)) (cv (g i)) rfl rfl rfl rfl rfl iU (by simp [cv]) ?_
    (repeat' first|refine kW ?_|refine kU fun bk=>?_|refine kV fun hc=>?_|refine kZ (fun hc=>?_) fun hc=>?_|fail)
    refine WC_loop (X := Nat × List Pm.It × Value × Chunk × Value) (fun x => [(5, x.2.2.1), (6, x.2.2.2.2), (8, .pointer (some ⟨bc, 0, none⟩)), (11, .slice (some ⟨b0, 0, none⟩) N c0), (12, .int .i64 (N : Int)), (13, .int .i64 (i : Int))])
      (fun x => [(bc, cl (cv (g i)) 63)] :: [(b0, cl (cvs g N ++ rest) 63)] :: x.2.2.2.1 :: Cp :: Cb :: L)
      (fun x => Pm.Mp (coinsOf wt g N) ps i x.1 x.2.1 ∧ Ow 109 2 x.2.2.1 x.2.1.length (itvs x.2.1) x.2.2.2.1 ∧ PsV ps Cp x.2.2.2.2 x.1) (fun x => ps.length - x.1) (t, A, vi, Ci, vp)
      ⟨q2, q3, q4⟩ iS (fun w h => h) ?_
    clear q2 q3 q4 t A vi Ci vp
    rintro ⟨t, A, vi, Ci, vp⟩ ⟨q2, q3, q4⟩
    simp only at q2 q3 q4 ⊢
    have hcz := coinsOf_get wt g hiN
    have hzw : (Pm.coin wt (g i).1).w = (g i).2 := (hgw i hiN).symm
    have hAl := q2.len
    rw [hcl] at hAl
    have hitv : itv (Pm.coin wt (g i).1) = [.int .i64 ((g i).2 : Int), .bool false] := by unfold itv; rw [hzw]; rfl
    have hq4 := q4
    rcases q4 with ⟨h1, a, c, rfl⟩ | ⟨h1, bp, cp, rp, rfl, h2, rfl⟩
    · (repeat' first|refine kW ?_|refine kU fun bk=>?_|refine kV fun hc=>?_|refine kZ (fun hc=>?_) fun hc=>?_|fail)
      refine WC_drawAll [] mixed ?_
      (refine WR_t 0 ?_; refine WR_t 1 ?_; refine WR_t 2 ?_; refine WR_t 3 ?_)
      rw [show decide ((((0 : Nat) : Nat) : Int) > 0) = false from by decide]
      (refine WR_v 4 ?_; refine WR_v 5 ?_; refine WR_v 6 ?_; refine WR_v 7 ?_; refine WR_v 8 ?_; refine WR_v 9 ?_; refine WR_v 10 ?_)
      (refine WR_t 11 ?_)
      (refine WR_done (by kernel_rfl) ?_)
      (repeat' first|refine kW ?_|refine kU fun bk=>?_|refine kV fun hc=>?_|refine kZ (fun hc=>?_) fun hc=>?_|fail)
      refine OW_buildSlice (cs := itv (Pm.coin wt (g i).1)) rfl (by rfl) (by rw [hitv]; first | (simp [fillL, patch, Value.cells, zeros]; done) | (simp [fillL, patch, Value.cells, zeros]; rfl)) (by omega) rfl rfl (fun bs => ?_)
      (repeat' first|refine kW ?_|refine kU fun bk=>?_|refine kV fun hc=>?_|refine kZ (fun hc=>?_) fun hc=>?_|fail)
      refine OW_append rfl rfl q3 (sl_cells (k := 2) (c := (itv (Pm.coin wt (g i).1)).toArray) (xs := itv (Pm.coin wt (g i).1)) (m := 1) Fnd.here rfl (by simp)) (by repeat (first | exact Zip.here _ | apply Zip.there)) rfl (by rfl) (by omega) (by simp [maxLen]; omega) rfl (fun v' C' ho' _ _ => ?_)
      (repeat' first|refine kW ?_|refine kU fun bk=>?_|refine kV fun hc=>?_|refine kZ (fun hc=>?_) fun hc=>?_|fail)
      refine WQ_round (X := Nat × Nat × List Pm.It × Value × Chunk × Value) (μ := fun x => N - x.1) (x := (i, 0, [], .slice none 0 0, [], .slice none 0 0)) (i + 1, t, A ++ [Pm.coin wt (g i).1], v', C', .slice a 0 c) (by simp only; omega) ⟨by simp only; omega, q2.coin hcs hps hcc hcz (fun x hx => by rw [List.getElem?_eq_none h1] at hx; cases hx), by rw [itvs_app, List.length_append]; exact ho', hq4⟩ iS (fun w h => iH h)
    · obtain ⟨x, hx⟩ : ∃ x, ps[t]? = some x := ⟨ps[t], by simp [h1]⟩
      have hgx := (itvs_get hx).1
      have hxl := (List.getElem?_eq_some_iff.1 hgx).1
      have hgx2 : nth (itvs ps ++ rp) (t * 2 + 0 * 2 + 0) = some (.int .i64 (x.w : Int)) := by
        rw [nth_eq, show t * 2 + 0 * 2 + 0 = t * 2 from by omega, List.getElem?_append_left hxl]
        exact hgx
      (repeat' first|refine kW ?_|refine kU fun bk=>?_|refine kV fun hc=>?_|refine kZ (fun hc=>?_) fun hc=>?_|fail)
      refine WC_drawAll [] mixed ?_
      (refine WR_t 0 ?_; refine WR_t 1 ?_; refine WR_t 2 ?_; refine WR_t 3 ?_)
      rw [show decide (((ps.length - t : Nat) : Int) > 0) = true from by simp; omega]
      (refine WR_u 4 ?_)
      (refine WR_takeOn 5 rfl rfl rfl (by kernel_rfl) iP iC (EV_indexAddr (j := 0) rfl rfl rfl (by omega)) (by rfl) ?_)
      (refine WR_takeOn 6 rfl rfl rfl (by kernel_rfl) iP iC (EV_fieldAddr rfl) (by rfl) ?_)
      (refine WR_takeOn 7 rfl rfl rfl (by kernel_rfl) iP iC (EV_loadc rfl (Fnd.there (Fnd.there (Fnd.there Fnd.here))) hgx2) (by rfl) ?_)
      (refine WR_u 8 ?_; refine WR_u 9 ?_; refine WR_u 10 ?_)
      (refine WR_t 11 ?_)
      (refine WR_done (by kernel_rfl) ?_)
      (repeat' first|refine kW ?_|refine kU fun bk=>?_|refine kV fun hc=>?_|refine kZ (fun hc=>?_) fun hc=>?_|fail)
      · have hgx1 := (itvs_get hx).2
        have hrd : RdAt [[(bp, cl (itvs ps ++ rp) 109)]] ⟨bp, t * 2 + 0 * 2, none⟩ (itv x) := by
          refine .inr ⟨bp, _, _, _, (0, 0), rfl, Fnd.here, fun j u hj => ?_⟩
          rw [List.getElem?_toArray]
          match j, hj with
          | 0, hj =>
            rw [show t * 2 + 0 * 2 + 0 = t * 2 from by omega, List.getElem?_append_left hxl, hgx]
            exact hj
          | 1, hj =>
            rw [show t * 2 + 0 * 2 + 1 = t * 2 + 1 from by omega, List.getElem?_append_left (List.getElem?_eq_some_iff.1 hgx1).1, hgx1]
            exact hj
          | n + 2, hj => simp [itv] at hj
        refine WC_draw [[(bp, cl (itvs ps ++ rp) 109)]] [] mixed ?_
        (refine WR_t 0 ?_; refine WR_t 1 ?_)
        (refine WR_take 2 rfl rfl (by kernel_rfl) iP iC (EV_indexAddr (j := 0) rfl rfl rfl (by omega)) (by rfl) ?_)
        (refine WR_take 3 rfl rfl (by kernel_rfl) iP iC (EV_loadAgg rfl hrd rfl) (by rfl) ?_)
        (refine WR_t 6 ?_)
        (refine WR_take 7 rfl rfl (by kernel_rfl) iP iC (EV_sliceSl (l := 1) (h := ps.length - t) rfl rfl rfl (by omega) (by omega)) (by rfl) ?_)
        (refine WR_one 4 (by kernel_rfl) rfl rfl ?_)
        refine OW_buildSlice (cs := itv x) rfl (by rfl) (by simp [fillL, patch, Value.cells, zeros, itv]; done) (by omega) rfl rfl (fun bs => ?_)
        refine ⟨iC, ?_⟩
        (refine WR_one 5 (by kernel_rfl) rfl rfl ?_)
        refine OW_append rfl rfl q3 (sl_cells (k := 2) (c := (itv x).toArray) (xs := itv x) (m := 1) Fnd.here rfl (by simp)) (by repeat (first | exact Zip.here _ | apply Zip.there)) rfl (by rfl) (by omega) (by simp [maxLen]; omega) rfl (fun v' C' ho' _ _ => ?_)
        refine ⟨iC, ?_⟩
        (refine WR_t 8 ?_; refine WR_t 9 ?_)
        (refine WR_done (by kernel_rfl) ?_)
        (repeat' first|refine kW ?_|refine kU fun bk=>?_|refine kV fun hc=>?_|refine kZ (fun hc=>?_) fun hc=>?_|fail)
        refine WQ_round (X := Nat × List Pm.It × Value × Chunk × Value) (μ := fun x => ps.length - x.1) (x := (t, A, vi, Ci, vi)) (t + 1, A ++ [x], v', C', _) (by simp only; omega) ⟨q2.pack hcs hps hpp hx hcz (by rw [hzw]; omega), by rw [itvs_app, List.length_append]; exact ho', ?_⟩ iS (fun w h => iH h)
        by_cases h3 : t + 1 < ps.length
        · refine .inr ⟨h3, bp, cp, rp, ?_, h2, rfl⟩
          rw [if_neg (by omega)]
          simp only
          rw [show t * 2 + 1 * 2 = (t + 1) * 2 from by omega, Nat.sub_sub, Nat.sub_sub]
        · have e0 : ps.length - t - 1 = 0 := by omega
          rw [e0]
          exact .inl ⟨by simp only; omega, _, _, rfl⟩
      · refine OW_buildSlice (cs := itv (Pm.coin wt (g i).1)) rfl (by rfl) (by rw [hitv]; first | (simp [fillL, patch, Value.cells, zeros]; done) | (simp [fillL, patch, Value.cells, zeros]; rfl)) (by omega) rfl rfl (fun bs => ?_)
        (repeat' first|refine kW ?_|refine kU fun bk=>?_|refine kV fun hc=>?_|refine kZ (fun hc=>?_) fun hc=>?_|fail)
        refine OW_append rfl rfl q3 (sl_cells (k := 2) (c := (itv (Pm.coin wt (g i).1)).toArray) (xs := itv (Pm.coin wt (g i).1)) (m := 1) Fnd.here rfl (by simp)) (by repeat (first | exact Zip.here _ | apply Zip.there)) rfl (by rfl) (by omega) (by simp [maxLen]; omega) rfl (fun v' C' ho' _ _ => ?_)
        (repeat' first|refine kW ?_|refine kU fun bk=>?_|refine kV fun hc=>?_|refine kZ (fun hc=>?_) fun hc=>?_|fail)
        refine WQ_round (X := Nat × Nat × List Pm.It × Value × Chunk × Value) (μ := fun x => N - x.1) (x := (i, 0, [], .slice none 0 0, [], .slice none 0 0)) (i + 1, t, A ++ [Pm.coin wt (g i).1], v', C', .slice (some ⟨bp, t * 2, none⟩) (ps.length - t) (cp - t)) (by simp only; omega) ⟨by simp only; omega, q2.coin hcs hps hcc hcz (fun y hy => by rw [hx] at hy; injection hy with hy; subst hy; rw [hzw]; omega), by rw [itvs_app, List.length_append]; exact ho', hq4⟩ iS (fun w h => iH h)
  · have hie : i = N := by omega
    refine OW_append rfl rfl q3 (q4.sl (fun x hx => ?_)) (by repeat (first | exact Zip.here _ | apply Zip.there)) rfl (itvs_ones _) ?_ ?_ rfl (fun v' C' ho' _ _ => ?_)
    · simp only [List.flatten_cons, List.mem_append]
      exact .inr (.inr (.inl hx))
    · have := q2.len
      rw [hcl] at this
      rw [List.length_drop]
      omega
    · have := q2.len
      rw [hcl] at this
      rw [List.length_drop]
      simp [maxLen]
      omega
    · (repeat' first|refine kW ?_|refine kU fun bk=>?_|refine kV fun hc=>?_|refine kZ (fun hc=>?_) fun hc=>?_|fail)
      refine kR ?_
      rw [hie] at q2
      have hfin := Pm.Mp.fin (cs := coinsOf wt g N) (by rw [hcl]; exact q2) hps hpp
      refine ⟨C' :: [(b0, cl (cvs g N ++ rest) 63)] :: Cb :: L, iC, A ++ ps.drop t, C', rfl, ?_, hfin⟩
      rw [List.length_append, itvs_app]
      exact ho'
end Go.Proofs.Ytbdpjbmfhnbheaa
namespace Go.Hf
set_option linter.all false
def kS : List Nat → Nat
  | [] => 0
  | x :: r => (if 0 < x then 2 ^ (15 - x) else 0) + kS r
theorem kS_app (a b : List Nat) : kS (a ++ b) = kS a + kS b := by
  induction a with
  | nil => simp [kS]
  | cons x r ih => simp only [List.cons_append, kS, ih]; omega
theorem kS_le (l : List Nat) : kS l ≤ l.length * 16384 := by
  induction l with
  | nil => simp [kS]
  | cons x r ih =>
    have : (if 0 < x then 2 ^ (15 - x) else 0) ≤ 16384 := by
      split
      · exact Nat.le_trans (Nat.pow_le_pow_right (by decide) (show 15 - x ≤ 14 by omega)) (by decide)
      · omega
    simp only [kS, List.length_cons]
    omega
def cn (l : List Nat) (n : Nat) : Nat := (l.filter fun x => x == n).length
theorem cn_app (a b : List Nat) (n : Nat) : cn (a ++ b) n = cn a n + cn b n := by simp [cn]
theorem cn_cons (x : Nat) (r : List Nat) (n : Nat) : cn (x :: r) n = (if x = n then 1 else 0) + cn r n := by
  unfold cn
  by_cases h : x = n
  · simp [h]; omega
  · simp [h]
def fs (l : List Nat) : Nat → Nat
  | 0 => 0
  | n + 1 => 2 * (fs l n + if n = 0 then 0 else cn l n)
theorem fs_one (l : List Nat) : fs l 1 = 0 := rfl
theorem fs_succ (l : List Nat) {n : Nat} (h : 0 < n) : fs l (n + 1) = 2 * (fs l n + cn l n) := by
  rw [fs, if_neg (by omega)]
def ks (l : List Nat) (n : Nat) : Nat := kS (l.filter fun x => decide (x ≤ n))
theorem ks_succ (l : List Nat) (n : Nat) : ks l (n + 1) = ks l n + cn l (n + 1) * 2 ^ (15 - (n + 1)) := by
  induction l with
  | nil => simp [ks, kS, cn]
  | cons x r ih =>
    unfold ks at *
    rw [cn_cons]
    rcases Nat.lt_trichotomy x (n + 1) with h | h | h
    · have h1 : x ≤ n + 1 := by omega
      have h2 : x ≤ n := by omega
      have h3 : x ≠ n + 1 := by omega
      simp only [List.filter_cons, h1, h2, h3, decide_true, if_true, kS, if_false, ih, Nat.zero_add]
      omega
    · subst h
      have h2 : ¬ n + 1 ≤ n := by omega
      simp only [List.filter_cons, Nat.le_refl, h2, decide_true, decide_false, if_true, Bool.false_eq_true, if_false, kS, ih, Nat.zero_lt_succ, Nat.add_mul, Nat.one_mul]
      omega
    · have h1 : ¬ x ≤ n + 1 := by omega
      have h2 : ¬ x ≤ n := by omega
      have h3 : x ≠ n + 1 := by omega
      simp only [List.filter_cons, h1, h2, h3, decide_false, Bool.false_eq_true, if_false, ih, Nat.zero_add]
theorem ks_zero (l : List Nat) : ks l 0 = 0 := by
  induction l with
  | nil => rfl
  | cons x r ih =>
    unfold ks at *
    by_cases h : x ≤ 0
    · simp only [List.filter_cons, h, decide_true, if_true, kS, ih]
      rw [if_neg (by omega)]
    · simp only [List.filter_cons, h, decide_false, Bool.false_eq_true, if_false, ih]
theorem ks_all {l : List Nat} {n : Nat} (h : ∀ x ∈ l, x ≤ n) : ks l n = kS l := by
  unfold ks
  rw [List.filter_eq_self.2 (fun x hx => by simpa using h x hx)]
theorem ks_le (l : List Nat) (n : Nat) : ks l n ≤ kS l := by
  have key : ∀ l : List Nat, kS (l.filter fun x => decide (x ≤ n)) ≤ kS l := by
    intro l
    induction l with
    | nil => exact Nat.le_refl _
    | cons x r ih =>
      by_cases h : x ≤ n
      · simp only [List.filter_cons, h, decide_true, if_true, kS]; omega
      · simp only [List.filter_cons, h, decide_false, Bool.false_eq_true, if_false, kS]; omega
  exact key l
theorem fs_end (l : List Nat) : ∀ n, 1 ≤ n → n ≤ 15 → (fs l n + cn l n) * 2 ^ (15 - n) = ks l n
  | 0, h, _ => by omega
  | 1, _, _ => by
    have h : ks l 1 = ks l 0 + cn l 1 * 2 ^ (15 - 1) := ks_succ l 0
    rw [ks_zero] at h
    rw [fs_one, Nat.zero_add]
    omega
  | n + 2, _, h2 => by
    have ih := fs_end l (n + 1) (by omega) (by omega)
    rw [fs_succ l (by omega), ks_succ, ← ih, Nat.add_mul]
    congr 1
    rw [show 15 - (n + 1) = 15 - (n + 1 + 1) + 1 from by omega, Nat.pow_succ]
    generalize fs l (n + 1) + cn l (n + 1) = x
    generalize 2 ^ (15 - (n + 1 + 1)) = y
    rw [Nat.mul_comm 2 x, Nat.mul_assoc, Nat.mul_comm 2 y]
theorem fs_fit {l : List Nat} (hk : kS l ≤ 32768) {n : Nat} (h1 : 1 ≤ n) (h2 : n ≤ 15) : fs l n + cn l n ≤ 2 ^ n := by
  have h := fs_end l n h1 h2
  have h3 := ks_le l n
  have h4 : (fs l n + cn l n) * 2 ^ (15 - n) ≤ 2 ^ n * 2 ^ (15 - n) := by
    rw [h, ← Nat.pow_add, show n + (15 - n) = 15 from by omega]
    exact Nat.le_trans h3 hk
  exact Nat.le_of_mul_le_mul_right h4 (Nat.pow_pos (by decide))
def cd (l : List Nat) (i : Nat) : Nat := if l.getD i 0 = 0 then 0 else fs l (l.getD i 0) + cn (l.take i) (l.getD i 0)
def cds (l : List Nat) : List Nat := (List.range l.length).map (cd l)
theorem cn_take_mono (l : List Nat) (n : Nat) {i j : Nat} (h : i ≤ j) : cn (l.take i) n ≤ cn (l.take j) n := by
  have : l.take j = l.take i ++ (l.drop i).take (j - i) := by
    rw [List.take_drop, show i + (j - i) = j from by omega]
    have h1 : l.take i = (l.take j).take i := by rw [List.take_take, Nat.min_eq_left h]
    rw [h1, List.take_append_drop]
  rw [this, cn_app]
  omega
end Go.Hf
namespace Go.Vx
open Go
set_option linter.all false
variable [W0]
section
variable {P : Program} {n : Nat} {M : List (Nat × Value)} {L : List Chunk} {d : Nat} {ty : TypeId} {ps : String} {af : Array Edge} {g : Option (Nat × Bool)} {x y : Operand}
theorem EV_shl64 {t u : TypeId} {k' : IntKind} {i j : Int} (a s : Nat) (hx : ev M x = some (.int .i64 i)) (hy : ev M y = some (.int k' j)) (hi : i = (a : Int)) (hj : j = (s : Int)) (hs : s ≤ 64) (hr : a * 2 ^ s ≤ 9223372036854775807) :
    EV P n ⟨some d, .binOp .shl t x y u, ty, ps, af, g⟩ M L d (.int .i64 ((a * 2 ^ s : Nat) : Int)) := by
  subst hi hj
  refine EV_shl hx hy (by omega) ?_
  rw [Int.toNat_natCast, Nat.min_eq_left (by simpa [IntKind.bits] using hs)]
  have c : (a : Int) * 2 ^ s = ((a * 2 ^ s : Nat) : Int) := by simp
  rw [c]
  exact wrap_i64 (by omega) (by omega)
end
omit [W0] in
/-- Words as cells, by their numbers. -/
def wnv (l : List Nat) : List Value := l.map fun (n : Nat) => Value.int .u32 (n : Int)
theorem wnv_length {l : List Nat} : (wnv l).length = l.length := by simp [wnv]
theorem wnv_ones {l : List Nat} : ones (wnv l) = true := by simp [ones, wnv, Value.oneCell']
theorem wnv_get {l : List Nat} {i n : Nat} (h : l[i]? = some n) : (wnv l)[i]? = some (.int .u32 (n : Int)) := by simp [wnv, h]
theorem zeros_wnv : ∀ n, zeros [.int .u32 0] n = wnv (List.replicate n 0)
  | 0 => rfl
  | n + 1 => by simp only [zeros, List.replicate_succ]; rw [zeros_wnv n]; rfl
theorem ints_get {l : List Int} {i : Nat} (h : i < l.length) : (intsN l)[i]? = some (.int .i64 (l.getD i 0)) := by simp [intsN, List.getD, h]
end Go.Vx
namespace Go.Hf
def okL (ls : List Int) : Bool := ls.all fun x => decide (0 ≤ x) && decide (x ≤ 15)
def nl (ls : List Int) : List Nat := ls.map Int.toNat
def wgt (ls : List Int) : Int := if okL ls then (kS (nl ls) : Int) else -1
theorem nl_length (ls : List Int) : (nl ls).length = ls.length := by simp [nl]
theorem okL_take {ls : List Int} {i : Nat} (hi : i < ls.length) (h : okL (ls.take i) = true) (h1 : 0 ≤ ls.getD i 0) (h2 : ls.getD i 0 ≤ 15) : okL (ls.take (i + 1)) = true := by
  have hg : ls.getD i 0 = ls[i] := by simp [List.getD, hi]
  rw [hg] at h1 h2
  unfold okL at *
  rw [List.take_add_one, List.getElem?_eq_getElem hi, List.all_append, h]
  simp [h1, h2]
theorem okL_bad {ls : List Int} {i : Nat} (hi : i < ls.length) (h : ls.getD i 0 < 0 ∨ 15 < ls.getD i 0) : okL ls = false := by
  have hg : ls.getD i 0 = ls[i] := by simp [List.getD, hi]
  rw [hg] at h
  unfold okL
  rw [List.all_eq_false]
  refine ⟨ls[i], List.getElem_mem hi, ?_⟩
  simp only [Bool.and_eq_true, decide_eq_true_eq]
  omega
theorem okL_mem {ls : List Int} (h : okL ls = true) {x : Int} (hx : x ∈ ls) : 0 ≤ x ∧ x ≤ 15 := by
  have := List.all_eq_true.1 h x hx
  simpa using this
theorem okL_nl {ls : List Int} (h : okL ls = true) {x : Nat} (hx : x ∈ nl ls) : x ≤ 15 := by
  obtain ⟨y, hy, rfl⟩ := List.mem_map.1 hx
  have := okL_mem h hy
  omega
theorem okL_at {ls : List Int} (h : okL ls = true) (i : Nat) : 0 ≤ ls.getD i 0 ∧ ls.getD i 0 ≤ 15 ∧ ((nl ls).getD i 0 : Int) = ls.getD i 0 := by
  rcases Nat.lt_or_ge i ls.length with hi | hi
  · have hg : ls.getD i 0 = ls[i] := by simp [List.getD, hi]
    have hg2 : (nl ls).getD i 0 = ls[i].toNat := by simp [nl, List.getD, hi]
    have := okL_mem h (List.getElem_mem hi)
    rw [hg, hg2]
    omega
  · have hg : ls.getD i 0 = 0 := by simp [List.getD, List.getElem?_eq_none hi]
    have hg2 : (nl ls).getD i 0 = 0 := by simp [nl, List.getD, List.getElem?_eq_none hi]
    rw [hg, hg2]
    omega
end Go.Hf
namespace Go.Proofs.Ytbdpjbmfhnbheaa
open Go Go.Vx Go.Hf
variable [W0]
set_option maxRecDepth 4000
set_option linter.all false
omit [W0] in
/-- The sum of the products. -/
def costN (cs ls : List Nat) : Nat → Nat := Go.Pm.sumTo fun i => cs.getD i 0 * ls.getD i 0
theorem costN_le {cs ls : List Nat} (h1 : ∀ i, cs.getD i 0 ≤ 2147483648) (h2 : ∀ i, ls.getD i 0 ≤ 1048576) (n : Nat) : costN cs ls n ≤ n * 2251799813685248 := by
  induction n with
  | zero => simp [costN, Go.Pm.sumTo]
  | succ n ih =>
    have := Nat.mul_le_mul (h1 n) (h2 n)
    simp only [costN, Go.Pm.sumTo] at *
    omega
omit [W0] in
/-- Numbers as integers. -/
def icn (l : List Nat) : List Int := l.map fun (n : Nat) => (n : Int)
theorem icn_length (l : List Nat) : (icn l).length = l.length := by simp [icn]
theorem icn_getD (l : List Nat) (i : Nat) : (icn l).getD i 0 = ((l.getD i 0 : Nat) : Int) := by
  rcases Nat.lt_or_ge i l.length with hi | hi
  · simp [icn, List.getD, hi]
  · simp [icn, List.getD, List.getElem?_eq_none hi]
end Go.Proofs.Ytbdpjbmfhnbheaa
namespace Go.Hf
set_option linter.all false
def cdE (ls : List Int) : Nat := if 400 < ls.length ∨ okL ls = false then 1 else if 32768 < kS (nl ls) then 3 else 0
def cdL (ls : List Int) : List Nat := if cdE ls = 0 then cds (nl ls) else []
theorem cdE_one {ls : List Int} (h : 400 < ls.length ∨ okL ls = false) : cdE ls = 1 ∧ cdL ls = [] := by
  have e : cdE ls = 1 := if_pos h
  exact ⟨e, by unfold cdL; rw [e]; rfl⟩
theorem cdE_three {ls : List Int} (h1 : ls.length ≤ 400) (h2 : okL ls = true) (h3 : 32768 < kS (nl ls)) : cdE ls = 3 ∧ cdL ls = [] := by
  have e : cdE ls = 3 := by unfold cdE; rw [if_neg (by rw [h2]; simp; omega), if_pos h3]
  exact ⟨e, by unfold cdL; rw [e]; rfl⟩
theorem cdE_zero {ls : List Int} (h1 : ls.length ≤ 400) (h2 : okL ls = true) (h3 : kS (nl ls) ≤ 32768) : cdE ls = 0 ∧ cdL ls = cds (nl ls) := by
  have e : cdE ls = 0 := by unfold cdE; rw [if_neg (by rw [h2]; simp; omega), if_neg (by omega)]
  exact ⟨e, by unfold cdL; rw [e]; rfl⟩
theorem cdE_inv {ls : List Int} (h : cdE ls = 0) : ls.length ≤ 400 ∧ okL ls = true ∧ kS (nl ls) ≤ 32768 := by
  unfold cdE at h
  split at h
  · omega
  · rename_i h1
    split at h
    · omega
    · refine ⟨by omega, ?_, by omega⟩
      cases ho : okL ls with
      | true => rfl
      | false => exact absurd (.inr ho) h1
theorem cn_take_succ {l : List Nat} {j : Nat} (hj : j < l.length) (n : Nat) : cn (l.take (j + 1)) n = cn (l.take j) n + if l.getD j 0 = n then 1 else 0 := by
  have hg : l.getD j 0 = l[j] := by simp [List.getD, hj]
  rw [List.take_add_one, List.getElem?_eq_getElem hj, cn_app, hg]
  congr 1
  simp only [Option.toList, cn_cons]
  simp [cn]
theorem cn_take_le (l : List Nat) (j n : Nat) : cn (l.take j) n ≤ cn l n := by
  have := cn_take_mono l n (show j ≤ max j l.length by omega)
  rwa [List.take_of_length_le (Nat.le_max_right j l.length)] at this
end Go.Hf
namespace Go.Vx
open Go
set_option linter.all false
variable [W0]
section
variable {P : Program} {n : Nat} {M : List (Nat × Value)} {L : List Chunk} {d : Nat} {ty : TypeId} {ps : String} {af : Array Edge} {g : Option (Nat × Bool)} {x y : Operand} {k : IntKind} {i j : Int} {t u : TypeId}
theorem EV_nadd (a b : Nat) (hx : ev M x = some (.int k i)) (hy : ev M y = some (.int k j)) (hi : i = (a : Int)) (hj : j = (b : Int)) (hs : k.signed = false) (hr : a + b < 2 ^ k.bits) :
    EV P n ⟨some d, .binOp .add t x y u, ty, ps, af, g⟩ M L d (.int k ((a + b : Nat) : Int)) := by
  subst hi hj
  have h := EV_ari (P := P) (n := n) (L := L) (d := d) (ty := ty) (ps := ps) (af := af) (g := g) (op := .add) (t := t) (u := u) hx hy rfl
  rwa [show (a : Int) + (b : Int) = ((a + b : Nat) : Int) from by omega, wrap_nat hs hr] at h
theorem EV_nmul (a b : Nat) (hx : ev M x = some (.int k i)) (hy : ev M y = some (.int k j)) (hi : i = (a : Int)) (hj : j = (b : Int)) (hs : k.signed = false) (hr : a * b < 2 ^ k.bits) :
    EV P n ⟨some d, .binOp .mul t x y u, ty, ps, af, g⟩ M L d (.int k ((a * b : Nat) : Int)) := by
  subst hi hj
  have h := EV_ari (P := P) (n := n) (L := L) (d := d) (ty := ty) (ps := ps) (af := af) (g := g) (op := .mul) (t := t) (u := u) hx hy rfl
  rwa [show (a : Int) * (b : Int) = ((a * b : Nat) : Int) from by rw [Int.natCast_mul], wrap_nat hs hr] at h
theorem EV_loadAll {t k' : Nat} [hag : AG P t k'] {b : Nat} {T : TypeId} {vs : List Value} (hx : ev M x = some (.pointer (some ⟨b, 0, none⟩))) (hf : Fnd L b (cl vs T)) (hl : vs.length = k') :
    EV P n ⟨some d, .load t x, ty, ps, af, g⟩ M L d (.agg vs.toArray) := EV_loadAgg hx (RdAt.cl' hf (by simp [cut])) hl
end
omit [W0] in
def ivn (l : List Nat) : List Value := l.map fun (n : Nat) => Value.int .i64 (n : Int)
theorem ivn_length {l : List Nat} : (ivn l).length = l.length := by simp [ivn]
theorem ivn_ones {l : List Nat} : ones (ivn l) = true := by simp [ones, ivn, Value.oneCell']
theorem ivn_get {l : List Nat} {i n : Nat} (h : l[i]? = some n) : (ivn l)[i]? = some (.int .i64 (n : Int)) := by simp [ivn, h]
end Go.Vx
namespace Go.Hf
set_option linter.all false
def tal (l : List Nat) : List Nat := (List.range 16).map fun n => if n = 0 then 0 else cn l n
theorem tal_length (l : List Nat) : (tal l).length = 16 := by simp [tal]
theorem tal_get (l : List Nat) {n : Nat} (h : n < 16) : (tal l)[n]? = some (if n = 0 then 0 else cn l n) := by simp [tal, h]
theorem list_ext16 {a b : List Nat} (ha : a.length = 16) (hb : b.length = 16) (h : ∀ n, n < 16 → a[n]? = b[n]?) : a = b := by
  apply List.ext_getElem?
  intro n
  rcases Nat.lt_or_ge n 16 with hn | hn
  · exact h n hn
  · rw [List.getElem?_eq_none (by omega), List.getElem?_eq_none (by omega)]
theorem tal_add (l : List Nat) {x : Nat} (h0 : 0 < x) (h : x ≤ 15) : (tal l).set x (cn l x + 1) = tal (l ++ [x]) := by
  refine list_ext16 (by simp [tal]) (by simp [tal]) fun n hn => ?_
  by_cases he : x = n
  · subst he
    rw [List.getElem?_set_self (by rw [tal_length]; exact hn), tal_get _ hn, if_neg (by omega), cn_app, cn_cons, if_pos rfl]
    simp [cn]
  · rw [List.getElem?_set_ne he, tal_get _ hn, tal_get _ hn, cn_app, cn_cons, if_neg he]
    simp [cn]
theorem tal_zero (l : List Nat) : tal (l ++ [0]) = tal l := by
  refine list_ext16 (by simp [tal]) (by simp [tal]) fun n hn => ?_
  rw [tal_get _ hn, tal_get _ hn]
  by_cases he : n = 0
  · simp [he]
  · rw [if_neg he, if_neg he, cn_app, cn_cons, if_neg (by omega)]
    simp [cn]
def fsl (l : List Nat) (i : Nat) : List Nat := (List.range 16).map fun n => if n < i then fs l n else 0
theorem fsl_length (l : List Nat) (i : Nat) : (fsl l i).length = 16 := by simp [fsl]
theorem fsl_get (l : List Nat) (i : Nat) {n : Nat} (h : n < 16) : (fsl l i)[n]? = some (if n < i then fs l n else 0) := by simp [fsl, h]
theorem fsl_set (l : List Nat) {i : Nat} (h : i < 16) : (fsl l i).set i (fs l i) = fsl l (i + 1) := by
  refine list_ext16 (by simp [fsl]) (by simp [fsl]) fun n hn => ?_
  by_cases he : i = n
  · subst he
    rw [List.getElem?_set_self (by rw [fsl_length]; exact hn), fsl_get _ _ hn, if_pos (by omega)]
  · rw [List.getElem?_set_ne he, fsl_get _ _ hn, fsl_get _ _ hn]
    congr 1
    have : (n < i) = (n < i + 1) := by apply propext; omega
    simp only [this]
theorem fsl_one (l : List Nat) : fsl l 1 = List.replicate 16 0 := by
  refine list_ext16 (fsl_length _ _) (by simp) fun n hn => ?_
  rw [fsl_get _ _ hn, List.getElem?_replicate, if_pos hn]
  by_cases h : n = 0
  · subst h; rfl
  · rw [if_neg (by omega)]
theorem nl_take (ls : List Int) {i : Nat} (hi : i < ls.length) : nl (ls.take (i + 1)) = nl (ls.take i) ++ [(ls.getD i 0).toNat] := by
  have hg : ls.getD i 0 = ls[i] := by simp [List.getD, hi]
  rw [List.take_add_one, List.getElem?_eq_getElem hi, hg]
  simp only [nl, List.map_append, List.map_cons, List.map_nil, Option.toList]
end Go.Hf
namespace Go.Proofs.Ytbdpjbmfhnbheaa
open Go Go.Vx Go.Hf
variable [W0]
set_option maxRecDepth 4000
set_option linter.all false
omit [W0] in
def zI : List Nat := List.replicate 16 0
omit [W0] in
/-- What is counted of lengths. -/
def talE (ls : List Int) : List Nat := if okL ls then tal (nl ls) else zI
theorem talE_length (ls : List Int) : (talE ls).length = 16 := by unfold talE; split <;> simp [tal, zI]
set_option maxHeartbeats 2000000 in
theorem tallied_n (a : Option Addr) (c : Nat) (ls : List Int) (L : List Chunk) (h : Sl L 1 (.slice a ls.length c) ls.length (intsN ls)) (hl : ls.length ≤ 17592186044416) :
    GvP Try.prog 33 [.slice a ls.length c].toArray L (.tuple #[.agg (ivn (talE ls)).toArray, .bool (okL ls)]) := by
  refine Gv.of_body Try.func33 rfl rfl ?_
  have hout : ∀ (b : Bool) (l : List Nat) (M : List (Nat × Value)) (p q : Nat) (o : Obj), okL ls = b → talE ls = l → lk M 2 = some (.pointer (some ⟨p, 0, none⟩)) → lk M 3 = some (.bool b) →
      WQ Try.f33.ntmps (bodyPost Try.prog Try.f33 (fun e w' => ∃ v L', e = .returned v ∧ (v = .tuple #[.agg (ivn (talE ls)).toArray, .bool (okL ls)] ∧ L' = L) ∧ Holds w' L') .ret) M ([(q, o)] :: [(p, cl (ivn l) 68)] :: L) := by
    intro b l M p q o hb hl2 h2 h3
    have hlen : (ivn l).length = 16 := by rw [ivn_length, ← hl2, talE_length]
    refine WQ_retC (vs := [.agg (ivn l).toArray, .bool b]) rfl (.agg ⟨by kernel_rfl, by kernel_rfl⟩ h2 (RdAt.cl' (vs := ivn l) (Fnd.there Fnd.here) (by simp [cut])) hlen (.tmp h3 .nil)) ?_
    exact ⟨L, fun w h => (iC : Inc L _).holds h, by rw [hb, hl2]; rfl, rfl⟩
  (repeat' first|refine kX ?_|refine kU fun bk=>?_|refine kV fun hc=>?_|refine kZ (fun hc=>?_) fun hc=>?_|fail)
  rename_i b2
  obtain ⟨b4, hb4⟩ : ∃ b4, b4 = bk := ⟨_, rfl⟩
  rw [← hb4]
  obtain ⟨F, hF⟩ : ∃ F : Nat → List Value, ∀ i, F i = ivn (tal (nl (ls.take i))) := ⟨_, fun _ => rfl⟩
  have hF0 : ivn zI = F 0 := by rw [hF]; rfl
  have hFl : ∀ i, (F i).length = 16 := fun i => by rw [hF, ivn_length, tal_length]
  refine WC_loop (X := Nat) (fun i => [(2, .pointer (some ⟨b2, 0, none⟩)), (4, .pointer (some ⟨b4, 0, none⟩)), (7, .slice a ls.length c), (8, .int .i64 (ls.length : Int)), (9, .int .i64 (i : Int))])
    (fun i => [(b4, cl (F i) 68)] :: [(b2, cl (ivn zI) 68)] :: L) (fun i => i ≤ ls.length ∧ okL (ls.take i) = true) (fun i => ls.length - i) 0 ⟨Nat.zero_le _, rfl⟩ iS (fun w h => by rw [← hF0]; exact h) ?_
  intro i ⟨hi, hok⟩
  (repeat' first|refine kX ?_|refine kU fun bk=>?_|refine kV fun hc=>?_|refine kZ (fun hc=>?_) fun hc=>?_|fail)
  · have hlt : i < ls.length := by omega
    obtain ⟨b, off, cap, cc, T, fr, hve, hfn, hcell⟩ := sl_at h (ints_get hlt)
    injection hve with e1 e2 e3
    subst e1 e3
    clear e2
    have hbad := okL_bad hlt
    have hgood := okL_take hlt hok
    have hst := nl_take ls hlt
    obtain ⟨x, hx⟩ : ∃ x, x = ls.getD i 0 := ⟨_, rfl⟩
    rw [← hx] at hcell hst hbad hgood
    refine OW_EV (EV_indexAddr (j := i) rfl rfl rfl hlt) rfl ?_
    (repeat' first|refine kX ?_|refine kU fun bk=>?_|refine kV fun hc=>?_|refine kZ (fun hc=>?_) fun hc=>?_|fail)
    refine OW_EV (EV_load rfl hfn.there.there hcell) rfl ?_
    have hcap : cn (nl (ls.take i)) x.toNat ≤ i := by
      have h1 : cn (nl (ls.take i)) x.toNat ≤ (nl (ls.take i)).length := List.length_filter_le _ _
      have h2 : (nl (ls.take i)).length = i := by rw [nl_length, List.length_take]; omega
      omega
    (repeat' first|refine kX ?_|refine kU fun bk=>?_|refine kV fun hc=>?_|refine kZ (fun hc=>?_) fun hc=>?_|fail)
    all_goals first
      | (refine OW_storeAggTo (l := ivn zI) (vs := ivn zI) (ivn zI) rfl rfl (by rfl) ivn_ones (by rfl) iU (by decide) ?_
         (repeat' first|refine kX ?_|refine kU fun bk=>?_|refine kV fun hc=>?_|refine kZ (fun hc=>?_) fun hc=>?_|fail)
         exact hout false zI _ _ _ _ (hbad (by omega)) (by unfold talE; rw [hbad (by omega)]; rfl) rfl rfl)
      | skip
    · have hxt : 0 < x.toNat := by omega
      have hx15 : x.toNat ≤ 15 := by omega
      have hxn : x = (x.toNat : Int) := by omega
      have hadd := tal_add (nl (ls.take i)) hxt hx15
      rw [← hst] at hadd
      refine OW_W ?_ (he := EV_indexAddrA' x.toNat rfl rfl hxn (by omega))
      (repeat' first|refine kX ?_|refine kU fun bk=>?_|refine kV fun hc=>?_|refine kZ (fun hc=>?_) fun hc=>?_|fail)
      have hld : nth (F i) (0 + x.toNat * 1) = some (.int .i64 ((cn (nl (ls.take i)) x.toNat : Nat) : Int)) := by
        rw [hF, nth_eq, Nat.zero_add, Nat.mul_one]
        have := tal_get (nl (ls.take i)) (show x.toNat < 16 by omega)
        rw [if_neg (by omega)] at this
        exact ivn_get this
      refine OW_W ?_ (he := EV_loadc rfl (by repeat (first | assumption | exact Fnd.here | refine Fnd.there ?_)) hld)
      (repeat' first|refine kX ?_|refine kU fun bk=>?_|refine kV fun hc=>?_|refine kZ (fun hc=>?_) fun hc=>?_|fail)
      refine OW_W ?_ (he := EV_indexAddrA' x.toNat rfl rfl hxn (by omega))
      (repeat' first|refine kX ?_|refine kU fun bk=>?_|refine kV fun hc=>?_|refine kZ (fun hc=>?_) fun hc=>?_|fail)
      refine OW_storeTo (F (i + 1)) rfl rfl rfl ?_ iU (by rw [hFl]; omega) ?_
      · rw [Nat.zero_add, Nat.mul_one, hF, hF, ← hadd]
        simp [ivn, List.map_set]
      (repeat' first|refine kX ?_|refine kU fun bk=>?_|refine kV fun hc=>?_|refine kZ (fun hc=>?_) fun hc=>?_|fail)
      refine WQ_round (X := Nat) (μ := fun i => ls.length - i) (x := i) (i + 1) (by omega) ⟨by omega, hgood (by omega) (by omega)⟩ iS (fun w h => h)
    · have hx0 : x.toNat = 0 := by omega
      rw [hx0] at hst
      have hz := tal_zero (nl (ls.take i))
      rw [← hst] at hz
      refine WQ_round (X := Nat) (μ := fun i => ls.length - i) (x := i) (i + 1) (by omega) ⟨by omega, hgood (by omega) (by omega)⟩ iS (fun w h => ?_)
      rw [hF, hz, ← hF]; exact h
  · have hil : i = ls.length := by omega
    rw [hil, List.take_length] at hok
    have hones : ones (F i) = true := by rw [hF]; exact ivn_ones
    have hFi : F i = ivn (tal (nl ls)) := by rw [hF, hil, List.take_length]
    refine OW_W ?_ (he := EV_loadAll (vs := F i) rfl Fnd.here (hFl i))
    (repeat' first|refine kX ?_|refine kU fun bk=>?_|refine kV fun hc=>?_|refine kZ (fun hc=>?_) fun hc=>?_|fail)
    refine OW_storeAggTo (l := ivn zI) (vs := F i) (F i) rfl rfl (hFl i) hones ?_ iU (by rw [hFl]; decide) ?_
    · have e : (ivn zI).length = 16 := by decide
      simp [patch, hFl, e]
    rw [hFi]
    (repeat' first|refine kX ?_|refine kU fun bk=>?_|refine kV fun hc=>?_|refine kZ (fun hc=>?_) fun hc=>?_|fail)
    exact hout true (tal (nl ls)) _ _ _ _ hok (by unfold talE; rw [hok]; rfl) rfl rfl
set_option maxHeartbeats 2000000 in
theorem share_n (l : List Nat) (L : List Chunk) (hl : l.length ≤ 17592186044416) (h15 : ∀ x ∈ l, x ≤ 15) :
    GvP Try.prog 32 [.agg (ivn (tal l)).toArray].toArray L (.int .i64 ((kS l : Nat) : Int)) := by
  have htl : (ivn (tal l)).length = 16 := by rw [ivn_length, tal_length]
  have htg : ∀ i, i < 16 → (ivn (tal l))[i]? = some (.int .i64 ((if i = 0 then 0 else cn l i : Nat) : Int)) := fun i hi => ivn_get (tal_get l hi)
  generalize ivn (tal l) = tv at htl htg ⊢
  refine Gv.of_body Try.func32 rfl rfl ?_
  (repeat' first|refine kX ?_|refine kU fun bk=>?_|refine kV fun hc=>?_|refine kZ (fun hc=>?_) fun hc=>?_|fail)
  refine OW_W ?_ (he := EV_loadAll (vs := tv) rfl Fnd.here htl)
  (repeat' first|refine kX ?_|refine kU fun bk=>?_|refine kV fun hc=>?_|refine kZ (fun hc=>?_) fun hc=>?_|fail)
  refine WC_loop (X := Nat) (fun i => [(3, .int .i64 ((ks l (i - 1) : Nat) : Int)), (6, .agg tv.toArray), (7, .int .i64 (i : Int))])
    (fun i => L) (fun i => i ≤ 16) (fun i => 16 - i) 0 (Nat.zero_le _) (by rw [show 0 - 1 = 0 from rfl, ks_zero]; exact iS) (fun w h => (iC : Inc L _).holds h) ?_
  intro i hi
  have hkl := kS_le l
  have hkb := ks_le l i
  have hkb1 := ks_le l (i - 1)
  have hst : ks l i = ks l (i - 1) + (if i = 0 then 0 else cn l i) * 2 ^ (15 - i) := by
    by_cases h0 : i = 0
    · subst h0; simp
    · have := ks_succ l (i - 1)
      rw [show i - 1 + 1 = i from by omega] at this
      rw [if_neg h0]; exact this
  (repeat' first|refine kX ?_|refine kU fun bk=>?_|refine kV fun hc=>?_|refine kZ (fun hc=>?_) fun hc=>?_|fail)
  · have hi15 : i < 16 := by omega
    refine OW_W ?_ (he := EV_indexAgg rfl rfl rfl (htg i hi15) hi15)
    obtain ⟨q, hq⟩ : ∃ q, q = if i = 0 then 0 else cn l i := ⟨_, rfl⟩
    rw [← hq] at hst ⊢
    have hsz : q * 2 ^ (15 - i) ≤ ks l i := by omega
    (repeat' first|refine kX ?_|refine kU fun bk=>?_|refine kV fun hc=>?_|refine kZ (fun hc=>?_) fun hc=>?_|fail)
    refine OW_W ?_ (he := EV_shl64 q (15 - i) rfl rfl rfl (by omega) (by omega) (by omega))
    (repeat' first|refine kX ?_|refine kU fun bk=>?_|refine kV fun hc=>?_|refine kZ (fun hc=>?_) fun hc=>?_|fail)
    rw [show ((ks l (i - 1) : Nat) : Int) + ((q * 2 ^ (15 - i) : Nat) : Int) = ((ks l i : Nat) : Int) from by rw [hst]; omega]
    (repeat' first|refine kX ?_|refine kU fun bk=>?_|refine kV fun hc=>?_|refine kZ (fun hc=>?_) fun hc=>?_|fail)
    refine WQ_round (X := Nat) (μ := fun i => 16 - i) (x := i) (i + 1) (by omega) (by omega) iS (fun w h => h)
  · have h16 : i = 16 := by omega
    have hka := ks_all (l := l) (n := 15) h15
    rw [h16, show 16 - 1 = 15 from rfl, hka]
    exact kE
set_option maxHeartbeats 2000000 in
theorem firsts_n (l : List Nat) (L : List Chunk) (hk : kS l ≤ 32768) (hl : l.length ≤ 400) :
    GvP Try.prog 30 [.agg (ivn (tal l)).toArray].toArray L (.agg (wnv (fsl l 16)).toArray) := by
  have htl : (ivn (tal l)).length = 16 := by rw [ivn_length, tal_length]
  have htg : ∀ i, i < 16 → (ivn (tal l))[i]? = some (.int .i64 ((if i = 0 then 0 else cn l i : Nat) : Int)) := fun i hi => ivn_get (tal_get l hi)
  generalize ivn (tal l) = tv at htl htg ⊢
  obtain ⟨F, hF⟩ : ∃ F : Nat → List Value, ∀ i, F i = wnv (fsl l i) := ⟨_, fun _ => rfl⟩
  have hF1 : wnv zI = F 1 := by rw [hF, fsl_one]; rfl
  have hFl : ∀ i, (F i).length = 16 := fun i => by rw [hF, wnv_length, fsl_length]
  rw [← hF]
  refine Gv.of_body Try.func30 rfl rfl ?_
  (repeat' first|refine kX ?_|refine kU fun bk=>?_|refine kV fun hc=>?_|refine kZ (fun hc=>?_) fun hc=>?_|fail)
  rename_i b1 b2
  obtain ⟨b3, hb3⟩ : ∃ b3, b3 = bk := ⟨_, rfl⟩
  rw [← hb3]
  refine WC_loop (X := Nat) (fun i => [(1, .pointer (some ⟨b1, 0, none⟩)), (2, .pointer (some ⟨b2, 0, none⟩)), (3, .pointer (some ⟨b3, 0, none⟩)), (4, .int .i64 (i : Int))])
    (fun i => [(b3, cl (F i) 71)] :: [(b2, cl (wnv zI) 71)] :: [(b1, cl tv 68)] :: L) (fun i => 1 ≤ i ∧ i ≤ 16) (fun i => 16 - i) 1 ⟨by omega, by omega⟩ iS (fun w h => by rw [← hF1]; exact h) ?_
  intro i ⟨hi1, hi2⟩
  (repeat' first|refine kX ?_|refine kU fun bk=>?_|refine kV fun hc=>?_|refine kZ (fun hc=>?_) fun hc=>?_|fail)
  · have hi15 : i ≤ 15 := by omega
    have hfit : ∀ n, 1 ≤ n → n ≤ 15 → fs l n + cn l n ≤ 32768 := fun n h1 h2 => Nat.le_trans (fs_fit hk h1 h2) (Nat.le_trans (Nat.pow_le_pow_right (by decide) h2) (by decide))
    obtain ⟨p, hp⟩ : ∃ p, p = fs l (i - 1) := ⟨_, rfl⟩
    obtain ⟨q, hq⟩ : ∃ q, q = if i - 1 = 0 then 0 else cn l (i - 1) := ⟨_, rfl⟩
    have hpq : fs l i = 2 * (p + q) := by
      obtain ⟨m, rfl⟩ : ∃ m, i = m + 1 := ⟨i - 1, by omega⟩
      rw [hp, hq]; rfl
    have hsm : p + q ≤ 32768 := by
      by_cases h0 : i - 1 = 0
      · rw [hp, hq, if_pos h0, h0]; simp [fs]
      · rw [hp, hq, if_neg h0]; exact hfit _ (by omega) (by omega)
    have hld1 : nth (F i) (0 + (i - 1) * 1) = some (.int .u32 (p : Int)) := by
      rw [hF, nth_eq, Nat.zero_add, Nat.mul_one, hp]
      have := fsl_get l i (show i - 1 < 16 by omega)
      rw [if_pos (by omega)] at this
      exact wnv_get this
    have hld2 : nth tv (0 + (i - 1) * 1) = some (.int .i64 (q : Int)) := by
      rw [nth_eq, Nat.zero_add, Nat.mul_one, hq]
      exact htg _ (show i - 1 < 16 by omega)
    refine WC_drawAll [13] mixed ?_
    (refine WR_w 0 ?_; refine WR_w 1 ?_; refine WR_w 2 ?_)
    (refine WR_take 3 rfl rfl (by kernel_rfl) iP iC (EV_indexAddrA' (i - 1) rfl rfl (by omega) (by omega)) (by rfl) ?_)
    (refine WR_take 4 rfl rfl (by kernel_rfl) iP iC (EV_loadc rfl (by repeat (first | exact Fnd.here | refine Fnd.there ?_)) hld1) (by rfl) ?_)
    (refine WR_w 5 ?_; refine WR_w 6 ?_)
    (refine WR_take 7 rfl rfl (by kernel_rfl) iP iC (EV_indexAddrA' (i - 1) rfl rfl (by omega) (by omega)) (by rfl) ?_)
    (refine WR_take 8 rfl rfl (by kernel_rfl) iP iC (EV_loadc rfl (by repeat (first | exact Fnd.here | refine Fnd.there ?_)) hld2) (by rfl) ?_)
    (refine WR_take 9 rfl rfl (by kernel_rfl) iP iC (EV_nconv q rfl rfl rfl (by simp only [IntKind.bits]; omega)) (by rfl) ?_)
    (refine WR_take 10 rfl rfl (by kernel_rfl) iP iC (EV_nadd p q rfl rfl rfl rfl rfl (by simp only [IntKind.bits]; omega)) (by rfl) ?_)
    (refine WR_take 11 rfl rfl (by kernel_rfl) iP iC (EV_nmul 2 (p + q) rfl rfl rfl rfl rfl (by simp only [IntKind.bits]; omega)) (by rfl) ?_)
    rw [← hpq]
    (refine WR_take 12 rfl rfl (by kernel_rfl) iP iC (EV_indexAddrA' i rfl rfl rfl (by omega)) (by rfl) ?_)
    (refine WR_last 13 (by kernel_rfl) rfl rfl rfl ?_)
    refine OW_storeTo (F (i + 1)) rfl rfl rfl ?_ iU (by rw [hFl]; omega) ?_
    · rw [Nat.zero_add, Nat.mul_one, hF, hF, ← fsl_set l (by omega)]
      simp [wnv, List.map_set]
    (refine WR_done (by kernel_rfl) ?_)
    (repeat' first|refine kX ?_|refine kU fun bk=>?_|refine kV fun hc=>?_|refine kZ (fun hc=>?_) fun hc=>?_|fail)
    refine WQ_round (X := Nat) (μ := fun i => 16 - i) (x := i) (i + 1) (by omega) ⟨by omega, by omega⟩ iS (fun w h => h)
  · have h16 : i = 16 := by omega
    rw [h16]
    have hl16 : (F 16).length = 16 := hFl 16
    have ho16 : ones (F 16) = true := by rw [hF]; exact wnv_ones
    refine OW_W ?_ (he := EV_loadAll (vs := F 16) rfl Fnd.here hl16)
    (repeat' first|refine kX ?_|refine kU fun bk=>?_|refine kV fun hc=>?_|refine kZ (fun hc=>?_) fun hc=>?_|fail)
    refine OW_storeAggTo (l := wnv zI) (vs := F 16) (F 16) rfl rfl hl16 ho16 ?_ iU (by rw [hl16]; decide) ?_
    · have e : (wnv zI).length = 16 := by decide
      simp [patch, hl16, e]
    (repeat' first|refine kX ?_|refine kU fun bk=>?_|refine kV fun hc=>?_|refine kZ (fun hc=>?_) fun hc=>?_|fail)
    refine WQ_retC (vs := [.agg (F 16).toArray]) rfl (.agg ⟨by kernel_rfl, by kernel_rfl⟩ rfl (RdAt.cl' (vs := F 16) (Fnd.there Fnd.here) (by simp [cut])) hl16 .nil) ?_
    exact ⟨L, fun w h => (iC : Inc L _).holds h, rfl, rfl⟩
set_option maxHeartbeats 1000000 in
theorem hcost_n (a0 a1 : Option Addr) (c0 c1 : Nat) (cs ls : List Nat) (L : List Chunk) (h0 : Sl L 1 (.slice a0 cs.length c0) cs.length (intsN (icn cs))) (h1 : Sl L 1 (.slice a1 ls.length c1) ls.length (intsN (icn ls)))
    (hl : cs.length ≤ 1000) (hcB : ∀ i, cs.getD i 0 ≤ 2147483648) (hsB : ∀ i, ls.getD i 0 ≤ 1048576) :
    GvP Try.prog 21 [.slice a0 cs.length c0, .slice a1 ls.length c1].toArray L (.int .i64 ((costN cs ls (min cs.length ls.length) : Nat) : Int)) := by
  refine Gv.of_body Try.func21 rfl rfl ?_
  (repeat' first|refine kW ?_|refine kU fun bk=>?_|refine kV fun hc=>?_|refine kZ (fun hc=>?_) fun hc=>?_|fail)
  rw [show min (cs.length : Int) (ls.length : Int) = ((min cs.length ls.length : Nat) : Int) from by omega]
  refine WC_loop (X := Nat) (fun i => [(0, .slice a0 cs.length c0), (1, .slice a1 ls.length c1), (5, .int .i64 ((costN cs ls i : Nat) : Int)), (11, .int .i64 ((min cs.length ls.length : Nat) : Int)), (12, .int .i64 (i : Int))]) (fun _ => L) (fun i => i ≤ min cs.length ls.length) (fun i => cs.length - i) 0 (Nat.zero_le _) iS (fun w h => h) ?_
  intro i hi
  have hb := costN_le hcB hsB i
  (repeat' first|refine kW ?_|refine kU fun bk=>?_|refine kV fun hc=>?_|refine kZ (fun hc=>?_) fun hc=>?_|fail)
  · have hlt0 : i < cs.length := by omega
    have hlt1 : i < ls.length := by omega
    obtain ⟨b, off, cap, cc, T, fr, hve, hfn, hcell⟩ := sl_at h0 (ints_get (l := icn cs) (by rw [icn_length]; exact hlt0))
    injection hve with e1 e2 e3
    subst e1 e3
    clear e2
    obtain ⟨b', off', cap', cc', T', fr', hve, hfn', hcell'⟩ := sl_at h1 (ints_get (l := icn ls) (by rw [icn_length]; exact hlt1))
    injection hve with e1 e2 e3
    subst e1 e3
    clear e2
    rw [icn_getD] at hcell hcell'
    have hm := Nat.mul_le_mul (hcB i) (hsB i)
    have hst : costN cs ls (i + 1) = costN cs ls i + cs.getD i 0 * ls.getD i 0 := rfl
    refine WC_drawAll [] mixed ?_
    (refine WR_t 0 ?_; refine WR_t 1 ?_; refine WR_t 2 ?_)
    (refine WR_take 3 rfl rfl (by kernel_rfl) iP iC (EV_indexAddr (j := i) rfl rfl rfl hlt0) (by rfl) ?_)
    (refine WR_take 4 rfl rfl (by kernel_rfl) iP iC (EV_load rfl hfn hcell) (by rfl) ?_)
    (refine WR_t 5 ?_; refine WR_t 6 ?_)
    (refine WR_take 7 rfl rfl (by kernel_rfl) iP iC (EV_indexAddr (j := i) rfl rfl rfl hlt1) (by rfl) ?_)
    (refine WR_take 8 rfl rfl (by kernel_rfl) iP iC (EV_load rfl hfn' hcell') (by rfl) ?_)
    (refine WR_take 9 rfl rfl (by kernel_rfl) iP iC (EV_ari64 rfl rfl rfl (by rw [← Int.natCast_mul]; omega)) (by rfl) ?_)
    rw [← Int.natCast_mul]
    (refine WR_t 10 ?_)
    rw [← Int.natCast_add, ← hst]
    (refine WR_t 11 ?_)
    (refine WR_done (by kernel_rfl) ?_)
    (repeat' first|refine kW ?_|refine kU fun bk=>?_|refine kV fun hc=>?_|refine kZ (fun hc=>?_) fun hc=>?_|fail)
    refine WQ_round (X := Nat) (μ := fun i => cs.length - i) (x := i) (i + 1) (by omega) (by omega) iS (fun w h => h)
  · rw [show i = min cs.length ls.length from by omega]
    exact kE
set_option maxHeartbeats 1000000 in
theorem hcomplete_n (a : Option Addr) (c : Nat) (ls : List Int) (L : List Chunk) (h : Sl L 1 (.slice a ls.length c) ls.length (intsN ls)) (hl : ls.length ≤ 17592186044416) :
    GvP Try.prog 14 [.slice a ls.length c].toArray L (.bool (wgt ls == 32768)) := by
  refine Gv.of_body Try.func14 rfl rfl ?_
  have ht := fun L' h' => tallied_n a c ls L' h' hl
  have hs := fun L' (hok : okL ls = true) => share_n (nl ls) L' (by rw [nl_length]; exact hl) (fun x hx => okL_nl hok hx)
  have hte : okL ls = true → ivn (talE ls) = ivn (tal (nl ls)) := fun hok => by unfold talE; rw [hok]; rfl
  have htl : (ivn (talE ls)).length = 16 := by rw [ivn_length, talE_length]
  have hto : ones (ivn (talE ls)) = true := ivn_ones
  generalize ivn (tal (nl ls)) = sv at hs hte
  generalize ivn (talE ls) = tv at ht hte htl hto
  (repeat' first|refine kX ?_|refine kU fun bk=>?_|refine kV fun hc=>?_|refine kZ (fun hc=>?_) fun hc=>?_|fail)
  refine OW_callP rfl rfl rfl (ht L h) rfl ?_
  (repeat' first|refine kX ?_|refine kU fun bk=>?_|refine kV fun hc=>?_|refine kZ (fun hc=>?_) fun hc=>?_|fail)
  refine OW_holds (L' := [(bk, cl (ivn zI) 68)] :: L) (fun w h => h) ?_
  refine OW_storeAggTo (l := ivn zI) (vs := tv) tv rfl rfl htl hto ?_ iU (by rw [htl]; decide) ?_
  · have e : (ivn zI).length = 16 := by decide
    simp [patch, htl, e]
  cases hok : okL ls with
  | false =>
    rw [show wgt ls = -1 from by unfold wgt; rw [hok]; rfl]
    (repeat' first|refine kX ?_|refine kU fun bk=>?_|refine kV fun hc=>?_|refine kZ (fun hc=>?_) fun hc=>?_|fail)
    refine kR ?_
    exact ⟨L, iC, rfl, rfl⟩
  | true =>
    have hs := hs ([(bk, cl tv 68)] :: L) hok
    rw [← hte hok] at hs
    rw [show wgt ls = ((kS (nl ls) : Nat) : Int) from by unfold wgt; rw [hok]; rfl]
    (repeat' first|refine kX ?_|refine kU fun bk=>?_|refine kV fun hc=>?_|refine kZ (fun hc=>?_) fun hc=>?_|fail)
    refine OW_W ?_ (he := EV_loadAll (vs := tv) rfl Fnd.here htl)
    (repeat' first|refine kX ?_|refine kU fun bk=>?_|refine kV fun hc=>?_|refine kZ (fun hc=>?_) fun hc=>?_|fail)
    refine OW_callP rfl rfl rfl hs rfl ?_
    (repeat' first|refine kX ?_|refine kU fun bk=>?_|refine kV fun hc=>?_|refine kZ (fun hc=>?_) fun hc=>?_|fail)
    refine kR ?_
    exact ⟨L, iC, rfl, rfl⟩
omit [W0] in
/-- The tally of lengths that give codes. -/
def talC (ls : List Int) : List Nat := if cdE ls = 0 then tal (nl ls) else zI
theorem talC_length (ls : List Int) : (talC ls).length = 16 := by unfold talC; split <;> simp [tal, zI]
set_option maxHeartbeats 2000000 in
theorem checked_n (a : Option Addr) (c : Nat) (ls : List Int) (L : List Chunk) (h : Sl L 1 (.slice a ls.length c) ls.length (intsN ls)) (hl : ls.length ≤ 17592186044416) :
    GvP Try.prog 29 [.slice a ls.length c].toArray L (.tuple #[.agg (ivn (talC ls)).toArray, .int .i64 (cdE ls : Int)]) := by
  refine Gv.of_body Try.func29 rfl rfl ?_
  have hout : ∀ (e : Nat) (l : List Nat) (M : List (Nat × Value)) (p q : Nat) (o : Obj), cdE ls = e → talC ls = l → lk M 2 = some (.pointer (some ⟨p, 0, none⟩)) → lk M 3 = some (.int .i64 (e : Int)) →
      WQ Try.f29.ntmps (bodyPost Try.prog Try.f29 (fun e w' => ∃ v L', e = .returned v ∧ (v = .tuple #[.agg (ivn (talC ls)).toArray, .int .i64 (cdE ls : Int)] ∧ L' = L) ∧ Holds w' L') .ret) M ([(q, o)] :: [(p, cl (ivn l) 68)] :: L) := by
    intro b l M p q o hb hl2 h2 h3
    have hlen : (ivn l).length = 16 := by rw [ivn_length, ← hl2, talC_length]
    refine WQ_retC (vs := [.agg (ivn l).toArray, .int .i64 (b : Int)]) rfl (.agg ⟨by kernel_rfl, by kernel_rfl⟩ h2 (RdAt.cl' (vs := ivn l) (Fnd.there Fnd.here) (by simp [cut])) hlen (.tmp h3 .nil)) ?_
    exact ⟨L, fun w h => (iC : Inc L _).holds h, by rw [hb, hl2]; rfl, rfl⟩
  have ht := fun L' h' => tallied_n a c ls L' h' hl
  have hs := fun L' (hok : okL ls = true) => share_n (nl ls) L' (by rw [nl_length]; exact hl) (fun x hx => okL_nl hok hx)
  have hte : okL ls = true → ivn (talE ls) = ivn (tal (nl ls)) := fun hok => by unfold talE; rw [hok]; rfl
  have htc : cdE ls = 0 → ivn (talE ls) = ivn (talC ls) := fun h0 => by unfold talC; rw [if_pos h0, hte (cdE_inv h0).2.1]
  have htl : (ivn (talE ls)).length = 16 := by rw [ivn_length, talE_length]
  have hto : ones (ivn (talE ls)) = true := ivn_ones
  generalize ivn (tal (nl ls)) = sv at hs hte
  generalize ivn (talE ls) = tv at ht hte htl hto htc
  have hkl := kS_le (nl ls)
  rw [nl_length] at hkl
  have hbad : ∀ (e : Nat), 0 < e → cdE ls = e → talC ls = zI := fun e h0 he => by unfold talC; rw [if_neg (by omega)]
  (repeat' first|refine kX ?_|refine kU fun bk=>?_|refine kV fun hc=>?_|refine kZ (fun hc=>?_) fun hc=>?_|fail)
  obtain ⟨b2, hb2⟩ : ∃ b2, b2 = bk := ⟨_, rfl⟩
  rw [← hb2]
  clear hb2
  refine OW_callP rfl rfl rfl (ht _ (sl_there h)) rfl ?_
  (repeat' first|refine kX ?_|refine kU fun bk=>?_|refine kV fun hc=>?_|refine kZ (fun hc=>?_) fun hc=>?_|fail)
  obtain ⟨b4, hb4⟩ : ∃ b4, b4 = bk := ⟨_, rfl⟩
  rw [← hb4]
  refine OW_holds (L' := [(b4, cl (ivn zI) 68)] :: [(b2, cl (ivn zI) 68)] :: L) (fun w h => h) ?_
  refine OW_storeAggTo (l := ivn zI) (vs := tv) tv rfl rfl htl hto ?_ iU (by rw [htl]; decide) ?_
  · have e : (ivn zI).length = 16 := by decide
    simp [patch, htl, e]
  have hz : ∀ (M : List (Nat × Value)) (K : List (Nat × Value) → List Chunk → Prop) (o : Oper) (dst : Operand) (y : Operand) (ty : TypeId) (ps : String) (af : Array Edge) (g : Option (Nat × Bool)), ev M dst = some (.pointer (some ⟨b2, 0, none⟩)) → ev M y = some (.agg (ivn zI).toArray) →
      K M ([(b4, cl tv 68)] :: [(b2, cl (ivn zI) 68)] :: L) → OW Try.prog Try.f29.ntmps ⟨none, .store 68 dst y, ty, ps, af, g⟩ K M ([(b4, cl tv 68)] :: [(b2, cl (ivn zI) 68)] :: L) := by
    intro M K o dst y ty ps af g h1 h2 h3
    exact OW_storeAggTo (l := ivn zI) (vs := ivn zI) (ivn zI) h1 h2 (by rfl) ivn_ones (by rfl) iU (by decide) h3
  cases hok : okL ls with
  | false =>
    have e1 := (cdE_one (ls := ls) (.inr hok)).1
    (repeat' first|refine kX ?_|refine kU fun bk=>?_|refine kV fun hc=>?_|refine kZ (fun hc=>?_) fun hc=>?_|fail)
    refine hz _ _ default _ _ _ _ _ _ rfl rfl ?_
    (repeat' first|refine kX ?_|refine kU fun bk=>?_|refine kV fun hc=>?_|refine kZ (fun hc=>?_) fun hc=>?_|fail)
    exact hout 1 zI _ _ _ _ e1 (hbad 1 (by omega) e1) rfl rfl
  | true =>
    have hs := hs ([(b4, cl tv 68)] :: [(b2, cl (ivn zI) 68)] :: L) hok
    rw [← hte hok] at hs
    (repeat' first|refine kX ?_|refine kU fun bk=>?_|refine kV fun hc=>?_|refine kZ (fun hc=>?_) fun hc=>?_|fail)
    · have e1 := (cdE_one (ls := ls) (.inl (by omega))).1
      refine hz _ _ default _ _ _ _ _ _ rfl rfl ?_
      (repeat' first|refine kX ?_|refine kU fun bk=>?_|refine kV fun hc=>?_|refine kZ (fun hc=>?_) fun hc=>?_|fail)
      exact hout 1 zI _ _ _ _ e1 (hbad 1 (by omega) e1) rfl rfl
    refine OW_W ?_ (he := EV_loadAll (vs := tv) rfl Fnd.here htl)
    (repeat' first|refine kX ?_|refine kU fun bk=>?_|refine kV fun hc=>?_|refine kZ (fun hc=>?_) fun hc=>?_|fail)
    refine OW_callP rfl rfl rfl hs rfl ?_
    (repeat' first|refine kX ?_|refine kU fun bk=>?_|refine kV fun hc=>?_|refine kZ (fun hc=>?_) fun hc=>?_|fail)
    · have e1 := (cdE_three (ls := ls) (by omega) hok (by omega)).1
      refine hz _ _ default _ _ _ _ _ _ rfl rfl ?_
      (repeat' first|refine kX ?_|refine kU fun bk=>?_|refine kV fun hc=>?_|refine kZ (fun hc=>?_) fun hc=>?_|fail)
      exact hout 3 zI _ _ _ _ e1 (hbad 3 (by omega) e1) rfl rfl
    · have e1 := (cdE_zero (ls := ls) (by omega) hok (by omega)).1
      refine OW_W ?_ (he := EV_loadAll (vs := tv) rfl Fnd.here htl)
      (repeat' first|refine kX ?_|refine kU fun bk=>?_|refine kV fun hc=>?_|refine kZ (fun hc=>?_) fun hc=>?_|fail)
      refine OW_storeAggTo (l := ivn zI) (vs := tv) tv rfl rfl htl hto ?_ iU (by rw [htl]; decide) ?_
      · have e : (ivn zI).length = 16 := by decide
        simp [patch, htl, e]
      rw [htc e1]
      (repeat' first|refine kX ?_|refine kU fun bk=>?_|refine kV fun hc=>?_|refine kZ (fun hc=>?_) fun hc=>?_|fail)
      exact hout 0 (talC ls) _ _ _ _ e1 rfl rfl rfl
end Go.Proofs.Ytbdpjbmfhnbheaa
namespace Go.Hf
set_option linter.all false
def okc (x : Int) : Bool := !(decide (x < 0) || decide (1073741824 < x))
theorem okc_iff (x : Int) : okc x = true ↔ 0 ≤ x ∧ x ≤ 1073741824 := by
  unfold okc
  by_cases h1 : x < 0 <;> by_cases h2 : 1073741824 < x <;> simp [h1, h2] <;> omega
def pos (cs : List Nat) : Nat → List (Nat × Nat)
  | 0 => []
  | k + 1 => pos cs k ++ if 0 < cs.getD k 0 then [(k, cs.getD k 0)] else []
theorem pos_le (cs : List Nat) : ∀ k, (pos cs k).length ≤ k
  | 0 => Nat.le_refl _
  | k + 1 => by
    have := pos_le cs k
    rw [pos, List.length_append]
    split <;> simp <;> omega
theorem pos_mem (cs : List Nat) : ∀ k x, x ∈ pos cs k ↔ x.1 < k ∧ 0 < cs.getD x.1 0 ∧ x.2 = cs.getD x.1 0
  | 0, x => by simp [pos]
  | k + 1, x => by
    rw [pos, List.mem_append, pos_mem cs k]
    by_cases h : 0 < cs.getD k 0
    · rw [if_pos h, List.mem_singleton]
      constructor
      · rintro (⟨h1, h2, h3⟩ | rfl)
        · exact ⟨by omega, h2, h3⟩
        · exact ⟨Nat.lt_succ_self _, h, rfl⟩
      · rintro ⟨h1, h2, h3⟩
        rcases Nat.lt_or_ge x.1 k with h4 | h4
        · exact .inl ⟨h4, h2, h3⟩
        · have e : x.1 = k := by omega
          refine .inr ?_
          obtain ⟨x1, x2⟩ := x
          simp only at e h3 ⊢
          subst e h3
          rfl
    · rw [if_neg h]
      constructor
      · rintro (⟨h1, h2, h3⟩ | h1)
        · exact ⟨by omega, h2, h3⟩
        · cases h1
      · rintro ⟨h1, h2, h3⟩
        refine .inl ⟨?_, h2, h3⟩
        rcases Nat.lt_or_ge x.1 k with h4 | h4
        · exact h4
        · have e : x.1 = k := by omega
          rw [e] at h2
          exact absurd h2 h
theorem pos_nodup (cs : List Nat) : ∀ k, ((pos cs k).map fun x => x.1).Nodup
  | 0 => by simp [pos]
  | k + 1 => by
    rw [pos, List.map_append, List.nodup_append]
    refine ⟨pos_nodup cs k, by split <;> simp, fun a ha b hb => ?_⟩
    obtain ⟨x, hx, rfl⟩ := List.mem_map.1 ha
    have h1 := ((pos_mem cs k x).1 hx).1
    split at hb
    · simp at hb; omega
    · simp at hb
structure Cn (cs : List Nat) (n N : Nat) (g : Nat → Nat × Nat) : Prop where
  le : N ≤ n
  up : Go.So.Srt (fun x => x.2) 0 N g
  sy : ∀ r, r < N → (g r).1 < n ∧ 0 < cs.getD (g r).1 0 ∧ (g r).2 = cs.getD (g r).1 0
  inj : ∀ r p, r < N → p < N → (g r).1 = (g p).1 → r = p
  onto : ∀ i, i < n → 0 < cs.getD i 0 → ∃ r, r < N ∧ (g r).1 = i
theorem cn_of {cs : List Nat} {n : Nat} {g : Nat → Nat × Nat} (hu : Go.So.Srt (fun x => x.2) 0 (pos cs n).length g)
    (hp : ((List.range (pos cs n).length).map g).Perm (pos cs n)) : Cn cs n (pos cs n).length g where
  le := pos_le cs n
  up := hu
  sy r hr := (pos_mem cs n (g r)).1 (hp.mem_iff.1 (List.mem_map.2 ⟨r, List.mem_range.2 hr, rfl⟩))
  inj r p hr hq he := by
    have h1 : (((List.range (pos cs n).length).map g).map fun x => x.1).Nodup := (hp.map _).nodup_iff.2 (pos_nodup cs n)
    rw [List.map_map] at h1
    have h2 : ((List.range (pos cs n).length).map ((fun x => x.1) ∘ g))[r]? = ((List.range (pos cs n).length).map ((fun x => x.1) ∘ g))[p]? := by
      rw [List.getElem?_map, List.getElem?_map, List.getElem?_range hr, List.getElem?_range hq]
      exact congrArg some he
    exact (List.getElem?_inj (by simpa using hr) h1).1 h2
  onto i hi h0 := by
    have h1 := (pos_mem cs n (i, cs.getD i 0)).2 ⟨hi, h0, rfl⟩
    obtain ⟨r, hr, he⟩ := List.mem_map.1 (hp.mem_iff.2 h1)
    exact ⟨r, List.mem_range.1 hr, by rw [he]⟩
end Go.Hf
namespace Go.Proofs.Ytbdpjbmfhnbheaa
open Go Go.Vx Go.So Go.Hf
variable [W0]
set_option maxRecDepth 4000
set_option linter.all false
set_option maxHeartbeats 2000000 in
theorem okc_n (x : Int) (L : List Chunk) : GvP Try.prog 44 [.int .i64 x].toArray L (.bool (!okc x)) := by
  refine Gv.of_body Try.func44 rfl rfl ?_
  (repeat' first|refine kW ?_|refine kU fun bk=>?_|refine kV fun hc=>?_|refine kZ (fun hc=>?_) fun hc=>?_|fail)
  · refine kR ?_
    exact ⟨L, iC, congrArg Value.bool (show true = !okc x by simp [okc, hc]), rfl⟩
  · refine kR ?_
    exact ⟨L, iC, congrArg Value.bool (show decide (x > 1073741824) = !okc x by simp [okc, hc]), rfl⟩
omit [W0] in
/-- What is handed on. -/
def okcV : Value := .func (.func 44) #[] #[]
set_option maxHeartbeats 4000000 in
theorem index_n (a : Option Addr) (c : Nat) (ls : List Int) (L : List Chunk) (h : Sl L 1 (.slice a ls.length c) ls.length (intsN ls)) (hl : ls.length ≤ 17592186044416) :
    Gv Try.prog 53 [.slice a ls.length c, okcV].toArray L (fun r L' => ∃ k : Int, r = .int .i64 k ∧ (0 ≤ k ↔ ls.all okc = false) ∧ L' = L) := by
  refine Gv.of_body Try.func53 rfl rfl ?_
  (repeat' first|refine kW ?_|refine kU fun bk=>?_|refine kV fun hc=>?_|refine kZ (fun hc=>?_) fun hc=>?_|fail)
  refine WC_loop (X := Nat) (fun i => [(0, .slice a ls.length c), (1, okcV), (7, .int .i64 (ls.length : Int)), (8, .int .i64 (i : Int))]) (fun _ => L)
    (fun i => i ≤ ls.length ∧ (ls.take i).all okc = true) (fun i => ls.length - i) 0 ⟨Nat.zero_le _, rfl⟩ iS (fun w h => h) ?_
  rintro i ⟨hi, hal⟩
  (repeat' first|refine kW ?_|refine kU fun bk=>?_|refine kV fun hc=>?_|refine kZ (fun hc=>?_) fun hc=>?_|fail)
  · have hlt : i < ls.length := by omega
    obtain ⟨b, off, cap, cc, T, fr, hve, hfn, hcell⟩ := sl_at h (ints_get hlt)
    injection hve with q1 q2 q3
    subst q1 q3
    clear q2
    have htk : (ls.take (i + 1)).all okc = ((ls.take i).all okc && okc (ls.getD i 0)) := by
      rw [List.take_add_one, List.all_append, List.getElem?_eq_getElem hlt]
      simp [List.getD, hlt]
    obtain ⟨x, hx⟩ : ∃ x, x = ls.getD i 0 := ⟨_, rfl⟩
    have hxm : x ∈ ls := by rw [hx]; simp [List.getD, hlt]
    rw [← hx] at hcell htk
    refine OW_EV (EV_indexAddr (j := i) rfl rfl rfl hlt) rfl ?_
    (repeat' first|refine kW ?_|refine kU fun bk=>?_|refine kV fun hc=>?_|refine kZ (fun hc=>?_) fun hc=>?_|fail)
    refine OW_EV (EV_load rfl hfn hcell) rfl ?_
    (repeat' first|refine kW ?_|refine kU fun bk=>?_|refine kV fun hc=>?_|refine kZ (fun hc=>?_) fun hc=>?_|fail)
    refine OW_callP rfl rfl rfl (okc_n x _) rfl ?_
    (repeat' first|refine kW ?_|refine kU fun bk=>?_|refine kV fun hc=>?_|refine kZ (fun hc=>?_) fun hc=>?_|fail)
    · refine kR ?_
      refine ⟨L, iC, _, rfl, ⟨fun _ => ?_, fun _ => by omega⟩, rfl⟩
      rw [Bool.eq_false_iff]
      intro hh
      have := List.all_eq_true.1 hh x hxm
      rw [this] at hc
      cases hc
    · have hox : okc x = true := by simpa using hc
      refine WQ_round (X := Nat) (μ := fun i => ls.length - i) (x := i) (i + 1) (by omega) ⟨by omega, by rw [htk, hal, hox]; rfl⟩ iS (fun w h => h)
  · refine kR ?_
    refine ⟨L, iC, _, rfl, ⟨fun h => absurd h (by decide), fun hh => ?_⟩, rfl⟩
    rw [List.take_of_length_le (by omega)] at hal
    rw [hal] at hh
    cases hh
set_option maxHeartbeats 2000000 in
theorem contains_n (a : Option Addr) (c : Nat) (ls : List Int) (L : List Chunk) (h : Sl L 1 (.slice a ls.length c) ls.length (intsN ls)) (hl : ls.length ≤ 17592186044416) :
    GvP Try.prog 43 [.slice a ls.length c, okcV].toArray L (.bool (!ls.all okc)) := by
  refine Gv.of_body Try.func43 rfl rfl ?_
  (repeat' first|refine kW ?_|refine kU fun bk=>?_|refine kV fun hc=>?_|refine kZ (fun hc=>?_) fun hc=>?_|fail)
  refine OW_call rfl rfl rfl (index_n a c ls L h hl) rfl (fun r L' hp => ?_)
  obtain ⟨k, rfl, hk, rfl⟩ := hp
  (repeat' first|refine kW ?_|refine kU fun bk=>?_|refine kV fun hc=>?_|refine kZ (fun hc=>?_) fun hc=>?_|fail)
  refine kR ?_
  refine ⟨L', iC, congrArg Value.bool ?_, rfl⟩
  rw [Bool.eq_iff_iff]
  simp only [Bool.not_eq_true']
  rw [← hk]
  simp
set_option maxHeartbeats 2000000 in
theorem countable_n (a : Option Addr) (c : Nat) (ls : List Int) (L : List Chunk) (h : Sl L 1 (.slice a ls.length c) ls.length (intsN ls)) (hl : ls.length ≤ 17592186044416) :
    GvP Try.prog 25 [.slice a ls.length c].toArray L (.bool (ls.all okc)) := by
  refine Gv.of_body Try.func25 rfl rfl ?_
  (repeat' first|refine kW ?_|refine kU fun bk=>?_|refine kV fun hc=>?_|refine kZ (fun hc=>?_) fun hc=>?_|fail)
  refine OW_callP rfl rfl rfl (contains_n a c ls L h hl) rfl ?_
  (repeat' first|refine kW ?_|refine kU fun bk=>?_|refine kV fun hc=>?_|refine kZ (fun hc=>?_) fun hc=>?_|fail)
  refine kR ?_
  exact ⟨L, iC, congrArg Value.bool (Bool.not_not _), rfl⟩
end Go.Proofs.Ytbdpjbmfhnbheaa
namespace Go.Proofs.Ytbdpjbmfhnbheaa
open Go Go.Vx Go.So Go.Hf
variable [W0]
set_option maxRecDepth 4000
set_option linter.all false
omit [W0] in
def psv (l : List (Nat × Nat)) : List Value := l.flatMap cv
theorem psv_app (l : List (Nat × Nat)) (x : Nat × Nat) : psv (l ++ [x]) = psv l ++ cv x := by simp [psv]
theorem cvs_psv (f : Nat → Nat × Nat) : ∀ n, cvs f n = psv ((List.range n).map f)
  | 0 => rfl
  | n + 1 => by rw [cvs, cvs_psv f n, List.range_succ, List.map_append, List.map_singleton, psv_app]
omit [W0] in
def fof (l : List (Nat × Nat)) : Nat → Nat × Nat := fun k => l.getD k (0, 0)
theorem fof_map (l : List (Nat × Nat)) : (List.range l.length).map (fof l) = l := by
  apply List.ext_getElem?
  intro k
  rw [List.getElem?_map]
  rcases Nat.lt_or_ge k l.length with h | h
  · rw [List.getElem?_range h]
    simp [fof, List.getD, h]
  · rw [List.getElem?_eq_none (by simpa using h), List.getElem?_eq_none h]
    rfl
theorem psv_fof (l : List (Nat × Nat)) : psv l = cvs (fof l) l.length := by rw [cvs_psv, fof_map]
theorem nl_get {ls : List Int} {i : Nat} (h : i < ls.length) : (nl ls).getD i 0 = (ls.getD i 0).toNat := by simp [nl, List.getD, h]
set_option maxHeartbeats 8000000 in
theorem coins_n (a : Option Addr) (c : Nat) (ls : List Int) (L : List Chunk) (h : Sl L 1 (.slice a ls.length c) ls.length (intsN ls)) (hl : ls.length ≤ 400) (hok : ls.all okc = true) :
    Gv Try.prog 26 [.slice a ls.length c].toArray L (fun r L' => ∃ g C, Cn (nl ls) ls.length (pos (nl ls) ls.length).length g ∧ L' = C :: L ∧ Ow 63 2 r (pos (nl ls) ls.length).length (cvs g (pos (nl ls) ls.length).length) C) := by
  refine Gv.of_body Try.func26 rfl rfl ?_
  (repeat' first|refine kW ?_|refine kU fun bk=>?_|refine kV fun hc=>?_|refine kZ (fun hc=>?_) fun hc=>?_|fail)
  refine WC_loop (X := Nat × Value × Chunk) (fun x => [(3, x.2.1), (6, .slice a ls.length c), (7, .int .i64 (ls.length : Int)), (8, .int .i64 (x.1 : Int))]) (fun x => x.2.2 :: L)
    (fun x => x.1 ≤ ls.length ∧ Ow 63 2 x.2.1 (pos (nl ls) x.1).length (psv (pos (nl ls) x.1)) x.2.2) (fun x => ls.length - x.1) (0, .slice none 0 0, []) ⟨Nat.zero_le _, .inl ⟨rfl, rfl, rfl, rfl⟩⟩ iS (fun w h => Holds.nil.2 h) ?_
  rintro ⟨i, v, C⟩ ⟨hi, ho⟩
  simp only at hi ho ⊢
  (repeat' first|refine kW ?_|refine kU fun bk=>?_|refine kV fun hc=>?_|refine kZ (fun hc=>?_) fun hc=>?_|fail)
  · have hlt : i < ls.length := by omega
    obtain ⟨b, off, cap, cc, T, fr, hve, hfn, hcell⟩ := sl_at h (ints_get hlt)
    injection hve with q1 q2 q3
    subst q1 q3
    clear q2
    have hg := nl_get hlt
    have hox : okc (ls.getD i 0) = true := List.all_eq_true.1 hok _ (by simp [List.getD, hlt])
    obtain ⟨ho1, ho2⟩ := (okc_iff _).1 hox
    obtain ⟨x, hx⟩ : ∃ x, x = (nl ls).getD i 0 := ⟨_, rfl⟩
    have hxe : ls.getD i 0 = (x : Int) := by rw [hx, hg]; omega
    have hps : pos (nl ls) (i + 1) = pos (nl ls) i ++ if 0 < x then [(i, x)] else [] := by rw [hx]; rfl
    have hpl := pos_le (nl ls) i
    rw [hxe] at hcell
    refine OW_EV (EV_indexAddr (j := i) rfl rfl rfl hlt) rfl ?_
    (repeat' first|refine kW ?_|refine kU fun bk=>?_|refine kV fun hc=>?_|refine kZ (fun hc=>?_) fun hc=>?_|fail)
    refine OW_EV (EV_load rfl hfn.there hcell) rfl ?_
    (repeat' first|refine kW ?_|refine kU fun bk=>?_|refine kV fun hc=>?_|refine kZ (fun hc=>?_) fun hc=>?_|fail)
    · have h0 : 0 < x := by omega
      rw [if_pos h0] at hps
      refine OW_buildSlice (cs := cv (i, x)) rfl (by rfl) (by first | (simp [fillL, patch, Value.cells, zeros, cv]; done) | (simp [fillL, patch, Value.cells, zeros, cv]; rfl)) (by omega) rfl rfl (fun bs => ?_)
      (repeat' first|refine kW ?_|refine kU fun bk=>?_|refine kV fun hc=>?_|refine kZ (fun hc=>?_) fun hc=>?_|fail)
      refine OW_append rfl rfl ho (sl_cells (k := 2) (c := (cv (i, x)).toArray) (xs := cv (i, x)) (m := 1) Fnd.here rfl (by simp)) (by repeat (first | exact Zip.here _ | apply Zip.there)) rfl (by rfl) (by omega) (by simp [maxLen]; omega) rfl (fun v' C' ho' _ _ => ?_)
      (repeat' first|refine kW ?_|refine kU fun bk=>?_|refine kV fun hc=>?_|refine kZ (fun hc=>?_) fun hc=>?_|fail)
      refine WQ_round (X := Nat × Value × Chunk) (μ := fun x => ls.length - x.1) (x := (i, v, C)) (i + 1, v', C') (by simp only; omega) ⟨by simp only; omega, by simp only; rw [hps, List.length_append, psv_app]; exact ho'⟩ iS (fun w h => h.drop)
    · have h0 : ¬ 0 < x := by omega
      rw [if_neg h0, List.append_nil] at hps
      refine WQ_round (X := Nat × Value × Chunk) (μ := fun x => ls.length - x.1) (x := (i, v, C)) (i + 1, v, C) (by simp only; omega) ⟨by simp only; omega, by simp only; rw [hps]; exact ho⟩ iS (fun w h => h)
  · have hie : i = ls.length := by omega
    subst hie
    have hpl := pos_le (nl ls) ls.length
    obtain ⟨P, hP⟩ : ∃ P, P = pos (nl ls) ls.length := ⟨_, rfl⟩
    rw [← hP] at ho hpl ⊢
    rw [psv_fof] at ho
    have hcn := fun g h1 h2 => cn_of (cs := nl ls) (n := ls.length) (g := g) (by rw [← hP]; exact h1) (by rw [← hP]; exact h2)
    rw [← hP] at hcn
    rcases ho with ⟨rfl, h1, h2, rfl⟩ | ⟨b, cap, rest, rfl, rfl, hxl, hrl, hmc, hcm⟩
    · refine OW_callP rfl rfl rfl (sortst_nil _) rfl ?_
      (repeat' first|refine kW ?_|refine kU fun bk=>?_|refine kV fun hc=>?_|refine kZ (fun hc=>?_) fun hc=>?_|fail)
      refine kR ?_
      have hP0 : P = [] := List.length_eq_zero_iff.1 h1
      refine ⟨[] :: L, iC, fof P, [], hcn _ (fun p q _ _ hq => by omega) (by rw [fof_map]), rfl, .inl ⟨rfl, h1, h2, rfl⟩⟩
    · refine OW_call rfl rfl rfl (sortst_c (fof P) P.length b cap rest L (by omega)) rfl (fun r L' hp => ?_)
      obtain ⟨rfl, g, hm, hs, rfl⟩ := hp
      (repeat' first|refine kW ?_|refine kU fun bk=>?_|refine kV fun hc=>?_|refine kZ (fun hc=>?_) fun hc=>?_|fail)
      refine kR ?_
      refine ⟨[(b, cl (cvs g P.length ++ rest) 63)] :: L, iC, g, _, hcn _ hs ?_, rfl, .inr ⟨b, cap, rest, rfl, rfl, cvs_length g _, hrl, hmc, hcm⟩⟩
      · have := hm.perm (Nat.le_refl _)
        rw [fof_map] at this
        exact this
end Go.Proofs.Ytbdpjbmfhnbheaa
namespace Go.Pm
set_option linter.all false
theorem mp_some {cs ps : List Pm.It} (hcs : cs.Pairwise fun a b => a.w ≤ b.w) (hps : ps.Pairwise fun a b => a.w ≤ b.w) (hcc : ∀ x ∈ cs, isC x = true) (hpp : ∀ x ∈ ps, isC x = false) : ∀ i, i ≤ cs.length → ∃ t A, Mp cs ps i t A := by
  intro i
  induction i with
  | zero => intro _; exact ⟨0, [], Mp.nil _ _⟩
  | succ i ih =>
    intro hi
    obtain ⟨t, A, h⟩ := ih (by omega)
    obtain ⟨z, hz⟩ : ∃ z, cs[i]? = some z := ⟨cs[i], by simp [show i < cs.length from by omega]⟩
    have key : ∀ m t A, ps.length - t ≤ m → Mp cs ps i t A → ∃ t A, Mp cs ps (i + 1) t A := by
      intro m
      induction m with
      | zero =>
        intro t A hm h
        exact ⟨t, _, h.coin hcs hps hcc hz fun x hx => by have := (List.getElem?_eq_some_iff.1 hx).1; omega⟩
      | succ m ih =>
        intro t A hm h
        cases hp : ps[t]? with
        | none => exact ⟨t, _, h.coin hcs hps hcc hz fun x hx => by rw [hp] at hx; cases hx⟩
        | some x =>
          rcases Nat.lt_or_ge x.w z.w with hlt | hge
          · have hl := (List.getElem?_eq_some_iff.1 hp).1
            exact ih (t + 1) _ (by omega) (h.pack hcs hps hpp hp hz hlt)
          · exact ⟨t, _, h.coin hcs hps hcc hz fun y hy => by rw [hp] at hy; injection hy with hy; subst hy; exact hge⟩
    exact key _ t A (Nat.le_refl _) h
theorem mg_some {cs ps : List Pm.It} (hcs : cs.Pairwise fun a b => a.w ≤ b.w) (hps : ps.Pairwise fun a b => a.w ≤ b.w) (hcc : ∀ x ∈ cs, isC x = true) (hpp : ∀ x ∈ ps, isC x = false) : ∃ A, Mg cs ps A := by
  obtain ⟨t, A, h⟩ := mp_some hcs hps hcc hpp cs.length (Nat.le_refl _)
  exact ⟨_, h.fin hps hpp⟩
open Classical in
noncomputable def nextL (cs ps : List Pm.It) : List Pm.It := if h : ∃ A, Mg cs ps A then Classical.choose h else []
noncomputable def extL (cs : List Pm.It) (lv : Nat → List Pm.It) (k : Nat) (A : List Pm.It) : Nat → List Pm.It
  | 0 => []
  | j + 1 => if j < k then lv (j + 1) else if j = k then A else nextL cs (pairs (extL cs lv k A j))
theorem extL_low {cs : List Pm.It} {lv : Nat → List Pm.It} {k : Nat} {A : List Pm.It} (h0 : lv 0 = []) : ∀ {j : Nat}, j ≤ k → extL cs lv k A j = lv j
  | 0, _ => h0.symm
  | j + 1, h => by unfold extL; rw [if_pos (by omega)]
theorem extL_at {cs : List Pm.It} {lv : Nat → List Pm.It} {k : Nat} {A : List Pm.It} : extL cs lv k A (k + 1) = A := by
  unfold extL; rw [if_neg (by omega), if_pos rfl]
theorem extL_lv {cs : List Pm.It} {lv : Nat → List Pm.It} {k : Nat} {A : List Pm.It} (hcs : cs.Pairwise fun a b => a.w ≤ b.w) (hcc : ∀ x ∈ cs, isC x = true) (h : Lv cs lv) (hA : Mg cs (pairs (lv k)) A) : Lv cs (extL cs lv k A) := by
  refine ⟨rfl, fun j => ?_⟩
  induction j with
  | zero =>
    by_cases h0 : 0 < k
    · rw [extL_low h.zero (by omega), extL_low h.zero (by omega)]; exact h.next 0
    · have hk : k = 0 := by omega
      subst hk
      rw [extL_at, extL_low h.zero (Nat.le_refl _)]
      exact hA
  | succ j ih =>
    by_cases h1 : j + 1 < k
    · rw [extL_low h.zero (by omega), extL_low h.zero (by omega)]; exact h.next (j + 1)
    · by_cases h2 : j + 1 = k
      · subst h2
        rw [extL_at, extL_low h.zero (Nat.le_refl _)]
        exact hA
      · have hup : (pairs (extL cs lv k A (j + 1))).Pairwise fun a b => a.w ≤ b.w := pairs_up ih.up
        have hex := mg_some hcs hup hcc (pairs_isC _)
        have e : extL cs lv k A (j + 1 + 1) = nextL cs (pairs (extL cs lv k A (j + 1))) := by
          rw [extL, if_neg (by omega), if_neg h2]
        rw [e]
        unfold nextL
        rw [dif_pos hex]
        exact Classical.choose_spec hex
theorem lv_any {cs : List Pm.It} (hcs : cs.Pairwise fun a b => a.w ≤ b.w) (hcc : ∀ x ∈ cs, isC x = true) : ∃ lv, Lv cs lv := by
  have key : ∀ k, ∃ lv : Nat → List Pm.It, lv 0 = [] ∧ ∀ j, j < k → Mg cs (pairs (lv j)) (lv (j + 1)) := fun k => by
    induction k with
    | zero => exact ⟨fun _ => [], rfl, fun j h => by omega⟩
    | succ k ih =>
      obtain ⟨lv, h0, h1⟩ := ih
      have hup : (pairs (lv k)).Pairwise fun a b => a.w ≤ b.w := by
        refine pairs_up ?_
        cases k with
        | zero => rw [h0]; exact .nil
        | succ k => exact (h1 k (by omega)).up
      obtain ⟨A, hA⟩ := mg_some hcs hup hcc (pairs_isC _)
      refine ⟨extL cs lv k A, rfl, fun j hj => ?_⟩
      by_cases h2 : j = k
      · subst h2; rw [extL_at, extL_low h0 (Nat.le_refl _)]; exact hA
      · rw [extL_low h0 (by omega), extL_low h0 (by omega)]; exact h1 j (by omega)
  let lv : Nat → List Pm.It := fun n => Nat.rec [] (fun j A => nextL cs (pairs A)) n
  refine ⟨lv, rfl, fun j => ?_⟩
  have hup : ∀ j, (lv j).Pairwise fun a b => a.w ≤ b.w := fun j => by
    induction j with
    | zero => exact .nil
    | succ j ih =>
      have hex := mg_some hcs (pairs_up ih) hcc (pairs_isC _)
      have e : lv (j + 1) = nextL cs (pairs (lv j)) := rfl
      rw [e]; unfold nextL; rw [dif_pos hex]
      exact (Classical.choose_spec hex).up
  have hex := mg_some hcs (pairs_up (hup j)) hcc (pairs_isC _)
  have e : lv (j + 1) = nextL cs (pairs (lv j)) := rfl
  rw [e]; unfold nextL; rw [dif_pos hex]
  exact Classical.choose_spec hex
theorem mem_pairs_w : ∀ {l : List Pm.It} {x : Pm.It}, x ∈ pairs l → ∃ y ∈ l, ∃ z ∈ l, x.w = y.w + z.w
  | [], x, h => by simp [pairs] at h
  | [_], x, h => by simp [pairs] at h
  | a :: b :: r, x, h => by
    rcases List.mem_cons.1 h with rfl | h
    · exact ⟨a, by simp, b, by simp, rfl⟩
    · obtain ⟨y, hy, z, hz, e⟩ := mem_pairs_w h
      exact ⟨y, by simp [hy], z, by simp [hz], e⟩
theorem lv_w {cs : List Pm.It} {lv : Nat → List Pm.It} {B : Nat} (h : Lv cs lv) (hB : ∀ x ∈ cs, x.w ≤ B) : ∀ k, ∀ x ∈ lv k, x.w ≤ B * 2 ^ k
  | 0, x, hx => by rw [h.zero] at hx; simp at hx
  | k + 1, x, hx => by
    cases hc : isC x with
    | true =>
      have : x ∈ (lv (k + 1)).filter isC := List.mem_filter.2 ⟨hx, hc⟩
      rw [(h.next k).cs] at this
      exact Nat.le_trans (hB x this) (Nat.le_mul_of_pos_right _ (Nat.pow_pos (by decide)))
    | false =>
      have : x ∈ (lv (k + 1)).filter (fun x => !isC x) := List.mem_filter.2 ⟨hx, by rw [hc]; rfl⟩
      rw [(h.next k).ps] at this
      obtain ⟨y, hy, z, hz, e⟩ := mem_pairs_w this
      have h1 := lv_w h hB k y hy
      have h2 := lv_w h hB k z hz
      rw [e, Nat.pow_succ, ← Nat.mul_assoc]
      omega
theorem lv_up {cs : List Pm.It} {lv : Nat → List Pm.It} (h : Lv cs lv) : ∀ k, (lv k).Pairwise fun a b => a.w ≤ b.w
  | 0 => by rw [h.zero]; exact .nil
  | k + 1 => (h.next k).up
theorem lv_len {cs : List Pm.It} {lv : Nat → List Pm.It} (h : Lv cs lv) : ∀ k, (lv k).length ≤ 2 * cs.length
  | 0 => by rw [h.zero]; simp
  | k + 1 => by
    have := lv_length h k
    have := lv_len h k
    omega
end Go.Pm
namespace Go.Proofs.Ytbdpjbmfhnbheaa
open Go Go.Vx Go.So
variable [W0]
set_option maxRecDepth 4000
set_option linter.all false
omit [W0] in
/-- The slices of the levels, and their chunks. -/
structure LvR (lv : Nat → List Pm.It) (k : Nat) (vs : List Value) (Cs : List Chunk) : Prop where
  lv_ : vs.length = k
  lc : Cs.length = k + 1
  at_ : ∀ j, j < k → ∃ v C, vs[j]? = some v ∧ Cs[j + 1]? = some C ∧ Ow 109 2 v (lv (j + 1)).length (itvs (lv (j + 1))) C
set_option maxHeartbeats 8000000 in
theorem levels_c (wt : Nat → Nat) (g : Nat → Nat × Nat) (N b0 c0 M : Nat) (rest : List Value) (L : List Chunk) (hN : N ≤ 400) (hM : M ≤ 15) (hs : Srt ky 0 N g) (hgw : ∀ r, r < N → (g r).2 = wt (g r).1) (hgb : ∀ r, r < N → (g r).2 ≤ 1073741824) :
    Gv Try.prog 28 [.slice (some ⟨b0, 0, none⟩) N c0, .int .i64 (M : Int)].toArray ([(b0, cl (cvs g N ++ rest) 63)] :: L)
      (fun r L' => ∃ lv vs Cs Cl, L' = Cl :: Cs.flatten :: [(b0, cl (cvs g N ++ rest) 63)] :: L ∧ Pm.Lv (coinsOf wt g N) lv ∧ LvR lv M vs Cs ∧ Ow 101 1 r M vs Cl) := by
  have hcs := coinsOf_up hs hgw
  have hcc := coinsOf_isC wt g N
  have hcl := coinsOf_length wt g N
  have hcw : ∀ x ∈ coinsOf wt g N, x.w ≤ 1073741824 := fun x hx => by
    obtain ⟨r, hr, rfl⟩ := List.mem_map.1 hx
    have := hgb r (List.mem_range.1 hr)
    rw [hgw r (List.mem_range.1 hr)] at this
    exact this
  obtain ⟨lv0, hlv0⟩ := Pm.lv_any hcs hcc
  refine Gv.of_body Try.func28 rfl rfl ?_
  (repeat' first|refine kW ?_|refine kU fun bk=>?_|refine kV fun hc=>?_|refine kZ (fun hc=>?_) fun hc=>?_|fail)
  refine WC_loop (X := Nat × (Nat → List Pm.It) × List Value × List Chunk × Chunk × Value × Value × Chunk) (fun x => [(0, .slice (some ⟨b0, 0, none⟩) N c0), (5, x.2.2.2.2.2.1), (6, x.2.2.2.2.2.2.1), (7, .int .i64 (M : Int)), (8, .int .i64 (x.1 : Int))])
    (fun x => x.2.2.2.2.1 :: x.2.2.2.1.flatten :: x.2.2.2.2.2.2.2 :: [(b0, cl (cvs g N ++ rest) 63)] :: L)
    (fun x => x.1 ≤ M ∧ Pm.Lv (coinsOf wt g N) x.2.1 ∧ LvR x.2.1 x.1 x.2.2.1 (x.2.2.2.1 ++ [x.2.2.2.2.2.2.2]) ∧ Ow 101 1 x.2.2.2.2.2.1 x.1 x.2.2.1 x.2.2.2.2.1 ∧ Ow 109 2 x.2.2.2.2.2.2.1 (x.2.1 x.1).length (itvs (x.2.1 x.1)) x.2.2.2.2.2.2.2) (fun x => M - x.1) (0, lv0, [], [], [], .slice none 0 0, .slice none 0 0, [])
    ⟨Nat.zero_le _, hlv0, ⟨rfl, rfl, fun j hj => by omega⟩, .inl ⟨rfl, rfl, rfl, rfl⟩, by simp only; rw [hlv0.zero]; exact .inl ⟨rfl, rfl, rfl, rfl⟩⟩ iS (fun w h => ?_) ?_
  · show Holds w ([] :: [] :: [] :: [(b0, cl (cvs g N ++ rest) 63)] :: L)
    exact Holds.nil.2 (Holds.nil.2 (Holds.nil.2 h))
  rintro ⟨k, lv, vs, Cs, Cl, rv, bv, Cb⟩ ⟨q1, q2, q3, q4, q5⟩
  simp only at q1 q2 q3 q4 q5 ⊢
  have hlen := Pm.lv_len q2 k
  rw [hcl] at hlen
  (repeat' first|refine kW ?_|refine kU fun bk=>?_|refine kV fun hc=>?_|refine kZ (fun hc=>?_) fun hc=>?_|fail)
  · have hkM : k < M := by omega
    have hpw : 2 ^ k ≤ 2 ^ 15 := Nat.pow_le_pow_right (by decide) (by omega)
    have hmg := merged_c wt g N b0 c0 rest bv (lv k) Cb (Cl :: Cs.flatten :: L) hN hs hgw hgb q5 (by omega) (fun x hx => by
      have h1 := Pm.lv_w q2 hcw k x hx
      have h2 : 1073741824 * 2 ^ k ≤ 1073741824 * 2 ^ 15 := Nat.mul_le_mul_left _ hpw
      omega) (Pm.lv_up q2 k)
    refine OW_call rfl rfl rfl (Gv.holds hmg (fun w h => iH h)) rfl (fun r L' hp => ?_)
    obtain ⟨A, C, rfl, hoA, hA⟩ := hp
    have hlv' := Pm.extL_lv hcs hcc q2 hA
    obtain ⟨ra, rc, rfl⟩ := ow_slc hoA
    (repeat' first|refine kW ?_|refine kU fun bk=>?_|refine kV fun hc=>?_|refine kZ (fun hc=>?_) fun hc=>?_|fail)
    refine OW_buildSlice (cs := [.slice ra A.length rc]) rfl (by rfl) (by simp [fillL, patch, Value.cells, zeros]; done) (by omega) rfl rfl (fun bs => ?_)
    (repeat' first|refine kW ?_|refine kU fun bk=>?_|refine kV fun hc=>?_|refine kZ (fun hc=>?_) fun hc=>?_|fail)
    refine OW_append rfl rfl q4 (sl_cells (k := 1) (c := #[.slice ra A.length rc]) (xs := [.slice ra A.length rc]) (m := 1) Fnd.here rfl (by simp)) (by repeat (first | exact Zip.here _ | apply Zip.there)) rfl (by rfl) (by omega) (by simp [maxLen]; omega) rfl (fun v' C' ho' _ _ => ?_)
    (repeat' first|refine kW ?_|refine kU fun bk=>?_|refine kV fun hc=>?_|refine kZ (fun hc=>?_) fun hc=>?_|fail)
    refine WQ_round (X := Nat × (Nat → List Pm.It) × List Value × List Chunk × Chunk × Value × Value × Chunk) (μ := fun x => M - x.1) (x := (k, lv, vs, Cs, Cl, rv, bv, Cb)) (k + 1, Pm.extL (coinsOf wt g N) lv k A, vs ++ [.slice ra A.length rc], Cs ++ [Cb], C', v', .slice ra A.length rc, C) (by simp only; omega)
      ⟨by simp only; omega, hlv', ?_, ho', by simp only; rw [Pm.extL_at]; exact hoA⟩ iS (fun w h => ?_)
    · refine ⟨by simp only [List.length_append, q3.lv_, List.length_cons, List.length_nil], by have := q3.lc; simp only [List.length_append, List.length_cons, List.length_nil] at this ⊢; omega, fun j hj => ?_⟩
      have hlc : (Cs ++ [Cb]).length = k + 1 := q3.lc
      by_cases e : j = k
      · subst e
        refine ⟨_, C, by simp only; rw [List.getElem?_append_right (by rw [q3.lv_]; omega), q3.lv_, Nat.sub_self]; rfl, by simp only; rw [List.getElem?_append_right (by rw [hlc]; omega), hlc, Nat.sub_self]; rfl, ?_⟩
        simp only
        rw [Pm.extL_at]
        exact hoA
      · obtain ⟨v1, C1, h1, h2, h3⟩ := q3.at_ j (by simp only at hj; omega)
        refine ⟨v1, C1, by simp only; rw [List.getElem?_append_left (List.getElem?_eq_some_iff.1 h1).1]; exact h1, by simp only; rw [List.getElem?_append_left (List.getElem?_eq_some_iff.1 h2).1]; exact h2, ?_⟩
        simp only
        rw [Pm.extL_low q2.zero (by simp only at hj; omega)]
        exact h3
    · have h2 := (iC : Inc (C' :: Cs.flatten :: Cb :: C :: [(b0, cl (cvs g N ++ rest) 63)] :: L) _).holds h
      simp only [List.flatten_append, List.flatten_cons, List.flatten_nil, List.append_nil]
      simpa [Holds, List.append_assoc] using h2
  · have hk : k = M := by omega
    subst hk
    first | refine WQ_retH rfl rfl ?_ | refine WQ_endH rfl rfl ?_
    refine ⟨_, fun w h => ?_, lv, vs, Cs ++ [Cb], Cl, rfl, q2, q3, q4⟩
    simp only [List.flatten_append, List.flatten_cons, List.flatten_nil, List.append_nil]
    simpa [Holds, List.append_assoc] using h
end Go.Proofs.Ytbdpjbmfhnbheaa
namespace Go.Proofs.Ytbdpjbmfhnbheaa
open Go Go.Vx Go.So
variable [W0]
set_option maxRecDepth 4000
set_option linter.all false
set_option maxHeartbeats 4000000 in
theorem among_c (l : List Pm.It) (b m c : Nat) (rest : List Value) (L : List Chunk) (hf : Fnd L b (cl (itvs l ++ rest) 109)) (hm : m ≤ l.length) (hl : l.length ≤ 1000) :
    GvP Try.prog 49 [.slice (some ⟨b, 0, none⟩) m c].toArray L (.int .i64 ((((l.take m).filter fun x => !Pm.isC x).length : Nat) : Int)) := by
  refine Gv.of_body Try.func49 rfl rfl ?_
  (repeat' first|refine kW ?_|refine kU fun bk=>?_|refine kV fun hc=>?_|refine kZ (fun hc=>?_) fun hc=>?_|fail)
  refine WC_loop (X := Nat) (fun i => [(3, .int .i64 ((((l.take i).filter fun x => !Pm.isC x).length : Nat) : Int)), (6, .slice (some ⟨b, 0, none⟩) m c), (7, .int .i64 (m : Int)), (8, .int .i64 (i : Int))]) (fun _ => L) (fun i => i ≤ m) (fun i => m - i) 0 (Nat.zero_le _) iS (fun w h => h) ?_
  intro i hi
  have hb : ((l.take i).filter fun x => !Pm.isC x).length ≤ i := by
    have h1 := List.length_filter_le (fun x => !Pm.isC x) (l.take i)
    rw [List.length_take] at h1
    omega
  (repeat' first|refine kW ?_|refine kU fun bk=>?_|refine kV fun hc=>?_|refine kZ (fun hc=>?_) fun hc=>?_|fail)
  · have hlt : i < m := by omega
    obtain ⟨x, hx⟩ : ∃ x, l[i]? = some x := ⟨l[i], by simp [show i < l.length from by omega]⟩
    have hgx := (itvs_get hx).1
    have hgx1 := (itvs_get hx).2
    have hst : ((l.take (i + 1)).filter fun x => !Pm.isC x).length = ((l.take i).filter fun x => !Pm.isC x).length + (if Pm.isC x then 0 else 1) := by
      rw [List.take_add_one, hx, List.filter_append, List.length_append]
      congr 1
      cases hc : Pm.isC x <;> simp [hc]
    have hrd : RdAt L ⟨b, i * 2, none⟩ (itv x) := by
      refine .inr ⟨b, _, _, _, (0, 0), rfl, hf, fun j u hj => ?_⟩
      rw [List.getElem?_toArray]
      match j, hj with
      | 0, hj =>
        rw [Nat.add_zero, List.getElem?_append_left (List.getElem?_eq_some_iff.1 hgx).1, hgx]
        exact hj
      | 1, hj =>
        rw [List.getElem?_append_left (List.getElem?_eq_some_iff.1 hgx1).1, hgx1]
        exact hj
      | n + 2, hj => simp [itv] at hj
    refine OW_EV (EV_indexAddr0 (j := i) (len := m) rfl rfl rfl hlt) rfl ?_
    (repeat' first|refine kW ?_|refine kU fun bk=>?_|refine kV fun hc=>?_|refine kZ (fun hc=>?_) fun hc=>?_|fail)
    refine OW_EV (EV_loadAgg rfl hrd rfl) rfl ?_
    (repeat' first|refine kW ?_|refine kU fun bk=>?_|refine kV fun hc=>?_|refine kZ (fun hc=>?_) fun hc=>?_|fail)
    refine OW_holds (L' := [(bk, cl [.int .i64 0, .bool false] 109)] :: L) (fun w h => h) ?_
    refine OW_storeAggTo (l := [.int .i64 0, .bool false]) (vs := itv x) (itv x) rfl rfl rfl rfl rfl iU (by simp [itv]) ?_
    cases hcx : Pm.isC x with
    | true =>
      rw [hcx] at hst
      have hst2 : ((l.take (i + 1)).filter fun x => !Pm.isC x).length = ((l.take i).filter fun x => !Pm.isC x).length := hst
      rw [show itv x = [.int .i64 (x.w : Int), .bool false] from by unfold itv; rw [hcx]; rfl]
      (repeat' first|refine kW ?_|refine kU fun bk=>?_|refine kV fun hc=>?_|refine kZ (fun hc=>?_) fun hc=>?_|fail)
      rw [← hst2]
      refine WQ_round (X := Nat) (μ := fun i => m - i) (x := i) (i + 1) (by omega) (by omega) iS (fun w h => h.drop)
    | false =>
      rw [hcx] at hst
      have hst2 : ((l.take (i + 1)).filter fun x => !Pm.isC x).length = ((l.take i).filter fun x => !Pm.isC x).length + 1 := hst
      rw [show itv x = [.int .i64 (x.w : Int), .bool true] from by unfold itv; rw [hcx]; rfl]
      (repeat' first|refine kW ?_|refine kU fun bk=>?_|refine kV fun hc=>?_|refine kZ (fun hc=>?_) fun hc=>?_|fail)
      rw [show ((((l.take i).filter fun x => !Pm.isC x).length : Nat) : Int) + 1 = ((((l.take (i + 1)).filter fun x => !Pm.isC x).length : Nat) : Int) from by rw [hst2]; omega]
      refine WQ_round (X := Nat) (μ := fun i => m - i) (x := i) (i + 1) (by omega) (by omega) iS (fun w h => h.drop)
  · rw [show i = m from by omega]
    exact kE
theorem backw_c (v : Value) (L : List Chunk) : Gv Try.prog 48 [v].toArray L
    (fun r L' => ∃ p, r = .func (.func 56) #[] #[.pointer (some ⟨p, 0, none⟩)] ∧ L' = [(p, cl v.cells.toList 65)] :: L) := by
  refine Gv.of_body Try.func48 rfl rfl ?_
  (repeat' first|refine kW ?_|refine kU fun bk=>?_|refine kV fun hc=>?_|refine kZ (fun hc=>?_) fun hc=>?_|fail)
  first | refine WQ_retH rfl rfl ?_ | refine WQ_endH rfl rfl ?_
  exact ⟨_, fun w h => h, _, rfl, rfl⟩
omit [W0] in
/-- What is given of the levels. -/
def bwS (vs : List Value) : List (List Value) := (List.range vs.length).map fun k => [.int .i64 ((vs.length - 1 - k : Nat) : Int), vs.getD (vs.length - 1 - k) undef]
theorem bwS_length (vs : List Value) : (bwS vs).length = vs.length := by simp [bwS]
theorem bwS_get (vs : List Value) {k : Nat} (h : k < vs.length) : (bwS vs).getD k [] = [.int .i64 ((vs.length - 1 - k : Nat) : Int), vs.getD (vs.length - 1 - k) undef] := by simp [bwS, List.getD, h]
set_option maxHeartbeats 4000000 in
theorem backw_it (vs : List Value) (p b c : Nat) (rest : List Value) (hm : vs.length ≤ 1000) :
    It Try.prog 56 [.pointer (some ⟨p, 0, none⟩)].toArray ([(p, cl [.slice (some ⟨b, 0, none⟩) vs.length c] 65)] :: [(b, cl (vs ++ rest) 101)] :: []) (bwS vs) := by
  refine It.of_body Try.func56 rfl rfl fun l J L0 h0 hy => ?_
  obtain ⟨Lit, hLit⟩ : ∃ Lit : List Chunk, Lit = [(p, cl [.slice (some ⟨b, 0, none⟩) vs.length c] 65)] :: [(b, cl (vs ++ rest) 101)] :: [] := ⟨_, rfl⟩
  rw [← hLit]
  have fp : ∀ L', Fnd (L' ++ Lit) p (cl [.slice (some ⟨b, 0, none⟩) vs.length c] 65) := fun L' => by rw [hLit]; exact Fnd.right Fnd.here
  have fb : ∀ L', Fnd (L' ++ Lit) b (cl (vs ++ rest) 101) := fun L' => by rw [hLit]; exact Fnd.right (Fnd.there Fnd.here)
  (repeat' first|refine kI ?_|refine kU fun bk=>?_|refine kJ fun hc=>?_|refine kK (fun hc=>?_) fun hc=>?_|fail)
  refine OW_EV (EV_loadc rfl (fp L0) rfl) rfl ?_
  (repeat' first|refine kI ?_|refine kU fun bk=>?_|refine kJ fun hc=>?_|refine kK (fun hc=>?_) fun hc=>?_|fail)
  refine WI_loop (X := Nat × List Chunk) (fun x => [(0, .func (.yield l) #[] #[]), (1, .pointer (some ⟨p, 0, none⟩)), (3, .int .i64 ((vs.length : Int) - 1 - (x.1 : Int)))])
    (fun x => x.2 ++ Lit) (fun x => x.1 ≤ vs.length ∧ J x.1 x.2) (fun x => vs.length - x.1) (0, L0) ⟨Nat.zero_le _, h0⟩ iS (fun w h => h) ?_
  rintro ⟨k, L'⟩ ⟨hk, hj⟩
  simp only at hk hj ⊢
  (repeat' first|refine kI ?_|refine kU fun bk=>?_|refine kJ fun hc=>?_|refine kK (fun hc=>?_) fun hc=>?_|fail)
  · have hlt : k < vs.length := by omega
    obtain ⟨u, hu⟩ : ∃ u, vs[vs.length - 1 - k]? = some u := ⟨vs[vs.length - 1 - k], by simp [show vs.length - 1 - k < vs.length from by omega]⟩
    have hgu : nth (vs ++ rest) ((vs.length - 1 - k) * 1) = some u := by
      rw [nth_eq, Nat.mul_one, List.getElem?_append_left (List.getElem?_eq_some_iff.1 hu).1]
      exact hu
    rw [show (vs.length : Int) - 1 - (k : Int) = ((vs.length - 1 - k : Nat) : Int) from by omega]
    refine WI_list ?_
    (repeat' first|refine kL ?_|refine kU fun bk=>?_|refine kJ fun hc=>?_|refine kK (fun hc=>?_) fun hc=>?_|fail)
    refine OW_EV (EV_loadc rfl (fp L') rfl) rfl ?_
    (repeat' first|refine kL ?_|refine kU fun bk=>?_|refine kJ fun hc=>?_|refine kK (fun hc=>?_) fun hc=>?_|fail)
    refine OW_EV (EV_indexAddr0 (j := vs.length - 1 - k) (len := vs.length) rfl rfl rfl (by omega)) rfl ?_
    (repeat' first|refine kL ?_|refine kU fun bk=>?_|refine kJ fun hc=>?_|refine kK (fun hc=>?_) fun hc=>?_|fail)
    refine OW_EV (EV_loadc rfl (fb L') hgu) rfl ?_
    have hyk := hy Lit k L' (by rw [bwS_length]; omega) hj
    rw [bwS_get _ hlt, show vs.getD (vs.length - 1 - k) undef = u from by simp [List.getD, hu]] at hyk
    refine WJ_yield rfl rfl hyk rfl ?_
    rintro L'' ⟨L3, hj3, rfl⟩
    (repeat' first|refine kL ?_|refine kU fun bk=>?_|refine kJ fun hc=>?_|refine kK (fun hc=>?_) fun hc=>?_|fail)
    (repeat' first|refine kI ?_|refine kU fun bk=>?_|refine kJ fun hc=>?_|refine kK (fun hc=>?_) fun hc=>?_|fail)
    refine WQ_round (X := Nat × List Chunk) (μ := fun x => vs.length - x.1) (x := (k, L')) (k + 1, L3) (by simp only; omega) ⟨by simp only; omega, hj3⟩ iS (fun w h => h)
  · have hke : k = vs.length := by omega
    first | refine WQ_retH rfl rfl ?_ | refine WQ_endH rfl rfl ?_
    refine ⟨_, fun w h => h, L', ?_, rfl⟩
    rw [bwS_length, ← hke]
    exact hj
end Go.Proofs.Ytbdpjbmfhnbheaa
namespace Go.Pm
set_option linter.all false
def bt (lv : Nat → List Pm.It) (M m : Nat) : Nat → Nat
  | 0 => m
  | k + 1 => 2 * pC lv (M - k) (bt lv M m k)
theorem sel_drop (lv : Nat → List Pm.It) (M m : Nat) : ∀ k, k ≤ M → (sel lv M m).drop k = sel lv (M - k) (bt lv M m k)
  | 0, _ => rfl
  | k + 1, h => by
    have ih := sel_drop lv M m k (by omega)
    obtain ⟨j, hj⟩ : ∃ j, M - k = j + 1 := ⟨M - k - 1, by omega⟩
    rw [← List.drop_drop, ih, hj, show M - (k + 1) = j from by omega]
    simp only [sel, List.drop_succ_cons, List.drop_zero, bt, hj]
theorem sel_take {lv : Nat → List Pm.It} {M m k : Nat} (h : k < M) : (sel lv M m).take (k + 1) = (sel lv M m).take k ++ [sC lv (M - k) (bt lv M m k)] := by
  have hd := sel_drop lv M m k (by omega)
  obtain ⟨j, hj⟩ : ∃ j, M - k = j + 1 := ⟨M - k - 1, by omega⟩
  have h0 : (sel lv M m)[k]? = some (sC lv (M - k) (bt lv M m k)) := by
    have : ((sel lv M m).drop k)[0]? = (sel lv M m)[k]? := by rw [List.getElem?_drop, Nat.add_zero]
    rw [← this, hd, hj]; rfl
  rw [List.take_add_one, h0]; rfl
theorem bt_le {cs : List Pm.It} {lv : Nat → List Pm.It} (h : Lv cs lv) {M m : Nat} (hm : m ≤ (lv M).length) : ∀ k, k ≤ M → bt lv M m k ≤ (lv (M - k)).length
  | 0, _ => hm
  | k + 1, hk => by
    obtain ⟨j, hj⟩ : ∃ j, M - k = j + 1 := ⟨M - k - 1, by omega⟩
    rw [bt, hj, show M - (k + 1) = j from by omega]
    exact pC_two h j _
theorem ln_app (A : List Nat) (s r : Nat) : ln (A ++ [s]) r = ln A r + if r < s then 1 else 0 := by
  unfold ln
  rw [List.filter_append, List.length_append]
  congr 1
  by_cases h : r < s
  · simp [h]
  · simp [h]
end Go.Pm
namespace Go.Proofs.Ytbdpjbmfhnbheaa
open Go Go.Vx Go.So
variable [W0]
set_option maxRecDepth 4000
set_option linter.all false
omit [W0] in
/-- Lengths behind some rounds. -/
structure LsI (S : List Nat) (N n : Nat) (sy : Nat → Nat) (q : Nat) (ls : List Nat) : Prop where
  len : ls.length = n
  on : ∀ r, r < N → ls.getD (sy r) 0 = Pm.ln S r + if r < q then 1 else 0
  off : ∀ i, (∀ r, r < N → sy r ≠ i) → ls.getD i 0 = 0
theorem LsI.start {N n : Nat} {sy : Nat → Nat} : LsI [] N n sy 0 (List.replicate n 0) := by
  refine ⟨by simp, fun r hr => ?_, fun i hi => ?_⟩
  · rw [if_neg (by omega)]
    simp only [List.getD, List.getElem?_replicate]
    split <;> rfl
  · simp only [List.getD, List.getElem?_replicate]
    split <;> rfl
theorem LsI.step {S : List Nat} {N n : Nat} {sy : Nat → Nat} {q : Nat} {ls : List Nat} (h : LsI S N n sy q ls) (hi : ∀ r p, r < N → p < N → sy r = sy p → r = p) (hq : q < N) (hn : sy q < n) : LsI S N n sy (q + 1) (ls.set (sy q) (ls.getD (sy q) 0 + 1)) := by
  have hl : sy q < ls.length := by rw [h.len]; exact hn
  refine ⟨by rw [List.length_set]; exact h.len, fun r hr => ?_, fun i hx => ?_⟩
  · by_cases e : r = q
    · subst e
      have e1 : (ls.set (sy r) (ls.getD (sy r) 0 + 1)).getD (sy r) 0 = ls.getD (sy r) 0 + 1 := by simp only [List.getD, List.getElem?_set_self hl, Option.getD_some]
      rw [e1, h.on r hr, if_neg (by omega), if_pos (by omega)]
    · have hne : sy q ≠ sy r := fun hh => e (hi r q hr hq hh.symm)
      have e1 : (ls.set (sy q) (ls.getD (sy q) 0 + 1)).getD (sy r) 0 = ls.getD (sy r) 0 := by simp only [List.getD, List.getElem?_set_ne hne]
      rw [e1, h.on r hr]
      congr 1
      have : (r < q) = (r < q + 1) := by apply propext; omega
      simp only [this]
  · have e1 : (ls.set (sy q) (ls.getD (sy q) 0 + 1)).getD i 0 = ls.getD i 0 := by simp only [List.getD, List.getElem?_set_ne (hx q hq)]
    rw [e1, h.off i hx]
theorem LsI.turn {S : List Nat} {N n : Nat} {sy : Nat → Nat} {q : Nat} {ls : List Nat} (h : LsI S N n sy q ls) : LsI (S ++ [q]) N n sy 0 ls := by
  refine ⟨h.len, fun r hr => ?_, h.off⟩
  rw [h.on r hr, Pm.ln_app, if_neg (show ¬ r < 0 by omega), Nat.add_zero]
set_option maxHeartbeats 16000000 in
theorem lengthen_c (wt : Nat → Nat) (g : Nat → Nat × Nat) (N n b0 c0 bl bv cw M : Nat) (rest restv : List Value) (lv : Nat → List Pm.It) (vs : List Value) (Cs : List Chunk) (L : List Chunk) (hN2 : 2 ≤ N) (hN : N ≤ 400) (hn : n ≤ 400) (hc0 : N ≤ c0) (hM : M ≤ 15) (hM1 : 1 ≤ M) (hMN : N ≤ 2 ^ M)
    (hlv : Pm.Lv (coinsOf wt g N) lv) (hR : LvR lv M vs Cs) (hinj : ∀ r p, r < N → p < N → (g r).1 = (g p).1 → r = p) (hsy : ∀ r, r < N → (g r).1 < n) :
    Gv Try.prog 27 [.slice (some ⟨bl, 0, none⟩) n n, .slice (some ⟨b0, 0, none⟩) N c0, .slice (some ⟨bv, 0, none⟩) M cw].toArray ([(bl, cl (ivn (List.replicate n 0)) 3)] :: [(b0, cl (cvs g N ++ rest) 63)] :: [(bv, cl (vs ++ restv) 101)] :: Cs.flatten :: L)
      (fun r L' => r = .tuple #[] ∧ ∃ ls, LsI (Pm.sel lv M (2 * N - 2)) N n (fun r => (g r).1) 0 ls ∧ L' = [(bl, cl (ivn ls) 3)] :: L) := by
  have hcl := coinsOf_length wt g N
  obtain ⟨k0, hk0⟩ : ∃ k0, M = k0 + 1 := ⟨M - 1, by omega⟩
  have hfull : 2 * N - 2 ≤ (lv M).length := by
    have := Pm.lv_full hlv k0 (by rw [hcl]; omega) (by rw [hcl, ← hk0]; exact hMN)
    rw [hcl, ← hk0] at this
    exact this
  have hbt := Pm.bt_le hlv hfull
  have hvl := hR.lv_
  obtain ⟨B, hB⟩ : ∃ B, B = Pm.bt lv M (2 * N - 2) := ⟨_, rfl⟩
  refine Gv.of_bodyM Try.func27 rfl rfl ?_
  (repeat' first|refine kW ?_|refine kU fun bk=>?_|refine kV fun hc=>?_|refine kZ (fun hc=>?_) fun hc=>?_|fail)
  rename_i b3 b4
  obtain ⟨b6, hb6⟩ : ∃ b6, b6 = bk := ⟨_, rfl⟩
  rw [← hb6]
  clear hb6
  rw [show (2 : Int) * (N : Int) - 2 = ((2 * N - 2 : Nat) : Int) from by omega]
  refine OW_holds (L' := [(b6, cl [.int .i64 0] 3)] :: [(b4, cl [.slice (some ⟨b0, 0, none⟩) N c0] 60)] :: [(b3, cl [.slice (some ⟨bl, 0, none⟩) n n] 23)] :: [(bl, cl (ivn (List.replicate n 0)) 3)] :: [(b0, cl (cvs g N ++ rest) 63)] :: [(bv, cl (vs ++ restv) 101)] :: Cs.flatten :: L) (fun w h => h) ?_
  refine OW_storeTo [.int .i64 ((2 * N - 2 : Nat) : Int)] rfl rfl rfl rfl iU (by simp) ?_
  (repeat' first|refine kW ?_|refine kU fun bk=>?_|refine kV fun hc=>?_|refine kZ (fun hc=>?_) fun hc=>?_|fail)
  refine OW_call rfl rfl rfl (backw_c (.slice (some ⟨bv, 0, none⟩) M cw) _) rfl (fun r L' hp => ?_)
  obtain ⟨p, rfl, rfl⟩ := hp
  (repeat' first|refine kW ?_|refine kU fun bk=>?_|refine kV fun hc=>?_|refine kZ (fun hc=>?_) fun hc=>?_|fail)
  obtain ⟨J, hJ⟩ : ∃ J : Nat → List Chunk → Prop, ∀ k L', J k L' ↔ ∃ ls, LsI ((Pm.sel lv M (2 * N - 2)).take k) N n (fun r => (g r).1) 0 ls ∧ L' = [(b6, cl [.int .i64 ((Pm.bt lv M (2 * N - 2) k : Nat) : Int)] 3)] :: [(b4, cl [.slice (some ⟨b0, 0, none⟩) N c0] 60)] :: [(b3, cl [.slice (some ⟨bl, 0, none⟩) n n] 23)] :: [(bl, cl (ivn ls) 3)] :: [(b0, cl (cvs g N ++ rest) 63)] :: Cs.flatten :: L :=
    ⟨fun k L' => ∃ ls, LsI ((Pm.sel lv M (2 * N - 2)).take k) N n (fun r => (g r).1) 0 ls ∧ L' = [(b6, cl [.int .i64 ((Pm.bt lv M (2 * N - 2) k : Nat) : Int)] 3)] :: [(b4, cl [.slice (some ⟨b0, 0, none⟩) N c0] 60)] :: [(b3, cl [.slice (some ⟨bl, 0, none⟩) n n] 23)] :: [(bl, cl (ivn ls) 3)] :: [(b0, cl (cvs g N ++ rest) 63)] :: Cs.flatten :: L, fun _ _ => Iff.rfl⟩
  have hit := backw_it vs p bv cw restv (by rw [hvl]; omega)
  rw [hvl] at hit
  refine WC_range (ps := [18, 19]) rfl hit J ([(b6, cl [.int .i64 ((Pm.bt lv M (2 * N - 2) 0 : Nat) : Int)] 3)] :: [(b4, cl [.slice (some ⟨b0, 0, none⟩) N c0] 60)] :: [(b3, cl [.slice (some ⟨bl, 0, none⟩) n n] 23)] :: [(bl, cl (ivn (List.replicate n 0)) 3)] :: [(b0, cl (cvs g N ++ rest) 63)] :: Cs.flatten :: L) ((hJ _ _).2 ⟨_, LsI.start, rfl⟩) (fun w h => ?_)
    (fun k hk => by rw [bwS_length] at hk; rw [bwS_get _ hk]; rfl) rfl
    (fun k _ => [(3, .pointer (some ⟨b3, 0, none⟩)), (4, .pointer (some ⟨b4, 0, none⟩)), (6, .pointer (some ⟨b6, 0, none⟩)), (8, vs.getD (vs.length - 1 - k) undef)]) (fun lp k L' R hk hj => ?_) (fun lp k L' R hk hj => ?_) (fun D a' w L3 hst hd hj hw' => ?_)
  · have h2 := (iC : Inc ([(b6, cl [.int .i64 ((Pm.bt lv M (2 * N - 2) 0 : Nat) : Int)] 3)] :: [(b4, cl [.slice (some ⟨b0, 0, none⟩) N c0] 60)] :: [(b3, cl [.slice (some ⟨bl, 0, none⟩) n n] 23)] :: [(bl, cl (ivn (List.replicate n 0)) 3)] :: [(b0, cl (cvs g N ++ rest) 63)] :: Cs.flatten :: [(p, cl [.slice (some ⟨bv, 0, none⟩) M cw] 65)] :: [(bv, cl (vs ++ restv) 101)] :: L) _).holds h
    refine h2.perm ?_
    exact List.Perm.append_left [_, _, _, _, _, _] (List.perm_append_comm (l₁ := [_, _]) (l₂ := L))
  · rw [bwS_length] at hk
    rw [bwS_get _ hk]
    show Wic _ _ _ _ _ ((19, vs.getD (vs.length - 1 - k) undef) :: (18, _) :: _) _
    (repeat' first|refine kI ?_|refine kU fun bk=>?_|refine kJ fun hc=>?_|refine kK (fun hc=>?_) fun hc=>?_|fail)
    exact WQ_AP iS (fun w h => h)
  · rw [bwS_length, hvl] at hk
    obtain ⟨ls, hls, rfl⟩ := (hJ _ _).1 hj
    obtain ⟨v1, C1, hv1, hC1, ho1⟩ := hR.at_ (M - 1 - k) (by omega)
    rw [show M - 1 - k + 1 = M - k from by omega] at hC1 ho1
    have hge : N ≤ (lv (M - k)).length := by
      have := Pm.lv_length hlv (M - k - 1)
      rw [show M - k - 1 + 1 = M - k from by omega, hcl] at this
      omega
    rcases ho1 with ⟨_, h1, _⟩ | ⟨b1, c1, r1, rfl, rfl, hxl, hrl, hmc, _⟩
    · omega
    have hbk := hbt k (by omega)
    have hsp := Pm.sp lv (M - k) (Pm.bt lv M (2 * N - 2) k) hbk
    have hsc : Pm.sC lv (M - k) (Pm.bt lv M (2 * N - 2) k) ≤ N := by
      have := Pm.sC_le hlv (M - k - 1) (Pm.bt lv M (2 * N - 2) k)
      rw [show M - k - 1 + 1 = M - k from by omega, hcl] at this
      exact this
    have hbs : Pm.bt lv M (2 * N - 2) (k + 1) = 2 * Pm.pC lv (M - k) (Pm.bt lv M (2 * N - 2) k) := rfl
    have hst := Pm.sel_take (lv := lv) (m := 2 * N - 2) hk
    have hll := Pm.lv_len hlv (M - k)
    rw [hcl] at hll
    have hfl : Fnd (Cs.flatten :: (L ++ R)) b1 (cl (itvs (lv (M - k)) ++ r1) 109) := Fnd.mem (List.mem_flatten.2 ⟨_, List.mem_of_getElem? hC1, by simp⟩)
    have ham := fun L' h' => among_c (lv (M - k)) b1 (Pm.bt lv M (2 * N - 2) k) c1 r1 L' h' hbk (by omega)
    have hpc : (((lv (M - k)).take (Pm.bt lv M (2 * N - 2) k)).filter fun x => !Pm.isC x).length = Pm.pC lv (M - k) (Pm.bt lv M (2 * N - 2) k) := rfl
    rw [hpc] at ham
    obtain ⟨T, hT⟩ : ∃ T, T = Pm.bt lv M (2 * N - 2) k := ⟨_, rfl⟩
    obtain ⟨T2, hT2⟩ : ∃ T2, T2 = Pm.bt lv M (2 * N - 2) (k + 1) := ⟨_, rfl⟩
    obtain ⟨pc, hpce⟩ : ∃ pc, pc = Pm.pC lv (M - k) (Pm.bt lv M (2 * N - 2) k) := ⟨_, rfl⟩
    obtain ⟨sc, hsce⟩ : ∃ sc, sc = Pm.sC lv (M - k) (Pm.bt lv M (2 * N - 2) k) := ⟨_, rfl⟩
    rw [← hsce] at hst
    rw [← hpce] at ham hbs hsp
    rw [← hsce] at hsp hsc
    rw [← hT] at hbk hsp ham ⊢
    rw [← hT2] at hbs
    rw [hvl, show vs.getD (M - 1 - k) undef = .slice (some ⟨b1, 0, none⟩) (lv (M - k)).length c1 from by simp [List.getD, hv1]]
    show Wic _ _ _ _ _ _ ([(b6, cl [.int .i64 (T : Int)] 3)] :: [(b4, cl [.slice (some ⟨b0, 0, none⟩) N c0] 60)] :: [(b3, cl [.slice (some ⟨bl, 0, none⟩) n n] 23)] :: [(bl, cl (ivn ls) 3)] :: [(b0, cl (cvs g N ++ rest) 63)] :: Cs.flatten :: (L ++ R))
    (repeat' first|refine kI ?_|refine kU fun bk=>?_|refine kJ fun hc=>?_|refine kK (fun hc=>?_) fun hc=>?_|fail)
    refine OW_EV (EV_sliceTo (h := T) rfl rfl (bnd_int rfl rfl) (by omega)) rfl ?_
    (repeat' first|refine kI ?_|refine kU fun bk=>?_|refine kJ fun hc=>?_|refine kK (fun hc=>?_) fun hc=>?_|fail)
    refine OW_callP rfl rfl rfl (ham _ (Fnd.there (Fnd.there (Fnd.there (Fnd.there (Fnd.there hfl)))))) rfl ?_
    (repeat' first|refine kI ?_|refine kU fun bk=>?_|refine kJ fun hc=>?_|refine kK (fun hc=>?_) fun hc=>?_|fail)
    rw [show (T : Int) - (pc : Int) = (sc : Int) from by omega]
    refine OW_EV (EV_sliceTo (h := sc) rfl rfl (bnd_int rfl rfl) (by omega)) rfl ?_
    (repeat' first|refine kI ?_|refine kU fun bk=>?_|refine kJ fun hc=>?_|refine kK (fun hc=>?_) fun hc=>?_|fail)
    refine WI_loop (X := Nat × List Nat) (fun x => [(3, .pointer (some ⟨b3, 0, none⟩)), (6, .pointer (some ⟨b6, 0, none⟩)), (9, .int .i64 (pc : Int)), (28, .slice (some ⟨b0, 0, none⟩) sc c0), (29, .int .i64 (sc : Int)), (30, .int .i64 (x.1 : Int))])
      (fun x => [(b6, cl [.int .i64 (T : Int)] 3)] :: [(b4, cl [.slice (some ⟨b0, 0, none⟩) N c0] 60)] :: [(b3, cl [.slice (some ⟨bl, 0, none⟩) n n] 23)] :: [(bl, cl (ivn x.2) 3)] :: [(b0, cl (cvs g N ++ rest) 63)] :: Cs.flatten :: (L ++ R))
      (fun x => x.1 ≤ sc ∧ LsI ((Pm.sel lv M (2 * N - 2)).take k) N n (fun r => (g r).1) x.1 x.2) (fun x => sc - x.1) (0, ls) ⟨Nat.zero_le _, hls⟩ iS (fun w h => h) ?_
    clear hls
    rintro ⟨q, ls⟩ ⟨hq, hls⟩
    simp only at hq hls ⊢
    (repeat' first|refine kI ?_|refine kU fun bk=>?_|refine kJ fun hc=>?_|refine kK (fun hc=>?_) fun hc=>?_|fail)
    · have hqs : q < sc := by omega
      have hqN : q < N := by omega
      have hsq := hsy q hqN
      have hlq : ls.getD (g q).1 0 ≤ 15 := by
        have h1 := hls.on q hqN
        rw [if_neg (by omega)] at h1
        have h2 := Pm.ln_le ((Pm.sel lv M (2 * N - 2)).take k) q
        rw [List.length_take, Pm.sel_length] at h2
        omega
      have hld : nth (ivn ls) ((g q).1 * 1) = some (.int .i64 ((ls.getD (g q).1 0 : Nat) : Int)) := by
        rw [nth_eq, Nat.mul_one]
        exact ivn_get (by simp [List.getD, show (g q).1 < ls.length from by rw [hls.len]; exact hsq])
      have hls2 := hls.step hinj hqN hsq
      refine OW_EV (EV_indexAddr0 (j := q) (len := sc) rfl rfl rfl hqs) rfl ?_
      (repeat' first|refine kI ?_|refine kU fun bk=>?_|refine kJ fun hc=>?_|refine kK (fun hc=>?_) fun hc=>?_|fail)
      refine OW_EV (EV_loadAgg rfl (cv_rd (f := g) (n := N) (j := q) (rest := rest) hqN (Fnd.there (Fnd.there (Fnd.there (Fnd.there Fnd.here))))) rfl) rfl ?_
      (repeat' first|refine kI ?_|refine kU fun bk=>?_|refine kJ fun hc=>?_|refine kK (fun hc=>?_) fun hc=>?_|fail)
      refine OW_holds (L' := [(bk, cl [.int .i64 0, .int .i64 0] 63)] :: [(b6, cl [.int .i64 (T : Int)] 3)] :: [(b4, cl [.slice (some ⟨b0, 0, none⟩) N c0] 60)] :: [(b3, cl [.slice (some ⟨bl, 0, none⟩) n n] 23)] :: [(bl, cl (ivn ls) 3)] :: [(b0, cl (cvs g N ++ rest) 63)] :: Cs.flatten :: (L ++ R)) (fun w h => h) ?_
      refine OW_storeAggTo (l := [.int .i64 0, .int .i64 0]) (vs := cv (g q)) (cv (g q)) rfl rfl rfl rfl rfl iU (by simp [cv]) ?_
      (repeat' first|refine kI ?_|refine kU fun bk=>?_|refine kJ fun hc=>?_|refine kK (fun hc=>?_) fun hc=>?_|fail)
      refine OW_EV (EV_indexAddr0 (j := (g q).1) (len := n) rfl rfl rfl hsq) rfl ?_
      (repeat' first|refine kI ?_|refine kU fun bk=>?_|refine kJ fun hc=>?_|refine kK (fun hc=>?_) fun hc=>?_|fail)
      refine OW_EV (EV_loadc rfl (Fnd.there (Fnd.there (Fnd.there (Fnd.there Fnd.here)))) hld) rfl ?_
      (repeat' first|refine kI ?_|refine kU fun bk=>?_|refine kJ fun hc=>?_|refine kK (fun hc=>?_) fun hc=>?_|fail)
      refine OW_EV (EV_indexAddr0 (j := (g q).1) (len := n) rfl rfl rfl hsq) rfl ?_
      (repeat' first|refine kI ?_|refine kU fun bk=>?_|refine kJ fun hc=>?_|refine kK (fun hc=>?_) fun hc=>?_|fail)
      refine OW_storeTo (l := ivn ls) (ivn (ls.set (g q).1 (ls.getD (g q).1 0 + 1))) rfl rfl rfl (by rw [Nat.mul_one]; simp [ivn, List.map_set]) iU (by rw [ivn_length, hls.len]; omega) ?_
      (repeat' first|refine kI ?_|refine kU fun bk=>?_|refine kJ fun hc=>?_|refine kK (fun hc=>?_) fun hc=>?_|fail)
      refine WQ_round (X := Nat × List Nat) (μ := fun x => sc - x.1) (x := (q, ls)) (q + 1, ls.set (g q).1 (ls.getD (g q).1 0 + 1)) (by simp only; omega) ⟨by simp only; omega, hls2⟩ iS (fun w h => h.drop)
    · have hqe : q = sc := by omega
      subst hqe
      rw [show (2 : Int) * (pc : Int) = (T2 : Int) from by omega]
      refine WQ_RP ([(b6, cl [.int .i64 (T2 : Int)] 3)] :: [(b4, cl [.slice (some ⟨b0, 0, none⟩) N c0] 60)] :: [(b3, cl [.slice (some ⟨bl, 0, none⟩) n n] 23)] :: [(bl, cl (ivn ls) 3)] :: [(b0, cl (cvs g N ++ rest) 63)] :: Cs.flatten :: L) ((hJ _ _).2 ⟨ls, ?_, by rw [hT2]⟩) (fun w h => h)
      rw [hst]
      exact hls.turn
  · obtain ⟨ls, hls, rfl⟩ := (hJ _ _).1 hj
    rw [bwS_length, hvl, List.take_of_length_le (by rw [Pm.sel_length]; exact Nat.le_refl _)] at hls
    obtain ⟨T, hT⟩ : ∃ T, T = Pm.bt lv M (2 * N - 2) (bwS vs).length := ⟨_, rfl⟩
    rw [← hT] at hw'
    have hw2 : Holds w (([(D, .deferred (some []))] :: [(b6, cl [.int .i64 (T : Int)] 3)] :: [(b4, cl [.slice (some ⟨b0, 0, none⟩) N c0] 60)] :: [(b3, cl [.slice (some ⟨bl, 0, none⟩) n n] 23)] :: [(bl, cl (ivn ls) 3)] :: [(b0, cl (cvs g N ++ rest) 63)] :: Cs.flatten :: L) ++ [[(p, cl [.slice (some ⟨bv, 0, none⟩) M cw] 65)], [(bv, cl (vs ++ restv) 101)]]) := hw'
    have hw3 := hw2.front
    refine (WP_end (e := .normal) (.inr rfl) rfl rfl (L1 := [(bl, cl (ivn ls) 3)] :: L) (fun w h => (iC : Inc ([(D, .deferred (some []))] :: [(bl, cl (ivn ls) 3)] :: L) _).holds h) ⟨rfl, ls, hls, rfl⟩).out a' w hst hd hw3
end Go.Proofs.Ytbdpjbmfhnbheaa
namespace Go.Hf
set_option linter.all false
def nxl (l : List Nat) (i : Nat) : List Nat := (List.range 16).map fun n => if n = 0 then 0 else fs l n + cn (l.take i) n
theorem nxl_length (l : List Nat) (i : Nat) : (nxl l i).length = 16 := by simp [nxl]
theorem nxl_get (l : List Nat) (i : Nat) {n : Nat} (h : n < 16) : (nxl l i)[n]? = some (if n = 0 then 0 else fs l n + cn (l.take i) n) := by simp [nxl, h]
theorem nxl_zero (l : List Nat) : nxl l 0 = fsl l 16 := by
  refine list_ext16 (nxl_length _ _) (fsl_length _ _) fun n hn => ?_
  rw [nxl_get _ _ hn, fsl_get _ _ hn, if_pos hn]
  by_cases h : n = 0
  · subst h; rfl
  · rw [if_neg h]; simp [cn]
theorem nxl_set {l : List Nat} {i : Nat} (hi : i < l.length) (h0 : 0 < l.getD i 0) (h15 : l.getD i 0 ≤ 15) : (nxl l i).set (l.getD i 0) (fs l (l.getD i 0) + cn (l.take i) (l.getD i 0) + 1) = nxl l (i + 1) := by
  refine list_ext16 (by simp [nxl]) (nxl_length _ _) fun n hn => ?_
  rw [nxl_get _ _ hn, cn_take_succ hi]
  by_cases he : l.getD i 0 = n
  · subst he
    rw [List.getElem?_set_self (by rw [nxl_length]; exact hn), if_neg (by omega), if_pos rfl, Nat.add_assoc]
  · rw [List.getElem?_set_ne he, nxl_get _ _ hn, if_neg he, Nat.add_zero]
theorem nxl_skip {l : List Nat} {i : Nat} (hi : i < l.length) (h0 : l.getD i 0 = 0) : nxl l i = nxl l (i + 1) := by
  refine list_ext16 (nxl_length _ _) (nxl_length _ _) fun n hn => ?_
  rw [nxl_get _ _ hn, nxl_get _ _ hn, cn_take_succ hi]
  by_cases he : n = 0
  · rw [if_pos he, if_pos he]
  · rw [if_neg he, if_neg he, if_neg (by omega), Nat.add_zero]
def cdp (l : List Nat) (i : Nat) : List Nat := (List.range l.length).map fun j => if j < i then cd l j else 0
theorem cdp_length (l : List Nat) (i : Nat) : (cdp l i).length = l.length := by simp [cdp]
theorem cdp_get {l : List Nat} {i j : Nat} (hj : j < l.length) : (cdp l i)[j]? = some (if j < i then cd l j else 0) := by simp [cdp, hj]
theorem cdp_ext {l A : List Nat} {i : Nat} (hl : A.length = l.length) (h : ∀ j, j < l.length → A[j]? = some (if j < i then cd l j else 0)) : A = cdp l i := by
  apply List.ext_getElem?
  intro j
  rcases Nat.lt_or_ge j l.length with hj | hj
  · rw [h j hj, cdp_get hj]
  · rw [List.getElem?_eq_none (by omega), List.getElem?_eq_none (by rw [cdp_length]; exact hj)]
theorem cdp_zero (l : List Nat) : cdp l 0 = List.replicate l.length 0 := by
  refine (cdp_ext (by simp) fun j hj => ?_).symm
  rw [List.getElem?_replicate, if_pos hj, if_neg (by omega)]
theorem cdp_set {l : List Nat} {i : Nat} (hi : i < l.length) : (cdp l i).set i (cd l i) = cdp l (i + 1) := by
  refine cdp_ext (by simp [cdp]) fun j hj => ?_
  by_cases he : i = j
  · subst he
    rw [List.getElem?_set_self (by rw [cdp_length]; exact hj), if_pos (by omega)]
  · rw [List.getElem?_set_ne he, cdp_get hj]
    congr 1
    have e : (j < i) = (j < i + 1) := by apply propext; omega
    simp only [e]
theorem cdp_skip {l : List Nat} {i : Nat} (h0 : l.getD i 0 = 0) : cdp l i = cdp l (i + 1) := by
  refine cdp_ext (cdp_length _ _) fun j hj => ?_
  rw [cdp_get hj]
  by_cases he : j = i
  · subst he
    rw [if_neg (by omega), if_pos (by omega)]
    unfold cd
    rw [if_pos h0]
  · congr 1
    have e : (j < i) = (j < i + 1) := by apply propext; omega
    simp only [e]
theorem cdp_end (l : List Nat) : cdp l l.length = cds l := by
  refine (cdp_ext (by simp [cds]) fun j hj => ?_).symm
  rw [if_pos hj]
  simp [cds, hj]
end Go.Hf
namespace Go.Proofs.Ytbdpjbmfhnbheaa
open Go Go.Vx Go.Hf
variable [W0]
set_option maxRecDepth 4000
set_option linter.all false
set_option maxHeartbeats 4000000 in
theorem hcodes_n (a : Option Addr) (c : Nat) (ls : List Int) (L : List Chunk) (h : Sl L 1 (.slice a ls.length c) ls.length (intsN ls)) (hl : ls.length ≤ 17592186044416) :
    Gv Try.prog 11 [.slice a ls.length c].toArray L (fun r L' => ∃ u C, r = .tuple #[u, .int .i64 (cdE ls : Int)] ∧ L' = C :: L ∧ Ow 38 1 u (cdL ls).length (wnv (cdL ls)) C) := by
  refine Gv.of_body Try.func11 rfl rfl ?_
  have hno : cdE ls ≠ 0 → ∀ (M : List (Nat × Value)) (D : Chunk), lk M 2 = some (.slice none 0 0) → lk M 3 = some (.int .i64 (cdE ls : Int)) →
      WQ Try.f11.ntmps (bodyPost Try.prog Try.f11 (fun e w' => ∃ v L', e = .returned v ∧ (∃ u C, v = .tuple #[u, .int .i64 (cdE ls : Int)] ∧ L' = C :: L ∧ Ow 38 1 u (cdL ls).length (wnv (cdL ls)) C) ∧ Holds w' L') .ret) M (D :: L) := by
    intro he M D h2 h3
    refine WQ_retH (rs := [.tmp 2, .tmp 3]) (vs := [.slice none 0 0, .int .i64 (cdE ls : Int)]) rfl (by simp [resT, h2, h3]) ?_
    have e : cdL ls = [] := if_neg he
    rw [e]
    exact ⟨[] :: L, fun w hw => Holds.nil.2 hw.drop, _, [], rfl, rfl, .inl ⟨rfl, rfl, rfl, rfl⟩⟩
  have ht := fun L' h' => checked_n a c ls L' h' hl
  have hf := fun L' (h0 : cdE ls = 0) => firsts_n (nl ls) L' (cdE_inv h0).2.2 (by rw [nl_length]; exact (cdE_inv h0).1)
  have hte : cdE ls = 0 → ivn (tal (nl ls)) = ivn (talC ls) := fun h0 => by unfold talC; rw [if_pos h0]
  have htl : (ivn (talC ls)).length = 16 := by rw [ivn_length, talC_length]
  have hto : ones (ivn (talC ls)) = true := ivn_ones
  generalize ivn (tal (nl ls)) = sv at hf hte
  generalize ivn (talC ls) = tv at ht hte htl hto
  (repeat' first|refine kX ?_|refine kU fun bk=>?_|refine kV fun hc=>?_|refine kZ (fun hc=>?_) fun hc=>?_|fail)
  refine OW_callP rfl rfl rfl (ht _ h) rfl ?_
  (repeat' first|refine kX ?_|refine kU fun bk=>?_|refine kV fun hc=>?_|refine kZ (fun hc=>?_) fun hc=>?_|fail)
  obtain ⟨b4, hb4⟩ : ∃ b4, b4 = bk := ⟨_, rfl⟩
  rw [← hb4]
  refine OW_holds (L' := [(b4, cl (ivn zI) 68)] :: L) (fun w h => h) ?_
  clear hb4
  refine OW_storeAggTo (l := ivn zI) (vs := tv) tv rfl rfl htl hto ?_ iU (by rw [htl]; decide) ?_
  · have e : (ivn zI).length = 16 := by decide
    simp [patch, htl, e]
  (repeat' first|refine kX ?_|refine kU fun bk=>?_|refine kV fun hc=>?_|refine kZ (fun hc=>?_) fun hc=>?_|fail)
  · exact hno (by omega) _ _ rfl rfl
  have h0 : cdE ls = 0 := by omega
  obtain ⟨h400, hok, hk⟩ := cdE_inv h0
  have hf := hf ([(b4, cl tv 68)] :: L) h0
  rw [hte h0] at hf
  have e2 : cdL ls = cds (nl ls) := if_pos h0
  obtain ⟨l, hll⟩ : ∃ l, l = nl ls := ⟨_, rfl⟩
  have hlen : l.length = ls.length := by rw [hll, nl_length]
  rw [← hll] at hk hf e2
  have h15 : ∀ x ∈ l, x ≤ 15 := fun x hx => okL_nl hok (by rw [← hll]; exact hx)
  have hfit : ∀ n, 1 ≤ n → n ≤ 15 → fs l n + cn l n ≤ 32768 := fun n h1 h2 => Nat.le_trans (fs_fit hk h1 h2) (Nat.le_trans (Nat.pow_le_pow_right (by decide) h2) (by decide))
  obtain ⟨F, hF⟩ : ∃ F : Nat → List Value, ∀ i, F i = wnv (nxl l i) := ⟨_, fun _ => rfl⟩
  have hFl : ∀ i, (F i).length = 16 := fun i => by rw [hF, wnv_length, nxl_length]
  have hFo : ones (F 0) = true := by rw [hF]; exact wnv_ones
  rw [← nxl_zero, ← hF] at hf
  refine OW_W ?_ (he := EV_loadAll (vs := tv) rfl Fnd.here htl)
  (repeat' first|refine kX ?_|refine kU fun bk=>?_|refine kV fun hc=>?_|refine kZ (fun hc=>?_) fun hc=>?_|fail)
  refine OW_callP rfl rfl rfl hf rfl ?_
  (repeat' first|refine kX ?_|refine kU fun bk=>?_|refine kV fun hc=>?_|refine kZ (fun hc=>?_) fun hc=>?_|fail)
  obtain ⟨b6, hb6⟩ : ∃ b6, b6 = bk := ⟨_, rfl⟩
  rw [← hb6]
  refine OW_holds (L' := [(b6, cl (wnv zI) 71)] :: [(b4, cl tv 68)] :: L) (fun w h => h) ?_
  clear hb6
  refine OW_storeAggTo (l := wnv zI) (vs := F 0) (F 0) rfl rfl (hFl 0) hFo ?_ iU (by rw [hFl]; decide) ?_
  · have e : (wnv zI).length = 16 := by decide
    simp [patch, hFl, e]
  (repeat' first|refine kX ?_|refine kU fun bk=>?_|refine kV fun hc=>?_|refine kZ (fun hc=>?_) fun hc=>?_|fail)
  refine OW_makeSlice (m := ls.length) (c := ls.length) rfl rfl (by rfl) (by omega) (by omega) (by omega) rfl (fun bn => ?_)
  rw [show zeros (Value.int .u32 0).cells.toList ls.length = wnv (cdp l 0) from by rw [cdp_zero, hlen]; exact zeros_wnv _]
  (repeat' first|refine kX ?_|refine kU fun bk=>?_|refine kV fun hc=>?_|refine kZ (fun hc=>?_) fun hc=>?_|fail)
  have hls : (nl ls).length = ls.length := nl_length ls
  refine WC_loop (X := Nat) (fun i => [(6, .pointer (some ⟨b6, 0, none⟩)), (7, .slice (some ⟨bn, 0, none⟩) ls.length ls.length), (23, .slice a ls.length c), (24, .int .i64 (ls.length : Int)), (25, .int .i64 (i : Int))])
    (fun i => [(bn, cl (wnv (cdp l i)) 38)] :: [(b6, cl (F i) 71)] :: [(b4, cl tv 68)] :: L) (fun i => i ≤ ls.length) (fun i => ls.length - i) 0 (Nat.zero_le _) iS (fun w h => h) ?_
  intro i hi
  (repeat' first|refine kX ?_|refine kU fun bk=>?_|refine kV fun hc=>?_|refine kZ (fun hc=>?_) fun hc=>?_|fail)
  · have hlt : i < ls.length := by omega
    obtain ⟨b, off, cap, cc, T, fr, hve, hfn, hcell⟩ := sl_at h (ints_get hlt)
    injection hve with q1 q2 q3
    subst q1 q3
    clear q2
    have hat := okL_at hok i
    rw [← hll] at hat
    rw [← hat.2.2] at hcell
    obtain ⟨x, hx⟩ : ∃ x, x = l.getD i 0 := ⟨_, rfl⟩
    have hx15 : x ≤ 15 := by omega
    have hset := nxl_set (l := l) (i := i) (by omega)
    have hskip := nxl_skip (l := l) (i := i) (by omega)
    have hskip2 := cdp_skip (l := l) (i := i)
    have hcd : 0 < x → cd l i = fs l x + cn (l.take i) x := fun h => by unfold cd; rw [← hx, if_neg (by omega)]
    rw [← hx] at hcell hset hskip hskip2
    refine OW_W ?_ (he := EV_indexAddr (j := i) rfl rfl rfl hlt)
    (repeat' first|refine kX ?_|refine kU fun bk=>?_|refine kV fun hc=>?_|refine kZ (fun hc=>?_) fun hc=>?_|fail)
    refine OW_W ?_ (he := EV_load rfl hfn.there.there.there hcell)
    (repeat' first|refine kX ?_|refine kU fun bk=>?_|refine kV fun hc=>?_|refine kZ (fun hc=>?_) fun hc=>?_|fail)
    · have hx0 : 0 < x := by omega
      have hsm := hfit x (by omega) hx15
      have hct := cn_take_le l i x
      have hct2 : cn (l.take i) x + 1 ≤ cn l x := by
        have h1 := cn_take_succ (l := l) (j := i) (by omega) x
        rw [if_pos hx.symm] at h1
        have h2 := cn_take_le l (i + 1) x
        omega
      have hcd := hcd hx0
      have hld : nth (F i) (0 + x * 1) = some (.int .u32 ((cd l i : Nat) : Int)) := by
        rw [hF, nth_eq, Nat.zero_add, Nat.mul_one]
        have := nxl_get l i (show x < 16 by omega)
        rw [if_neg (by omega), ← hcd] at this
        exact wnv_get this
      refine OW_W ?_ (he := EV_loadc rfl (by repeat (first | assumption | exact Fnd.here | refine Fnd.there ?_)) hld)
      (repeat' first|refine kX ?_|refine kU fun bk=>?_|refine kV fun hc=>?_|refine kZ (fun hc=>?_) fun hc=>?_|fail)
      refine OW_storeTo (l := wnv (cdp l i)) (wnv (cdp l (i + 1))) rfl rfl rfl (by rw [Nat.mul_one, ← cdp_set (by omega)]; simp [wnv, List.map_set]) iU (by rw [wnv_length, cdp_length]; omega) ?_
      (repeat' first|refine kX ?_|refine kU fun bk=>?_|refine kV fun hc=>?_|refine kZ (fun hc=>?_) fun hc=>?_|fail)
      refine OW_W ?_ (he := EV_loadc rfl (by repeat (first | assumption | exact Fnd.here | refine Fnd.there ?_)) hld)
      (repeat' first|refine kX ?_|refine kU fun bk=>?_|refine kV fun hc=>?_|refine kZ (fun hc=>?_) fun hc=>?_|fail)
      refine OW_storeTo (F (i + 1)) rfl rfl rfl ?_ iU (by rw [hFl]; omega) ?_
      · rw [Nat.zero_add, Nat.mul_one, hF, hF, ← hset hx0 hx15, ← hcd]
        simp only [wnv, List.map_set]
        refine congrArg _ (congrArg _ ?_)
        show (((BitVec.ofNat 32 (cd l i) + 1#32).toNat : Nat) : Int) = _
        rw [BitVec.toNat_add, BitVec.toNat_ofNat]
        show ((((cd l i) % 4294967296 + 1) % 4294967296 : Nat) : Int) = _
        omega
      (repeat' first|refine kX ?_|refine kU fun bk=>?_|refine kV fun hc=>?_|refine kZ (fun hc=>?_) fun hc=>?_|fail)
      refine WQ_round (X := Nat) (μ := fun i => ls.length - i) (x := i) (i + 1) (by omega) (by omega) iS (fun w h => h)
    · have hx0 : x = 0 := by omega
      refine WQ_round (X := Nat) (μ := fun i => ls.length - i) (x := i) (i + 1) (by omega) (by omega) iS (fun w h => ?_)
      rw [hF, ← hskip hx0, ← hskip2 hx0, ← hF]
      exact h
  · have hie : i = l.length := by omega
    rw [hie, cdp_end]
    refine kR ?_
    have hcl : (cds l).length = ls.length := by simp [cds, hlen]
    refine ⟨[(bn, cl (wnv (cds l)) 38)] :: L, iC, _, _, by rw [h0]; rfl, rfl, ?_⟩
    rw [e2, hcl]
    exact .inr ⟨bn, ls.length, [], rfl, by rw [List.append_nil], by rw [wnv_length, hcl, Nat.mul_one], by simp, Nat.le_refl _, by simp [maxLen]; omega⟩
end Go.Proofs.Ytbdpjbmfhnbheaa
namespace Go.Proofs.Ytbdpjbmfhnbheaa
open Go Go.Vx Go.So Go.Hf
variable [W0]
set_option maxRecDepth 4000
set_option linter.all false
omit [W0] in
/-- How many come. -/
def nC (ls : List Int) : Nat := (pos (nl ls) ls.length).length
omit [W0] in
def errL (ls : List Int) (most : Int) : Prop := most < 1 ∨ 15 < most ∨ 400 < ls.length ∨ ls.all okc = false ∨ 2 ^ most.toNat < nC ls
omit [W0] in
/-- What Lengths answers, of counts that it takes. -/
structure LenOf (cs : List Nat) (M : Nat) (lens : List Nat) : Prop where
  len : lens.length = cs.length
  m1 : 1 ≤ M
  m15 : M ≤ 15
  n400 : cs.length ≤ 400
  off : ∀ i, cs.getD i 0 = 0 → lens.getD i 0 = 0
  ex : ∃ N g, N = (pos cs cs.length).length ∧ Cn cs cs.length N g ∧ N ≤ 2 ^ M ∧ (N = 1 → ∀ r, r < N → lens.getD (g r).1 0 = 1) ∧
    (2 ≤ N → ∃ lv, Pm.Lv (coinsOf (fun i => cs.getD i 0) g N) lv ∧ ∀ r, r < N → lens.getD (g r).1 0 = Pm.ln (Pm.sel lv M (2 * N - 2)) r)
theorem zeros_ivn : ∀ n, zeros [.int .i64 0] n = ivn (List.replicate n 0)
  | 0 => rfl
  | n + 1 => by simp only [zeros, List.replicate_succ]; rw [zeros_ivn n]; rfl
theorem rep_getD (n i : Nat) : (List.replicate n 0).getD i 0 = 0 := by
  simp only [List.getD, List.getElem?_replicate]
  split <;> rfl
set_option maxHeartbeats 16000000 in
theorem lengths_n (a : Option Addr) (c : Nat) (ls : List Int) (most : Int) (L : List Chunk) (h : Sl L 1 (.slice a ls.length c) ls.length (intsN ls)) (hl : ls.length ≤ 17592186044416) :
    Gv Try.prog 9 [.slice a ls.length c, .int .i64 most].toArray L (fun r L' => (errL ls most ∧ r = .tuple #[.slice none 0 0, .int .i64 1] ∧ L' = L) ∨
      (¬ errL ls most ∧ ∃ lens v C, r = .tuple #[v, .int .i64 0] ∧ L' = C :: L ∧ Ow 3 1 v ls.length (ivn lens) C ∧ LenOf (nl ls) most.toNat lens)) := by
  refine Gv.of_body Try.func9 rfl rfl ?_
  obtain ⟨Q, hQ⟩ : ∃ Q : Value → List Chunk → Prop, ∀ r L', Q r L' ↔ ((errL ls most ∧ r = .tuple #[.slice none 0 0, .int .i64 1] ∧ L' = L) ∨
      (¬ errL ls most ∧ ∃ lens v C, r = .tuple #[v, .int .i64 0] ∧ L' = C :: L ∧ Ow 3 1 v ls.length (ivn lens) C ∧ LenOf (nl ls) most.toNat lens)) := ⟨fun r L' => _, fun _ _ => Iff.rfl⟩
  simp only [← hQ]
  have hno : errL ls most → ∀ (M : List (Nat × Value)) (L1 : List Chunk), lk M 4 = some (.slice none 0 0) → lk M 5 = some (.int .i64 1) → (∀ w, Holds w L1 → Holds w L) →
      WQ Try.f9.ntmps (bodyPost Try.prog Try.f9 (fun e w' => ∃ v L', e = .returned v ∧ Q v L' ∧ Holds w' L') .ret) M L1 := by
    intro he M L1 h2 h3 h4
    refine WQ_retH (rs := [.tmp 4, .tmp 5]) (vs := [.slice none 0 0, .int .i64 1]) rfl (by simp [resT, h2, h3]) ?_
    exact ⟨L, h4, (hQ _ _).2 (.inl ⟨he, rfl, rfl⟩)⟩
  (repeat' first|refine kW ?_|refine kU fun bk=>?_|refine kV fun hc=>?_|refine kZ (fun hc=>?_) fun hc=>?_|fail)
  · exact hno (.inl hc) _ _ rfl rfl (fun w h => h)
  · exact hno (.inr (.inl hc)) _ _ rfl rfl (fun w h => h)
  · exact hno (.inr (.inr (.inl (by omega)))) _ _ rfl rfl (fun w h => h)
  refine OW_callP rfl rfl rfl (countable_n a c ls L h hl) rfl ?_
  (repeat' first|refine kW ?_|refine kU fun bk=>?_|refine kV fun hc=>?_|refine kZ (fun hc=>?_) fun hc=>?_|fail)
  · exact hno (.inr (.inr (.inr (.inl (by simpa using hc))))) _ _ rfl rfl (fun w h => h)
  rename_i hm1 hm2 hm3
  have hok : ls.all okc = true := by simpa using hc
  obtain ⟨M, rfl⟩ : ∃ M : Nat, most = (M : Int) := ⟨most.toNat, by omega⟩
  refine OW_call rfl rfl rfl (coins_n a c ls L h (by omega) hok) rfl (fun r L' hp => ?_)
  obtain ⟨g, C, hcn, rfl, ho⟩ := hp
  obtain ⟨N, hN⟩ : ∃ N, N = (pos (nl ls) ls.length).length := ⟨_, rfl⟩
  rw [← hN] at hcn ho
  obtain ⟨va, vc, rfl⟩ := ow_slc ho
  have hp15 : 2 ^ M ≤ 2 ^ 15 := Nat.pow_le_pow_right (by decide) (by omega)
  (repeat' first|refine kW ?_|refine kU fun bk=>?_|refine kV fun hc=>?_|refine kZ (fun hc=>?_) fun hc=>?_|fail)
  refine OW_EV (EV_shl64 1 M rfl rfl rfl rfl (by omega) (by omega)) rfl ?_
  (repeat' first|refine kW ?_|refine kU fun bk=>?_|refine kV fun hc=>?_|refine kZ (fun hc=>?_) fun hc=>?_|fail)
  · refine hno (.inr (.inr (.inr (.inr ?_)))) _ _ rfl rfl (fun w h => h.drop)
    unfold nC
    rw [← hN, Int.toNat_natCast]
    omega
  have hNM : N ≤ 2 ^ M := by omega
  refine OW_makeSlice (m := ls.length) (c := ls.length) rfl rfl (by rfl) (by omega) (by omega) (by omega) rfl (fun bn => ?_)
  rw [show zeros (Value.int .i64 0).cells.toList ls.length = ivn (List.replicate ls.length 0) from zeros_ivn _]
  have hne : ¬ errL ls (M : Int) := by
    rintro (h1 | h1 | h1 | h1 | h1)
    · omega
    · omega
    · omega
    · rw [hok] at h1; cases h1
    · unfold nC at h1
      rw [← hN, Int.toNat_natCast] at h1
      omega
  have hfin : ∀ lens, lens.length = ls.length → LenOf (nl ls) M lens → ∀ (L1 : List Chunk), (∀ w, Holds w L1 → Holds w ([(bn, cl (ivn lens) 3)] :: L)) → ∃ L', (∀ w, Holds w L1 → Holds w L') ∧ Q (.tuple #[.slice (some ⟨bn, 0, none⟩) ls.length ls.length, .int .i64 0]) L' := by
    intro lens hll hlo L1 h1
    refine ⟨_, h1, (hQ _ _).2 (.inr ⟨hne, lens, _, _, rfl, rfl, .inr ⟨bn, ls.length, [], rfl, by rw [List.append_nil], by rw [ivn_length, hll, Nat.mul_one], by simp, Nat.le_refl _, by simp [maxLen]; omega⟩, by rw [Int.toNat_natCast]; exact hlo⟩)⟩
  (repeat' first|refine kW ?_|refine kU fun bk=>?_|refine kV fun hc=>?_|refine kZ (fun hc=>?_) fun hc=>?_|fail)
  · have hN1 : N = 1 := by omega
    rcases ho with ⟨_, h1, _⟩ | ⟨b, cap, rest, hv, rfl, hxl, hrl, hmc, hcm⟩
    · omega
    injection hv with e1 e2 e3
    subst e1 e3
    clear e2
    have hsy := hcn.sy 0 (by omega)
    have hld : nth (cvs g N ++ rest) (0 * 2 + 0) = some (.int .i64 ((g 0).1 : Int)) := by
      rw [hN1]; rfl
    refine OW_EV (EV_indexAddr0 (j := 0) (len := N) rfl rfl rfl (by omega)) rfl ?_
    (repeat' first|refine kW ?_|refine kU fun bk=>?_|refine kV fun hc=>?_|refine kZ (fun hc=>?_) fun hc=>?_|fail)
    refine OW_EV (EV_loadc rfl (Fnd.there Fnd.here) hld) rfl ?_
    (repeat' first|refine kW ?_|refine kU fun bk=>?_|refine kV fun hc=>?_|refine kZ (fun hc=>?_) fun hc=>?_|fail)
    refine OW_EV (EV_indexAddr0 (j := (g 0).1) (len := ls.length) rfl rfl rfl hsy.1) rfl ?_
    (repeat' first|refine kW ?_|refine kU fun bk=>?_|refine kV fun hc=>?_|refine kZ (fun hc=>?_) fun hc=>?_|fail)
    refine OW_storeTo (l := ivn (List.replicate ls.length 0)) (ivn ((List.replicate ls.length 0).set (g 0).1 1)) rfl rfl rfl (by rw [Nat.mul_one]; simp [ivn, List.map_set]) iU (by rw [ivn_length, List.length_replicate, Nat.mul_one]; exact hsy.1) ?_
    (repeat' first|refine kW ?_|refine kU fun bk=>?_|refine kV fun hc=>?_|refine kZ (fun hc=>?_) fun hc=>?_|fail)
    refine WQ_retH (rs := [.tmp 4, .tmp 5]) (vs := [.slice (some ⟨bn, 0, none⟩) ls.length ls.length, .int .i64 0]) rfl rfl ?_
    refine hfin ((List.replicate ls.length 0).set (g 0).1 1) (by simp) ⟨by simp [nl_length], by omega, by omega, by rw [nl_length]; omega, fun i hi => ?_, N, g, by rw [nl_length]; exact hN, by rw [nl_length]; exact hcn, hNM, fun _ r hr => ?_, fun h2 => by omega⟩ _ (fun w h => iH h)
    · have hne2 : (g 0).1 ≠ i := fun e => by rw [e] at hsy; omega
      simp only [List.getD, List.getElem?_set_ne hne2]
      exact rep_getD _ _
    · have e0 : r = 0 := by omega
      subst e0
      simp [List.getD, hsy.1]
  · have hN1 : 2 ≤ N := by omega
    rcases ho with ⟨_, h1, _⟩ | ⟨b, cap, rest, hv, rfl, hxl, hrl, hmc, hcm⟩
    · omega
    injection hv with e1 e2 e3
    subst e1 e3
    clear e2
    have hle := hcn.le
    have hgb : ∀ r, r < N → (g r).2 ≤ 1073741824 := by
      intro r hr
      obtain ⟨h1, h2, h3⟩ := hcn.sy r hr
      have hox : okc (ls.getD (g r).1 0) = true := List.all_eq_true.1 hok _ (by simp [List.getD, h1])
      have h4 := (okc_iff _).1 hox
      rw [h3, nl_get h1]
      omega
    refine OW_holds (L' := [(b, cl (cvs g N ++ rest) 63)] :: [(bn, cl (ivn (List.replicate ls.length 0)) 3)] :: L) (fun w h => iH h) ?_
    refine OW_call rfl rfl rfl (levels_c (fun i => (nl ls).getD i 0) g N b vc M rest _ (by omega) (by omega) hcn.up (fun r hr => (hcn.sy r hr).2.2) hgb) rfl (fun r L' hp => ?_)
    obtain ⟨lv, vs, Cs, Cl, rfl, hlv, hR, hO⟩ := hp
    rcases hO with ⟨_, h1, _⟩ | ⟨bv, cw, restv, rfl, rfl, hxl2, hrl2, hmc2, hcm2⟩
    · omega
    (repeat' first|refine kW ?_|refine kU fun bk=>?_|refine kV fun hc=>?_|refine kZ (fun hc=>?_) fun hc=>?_|fail)
    refine OW_holds (L' := [(bn, cl (ivn (List.replicate ls.length 0)) 3)] :: [(b, cl (cvs g N ++ rest) 63)] :: [(bv, cl (vs ++ restv) 101)] :: Cs.flatten :: L) (fun w h => iH h) ?_
    refine OW_call rfl rfl rfl (lengthen_c (fun i => (nl ls).getD i 0) g N ls.length b vc bn bv cw M rest restv lv vs Cs L hN1 (by omega) (by omega) hmc (by omega) (by omega) hNM hlv hR hcn.inj (fun r hr => (hcn.sy r hr).1)) rfl (fun r L' hp => ?_)
    obtain ⟨rfl, lst, hI, rfl⟩ := hp
    (repeat' first|refine kW ?_|refine kU fun bk=>?_|refine kV fun hc=>?_|refine kZ (fun hc=>?_) fun hc=>?_|fail)
    refine WQ_retH (rs := [.tmp 4, .tmp 5]) (vs := [.slice (some ⟨bn, 0, none⟩) ls.length ls.length, .int .i64 0]) rfl rfl ?_
    refine hfin lst hI.len ⟨by rw [hI.len, nl_length], by omega, by omega, by rw [nl_length]; omega, fun i hi => ?_, N, g, by rw [nl_length]; exact hN, by rw [nl_length]; exact hcn, hNM, fun h1 => by omega, fun _ => ⟨lv, hlv, fun r hr => ?_⟩⟩ _ (fun w h => h)
    · refine hI.off i fun r hr he => ?_
      have h1 := (hcn.sy r hr).2.1
      rw [he] at h1
      omega
    · have h1 := hI.on r hr
      rw [if_neg (by omega), Nat.add_zero] at h1
      exact h1
  · have hN0 : N = 0 := by omega
    refine WQ_retH (rs := [.tmp 4, .tmp 5]) (vs := [.slice (some ⟨bn, 0, none⟩) ls.length ls.length, .int .i64 0]) rfl rfl ?_
    refine hfin (List.replicate ls.length 0) (by simp) ⟨by simp [nl_length], by omega, by omega, by rw [nl_length]; omega, fun i hi => rep_getD _ _, N, g, by rw [nl_length]; exact hN, by rw [nl_length]; exact hcn, hNM, fun _ r hr => by omega, fun h2 => by omega⟩ _ (fun w h => iH h)
end Go.Proofs.Ytbdpjbmfhnbheaa
namespace Go.Hf
set_option linter.all false
def hit (l : List Nat) (n v i : Nat) : Bool := l.getD i 0 == n && decide (0 < n) && cd l i == v
def far (l : List Nat) (n v i : Nat) : Bool := decide (n < l.getD i 0) && cd l i / 2 ^ (l.getD i 0 - n) == v
def hv (w t : Nat) : Nat → Nat
  | 0 => 0
  | n + 1 => 2 * hv w t n + w / 2 ^ (t + n) % 2
theorem getD_lt {l : List Nat} {i : Nat} (h : 0 < l.getD i 0) : i < l.length := by
  rcases Nat.lt_or_ge i l.length with h' | h'
  · exact h'
  · simp [List.getD, List.getElem?_eq_none h'] at h
end Go.Hf
namespace Go.Hf
open Go.Vx Go.Pm
set_option linter.all false
theorem getD_some {l : List Nat} {i n : Nat} (h : l.getD i 0 = n) (h0 : 0 < n) : l[i]? = some n := by
  have hi := getD_lt (l := l) (i := i) (by omega)
  rw [← h]
  simp [List.getD, hi]
theorem kS_range (l : List Nat) : kS l = (((List.range l.length).filter fun i => decide (0 < l.getD i 0)).map fun i => 2 ^ (15 - l.getD i 0)).sum := by
  have key : ∀ n, n ≤ l.length → kS (l.take n) = (((List.range n).filter fun i => decide (0 < l.getD i 0)).map fun i => 2 ^ (15 - l.getD i 0)).sum := by
    intro n
    induction n with
    | zero => intro _; rfl
    | succ n ih =>
      intro hn
      have hlt : n < l.length := by omega
      have hg : l.getD n 0 = l[n] := by simp [List.getD, hlt]
      rw [List.take_add_one, List.getElem?_eq_getElem hlt, kS_app, ih (by omega), List.range_succ, List.filter_append, List.map_append, List.sum_append]
      congr 1
      simp only [Option.toList, kS, ← hg]
      generalize hq : (fun i => decide (0 < l.getD i 0)) = q
      have hqn : q n = decide (0 < l.getD n 0) := by rw [← hq]
      by_cases h : 0 < l.getD n 0
      · rw [if_pos h, List.filter_cons, hqn, if_pos (by simpa using h)]
        rfl
      · rw [if_neg h, List.filter_cons, hqn, if_neg (by simpa using h)]
        rfl
  have := key l.length (Nat.le_refl _)
  rwa [List.take_length] at this
theorem kS_perm {l is : List Nat} (h : is.Perm ((List.range l.length).filter fun i => decide (0 < l.getD i 0))) : kS l = (is.map fun i => 2 ^ (15 - l.getD i 0)).sum := by
  rw [kS_range]
  exact ((h.map _).sum_nat).symm
theorem sumTo_map (f : Nat → Nat) (is : List Nat) : sumTo (fun r => f (is.getD r 0)) is.length = (is.map f).sum := by
  have key : ∀ n, n ≤ is.length → sumTo (fun r => f (is.getD r 0)) n = ((is.take n).map f).sum := by
    intro n
    induction n with
    | zero => intro _; rfl
    | succ n ih =>
      intro hn
      have hlt : n < is.length := by omega
      rw [sumTo, ih (by omega), List.take_add_one, List.getElem?_eq_getElem hlt, List.map_append, List.sum_append]
      simp [List.getD, hlt]
  have := key is.length (Nat.le_refl _)
  rwa [List.take_length] at this
theorem sumTo_mul (c : Nat) (f : Nat → Nat) : ∀ n, sumTo (fun r => c * f r) n = c * sumTo f n
  | 0 => rfl
  | n + 1 => by simp only [sumTo, sumTo_mul c f n, Nat.mul_add]
theorem kS_whole {l is : List Nat} {L : Nat} {g : Nat → Nat} (h : is.Perm ((List.range l.length).filter fun i => decide (0 < l.getD i 0))) (hL : L ≤ 15) (hg : ∀ r, r < is.length → l.getD (is.getD r 0) 0 = g r) (hb : ∀ r, r < is.length → g r ≤ L)
    (hw : sumTo (fun r => 2 ^ (L - g r)) is.length = 2 ^ L) : kS l = 32768 := by
  rw [kS_perm h, ← sumTo_map]
  have e : sumTo (fun r => 2 ^ (15 - l.getD (is.getD r 0) 0)) is.length = 2 ^ (15 - L) * sumTo (fun r => 2 ^ (L - g r)) is.length := by
    rw [← sumTo_mul]
    refine sumTo_congr fun r hr => ?_
    rw [hg r hr, ← Nat.pow_add]
    have := hb r hr
    congr 1
    omega
  rw [e, hw, ← Nat.pow_add, show 15 - L + L = 15 from by omega]
end Go.Hf
namespace Go.Hf
open Go.Pm
set_option linter.all false
theorem sum_filter {p : Nat → Bool} {G : Nat → Nat} : ∀ {l : List Nat}, (∀ x ∈ l, p x = false → G x = 0) → (l.map G).sum = ((l.filter p).map G).sum
  | [], _ => rfl
  | x :: r, h => by
    have ih := sum_filter (l := r) fun y hy => h y (List.mem_cons_of_mem _ hy)
    rw [List.map_cons, List.sum_cons, ih, List.filter_cons]
    rcases hp : p x with _ | _
    · rw [if_neg (by simp), h x (List.mem_cons_self ..) hp, Nat.zero_add]
    · rw [if_pos rfl, List.map_cons, List.sum_cons]
theorem getD_map (is : List Nat) : (List.range is.length).map (fun i => is.getD i 0) = is := by
  apply List.ext_getElem?
  intro k
  rw [List.getElem?_map]
  rcases Nat.lt_or_ge k is.length with h | h
  · rw [List.getElem?_range h]
    simp [List.getD, h]
  · rw [List.getElem?_eq_none (by simpa using h), List.getElem?_eq_none h]
    rfl
theorem sumTo_range (G : Nat → Nat) (n : Nat) : sumTo G n = ((List.range n).map G).sum := by
  have h := sumTo_map G (List.range n)
  rw [List.length_range] at h
  rw [← h]
  refine sumTo_congr fun i hi => ?_
  congr 1
  simp [List.getD, List.getElem?_range hi]
section
variable {cs : List Nat} {n N : Nat} {g : Nat → Nat × Nat} (h : Cn cs n N g)
include h
theorem Cn.perm : ((List.range N).map fun r => (g r).1).Perm ((List.range n).filter fun i => decide (0 < cs.getD i 0)) := by
  have hn1 : ((List.range N).map fun r => (g r).1).Nodup := by
    unfold List.Nodup
    rw [List.pairwise_map]
    refine List.Pairwise.imp_of_mem (fun {a b} ha hb (hab : a ≠ b) he => hab ?_) List.nodup_range
    exact h.inj a b (List.mem_range.1 ha) (List.mem_range.1 hb) he
  refine (List.perm_ext_iff_of_nodup hn1 (List.nodup_range.filter _)).2 fun i => ?_
  rw [List.mem_map, List.mem_filter, List.mem_range]
  constructor
  · rintro ⟨r, hr, rfl⟩
    have h1 := h.sy r (List.mem_range.1 hr)
    exact ⟨h1.1, by simpa using h1.2.1⟩
  · rintro ⟨h1, h2⟩
    obtain ⟨r, hr, he⟩ := h.onto i h1 (by simpa using h2)
    exact ⟨r, List.mem_range.2 hr, he⟩
theorem Cn.sum {G : Nat → Nat} (hz : ∀ i, i < n → cs.getD i 0 = 0 → G i = 0) : sumTo G n = sumTo (fun r => G (g r).1) N := by
  rw [sumTo_range, sumTo_range, sum_filter (p := fun i => decide (0 < cs.getD i 0)) (fun i hi hp => hz i (List.mem_range.1 hi) (by have := of_decide_eq_false hp; omega)), ← (h.perm.map G).sum_nat, List.map_map]
  rfl
theorem Cn.ws (hl : cs.length = n) : ((List.range N).map fun r => cs.getD (g r).1 0).Perm (cs.filter fun x => decide (0 < x)) := by
  have h1 := h.perm.map fun i => cs.getD i 0
  rw [List.map_map] at h1
  refine h1.trans (List.Perm.of_eq ?_)
  subst hl
  conv => rhs; rw [← getD_map cs]
  rw [List.filter_map]
  rfl
end
end Go.Hf
namespace Go.Proofs.Ytbdpjbmfhnbheaa
open Go Go.Vx Go.So Go.Hf Go.Pm
variable [W0]
set_option maxRecDepth 4000
set_option linter.all false
theorem ow_int {e m : Nat} {v : Value} {xs : List Nat} {C : Chunk} (h : Ow e 1 v m (ivn xs) C) {k : Nat} (hk : k < m) :
    ∃ b cap rest, v = .slice (some ⟨b, 0, none⟩) m cap ∧ C = [(b, cl (ivn xs ++ rest) e)] ∧ (ivn xs ++ rest).toArray[k * 1]? = some (.int .i64 (xs.getD k 0 : Int)) := by
  rcases h with ⟨rfl, rfl, _⟩ | ⟨b, cap, rest, rfl, rfl, hxl, hrl, hmc, hcm⟩
  · omega
  · refine ⟨b, cap, rest, rfl, rfl, ?_⟩
    have hlt : k < xs.length := by rw [ivn_length] at hxl; omega
    rw [Nat.mul_one]
    simpa using getE_app (r := rest) (ivn_get (l := xs) (i := k) (n := xs.getD k 0) (by simp [List.getD, hlt]))
theorem LenOf.rank {cs lens : List Nat} {M : Nat} (h : LenOf cs M lens) {i k : Nat} (hi : i < cs.length) (hk : k < cs.length) (h0 : 0 < cs.getD k 0) (h1 : cs.getD k 0 < cs.getD i 0) : lens.getD i 0 ≤ lens.getD k 0 := by
  obtain ⟨N, g, hN, hcn, hNM, hone, htwo⟩ := h.ex
  obtain ⟨r, hr, rfl⟩ := hcn.onto i hi (by omega)
  obtain ⟨q, hq, rfl⟩ := hcn.onto k hk h0
  have hr3 := (hcn.sy r hr).2.2
  have hq3 := (hcn.sy q hq).2.2
  by_cases h2 : 2 ≤ N
  · obtain ⟨lv, _, hln⟩ := htwo h2
    rw [hln r hr, hln q hq]
    refine Pm.ln_anti _ ?_
    rcases Nat.lt_or_ge r q with hlt | hge
    · have : (g r).2 ≤ (g q).2 := hcn.up r q (Nat.zero_le _) (by omega) hq
      omega
    · exact hge
  · have e : r = q := by omega
    subst e
    omega
theorem coins_w {cs : List Nat} {n N : Nat} {g : Nat → Nat × Nat} (h : Cn cs n N g) : ∀ x ∈ coinsOf (fun i => cs.getD i 0) g N, 0 < x.w := by
  intro x hx
  obtain ⟨r, hr, rfl⟩ := List.mem_map.1 hx
  exact (h.sy r (List.mem_range.1 hr)).2.1
theorem LenOf.on {cs lens : List Nat} {M : Nat} (h : LenOf cs M lens) {i : Nat} (hi : i < cs.length) (h0 : 0 < cs.getD i 0) : 1 ≤ lens.getD i 0 ∧ lens.getD i 0 ≤ M := by
  obtain ⟨N, g, hN, hcn, hNM, hone, htwo⟩ := h.ex
  obtain ⟨r, hr, rfl⟩ := hcn.onto i hi h0
  have hm1 := h.m1
  by_cases h2 : 2 ≤ N
  · obtain ⟨lv, hlv, hln⟩ := htwo h2
    obtain ⟨k, rfl⟩ : ∃ k, M = k + 1 := ⟨M - 1, by omega⟩
    have hcl := coinsOf_length (fun i => cs.getD i 0) g N
    have h3 := taken hlv (coins_w hcn) k (by omega) (by omega) r (by omega)
    rw [hcl] at h3
    have h4 := ln_le (sel lv (k + 1) (2 * N - 2)) r
    rw [sel_length] at h4
    rw [hln r hr]
    exact ⟨h3, h4⟩
  · have := hone (by omega) r hr
    omega
theorem LenOf.pos {cs lens : List Nat} {M : Nat} (h : LenOf cs M lens) {i : Nat} (hi : i < cs.length) : 0 < lens.getD i 0 ↔ 0 < cs.getD i 0 := by
  rcases Nat.eq_zero_or_pos (cs.getD i 0) with h0 | h0
  · rw [h.off i h0, h0]
  · have := h.on hi h0
    omega
theorem LenOf.le {cs lens : List Nat} {M : Nat} (h : LenOf cs M lens) (i : Nat) : lens.getD i 0 ≤ M := by
  rcases Nat.lt_or_ge i cs.length with hi | hi
  · rcases Nat.eq_zero_or_pos (cs.getD i 0) with h0 | h0
    · rw [h.off i h0]; omega
    · exact (h.on hi h0).2
  · have : lens.getD i 0 = 0 := by simp [List.getD, List.getElem?_eq_none (show lens.length ≤ i by rw [h.len]; exact hi)]
    omega
theorem LenOf.nC {cs lens : List Nat} {M : Nat} (h : LenOf cs M lens) : (cs.filter fun x => decide (0 < x)).length = (Go.Hf.pos cs cs.length).length := by
  obtain ⟨N, g, hN, hcn, _⟩ := h.ex
  have := (hcn.ws rfl).length_eq
  rw [List.length_map, List.length_range] at this
  rw [← this, hN]
theorem LenOf.all {cs lens : List Nat} {M : Nat} (h : LenOf cs M lens) (h2 : 2 ≤ (Go.Hf.pos cs cs.length).length) : kS lens = 32768 := by
  have hle := h.le
  have hpos := fun i => h.pos (i := i)
  have hm1 := h.m1
  have hm15 := h.m15
  have hlen := h.len
  obtain ⟨N, g, hN, hcn, hNM, hone, htwo⟩ := h.ex
  rw [← hN] at h2
  obtain ⟨lv, hlv, hln⟩ := htwo h2
  have hcl := coinsOf_length (fun i => cs.getD i 0) g N
  have hgl : ((List.range N).map fun r => (g r).1).length = N := by simp
  obtain ⟨k, rfl⟩ : ∃ k, M = k + 1 := ⟨M - 1, by omega⟩
  have hw := whole hlv (coins_w hcn) k (by omega) (by omega)
  rw [hcl] at hw
  refine kS_whole (l := lens) (is := (List.range N).map fun r => (g r).1) (L := k + 1) (g := fun r => ln (sel lv (k + 1) (2 * N - 2)) r) ?_ hm15 (fun r hr => ?_) (fun r hr => ?_) ?_
  · refine hcn.perm.trans (List.Perm.of_eq ?_)
    rw [hlen]
    refine List.filter_congr fun i hi => ?_
    exact decide_eq_decide.2 (hpos i (List.mem_range.1 hi)).symm
  · rw [hgl] at hr
    have : ((List.range N).map fun r => (g r).1).getD r 0 = (g r).1 := by simp [List.getD, List.getElem?_range hr]
    rw [this]
    exact hln r hr
  · have h4 := ln_le (sel lv (k + 1) (2 * N - 2)) r
    rw [sel_length] at h4
    exact h4
  · rw [hgl]; exact hw
end Go.Proofs.Ytbdpjbmfhnbheaa
namespace Go.Proofs.Ytbdpjbmfhnbheaa
open Go Go.Vx Go.Hf
variable [W0]
set_option maxRecDepth 4000
set_option linter.all false
theorem aw1 : cdE [2, 1, 3, 3] = 0 := by decide
theorem aw2 : cdL [2, 1, 3, 3] = [2, 0, 6, 7] := by decide
theorem aw3 : cdE [1, 1, 1] = 3 := by decide
theorem aw4 : wgt [1, 1] = 32768 := by decide
theorem sm3 (a b c : Nat) : ∀ i, [a, b, c].getD i 0 ≤ a + b + c := by
  intro i
  match i with
  | 0 => simp; omega
  | 1 => simp; omega
  | 2 => simp
  | n + 3 => simp
set_option maxHeartbeats 4000000 in
theorem hawake_n (L : List Chunk) : GvP Try.prog 10 [].toArray L (.bool true) := by
  refine Gv.of_body Try.func10 rfl rfl ?_
  (repeat' first|refine kW ?_|refine kU fun bk=>?_|refine kV fun hc=>?_|refine kZ (fun hc=>?_) fun hc=>?_|fail)
  refine OW_buildSlice (cs := intsN [2, 1, 3, 3]) rfl (by rfl) (by simp [fillL, patch, Value.cells, zeros]; rfl) (by omega) rfl rfl (fun b1 => ?_)
  (repeat' first|refine kW ?_|refine kU fun bk=>?_|refine kV fun hc=>?_|refine kZ (fun hc=>?_) fun hc=>?_|fail)
  refine OW_call rfl rfl rfl (hcodes_n (some ⟨b1, 0, none⟩) 4 [2, 1, 3, 3] _ (sl_cells (c := (intsN [2, 1, 3, 3]).toArray) (xs := intsN [2, 1, 3, 3]) (m := 4) Fnd.here rfl (by simp)) (by decide)) rfl (fun r L' hp => ?_)
  obtain ⟨u1, C1, rfl, rfl, ho1⟩ := hp
  rw [aw2, show [2, 0, 6, 7].length = 4 from rfl] at ho1
  rw [show ((cdE [2, 1, 3, 3] : Nat) : Int) = 0 from by rw [aw1]; rfl]
  (repeat' first|refine kW ?_|refine kU fun bk=>?_|refine kV fun hc=>?_|refine kZ (fun hc=>?_) fun hc=>?_|fail)
  refine OW_buildSlice (cs := intsN [1, 1, 1]) rfl (by rfl) (by simp [fillL, patch, Value.cells, zeros]; rfl) (by omega) rfl rfl (fun b2 => ?_)
  (repeat' first|refine kW ?_|refine kU fun bk=>?_|refine kV fun hc=>?_|refine kZ (fun hc=>?_) fun hc=>?_|fail)
  refine OW_call rfl rfl rfl (hcodes_n (some ⟨b2, 0, none⟩) 3 [1, 1, 1] _ (sl_cells (c := (intsN [1, 1, 1]).toArray) (xs := intsN [1, 1, 1]) (m := 3) Fnd.here rfl (by simp)) (by decide)) rfl (fun r L' hp => ?_)
  obtain ⟨u2, C2, rfl, rfl, ho2⟩ := hp
  rw [show ((cdE [1, 1, 1] : Nat) : Int) = 3 from by rw [aw3]; rfl]
  rcases ho1 with ⟨_, h, _⟩ | ⟨b, cap, rest, rfl, rfl, hxl, hrl, _⟩
  · exact absurd h (by decide)
  (repeat' first|refine kX ?_|refine kU fun bk=>?_|refine kV fun hc=>?_|refine kZ (fun hc=>?_) fun hc=>?_|fail)
  refine OW_buildSlice (cs := intsN [1, 1]) rfl (by rfl) (by simp [fillL, patch, Value.cells, zeros]; rfl) (by omega) rfl rfl (fun b3 => ?_)
  (repeat' first|refine kX ?_|refine kU fun bk=>?_|refine kV fun hc=>?_|refine kZ (fun hc=>?_) fun hc=>?_|fail)
  refine OW_callP rfl rfl rfl (hcomplete_n (some ⟨b3, 0, none⟩) 2 [1, 1] _ (sl_cells (c := (intsN [1, 1]).toArray) (xs := intsN [1, 1]) (m := 2) Fnd.here rfl (by simp)) (by decide)) rfl ?_
  rw [aw4]
  (repeat' first|refine kX ?_|refine kU fun bk=>?_|refine kV fun hc=>?_|refine kZ (fun hc=>?_) fun hc=>?_|fail)
  refine OW_buildSlice (cs := intsN (icn [5, 1, 1])) rfl (by rfl) (by simp [fillL, patch, Value.cells, zeros]; rfl) (by omega) rfl rfl (fun b4 => ?_)
  (repeat' first|refine kX ?_|refine kU fun bk=>?_|refine kV fun hc=>?_|refine kZ (fun hc=>?_) fun hc=>?_|fail)
  refine OW_buildSlice (cs := intsN (icn [1, 2, 2])) rfl (by rfl) (by simp [fillL, patch, Value.cells, zeros]; rfl) (by omega) rfl rfl (fun b5 => ?_)
  (repeat' first|refine kX ?_|refine kU fun bk=>?_|refine kV fun hc=>?_|refine kZ (fun hc=>?_) fun hc=>?_|fail)
  refine OW_callP rfl rfl rfl (hcost_n (some ⟨b4, 0, none⟩) (some ⟨b5, 0, none⟩) 3 3 [5, 1, 1] [1, 2, 2] _ (sl_cells (c := (intsN (icn [5, 1, 1])).toArray) (xs := intsN (icn [5, 1, 1])) (m := 3) (Fnd.there Fnd.here) rfl (by simp)) (sl_cells (c := (intsN (icn [1, 2, 2])).toArray) (xs := intsN (icn [1, 2, 2])) (m := 3) Fnd.here rfl (by simp)) (by decide) (fun i => Nat.le_trans (sm3 5 1 1 i) (by decide)) (fun i => Nat.le_trans (sm3 1 2 2 i) (by decide))) rfl ?_
  rw [show ((costN [5, 1, 1] [1, 2, 2] (min [5, 1, 1].length [1, 2, 2].length) : Nat) : Int) = 9 from by decide]
  (repeat' first|refine kX ?_|refine kU fun bk=>?_|refine kV fun hc=>?_|refine kZ (fun hc=>?_) fun hc=>?_|fail)
  exact kE
end Go.Proofs.Ytbdpjbmfhnbheaa
namespace Go.Proofs.Ytbdpjbmfhnbheaa
open Go Go.Vx Go.So Go.Hf Go.Pm
variable [W0]
set_option maxRecDepth 4000
set_option linter.all false
theorem LenOf.alike {cs lens : List Nat} {M c : Nat} (h : LenOf cs M lens) (hc : 0 < c) (ha : ∀ i, cs.getD i 0 = 0 ∨ cs.getD i 0 = c) :
    ∃ K, (∀ i, i < cs.length → 0 < cs.getD i 0 → lens.getD i 0 = K ∨ lens.getD i 0 = K + 1) ∧ (Go.Hf.pos cs cs.length).length < 2 ^ (K + 1) ∧
      ((∀ i, i < cs.length → 0 < cs.getD i 0 → lens.getD i 0 = K) → (Go.Hf.pos cs cs.length).length ≤ 2 ^ K) ∧ ((Go.Hf.pos cs cs.length).length = 1 → ∀ i, i < cs.length → 0 < cs.getD i 0 → lens.getD i 0 = 1) := by
  have hm1 := h.m1
  obtain ⟨N, g, hN, hcn, hNM, hone, htwo⟩ := h.ex
  rw [← hN]
  by_cases h2 : 2 ≤ N
  · obtain ⟨lv, hlv, hln⟩ := htwo h2
    have hcl := coinsOf_length (fun i => cs.getD i 0) g N
    have hfull : 2 * (N - 1) ≤ (lv M).length := by
      obtain ⟨k, rfl⟩ : ∃ k, M = k + 1 := ⟨M - 1, by omega⟩
      have := lv_full hlv k (by omega) (by omega)
      omega
    obtain ⟨K, h3, h4, h5⟩ := flat hlv hc (fun x hx => by
      obtain ⟨r, hr, rfl⟩ := List.mem_map.1 hx
      have h6 := (hcn.sy r (List.mem_range.1 hr)).2.1
      have h7 := ha (g r).1
      show cs.getD (g r).1 0 = c
      omega) M 1 (Nat.le_refl _) (by omega) (by omega) (by rw [hcl]; exact hfull)
    rw [hcl] at h3 h4 h5
    rw [Nat.one_mul] at h3 h4
    have hon : ∀ r, r < N → lens.getD (g r).1 0 = K + (if r < 2 * (N - 1 * 2 ^ K) then 1 else 0) := fun r hr => by
      rw [hln r hr, show 2 * N - 2 = 2 * (N - 1) from by omega]
      exact h5 r hr
    refine ⟨K, fun i hi h0 => ?_, h4, fun hall => ?_, fun h1 => by omega⟩
    · obtain ⟨r, hr, rfl⟩ := hcn.onto i hi h0
      rw [hon r hr]
      split
      · exact .inr rfl
      · exact .inl rfl
    · have h6 := hcn.sy 0 (by omega)
      have h7 := hall _ h6.1 h6.2.1
      rw [hon 0 (by omega), Nat.one_mul] at h7
      split at h7 <;> omega
  · refine ⟨1, fun i hi h0 => ?_, ?_, fun _ => ?_, fun h1 i hi h0 => ?_⟩
    · obtain ⟨r, hr, rfl⟩ := hcn.onto i hi h0
      exact .inl (hone (by omega) r hr)
    · show N < 4; omega
    · show N ≤ 2; omega
    · obtain ⟨r, hr, rfl⟩ := hcn.onto i hi h0
      exact hone h1 r hr
omit [W0] in
/-- The counts: one value, or none. -/
def cF (bs : List Bool) (k j : Nat) : Nat := if bs.getD j false then 0 else k
omit [W0] in
def clF (bs : List Bool) (k i : Nat) : List Nat := (List.range i).map (cF bs k)
omit [W0] in
def sm (l : List Nat) : Nat := (l.filter fun x => decide (0 < x)).length
theorem clF_length (bs : List Bool) (k i : Nat) : (clF bs k i).length = i := by simp [clF]
theorem clF_step (bs : List Bool) (k i : Nat) : clF bs k (i + 1) = clF bs k i ++ [cF bs k i] := by simp [clF, List.range_succ]
theorem clF_getD (bs : List Bool) (k : Nat) {n i : Nat} (h : i < n) : (clF bs k n).getD i 0 = cF bs k i := by simp [clF, List.getD, List.getElem?_range h]
theorem sm_le (l : List Nat) : sm l ≤ l.length := List.length_filter_le _ _
theorem sm_on (l : List Nat) {x : Nat} (h : 0 < x) : sm (l ++ [x]) = sm l + 1 := by simp [sm, List.filter_cons, h]
theorem sm_off (l : List Nat) : sm (l ++ [0]) = sm l := by simp [sm]
omit [W0] in
/-- The least and the greatest length so far. -/
structure Lh (lens : List Nat) (i lo hi : Nat) : Prop where
  all : ∀ j, j < i → 0 < lens.getD j 0 → lo ≤ lens.getD j 0 ∧ lens.getD j 0 ≤ hi
  at_ : (lo = 99 ∧ hi = 0) ∨ ((∃ j, j < i ∧ 0 < lens.getD j 0 ∧ lens.getD j 0 = lo) ∧ ∃ j, j < i ∧ 0 < lens.getD j 0 ∧ lens.getD j 0 = hi)
theorem Lh.skip {lens : List Nat} {i lo hi : Nat} (h : Lh lens i lo hi) (h0 : ¬ 0 < lens.getD i 0) : Lh lens (i + 1) lo hi where
  all j hj hp := by
    by_cases e : j = i
    · subst e; exact absurd hp h0
    · exact h.all j (by omega) hp
  at_ := by
    rcases h.at_ with h1 | ⟨⟨j, h1, h2, h3⟩, q, h4, h5, h6⟩
    · exact .inl h1
    · exact .inr ⟨⟨j, by omega, h2, h3⟩, q, by omega, h5, h6⟩
theorem Lh.step {lens : List Nat} {i lo hi : Nat} (h : Lh lens i lo hi) (h0 : 0 < lens.getD i 0) (h15 : lens.getD i 0 ≤ 15) : Lh lens (i + 1) (min lo (lens.getD i 0)) (max hi (lens.getD i 0)) where
  all j hj hp := by
    by_cases e : j = i
    · subst e; omega
    · have := h.all j (by omega) hp
      omega
  at_ := by
    refine .inr ?_
    rcases h.at_ with ⟨rfl, rfl⟩ | ⟨⟨j, h1, h2, h3⟩, q, h4, h5, h6⟩
    · exact ⟨⟨i, by omega, h0, by omega⟩, i, by omega, h0, by omega⟩
    · constructor
      · rcases Nat.le_total lo (lens.getD i 0) with h7 | h7
        · exact ⟨j, by omega, h2, by omega⟩
        · exact ⟨i, by omega, h0, by omega⟩
      · rcases Nat.le_total hi (lens.getD i 0) with h7 | h7
        · exact ⟨i, by omega, h0, by omega⟩
        · exact ⟨q, by omega, h5, by omega⟩
end Go.Proofs.Ytbdpjbmfhnbheaa
