/- NameStars returns true and leaves its arguments as they were, for every argument; the table that the program reads is tied to its text (the card). No conditions beyond the row's. -/
import Derived.Test.YtehpnblbkldojaaDoorSC1
namespace Go.Nm
open Go Go.Lib
set_option linter.all false
def tgP (a d s : List UInt8) : List UInt8 × Bool :=
  if 42 ∈ a then
    if ((cuS 42 a).1.length ≤ s.length ∧ s.take (cuS 42 a).1.length = (cuS 42 a).1) ∧ endB (s.drop (cuS 42 a).1.length) (cuS 42 a).2.1 = true ∧ 42 ∉ (cuS 42 a).2.1 ∧ 42 ∈ d then
      (rp1 d ((s.drop (cuS 42 a).1.length).take ((s.drop (cuS 42 a).1.length).length - (cuS 42 a).2.1.length)), true)
    else ([], false)
  else (d, decide (s = a))
theorem tg_p (a d s : List UInt8) : tgN a d s = if (tgP a d s).2 = true then some (tgP a d s).1 else none := by
  unfold tgN tgP
  split
  · split
    · rfl
    · rfl
  · simp only [decide_eq_true_eq]
theorem rp1_le (s x : List UInt8) : (rp1 s x).length ≤ s.length + x.length := by
  unfold rp1
  split
  · omega
  · simp only [List.length_append, List.length_take, List.length_drop]
    omega
theorem tgP_le (a d s : List UInt8) : (tgP a d s).1.length ≤ d.length + s.length := by
  unfold tgP
  split
  · split
    · refine Nat.le_trans (rp1_le _ _) ?_
      simp only [List.length_take, List.length_drop]
      omega
    · simp
  · simp
theorem mp_tg (f : Bool) (a d s : List UInt8) (h : pvN a d = true) : mpN ⟨f, a, d⟩ s = if (tgP a d s).2 = true ∧ vlN (tgP a d s).1 = true then some (tgP a d s).1 else none := by
  rw [mp_prog f a d s h, tg_p]
  generalize (tgP a d s).1 = y
  generalize (tgP a d s).2 = b
  cases b <;> cases hv : vlN y <;> simp [hv]
end Go.Nm
namespace Go.Proofs.YtehpnblbkldojaaDoor
open Go Go.Vx Go.Nm Go.Ob Go.Lib
set_option linter.all false
set_option maxRecDepth 4000
section
variable [W0]
theorem cut0_n (s : List UInt8) (c : UInt8) (L : List Chunk) (hs : s.length ≤ 9223372036854775000) : GvP Tryd.prog 33 [.string (str s), .string (str [c])].toArray L (.tuple #[.string (str (cuS c s).1), .string (str (cuS c s).2.1), .bool (cuS c s).2.2]) := by
  refine Gv.of_body (args := [.string (str s), .string (str [c])]) Tryd.func33 rfl rfl ?_
  have z1 : (str s).size = s.length := str_size s
  have z2 : (str [c]).size = 1 := rfl
  have hi := index0_n s c L
  rcases ix_cases c s with ⟨h1, h2⟩ | ⟨k, h1, h2, h3, h4⟩
  · rw [cu_none h1]
    rw [h2] at hi
    (repeat' first|refine kW ?_|refine kU fun bk=>?_|refine kV fun hc=>?_|refine kZ (fun hc=>?_) fun hc=>?_|fail)
    refine OW_callP rfl rfl rfl hi rfl ?_
    (repeat' first|refine kW ?_|refine kU fun bk=>?_|refine kV fun hc=>?_|refine kZ (fun hc=>?_) fun hc=>?_|fail)
    exact kE
  · have e : cuS c s = (s.take k, s.drop (k + 1), true) := by
      unfold cuS
      rw [h2, if_neg (by omega), Int.toNat_natCast]
    rw [e]
    rw [h2] at hi
    clear e
    (repeat' first|refine kW ?_|refine kU fun bk=>?_|refine kV fun hc=>?_|refine kZ (fun hc=>?_) fun hc=>?_|fail)
    refine OW_callP rfl rfl rfl hi rfl ?_
    (repeat' first|refine kW ?_|refine kU fun bk=>?_|refine kV fun hc=>?_|refine kZ (fun hc=>?_) fun hc=>?_|fail)
    refine WC_drawAll [] mixed ?_
    (refine WR_t 0 ?_; refine WR_t 1 ?_)
    (refine WR_take 2 rfl rfl (by kernel_rfl) iP iC (EV_cutL s 0 k rfl rfl (bnd_int rfl rfl) (Nat.zero_le _) (by omega)) (by rfl) ?_)
    rw [List.drop_zero, Nat.sub_zero]
    (refine WR_t 3 ?_; refine WR_t 4 ?_; refine WR_t 5 ?_; refine WR_t 6 ?_; refine WR_t 7 ?_)
    (refine WR_take 8 rfl rfl (by kernel_rfl) iP iC (EV_cutL s (k + 1) s.length rfl (bnd_int rfl (by omega)) rfl (by omega) (Nat.le_refl _)) (by rfl) ?_)
    rw [List.take_of_length_le (l := s.drop (k + 1)) (by simp)]
    (refine WR_t 9 ?_; refine WR_t 10 ?_; refine WR_t 11 ?_)
    (refine WR_done (by kernel_rfl) ?_)
    (repeat' first|refine kW ?_|refine kU fun bk=>?_|refine kV fun hc=>?_|refine kZ (fun hc=>?_) fun hc=>?_|fail)
    exact kE
theorem cut_n (s : List UInt8) (c : UInt8) (L : List Chunk) (hs : s.length ≤ 9223372036854775000) : GvP Tryd.prog 21 [.string (str s), .string (str [c])].toArray L (.tuple #[.string (str (cuS c s).1), .string (str (cuS c s).2.1), .bool (cuS c s).2.2]) := by
  refine Gv.of_body (args := [.string (str s), .string (str [c])]) Tryd.func21 rfl rfl ?_
  have h := cut0_n s c L hs
  generalize cuS c s = r at *
  (repeat' first|refine kW ?_|refine kU fun bk=>?_|refine kV fun hc=>?_|refine kZ (fun hc=>?_) fun hc=>?_|fail)
  refine OW_callP rfl rfl rfl h rfl ?_
  (repeat' first|refine kW ?_|refine kU fun bk=>?_|refine kV fun hc=>?_|refine kZ (fun hc=>?_) fun hc=>?_|fail)
  exact kE
omit [W0] in
theorem pl_cut (s : List UInt8) : (if [43].length ≤ s.length ∧ s.take [43].length = [43] then Value.tuple #[.string (str (s.drop [43].length)), .bool true] else .tuple #[.string (str s), .bool false]) = .tuple #[.string (str (plN s).2), .bool (plN s).1] := by
  rcases pl_cases s with ⟨r, rfl, e⟩ | ⟨e, h⟩
  · rw [e, if_pos (by simp)]
    rfl
  · rw [e, if_neg]
    rintro ⟨h1, h2⟩
    rcases s with _ | ⟨c, r⟩
    · simp at h1
    · exact h c r rfl (by simpa using h2)
omit [W0] in
theorem cu_le (c : UInt8) (u : List UInt8) : (cuS c u).1.length ≤ u.length ∧ (cuS c u).2.1.length ≤ u.length := by
  unfold cuS
  split
  · exact ⟨Nat.le_refl _, by simp⟩
  · exact ⟨by simp; omega, by simp⟩
set_option maxHeartbeats 8000000 in
theorem nparse_n (s : List UInt8) (L : List Chunk) (hb : UtAt L) (hs : s.length ≤ 2000000) : GvP Tryd.prog 8 [.string (str s)].toArray L (match psN s with | some p => .tuple #[.agg (spV p).toArray, .int .i64 0] | none => .tuple #[.agg (spV ⟨false, [], []⟩).toArray, .int .i64 3]) := by
  refine Gv.of_body (args := [.string (str s)]) Tryd.func8 rfl rfl ?_
  have hcp : ∀ L, GvP Tryd.prog 20 [.string (str s), .string (str [43])].toArray L (.tuple #[.string (str (plN s).2), .bool (plN s).1]) := fun L => by
    rw [← pl_cut]
    exact cutprefix_n s [43] L (by omega) (by decide)
  rw [ps_prog]
  have hul : (plN s).2.length ≤ s.length := by
    rcases pl_cases s with ⟨r, rfl, e⟩ | ⟨e, h⟩
    · rw [e]; simp
    · rw [e]; exact Nat.le_refl _
  generalize (plN s).1 = fo at *
  generalize (plN s).2 = u at *
  have hcu := fun L => cut_n u 58 L (by omega)
  obtain ⟨l1, l2⟩ := cu_le 58 u
  obtain ⟨a, ha⟩ : ∃ a, a = (cuS 58 u).1 := ⟨_, rfl⟩
  obtain ⟨b, hb0⟩ : ∃ b, b = (cuS 58 u).2.1 := ⟨_, rfl⟩
  obtain ⟨tw, htw⟩ : ∃ t, t = (cuS 58 u).2.2 := ⟨_, rfl⟩
  rw [← ha, ← hb0, ← htw] at hcu
  rw [← ha, ← hb0, ← htw]
  rw [← ha] at l1
  rw [← hb0] at l2
  clear ha hb0 htw
  obtain ⟨d, hd⟩ : ∃ d, d = (if tw = true then b else a) := ⟨_, rfl⟩
  rw [← hd]
  have ld : d.length ≤ u.length := by rw [hd]; split <;> assumption
  have hpv : ∀ L (h : UtAt L), GvP Tryd.prog 22 [.agg (spV ⟨fo, a, d⟩).toArray].toArray L (.bool (pvN a d)) := fun L h => pvalid_n ⟨fo, a, d⟩ L h (by simp only; omega) (by simp only; omega)
  refine WC_seq ?_
  (repeat' first|refine kY ?_|refine kU fun bk=>?_|refine kV fun hc=>?_|refine kZ (fun hc=>?_) fun hc=>?_|fail)
  revert bk; intro r
  refine WC_seq ?_
  (repeat' first|refine kY ?_|refine kU fun bk=>?_|refine kV fun hc=>?_|refine kZ (fun hc=>?_) fun hc=>?_|fail)
  refine OW_callP rfl rfl rfl (hcp _) rfl ?_
  (repeat' first|refine kY ?_|refine kU fun bk=>?_|refine kV fun hc=>?_|refine kZ (fun hc=>?_) fun hc=>?_|fail)
  refine WC_seq ?_
  (repeat' first|refine kY ?_|refine kU fun bk=>?_|refine kV fun hc=>?_|refine kZ (fun hc=>?_) fun hc=>?_|fail)
  refine OW_callP rfl rfl rfl (hcu _) rfl ?_
  (repeat' first|refine kY ?_|refine kU fun bk=>?_|refine kV fun hc=>?_|refine kZ (fun hc=>?_) fun hc=>?_|fail)
  refine WC_cut (X := Unit) (fun _ => [(2, .pointer (some ⟨r, 0, none⟩)), (3, .int .i64 0), (4, .string (str a)), (5, .bool fo), (6, .string (str d))]) (fun _ => [(r, cl [.bool false, .string (str []), .string (str [])] 25)] :: L) (fun _ => True) ?_ ?_
  · cases tw with
    | true =>
      rw [if_pos rfl] at hd
      subst hd
      (repeat' first|refine kW ?_|refine kU fun bk=>?_|refine kV fun hc=>?_|refine kZ (fun hc=>?_) fun hc=>?_|fail)
      exact WQ_cut () trivial iS (fun w h => h)
    | false =>
      rw [if_neg Bool.false_ne_true] at hd
      subst hd
      (repeat' first|refine kW ?_|refine kU fun bk=>?_|refine kV fun hc=>?_|refine kZ (fun hc=>?_) fun hc=>?_|fail)
      exact WQ_cut () trivial iS (fun w h => h)
  intro _ _
  clear hd hcp hcu
  cases hv : pvN a d with
  | true =>
    simp only [hv] at hpv
    rw [if_pos rfl]
    (repeat' first|refine kW ?_|refine kU fun bk=>?_|refine kV fun hc=>?_|refine kZ (fun hc=>?_) fun hc=>?_|fail)
    revert bk; intro q
    refine OW_callP rfl rfl rfl (hpv _ hb.there.there) rfl ?_
    (repeat' first|refine kW ?_|refine kU fun bk=>?_|refine kV fun hc=>?_|refine kZ (fun hc=>?_) fun hc=>?_|fail)
    first
      | (refine WQ_retC (vs := [.agg (spV ⟨fo, a, d⟩).toArray, .int .i64 0]) rfl (.agg ⟨by kernel_rfl, by kernel_rfl⟩ rfl (RdAt.cl' (vs := spV ⟨fo, a, d⟩) (by repeat (first | assumption | exact Fnd.here | refine Fnd.there ?_)) rfl) rfl (.tmp rfl .nil)) ?_
         exact ⟨_, fun w h => h.drop.drop, rfl, rfl⟩)
      | (refine WQ_endC (vs := [.agg (spV ⟨fo, a, d⟩).toArray, .int .i64 0]) rfl (.agg ⟨by kernel_rfl, by kernel_rfl⟩ rfl (RdAt.cl' (vs := spV ⟨fo, a, d⟩) (by repeat (first | assumption | exact Fnd.here | refine Fnd.there ?_)) rfl) rfl (.tmp rfl .nil)) ?_
         exact ⟨_, fun w h => h.drop.drop, rfl, rfl⟩)
  | false =>
    simp only [hv] at hpv
    rw [if_neg Bool.false_ne_true]
    (repeat' first|refine kW ?_|refine kU fun bk=>?_|refine kV fun hc=>?_|refine kZ (fun hc=>?_) fun hc=>?_|fail)
    revert bk; intro q
    refine OW_callP rfl rfl rfl (hpv _ hb.there.there) rfl ?_
    (repeat' first|refine kW ?_|refine kU fun bk=>?_|refine kV fun hc=>?_|refine kZ (fun hc=>?_) fun hc=>?_|fail)
    first
      | (refine WQ_retC (vs := [.agg (spV ⟨false, [], []⟩).toArray, .int .i64 3]) rfl (.agg ⟨by kernel_rfl, by kernel_rfl⟩ rfl (RdAt.cl' (vs := spV ⟨false, [], []⟩) (by repeat (first | assumption | exact Fnd.here | refine Fnd.there ?_)) rfl) rfl (.tmp rfl .nil)) ?_
         exact ⟨_, fun w h => h.drop.drop, rfl, rfl⟩)
      | (refine WQ_endC (vs := [.agg (spV ⟨false, [], []⟩).toArray, .int .i64 3]) rfl (.agg ⟨by kernel_rfl, by kernel_rfl⟩ rfl (RdAt.cl' (vs := spV ⟨false, [], []⟩) (by repeat (first | assumption | exact Fnd.here | refine Fnd.there ?_)) rfl) rfl (.tmp rfl .nil)) ?_
         exact ⟨_, fun w h => h.drop.drop, rfl, rfl⟩)
set_option maxHeartbeats 8000000 in
theorem ntarget_n (p : Sp) (s : List UInt8) (L : List Chunk) (hb : UtAt L) (h1 : p.src.length ≤ 2000000) (h2 : p.dst.length ≤ 2000000) (h3 : s.length ≤ 2000000) : GvP Tryd.prog 23 [.agg (spV p).toArray, .string (str s)].toArray L (.tuple #[.string (str (tgP p.src p.dst s).1), .bool (tgP p.src p.dst s).2]) := by
  obtain ⟨f, a, d⟩ := p
  simp only at h1 h2 ⊢
  refine Gv.of_body (args := [.agg (spV ⟨f, a, d⟩).toArray, .string (str s)]) Tryd.func23 rfl rfl ?_
  unfold spV
  have hcu := fun L => cut_n a 42 L (by omega)
  by_cases g : 42 ∈ a
  rotate_left
  · rw [show tgP a d s = (d, decide (s = a)) from by unfold tgP; rw [if_neg g]]
    simp only [cu_none g] at hcu
    (repeat' first|refine kW ?_|refine kU fun bk=>?_|refine kV fun hc=>?_|refine kZ (fun hc=>?_) fun hc=>?_|fail)
    revert bk; intro q
    refine OW_callP rfl rfl rfl (hcu _) rfl ?_
    (repeat' first|refine kW ?_|refine kU fun bk=>?_|refine kV fun hc=>?_|refine kZ (fun hc=>?_) fun hc=>?_|fail)
    refine WC_drawAll [] mixed ?_
    (refine WR_t 0 ?_; refine WR_t 1 ?_; refine WR_t 2 ?_; refine WR_t 3 ?_; refine WR_t 4 ?_)
    (refine WR_take 5 rfl rfl (by kernel_rfl) iP iC (EV_eqL s a rfl rfl) (by rfl) ?_)
    (refine WR_t 6 ?_; refine WR_t 7 ?_)
    (refine WR_done (by kernel_rfl) ?_)
    (repeat' first|refine kW ?_|refine kU fun bk=>?_|refine kV fun hc=>?_|refine kZ (fun hc=>?_) fun hc=>?_|fail)
    exact kE
  obtain ⟨l1, l2⟩ := cu_le 42 a
  have htw : (cuS 42 a).2.2 = true := by
    rcases ix_cases 42 a with h | ⟨k, k1, k2, k3, k4⟩
    · exact absurd g h.1
    · unfold cuS
      rw [k2, if_neg (by omega)]
  have htg : tgP a d s = if ((cuS 42 a).1.length ≤ s.length ∧ s.take (cuS 42 a).1.length = (cuS 42 a).1) ∧ endB (s.drop (cuS 42 a).1.length) (cuS 42 a).2.1 = true ∧ 42 ∉ (cuS 42 a).2.1 ∧ 42 ∈ d then
      (rp1 d ((s.drop (cuS 42 a).1.length).take ((s.drop (cuS 42 a).1.length).length - (cuS 42 a).2.1.length)), true)
    else ([], false) := by
    unfold tgP
    rw [if_pos g]
  rw [htg]
  simp only [htw] at hcu
  clear htg htw
  generalize (cuS 42 a).1 = bg at *
  generalize (cuS 42 a).2.1 = en at *
  have hcp := fun L => cutprefix_n s bg L (by omega) (by omega)
  by_cases c1 : bg.length ≤ s.length ∧ s.take bg.length = bg
  rotate_left
  · simp only [if_neg c1] at hcp
    rw [if_neg (fun w => c1 w.1)]
    have hcs := fun L => cutsuffix_n s en L (by omega) (by omega)
    obtain ⟨y, z, hyz⟩ : ∃ y z, (if endB s en = true then Value.tuple #[.string (str (s.take (s.length - en.length))), .bool true] else .tuple #[.string (str s), .bool false]) = .tuple #[.string y, .bool z] := by
      split
      · exact ⟨_, _, rfl⟩
      · exact ⟨_, _, rfl⟩
    simp only [hyz] at hcs
    (repeat' first|refine kW ?_|refine kU fun bk=>?_|refine kV fun hc=>?_|refine kZ (fun hc=>?_) fun hc=>?_|fail)
    revert bk; intro q
    refine OW_callP rfl rfl rfl (hcu _) rfl ?_
    (repeat' first|refine kW ?_|refine kU fun bk=>?_|refine kV fun hc=>?_|refine kZ (fun hc=>?_) fun hc=>?_|fail)
    refine OW_callP rfl rfl rfl (hcp _) rfl ?_
    (repeat' first|refine kW ?_|refine kU fun bk=>?_|refine kV fun hc=>?_|refine kZ (fun hc=>?_) fun hc=>?_|fail)
    refine OW_callP rfl rfl rfl (hcs _) rfl ?_
    (repeat' first|refine kW ?_|refine kU fun bk=>?_|refine kV fun hc=>?_|refine kZ (fun hc=>?_) fun hc=>?_|fail)
    exact kE
  simp only [if_pos c1] at hcp
  obtain ⟨re, hre⟩ : ∃ re, re = s.drop bg.length := ⟨_, rfl⟩
  have lre : re.length ≤ s.length := by rw [hre]; simp
  rw [← hre]
  simp only [← hre] at hcp
  have hcs := fun L => cutsuffix_n re en L (by omega) (by omega)
  by_cases c2 : endB re en = true
  rotate_left
  · simp only [if_neg c2] at hcs
    rw [if_neg (fun w => c2 w.2.1)]
    (repeat' first|refine kW ?_|refine kU fun bk=>?_|refine kV fun hc=>?_|refine kZ (fun hc=>?_) fun hc=>?_|fail)
    revert bk; intro q
    refine OW_callP rfl rfl rfl (hcu _) rfl ?_
    (repeat' first|refine kW ?_|refine kU fun bk=>?_|refine kV fun hc=>?_|refine kZ (fun hc=>?_) fun hc=>?_|fail)
    refine OW_callP rfl rfl rfl (hcp _) rfl ?_
    (repeat' first|refine kW ?_|refine kU fun bk=>?_|refine kV fun hc=>?_|refine kZ (fun hc=>?_) fun hc=>?_|fail)
    refine OW_callP rfl rfl rfl (hcs _) rfl ?_
    (repeat' first|refine kW ?_|refine kU fun bk=>?_|refine kV fun hc=>?_|refine kZ (fun hc=>?_) fun hc=>?_|fail)
    exact kE
  simp only [if_pos c2] at hcs
  obtain ⟨mi, hmi⟩ : ∃ mi, mi = re.take (re.length - en.length) := ⟨_, rfl⟩
  have lmi : mi.length ≤ s.length := by rw [hmi]; simp; omega
  rw [← hmi]
  simp only [← hmi] at hcs
  have ce := fun L => contains_n en 42 L
  have cd := fun L => contains_n d 42 L
  by_cases c3 : 42 ∈ en
  · simp only [decide_eq_true c3] at ce
    rw [if_neg (fun w => w.2.2.1 c3)]
    (repeat' first|refine kW ?_|refine kU fun bk=>?_|refine kV fun hc=>?_|refine kZ (fun hc=>?_) fun hc=>?_|fail)
    revert bk; intro q
    refine OW_callP rfl rfl rfl (hcu _) rfl ?_
    (repeat' first|refine kW ?_|refine kU fun bk=>?_|refine kV fun hc=>?_|refine kZ (fun hc=>?_) fun hc=>?_|fail)
    refine OW_callP rfl rfl rfl (hcp _) rfl ?_
    (repeat' first|refine kW ?_|refine kU fun bk=>?_|refine kV fun hc=>?_|refine kZ (fun hc=>?_) fun hc=>?_|fail)
    refine OW_callP rfl rfl rfl (hcs _) rfl ?_
    (repeat' first|refine kW ?_|refine kU fun bk=>?_|refine kV fun hc=>?_|refine kZ (fun hc=>?_) fun hc=>?_|fail)
    refine OW_callP rfl rfl rfl (ce _) rfl ?_
    (repeat' first|refine kW ?_|refine kU fun bk=>?_|refine kV fun hc=>?_|refine kZ (fun hc=>?_) fun hc=>?_|fail)
    exact kE
  simp only [decide_eq_false c3] at ce
  by_cases c4 : 42 ∈ d
  rotate_left
  · simp only [decide_eq_false c4] at cd
    rw [if_neg (fun w => c4 w.2.2.2)]
    (repeat' first|refine kW ?_|refine kU fun bk=>?_|refine kV fun hc=>?_|refine kZ (fun hc=>?_) fun hc=>?_|fail)
    revert bk; intro q
    refine OW_callP rfl rfl rfl (hcu _) rfl ?_
    (repeat' first|refine kW ?_|refine kU fun bk=>?_|refine kV fun hc=>?_|refine kZ (fun hc=>?_) fun hc=>?_|fail)
    refine OW_callP rfl rfl rfl (hcp _) rfl ?_
    (repeat' first|refine kW ?_|refine kU fun bk=>?_|refine kV fun hc=>?_|refine kZ (fun hc=>?_) fun hc=>?_|fail)
    refine OW_callP rfl rfl rfl (hcs _) rfl ?_
    (repeat' first|refine kW ?_|refine kU fun bk=>?_|refine kV fun hc=>?_|refine kZ (fun hc=>?_) fun hc=>?_|fail)
    refine OW_callP rfl rfl rfl (ce _) rfl ?_
    (repeat' first|refine kW ?_|refine kU fun bk=>?_|refine kV fun hc=>?_|refine kZ (fun hc=>?_) fun hc=>?_|fail)
    refine OW_callP rfl rfl rfl (cd _) rfl ?_
    (repeat' first|refine kW ?_|refine kU fun bk=>?_|refine kV fun hc=>?_|refine kZ (fun hc=>?_) fun hc=>?_|fail)
    exact kE
  simp only [decide_eq_true c4] at cd
  rw [if_pos ⟨c1, c2, c3, c4⟩]
  have hrp := fun C => replace_n d mi (C :: L) hb.there h2 (by omega)
  (repeat' first|refine kW ?_|refine kU fun bk=>?_|refine kV fun hc=>?_|refine kZ (fun hc=>?_) fun hc=>?_|fail)
  revert bk; intro q
  refine OW_callP rfl rfl rfl (hcu _) rfl ?_
  (repeat' first|refine kW ?_|refine kU fun bk=>?_|refine kV fun hc=>?_|refine kZ (fun hc=>?_) fun hc=>?_|fail)
  refine OW_callP rfl rfl rfl (hcp _) rfl ?_
  (repeat' first|refine kW ?_|refine kU fun bk=>?_|refine kV fun hc=>?_|refine kZ (fun hc=>?_) fun hc=>?_|fail)
  refine OW_callP rfl rfl rfl (hcs _) rfl ?_
  (repeat' first|refine kW ?_|refine kU fun bk=>?_|refine kV fun hc=>?_|refine kZ (fun hc=>?_) fun hc=>?_|fail)
  refine OW_callP rfl rfl rfl (ce _) rfl ?_
  (repeat' first|refine kW ?_|refine kU fun bk=>?_|refine kV fun hc=>?_|refine kZ (fun hc=>?_) fun hc=>?_|fail)
  refine OW_callP rfl rfl rfl (cd _) rfl ?_
  (repeat' first|refine kW ?_|refine kU fun bk=>?_|refine kV fun hc=>?_|refine kZ (fun hc=>?_) fun hc=>?_|fail)
  refine OW_callP rfl rfl rfl (hrp _) rfl ?_
  (repeat' first|refine kW ?_|refine kU fun bk=>?_|refine kV fun hc=>?_|refine kZ (fun hc=>?_) fun hc=>?_|fail)
  exact kE
theorem nmap_n (p : Sp) (s : List UInt8) (L : List Chunk) (hb : UtAt L) (hv : pvN p.src p.dst = true) (h3 : s.length ≤ 2000000) : GvP Tryd.prog 10 [.agg (spV p).toArray, .string (str s)].toArray L (match mpN p s with | some t => .tuple #[.string (str t), .bool true] | none => .tuple #[.string (str []), .bool false]) := by
  obtain ⟨f, a, d⟩ := p
  simp only at hv
  refine Gv.of_body (args := [.agg (spV ⟨f, a, d⟩).toArray, .string (str s)]) Tryd.func10 rfl rfl ?_
  have hl := pv_len hv
  have htg := fun C => ntarget_n ⟨f, a, d⟩ s (C :: L) hb.there (by simp only; omega) (by simp only; omega) h3
  have hle := tgP_le a d s
  rw [mp_tg f a d s hv]
  simp only at htg
  unfold spV at htg ⊢
  generalize (tgP a d s).1 = y at *
  generalize (tgP a d s).2 = b at *
  have hvy := fun C => nvalid_n y (C :: L) hb.there (by omega)
  cases b with
  | false =>
    rw [if_neg (fun w => Bool.noConfusion w.1)]
    (repeat' first|refine kW ?_|refine kU fun bk=>?_|refine kV fun hc=>?_|refine kZ (fun hc=>?_) fun hc=>?_|fail)
    revert bk; intro q
    refine OW_callP rfl rfl rfl (htg _) rfl ?_
    (repeat' first|refine kW ?_|refine kU fun bk=>?_|refine kV fun hc=>?_|refine kZ (fun hc=>?_) fun hc=>?_|fail)
    exact kE
  | true =>
  cases hy : vlN y with
  | false =>
    simp only [hy] at hvy
    rw [if_neg (fun w => Bool.noConfusion w.2)]
    (repeat' first|refine kW ?_|refine kU fun bk=>?_|refine kV fun hc=>?_|refine kZ (fun hc=>?_) fun hc=>?_|fail)
    revert bk; intro q
    refine OW_callP rfl rfl rfl (htg _) rfl ?_
    (repeat' first|refine kW ?_|refine kU fun bk=>?_|refine kV fun hc=>?_|refine kZ (fun hc=>?_) fun hc=>?_|fail)
    refine OW_callP rfl rfl rfl (hvy _) rfl ?_
    (repeat' first|refine kW ?_|refine kU fun bk=>?_|refine kV fun hc=>?_|refine kZ (fun hc=>?_) fun hc=>?_|fail)
    exact kE
  | true =>
    simp only [hy] at hvy
    rw [if_pos ⟨rfl, rfl⟩]
    (repeat' first|refine kW ?_|refine kU fun bk=>?_|refine kV fun hc=>?_|refine kZ (fun hc=>?_) fun hc=>?_|fail)
    revert bk; intro q
    refine OW_callP rfl rfl rfl (htg _) rfl ?_
    (repeat' first|refine kW ?_|refine kU fun bk=>?_|refine kV fun hc=>?_|refine kZ (fun hc=>?_) fun hc=>?_|fail)
    refine OW_callP rfl rfl rfl (hvy _) rfl ?_
    (repeat' first|refine kW ?_|refine kU fun bk=>?_|refine kV fun hc=>?_|refine kZ (fun hc=>?_) fun hc=>?_|fail)
    exact kE
end
end Go.Proofs.YtehpnblbkldojaaDoor
namespace Go.Proofs.YtehpnblbkldojaaDoor
open Go Go.Vx Go.Nm Go.Ob Go.Lib
set_option linter.all false
set_option maxRecDepth 4000
section
variable [W0]
def awS : List UInt8 := [43, 114, 101, 102, 115, 47, 104, 101, 97, 100, 115, 47, 42, 58, 114, 101, 102, 115, 47, 114, 101, 109, 111, 116, 101, 115, 47, 111, 47, 42]
def awP : Sp := ⟨true, [114, 101, 102, 115, 47, 104, 101, 97, 100, 115, 47, 42], [114, 101, 102, 115, 47, 114, 101, 109, 111, 116, 101, 115, 47, 111, 47, 42]⟩
def awN : List UInt8 := [114, 101, 102, 115, 47, 104, 101, 97, 100, 115, 47, 120, 47, 121]
def awT : List UInt8 := [114, 101, 102, 115, 47, 114, 101, 109, 111, 116, 101, 115, 47, 111, 47, 120, 47, 121]
def awA : List UInt8 := [114, 101, 102, 115, 47, 104, 101, 97, 100, 115, 47, 97]
def awB : List UInt8 := [114, 101, 102, 115, 47, 104, 101, 97, 100, 115, 47, 46, 97]
def awU : List UInt8 := [114, 101, 102, 115, 47, 97]
def awV : List UInt8 := [114, 101, 102, 115, 47, 97, 47, 98]
theorem aw_1 : psN awS = some awP := by kernel_rfl
theorem aw_2 : mpN awP awN = some awT := by kernel_rfl
theorem aw_3 : vlN awA = true := by kernel_rfl
theorem aw_4 : vlN awB = false := by kernel_rfl
theorem aw_5 : undB awU awV = true := by kernel_rfl
theorem aw_6 : pvN awP.src awP.dst = true := by kernel_rfl
set_option maxHeartbeats 4000000 in
theorem awake14_n (L : List Chunk) (hb : UtAt L) : GvP Tryd.prog 9 [].toArray L (.bool true) := by
  have h1 := nparse_n awS L hb (by decide)
  simp only [aw_1, spV] at h1
  have h2 := fun L' h => nmap_n awP awN L' h aw_6 (by decide)
  simp only [aw_2, spV] at h2
  have h3 := fun L' h => nvalid_n awA L' h (by decide)
  simp only [aw_3] at h3
  have h4 := fun L' h => nvalid_n awB L' h (by decide)
  simp only [aw_4] at h4
  have h5 := fun L' => nunder_n awU awV L' (by decide) (by decide)
  simp only [aw_5] at h5
  refine Gv.of_body (args := []) Tryd.func9 rfl rfl ?_
  (repeat' first|refine kW ?_|refine kU fun bk=>?_|refine kV fun hc=>?_|refine kZ (fun hc=>?_) fun hc=>?_|fail)
  refine OW_callP rfl rfl rfl h1 rfl ?_
  (repeat' first|refine kW ?_|refine kU fun bk=>?_|refine kV fun hc=>?_|refine kZ (fun hc=>?_) fun hc=>?_|fail)
  revert bk; intro q
  refine OW_callP rfl rfl rfl (h2 _ (by repeat (first | exact hb | apply UtAt.there))) rfl ?_
  (repeat' first|refine kW ?_|refine kU fun bk=>?_|refine kV fun hc=>?_|refine kZ (fun hc=>?_) fun hc=>?_|fail)
  refine OW_callP rfl rfl rfl (h3 _ (by repeat (first | exact hb | apply UtAt.there))) rfl ?_
  (repeat' first|refine kW ?_|refine kU fun bk=>?_|refine kV fun hc=>?_|refine kZ (fun hc=>?_) fun hc=>?_|fail)
  refine OW_callP rfl rfl rfl (h4 _ (by repeat (first | exact hb | apply UtAt.there))) rfl ?_
  (repeat' first|refine kW ?_|refine kU fun bk=>?_|refine kV fun hc=>?_|refine kZ (fun hc=>?_) fun hc=>?_|fail)
  refine OW_callP rfl rfl rfl (h5 _) rfl ?_
  (repeat' first|refine kW ?_|refine kU fun bk=>?_|refine kV fun hc=>?_|refine kZ (fun hc=>?_) fun hc=>?_|fail)
  exact kE
end
end Go.Proofs.YtehpnblbkldojaaDoor
namespace Go.Nm
open Go Go.Lib
set_option linter.all false
theorem ps_txt (f : Bool) (a d : List UInt8) (hc : 58 ∉ a) (hp : ∀ c r, a = c :: r → c ≠ 43) (hv : pvN a d = true) : psN (txN ⟨f, a, d⟩) = some ⟨f, a, d⟩ := by
  have hpl : plN (txN ⟨f, a, d⟩) = (f, a ++ 58 :: d) := by
    unfold txN
    cases f with
    | true => simp [plN]
    | false =>
      simp only
      rw [if_neg Bool.false_ne_true, List.nil_append, show a ++ [58] ++ d = a ++ 58 :: d from by simp]
      rcases a with _ | ⟨x, a⟩
      · exact pl_other (by decide)
      · exact pl_other (hp x a rfl)
  rw [ps_prog, hpl]
  simp only
  rw [cu_app hc]
  simp only [if_true]
  rw [if_pos hv]
theorem mp_star (f : Bool) (A B C D s : List UInt8) (hA : 42 ∉ A) (hB : 42 ∉ B) (hC : 42 ∉ C) (hv : pvN (A ++ 42 :: B) (C ++ 42 :: D) = true) :
    mpN ⟨f, A ++ 42 :: B, C ++ 42 :: D⟩ (A ++ s ++ B) = if vlN (C ++ s ++ D) = true then some (C ++ s ++ D) else none := by
  have e : tgP (A ++ 42 :: B) (C ++ 42 :: D) (A ++ s ++ B) = (C ++ s ++ D, true) := by
    unfold tgP
    simp only [cu_app hA]
    have d1 : (A ++ s ++ B).drop A.length = s ++ B := by simp
    rw [if_pos (by simp), d1, if_pos, rp1_app hC]
    · simp
    · refine ⟨⟨by simp, by simp⟩, ?_, hB, by simp⟩
      rw [endB_app _ _ _ (Nat.le_refl _)]
      simp [endB]
  rw [mp_tg f _ _ _ hv, e]
  simp
def stl : List (List UInt8) := [[114, 101, 102, 115, 47, 104, 101, 97, 100, 115, 47], [114, 101, 102, 115, 47, 116, 97, 103, 115, 47, 118], [114, 101, 102, 115, 47, 114, 101, 109, 111, 116, 101, 115, 47, 111, 47], [114, 101, 102, 115, 47, 120, 45]]
def ste : List (List UInt8) := [[], [47, 122], [46, 49], [45, 113]]
def sdO (A B : List UInt8) : Bool := (myN (A ++ 42 :: B)).1 && !(A ++ 42 :: B).contains 58 && !A.contains 42 && !B.contains 42 && decide (A.getD 0 0 = 114) && decide (A.length ≤ 20) && decide (B.length ≤ 20)
theorem sd_all : (stl.all fun A => ste.all fun B => sdO A B) = true := by decide +kernel
structure SdG (A B : List UInt8) : Prop where
  my : (myN (A ++ 42 :: B)).1 = true
  co : 58 ∉ A ++ 42 :: B
  sa : 42 ∉ A
  sb : 42 ∉ B
  hd : ∀ c r, A ++ 42 :: B = c :: r → c ≠ 43
  la : A.length ≤ 20
  lb : B.length ≤ 20
theorem sd_good {i j : Nat} (hi : i < 4) (hj : j < 4) : SdG (stl.getD i []) (ste.getD j []) := by
  have h1 : stl.getD i [] ∈ stl := by
    rw [List.getD_eq_getElem?_getD, List.getElem?_eq_getElem (show i < stl.length from hi)]
    exact List.getElem_mem _
  have h2 : ste.getD j [] ∈ ste := by
    rw [List.getD_eq_getElem?_getD, List.getElem?_eq_getElem (show j < ste.length from hj)]
    exact List.getElem_mem _
  have := List.all_eq_true.1 (List.all_eq_true.1 sd_all _ h1) _ h2
  generalize stl.getD i [] = A at *
  generalize ste.getD j [] = B at *
  unfold sdO at this
  simp only [Bool.and_eq_true, decide_eq_true_eq, Bool.not_eq_true'] at this
  obtain ⟨⟨⟨⟨⟨⟨g1, g2⟩, g3⟩, g4⟩, g5⟩, g6⟩, g7⟩ := this
  have nm : ∀ {c : UInt8} {l : List UInt8}, l.contains c = false → c ∉ l := fun h w => by
    rw [← List.contains_iff_mem, h] at w
    exact Bool.noConfusion w
  refine ⟨g1, nm g2, nm g3, nm g4, fun c r e => ?_, g6, g7⟩
  rcases A with _ | ⟨x, A⟩
  · simp at g5
  · have e1 : x = c := by injection e
    rw [← e1]
    rw [show x = 114 from g5]
    decide
theorem SdG.pv {A B C D : List UInt8} (h : SdG A B) (g : SdG C D) : pvN (A ++ 42 :: B) (C ++ 42 :: D) = true := by
  unfold pvN
  rw [h.my, g.my]
  simp
end Go.Nm
namespace Go.Proofs.YtehpnblbkldojaaDoor
open Go Go.Vx Go.Nm Go.Ob Go.Lib
set_option linter.all false
set_option maxRecDepth 4000
section
variable [W0]
omit [W0] in
theorem ssv_at {l : List (List UInt8)} {k : Nat} (h : k < l.length) : (ssv l)[k]? = some (.string (str (l.getD k []))) := by
  unfold ssv
  rw [List.getElem?_map, List.getD_eq_getElem?_getD, List.getElem?_eq_getElem h]
  rfl
set_option maxHeartbeats 16000000 in
theorem namestars_n (a b : Int) (s : List UInt8) (L : List Chunk) (hb : UtAt L) (hs : s.length ≤ 9223372036854770000) : GvP Tryd.prog 3 [.int .i64 a, .int .i64 b, .string (str s)].toArray L (.bool true) := by
  have zs := str_size s
  refine Gv.of_body (args := [.int .i64 a, .int .i64 b, .string (str s)]) Tryd.func3 rfl rfl ?_
  obtain ⟨i1, e1, hi1⟩ : ∃ i : Nat, a % 4 = (i : Int) ∧ i < 4 := ⟨(a % 4).toNat, by omega, by omega⟩
  obtain ⟨j1, e2, hj1⟩ : ∃ i : Nat, a.fdiv 4 % 4 = (i : Int) ∧ i < 4 := ⟨(a.fdiv 4 % 4).toNat, by omega, by omega⟩
  obtain ⟨i2, e3, hi2⟩ : ∃ i : Nat, b % 4 = (i : Int) ∧ i < 4 := ⟨(b % 4).toNat, by omega, by omega⟩
  obtain ⟨j2, e4, hj2⟩ : ∃ i : Nat, b.fdiv 4 % 4 = (i : Int) ∧ i < 4 := ⟨(b.fdiv 4 % 4).toNat, by omega, by omega⟩
  have g1 := sd_good hi1 hj1
  have g2 := sd_good hi2 hj2
  have cA := ssv_at (l := stl) hi1
  have cB := ssv_at (l := ste) hj1
  have cC := ssv_at (l := stl) hi2
  have cD := ssv_at (l := ste) hj2
  (repeat' first|refine kW ?_|refine kU fun bk=>?_|refine kV fun hc=>?_|refine kZ (fun hc=>?_) fun hc=>?_|fail)
  refine OW_buildSlice (cs := ssv stl) rfl (by rfl) (by simp [fillL, patch, Value.cells, zeros]; rfl) (by omega) rfl rfl (fun q1 => ?_)
  (repeat' first|refine kW ?_|refine kU fun bk=>?_|refine kV fun hc=>?_|refine kZ (fun hc=>?_) fun hc=>?_|fail)
  refine OW_buildSlice (cs := ssv ste) rfl (by rfl) (by simp [fillL, patch, Value.cells, zeros]; rfl) (by omega) rfl rfl (fun q2 => ?_)
  (repeat' first|refine kW ?_|refine kU fun bk=>?_|refine kV fun hc=>?_|refine kZ (fun hc=>?_) fun hc=>?_|fail)
  generalize stl.getD i1 [] = A at *
  generalize ste.getD j1 [] = B at *
  generalize stl.getD i2 [] = C at *
  generalize ste.getD j2 [] = D at *
  obtain ⟨src, hsrc⟩ : ∃ x, x = A ++ [42] ++ B := ⟨_, rfl⟩
  obtain ⟨dst, hdst⟩ : ∃ x, x = C ++ [42] ++ D := ⟨_, rfl⟩
  have hsrc' : src = A ++ 42 :: B := by rw [hsrc]; simp
  have hdst' : dst = C ++ 42 :: D := by rw [hdst]; simp
  have lA := g1.la
  have lB := g1.lb
  have lC := g2.la
  have lD := g2.lb
  have lsrc : src.length ≤ 41 := by rw [hsrc']; simp; omega
  have ldst : dst.length ≤ 41 := by rw [hdst']; simp; omega
  have v1 : pvN src dst = true := by rw [hsrc', hdst']; exact g1.pv g2
  have v2 : pvN dst src = true := by rw [hsrc', hdst']; exact g2.pv g1
  have ps1 : psN (src ++ [58] ++ dst) = some ⟨false, src, dst⟩ := by
    have := ps_txt false src dst (by rw [hsrc']; exact g1.co) (by rw [hsrc']; exact g1.hd) v1
    exact this
  have ps2 : psN ([43] ++ dst ++ [58] ++ src) = some ⟨true, dst, src⟩ := by
    have := ps_txt true dst src (by rw [hdst']; exact g2.co) (by rw [hdst']; exact g2.hd) v2
    rw [← this]
    unfold txN
    simp
  have n1 := fun L' h => nparse_n (src ++ [58] ++ dst) L' h (by simp; omega)
  have n2 := fun L' h => nparse_n ([43] ++ dst ++ [58] ++ src) L' h (by simp; omega)
  simp only [ps1, spV] at n1
  simp only [ps2, spV] at n2
  have haw := fun L' h => awake14_n L' h
  refine WC_drawAll [] mixed ?_
  (refine WR_t 0 ?_; refine WR_t 1 ?_)
  (refine WR_take 2 rfl rfl (by kernel_rfl) iP iC (EV_mask (p := 4) rfl rfl (by rfl)) (by rfl) ?_)
  rw [e1]
  (refine WR_take 3 rfl rfl (by kernel_rfl) iP iC (EV_indexAddr (j := i1) rfl rfl rfl hi1) (by rfl) ?_)
  (refine WR_take 4 rfl rfl (by kernel_rfl) iP iC (EV_load rfl (.there .here) (by rw [Nat.zero_add, Nat.mul_one]; simpa using cA)) (by rfl) ?_)
  (refine WR_take 5 rfl rfl (by kernel_rfl) iP iC (EV_catL A [42] rfl rfl (by simp only [List.length_append, List.length_cons, List.length_nil]; omega)) (by rfl) ?_)
  (refine WR_t 6 ?_; refine WR_t 7 ?_)
  (refine WR_take 8 rfl rfl (by kernel_rfl) iP iC (EV_shr (r := a.fdiv 4) rfl rfl (by decide) rfl) (by rfl) ?_)
  (refine WR_take 9 rfl rfl (by kernel_rfl) iP iC (EV_mask (p := 4) rfl rfl (by rfl)) (by rfl) ?_)
  rw [e2]
  (refine WR_take 10 rfl rfl (by kernel_rfl) iP iC (EV_indexAddr (j := j1) rfl rfl rfl hj1) (by rfl) ?_)
  (refine WR_take 11 rfl rfl (by kernel_rfl) iP iC (EV_load rfl .here (by rw [Nat.zero_add, Nat.mul_one]; simpa using cB)) (by rfl) ?_)
  (refine WR_take 12 rfl rfl (by kernel_rfl) iP iC (EV_catL (A ++ [42]) B rfl rfl (by simp only [List.length_append, List.length_cons, List.length_nil]; omega)) (by rfl) ?_)
  rw [← hsrc]
  (refine WR_t 13 ?_; refine WR_t 14 ?_)
  (refine WR_take 15 rfl rfl (by kernel_rfl) iP iC (EV_mask (p := 4) rfl rfl (by rfl)) (by rfl) ?_)
  rw [e3]
  (refine WR_take 16 rfl rfl (by kernel_rfl) iP iC (EV_indexAddr (j := i2) rfl rfl rfl hi2) (by rfl) ?_)
  (refine WR_take 17 rfl rfl (by kernel_rfl) iP iC (EV_load rfl (.there .here) (by rw [Nat.zero_add, Nat.mul_one]; simpa using cC)) (by rfl) ?_)
  (refine WR_take 18 rfl rfl (by kernel_rfl) iP iC (EV_catL C [42] rfl rfl (by simp only [List.length_append, List.length_cons, List.length_nil]; omega)) (by rfl) ?_)
  (refine WR_t 19 ?_; refine WR_t 20 ?_)
  (refine WR_take 21 rfl rfl (by kernel_rfl) iP iC (EV_shr (r := b.fdiv 4) rfl rfl (by decide) rfl) (by rfl) ?_)
  (refine WR_take 22 rfl rfl (by kernel_rfl) iP iC (EV_mask (p := 4) rfl rfl (by rfl)) (by rfl) ?_)
  rw [e4]
  (refine WR_take 23 rfl rfl (by kernel_rfl) iP iC (EV_indexAddr (j := j2) rfl rfl rfl hj2) (by rfl) ?_)
  (refine WR_take 24 rfl rfl (by kernel_rfl) iP iC (EV_load rfl .here (by rw [Nat.zero_add, Nat.mul_one]; simpa using cD)) (by rfl) ?_)
  (refine WR_take 25 rfl rfl (by kernel_rfl) iP iC (EV_catL (C ++ [42]) D rfl rfl (by simp only [List.length_append, List.length_cons, List.length_nil]; omega)) (by rfl) ?_)
  rw [← hdst]
  (refine WR_t 26 ?_; refine WR_t 27 ?_)
  (refine WR_done (by kernel_rfl) ?_)
  (repeat' first|refine kW ?_|refine kU fun bk=>?_|refine kV fun hc=>?_|refine kZ (fun hc=>?_) fun hc=>?_|fail)
  refine OW_EV (EV_catL src [58] rfl rfl (by simp; omega)) rfl ?_
  (repeat' first|refine kW ?_|refine kU fun bk=>?_|refine kV fun hc=>?_|refine kZ (fun hc=>?_) fun hc=>?_|fail)
  refine OW_EV (EV_catL (src ++ [58]) dst rfl rfl (by simp; omega)) rfl ?_
  (repeat' first|refine kW ?_|refine kU fun bk=>?_|refine kV fun hc=>?_|refine kZ (fun hc=>?_) fun hc=>?_|fail)
  refine OW_callP rfl rfl rfl (n1 _ (by repeat (first | exact hb | apply UtAt.there))) rfl ?_
  (repeat' first|refine kW ?_|refine kU fun bk=>?_|refine kV fun hc=>?_|refine kZ (fun hc=>?_) fun hc=>?_|fail)
  revert bk; intro p1
  refine OW_EV (EV_catL [43] dst rfl rfl (by simp; omega)) rfl ?_
  (repeat' first|refine kW ?_|refine kU fun bk=>?_|refine kV fun hc=>?_|refine kZ (fun hc=>?_) fun hc=>?_|fail)
  refine OW_EV (EV_catL ([43] ++ dst) [58] rfl rfl (by simp; omega)) rfl ?_
  (repeat' first|refine kW ?_|refine kU fun bk=>?_|refine kV fun hc=>?_|refine kZ (fun hc=>?_) fun hc=>?_|fail)
  refine OW_EV (EV_catL ([43] ++ dst ++ [58]) src rfl rfl (by simp; omega)) rfl ?_
  (repeat' first|refine kW ?_|refine kU fun bk=>?_|refine kV fun hc=>?_|refine kZ (fun hc=>?_) fun hc=>?_|fail)
  refine OW_callP rfl rfl rfl (n2 _ (by repeat (first | exact hb | apply UtAt.there))) rfl ?_
  by_cases h60 : 60 < s.length
  · (repeat' first|refine kW ?_|refine kU fun bk=>?_|refine kV fun hc=>?_|refine kZ (fun hc=>?_) fun hc=>?_|fail)
    revert bk; intro p2
    refine OW_callP rfl rfl rfl (haw _ (by repeat (first | exact hb | apply UtAt.there))) rfl ?_
    (repeat' first|refine kW ?_|refine kU fun bk=>?_|refine kV fun hc=>?_|refine kZ (fun hc=>?_) fun hc=>?_|fail)
    exact kE
  obtain ⟨fr, hfrom⟩ : ∃ x, x = A ++ s ++ B := ⟨_, rfl⟩
  obtain ⟨tg, hto⟩ : ∃ x, x = C ++ s ++ D := ⟨_, rfl⟩
  have lfr : fr.length ≤ 100 := by rw [hfrom]; simp; omega
  have lto : tg.length ≤ 100 := by rw [hto]; simp; omega
  have m1 : mpN ⟨false, src, dst⟩ fr = if vlN tg = true then some tg else none := by
    rw [hsrc', hdst', hfrom, hto]
    exact mp_star false A B C D s g1.sa g1.sb g2.sa (g1.pv g2)
  have m2 : mpN ⟨true, dst, src⟩ tg = if vlN fr = true then some fr else none := by
    rw [hsrc', hdst', hfrom, hto]
    exact mp_star true C D A B s g2.sa g2.sb g1.sa (g2.pv g1)
  have x1 := fun L' h => nmap_n ⟨false, src, dst⟩ fr L' h v1 (by omega)
  have y1 := fun L' h => nvalid_n tg L' h (by omega)
  have y2 := fun L' h => nvalid_n fr L' h (by omega)
  simp only [m1, spV] at x1
  cases hv : vlN tg with
  | false =>
    simp only [hv, Bool.false_eq_true, if_false] at x1 y1
    obtain ⟨y, z, x2⟩ : ∃ y z, ∀ L', UtAt L' → GvP Tryd.prog 10 [.agg (spV ⟨true, dst, src⟩).toArray, .string (str [])].toArray L' (.tuple #[.string (str y), .bool z]) := by
      have k1 := fun L' h => nmap_n ⟨true, dst, src⟩ [] L' h v2 (by simp)
      cases hm : mpN ⟨true, dst, src⟩ [] with
      | none =>
        simp only [hm] at k1
        exact ⟨[], false, k1⟩
      | some w =>
        simp only [hm] at k1
        exact ⟨w, true, k1⟩
    simp only [spV] at x2
    (repeat' first|refine kW ?_|refine kU fun bk=>?_|refine kV fun hc=>?_|refine kZ (fun hc=>?_) fun hc=>?_|fail)
    revert bk; intro p2
    refine WC_drawAll [] mixed ?_
    (refine WR_t 0 ?_; refine WR_t 1 ?_)
    (refine WR_take 2 rfl rfl (by kernel_rfl) iP iC (EV_mask (p := 4) rfl rfl (by rfl)) (by rfl) ?_)
    rw [e1]
    (refine WR_take 3 rfl rfl (by kernel_rfl) iP iC (EV_indexAddr (j := i1) rfl rfl rfl hi1) (by rfl) ?_)
    (refine WR_take 4 rfl rfl (by kernel_rfl) iP iC (EV_load rfl (.there (.there (.there .here))) (by rw [Nat.zero_add, Nat.mul_one]; simpa using cA)) (by rfl) ?_)
    (refine WR_t 5 ?_)
    (refine WR_take 6 rfl rfl (by kernel_rfl) iP iC (EV_catL A s rfl rfl (by omega)) (by rfl) ?_)
    (refine WR_t 7 ?_; refine WR_t 8 ?_)
    (refine WR_take 9 rfl rfl (by kernel_rfl) iP iC (EV_shr (r := a.fdiv 4) rfl rfl (by decide) rfl) (by rfl) ?_)
    (refine WR_take 10 rfl rfl (by kernel_rfl) iP iC (EV_mask (p := 4) rfl rfl (by rfl)) (by rfl) ?_)
    rw [e2]
    (refine WR_take 11 rfl rfl (by kernel_rfl) iP iC (EV_indexAddr (j := j1) rfl rfl rfl hj1) (by rfl) ?_)
    (refine WR_take 12 rfl rfl (by kernel_rfl) iP iC (EV_load rfl (.there (.there .here)) (by rw [Nat.zero_add, Nat.mul_one]; simpa using cB)) (by rfl) ?_)
    (refine WR_take 13 rfl rfl (by kernel_rfl) iP iC (EV_catL (A ++ s) B rfl rfl (by rw [List.length_append]; omega)) (by rfl) ?_)
    rw [← hfrom]
    (refine WR_t 14 ?_; refine WR_t 15 ?_)
    (refine WR_take 16 rfl rfl (by kernel_rfl) iP iC (EV_mask (p := 4) rfl rfl (by rfl)) (by rfl) ?_)
    rw [e3]
    (refine WR_take 17 rfl rfl (by kernel_rfl) iP iC (EV_indexAddr (j := i2) rfl rfl rfl hi2) (by rfl) ?_)
    (refine WR_take 18 rfl rfl (by kernel_rfl) iP iC (EV_load rfl (.there (.there (.there .here))) (by rw [Nat.zero_add, Nat.mul_one]; simpa using cC)) (by rfl) ?_)
    (refine WR_t 19 ?_)
    (refine WR_take 20 rfl rfl (by kernel_rfl) iP iC (EV_catL C s rfl rfl (by omega)) (by rfl) ?_)
    (refine WR_t 21 ?_; refine WR_t 22 ?_)
    (refine WR_take 23 rfl rfl (by kernel_rfl) iP iC (EV_shr (r := b.fdiv 4) rfl rfl (by decide) rfl) (by rfl) ?_)
    (refine WR_take 24 rfl rfl (by kernel_rfl) iP iC (EV_mask (p := 4) rfl rfl (by rfl)) (by rfl) ?_)
    rw [e4]
    (refine WR_take 25 rfl rfl (by kernel_rfl) iP iC (EV_indexAddr (j := j2) rfl rfl rfl hj2) (by rfl) ?_)
    (refine WR_take 26 rfl rfl (by kernel_rfl) iP iC (EV_load rfl (.there (.there .here)) (by rw [Nat.zero_add, Nat.mul_one]; simpa using cD)) (by rfl) ?_)
    (refine WR_take 27 rfl rfl (by kernel_rfl) iP iC (EV_catL (C ++ s) D rfl rfl (by rw [List.length_append]; omega)) (by rfl) ?_)
    rw [← hto]
    (refine WR_t 28 ?_; refine WR_t 29 ?_)
    (refine WR_done (by kernel_rfl) ?_)
    (repeat' first|refine kW ?_|refine kU fun bk=>?_|refine kV fun hc=>?_|refine kZ (fun hc=>?_) fun hc=>?_|fail)
    refine OW_callP rfl rfl rfl (x1 _ (by repeat (first | exact hb | apply UtAt.there))) rfl ?_
    (repeat' first|refine kW ?_|refine kU fun bk=>?_|refine kV fun hc=>?_|refine kZ (fun hc=>?_) fun hc=>?_|fail)
    refine OW_callP rfl rfl rfl (y1 _ (by repeat (first | exact hb | apply UtAt.there))) rfl ?_
    (repeat' first|refine kW ?_|refine kU fun bk=>?_|refine kV fun hc=>?_|refine kZ (fun hc=>?_) fun hc=>?_|fail)
    refine OW_callP rfl rfl rfl (x2 _ (by repeat (first | exact hb | apply UtAt.there))) rfl ?_
    (repeat' first|refine kW ?_|refine kU fun bk=>?_|refine kV fun hc=>?_|refine kZ (fun hc=>?_) fun hc=>?_|fail)
    refine OW_callP rfl rfl rfl (haw _ (by repeat (first | exact hb | apply UtAt.there))) rfl ?_
    (repeat' first|refine kW ?_|refine kU fun bk=>?_|refine kV fun hc=>?_|refine kZ (fun hc=>?_) fun hc=>?_|fail)
    exact kE
  | true =>
    simp only [hv, if_true] at x1 y1
    have x2 := fun L' h => nmap_n ⟨true, dst, src⟩ tg L' h v2 (by omega)
    simp only [m2, spV] at x2
    cases hw : vlN fr with
    | false =>
      simp only [hw, Bool.false_eq_true, if_false] at x2 y2
      (repeat' first|refine kW ?_|refine kU fun bk=>?_|refine kV fun hc=>?_|refine kZ (fun hc=>?_) fun hc=>?_|fail)
      revert bk; intro p2
      refine WC_drawAll [] mixed ?_
      (refine WR_t 0 ?_; refine WR_t 1 ?_)
      (refine WR_take 2 rfl rfl (by kernel_rfl) iP iC (EV_mask (p := 4) rfl rfl (by rfl)) (by rfl) ?_)
      rw [e1]
      (refine WR_take 3 rfl rfl (by kernel_rfl) iP iC (EV_indexAddr (j := i1) rfl rfl rfl hi1) (by rfl) ?_)
      (refine WR_take 4 rfl rfl (by kernel_rfl) iP iC (EV_load rfl (.there (.there (.there .here))) (by rw [Nat.zero_add, Nat.mul_one]; simpa using cA)) (by rfl) ?_)
      (refine WR_t 5 ?_)
      (refine WR_take 6 rfl rfl (by kernel_rfl) iP iC (EV_catL A s rfl rfl (by omega)) (by rfl) ?_)
      (refine WR_t 7 ?_; refine WR_t 8 ?_)
      (refine WR_take 9 rfl rfl (by kernel_rfl) iP iC (EV_shr (r := a.fdiv 4) rfl rfl (by decide) rfl) (by rfl) ?_)
      (refine WR_take 10 rfl rfl (by kernel_rfl) iP iC (EV_mask (p := 4) rfl rfl (by rfl)) (by rfl) ?_)
      rw [e2]
      (refine WR_take 11 rfl rfl (by kernel_rfl) iP iC (EV_indexAddr (j := j1) rfl rfl rfl hj1) (by rfl) ?_)
      (refine WR_take 12 rfl rfl (by kernel_rfl) iP iC (EV_load rfl (.there (.there .here)) (by rw [Nat.zero_add, Nat.mul_one]; simpa using cB)) (by rfl) ?_)
      (refine WR_take 13 rfl rfl (by kernel_rfl) iP iC (EV_catL (A ++ s) B rfl rfl (by rw [List.length_append]; omega)) (by rfl) ?_)
      rw [← hfrom]
      (refine WR_t 14 ?_; refine WR_t 15 ?_)
      (refine WR_take 16 rfl rfl (by kernel_rfl) iP iC (EV_mask (p := 4) rfl rfl (by rfl)) (by rfl) ?_)
      rw [e3]
      (refine WR_take 17 rfl rfl (by kernel_rfl) iP iC (EV_indexAddr (j := i2) rfl rfl rfl hi2) (by rfl) ?_)
      (refine WR_take 18 rfl rfl (by kernel_rfl) iP iC (EV_load rfl (.there (.there (.there .here))) (by rw [Nat.zero_add, Nat.mul_one]; simpa using cC)) (by rfl) ?_)
      (refine WR_t 19 ?_)
      (refine WR_take 20 rfl rfl (by kernel_rfl) iP iC (EV_catL C s rfl rfl (by omega)) (by rfl) ?_)
      (refine WR_t 21 ?_; refine WR_t 22 ?_)
      (refine WR_take 23 rfl rfl (by kernel_rfl) iP iC (EV_shr (r := b.fdiv 4) rfl rfl (by decide) rfl) (by rfl) ?_)
      (refine WR_take 24 rfl rfl (by kernel_rfl) iP iC (EV_mask (p := 4) rfl rfl (by rfl)) (by rfl) ?_)
      rw [e4]
      (refine WR_take 25 rfl rfl (by kernel_rfl) iP iC (EV_indexAddr (j := j2) rfl rfl rfl hj2) (by rfl) ?_)
      (refine WR_take 26 rfl rfl (by kernel_rfl) iP iC (EV_load rfl (.there (.there .here)) (by rw [Nat.zero_add, Nat.mul_one]; simpa using cD)) (by rfl) ?_)
      (refine WR_take 27 rfl rfl (by kernel_rfl) iP iC (EV_catL (C ++ s) D rfl rfl (by rw [List.length_append]; omega)) (by rfl) ?_)
      rw [← hto]
      (refine WR_t 28 ?_; refine WR_t 29 ?_)
      (refine WR_done (by kernel_rfl) ?_)
      (repeat' first|refine kW ?_|refine kU fun bk=>?_|refine kV fun hc=>?_|refine kZ (fun hc=>?_) fun hc=>?_|fail)
      refine OW_callP rfl rfl rfl (x1 _ (by repeat (first | exact hb | apply UtAt.there))) rfl ?_
      (repeat' first|refine kW ?_|refine kU fun bk=>?_|refine kV fun hc=>?_|refine kZ (fun hc=>?_) fun hc=>?_|fail)
      refine OW_callP rfl rfl rfl (y1 _ (by repeat (first | exact hb | apply UtAt.there))) rfl ?_
      (repeat' first|refine kW ?_|refine kU fun bk=>?_|refine kV fun hc=>?_|refine kZ (fun hc=>?_) fun hc=>?_|fail)
      refine OW_callP rfl rfl rfl (x2 _ (by repeat (first | exact hb | apply UtAt.there))) rfl ?_
      (repeat' first|refine kW ?_|refine kU fun bk=>?_|refine kV fun hc=>?_|refine kZ (fun hc=>?_) fun hc=>?_|fail)
      refine OW_callP rfl rfl rfl (y2 _ (by repeat (first | exact hb | apply UtAt.there))) rfl ?_
      (repeat' first|refine kW ?_|refine kU fun bk=>?_|refine kV fun hc=>?_|refine kZ (fun hc=>?_) fun hc=>?_|fail)
      refine OW_callP rfl rfl rfl (haw _ (by repeat (first | exact hb | apply UtAt.there))) rfl ?_
      (repeat' first|refine kW ?_|refine kU fun bk=>?_|refine kV fun hc=>?_|refine kZ (fun hc=>?_) fun hc=>?_|fail)
      exact kE
    | true =>
      simp only [hw, if_true] at x2 y2
      (repeat' first|refine kW ?_|refine kU fun bk=>?_|refine kV fun hc=>?_|refine kZ (fun hc=>?_) fun hc=>?_|fail)
      revert bk; intro p2
      refine WC_drawAll [] mixed ?_
      (refine WR_t 0 ?_; refine WR_t 1 ?_)
      (refine WR_take 2 rfl rfl (by kernel_rfl) iP iC (EV_mask (p := 4) rfl rfl (by rfl)) (by rfl) ?_)
      rw [e1]
      (refine WR_take 3 rfl rfl (by kernel_rfl) iP iC (EV_indexAddr (j := i1) rfl rfl rfl hi1) (by rfl) ?_)
      (refine WR_take 4 rfl rfl (by kernel_rfl) iP iC (EV_load rfl (.there (.there (.there .here))) (by rw [Nat.zero_add, Nat.mul_one]; simpa using cA)) (by rfl) ?_)
      (refine WR_t 5 ?_)
      (refine WR_take 6 rfl rfl (by kernel_rfl) iP iC (EV_catL A s rfl rfl (by omega)) (by rfl) ?_)
      (refine WR_t 7 ?_; refine WR_t 8 ?_)
      (refine WR_take 9 rfl rfl (by kernel_rfl) iP iC (EV_shr (r := a.fdiv 4) rfl rfl (by decide) rfl) (by rfl) ?_)
      (refine WR_take 10 rfl rfl (by kernel_rfl) iP iC (EV_mask (p := 4) rfl rfl (by rfl)) (by rfl) ?_)
      rw [e2]
      (refine WR_take 11 rfl rfl (by kernel_rfl) iP iC (EV_indexAddr (j := j1) rfl rfl rfl hj1) (by rfl) ?_)
      (refine WR_take 12 rfl rfl (by kernel_rfl) iP iC (EV_load rfl (.there (.there .here)) (by rw [Nat.zero_add, Nat.mul_one]; simpa using cB)) (by rfl) ?_)
      (refine WR_take 13 rfl rfl (by kernel_rfl) iP iC (EV_catL (A ++ s) B rfl rfl (by rw [List.length_append]; omega)) (by rfl) ?_)
      rw [← hfrom]
      (refine WR_t 14 ?_; refine WR_t 15 ?_)
      (refine WR_take 16 rfl rfl (by kernel_rfl) iP iC (EV_mask (p := 4) rfl rfl (by rfl)) (by rfl) ?_)
      rw [e3]
      (refine WR_take 17 rfl rfl (by kernel_rfl) iP iC (EV_indexAddr (j := i2) rfl rfl rfl hi2) (by rfl) ?_)
      (refine WR_take 18 rfl rfl (by kernel_rfl) iP iC (EV_load rfl (.there (.there (.there .here))) (by rw [Nat.zero_add, Nat.mul_one]; simpa using cC)) (by rfl) ?_)
      (refine WR_t 19 ?_)
      (refine WR_take 20 rfl rfl (by kernel_rfl) iP iC (EV_catL C s rfl rfl (by omega)) (by rfl) ?_)
      (refine WR_t 21 ?_; refine WR_t 22 ?_)
      (refine WR_take 23 rfl rfl (by kernel_rfl) iP iC (EV_shr (r := b.fdiv 4) rfl rfl (by decide) rfl) (by rfl) ?_)
      (refine WR_take 24 rfl rfl (by kernel_rfl) iP iC (EV_mask (p := 4) rfl rfl (by rfl)) (by rfl) ?_)
      rw [e4]
      (refine WR_take 25 rfl rfl (by kernel_rfl) iP iC (EV_indexAddr (j := j2) rfl rfl rfl hj2) (by rfl) ?_)
      (refine WR_take 26 rfl rfl (by kernel_rfl) iP iC (EV_load rfl (.there (.there .here)) (by rw [Nat.zero_add, Nat.mul_one]; simpa using cD)) (by rfl) ?_)
      (refine WR_take 27 rfl rfl (by kernel_rfl) iP iC (EV_catL (C ++ s) D rfl rfl (by rw [List.length_append]; omega)) (by rfl) ?_)
      rw [← hto]
      (refine WR_t 28 ?_; refine WR_t 29 ?_)
      (refine WR_done (by kernel_rfl) ?_)
      (repeat' first|refine kW ?_|refine kU fun bk=>?_|refine kV fun hc=>?_|refine kZ (fun hc=>?_) fun hc=>?_|fail)
      refine OW_callP rfl rfl rfl (x1 _ (by repeat (first | exact hb | apply UtAt.there))) rfl ?_
      (repeat' first|refine kW ?_|refine kU fun bk=>?_|refine kV fun hc=>?_|refine kZ (fun hc=>?_) fun hc=>?_|fail)
      refine OW_callP rfl rfl rfl (y1 _ (by repeat (first | exact hb | apply UtAt.there))) rfl ?_
      (repeat' first|refine kW ?_|refine kU fun bk=>?_|refine kV fun hc=>?_|refine kZ (fun hc=>?_) fun hc=>?_|fail)
      refine OW_callP rfl rfl rfl (x2 _ (by repeat (first | exact hb | apply UtAt.there))) rfl ?_
      (repeat' first|refine kW ?_|refine kU fun bk=>?_|refine kV fun hc=>?_|refine kZ (fun hc=>?_) fun hc=>?_|fail)
      refine OW_callP rfl rfl rfl (y2 _ (by repeat (first | exact hb | apply UtAt.there))) rfl ?_
      (repeat' first|refine kW ?_|refine kU fun bk=>?_|refine kV fun hc=>?_|refine kZ (fun hc=>?_) fun hc=>?_|fail)
      refine OW_callP rfl rfl rfl (haw _ (by repeat (first | exact hb | apply UtAt.there))) rfl ?_
      (repeat' first|refine kW ?_|refine kU fun bk=>?_|refine kV fun hc=>?_|refine kZ (fun hc=>?_) fun hc=>?_|fail)
      exact kE
      exact absurd trivial hc
end
end Go.Proofs.YtehpnblbkldojaaDoor
namespace Go.Proofs.YtehpnblbkldojaaDoor
open Go Go.Vx Go.ChangeShapes Go.WideShapes Go.ChangeAt Go.RowKit Go.Lib
set_option maxRecDepth 100000
set_option linter.all false
def laid14 : List (String × DataW Unit) := [("unicode/utf8.acceptRanges", Rows.laid_unicode_utf8_acceptRanges), ("unicode/utf8.first", Rows.laid_unicode_utf8_first)]
def nums14 (k : IntKind) : List (DataW Unit) → List Value
  | [] => []
  | .lit (.int _ z) :: r => .int k z :: nums14 k r
  | .agg [.lit (.int _ z), .lit (.int _ y)] :: r => .int k z :: .int k y :: nums14 k r
  | _ :: r => nums14 k r
def parts14 : DataW Unit → List (DataW Unit)
  | .agg l => l
  | _ => []
def tabAc : List Value := nums14 .u8 (parts14 Rows.laid_unicode_utf8_acceptRanges)
def tabFi : List Value := nums14 .u8 (parts14 Rows.laid_unicode_utf8_first)
theorem first_eq : Rows.laid_unicode_utf8_first = firstData := by kernel_rfl
theorem accept_eq : Rows.laid_unicode_utf8_acceptRanges (H := Unit) = acceptData := by kernel_rfl
theorem met_plain {W : World} (h : laidMetH Tryd.prog laid14 W) : laidMet Tryd.prog laid14 W := by
  have e : laid14.filter (fun x => x.2.handleName?.isSome) = [] := by kernel_rfl
  unfold laidMetH at h
  rw [e] at h
  exact h
theorem u8extra : U8Extra Tryd.prog sh_v_ren := ⟨by kernel_rfl, by kernel_rfl, by kernel_rfl, by kernel_rfl, by kernel_rfl, by kernel_rfl, by kernel_rfl⟩
theorem ut_met {W : World} (hL : laidMetH Tryd.prog laid14 W) (hsh : W.ShapedOpen Tryd.prog) [W0] : UtAt [blks W] := by
  obtain ⟨ps, hv, _⟩ := met_plain hL
  have r3 := LaidVars_reads hv "unicode/utf8.first" Rows.laid_unicode_utf8_first (by simp [laid14])
  have r4 := LaidVars_reads hv "unicode/utf8.acceptRanges" Rows.laid_unicode_utf8_acceptRanges (by simp [laid14])
  rw [first_eq] at r3
  rw [accept_eq] at r4
  have hut := utf8Tabs_of_readsT (U8Types.of196 sh_v) u8extra r3 r4
  have hmx : ∃ m, W.cell? ⟨2, 0, none⟩ = some (.int .i64 m) :=
    cell_of_shapedOpen_int (t := 3) (zero := #[.int .i64 0]) hsh (of_decide_eq_true (by kernel_rfl)) (by kernel_rfl) (by kernel_rfl) (by kernel_rfl) (by kernel_rfl) Tryd.underlying3
  have hkeep : ∀ w, Vx.Holds w [blks W] → ∀ k, k < W.heap.size → w.heap[k]? = W.heap[k]? := fun w hw k hk => by
    have hm : W.heap[k]? = some W.heap[k] := by simp [hk]
    rw [hm]
    exact hw.2.1 (k, W.heap[k]) (by simpa using blks_mem.2 hm)
  have hlt : ∀ {a : Addr} {v : Value}, W.cell? a = some v → a.block < W.heap.size := fun {a} {v} h => by
    rcases Nat.lt_or_ge a.block W.heap.size with h' | h'
    · exact h'
    · have : W.heap[a.block]? = none := by simp; omega
      simp [World.cell?, this] at h
  have hcell : ∀ w, Vx.Holds w [blks W] → ∀ {a : Addr} {v : Value}, W.cell? a = some v → w.cell? a = some v := fun w hw {a} {v} h => by
    have hb := hkeep w hw a.block (hlt h)
    rw [← h]
    unfold World.cell?
    rw [hb]
  exact ⟨fun w hw => ⟨fun c hc => hcell w hw (hut.1 c hc), fun i hi => ⟨hcell w hw (hut.2 i hi).1, hcell w hw (hut.2 i hi).2⟩⟩, hmx.imp fun m hm w hw => hcell w hw hm⟩
theorem reach_str14 {H : Type} {ts : List TypeId} {ds : List (DataW H)} (h : (DataW.weightsEach Tryd.prog ts ds).all (· ≤ reachBytes) = true) {j : Nat} {t : TypeId} {s : ByteArray} (ht : ts[j]? = some t) (hd : ds[j]? = some (.lit (.string s.data.toList))) : s.data.toList.length ≤ 140737488351232 := by
  have := sized_string h ht hd
  have h3 : reachBytes = 140737488351232 := rfl
  omega
end Go.Proofs.YtehpnblbkldojaaDoor
namespace Go.Proofs.YtehpnblbkldojaaDoor
open Go Go.Vx Go.Ob Go.ChangeShapes Go.WideShapes Go.ChangeAt Go.RowKit
set_option linter.all false
set_option maxRecDepth 4000
theorem top_row (H : Type) (enc : TypeId × Value → H) (W : World) (base : Nat) (args : Array Value) (ds gs : List (DataW H)) (before : List MemPlace)
    (hval : ∀ (j : Nat) t v, Tryd.f3.params[j]? = some t → args[j]? = some v → Value.okWide Tryd.prog W .any base t v)
    (hW : DataW.Whole enc Tryd.prog Tryd.f3.params.toList Rows.nameStarsSpec.vars false W args.toList ds gs before)
    (hz : (DataW.weightsEach Tryd.prog (Tryd.f3.params.toList ++ Rows.nameStarsSpec.plain.varTypes Tryd.prog) (ds ++ gs)).all (· ≤ reachBytes) = true) (hL : laidMetH Tryd.prog laid14 W) (hsh : W.ShapedOpen Tryd.prog) :
    Calls Tryd.prog 3 args W fun e W' => ∃ v, e = .returned v ∧ Rows.nameStarsSpec.post enc Tryd.prog Tryd.f3 false true false false W args v W' := by
  have hW' := hW
  obtain ⟨p, q, hA0, hV, rfl, hfz, hnd⟩ := hW
  have hA : DataW.TrodAll enc Tryd.prog W 0 (fun _ => true) true Tryd.f3.params.toList args.toList ds p := hA0
  rw [Tryd.params3] at hA hval hz
  obtain ⟨v0, vs0, d0, ds0, p0, q0, hargs, rfl, rfl, h0, r0⟩ := trodAll_cons hA
  obtain ⟨v1, vs1, d1, ds1, p1, q1, rfl, rfl, rfl, h1, r1⟩ := trodAll_cons r0
  obtain ⟨v2, vs2, d2, ds2, p2, q2, rfl, rfl, rfl, h2, r2⟩ := trodAll_cons r1
  obtain ⟨rfl, rfl, rfl⟩ := trodAll_nil r2
  obtain rfl : args = #[v0, v1, v2] := by cases args; simp_all
  obtain ⟨rfl, rfl⟩ := trodVars_none hV
  obtain ⟨n0, rfl, rfl, rfl, w0⟩ := open_int Tryd.underlying3 (hval 0 _ v0 rfl rfl) h0
  obtain ⟨n1, rfl, rfl, rfl, w1⟩ := open_int Tryd.underlying3 (hval 1 _ v1 rfl rfl) h1
  obtain ⟨t2, rfl, rfl, rfl, w2⟩ := ChangeMaps.open_string Tryd.underlying9 (hval 2 _ v2 rfl rfl) h2
  have r2s : t2.data.toList.length ≤ 140737488351232 := reach_str14 hz (j := 2) rfl rfl
  clear hA0
  have hc : Calls Tryd.prog 3 #[.int .i64 n0, .int .i64 n1, .string t2] W fun e W' => e = .returned (.bool true) ∧ Kept W W' := by
    refine bridge (fun {i} => ?_)
    have ht := ut_met hL hsh
    obtain ⟨s, rfl, hsl⟩ := str_of t2
    rw [str_data] at r2s
    exact namestars_n n0 n1 s _ ht (by omega)
  refine hc.mono fun e W' ⟨he, bel⟩ => ?_
  subst he
  exact ⟨_, rfl, _, _, _, [], _, [], hW', trodAll_mk1 (shut_bool Tryd.underlying4 _), (trodAll_cons_mk (shut_int Tryd.underlying3 w0) (trodAll_cons_mk (shut_int Tryd.underlying3 w1) (trodAll_cons_mk (ChangeMaps.shut_string Tryd.underlying9 w2) trodAll_mk0))), rfl, bel.frame _, fun h => by cases h⟩
def putT (w : World) (g : Nat) (zs : List Value) : World := { w with heap := w.heap.modify g fun
      | .cells _ t frozen => .cells zs.toArray t frozen
      | o => o }
noncomputable def laidWorld (os : Os) : World :=
  putT (putT (World.holding Tryd.prog os ⟨#[], #[], []⟩) 1 tabAc) 0 tabFi
theorem laid_met (os : Os) : laidMet Tryd.prog Rows.nameStarsRow.laid ((laidWorld os).forCall (fun _ _ => 0) ⟨#[], #[.int .i64 0, .int .i64 0, .string .empty], []⟩).memory :=
  laidMet_of_run' 8 (by kernel_rfl) (by kernel_rfl)
theorem reads (os : Os) {H : Type} (enc : TypeId × Value → H) : ∃ places, DataW.whole enc Tryd.prog ((laidWorld os).forCall (fun _ _ => 0) ⟨#[], #[.int .i64 0, .int .i64 0, .string .empty], []⟩).memory Tryd.f3.params.toList Rows.nameStarsSpec.vars false #[.int .i64 0, .int .i64 0, .string .empty].toList 8 = some ([.lit (.int .i64 0), .lit (.int .i64 0), .lit (.string [])], [], places) :=
  ⟨[], by kernel_rfl⟩
set_option maxRecDepth 100000 in
theorem top_lifted (os : Os) (started : os.Started) (H : Type) (enc : TypeId × Value → H) (F : Stop.Interp) :
    ReturnsInHanded {} Tryd.checked os 3 .any ((OpenSpec.ofChange Rows.nameStarsSpec).preRow enc Tryd.prog Tryd.f3 Rows.nameStarsRow.domain false Rows.nameStarsRow.laid) (((OpenSpec.ofChange Rows.nameStarsSpec).at F).post enc Tryd.prog Tryd.f3 false true false false) := by
  obtain ⟨places, hx⟩ := reads os enc
  refine returnsInHanded_of_row (C := Tryd.checked) (s := (OpenSpec.ofChange Rows.nameStarsSpec)) Tryd.own started (by kernel_rfl) Tryd.func3
    (witness_row_at (enc := enc) (C := Tryd.checked) false (laidWorld os) #[.int .i64 0, .int .i64 0, .string .empty] rfl (by kernel_rfl) (by kernel_rfl) (by kernel_rfl)
      (OpenSpec.preRow_of_cond 8 hx (by kernel_rfl) (fun k hk => by cases hk) (by kernel_rfl) (laid_met os))) ?_
  intro W base args ds gs before hval hW _ hcond hz hL hsh _
  exact top_row H enc W base args ds gs before hval hW hz hL hsh
theorem top_over : Rows.NameStarsSaid :=
  OpenClaim.holds_of_cond 3 Tryd.f3 rfl rfl rfl rfl rfl rfl rfl ⟨rfl, rfl, rfl, rfl, rfl⟩ rfl rfl rfl rfl rfl (by kernel_rfl) Tryd.func3 (by kernel_rfl)
    (of_decide_eq_true (by kernel_rfl)) (by unfold Func.isWrapper; first | (rw [if_pos (by decide +kernel)]; kernel_rfl) | (rw [if_neg (by decide +kernel)]; exact ⟨rfl, rfl⟩))
    (fun os started H enc _ F => by rw [OpenClaim.pre_eq_preRow]; exact top_lifted os started H enc F)
theorem top_plain (f : FuncId) (fn : Func) (hf : Tryd.pinned.checked.prog.funcNamed "stemma/stemmalaw14.NameStars" = some f) (hfn : Tryd.pinned.checked.prog.funcs[f]? = some fn) :
    false = Tryd.pinned.checked.prog.looks [] ∧ ∀ (j : Nat) t, fn.params[j]? = some t → Tryd.pinned.checked.prog.wantsStandIn t = false := by
  obtain rfl : f = 3 := Option.some.inj ((show Tryd.prog.funcNamed "stemma/stemmalaw14.NameStars" = some 3 by kernel_rfl).symm.trans hf) |>.symm
  obtain rfl : fn = Tryd.f3 := (Option.some.inj (Tryd.func3.symm.trans hfn)).symm
  have all : (Tryd.f3.params.toList.all fun t => !Tryd.prog.wantsStandIn t) = true := by kernel_rfl
  refine ⟨by kernel_rfl, fun j t ht => ?_⟩
  have hm : t ∈ Tryd.f3.params.toList := by
    have := Array.mem_of_getElem? ht
    simpa using this
  have := List.all_eq_true.1 all t hm
  show Tryd.prog.wantsStandIn t = false
  simpa using this
theorem top_holds : Rows.NameStarsCardSaid :=
  Claim7.holds_tied_plain_at .later [] _ _ _ _ top_over (fun _ h => by cases h) (by kernel_rfl) (fun _ h => by cases h) nameStars_row_tie rfl ⟨rfl, rfl⟩ (by kernel_rfl) rfl top_plain (by kernel_rfl)
end Go.Proofs.YtehpnblbkldojaaDoor
