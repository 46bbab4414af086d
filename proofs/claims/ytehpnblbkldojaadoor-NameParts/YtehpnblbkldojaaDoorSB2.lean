/- NameParts returns true and leaves its arguments as they were, for every argument; the table that the program reads is tied to its text (the card). No conditions beyond the row's. -/
import Derived.Test.YtehpnblbkldojaaDoorSB1
namespace Go.Nm
open Go Go.Lib
set_option linter.all false
def tgP (a d s : List UInt8) : List UInt8 × Bool :=
  if 42 ∈ a then
    if ((cuS 42 a).1.length ≤ s.length ∧ s.take (cuS 42 a).1.length = (cuS 42 a).1) ∧ endB (s.drop (cuS 42 a).1.length) (cuS 42 a).2.1 = true ∧ 42 ∉ (cuS 42 a).2.1 ∧ 42 ∈ d then
      (rp1 d ((s.drop (cuS 42 a).1.length).take ((s.drop (cuS 42 a).1.length).length - (cuS 42 a).2.1.length)), true)
    else ([], false)
  else (d, decide (s = a))
theorem tg_p (a d s : List UInt8) : tgN a d s = if (tgP a d s).2 = true then some (tgP a d s).1 else none := by
  unfold tgN tgP
  split
  · split
    · rfl
    · rfl
  · simp only [decide_eq_true_eq]
theorem rp1_le (s x : List UInt8) : (rp1 s x).length ≤ s.length + x.length := by
  unfold rp1
  split
  · omega
  · simp only [List.length_append, List.length_take, List.length_drop]
    omega
theorem tgP_le (a d s : List UInt8) : (tgP a d s).1.length ≤ d.length + s.length := by
  unfold tgP
  split
  · split
    · refine Nat.le_trans (rp1_le _ _) ?_
      simp only [List.length_take, List.length_drop]
      omega
    · simp
  · simp
theorem mp_tg (f : Bool) (a d s : List UInt8) (h : pvN a d = true) : mpN ⟨f, a, d⟩ s = if (tgP a d s).2 = true ∧ vlN (tgP a d s).1 = true then some (tgP a d s).1 else none := by
  rw [mp_prog f a d s h, tg_p]
  generalize (tgP a d s).1 = y
  generalize (tgP a d s).2 = b
  cases b <;> cases hv : vlN y <;> simp [hv]
end Go.Nm
namespace Go.Proofs.YtehpnblbkldojaaDoor
open Go Go.Vx Go.Nm Go.Ob Go.Lib
set_option linter.all false
set_option maxRecDepth 4000
section
variable [W0]
theorem cut0_n (s : List UInt8) (c : UInt8) (L : List Chunk) (hs : s.length ≤ 9223372036854775000) : GvP Tryd.prog 33 [.string (str s), .string (str [c])].toArray L (.tuple #[.string (str (cuS c s).1), .string (str (cuS c s).2.1), .bool (cuS c s).2.2]) := by
  refine Gv.of_body (args := [.string (str s), .string (str [c])]) Tryd.func33 rfl rfl ?_
  have z1 : (str s).size = s.length := str_size s
  have z2 : (str [c]).size = 1 := rfl
  have hi := index0_n s c L
  rcases ix_cases c s with ⟨h1, h2⟩ | ⟨k, h1, h2, h3, h4⟩
  · rw [cu_none h1]
    rw [h2] at hi
    (repeat' first|refine kW ?_|refine kU fun bk=>?_|refine kV fun hc=>?_|refine kZ (fun hc=>?_) fun hc=>?_|fail)
    refine OW_callP rfl rfl rfl hi rfl ?_
    (repeat' first|refine kW ?_|refine kU fun bk=>?_|refine kV fun hc=>?_|refine kZ (fun hc=>?_) fun hc=>?_|fail)
    exact kE
  · have e : cuS c s = (s.take k, s.drop (k + 1), true) := by
      unfold cuS
      rw [h2, if_neg (by omega), Int.toNat_natCast]
    rw [e]
    rw [h2] at hi
    clear e
    (repeat' first|refine kW ?_|refine kU fun bk=>?_|refine kV fun hc=>?_|refine kZ (fun hc=>?_) fun hc=>?_|fail)
    refine OW_callP rfl rfl rfl hi rfl ?_
    (repeat' first|refine kW ?_|refine kU fun bk=>?_|refine kV fun hc=>?_|refine kZ (fun hc=>?_) fun hc=>?_|fail)
    refine WC_drawAll [] mixed ?_
    (refine WR_t 0 ?_; refine WR_t 1 ?_)
    (refine WR_take 2 rfl rfl (by kernel_rfl) iP iC (EV_cutL s 0 k rfl rfl (bnd_int rfl rfl) (Nat.zero_le _) (by omega)) (by rfl) ?_)
    rw [List.drop_zero, Nat.sub_zero]
    (refine WR_t 3 ?_; refine WR_t 4 ?_; refine WR_t 5 ?_; refine WR_t 6 ?_; refine WR_t 7 ?_)
    (refine WR_take 8 rfl rfl (by kernel_rfl) iP iC (EV_cutL s (k + 1) s.length rfl (bnd_int rfl (by omega)) rfl (by omega) (Nat.le_refl _)) (by rfl) ?_)
    rw [List.take_of_length_le (l := s.drop (k + 1)) (by simp)]
    (refine WR_t 9 ?_; refine WR_t 10 ?_; refine WR_t 11 ?_)
    (refine WR_done (by kernel_rfl) ?_)
    (repeat' first|refine kW ?_|refine kU fun bk=>?_|refine kV fun hc=>?_|refine kZ (fun hc=>?_) fun hc=>?_|fail)
    exact kE
theorem cut_n (s : List UInt8) (c : UInt8) (L : List Chunk) (hs : s.length ≤ 9223372036854775000) : GvP Tryd.prog 21 [.string (str s), .string (str [c])].toArray L (.tuple #[.string (str (cuS c s).1), .string (str (cuS c s).2.1), .bool (cuS c s).2.2]) := by
  refine Gv.of_body (args := [.string (str s), .string (str [c])]) Tryd.func21 rfl rfl ?_
  have h := cut0_n s c L hs
  generalize cuS c s = r at *
  (repeat' first|refine kW ?_|refine kU fun bk=>?_|refine kV fun hc=>?_|refine kZ (fun hc=>?_) fun hc=>?_|fail)
  refine OW_callP rfl rfl rfl h rfl ?_
  (repeat' first|refine kW ?_|refine kU fun bk=>?_|refine kV fun hc=>?_|refine kZ (fun hc=>?_) fun hc=>?_|fail)
  exact kE
omit [W0] in
theorem pl_cut (s : List UInt8) : (if [43].length ≤ s.length ∧ s.take [43].length = [43] then Value.tuple #[.string (str (s.drop [43].length)), .bool true] else .tuple #[.string (str s), .bool false]) = .tuple #[.string (str (plN s).2), .bool (plN s).1] := by
  rcases pl_cases s with ⟨r, rfl, e⟩ | ⟨e, h⟩
  · rw [e, if_pos (by simp)]
    rfl
  · rw [e, if_neg]
    rintro ⟨h1, h2⟩
    rcases s with _ | ⟨c, r⟩
    · simp at h1
    · exact h c r rfl (by simpa using h2)
omit [W0] in
theorem cu_le (c : UInt8) (u : List UInt8) : (cuS c u).1.length ≤ u.length ∧ (cuS c u).2.1.length ≤ u.length := by
  unfold cuS
  split
  · exact ⟨Nat.le_refl _, by simp⟩
  · exact ⟨by simp; omega, by simp⟩
set_option maxHeartbeats 8000000 in
theorem nparse_n (s : List UInt8) (L : List Chunk) (hb : UtAt L) (hs : s.length ≤ 2000000) : GvP Tryd.prog 8 [.string (str s)].toArray L (match psN s with | some p => .tuple #[.agg (spV p).toArray, .int .i64 0] | none => .tuple #[.agg (spV ⟨false, [], []⟩).toArray, .int .i64 3]) := by
  refine Gv.of_body (args := [.string (str s)]) Tryd.func8 rfl rfl ?_
  have hcp : ∀ L, GvP Tryd.prog 20 [.string (str s), .string (str [43])].toArray L (.tuple #[.string (str (plN s).2), .bool (plN s).1]) := fun L => by
    rw [← pl_cut]
    exact cutprefix_n s [43] L (by omega) (by decide)
  rw [ps_prog]
  have hul : (plN s).2.length ≤ s.length := by
    rcases pl_cases s with ⟨r, rfl, e⟩ | ⟨e, h⟩
    · rw [e]; simp
    · rw [e]; exact Nat.le_refl _
  generalize (plN s).1 = fo at *
  generalize (plN s).2 = u at *
  have hcu := fun L => cut_n u 58 L (by omega)
  obtain ⟨l1, l2⟩ := cu_le 58 u
  obtain ⟨a, ha⟩ : ∃ a, a = (cuS 58 u).1 := ⟨_, rfl⟩
  obtain ⟨b, hb0⟩ : ∃ b, b = (cuS 58 u).2.1 := ⟨_, rfl⟩
  obtain ⟨tw, htw⟩ : ∃ t, t = (cuS 58 u).2.2 := ⟨_, rfl⟩
  rw [← ha, ← hb0, ← htw] at hcu
  rw [← ha, ← hb0, ← htw]
  rw [← ha] at l1
  rw [← hb0] at l2
  clear ha hb0 htw
  obtain ⟨d, hd⟩ : ∃ d, d = (if tw = true then b else a) := ⟨_, rfl⟩
  rw [← hd]
  have ld : d.length ≤ u.length := by rw [hd]; split <;> assumption
  have hpv : ∀ L (h : UtAt L), GvP Tryd.prog 22 [.agg (spV ⟨fo, a, d⟩).toArray].toArray L (.bool (pvN a d)) := fun L h => pvalid_n ⟨fo, a, d⟩ L h (by simp only; omega) (by simp only; omega)
  refine WC_seq ?_
  (repeat' first|refine kY ?_|refine kU fun bk=>?_|refine kV fun hc=>?_|refine kZ (fun hc=>?_) fun hc=>?_|fail)
  revert bk; intro r
  refine WC_seq ?_
  (repeat' first|refine kY ?_|refine kU fun bk=>?_|refine kV fun hc=>?_|refine kZ (fun hc=>?_) fun hc=>?_|fail)
  refine OW_callP rfl rfl rfl (hcp _) rfl ?_
  (repeat' first|refine kY ?_|refine kU fun bk=>?_|refine kV fun hc=>?_|refine kZ (fun hc=>?_) fun hc=>?_|fail)
  refine WC_seq ?_
  (repeat' first|refine kY ?_|refine kU fun bk=>?_|refine kV fun hc=>?_|refine kZ (fun hc=>?_) fun hc=>?_|fail)
  refine OW_callP rfl rfl rfl (hcu _) rfl ?_
  (repeat' first|refine kY ?_|refine kU fun bk=>?_|refine kV fun hc=>?_|refine kZ (fun hc=>?_) fun hc=>?_|fail)
  refine WC_cut (X := Unit) (fun _ => [(2, .pointer (some ⟨r, 0, none⟩)), (3, .int .i64 0), (4, .string (str a)), (5, .bool fo), (6, .string (str d))]) (fun _ => [(r, cl [.bool false, .string (str []), .string (str [])] 25)] :: L) (fun _ => True) ?_ ?_
  · cases tw with
    | true =>
      rw [if_pos rfl] at hd
      subst hd
      (repeat' first|refine kW ?_|refine kU fun bk=>?_|refine kV fun hc=>?_|refine kZ (fun hc=>?_) fun hc=>?_|fail)
      exact WQ_cut () trivial iS (fun w h => h)
    | false =>
      rw [if_neg Bool.false_ne_true] at hd
      subst hd
      (repeat' first|refine kW ?_|refine kU fun bk=>?_|refine kV fun hc=>?_|refine kZ (fun hc=>?_) fun hc=>?_|fail)
      exact WQ_cut () trivial iS (fun w h => h)
  intro _ _
  clear hd hcp hcu
  cases hv : pvN a d with
  | true =>
    simp only [hv] at hpv
    rw [if_pos rfl]
    (repeat' first|refine kW ?_|refine kU fun bk=>?_|refine kV fun hc=>?_|refine kZ (fun hc=>?_) fun hc=>?_|fail)
    revert bk; intro q
    refine OW_callP rfl rfl rfl (hpv _ hb.there.there) rfl ?_
    (repeat' first|refine kW ?_|refine kU fun bk=>?_|refine kV fun hc=>?_|refine kZ (fun hc=>?_) fun hc=>?_|fail)
    first
      | (refine WQ_retC (vs := [.agg (spV ⟨fo, a, d⟩).toArray, .int .i64 0]) rfl (.agg ⟨by kernel_rfl, by kernel_rfl⟩ rfl (RdAt.cl' (vs := spV ⟨fo, a, d⟩) (by repeat (first | assumption | exact Fnd.here | refine Fnd.there ?_)) rfl) rfl (.tmp rfl .nil)) ?_
         exact ⟨_, fun w h => h.drop.drop, rfl, rfl⟩)
      | (refine WQ_endC (vs := [.agg (spV ⟨fo, a, d⟩).toArray, .int .i64 0]) rfl (.agg ⟨by kernel_rfl, by kernel_rfl⟩ rfl (RdAt.cl' (vs := spV ⟨fo, a, d⟩) (by repeat (first | assumption | exact Fnd.here | refine Fnd.there ?_)) rfl) rfl (.tmp rfl .nil)) ?_
         exact ⟨_, fun w h => h.drop.drop, rfl, rfl⟩)
  | false =>
    simp only [hv] at hpv
    rw [if_neg Bool.false_ne_true]
    (repeat' first|refine kW ?_|refine kU fun bk=>?_|refine kV fun hc=>?_|refine kZ (fun hc=>?_) fun hc=>?_|fail)
    revert bk; intro q
    refine OW_callP rfl rfl rfl (hpv _ hb.there.there) rfl ?_
    (repeat' first|refine kW ?_|refine kU fun bk=>?_|refine kV fun hc=>?_|refine kZ (fun hc=>?_) fun hc=>?_|fail)
    first
      | (refine WQ_retC (vs := [.agg (spV ⟨false, [], []⟩).toArray, .int .i64 3]) rfl (.agg ⟨by kernel_rfl, by kernel_rfl⟩ rfl (RdAt.cl' (vs := spV ⟨false, [], []⟩) (by repeat (first | assumption | exact Fnd.here | refine Fnd.there ?_)) rfl) rfl (.tmp rfl .nil)) ?_
         exact ⟨_, fun w h => h.drop.drop, rfl, rfl⟩)
      | (refine WQ_endC (vs := [.agg (spV ⟨false, [], []⟩).toArray, .int .i64 3]) rfl (.agg ⟨by kernel_rfl, by kernel_rfl⟩ rfl (RdAt.cl' (vs := spV ⟨false, [], []⟩) (by repeat (first | assumption | exact Fnd.here | refine Fnd.there ?_)) rfl) rfl (.tmp rfl .nil)) ?_
         exact ⟨_, fun w h => h.drop.drop, rfl, rfl⟩)
set_option maxHeartbeats 8000000 in
theorem ntarget_n (p : Sp) (s : List UInt8) (L : List Chunk) (hb : UtAt L) (h1 : p.src.length ≤ 2000000) (h2 : p.dst.length ≤ 2000000) (h3 : s.length ≤ 2000000) : GvP Tryd.prog 23 [.agg (spV p).toArray, .string (str s)].toArray L (.tuple #[.string (str (tgP p.src p.dst s).1), .bool (tgP p.src p.dst s).2]) := by
  obtain ⟨f, a, d⟩ := p
  simp only at h1 h2 ⊢
  refine Gv.of_body (args := [.agg (spV ⟨f, a, d⟩).toArray, .string (str s)]) Tryd.func23 rfl rfl ?_
  unfold spV
  have hcu := fun L => cut_n a 42 L (by omega)
  by_cases g : 42 ∈ a
  rotate_left
  · rw [show tgP a d s = (d, decide (s = a)) from by unfold tgP; rw [if_neg g]]
    simp only [cu_none g] at hcu
    (repeat' first|refine kW ?_|refine kU fun bk=>?_|refine kV fun hc=>?_|refine kZ (fun hc=>?_) fun hc=>?_|fail)
    revert bk; intro q
    refine OW_callP rfl rfl rfl (hcu _) rfl ?_
    (repeat' first|refine kW ?_|refine kU fun bk=>?_|refine kV fun hc=>?_|refine kZ (fun hc=>?_) fun hc=>?_|fail)
    refine WC_drawAll [] mixed ?_
    (refine WR_t 0 ?_; refine WR_t 1 ?_; refine WR_t 2 ?_; refine WR_t 3 ?_; refine WR_t 4 ?_)
    (refine WR_take 5 rfl rfl (by kernel_rfl) iP iC (EV_eqL s a rfl rfl) (by rfl) ?_)
    (refine WR_t 6 ?_; refine WR_t 7 ?_)
    (refine WR_done (by kernel_rfl) ?_)
    (repeat' first|refine kW ?_|refine kU fun bk=>?_|refine kV fun hc=>?_|refine kZ (fun hc=>?_) fun hc=>?_|fail)
    exact kE
  obtain ⟨l1, l2⟩ := cu_le 42 a
  have htw : (cuS 42 a).2.2 = true := by
    rcases ix_cases 42 a with h | ⟨k, k1, k2, k3, k4⟩
    · exact absurd g h.1
    · unfold cuS
      rw [k2, if_neg (by omega)]
  have htg : tgP a d s = if ((cuS 42 a).1.length ≤ s.length ∧ s.take (cuS 42 a).1.length = (cuS 42 a).1) ∧ endB (s.drop (cuS 42 a).1.length) (cuS 42 a).2.1 = true ∧ 42 ∉ (cuS 42 a).2.1 ∧ 42 ∈ d then
      (rp1 d ((s.drop (cuS 42 a).1.length).take ((s.drop (cuS 42 a).1.length).length - (cuS 42 a).2.1.length)), true)
    else ([], false) := by
    unfold tgP
    rw [if_pos g]
  rw [htg]
  simp only [htw] at hcu
  clear htg htw
  generalize (cuS 42 a).1 = bg at *
  generalize (cuS 42 a).2.1 = en at *
  have hcp := fun L => cutprefix_n s bg L (by omega) (by omega)
  by_cases c1 : bg.length ≤ s.length ∧ s.take bg.length = bg
  rotate_left
  · simp only [if_neg c1] at hcp
    rw [if_neg (fun w => c1 w.1)]
    have hcs := fun L => cutsuffix_n s en L (by omega) (by omega)
    obtain ⟨y, z, hyz⟩ : ∃ y z, (if endB s en = true then Value.tuple #[.string (str (s.take (s.length - en.length))), .bool true] else .tuple #[.string (str s), .bool false]) = .tuple #[.string y, .bool z] := by
      split
      · exact ⟨_, _, rfl⟩
      · exact ⟨_, _, rfl⟩
    simp only [hyz] at hcs
    (repeat' first|refine kW ?_|refine kU fun bk=>?_|refine kV fun hc=>?_|refine kZ (fun hc=>?_) fun hc=>?_|fail)
    revert bk; intro q
    refine OW_callP rfl rfl rfl (hcu _) rfl ?_
    (repeat' first|refine kW ?_|refine kU fun bk=>?_|refine kV fun hc=>?_|refine kZ (fun hc=>?_) fun hc=>?_|fail)
    refine OW_callP rfl rfl rfl (hcp _) rfl ?_
    (repeat' first|refine kW ?_|refine kU fun bk=>?_|refine kV fun hc=>?_|refine kZ (fun hc=>?_) fun hc=>?_|fail)
    refine OW_callP rfl rfl rfl (hcs _) rfl ?_
    (repeat' first|refine kW ?_|refine kU fun bk=>?_|refine kV fun hc=>?_|refine kZ (fun hc=>?_) fun hc=>?_|fail)
    exact kE
  simp only [if_pos c1] at hcp
  obtain ⟨re, hre⟩ : ∃ re, re = s.drop bg.length := ⟨_, rfl⟩
  have lre : re.length ≤ s.length := by rw [hre]; simp
  rw [← hre]
  simp only [← hre] at hcp
  have hcs := fun L => cutsuffix_n re en L (by omega) (by omega)
  by_cases c2 : endB re en = true
  rotate_left
  · simp only [if_neg c2] at hcs
    rw [if_neg (fun w => c2 w.2.1)]
    (repeat' first|refine kW ?_|refine kU fun bk=>?_|refine kV fun hc=>?_|refine kZ (fun hc=>?_) fun hc=>?_|fail)
    revert bk; intro q
    refine OW_callP rfl rfl rfl (hcu _) rfl ?_
    (repeat' first|refine kW ?_|refine kU fun bk=>?_|refine kV fun hc=>?_|refine kZ (fun hc=>?_) fun hc=>?_|fail)
    refine OW_callP rfl rfl rfl (hcp _) rfl ?_
    (repeat' first|refine kW ?_|refine kU fun bk=>?_|refine kV fun hc=>?_|refine kZ (fun hc=>?_) fun hc=>?_|fail)
    refine OW_callP rfl rfl rfl (hcs _) rfl ?_
    (repeat' first|refine kW ?_|refine kU fun bk=>?_|refine kV fun hc=>?_|refine kZ (fun hc=>?_) fun hc=>?_|fail)
    exact kE
  simp only [if_pos c2] at hcs
  obtain ⟨mi, hmi⟩ : ∃ mi, mi = re.take (re.length - en.length) := ⟨_, rfl⟩
  have lmi : mi.length ≤ s.length := by rw [hmi]; simp; omega
  rw [← hmi]
  simp only [← hmi] at hcs
  have ce := fun L => contains_n en 42 L
  have cd := fun L => contains_n d 42 L
  by_cases c3 : 42 ∈ en
  · simp only [decide_eq_true c3] at ce
    rw [if_neg (fun w => w.2.2.1 c3)]
    (repeat' first|refine kW ?_|refine kU fun bk=>?_|refine kV fun hc=>?_|refine kZ (fun hc=>?_) fun hc=>?_|fail)
    revert bk; intro q
    refine OW_callP rfl rfl rfl (hcu _) rfl ?_
    (repeat' first|refine kW ?_|refine kU fun bk=>?_|refine kV fun hc=>?_|refine kZ (fun hc=>?_) fun hc=>?_|fail)
    refine OW_callP rfl rfl rfl (hcp _) rfl ?_
    (repeat' first|refine kW ?_|refine kU fun bk=>?_|refine kV fun hc=>?_|refine kZ (fun hc=>?_) fun hc=>?_|fail)
    refine OW_callP rfl rfl rfl (hcs _) rfl ?_
    (repeat' first|refine kW ?_|refine kU fun bk=>?_|refine kV fun hc=>?_|refine kZ (fun hc=>?_) fun hc=>?_|fail)
    refine OW_callP rfl rfl rfl (ce _) rfl ?_
    (repeat' first|refine kW ?_|refine kU fun bk=>?_|refine kV fun hc=>?_|refine kZ (fun hc=>?_) fun hc=>?_|fail)
    exact kE
  simp only [decide_eq_false c3] at ce
  by_cases c4 : 42 ∈ d
  rotate_left
  · simp only [decide_eq_false c4] at cd
    rw [if_neg (fun w => c4 w.2.2.2)]
    (repeat' first|refine kW ?_|refine kU fun bk=>?_|refine kV fun hc=>?_|refine kZ (fun hc=>?_) fun hc=>?_|fail)
    revert bk; intro q
    refine OW_callP rfl rfl rfl (hcu _) rfl ?_
    (repeat' first|refine kW ?_|refine kU fun bk=>?_|refine kV fun hc=>?_|refine kZ (fun hc=>?_) fun hc=>?_|fail)
    refine OW_callP rfl rfl rfl (hcp _) rfl ?_
    (repeat' first|refine kW ?_|refine kU fun bk=>?_|refine kV fun hc=>?_|refine kZ (fun hc=>?_) fun hc=>?_|fail)
    refine OW_callP rfl rfl rfl (hcs _) rfl ?_
    (repeat' first|refine kW ?_|refine kU fun bk=>?_|refine kV fun hc=>?_|refine kZ (fun hc=>?_) fun hc=>?_|fail)
    refine OW_callP rfl rfl rfl (ce _) rfl ?_
    (repeat' first|refine kW ?_|refine kU fun bk=>?_|refine kV fun hc=>?_|refine kZ (fun hc=>?_) fun hc=>?_|fail)
    refine OW_callP rfl rfl rfl (cd _) rfl ?_
    (repeat' first|refine kW ?_|refine kU fun bk=>?_|refine kV fun hc=>?_|refine kZ (fun hc=>?_) fun hc=>?_|fail)
    exact kE
  simp only [decide_eq_true c4] at cd
  rw [if_pos ⟨c1, c2, c3, c4⟩]
  have hrp := fun C => replace_n d mi (C :: L) hb.there h2 (by omega)
  (repeat' first|refine kW ?_|refine kU fun bk=>?_|refine kV fun hc=>?_|refine kZ (fun hc=>?_) fun hc=>?_|fail)
  revert bk; intro q
  refine OW_callP rfl rfl rfl (hcu _) rfl ?_
  (repeat' first|refine kW ?_|refine kU fun bk=>?_|refine kV fun hc=>?_|refine kZ (fun hc=>?_) fun hc=>?_|fail)
  refine OW_callP rfl rfl rfl (hcp _) rfl ?_
  (repeat' first|refine kW ?_|refine kU fun bk=>?_|refine kV fun hc=>?_|refine kZ (fun hc=>?_) fun hc=>?_|fail)
  refine OW_callP rfl rfl rfl (hcs _) rfl ?_
  (repeat' first|refine kW ?_|refine kU fun bk=>?_|refine kV fun hc=>?_|refine kZ (fun hc=>?_) fun hc=>?_|fail)
  refine OW_callP rfl rfl rfl (ce _) rfl ?_
  (repeat' first|refine kW ?_|refine kU fun bk=>?_|refine kV fun hc=>?_|refine kZ (fun hc=>?_) fun hc=>?_|fail)
  refine OW_callP rfl rfl rfl (cd _) rfl ?_
  (repeat' first|refine kW ?_|refine kU fun bk=>?_|refine kV fun hc=>?_|refine kZ (fun hc=>?_) fun hc=>?_|fail)
  refine OW_callP rfl rfl rfl (hrp _) rfl ?_
  (repeat' first|refine kW ?_|refine kU fun bk=>?_|refine kV fun hc=>?_|refine kZ (fun hc=>?_) fun hc=>?_|fail)
  exact kE
theorem nmap_n (p : Sp) (s : List UInt8) (L : List Chunk) (hb : UtAt L) (hv : pvN p.src p.dst = true) (h3 : s.length ≤ 2000000) : GvP Tryd.prog 10 [.agg (spV p).toArray, .string (str s)].toArray L (match mpN p s with | some t => .tuple #[.string (str t), .bool true] | none => .tuple #[.string (str []), .bool false]) := by
  obtain ⟨f, a, d⟩ := p
  simp only at hv
  refine Gv.of_body (args := [.agg (spV ⟨f, a, d⟩).toArray, .string (str s)]) Tryd.func10 rfl rfl ?_
  have hl := pv_len hv
  have htg := fun C => ntarget_n ⟨f, a, d⟩ s (C :: L) hb.there (by simp only; omega) (by simp only; omega) h3
  have hle := tgP_le a d s
  rw [mp_tg f a d s hv]
  simp only at htg
  unfold spV at htg ⊢
  generalize (tgP a d s).1 = y at *
  generalize (tgP a d s).2 = b at *
  have hvy := fun C => nvalid_n y (C :: L) hb.there (by omega)
  cases b with
  | false =>
    rw [if_neg (fun w => Bool.noConfusion w.1)]
    (repeat' first|refine kW ?_|refine kU fun bk=>?_|refine kV fun hc=>?_|refine kZ (fun hc=>?_) fun hc=>?_|fail)
    revert bk; intro q
    refine OW_callP rfl rfl rfl (htg _) rfl ?_
    (repeat' first|refine kW ?_|refine kU fun bk=>?_|refine kV fun hc=>?_|refine kZ (fun hc=>?_) fun hc=>?_|fail)
    exact kE
  | true =>
  cases hy : vlN y with
  | false =>
    simp only [hy] at hvy
    rw [if_neg (fun w => Bool.noConfusion w.2)]
    (repeat' first|refine kW ?_|refine kU fun bk=>?_|refine kV fun hc=>?_|refine kZ (fun hc=>?_) fun hc=>?_|fail)
    revert bk; intro q
    refine OW_callP rfl rfl rfl (htg _) rfl ?_
    (repeat' first|refine kW ?_|refine kU fun bk=>?_|refine kV fun hc=>?_|refine kZ (fun hc=>?_) fun hc=>?_|fail)
    refine OW_callP rfl rfl rfl (hvy _) rfl ?_
    (repeat' first|refine kW ?_|refine kU fun bk=>?_|refine kV fun hc=>?_|refine kZ (fun hc=>?_) fun hc=>?_|fail)
    exact kE
  | true =>
    simp only [hy] at hvy
    rw [if_pos ⟨rfl, rfl⟩]
    (repeat' first|refine kW ?_|refine kU fun bk=>?_|refine kV fun hc=>?_|refine kZ (fun hc=>?_) fun hc=>?_|fail)
    revert bk; intro q
    refine OW_callP rfl rfl rfl (htg _) rfl ?_
    (repeat' first|refine kW ?_|refine kU fun bk=>?_|refine kV fun hc=>?_|refine kZ (fun hc=>?_) fun hc=>?_|fail)
    refine OW_callP rfl rfl rfl (hvy _) rfl ?_
    (repeat' first|refine kW ?_|refine kU fun bk=>?_|refine kV fun hc=>?_|refine kZ (fun hc=>?_) fun hc=>?_|fail)
    exact kE
end
end Go.Proofs.YtehpnblbkldojaaDoor
namespace Go.Proofs.YtehpnblbkldojaaDoor
open Go Go.Vx Go.Nm Go.Ob Go.Lib
set_option linter.all false
set_option maxRecDepth 4000
section
variable [W0]
def awS : List UInt8 := [43, 114, 101, 102, 115, 47, 104, 101, 97, 100, 115, 47, 42, 58, 114, 101, 102, 115, 47, 114, 101, 109, 111, 116, 101, 115, 47, 111, 47, 42]
def awP : Sp := ⟨true, [114, 101, 102, 115, 47, 104, 101, 97, 100, 115, 47, 42], [114, 101, 102, 115, 47, 114, 101, 109, 111, 116, 101, 115, 47, 111, 47, 42]⟩
def awN : List UInt8 := [114, 101, 102, 115, 47, 104, 101, 97, 100, 115, 47, 120, 47, 121]
def awT : List UInt8 := [114, 101, 102, 115, 47, 114, 101, 109, 111, 116, 101, 115, 47, 111, 47, 120, 47, 121]
def awA : List UInt8 := [114, 101, 102, 115, 47, 104, 101, 97, 100, 115, 47, 97]
def awB : List UInt8 := [114, 101, 102, 115, 47, 104, 101, 97, 100, 115, 47, 46, 97]
def awU : List UInt8 := [114, 101, 102, 115, 47, 97]
def awV : List UInt8 := [114, 101, 102, 115, 47, 97, 47, 98]
theorem aw_1 : psN awS = some awP := by kernel_rfl
theorem aw_2 : mpN awP awN = some awT := by kernel_rfl
theorem aw_3 : vlN awA = true := by kernel_rfl
theorem aw_4 : vlN awB = false := by kernel_rfl
theorem aw_5 : undB awU awV = true := by kernel_rfl
theorem aw_6 : pvN awP.src awP.dst = true := by kernel_rfl
set_option maxHeartbeats 4000000 in
theorem awake14_n (L : List Chunk) (hb : UtAt L) : GvP Tryd.prog 9 [].toArray L (.bool true) := by
  have h1 := nparse_n awS L hb (by decide)
  simp only [aw_1, spV] at h1
  have h2 := fun L' h => nmap_n awP awN L' h aw_6 (by decide)
  simp only [aw_2, spV] at h2
  have h3 := fun L' h => nvalid_n awA L' h (by decide)
  simp only [aw_3] at h3
  have h4 := fun L' h => nvalid_n awB L' h (by decide)
  simp only [aw_4] at h4
  have h5 := fun L' => nunder_n awU awV L' (by decide) (by decide)
  simp only [aw_5] at h5
  refine Gv.of_body (args := []) Tryd.func9 rfl rfl ?_
  (repeat' first|refine kW ?_|refine kU fun bk=>?_|refine kV fun hc=>?_|refine kZ (fun hc=>?_) fun hc=>?_|fail)
  refine OW_callP rfl rfl rfl h1 rfl ?_
  (repeat' first|refine kW ?_|refine kU fun bk=>?_|refine kV fun hc=>?_|refine kZ (fun hc=>?_) fun hc=>?_|fail)
  revert bk; intro q
  refine OW_callP rfl rfl rfl (h2 _ (by repeat (first | exact hb | apply UtAt.there))) rfl ?_
  (repeat' first|refine kW ?_|refine kU fun bk=>?_|refine kV fun hc=>?_|refine kZ (fun hc=>?_) fun hc=>?_|fail)
  refine OW_callP rfl rfl rfl (h3 _ (by repeat (first | exact hb | apply UtAt.there))) rfl ?_
  (repeat' first|refine kW ?_|refine kU fun bk=>?_|refine kV fun hc=>?_|refine kZ (fun hc=>?_) fun hc=>?_|fail)
  refine OW_callP rfl rfl rfl (h4 _ (by repeat (first | exact hb | apply UtAt.there))) rfl ?_
  (repeat' first|refine kW ?_|refine kU fun bk=>?_|refine kV fun hc=>?_|refine kZ (fun hc=>?_) fun hc=>?_|fail)
  refine OW_callP rfl rfl rfl (h5 _) rfl ?_
  (repeat' first|refine kW ?_|refine kU fun bk=>?_|refine kV fun hc=>?_|refine kZ (fun hc=>?_) fun hc=>?_|fail)
  exact kE
end
end Go.Proofs.YtehpnblbkldojaaDoor
namespace Go.Nm
open Go Go.Lib
set_option linter.all false
def prL (n : Nat) : List UInt8 := [114, 101, 102, 115] ++ (List.range n).flatMap fun i => [47, 112, 97 + UInt8.ofNat i, 195, 169]
def sgL : List (List UInt8) := [[126], [94], [58], [63], [42], [91], [92], [32], [127], [1], [46, 46], [64, 123], [47, 47], [47, 46], [46, 108, 111, 99, 107, 47], [255]]
theorem prL_succ (n : Nat) : prL (n + 1) = prL n ++ [47, 112, 97 + UInt8.ofNat n, 195, 169] := by
  unfold prL
  rw [List.range_succ, List.flatMap_append]
  simp
theorem prL_len : ∀ n, (prL n).length = 5 * n + 4
  | 0 => rfl
  | n + 1 => by rw [prL_succ, List.length_append, prL_len n]; simp; omega
theorem ck_clash {x y : UInt8} (h : clB x y = true) : ∀ (u pre : List UInt8) (pb : UInt8) (v : List UInt8), ckN pre pb (u ++ x :: y :: v) = false
  | [], pre, pb, v => by
    rw [List.nil_append]
    unfold ckN
    conv => lhs; rw [show ckN (pre ++ [x]) x (y :: v) = (chB y && !clB x y && !(decide (y = 47) && endB (pre ++ [x]) lockL) && ckN (pre ++ [x] ++ [y]) y v) from rfl]
    rw [h]
    simp
  | c :: u, pre, pb, v => by
    rw [List.cons_append]
    unfold ckN
    rw [ck_clash h u]
    simp
theorem ck_lockd : ∀ (u pre : List UInt8) (pb : UInt8) (v : List UInt8), ckN pre pb (u ++ [46, 108, 111, 99, 107, 47] ++ v) = false
  | [], pre, pb, v => by
    have e : endB (pre ++ [46] ++ [108] ++ [111] ++ [99] ++ [107]) lockL = true := by
      rw [show pre ++ [46] ++ [108] ++ [111] ++ [99] ++ [107] = pre ++ lockL from by simp [lockL], endB_app _ _ _ (Nat.le_refl _)]
      decide
    simp only [List.nil_append, List.cons_append]
    have f : ckN (pre ++ [46] ++ [108] ++ [111] ++ [99] ++ [107]) 107 (47 :: v) = false := by
      unfold ckN
      rw [e]
      simp
    simp only [ckN]
    simp only [ckN] at f
    rw [f]
    simp
  | c :: u, pre, pb, v => by
    simp only [List.cons_append]
    unfold ckN
    rw [ck_lockd u]
    simp
theorem vl_ck {s : List UInt8} (h : ckN [] 47 s = false) : vlN s = false := by
  rw [vlN_ck, h]
  simp
set_option maxRecDepth 100000
def okN (n : Nat) : Bool := n == 0 || (vlN (prL n) && !vlN (prL n ++ [47]) && !vlN (prL n ++ [46, 108, 111, 99, 107]) && !vlN (prL n ++ [46]))
theorem pr_okA : ((List.range 9).all okN) = true := by decide +kernel
def bdN (n k : Nat) : Bool := !(decide (1 ≤ n) && decide (5 ≤ k) && decide (k ≤ 5 * n + 4)) || !validD ((prL n).take k ++ [255] ++ (prL n).drop k)
theorem pr_badA : ((List.range 9).all fun n => (List.range 45).all fun k => bdN n k) = true := by decide +kernel
theorem pr_ok {n : Nat} (h1 : 1 ≤ n) (h2 : n ≤ 8) : vlN (prL n) = true ∧ vlN (prL n ++ [47]) = false ∧ vlN (prL n ++ [46, 108, 111, 99, 107]) = false ∧ vlN (prL n ++ [46]) = false := by
  have := List.all_eq_true.1 pr_okA n (List.mem_range.2 (by omega))
  unfold okN at this
  rw [show (n == 0) = false from by simp; omega, Bool.false_or, Bool.and_eq_true, Bool.and_eq_true, Bool.and_eq_true] at this
  exact ⟨this.1.1.1, by simpa using this.1.1.2, by simpa using this.1.2, by simpa using this.2⟩
theorem pr_bad {n k b : Nat} (h1 : 1 ≤ n) (h2 : n ≤ 8) (h3 : 5 ≤ k) (h4 : k ≤ 5 * n + 4) (hb : b < 16) : vlN ((prL n).take k ++ sgL.getD b [] ++ (prL n).drop k) = false := by
  have one : ∀ c : UInt8, sgL.getD b [] = [c] → chB c = false → vlN ((prL n).take k ++ sgL.getD b [] ++ (prL n).drop k) = false := fun c e h => by
    rw [e]
    exact vl_bad (c := c) (by simp) h
  have two : ∀ x y : UInt8, sgL.getD b [] = [x, y] → clB x y = true → vlN ((prL n).take k ++ sgL.getD b [] ++ (prL n).drop k) = false := fun x y e h => by
    rw [e]
    refine vl_ck ?_
    rw [List.append_assoc]
    exact ck_clash h _ _ _ _
  match b, hb with
  | 0, _ => exact one 126 rfl (by decide)
  | 1, _ => exact one 94 rfl (by decide)
  | 2, _ => exact one 58 rfl (by decide)
  | 3, _ => exact one 63 rfl (by decide)
  | 4, _ => exact one 42 rfl (by decide)
  | 5, _ => exact one 91 rfl (by decide)
  | 6, _ => exact one 92 rfl (by decide)
  | 7, _ => exact one 32 rfl (by decide)
  | 8, _ => exact one 127 rfl (by decide)
  | 9, _ => exact one 1 rfl (by decide)
  | 10, _ => exact two 46 46 rfl (by decide)
  | 11, _ => exact two 64 123 rfl (by decide)
  | 12, _ => exact two 47 47 rfl (by decide)
  | 13, _ => exact two 47 46 rfl (by decide)
  | 14, _ => exact vl_ck (ck_lockd _ _ _ _)
  | 15, _ =>
    have := List.all_eq_true.1 (List.all_eq_true.1 pr_badA n (List.mem_range.2 (by omega))) k (List.mem_range.2 (by omega))
    unfold bdN at this
    rw [decide_eq_true h1, decide_eq_true h3, decide_eq_true h4] at this
    have hv : validD ((prL n).take k ++ [255] ++ (prL n).drop k) = false := by simpa using this
    rw [vlN_ck, show sgL.getD 15 [] = [255] from rfl, hv]
    simp
  | b + 16, hb => exact absurd hb (by omega)
theorem sg_len {b : Nat} (hb : b < 16) : (sgL.getD b []).length ≤ 6 := by
  have : ∀ b : Fin 16, (sgL.getD b.val []).length ≤ 6 := by decide
  exact this ⟨b, hb⟩
end Go.Nm
namespace Go.Proofs.YtehpnblbkldojaaDoor
open Go Go.Vx Go.Nm Go.Ob Go.Lib
set_option linter.all false
set_option maxRecDepth 4000
section
variable [W0]
omit [W0] in
theorem sg_at {b : Nat} (hb : b < 16) : (ssv sgL)[b]? = some (.string (str (sgL.getD b []))) := by
  unfold ssv
  rw [List.getElem?_map, List.getD_eq_getElem?_getD, List.getElem?_eq_getElem (by exact hb)]
  rfl
set_option maxHeartbeats 8000000 in
theorem nameparts_n (n at_ bad : Int) (L : List Chunk) (hb : UtAt L) (w1 : -9223372036854775808 ≤ at_) (w2 : at_ ≤ 9223372036854775807) : GvP Tryd.prog 7 [.int .i64 n, .int .i64 at_, .int .i64 bad].toArray L (.bool true) := by
  refine Gv.of_body (args := [.int .i64 n, .int .i64 at_, .int .i64 bad]) Tryd.func7 rfl rfl ?_
  (repeat' first|refine kW ?_|refine kU fun bk=>?_|refine kV fun hc=>?_|refine kZ (fun hc=>?_) fun hc=>?_|fail)
  refine OW_EV (EV_mask (p := 8) rfl rfl (by rfl)) rfl ?_
  obtain ⟨N, hN, hN1, hN2⟩ : ∃ N : Nat, n % 8 + 1 = (N : Int) ∧ 1 ≤ N ∧ N ≤ 8 := ⟨(n % 8).toNat + 1, by omega, by omega, by omega⟩
  have hN' : n % 8 = (N : Int) - 1 := by omega
  rw [hN']
  clear hN hN'
  (repeat' first|refine kW ?_|refine kU fun bk=>?_|refine kV fun hc=>?_|refine kZ (fun hc=>?_) fun hc=>?_|fail)
  rw [show (N : Int) - 1 + 1 = (N : Int) from by omega]
  refine WC_loop (X := Nat) (fun i => [(0, .int .i64 (N : Int)), (1, .int .i64 at_), (2, .int .i64 bad), (7, .string (str (prL i))), (8, .int .i64 (i : Int))]) (fun _ => L) (fun i => i ≤ N) (fun i => N - i) 0 (Nat.zero_le _) iS (fun w h => h) ?_
  intro i hi
  have li := prL_len i
  by_cases h : i < N
  · have hu8 : (UInt8.ofNat i).toNat = i := by simp; omega
    have e97 : (97 + UInt8.ofNat i).toNat = 97 + i := by simp; omega
    (repeat' first|refine kW ?_|refine kU fun bk=>?_|refine kV fun hc=>?_|refine kZ (fun hc=>?_) fun hc=>?_|fail)
    refine OW_EV (EV_catL (prL i) [47, 112] rfl rfl (by simp; omega)) rfl ?_
    (repeat' first|refine kW ?_|refine kU fun bk=>?_|refine kV fun hc=>?_|refine kZ (fun hc=>?_) fun hc=>?_|fail)
    rw [show IntKind.u8.wrap (i : Int) = (i : Int) from by simp [IntKind.wrap, IntKind.bits, IntKind.signed]; omega]
    refine OW_EV (EV_ari rfl rfl rfl) rfl ?_
    rw [show IntKind.u8.wrap (97 + (i : Int)) = ((97 + UInt8.ofNat i).toNat : Int) from by simp only [IntKind.wrap, IntKind.bits, IntKind.signed]; simp]
    (repeat' first|refine kW ?_|refine kU fun bk=>?_|refine kV fun hc=>?_|refine kZ (fun hc=>?_) fun hc=>?_|fail)
    refine OW_buildSlice (cs := bsv [97 + UInt8.ofNat i]) rfl (by rfl) (by rfl) (by omega) rfl rfl (fun q => ?_)
    (repeat' first|refine kW ?_|refine kU fun bk=>?_|refine kV fun hc=>?_|refine kZ (fun hc=>?_) fun hc=>?_|fail)
    refine OW_EV (EV_convStr (b := [97 + UInt8.ofNat i]) (m := 1) rfl (sl_cells .here rfl (by simp))) rfl ?_
    (repeat' first|refine kW ?_|refine kU fun bk=>?_|refine kV fun hc=>?_|refine kZ (fun hc=>?_) fun hc=>?_|fail)
    refine OW_EV (EV_catL (prL i ++ [47, 112]) [97 + UInt8.ofNat i] rfl rfl (by simp; omega)) rfl ?_
    (repeat' first|refine kW ?_|refine kU fun bk=>?_|refine kV fun hc=>?_|refine kZ (fun hc=>?_) fun hc=>?_|fail)
    refine OW_EV (EV_catL (prL i ++ [47, 112] ++ [97 + UInt8.ofNat i]) [195, 169] rfl rfl (by simp; omega)) rfl ?_
    rw [show prL i ++ [47, 112] ++ [97 + UInt8.ofNat i] ++ [195, 169] = prL (i + 1) from by rw [prL_succ]; simp]
    (repeat' first|refine kW ?_|refine kU fun bk=>?_|refine kV fun hc=>?_|refine kZ (fun hc=>?_) fun hc=>?_|fail)
    exact WQ_round (X := Nat) (μ := fun i => N - i) (x := i) (i + 1) (by omega) (by omega) iS (fun w h => h.drop)
  obtain rfl : i = N := by omega
  clear h hi
  have z := str_size (prL i)
  rw [li] at z
  obtain ⟨m, hm⟩ : ∃ m : Nat, m + 1 = 5 * i := ⟨5 * i - 1, by omega⟩
  (repeat' first|refine kW ?_|refine kU fun bk=>?_|refine kV fun hc=>?_|refine kZ (fun hc=>?_) fun hc=>?_|fail)
  refine OW_buildSlice (cs := ssv sgL) rfl (by rfl) (by simp [fillL, patch, Value.cells, zeros]; rfl) (by omega) rfl rfl (fun q => ?_)
  (repeat' first|refine kW ?_|refine kU fun bk=>?_|refine kV fun hc=>?_|refine kZ (fun hc=>?_) fun hc=>?_|fail)
  rw [show ((str (prL i)).size : Int) - 5 = (m : Int) from by omega]
  refine OW_EV (EV_rem rfl rfl (by omega)) rfl ?_
  have r1 := Int.natAbs_tmod at_ (m : Int)
  have r2 := Nat.mod_lt at_.natAbs (show 0 < (m : Int).natAbs by omega)
  obtain ⟨r, hr⟩ : ∃ r, r = at_.tmod (m : Int) := ⟨_, rfl⟩
  rw [← hr] at r1 ⊢
  rw [← r1] at r2
  clear hr r1
  have r3 : r.natAbs < m := by omega
  clear r2
  (repeat' first|refine kW ?_|refine kU fun bk=>?_|refine kV fun hc=>?_|refine kZ (fun hc=>?_) fun hc=>?_|fail)
  rw [show r + ((str (prL i)).size : Int) - 5 = r + (m : Int) from by omega, show ((str (prL i)).size : Int) - 5 = (m : Int) from by omega]
  refine OW_EV (EV_rem rfl rfl (by omega)) rfl ?_
  have s1 := Int.natAbs_tmod (r + (m : Int)) (m : Int)
  have s2 := Nat.mod_lt (r + (m : Int)).natAbs (show 0 < (m : Int).natAbs by omega)
  have s3 := Int.tmod_nonneg (m : Int) (show 0 ≤ r + (m : Int) by omega)
  rw [← s1] at s2
  obtain ⟨k0, hk0⟩ : ∃ k0 : Nat, (r + (m : Int)).tmod (m : Int) = (k0 : Int) := ⟨((r + (m : Int)).tmod (m : Int)).toNat, by omega⟩
  rw [hk0] at s2 ⊢
  have s4 : k0 < m := by omega
  clear s1 s2 s3 hk0
  (repeat' first|refine kW ?_|refine kU fun bk=>?_|refine kV fun hc=>?_|refine kZ (fun hc=>?_) fun hc=>?_|fail)
  rw [show (5 : Int) + (k0 : Int) = ((5 + k0 : Nat) : Int) from by omega]
  refine WC_loop (X := Nat) (fun k => [(2, .int .i64 bad), (7, .string (str (prL i))), (9, .slice (some ⟨q, 0, none⟩) 16 16), (10, .int .i64 (k : Int))]) (fun _ => [(q, cl (ssv sgL) 9)] :: L) (fun k => 5 ≤ k ∧ k ≤ 5 * i + 4) (fun k => 5 * i + 4 - k) (5 + k0) ⟨by omega, by omega⟩ iS (fun w h => h) ?_
  rintro k ⟨k1, k2⟩
  by_cases hk : k < 5 * i + 4 ∧ 128 ≤ ((prL i).getD k 0).toNat
  · have hget := str_get (t := prL i) (show k < (prL i).length by omega)
    (repeat' first|refine kW ?_|refine kU fun bk=>?_|refine kV fun hc=>?_|refine kZ (fun hc=>?_) fun hc=>?_|fail)
    refine OW_EV (EV_indexStr (j := k) rfl rfl rfl hget) rfl ?_
    have h128 : (128 : Int) ≤ (((prL i).getD k 0).toNat : Int) := by omega
    (repeat' first|refine kW ?_|refine kU fun bk=>?_|refine kV fun hc=>?_|refine kZ (fun hc=>?_) fun hc=>?_|fail)
    exact WQ_round (X := Nat) (μ := fun k => 5 * i + 4 - k) (x := k) (k + 1) (by omega) ⟨by omega, by omega⟩ iS (fun w h => h)
  obtain ⟨T, hT⟩ : ∃ T, T = (prL i).take k ++ sgL.getD (bad % 16).toNat [] ++ (prL i).drop k := ⟨_, rfl⟩
  have hbd : (bad % 16).toNat < 16 := by omega
  obtain ⟨p1, p2, p3, p4⟩ := pr_ok hN1 hN2
  have p5 : vlN T = false := by rw [hT]; exact pr_bad hN1 hN2 k1 k2 hbd
  have lT : T.length ≤ 60 := by
    rw [hT]
    have := sg_len hbd
    simp only [List.length_append, List.length_take, List.length_drop]
    omega
  have v1 := fun L' h => nvalid_n (prL i) L' h (by omega)
  have v2 := fun L' h => nvalid_n (prL i ++ [47]) L' h (by simp; omega)
  have v3 := fun L' h => nvalid_n (prL i ++ [46, 108, 111, 99, 107]) L' h (by simp; omega)
  have v4 := fun L' h => nvalid_n (prL i ++ [46]) L' h (by simp; omega)
  have v5 := fun L' h => nvalid_n T L' h (by omega)
  have haw := fun L' h => awake14_n L' h
  simp only [p1] at v1
  simp only [p2] at v2
  simp only [p3] at v3
  simp only [p4] at v4
  simp only [p5] at v5
  have zT : (str T).size = T.length := str_size T
  obtain ⟨B, hB⟩ : ∃ B : Nat, bad % 16 = (B : Int) := ⟨(bad % 16).toNat, by omega⟩
  rw [hB, Int.toNat_natCast] at hT hbd
  have hcell := sg_at hbd
  have lsg := sg_len hbd
  generalize sgL.getD B [] = sg at hT hcell lsg
  by_cases hk2 : k < 5 * i + 4
  · have hget := str_get (t := prL i) (show k < (prL i).length by omega)
    have h128 : ¬ (128 : Int) ≤ (((prL i).getD k 0).toNat : Int) := by omega
    (repeat' first|refine kW ?_|refine kU fun bk=>?_|refine kV fun hc=>?_|refine kZ (fun hc=>?_) fun hc=>?_|fail)
    refine OW_EV (EV_indexStr (j := k) rfl rfl rfl hget) rfl ?_
    (repeat' first|refine kW ?_|refine kU fun bk=>?_|refine kV fun hc=>?_|refine kZ (fun hc=>?_) fun hc=>?_|fail)
    refine WC_drawAll [] mixed ?_
    (refine WR_t 0 ?_; refine WR_t 1 ?_)
    (refine WR_take 2 rfl rfl (by kernel_rfl) iP iC (EV_cutL (prL i) 0 k rfl rfl (bnd_int rfl rfl) (Nat.zero_le _) (by omega)) (by rfl) ?_)
    rw [List.drop_zero, Nat.sub_zero]
    (refine WR_t 3 ?_; refine WR_t 4 ?_)
    (refine WR_take 5 rfl rfl (by kernel_rfl) iP iC (EV_mask (p := 16) rfl rfl (by rfl)) (by rfl) ?_)
    rw [hB]
    (refine WR_take 6 rfl rfl (by kernel_rfl) iP iC (EV_indexAddr (j := B) rfl rfl rfl hbd) (by rfl) ?_)
    (refine WR_take 7 rfl rfl (by kernel_rfl) iP iC (EV_load rfl .here (by rw [Nat.zero_add, Nat.mul_one]; simpa using hcell)) (by rfl) ?_)
    (refine WR_take 8 rfl rfl (by kernel_rfl) iP iC (EV_catL ((prL i).take k) sg rfl rfl (by rw [List.length_take]; omega)) (by rfl) ?_)
    (refine WR_t 9 ?_; refine WR_t 10 ?_)
    (refine WR_take 11 rfl rfl (by kernel_rfl) iP iC (EV_cutL (prL i) k (prL i).length rfl (bnd_int rfl rfl) rfl (by omega) (Nat.le_refl _)) (by rfl) ?_)
    rw [List.take_of_length_le (l := (prL i).drop k) (by simp)]
    (refine WR_take 12 rfl rfl (by kernel_rfl) iP iC (EV_catL ((prL i).take k ++ sg) ((prL i).drop k) rfl rfl (by simp only [List.length_append, List.length_take, List.length_drop]; omega)) (by rfl) ?_)
    rw [← hT]
    (refine WR_t 13 ?_)
    (refine WR_done (by kernel_rfl) ?_)
    (repeat' first|refine kW ?_|refine kU fun bk=>?_|refine kV fun hc=>?_|refine kZ (fun hc=>?_) fun hc=>?_|fail)
    refine OW_callP rfl rfl rfl (v1 _ (by repeat (first | exact hb | apply UtAt.there))) rfl ?_
    (repeat' first|refine kW ?_|refine kU fun bk=>?_|refine kV fun hc=>?_|refine kZ (fun hc=>?_) fun hc=>?_|fail)
    refine OW_callP rfl rfl rfl (v5 _ (by repeat (first | exact hb | apply UtAt.there))) rfl ?_
    (repeat' first|refine kW ?_|refine kU fun bk=>?_|refine kV fun hc=>?_|refine kZ (fun hc=>?_) fun hc=>?_|fail)
    refine OW_EV (EV_catL (prL i) [47] rfl rfl (by simp; omega)) rfl ?_
    (repeat' first|refine kW ?_|refine kU fun bk=>?_|refine kV fun hc=>?_|refine kZ (fun hc=>?_) fun hc=>?_|fail)
    refine OW_callP rfl rfl rfl (v2 _ (by repeat (first | exact hb | apply UtAt.there))) rfl ?_
    (repeat' first|refine kW ?_|refine kU fun bk=>?_|refine kV fun hc=>?_|refine kZ (fun hc=>?_) fun hc=>?_|fail)
    refine OW_EV (EV_catL (prL i) [46, 108, 111, 99, 107] rfl rfl (by simp; omega)) rfl ?_
    (repeat' first|refine kW ?_|refine kU fun bk=>?_|refine kV fun hc=>?_|refine kZ (fun hc=>?_) fun hc=>?_|fail)
    refine OW_callP rfl rfl rfl (v3 _ (by repeat (first | exact hb | apply UtAt.there))) rfl ?_
    (repeat' first|refine kW ?_|refine kU fun bk=>?_|refine kV fun hc=>?_|refine kZ (fun hc=>?_) fun hc=>?_|fail)
    refine OW_EV (EV_catL (prL i) [46] rfl rfl (by simp; omega)) rfl ?_
    (repeat' first|refine kW ?_|refine kU fun bk=>?_|refine kV fun hc=>?_|refine kZ (fun hc=>?_) fun hc=>?_|fail)
    refine OW_callP rfl rfl rfl (v4 _ (by repeat (first | exact hb | apply UtAt.there))) rfl ?_
    (repeat' first|refine kW ?_|refine kU fun bk=>?_|refine kV fun hc=>?_|refine kZ (fun hc=>?_) fun hc=>?_|fail)
    refine OW_callP rfl rfl rfl (haw _ (by repeat (first | exact hb | apply UtAt.there))) rfl ?_
    (repeat' first|refine kW ?_|refine kU fun bk=>?_|refine kV fun hc=>?_|refine kZ (fun hc=>?_) fun hc=>?_|fail)
    exact kE
  · (repeat' first|refine kW ?_|refine kU fun bk=>?_|refine kV fun hc=>?_|refine kZ (fun hc=>?_) fun hc=>?_|fail)
    refine WC_drawAll [] mixed ?_
    (refine WR_t 0 ?_; refine WR_t 1 ?_)
    (refine WR_take 2 rfl rfl (by kernel_rfl) iP iC (EV_cutL (prL i) 0 k rfl rfl (bnd_int rfl rfl) (Nat.zero_le _) (by omega)) (by rfl) ?_)
    rw [List.drop_zero, Nat.sub_zero]
    (refine WR_t 3 ?_; refine WR_t 4 ?_)
    (refine WR_take 5 rfl rfl (by kernel_rfl) iP iC (EV_mask (p := 16) rfl rfl (by rfl)) (by rfl) ?_)
    rw [hB]
    (refine WR_take 6 rfl rfl (by kernel_rfl) iP iC (EV_indexAddr (j := B) rfl rfl rfl hbd) (by rfl) ?_)
    (refine WR_take 7 rfl rfl (by kernel_rfl) iP iC (EV_load rfl .here (by rw [Nat.zero_add, Nat.mul_one]; simpa using hcell)) (by rfl) ?_)
    (refine WR_take 8 rfl rfl (by kernel_rfl) iP iC (EV_catL ((prL i).take k) sg rfl rfl (by rw [List.length_take]; omega)) (by rfl) ?_)
    (refine WR_t 9 ?_; refine WR_t 10 ?_)
    (refine WR_take 11 rfl rfl (by kernel_rfl) iP iC (EV_cutL (prL i) k (prL i).length rfl (bnd_int rfl rfl) rfl (by omega) (Nat.le_refl _)) (by rfl) ?_)
    rw [List.take_of_length_le (l := (prL i).drop k) (by simp)]
    (refine WR_take 12 rfl rfl (by kernel_rfl) iP iC (EV_catL ((prL i).take k ++ sg) ((prL i).drop k) rfl rfl (by simp only [List.length_append, List.length_take, List.length_drop]; omega)) (by rfl) ?_)
    rw [← hT]
    (refine WR_t 13 ?_)
    (refine WR_done (by kernel_rfl) ?_)
    (repeat' first|refine kW ?_|refine kU fun bk=>?_|refine kV fun hc=>?_|refine kZ (fun hc=>?_) fun hc=>?_|fail)
    refine OW_callP rfl rfl rfl (v1 _ (by repeat (first | exact hb | apply UtAt.there))) rfl ?_
    (repeat' first|refine kW ?_|refine kU fun bk=>?_|refine kV fun hc=>?_|refine kZ (fun hc=>?_) fun hc=>?_|fail)
    refine OW_callP rfl rfl rfl (v5 _ (by repeat (first | exact hb | apply UtAt.there))) rfl ?_
    (repeat' first|refine kW ?_|refine kU fun bk=>?_|refine kV fun hc=>?_|refine kZ (fun hc=>?_) fun hc=>?_|fail)
    refine OW_EV (EV_catL (prL i) [47] rfl rfl (by simp; omega)) rfl ?_
    (repeat' first|refine kW ?_|refine kU fun bk=>?_|refine kV fun hc=>?_|refine kZ (fun hc=>?_) fun hc=>?_|fail)
    refine OW_callP rfl rfl rfl (v2 _ (by repeat (first | exact hb | apply UtAt.there))) rfl ?_
    (repeat' first|refine kW ?_|refine kU fun bk=>?_|refine kV fun hc=>?_|refine kZ (fun hc=>?_) fun hc=>?_|fail)
    refine OW_EV (EV_catL (prL i) [46, 108, 111, 99, 107] rfl rfl (by simp; omega)) rfl ?_
    (repeat' first|refine kW ?_|refine kU fun bk=>?_|refine kV fun hc=>?_|refine kZ (fun hc=>?_) fun hc=>?_|fail)
    refine OW_callP rfl rfl rfl (v3 _ (by repeat (first | exact hb | apply UtAt.there))) rfl ?_
    (repeat' first|refine kW ?_|refine kU fun bk=>?_|refine kV fun hc=>?_|refine kZ (fun hc=>?_) fun hc=>?_|fail)
    refine OW_EV (EV_catL (prL i) [46] rfl rfl (by simp; omega)) rfl ?_
    (repeat' first|refine kW ?_|refine kU fun bk=>?_|refine kV fun hc=>?_|refine kZ (fun hc=>?_) fun hc=>?_|fail)
    refine OW_callP rfl rfl rfl (v4 _ (by repeat (first | exact hb | apply UtAt.there))) rfl ?_
    (repeat' first|refine kW ?_|refine kU fun bk=>?_|refine kV fun hc=>?_|refine kZ (fun hc=>?_) fun hc=>?_|fail)
    refine OW_callP rfl rfl rfl (haw _ (by repeat (first | exact hb | apply UtAt.there))) rfl ?_
    (repeat' first|refine kW ?_|refine kU fun bk=>?_|refine kV fun hc=>?_|refine kZ (fun hc=>?_) fun hc=>?_|fail)
    exact kE
end
end Go.Proofs.YtehpnblbkldojaaDoor
namespace Go.Proofs.YtehpnblbkldojaaDoor
open Go Go.Vx Go.ChangeShapes Go.WideShapes Go.ChangeAt Go.RowKit Go.Lib
set_option maxRecDepth 100000
set_option linter.all false
def laid14 : List (String × DataW Unit) := [("unicode/utf8.acceptRanges", Rows.laid_unicode_utf8_acceptRanges), ("unicode/utf8.first", Rows.laid_unicode_utf8_first)]
def nums14 (k : IntKind) : List (DataW Unit) → List Value
  | [] => []
  | .lit (.int _ z) :: r => .int k z :: nums14 k r
  | .agg [.lit (.int _ z), .lit (.int _ y)] :: r => .int k z :: .int k y :: nums14 k r
  | _ :: r => nums14 k r
def parts14 : DataW Unit → List (DataW Unit)
  | .agg l => l
  | _ => []
def tabAc : List Value := nums14 .u8 (parts14 Rows.laid_unicode_utf8_acceptRanges)
def tabFi : List Value := nums14 .u8 (parts14 Rows.laid_unicode_utf8_first)
theorem first_eq : Rows.laid_unicode_utf8_first = firstData := by kernel_rfl
theorem accept_eq : Rows.laid_unicode_utf8_acceptRanges (H := Unit) = acceptData := by kernel_rfl
theorem met_plain {W : World} (h : laidMetH Tryd.prog laid14 W) : laidMet Tryd.prog laid14 W := by
  have e : laid14.filter (fun x => x.2.handleName?.isSome) = [] := by kernel_rfl
  unfold laidMetH at h
  rw [e] at h
  exact h
theorem u8extra : U8Extra Tryd.prog sh_v_ren := ⟨by kernel_rfl, by kernel_rfl, by kernel_rfl, by kernel_rfl, by kernel_rfl, by kernel_rfl, by kernel_rfl⟩
theorem ut_met {W : World} (hL : laidMetH Tryd.prog laid14 W) (hsh : W.ShapedOpen Tryd.prog) [W0] : UtAt [blks W] := by
  obtain ⟨ps, hv, _⟩ := met_plain hL
  have r3 := LaidVars_reads hv "unicode/utf8.first" Rows.laid_unicode_utf8_first (by simp [laid14])
  have r4 := LaidVars_reads hv "unicode/utf8.acceptRanges" Rows.laid_unicode_utf8_acceptRanges (by simp [laid14])
  rw [first_eq] at r3
  rw [accept_eq] at r4
  have hut := utf8Tabs_of_readsT (U8Types.of196 sh_v) u8extra r3 r4
  have hmx : ∃ m, W.cell? ⟨2, 0, none⟩ = some (.int .i64 m) :=
    cell_of_shapedOpen_int (t := 3) (zero := #[.int .i64 0]) hsh (of_decide_eq_true (by kernel_rfl)) (by kernel_rfl) (by kernel_rfl) (by kernel_rfl) (by kernel_rfl) Tryd.underlying3
  have hkeep : ∀ w, Vx.Holds w [blks W] → ∀ k, k < W.heap.size → w.heap[k]? = W.heap[k]? := fun w hw k hk => by
    have hm : W.heap[k]? = some W.heap[k] := by simp [hk]
    rw [hm]
    exact hw.2.1 (k, W.heap[k]) (by simpa using blks_mem.2 hm)
  have hlt : ∀ {a : Addr} {v : Value}, W.cell? a = some v → a.block < W.heap.size := fun {a} {v} h => by
    rcases Nat.lt_or_ge a.block W.heap.size with h' | h'
    · exact h'
    · have : W.heap[a.block]? = none := by simp; omega
      simp [World.cell?, this] at h
  have hcell : ∀ w, Vx.Holds w [blks W] → ∀ {a : Addr} {v : Value}, W.cell? a = some v → w.cell? a = some v := fun w hw {a} {v} h => by
    have hb := hkeep w hw a.block (hlt h)
    rw [← h]
    unfold World.cell?
    rw [hb]
  exact ⟨fun w hw => ⟨fun c hc => hcell w hw (hut.1 c hc), fun i hi => ⟨hcell w hw (hut.2 i hi).1, hcell w hw (hut.2 i hi).2⟩⟩, hmx.imp fun m hm w hw => hcell w hw hm⟩
end Go.Proofs.YtehpnblbkldojaaDoor
namespace Go.Proofs.YtehpnblbkldojaaDoor
open Go Go.Vx Go.Ob Go.ChangeShapes Go.WideShapes Go.ChangeAt Go.RowKit
set_option linter.all false
set_option maxRecDepth 4000
theorem top_row (H : Type) (enc : TypeId × Value → H) (W : World) (base : Nat) (args : Array Value) (ds gs : List (DataW H)) (before : List MemPlace)
    (hval : ∀ (j : Nat) t v, Tryd.f7.params[j]? = some t → args[j]? = some v → Value.okWide Tryd.prog W .any base t v)
    (hW : DataW.Whole enc Tryd.prog Tryd.f7.params.toList Rows.namePartsSpec.vars false W args.toList ds gs before)
    (hz : (DataW.weightsEach Tryd.prog (Tryd.f7.params.toList ++ Rows.namePartsSpec.plain.varTypes Tryd.prog) (ds ++ gs)).all (· ≤ reachBytes) = true) (hL : laidMetH Tryd.prog laid14 W) (hsh : W.ShapedOpen Tryd.prog) :
    Calls Tryd.prog 7 args W fun e W' => ∃ v, e = .returned v ∧ Rows.namePartsSpec.post enc Tryd.prog Tryd.f7 false true false false W args v W' := by
  have hW' := hW
  obtain ⟨p, q, hA0, hV, rfl, hfz, hnd⟩ := hW
  have hA : DataW.TrodAll enc Tryd.prog W 0 (fun _ => true) true Tryd.f7.params.toList args.toList ds p := hA0
  rw [Tryd.params7] at hA hval hz
  obtain ⟨v0, vs0, d0, ds0, p0, q0, hargs, rfl, rfl, h0, r0⟩ := trodAll_cons hA
  obtain ⟨v1, vs1, d1, ds1, p1, q1, rfl, rfl, rfl, h1, r1⟩ := trodAll_cons r0
  obtain ⟨v2, vs2, d2, ds2, p2, q2, rfl, rfl, rfl, h2, r2⟩ := trodAll_cons r1
  obtain ⟨rfl, rfl, rfl⟩ := trodAll_nil r2
  obtain rfl : args = #[v0, v1, v2] := by cases args; simp_all
  obtain ⟨rfl, rfl⟩ := trodVars_none hV
  obtain ⟨n0, rfl, rfl, rfl, w0⟩ := open_int Tryd.underlying3 (hval 0 _ v0 rfl rfl) h0
  obtain ⟨n1, rfl, rfl, rfl, w1⟩ := open_int Tryd.underlying3 (hval 1 _ v1 rfl rfl) h1
  obtain ⟨n2, rfl, rfl, rfl, w2⟩ := open_int Tryd.underlying3 (hval 2 _ v2 rfl rfl) h2
  clear hA0
  have hc : Calls Tryd.prog 7 #[.int .i64 n0, .int .i64 n1, .int .i64 n2] W fun e W' => e = .returned (.bool true) ∧ Kept W W' := by
    refine bridge (fun {i} => ?_)
    have ht := ut_met hL hsh
    have hw1 : -9223372036854775808 ≤ n1 ∧ n1 ≤ 9223372036854775807 := by
      have h0 := w1
      simp [Lit.wf, IntKind.min, IntKind.max, IntKind.signed, IntKind.bits] at h0
      omega
    exact nameparts_n n0 n1 n2 _ ht hw1.1 hw1.2
  refine hc.mono fun e W' ⟨he, bel⟩ => ?_
  subst he
  exact ⟨_, rfl, _, _, _, [], _, [], hW', trodAll_mk1 (shut_bool Tryd.underlying4 _), (trodAll_cons_mk (shut_int Tryd.underlying3 w0) (trodAll_cons_mk (shut_int Tryd.underlying3 w1) (trodAll_cons_mk (shut_int Tryd.underlying3 w2) trodAll_mk0))), rfl, bel.frame _, fun h => by cases h⟩
def putT (w : World) (g : Nat) (zs : List Value) : World := { w with heap := w.heap.modify g fun
      | .cells _ t frozen => .cells zs.toArray t frozen
      | o => o }
noncomputable def laidWorld (os : Os) : World :=
  putT (putT (World.holding Tryd.prog os ⟨#[], #[], []⟩) 1 tabAc) 0 tabFi
theorem laid_met (os : Os) : laidMet Tryd.prog Rows.namePartsRow.laid ((laidWorld os).forCall (fun _ _ => 0) ⟨#[], #[.int .i64 0, .int .i64 0, .int .i64 0], []⟩).memory :=
  laidMet_of_run' 8 (by kernel_rfl) (by kernel_rfl)
theorem reads (os : Os) {H : Type} (enc : TypeId × Value → H) : ∃ places, DataW.whole enc Tryd.prog ((laidWorld os).forCall (fun _ _ => 0) ⟨#[], #[.int .i64 0, .int .i64 0, .int .i64 0], []⟩).memory Tryd.f7.params.toList Rows.namePartsSpec.vars false #[.int .i64 0, .int .i64 0, .int .i64 0].toList 8 = some ([.lit (.int .i64 0), .lit (.int .i64 0), .lit (.int .i64 0)], [], places) :=
  ⟨[], by kernel_rfl⟩
set_option maxRecDepth 100000 in
theorem top_lifted (os : Os) (started : os.Started) (H : Type) (enc : TypeId × Value → H) (F : Stop.Interp) :
    ReturnsInHanded {} Tryd.checked os 7 .any ((OpenSpec.ofChange Rows.namePartsSpec).preRow enc Tryd.prog Tryd.f7 Rows.namePartsRow.domain false Rows.namePartsRow.laid) (((OpenSpec.ofChange Rows.namePartsSpec).at F).post enc Tryd.prog Tryd.f7 false true false false) := by
  obtain ⟨places, hx⟩ := reads os enc
  refine returnsInHanded_of_row (C := Tryd.checked) (s := (OpenSpec.ofChange Rows.namePartsSpec)) Tryd.own started (by kernel_rfl) Tryd.func7
    (witness_row_at (enc := enc) (C := Tryd.checked) false (laidWorld os) #[.int .i64 0, .int .i64 0, .int .i64 0] rfl (by kernel_rfl) (by kernel_rfl) (by kernel_rfl)
      (OpenSpec.preRow_of_cond 8 hx (by kernel_rfl) (fun k hk => by cases hk) (by kernel_rfl) (laid_met os))) ?_
  intro W base args ds gs before hval hW _ hcond hz hL hsh _
  exact top_row H enc W base args ds gs before hval hW hz hL hsh
theorem top_over : Rows.NamePartsSaid :=
  OpenClaim.holds_of_cond 7 Tryd.f7 rfl rfl rfl rfl rfl rfl rfl ⟨rfl, rfl, rfl, rfl, rfl⟩ rfl rfl rfl rfl rfl (by kernel_rfl) Tryd.func7 (by kernel_rfl)
    (of_decide_eq_true (by kernel_rfl)) (by unfold Func.isWrapper; first | (rw [if_pos (by decide +kernel)]; kernel_rfl) | (rw [if_neg (by decide +kernel)]; exact ⟨rfl, rfl⟩))
    (fun os started H enc _ F => by rw [OpenClaim.pre_eq_preRow]; exact top_lifted os started H enc F)
theorem top_plain (f : FuncId) (fn : Func) (hf : Tryd.pinned.checked.prog.funcNamed "stemma/stemmalaw14.NameParts" = some f) (hfn : Tryd.pinned.checked.prog.funcs[f]? = some fn) :
    false = Tryd.pinned.checked.prog.looks [] ∧ ∀ (j : Nat) t, fn.params[j]? = some t → Tryd.pinned.checked.prog.wantsStandIn t = false := by
  obtain rfl : f = 7 := Option.some.inj ((show Tryd.prog.funcNamed "stemma/stemmalaw14.NameParts" = some 7 by kernel_rfl).symm.trans hf) |>.symm
  obtain rfl : fn = Tryd.f7 := (Option.some.inj (Tryd.func7.symm.trans hfn)).symm
  have all : (Tryd.f7.params.toList.all fun t => !Tryd.prog.wantsStandIn t) = true := by kernel_rfl
  refine ⟨by kernel_rfl, fun j t ht => ?_⟩
  have hm : t ∈ Tryd.f7.params.toList := by
    have := Array.mem_of_getElem? ht
    simpa using this
  have := List.all_eq_true.1 all t hm
  show Tryd.prog.wantsStandIn t = false
  simpa using this
theorem top_holds : Rows.NamePartsCardSaid :=
  Claim7.holds_tied_plain_at .later [] _ _ _ _ top_over (fun _ h => by cases h) (by kernel_rfl) (fun _ h => by cases h) nameParts_row_tie rfl ⟨rfl, rfl⟩ (by kernel_rfl) rfl top_plain (by kernel_rfl)
end Go.Proofs.YtehpnblbkldojaaDoor
