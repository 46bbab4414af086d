/- Package delta: instructions executed. It proves no statement by itself. No conditions. -/
import Derived.Test.YtckelgpocplplaaRg
namespace Go.Dl
set_option linter.all false
theorem fd_split : ∀ (n m b : Nat) (d : List UInt8), fd b (n + m) d = (fd b n d).bind fun x => (fd (b / 2 ^ n) m x.2).map fun y => (x.1 + 256 ^ n * y.1, y.2)
  | 0, m, b, d => by
    simp only [Nat.zero_add, fd, Option.bind_some, Nat.pow_zero, Nat.div_one, Nat.one_mul]
    cases fd b m d <;> simp
  | n + 1, m, b, d => by
    have e : n + 1 + m = (n + m) + 1 := by omega
    have hdd : b / 2 / 2 ^ n = b / 2 ^ (n + 1) := by rw [Nat.div_div_eq_div_mul, Nat.pow_succ, Nat.mul_comm]
    rw [e]
    by_cases hb : b % 2 = 0
    · rw [fd_even _ d hb, fd_even _ d hb, fd_split n m (b / 2) d, hdd]
      cases fd (b / 2) n d with
      | none => rfl
      | some x =>
        simp only [Option.bind_some, Option.map_some]
        cases fd (b / 2 ^ (n + 1)) m x.2 with
        | none => rfl
        | some y => simp only [Option.map_some, Nat.pow_succ]; congr 2; rw [Nat.mul_add]; congr 1; ac_rfl
    · cases d with
      | nil => rw [fd_nil _ hb, fd_nil _ hb]; rfl
      | cons c d =>
        rw [fd_cons _ c d hb, fd_cons _ c d hb, fd_split n m (b / 2) d, hdd]
        cases fd (b / 2) n d with
        | none => rfl
        | some x =>
          simp only [Option.bind_some, Option.map_some]
          cases fd (b / 2 ^ (n + 1)) m x.2 with
          | none => rfl
          | some y => simp only [Option.map_some, Nat.pow_succ]; congr 2; rw [Nat.mul_add, Nat.add_assoc]; congr 2; ac_rfl
theorem fd_mod : ∀ (n b b' : Nat) (d : List UInt8), b % 2 ^ n = b' % 2 ^ n → fd b n d = fd b' n d
  | 0, b, b', d, _ => rfl
  | n + 1, b, b', d, h => by
    rw [Nat.pow_succ, Nat.mul_comm, Nat.mod_mul, Nat.mod_mul] at h
    have h1 : b % 2 = b' % 2 := by omega
    have h2 : b / 2 % 2 ^ n = b' / 2 % 2 ^ n := by omega
    by_cases hb : b % 2 = 0
    · rw [fd_even n d hb, fd_even n d (h1 ▸ hb), fd_mod n _ _ d h2]
    · have hb' : ¬ b' % 2 = 0 := fun hh => hb (by omega)
      cases d with
      | nil => rw [fd_nil n hb, fd_nil n hb']
      | cons c d => rw [fd_cons n c d hb, fd_cons n c d hb', fd_mod n _ _ d h2]
/-- A copy as one number. -/
theorem ap_copy (base : List UInt8) (to k : Nat) (c : UInt8) (d out : List UInt8) (hc : 128 ≤ c.toNat) : ap base to (k + 1) (c :: d) out =
    match fd c.toNat 7 d with
      | none => ([], 4)
      | some x => if base.length < x.1 % 4294967296 + (if x.1 / 4294967296 = 0 then 65536 else x.1 / 4294967296) ∨ to - out.length < (if x.1 / 4294967296 = 0 then 65536 else x.1 / 4294967296) then ([], 3)
          else ap base to k x.2 (out ++ (base.drop (x.1 % 4294967296)).take (if x.1 / 4294967296 = 0 then 65536 else x.1 / 4294967296)) := by
  have h1 : fd (c.toNat % 16) 4 d = fd c.toNat 4 d := fd_mod 4 _ _ d (by omega)
  have h2 : ∀ e, fd (c.toNat / 16 % 8) 3 e = fd (c.toNat / 2 ^ 4) 3 e := fun e => fd_mod 3 _ _ e (by omega)
  have h7 := fd_split 4 3 c.toNat d
  rw [ap, if_neg (by omega), if_neg (by omega), h1, show (7 : Nat) = 4 + 3 from rfl, h7]
  cases hx : fd c.toNat 4 d with
  | none => rfl
  | some x =>
    have hxl := (fd_le _ _ _ _ hx).2
    simp only [Option.bind_some, h2]
    cases hy : fd (c.toNat / 2 ^ 4) 3 x.2 with
    | none => rfl
    | some y =>
      simp only [Option.map_some]
      have e1 : (x.1 + 256 ^ 4 * y.1) % 4294967296 = x.1 := by omega
      have e2 : (x.1 + 256 ^ 4 * y.1) / 4294967296 = y.1 := by omega
      rw [e1, e2]
      generalize hw : (if y.1 = 0 then 65536 else y.1) = w
      have hw0 : 0 < w := by rw [← hw]; split <;> omega
      by_cases hcnd : base.length < x.1 + w ∨ to - out.length < w
      · rw [if_pos hcnd, if_pos (by omega)]
      · rw [if_neg hcnd, if_neg (by omega)]
theorem ap_ins (base : List UInt8) (to k : Nat) (c : UInt8) (d out : List UInt8) (h0 : c.toNat ≠ 0) (hc : c.toNat < 128) : ap base to (k + 1) (c :: d) out =
    if to - out.length < c.toNat then ([], 3) else if d.length < c.toNat then ([], 4) else ap base to k (d.drop c.toNat) (out ++ d.take c.toNat) := by
  rw [ap, if_neg h0, if_pos hc]
theorem ap_zero (base : List UInt8) (to k : Nat) (c : UInt8) (d out : List UInt8) (h0 : c.toNat = 0) : ap base to (k + 1) (c :: d) out = ([], 3) := by
  rw [ap, if_pos h0]
end Go.Dl
namespace Go.Vx
open Go
section
variable [W0] {P : Program} {n : Nat} {Q : Exit → Act → World → Prop} {M : List (Nat × Value)} {L S : List Chunk} {ops : List Oper} {T : List Nat} {fuel : Nat} {listed : Array Bool}
/-- Either of two operations may come up now. -/
theorem WR_two (i j : Nat) {oi oj : Oper} (hr : Region.ready .any ops.toArray listed = [i, j]) (hi : ops[i]? = some oi) (hgi : oi.guard = none) (hj : ops[j]? = some oj) (hgj : oj.guard = none)
    (h1 : OW P n oi (WRk P n ops Q S T fuel (listed.setIfInBounds i true)) M L) (h2 : OW P n oj (WRk P n ops Q S T fuel (listed.setIfInBounds j true)) M L) : WR P n ops Q S T (fuel + 1) listed M L := ⟨fun a w ha hw => by
  refine ⟨fun h0 => absurd (hr ▸ h0) (by simp), fun k hk => ?_⟩
  rw [hr] at hk
  simp only [List.mem_cons, List.not_mem_nil, or_false] at hk
  rcases hk with rfl | rfl
  · unfold wpOp
    simp only [List.getElem?_toArray, hi]
    rw [if_pos (by simp [Region.wanted, hgi])]
    exact .inl (h1.out a w _ Q ha hw fun M' L' hk => ⟨fun a' w' ha' hw' => ⟨fun _ => hk.inc.holds hw', hk.out.out a' w' ha' hw'⟩⟩)
  · unfold wpOp
    simp only [List.getElem?_toArray, hj]
    rw [if_pos (by simp [Region.wanted, hgj])]
    exact .inl (h2.out a w _ Q ha hw fun M' L' hk => ⟨fun a' w' ha' hw' => ⟨fun _ => hk.inc.holds hw', hk.out.out a' w' ha' hw'⟩⟩)⟩
end
end Go.Vx
namespace Go.Proofs.Ytckelgpocplplaa
open Go Go.Vx Go.Dl
variable [W0]
set_option maxRecDepth 4000
set_option linter.all false

omit [W0] in
/-- A text in the making. -/
def rsC (p : Nat) (vb vr vo : Value) (to : Nat) : Chunk := [(p, cl [vb, vr, vo, .int .i64 (to : Int)] 45)]

set_option maxHeartbeats 2000000 in
theorem dtake_n (p : Nat) (vb vr vo : Value) (to n : Nat) (d : List UInt8) (L0 L : List Chunk) (hr : Rs L0 1 vr d.length (bsv d)) (hn : n ≤ d.length) :
    Gv Try.prog 43 [.pointer (some ⟨p, 0, none⟩), .int .i64 (n : Int)].toArray (rsC p vb vr vo to :: L) (fun r L' => ∃ vr', Rs L0 1 r n (bsv (d.take n)) ∧ Rs L0 1 vr' (d.drop n).length (bsv (d.drop n)) ∧ L' = rsC p vb vr' vo to :: L) := by
  refine Gv.of_body (args := [.pointer (some ⟨p, 0, none⟩), .int .i64 (n : Int)]) Try.func43 rfl rfl ?_
  obtain ⟨r1, q1, e1⟩ := rs_cut (P := Try.prog) (T := 23) hr (l := 0) (h := n) (Nat.zero_le _) hn
  obtain ⟨r2, q2, e2⟩ := rs_cut (P := Try.prog) (T := 23) hr (l := n) (h := d.length) hn (Nat.le_refl _)
  rw [List.drop_zero, Nat.sub_zero, List.length_take, Nat.min_eq_left hn] at q1
  rw [List.take_of_length_le (by rw [List.length_drop]; exact Nat.le_refl _)] at q2
  obtain ⟨va, vc, rfl⟩ := rs_val hr
  have o1 := q2.one
  unfold rsC
  (repeat' first|refine kW ?_|refine kU fun bk=>?_|refine kV fun hc=>?_|refine kZ (fun hc=>?_) fun hc=>?_|fail)
  refine OW_EV (e1 rfl rfl rfl) rfl ?_
  (repeat' first|refine kW ?_|refine kU fun bk=>?_|refine kV fun hc=>?_|refine kZ (fun hc=>?_) fun hc=>?_|fail)
  refine OW_EV (e2 rfl rfl rfl) rfl ?_
  (repeat' first|refine kW ?_|refine kU fun bk=>?_|refine kV fun hc=>?_|refine kZ (fun hc=>?_) fun hc=>?_|fail)
  refine OW_storeTo [vb, r2, vo, .int .i64 (to : Int)] rfl rfl o1 rfl iU (by simp) ?_
  (repeat' first|refine kW ?_|refine kU fun bk=>?_|refine kV fun hc=>?_|refine kZ (fun hc=>?_) fun hc=>?_|fail)
  refine kR ?_
  exact ⟨_, iC, r2, q1, q2, rfl⟩
theorem room_n (p : Nat) (vb vr : Value) (a : Option Addr) (m c to : Nat) (L : List Chunk) (h1 : m ≤ to) (h2 : to ≤ 9223372036854775807) :
    GvP Try.prog 35 [.pointer (some ⟨p, 0, none⟩)].toArray (rsC p vb vr (.slice a m c) to :: L) (.int .i64 ((to - m : Nat) : Int)) := by
  refine Gv.of_body (args := [.pointer (some ⟨p, 0, none⟩)]) Try.func35 rfl rfl ?_
  unfold rsC
  (repeat' first|refine kW ?_|refine kU fun bk=>?_|refine kV fun hc=>?_|refine kZ (fun hc=>?_) fun hc=>?_|fail)
  refine WC_drawAll [] mixed ?_
  (refine WR_t 0 ?_; refine WR_t 1 ?_; refine WR_t 2 ?_; refine WR_t 3 ?_; refine WR_t 4 ?_; refine WR_t 5 ?_; refine WR_t 6 ?_; refine WR_t 7 ?_; refine WR_t 8 ?_; refine WR_t 9 ?_; refine WR_t 10 ?_)
  (refine WR_done (by kernel_rfl) ?_)
  (repeat' first|refine kW ?_|refine kU fun bk=>?_|refine kV fun hc=>?_|refine kZ (fun hc=>?_) fun hc=>?_|fail)
  rw [show (to : Int) - (m : Int) = ((to - m : Nat) : Int) from by omega]
  exact kE
end Go.Proofs.Ytckelgpocplplaa
