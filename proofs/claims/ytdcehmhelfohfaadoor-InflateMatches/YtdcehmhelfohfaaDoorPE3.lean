/- InflateMatches returns true and leaves its arguments as they were, wherever what it reads is of bulk at most 1048576; the table that the program reads is tied to its text (the card). Condition: that bound. -/
import Derived.Test.YtdcehmhelfohfaaDoorPE2
namespace Go.Proofs.YtdcehmhelfohfaaDoor
open Go Go.Vx
variable [W0]
set_option maxRecDepth 4000
set_option linter.all false
omit [W0] in
/-- Word i of a block. -/
def wordAt (blk : List UInt8) (i : Nat) : BitVec 32 :=
  b2w (blk.getD (4 * i) 0) <<< 24 ||| b2w (blk.getD (4 * i + 1) 0) <<< 16 ||| b2w (blk.getD (4 * i + 2) 0) <<< 8 ||| b2w (blk.getD (4 * i + 3) 0)
omit [W0] in
def schedNext (blk : List UInt8) (l : List (BitVec 32)) : BitVec 32 :=
  if l.length < 16 then wordAt blk l.length
  else rol (l.getD (l.length - 3) 0 ^^^ l.getD (l.length - 8) 0 ^^^ l.getD (l.length - 14) 0 ^^^ l.getD (l.length - 16) 0) 1
omit [W0] in
/-- The first t words of a block's schedule. -/
def sched (blk : List UInt8) : Nat → List (BitVec 32)
  | 0 => []
  | t + 1 => sched blk t ++ [schedNext blk (sched blk t)]
omit [W0] in
/-- The chain. -/
structure H5 where
  a : BitVec 32
  b : BitVec 32
  c : BitVec 32
  d : BitVec 32
  e : BitVec 32
end Go.Proofs.YtdcehmhelfohfaaDoor
namespace Go.Proofs.YtdcehmhelfohfaaDoor
open Go Go.Vx
variable [W0]
set_option maxRecDepth 4000
set_option linter.all false
omit [W0] in
def kindF : Nat → BitVec 32 → BitVec 32 → BitVec 32 → BitVec 32
  | 0 => stChoice
  | 1 => stParity
  | 2 => stMajority
  | _ => stLast
omit [W0] in
/-- One step. -/
def rnd (k : Nat) (h : H5) (w : BitVec 32) : H5 := ⟨rol h.a 5 + kindF k h.b h.c h.d + h.e + w, h.a, rol h.b 30, h.c, h.d⟩
omit [W0] in
/-- The first t steps. -/
def rounds (ws : List (BitVec 32)) (h : H5) : Nat → H5
  | 0 => h
  | t + 1 => rnd (t / 20) (rounds ws h t) (ws.getD t 0)
omit [W0] in
def add5 (h r : H5) : H5 := ⟨h.a + r.a, h.b + r.b, h.c + r.c, h.d + r.d, h.e + r.e⟩
omit [W0] in
/-- A block taken into the chain. -/
def mixN (h : H5) (blk : List UInt8) : H5 := add5 h (rounds (sched blk 80) h 80)
end Go.Proofs.YtdcehmhelfohfaaDoor
namespace Go.Proofs.YtdcehmhelfohfaaDoor
open Go Go.Vx
variable [W0]
set_option maxRecDepth 4000
set_option linter.all false
omit [W0] in
def h50 : H5 := ⟨1732584193#32, 4023233417#32, 2562383102#32, 271733878#32, 3285377520#32⟩
omit [W0] in
/-- The chain behind the first k blocks of a text. -/
def chainN (t : List UInt8) : Nat → H5
  | 0 => h50
  | k + 1 => mixN (chainN t k) ((t.drop (64 * k)).take 64)
theorem chainN_app (t u : List UInt8) : ∀ k, 64 * k ≤ t.length → chainN (t ++ u) k = chainN t k
  | 0, _ => rfl
  | k + 1, h => by
    have e : ((t ++ u).drop (64 * k)).take 64 = (t.drop (64 * k)).take 64 := by
      rw [List.drop_append_of_le_length (by omega), List.take_append_of_le_length (by simp; omega)]
    simp only [chainN, chainN_app t u k (by omega), e]
omit [W0] in
/-- What a digest in progress is of a text. -/
structure ShaI (t : List UInt8) (h : H5) (blk : List UInt8) : Prop where
  len : blk.length = 64
  chain : h = chainN t (t.length / 64)
  rest : blk.take (t.length % 64) = t.drop (64 * (t.length / 64))
omit [W0] in
def fillB (blk : List UInt8) (r : Nat) (u : List UInt8) : List UInt8 := blk.take r ++ (u ++ blk.drop (r + u.length))
theorem fillB_length {blk u : List UInt8} {r : Nat} (hb : blk.length = 64) (h : r + u.length ≤ 64) : (fillB blk r u).length = 64 := by
  simp [fillB]; omega
theorem fillB_take {blk u : List UInt8} {r : Nat} (hb : blk.length = 64) (h : r + u.length ≤ 64) : (fillB blk r u).take (r + u.length) = blk.take r ++ u := by
  unfold fillB
  have e : (blk.take r ++ u).length = r + u.length := by simp; omega
  rw [← List.append_assoc, ← e, List.take_left]
theorem ShaI.part {t u : List UInt8} {h : H5} {blk : List UInt8} (hi : ShaI t h blk) (hu : t.length % 64 + u.length < 64) : ShaI (t ++ u) h (fillB blk (t.length % 64) u) := by
  have e1 : (t ++ u).length / 64 = t.length / 64 := by simp; omega
  have e2 : (t ++ u).length % 64 = t.length % 64 + u.length := by simp; omega
  refine ⟨fillB_length hi.len (by omega), ?_, ?_⟩
  · rw [e1, chainN_app _ _ _ (by omega)]; exact hi.chain
  · rw [e1, e2, fillB_take hi.len (by omega), hi.rest, List.drop_append_of_le_length (by omega)]
theorem ShaI.new : ShaI [] h50 (List.replicate 64 0) := ⟨by simp, rfl, rfl⟩
omit [W0] in
/-- A slice that can be read, and its room. -/
structure SlC (L : List Chunk) (k : Nat) (v : Value) (m : Nat) (xs : List Value) : Prop where
  sl : Sl L k v m xs
  room : ∃ a c, v = .slice a m c ∧ m ≤ c
theorem SlC.there {L : List Chunk} {C : Chunk} {k m : Nat} {v : Value} {xs : List Value} (h : SlC L k v m xs) : SlC (C :: L) k v m xs := ⟨sl_there h.sl, h.room⟩
theorem SlC.ow {e k m : Nat} {v : Value} {xs : List Value} {C : Chunk} {L : List Chunk} (h : Ow e k v m xs C) : SlC (C :: L) k v m xs := by
  refine ⟨ow_sl h, ?_⟩
  rcases h with ⟨rfl, rfl, _⟩ | ⟨b, cap, rest, rfl, _, _, _, hmc, _⟩
  · exact ⟨_, _, rfl, Nat.le_refl _⟩
  · exact ⟨_, _, rfl, hmc⟩
theorem SlC.cut {L : List Chunk} {bb off m cap q : Nat} {l : List UInt8} {c : Array Value} {T : TypeId} {fr : Nat × Nat} (hf : Fnd L bb (.cells c T fr)) (hc : ∀ j u, (bsv l)[j]? = some u → c[off + j]? = some u) (hm : l.length = m) (hq : q ≤ m) (hmc : m ≤ cap) :
    SlC L 1 (.slice (some ⟨bb, if cap = q then off else off + q * 1, none⟩) (m - q) (cap - q)) (m - q) (bsv (l.drop q)) := by
  refine ⟨.inr ⟨_, _, rfl, ?_, by simp [bsv_length, hm]⟩, _, _, rfl, by omega⟩
  by_cases h0 : m = q
  · refine .inl ?_
    rw [List.drop_of_length_le (by omega)]; rfl
  · refine .inr ⟨bb, _, c, T, fr, rfl, hf, fun j u hj => ?_⟩
    rw [if_neg (by omega), Nat.mul_one, Nat.add_assoc]
    refine hc _ _ ?_
    rw [← hj]
    simp [bsv]
end Go.Proofs.YtdcehmhelfohfaaDoor
namespace Go.Proofs.YtdcehmhelfohfaaDoor
open Go Go.Vx
variable [W0]
set_option maxRecDepth 4000
set_option linter.all false
theorem sl_byte {L : List Chunk} {v : Value} {m k : Nat} {t : List UInt8} (h : Sl L 1 v m (bsv t)) (hk : k < m) :
    ∃ bb off cap c T fr, v = .slice (some ⟨bb, off, none⟩) m cap ∧ Fnd L bb (.cells c T fr) ∧ c[off + k * 1]? = some (.int .u8 ((t.getD k 0).toNat : Int)) := by
  rcases h with ⟨c, rfl, rfl, h0⟩ | ⟨a, cap, rfl, hr, hl⟩
  · omega
  · have hlt : k < t.length := by rw [bsv_length] at hl; omega
    have hg : (bsv t)[k]? = some (.int .u8 ((t.getD k 0).toNat : Int)) := bsv_get (by simp [List.getD, hlt])
    rcases hr with h0 | ⟨b, off, c, T, fr, rfl, h1, h2⟩
    · rw [h0] at hg; simp at hg
    · exact ⟨b, off, cap, c, T, fr, rfl, h1, by rw [Nat.mul_one]; exact h2 _ _ hg⟩
theorem take_succ {α : Type} {t : List α} {k : Nat} (d : α) (h : k < t.length) : t.take (k + 1) = t.take k ++ [t.getD k d] := by
  rw [List.take_add_one, List.getElem?_eq_getElem h]
  simp [List.getD, h]
omit [W0] in
def adlA (a : BitVec 32) (x : UInt8) : BitVec 32 := (a + b2w x) % 65521#32
omit [W0] in
def adlN (s : BitVec 32 × BitVec 32) (t : List UInt8) : BitVec 32 × BitVec 32 := t.foldl (fun s x => (adlA s.1 x, (s.2 + adlA s.1 x) % 65521#32)) s
theorem adlN_snoc (s : BitVec 32 × BitVec 32) (t : List UInt8) (x : UInt8) : adlN s (t ++ [x]) = (adlA (adlN s t).1 x, ((adlN s t).2 + adlA (adlN s t).1 x) % 65521#32) := by simp [adlN]
omit [W0] in
def adlV (s : BitVec 32 × BitVec 32) : BitVec 32 := s.2 <<< 16 ||| s.1
theorem newAdler_n (L : List Chunk) : Gv Tryd.prog 42 [].toArray L (fun r L' => ∃ p, r = .pointer (some ⟨p, 0, none⟩) ∧ L' = [(p, cl [w32 1#32, w32 0#32] 90)] :: L) := by
  refine Gv.of_body Tryd.func42 rfl rfl ?_
  (repeat' first|refine kX ?_|refine kU fun bk=>?_|refine kV fun hc=>?_|refine kZ (fun hc=>?_) fun hc=>?_|fail)
  first | refine WQ_retH rfl rfl ?_ | refine WQ_endH rfl rfl ?_
  exact ⟨[(bk, cl [w32 1#32, w32 0#32] 90)] :: L, fun w h => h, bk, rfl, rfl⟩
theorem adlerwrite_n (s : BitVec 32 × BitVec 32) (t : List UInt8) (v : Value) (p : Nat) (L : List Chunk) (hlen : t.length < 576460752303423488) (hv : SlC L 1 v t.length (bsv t)) :
    Gv Tryd.prog 43 [.pointer (some ⟨p, 0, none⟩), v].toArray ([(p, cl [w32 s.1, w32 s.2] 90)] :: L)
      (fun z L' => z = .tuple #[] ∧ L' = [(p, cl [w32 (adlN s t).1, w32 (adlN s t).2] 90)] :: L) := by
  refine Gv.of_body Tryd.func43 rfl rfl ?_
  obtain ⟨a, c, rfl, hmc⟩ := hv.room
  (repeat' first|refine kX ?_|refine kU fun bk=>?_|refine kV fun hc=>?_|refine kZ (fun hc=>?_) fun hc=>?_|fail)
  refine WC_drawAll [] mixed ?_
  (refine WR_w 0 ?_; refine WR_w 1 ?_; refine WR_w 2 ?_; refine WR_w 3 ?_; refine WR_w 4 ?_; refine WR_w 5 ?_; refine WR_w 6 ?_; refine WR_w 7 ?_; refine WR_w 8 ?_; refine WR_w 9 ?_)
  (refine WR_done (by kernel_rfl) ?_)
  (repeat' first|refine kX ?_|refine kU fun bk=>?_|refine kV fun hc=>?_|refine kZ (fun hc=>?_) fun hc=>?_|fail)
  refine WC_loop (X := Nat) (fun k => [(0, .pointer (some ⟨p, 0, none⟩)), (4, w32 (adlN s (t.take k)).1), (5, w32 (adlN s (t.take k)).2), (16, .slice a t.length c), (17, .int .i64 (t.length : Int)), (18, .int .i64 (k : Int))])
    (fun k => [(p, cl [w32 s.1, w32 s.2] 90)] :: L) (fun k => k ≤ t.length) (fun k => t.length - k) 0 (Nat.zero_le _) (by repeat (first | exact Sub.nil | refine Sub.cons rfl ?_ | refine Sub.cons (lk_int rfl (by first | omega | (dsimp only; omega))) ?_)) (fun w h => h) ?_
  intro k hk
  replace hk : k ≤ t.length := hk
  (repeat' first|refine kX ?_|refine kU fun bk=>?_|refine kV fun hc=>?_|refine kZ (fun hc=>?_) fun hc=>?_|fail)
  · have hlt : k < t.length := by omega
    obtain ⟨bb, off, cap, cc, bT, bfr, hve, hfn, hcell⟩ := sl_byte hv.sl hlt
    injection hve with e1 e2 e3
    subst e1 e3
    clear e2
    (repeat' first|refine kX ?_|refine kU fun bk=>?_|refine kV fun hc=>?_|refine kZ (fun hc=>?_) fun hc=>?_|fail)
    refine OW_W ?_ (he := EV_load rfl hfn.there hcell)
    (repeat' first|refine kX ?_|refine kU fun bk=>?_|refine kV fun hc=>?_|refine kZ (fun hc=>?_) fun hc=>?_|fail)
    refine WQ_round (X := Nat) (J := fun k => k ≤ t.length) (μ := fun k => t.length - k) (x := k) (k + 1) (by omega) (show k + 1 ≤ t.length by omega) ?_ (fun w h => h)
    rw [take_succ 0 hlt, adlN_snoc]
    exact (by repeat (first | exact Sub.nil | refine Sub.cons rfl ?_ | refine Sub.cons (lk_int rfl (by first | omega | (dsimp only; omega))) ?_))
  · have hk : k = t.length := by omega
    subst hk
    rw [List.take_length]
    (first | refine WQ_retI rfl rfl ?_ | refine WQ_endI rfl rfl ?_)
    exact ⟨_, iC, rfl, rfl⟩
theorem adlervalue_n (s : BitVec 32 × BitVec 32) (p : Nat) (L : List Chunk) (hf : Fnd L p (cl [w32 s.1, w32 s.2] 90)) : GvP Tryd.prog 44 [.pointer (some ⟨p, 0, none⟩)].toArray L (w32 (adlV s)) := by
  refine Gv.of_body Tryd.func44 rfl rfl ?_
  (repeat' first|refine kX ?_|refine kU fun bk=>?_|refine kV fun hc=>?_|refine kZ (fun hc=>?_) fun hc=>?_|fail)
  refine WC_drawAll [] mixed ?_
  (refine WR_w 0 ?_; refine WR_w 1 ?_; refine WR_w 2 ?_; refine WR_w 3 ?_; refine WR_w 4 ?_; refine WR_w 5 ?_; refine WR_w 6 ?_; refine WR_w 7 ?_; refine WR_w 8 ?_; refine WR_w 9 ?_; refine WR_w 10 ?_)
  (refine WR_done (by kernel_rfl) ?_)
  (repeat' first|refine kX ?_|refine kU fun bk=>?_|refine kV fun hc=>?_|refine kZ (fun hc=>?_) fun hc=>?_|fail)
  ((first | refine WQ_retI rfl rfl ?_ | refine WQ_endI rfl rfl ?_); exact ⟨_, iC, rfl, rfl⟩)
theorem adler_n (t : List UInt8) (v : Value) (L : List Chunk) (hlen : t.length < 576460752303423488) (hv : SlC L 1 v t.length (bsv t)) :
    GvP Tryd.prog 29 [v].toArray L (w32 (adlV (adlN (1#32, 0#32) t))) := by
  refine Gv.of_body Tryd.func29 rfl rfl ?_
  (repeat' first|refine kX ?_|refine kU fun bk=>?_|refine kV fun hc=>?_|refine kZ (fun hc=>?_) fun hc=>?_|fail)
  refine OW_call rfl rfl rfl (newAdler_n L) rfl (fun r L' hp => ?_)
  obtain ⟨p, rfl, rfl⟩ := hp
  (repeat' first|refine kX ?_|refine kU fun bk=>?_|refine kV fun hc=>?_|refine kZ (fun hc=>?_) fun hc=>?_|fail)
  refine OW_call rfl rfl rfl (adlerwrite_n (1#32, 0#32) t v p L hlen hv) rfl (fun r L' hp => ?_)
  obtain ⟨rfl, rfl⟩ := hp
  (repeat' first|refine kX ?_|refine kU fun bk=>?_|refine kV fun hc=>?_|refine kZ (fun hc=>?_) fun hc=>?_|fail)
  refine OW_callP rfl rfl rfl (adlervalue_n (adlN (1#32, 0#32) t) p _ Fnd.here) rfl ?_
  (repeat' first|refine kX ?_|refine kU fun bk=>?_|refine kV fun hc=>?_|refine kZ (fun hc=>?_) fun hc=>?_|fail)
  ((first | refine WQ_retI rfl rfl ?_ | refine WQ_endI rfl rfl ?_); exact ⟨_, iC, rfl, rfl⟩)
end Go.Proofs.YtdcehmhelfohfaaDoor
namespace Go.Vx
open Go
set_option linter.all false
variable [W0]
omit [W0] in
/-- No cell of the row is marked. -/
def FrOk (fr : Nat × Nat) (n : Nat) : Prop := ∀ j, j < n → ¬ (fr.1 ≤ j ∧ j < fr.2)
theorem FrOk.zero (n : Nat) : FrOk (0, 0) n := fun j _ h => by simp at h
theorem FrOk.behind (n : Nat) : FrOk (n, n + 1) n := fun j hj h => by simp at h; omega
end Go.Vx
namespace Go.If
open Go.Vx Go.Hf
set_option linter.all false
def hdK (x y : Nat) : Bool := x % 16 == 8 && decide (x / 16 ≤ 7) && (x * 256 + y) % 31 == 0 && (y &&& 32) == 0
def wdN (b0 b1 b2 b3 : Nat) : Nat := ((b0 * 256 + b1) * 256 + b2) * 256 + b3
end Go.If
namespace Go.Proofs.YtdcehmhelfohfaaDoor
open Go Go.Vx Go.Hf Go.If
variable [W0]
set_option maxRecDepth 4000
set_option linter.all false
theorem bit_and8 {a b : Nat} (ha : a < 256) (hb : b < 256) : bitI .and .u8 (a : Int) (b : Int) = some ((a &&& b : Nat) : Int) := by
  have h1 : a &&& b ≤ a := Nat.and_le_left
  have e : ((BitVec.ofInt 8 (a : Int) &&& BitVec.ofInt 8 (b : Int)).toNat) = a &&& b := by
    rw [BitVec.toNat_and, BitVec.ofInt_natCast, BitVec.ofInt_natCast, BitVec.toNat_ofNat, BitVec.toNat_ofNat, Nat.mod_eq_of_lt (by omega), Nat.mod_eq_of_lt (by omega)]
  show some (IntKind.u8.wrap (((BitVec.ofInt 8 (a : Int) &&& BitVec.ofInt 8 (b : Int)).toNat : Nat) : Int)) = _
  rw [e]
  congr 1
  exact wrap_nat rfl (by simp [IntKind.bits]; omega)
theorem bit_or16 {a b : Nat} (ha : a < 256) (hb : b < 256) : bitI .or .i64 ((a * 256 : Nat) : Int) (b : Int) = some ((a * 256 + b : Nat) : Int) := by
  have e0 : a * 256 ||| b = a * 256 + b := by
    have := Nat.two_pow_add_eq_or_of_lt (i := 8) (b := b) (by omega) a
    rw [Nat.mul_comm a 256]
    exact this.symm
  have e : ((BitVec.ofInt 64 ((a * 256 : Nat) : Int) ||| BitVec.ofInt 64 (b : Int)).toNat) = a * 256 + b := by
    rw [BitVec.toNat_or, BitVec.ofInt_natCast, BitVec.ofInt_natCast, BitVec.toNat_ofNat, BitVec.toNat_ofNat, Nat.mod_eq_of_lt (by omega), Nat.mod_eq_of_lt (by omega), e0]
  show some (IntKind.i64.wrap (((BitVec.ofInt 64 ((a * 256 : Nat) : Int) ||| BitVec.ofInt 64 (b : Int)).toNat : Nat) : Int)) = _
  rw [e]
  congr 1
  exact wrap_i64s (by omega)
set_option maxHeartbeats 4000000 in
theorem isHead_n (x y : UInt8) (L : List Chunk) : GvP Tryd.prog 27 [.int .u8 (x.toNat : Int), .int .u8 (y.toNat : Int)].toArray L (.bool (hdK x.toNat y.toNat)) := by
  refine Gv.of_body Tryd.func27 rfl rfl ?_
  have hx := x.toNat_lt
  have hy := y.toNat_lt
  generalize x.toNat = a at hx ⊢
  generalize y.toNat = b at hy ⊢
  unfold hdK
  (repeat' first|refine kW ?_|refine kU fun bk=>?_|refine kV fun hc=>?_|refine kZ (fun hc=>?_) fun hc=>?_|fail)
  refine OW_EV (EV_nand (k := .u8) a 4 rfl rfl rfl rfl rfl (by simp only [IntKind.bits]; omega) (by decide)) rfl ?_
  have hno : ∀ (c1 : Bool), c1 = false → Value.bool false = .bool c1 := fun c1 h => by rw [h]
  have hno2 : ¬ (a % 16 = 8 ∧ a / 16 ≤ 7 ∧ (a * 256 + b) % 31 = 0) → (a % 16 == 8 && decide (a / 16 ≤ 7) && (a * 256 + b) % 31 == 0 && (b &&& 32) == 0) = false := by
    intro h
    cases hh : (a % 16 == 8 && decide (a / 16 ≤ 7) && (a * 256 + b) % 31 == 0 && (b &&& 32) == 0)
    · rfl
    · exfalso
      simp only [Bool.and_eq_true, beq_iff_eq, decide_eq_true_eq] at hh
      exact h ⟨hh.1.1.1, hh.1.1.2, hh.1.2⟩
  (repeat' first|refine kW ?_|refine kU fun bk=>?_|refine kV fun hc=>?_|refine kZ (fun hc=>?_) fun hc=>?_|fail)
  · refine OW_EV (EV_shl64 a 8 rfl rfl rfl rfl (by decide) (by omega)) rfl ?_
    rw [show a * 2 ^ 8 = a * 256 from rfl]
    (repeat' first|refine kW ?_|refine kU fun bk=>?_|refine kV fun hc=>?_|refine kZ (fun hc=>?_) fun hc=>?_|fail)
    refine OW_EV (EV_bit rfl rfl (bit_or16 (a := a) (b := b) hx hy)) rfl ?_
    (repeat' first|refine kW ?_|refine kU fun bk=>?_|refine kV fun hc=>?_|refine kZ (fun hc=>?_) fun hc=>?_|fail)
    refine OW_EV (EV_remN (a * 256 + b) 31 rfl rfl rfl rfl (by decide)) rfl ?_
    (repeat' first|refine kW ?_|refine kU fun bk=>?_|refine kV fun hc=>?_|refine kZ (fun hc=>?_) fun hc=>?_|fail)
    · refine OW_EV (EV_bit rfl rfl (bit_and8 (a := b) (b := 32) hy (by decide))) rfl ?_
      generalize hz : b &&& 32 = z
      (repeat' first|refine kW ?_|refine kU fun bk=>?_|refine kV fun hc=>?_|refine kZ (fun hc=>?_) fun hc=>?_|fail)
      refine kR ?_
      refine ⟨_, iC, ?_, rfl⟩
      refine congrArg Value.bool ?_
      rw [show (a % 16 == 8) = true from by simp; omega, show decide (a / 16 ≤ 7) = true from by simp; omega, show ((a * 256 + b) % 31 == 0) = true from by simp; omega]
      simp only [Bool.true_and]
      by_cases h0 : z = 0
      · subst h0; rfl
      · rw [show (z == 0) = false from by simpa using h0]; simp; omega
    · refine kR ?_
      exact ⟨_, iC, hno _ (hno2 (by omega)), rfl⟩
  · refine kR ?_
    exact ⟨_, iC, hno _ (hno2 (by omega)), rfl⟩
  · refine kR ?_
    exact ⟨_, iC, hno _ (hno2 (by omega)), rfl⟩
theorem sl_bytes {L : List Chunk} {v : Value} {m : Nat} {t : List UInt8} (h : Sl L 1 v m (bsv t)) (hm : 0 < m) :
    ∃ bb off cap c T fr, v = .slice (some ⟨bb, off, none⟩) m cap ∧ Fnd L bb (.cells c T fr) ∧ ∀ k, k < m → c[off + k * 1]? = some (.int .u8 ((t.getD k 0).toNat : Int)) := by
  rcases h with ⟨c, rfl, rfl, h0⟩ | ⟨a, cap, rfl, hr, hl⟩
  · omega
  · rw [bsv_length, Nat.mul_one] at hl
    rcases hr with h0 | ⟨b, off, c, T, fr, rfl, h1, h2⟩
    · have h9 : (bsv t).length = 0 := by rw [h0]; rfl
      rw [bsv_length] at h9
      omega
    · exact ⟨b, off, cap, c, T, fr, rfl, h1, fun k hk => by rw [Nat.mul_one]; exact h2 _ _ (bsv_get (by simp [List.getD, show k < t.length by omega]))⟩
set_option maxHeartbeats 4000000 in
theorem word_n (v : Value) (m : Nat) (t : List UInt8) (L : List Chunk) (h : Sl L 1 v m (bsv t)) (hm : 4 ≤ m) :
    GvP Tryd.prog 28 [v].toArray L (.int .u32 ((wdN (t.getD 0 0).toNat (t.getD 1 0).toNat (t.getD 2 0).toNat (t.getD 3 0).toNat : Nat) : Int)) := by
  refine Gv.of_body Tryd.func28 rfl rfl ?_
  obtain ⟨bb, off, cap, cc, T, fr, rfl, hfn, hcs⟩ := sl_bytes h (by omega)
  have hc0 := hcs 0 (by omega)
  have hc1 := hcs 1 (by omega)
  have hc2 := hcs 2 (by omega)
  have hc3 := hcs 3 (by omega)
  have h0 := (t.getD 0 0).toNat_lt
  have h1 := (t.getD 1 0).toNat_lt
  have h2 := (t.getD 2 0).toNat_lt
  have h3 := (t.getD 3 0).toNat_lt
  clear h hcs
  generalize (t.getD 0 0).toNat = b0 at *
  generalize (t.getD 1 0).toNat = b1 at *
  generalize (t.getD 2 0).toNat = b2 at *
  generalize (t.getD 3 0).toNat = b3 at *
  (repeat' first|refine kW ?_|refine kU fun bk=>?_|refine kV fun hc=>?_|refine kZ (fun hc=>?_) fun hc=>?_|fail)
  refine WC_drawAll [] mixed ?_
  (refine WR_t 0 ?_)
  (refine WR_take 1 rfl rfl (by kernel_rfl) iP iC (EV_indexAddr (j := 0) rfl rfl rfl (by omega)) (by rfl) ?_)
  (refine WR_take 2 rfl rfl (by kernel_rfl) iP iC (EV_load rfl hfn hc0) (by rfl) ?_)
  (refine WR_take 3 rfl rfl (by kernel_rfl) iP iC (EV_nconv b0 rfl rfl rfl (by simp only [IntKind.bits]; omega)) (by rfl) ?_)
  (refine WR_take 4 rfl rfl (by kernel_rfl) iP iC (EV_nshl b0 24 rfl rfl rfl rfl rfl (by simp only [IntKind.bits]; omega)) (by rfl) ?_)
  (refine WR_t 5 ?_)
  (refine WR_take 6 rfl rfl (by kernel_rfl) iP iC (EV_indexAddr (j := 1) rfl rfl rfl (by omega)) (by rfl) ?_)
  (refine WR_take 7 rfl rfl (by kernel_rfl) iP iC (EV_load rfl hfn hc1) (by rfl) ?_)
  (refine WR_take 8 rfl rfl (by kernel_rfl) iP iC (EV_nconv b1 rfl rfl rfl (by simp only [IntKind.bits]; omega)) (by rfl) ?_)
  (refine WR_take 9 rfl rfl (by kernel_rfl) iP iC (EV_nshl b1 16 rfl rfl rfl rfl rfl (by simp only [IntKind.bits]; omega)) (by rfl) ?_)
  (refine WR_take 10 rfl rfl (by kernel_rfl) iP iC (EV_nor' (k := .u32) (b1 * 2 ^ 16) b0 24 rfl rfl rfl rfl rfl (by omega) (by simp only [IntKind.bits]; omega)) (by rfl) ?_)
  rw [show b1 * 2 ^ 16 + b0 * 2 ^ 24 = (b1 + b0 * 256) * 2 ^ 16 from by omega]
  (refine WR_t 11 ?_)
  (refine WR_take 12 rfl rfl (by kernel_rfl) iP iC (EV_indexAddr (j := 2) rfl rfl rfl (by omega)) (by rfl) ?_)
  (refine WR_take 13 rfl rfl (by kernel_rfl) iP iC (EV_load rfl hfn hc2) (by rfl) ?_)
  (refine WR_take 14 rfl rfl (by kernel_rfl) iP iC (EV_nconv b2 rfl rfl rfl (by simp only [IntKind.bits]; omega)) (by rfl) ?_)
  (refine WR_take 15 rfl rfl (by kernel_rfl) iP iC (EV_nshl b2 8 rfl rfl rfl rfl rfl (by simp only [IntKind.bits]; omega)) (by rfl) ?_)
  (refine WR_take 16 rfl rfl (by kernel_rfl) iP iC (EV_nor' (k := .u32) (b2 * 2 ^ 8) (b1 + b0 * 256) 16 rfl rfl rfl rfl rfl (by omega) (by simp only [IntKind.bits]; omega)) (by rfl) ?_)
  rw [show b2 * 2 ^ 8 + (b1 + b0 * 256) * 2 ^ 16 = (b2 + (b1 + b0 * 256) * 256) * 2 ^ 8 from by omega]
  (refine WR_t 17 ?_)
  (refine WR_take 18 rfl rfl (by kernel_rfl) iP iC (EV_indexAddr (j := 3) rfl rfl rfl (by omega)) (by rfl) ?_)
  (refine WR_take 19 rfl rfl (by kernel_rfl) iP iC (EV_load rfl hfn hc3) (by rfl) ?_)
  (refine WR_take 20 rfl rfl (by kernel_rfl) iP iC (EV_nconv b3 rfl rfl rfl (by simp only [IntKind.bits]; omega)) (by rfl) ?_)
  (refine WR_take 21 rfl rfl (by kernel_rfl) iP iC (EV_nor' (k := .u32) b3 (b2 + (b1 + b0 * 256) * 256) 8 rfl rfl rfl rfl rfl (by omega) (by simp only [IntKind.bits]; omega)) (by rfl) ?_)
  rw [show b3 + (b2 + (b1 + b0 * 256) * 256) * 2 ^ 8 = wdN b0 b1 b2 b3 from by unfold wdN; omega]
  (refine WR_t 22 ?_)
  (refine WR_done (by kernel_rfl) ?_)
  (repeat' first|refine kW ?_|refine kU fun bk=>?_|refine kV fun hc=>?_|refine kZ (fun hc=>?_) fun hc=>?_|fail)
  exact kE
end Go.Proofs.YtdcehmhelfohfaaDoor
namespace Go.If
open Go.Vx Go.Hf
set_option linter.all false
def byt (d : List UInt8) (k : Nat) : Nat := (d.getD k 0).toNat
def usd [W0] (d : List UInt8) (m : Nat) : Nat := ((rawS (d.drop 2) m).t + 7) / 8
end Go.If
namespace Go.Proofs.YtdcehmhelfohfaaDoor
open Go Go.Vx Go.Hf Go.If
variable [W0]
set_option maxRecDepth 4000
set_option linter.all false
def adS (d : List UInt8) (m : Nat) : Nat := (adlV (adlN (1#32, 0#32) (rawS (d.drop 2) m).out)).toNat
def zlE (d : List UInt8) (m : Nat) : Nat :=
  if d.length < 2 then 4
  else if hdK (byt d 0) (byt d 1) = false then 3
  else if (rawS (d.drop 2) m).e ≠ 0 then (rawS (d.drop 2) m).e
  else if d.length < 2 + usd d m + 4 then 4
  else if wdN (byt d (2 + usd d m)) (byt d (2 + usd d m + 1)) (byt d (2 + usd d m + 2)) (byt d (2 + usd d m + 3)) ≠ adS d m then 6
  else 0
set_option maxHeartbeats 4000000 in
theorem pzlib_n (a : Option Addr) (c : Nat) (d : List UInt8) (most : Int) (m : Nat) (L : List Chunk) (hv : Sl L 1 (.slice a d.length c) d.length (bsv d)) (hl : d.length ≤ 140737488355328) (hcap : d.length ≤ c) (hm1 : max most 0 = (m : Int)) (hm : m ≤ 1000000) (hor : OrAt L) :
    Gv Tryd.prog 14 [.slice a d.length c, .int .i64 most].toArray L (fun r L' =>
      (zlE d m ≠ 0 ∧ r = .tuple #[.slice none 0 0, .int .i64 0, .int .i64 (zlE d m : Int)] ∧ L' = L) ∨
      (zlE d m = 0 ∧ ∃ v C, r = .tuple #[v, .int .i64 ((2 + usd d m + 4 : Nat) : Int), .int .i64 0] ∧ Ow 5 1 v (rawS (d.drop 2) m).out.length (bsv (rawS (d.drop 2) m).out) C ∧ (rawS (d.drop 2) m).out.length ≤ m ∧ L' = C :: L)) := by
  refine Gv.of_body Tryd.func14 rfl rfl ?_
  by_cases h2 : d.length < 2
  · have hz : zlE d m = 4 := by unfold zlE; rw [if_pos h2]
    rw [hz]
    (repeat' first|refine kW ?_|refine kU fun bk=>?_|refine kV fun hc=>?_|refine kZ (fun hc=>?_) fun hc=>?_|fail)
    refine WQ_retI (rs := [.tmp 4, .tmp 5, .tmp 6]) (vs := [.slice none 0 0, .int .i64 0, .int .i64 4]) rfl rfl ?_
    exact ⟨_, iC, .inl ⟨by decide, rfl, rfl⟩⟩
  have hz : zlE d m = if hdK (byt d 0) (byt d 1) = false then 3 else if (rawS (d.drop 2) m).e ≠ 0 then (rawS (d.drop 2) m).e else if d.length < 2 + usd d m + 4 then 4 else if wdN (byt d (2 + usd d m)) (byt d (2 + usd d m + 1)) (byt d (2 + usd d m + 2)) (byt d (2 + usd d m + 3)) ≠ adS d m then 6 else 0 := by
    unfold zlE; rw [if_neg h2]
  rw [hz]
  clear hz
  obtain ⟨bb, off, cap, cc, T, fr, hve, hfn, hcs⟩ := sl_bytes hv (by omega)
  injection hve with q1 q2 q3
  subst q1 q3
  clear q2
  have hhd := isHead_n (d.getD 0 0) (d.getD 1 0) L
  change GvP _ _ _ L (.bool (hdK (byt d 0) (byt d 1))) at hhd
  generalize hK : hdK (byt d 0) (byt d 1) = K at hhd ⊢
  (repeat' first|refine kW ?_|refine kU fun bk=>?_|refine kV fun hc=>?_|refine kZ (fun hc=>?_) fun hc=>?_|fail)
  refine WC_drawAll [] mixed ?_
  (refine WR_t 0 ?_)
  (refine WR_take 1 rfl rfl (by kernel_rfl) iP iC (EV_indexAddr (j := 0) rfl rfl rfl (by omega)) (by rfl) ?_)
  (refine WR_take 2 rfl rfl (by kernel_rfl) iP iC (EV_load rfl hfn (hcs 0 (by omega))) (by rfl) ?_)
  (refine WR_t 3 ?_)
  (refine WR_take 4 rfl rfl (by kernel_rfl) iP iC (EV_indexAddr (j := 1) rfl rfl rfl (by omega)) (by rfl) ?_)
  (refine WR_take 5 rfl rfl (by kernel_rfl) iP iC (EV_load rfl hfn (hcs 1 (by omega))) (by rfl) ?_)
  (refine WR_one 6 (by kernel_rfl) rfl rfl ?_)
  refine OW_callP rfl rfl rfl hhd rfl ?_
  refine ⟨iC, ?_⟩
  (refine WR_t 7 ?_)
  (refine WR_done (by kernel_rfl) ?_)
  cases K with
  | false =>
    rw [if_pos rfl]
    (repeat' first|refine kW ?_|refine kU fun bk=>?_|refine kV fun hc=>?_|refine kZ (fun hc=>?_) fun hc=>?_|fail)
    refine WQ_retI (rs := [.tmp 4, .tmp 5, .tmp 6]) (vs := [.slice none 0 0, .int .i64 0, .int .i64 3]) rfl rfl ?_
    exact ⟨_, iC, .inl ⟨by decide, rfl, rfl⟩⟩
  | true =>
    rw [if_neg (by decide)]
    have hsub : ∀ k, k ≤ d.length → Sl L 1 (.slice (some ⟨bb, if c = k then off else off + k * 1, none⟩) (d.length - k) (c - k)) (d.length - k) (bsv (d.drop k)) := by
      intro k hk
      refine .inr ⟨_, _, rfl, ?_, by rw [bsv_length, List.length_drop, Nat.mul_one]⟩
      by_cases h0 : d.length = k
      · refine .inl ?_
        rw [List.drop_of_length_le (by omega)]; rfl
      · rw [if_neg (by omega)]
        refine .inr ⟨bb, _, cc, T, fr, rfl, hfn, fun j u hj => ?_⟩
        have hjl : j < (d.drop k).length := by
          have := (List.getElem?_eq_some_iff.1 hj).1
          rwa [bsv_length] at this
        have hj2 : u = .int .u8 ((d.getD (k + j) 0).toNat : Int) := by
          have h3 := bsv_get (l := d.drop k) (i := j) (b := d.getD (k + j) 0) (by rw [List.length_drop] at hjl; simp [List.getD, show k + j < d.length by omega])
          rw [h3] at hj
          injection hj with hj
          exact hj.symm
        rw [hj2, show off + k * 1 + j = off + (k + j) * 1 from by omega]
        rw [List.length_drop] at hjl
        exact hcs (k + j) (by omega)
    have hra := praw_n (some ⟨bb, if c = 2 then off else off + 2 * 1, none⟩) (c - 2) (d.drop 2) most m L (by rw [List.length_drop]; exact hsub 2 (by omega)) (by rw [List.length_drop]; omega) hm1 hm hor
    rw [List.length_drop] at hra
    have hus : usd d m = ((rawS (d.drop 2) m).t + 7) / 8 := rfl
    have had : adS d m = (adlV (adlN (1#32, 0#32) (rawS (d.drop 2) m).out)).toNat := rfl
    generalize rawS (d.drop 2) m = R at hra hus had ⊢
    rw [← hus] at hra
    generalize usd d m = n at hra hus ⊢
    generalize adS d m = ad at had ⊢
    (repeat' first|refine kW ?_|refine kU fun bk=>?_|refine kV fun hc=>?_|refine kZ (fun hc=>?_) fun hc=>?_|fail)
    refine OW_EV (EV_sliceSl (l := 2) (h := d.length) rfl rfl rfl (by omega) hcap) rfl ?_
    (repeat' first|refine kW ?_|refine kU fun bk=>?_|refine kV fun hc=>?_|refine kZ (fun hc=>?_) fun hc=>?_|fail)
    refine OW_call rfl rfl rfl hra rfl (fun r L' hp => ?_)
    rcases hp with ⟨h3, rfl, rfl⟩ | ⟨h3, v1, C1, rfl, ho1, hl1, ht1, rfl⟩
    · rw [if_pos h3]
      (repeat' first|refine kW ?_|refine kU fun bk=>?_|refine kV fun hc=>?_|refine kZ (fun hc=>?_) fun hc=>?_|fail)
      refine WQ_retI (rs := [.tmp 4, .tmp 5, .tmp 6]) (vs := [.slice none 0 0, .int .i64 0, .int .i64 (R.e : Int)]) rfl rfl ?_
      exact ⟨_, iC, .inl ⟨h3, rfl, rfl⟩⟩
    rw [if_neg (show ¬ R.e ≠ 0 by omega)]
    have hn2 : 2 + n ≤ d.length := by omega
    (repeat' first|refine kW ?_|refine kU fun bk=>?_|refine kV fun hc=>?_|refine kZ (fun hc=>?_) fun hc=>?_|fail)
    rw [show (2 : Int) + (n : Int) = ((2 + n : Nat) : Int) from by omega]
    refine OW_EV (EV_sliceSl (l := 2 + n) (h := d.length) rfl rfl rfl hn2 hcap) rfl ?_
    (repeat' first|refine kW ?_|refine kU fun bk=>?_|refine kV fun hc=>?_|refine kZ (fun hc=>?_) fun hc=>?_|fail)
    · rw [if_pos (show d.length < 2 + n + 4 by omega)]
      refine WQ_retI (rs := [.tmp 4, .tmp 5, .tmp 6]) (vs := [.slice none 0 0, .int .i64 0, .int .i64 4]) rfl rfl ?_
      exact ⟨_, iC, .inl ⟨by decide, rfl, rfl⟩⟩
    rw [if_neg (show ¬ d.length < 2 + n + 4 by omega)]
    have hw := word_n _ _ (d.drop (2 + n)) (C1 :: L) (sl_there (hsub (2 + n) hn2)) (by omega)
    have hgd : ∀ j, ((d.drop (2 + n)).getD j 0).toNat = byt d (2 + n + j) := fun j => by simp [byt, List.getD]
    rw [hgd, hgd, hgd, hgd, Nat.add_zero] at hw
    refine OW_callP rfl rfl rfl hw rfl ?_
    generalize wdN (byt d (2 + n)) (byt d (2 + n + 1)) (byt d (2 + n + 2)) (byt d (2 + n + 3)) = wd
    (repeat' first|refine kW ?_|refine kU fun bk=>?_|refine kV fun hc=>?_|refine kZ (fun hc=>?_) fun hc=>?_|fail)
    have hadl : GvP Tryd.prog 29 [v1].toArray (C1 :: L) (.int .u32 (ad : Int)) := by rw [had]; exact adler_n R.out v1 (C1 :: L) (by omega) (SlC.ow ho1)
    refine OW_callP rfl rfl rfl hadl rfl ?_
    (repeat' first|refine kW ?_|refine kU fun bk=>?_|refine kV fun hc=>?_|refine kZ (fun hc=>?_) fun hc=>?_|fail)
    · rw [if_pos (show wd ≠ ad by omega)]
      refine WQ_retI (rs := [.tmp 4, .tmp 5, .tmp 6]) (vs := [.slice none 0 0, .int .i64 0, .int .i64 6]) rfl rfl ?_
      exact ⟨_, iC, .inl ⟨by decide, rfl, rfl⟩⟩
    · rw [if_neg (show ¬ wd ≠ ad by omega)]
      refine kR ?_
      exact ⟨_, iC, .inr ⟨rfl, v1, C1, by rw [show ((2 + n + 4 : Nat) : Int) = 2 + (n : Int) + 4 from by omega]; rfl, ho1, hl1, rfl⟩⟩
end Go.Proofs.YtdcehmhelfohfaaDoor
namespace Go.Proofs.YtdcehmhelfohfaaDoor
open Go Go.Vx Go.Hf Go.If
variable [W0]
set_option maxRecDepth 100000
set_option linter.all false
omit [W0] in
def awA : List UInt8 := [1, 2, 0, 253, 255, 97, 98]
omit [W0] in
def awZ : List UInt8 := [120, 1, 1, 0, 0, 255, 255, 0, 0, 0, 1]
theorem awA_eq : rawS awA 10 = ⟨56, [97, 98], 0⟩ := by kernel_rfl
theorem aw7_eq : (rawS [7] 10).e = 3 := by kernel_rfl
theorem awZ_eq : zlE awZ 10 = 0 := by kernel_rfl
theorem awZ_us : usd awZ 10 = 5 := by kernel_rfl
set_option maxHeartbeats 4000000 in
theorem iawake_n (L : List Chunk) (hor : OrAt L) : GvP Tryd.prog 9 [].toArray L (.bool true) := by
  refine Gv.of_body Tryd.func9 rfl rfl ?_
  (repeat' first|refine kW ?_|refine kU fun bk=>?_|refine kV fun hc=>?_|refine kZ (fun hc=>?_) fun hc=>?_|fail)
  refine OW_buildSlice (cs := bsv awA) rfl (by rfl) (by simp [fillL, patch, Value.cells, zeros]; rfl) (by omega) rfl rfl (fun b1 => ?_)
  (repeat' first|refine kW ?_|refine kU fun bk=>?_|refine kV fun hc=>?_|refine kZ (fun hc=>?_) fun hc=>?_|fail)
  have h1 := praw_n (some ⟨b1, 0, none⟩) 7 awA 10 10 ([(b1, cl (bsv awA) 5)] :: L) (sl_cells (c := (bsv awA).toArray) (xs := bsv awA) (m := 7) Fnd.here rfl (by simp)) (by decide) (by decide) (by decide) hor.there
  rw [awA_eq] at h1
  refine OW_call rfl rfl rfl h1 rfl (fun r L' hp => ?_)
  rcases hp with ⟨h, _⟩ | ⟨_, v1, C1, rfl, ho1, _, _, rfl⟩
  · exact absurd rfl h
  (repeat' first|refine kW ?_|refine kU fun bk=>?_|refine kV fun hc=>?_|refine kZ (fun hc=>?_) fun hc=>?_|fail)
  refine OW_buildSlice (cs := bsv [7]) rfl (by rfl) (by simp [fillL, patch, Value.cells, zeros]; rfl) (by omega) rfl rfl (fun b2 => ?_)
  (repeat' first|refine kW ?_|refine kU fun bk=>?_|refine kV fun hc=>?_|refine kZ (fun hc=>?_) fun hc=>?_|fail)
  have h2 := praw_n (some ⟨b2, 0, none⟩) 1 [7] 10 10 ([(b2, cl (bsv [7]) 5)] :: C1 :: [(b1, cl (bsv awA) 5)] :: L) (sl_cells (c := (bsv [7]).toArray) (xs := bsv [7]) (m := 1) Fnd.here rfl (by simp)) (by decide) (by decide) (by decide) hor.there.there.there
  rw [aw7_eq] at h2
  refine OW_call rfl rfl rfl h2 rfl (fun r L' hp => ?_)
  rcases hp with ⟨_, rfl, rfl⟩ | ⟨h, _⟩
  rotate_left
  · cases h
  (repeat' first|refine kW ?_|refine kU fun bk=>?_|refine kV fun hc=>?_|refine kZ (fun hc=>?_) fun hc=>?_|fail)
  refine OW_buildSlice (cs := bsv awZ) rfl (by rfl) (by simp [fillL, patch, Value.cells, zeros]; rfl) (by omega) rfl rfl (fun b3 => ?_)
  (repeat' first|refine kW ?_|refine kU fun bk=>?_|refine kV fun hc=>?_|refine kZ (fun hc=>?_) fun hc=>?_|fail)
  have h3 := pzlib_n (some ⟨b3, 0, none⟩) 11 awZ 10 10 ([(b3, cl (bsv awZ) 5)] :: [(b2, cl (bsv [7]) 5)] :: C1 :: [(b1, cl (bsv awA) 5)] :: L) (sl_cells (c := (bsv awZ).toArray) (xs := bsv awZ) (m := 11) Fnd.here rfl (by simp)) (by decide) (by decide) (by decide) (by decide) hor.there.there.there.there
  rw [awZ_eq, awZ_us] at h3
  refine OW_call rfl rfl rfl h3 rfl (fun r L' hp => ?_)
  rcases hp with ⟨h, _⟩ | ⟨_, v3, C3, rfl, _, _, rfl⟩
  · exact absurd rfl h
  (repeat' first|refine kW ?_|refine kU fun bk=>?_|refine kV fun hc=>?_|refine kZ (fun hc=>?_) fun hc=>?_|fail)
  refine OW_EV (EV_convStr (m := 2) (b := [97, 98]) rfl (by exact sl_there (sl_there (sl_there (ow_sl ho1))))) rfl ?_
  (repeat' first|refine kW ?_|refine kU fun bk=>?_|refine kV fun hc=>?_|refine kZ (fun hc=>?_) fun hc=>?_|fail)
  exact kE
end Go.Proofs.YtdcehmhelfohfaaDoor
namespace Go.Proofs.YtdcehmhelfohfaaDoor
open Go Go.Vx
variable [W0]
set_option maxRecDepth 4000
set_option linter.all false
omit [W0] in
/-- The document's writer. -/
def RwD (p V N : Nat) (D E : Chunk) : Prop := V < 2 ^ N ∧ ∃ v, D = [(p, cl [v, .int .i64 (N : Int)] 26)] ∧ Ow 5 1 v ((N + 7) / 8) (bsv (leB V ((N + 7) / 8))) E
theorem RwD.new (p : Nat) : RwD p 0 0 [(p, cl [.slice none 0 0, .int .i64 0] 26)] [] := ⟨by decide, _, rfl, .inl ⟨rfl, rfl, rfl, rfl⟩⟩
theorem RwD.cast {p V V' N N' : Nat} {D E : Chunk} (h : RwD p V N D E) (hv : V = V') (he : N = N') : RwD p V' N' D E := hv ▸ he ▸ h
theorem leB_set {V N bit q : Nat} (hq : q = N / 8) (hV : V < 2 ^ N) (hb : bit < 2) : V / 2 ^ (8 * q) < 2 ^ (N % 8) ∧ ((leB V (q + 1)).getD q 0).toNat = V / 2 ^ (8 * q) ∧
    (byB (V + 2 ^ N * bit) q).toNat = V / 2 ^ (8 * q) + bit * 2 ^ (N % 8) ∧ (leB V (q + 1)).set q (byB (V + 2 ^ N * bit) q) = leB (V + 2 ^ N * bit) (q + 1) := by
  have h1 : V / 2 ^ (8 * q) < 2 ^ (N % 8) := by
    rw [Nat.div_lt_iff_lt_mul (Nat.pow_pos (by decide)), ← Nat.pow_add, show N % 8 + 8 * q = N from by omega]
    exact hV
  have h2 : 2 ^ (N % 8) ≤ 2 ^ 7 := pow_le (by omega)
  have h3 : bit * 2 ^ (N % 8) ≤ 1 * 2 ^ 7 := Nat.mul_le_mul (by omega) h2
  have hl := leB_length V q
  refine ⟨h1, ?_, ?_, ?_⟩
  · rw [leB_succ]
    have : (leB V q ++ [byB V q])[q]? = some (byB V q) := by rw [List.getElem?_append_right (by omega), hl]; simp
    simp only [List.getD, this, Option.getD_some]
    rw [byB_toNat, Nat.mod_eq_of_lt (by omega)]
  · rw [byB_toNat, show 2 ^ N * bit = 2 ^ (8 * q) * (bit * 2 ^ (N % 8)) from by
      rw [show 2 ^ N = 2 ^ (8 * q) * 2 ^ (N % 8) from by rw [← Nat.pow_add]; congr 1; omega]; ac_rfl, Nat.add_mul_div_left _ _ (Nat.pow_pos (by decide)), Nat.mod_eq_of_lt (by omega)]
  · rw [leB_succ, leB_succ, leB_add (by omega)]
    rw [List.set_append_right _ _ (by omega), hl, Nat.sub_self]
    rfl
set_option maxHeartbeats 4000000 in
theorem rone_n (p V N v : Nat) (D E : Chunk) (L : List Chunk) (h : RwD p V N D E) (hv : v < 2 ^ 32) (hN : N ≤ 1125899906841600) :
    Gv Tryd.prog 16 [.pointer (some ⟨p, 0, none⟩), .int .u32 (v : Int)].toArray (D :: E :: L) (fun r L' => r = .tuple #[] ∧ ∃ D' E', RwD p (V + 2 ^ N * (v % 2)) (N + 1) D' E' ∧ L' = D' :: E' :: L) := by
  obtain ⟨hV, f, rfl, hf⟩ := h
  refine Gv.of_body Tryd.func16 rfl rfl ?_
  obtain ⟨q, hq⟩ : ∃ q, q = N / 8 := ⟨_, rfl⟩
  have hbit : v % 2 < 2 := Nat.mod_lt _ (by decide)
  obtain ⟨g1, g2, g3, g4⟩ := leB_set hq hV hbit
  have hlt : V + 2 ^ N * (v % 2) < 2 ^ (N + 1) := add_lt hV (by simpa using hbit)
  have h2 : 2 ^ (N % 8) ≤ 2 ^ 7 := pow_le (by omega)
  have h3 : v % 2 * 2 ^ (N % 8) ≤ 1 * 2 ^ 7 := Nat.mul_le_mul (by omega) h2
  (repeat' first|refine kW ?_|refine kU fun bk=>?_|refine kV fun hc=>?_|refine kZ (fun hc=>?_) fun hc=>?_|fail)
  refine OW_EV (EV_remN N 8 rfl rfl rfl rfl (by decide)) rfl ?_
  (repeat' first|refine kW ?_|refine kU fun bk=>?_|refine kV fun hc=>?_|refine kZ (fun hc=>?_) fun hc=>?_|fail)
  · have h8 : N % 8 = 0 := by omega
    rw [show (N + 7) / 8 = q from by omega] at hf
    refine OW_buildSlice (cs := bsv [byB V q]) rfl (by rfl) (by rw [byB_over (by rw [show 8 * q = N from by omega]; exact hV)]; simp [fillL, patch, Value.cells, zeros]; rfl) (by omega) rfl rfl (fun bk => ?_)
    (repeat' first|refine kW ?_|refine kU fun bk=>?_|refine kV fun hc=>?_|refine kZ (fun hc=>?_) fun hc=>?_|fail)
    refine OW_append rfl rfl hf (sl_cells (c := (bsv [byB V q]).toArray) (xs := bsv [byB V q]) (m := 1) Fnd.here rfl (by simp)) (by repeat (first | exact Zip.here _ | apply Zip.there)) (by rfl) bsv_ones (by omega) (by simp [maxLen]; omega) rfl (fun f2 C2 ho1 _ _ => ?_)
    rw [← bsv_append, ← leB_succ] at ho1
    have hf := ho1
    (repeat' first|refine kW ?_|refine kU fun bk=>?_|refine kV fun hc=>?_|refine kZ (fun hc=>?_) fun hc=>?_|fail)
    refine OW_store rfl rfl (ow_one hf) iU (by simp) ?_
    (repeat' first|refine kW ?_|refine kU fun bk=>?_|refine kV fun hc=>?_|refine kZ (fun hc=>?_) fun hc=>?_|fail)
    obtain ⟨b, cap, rest, rfl, rfl, hcell, hlt3, hset⟩ := ow_put hf (k := q) (by omega)
    rw [g2] at hcell
    refine WC_drawAll [31] mixed ?_
    (refine WR_t 0 ?_; refine WR_t 1 ?_; refine WR_t 2 ?_; refine WR_t 3 ?_; refine WR_t 4 ?_; refine WR_t 5 ?_; refine WR_t 6 ?_; refine WR_t 7 ?_)
    (refine WR_take 8 rfl rfl (by kernel_rfl) iP iC (EV_quoN N 8 rfl rfl rfl rfl (by decide) (by omega)) (by rfl) ?_)
    (refine WR_t 9 ?_; refine WR_t 10 ?_; refine WR_t 11 ?_; refine WR_t 12 ?_; refine WR_t 13 ?_; refine WR_t 14 ?_; refine WR_t 15 ?_; refine WR_t 16 ?_)
    (refine WR_take 17 rfl rfl (by kernel_rfl) iP iC (EV_quoN N 8 rfl rfl rfl rfl (by decide) (by omega)) (by rfl) ?_)
    rw [← hq]
    (refine WR_take 18 rfl rfl (by kernel_rfl) iP iC (EV_indexAddr0 (j := q) rfl rfl rfl (by omega)) (by rfl) ?_)
    (refine WR_take 19 rfl rfl (by kernel_rfl) iP iC (EV_load rfl (by repeat (first | assumption | exact Fnd.here | refine Fnd.there ?_)) hcell) (by rfl) ?_)
    (refine WR_t 20 ?_)
    (refine WR_take 21 rfl rfl (by kernel_rfl) iP iC (EV_nand v 1 rfl rfl rfl rfl rfl (by simp only [IntKind.bits]; omega) (by decide)) (by rfl) ?_)
    rw [Nat.pow_one]
    (refine WR_take 22 rfl rfl (by kernel_rfl) iP iC (EV_nconv (k' := .u8) (v % 2) rfl rfl rfl (by simp only [IntKind.bits]; omega)) (by rfl) ?_)
    (refine WR_t 23 ?_; refine WR_t 24 ?_; refine WR_t 25 ?_; refine WR_t 26 ?_)
    (refine WR_take 27 rfl rfl (by kernel_rfl) iP iC (EV_remN N 8 rfl rfl rfl rfl (by decide)) (by rfl) ?_)
    (refine WR_take 28 rfl rfl (by kernel_rfl) iP iC (EV_nshl (v % 2) (N % 8) rfl rfl rfl rfl rfl (by simp only [IntKind.bits]; omega)) (by rfl) ?_)
    (refine WR_take 29 rfl rfl (by kernel_rfl) iP iC (EV_nor (V / 2 ^ (8 * q)) (v % 2) (N % 8) rfl rfl rfl rfl rfl g1 (by simp only [IntKind.bits]; omega)) (by rfl) ?_)
    rw [← g3]
    (refine WR_take 30 rfl rfl (by kernel_rfl) iP iC (EV_indexAddr0 (j := q) rfl rfl rfl (by omega)) (by rfl) ?_)
    (refine WR_last 31 (by kernel_rfl) rfl rfl rfl ?_)
    refine OW_store rfl rfl rfl iU hlt3 ?_
    (refine WR_done (by kernel_rfl) ?_)
    (repeat' first|refine kW ?_|refine kU fun bk=>?_|refine kV fun hc=>?_|refine kZ (fun hc=>?_) fun hc=>?_|fail)
    rw [show (N : Int) + 1 = ((N + 1 : Nat) : Int) from by omega]
    (repeat' first|refine kW ?_|refine kU fun bk=>?_|refine kV fun hc=>?_|refine kZ (fun hc=>?_) fun hc=>?_|fail)
    have hs := hset (byB (V + 2 ^ N * (v % 2)) q)
    rw [g4] at hs
    refine kR ?_
    refine ⟨[(p, cl [.slice (some ⟨b, 0, none⟩) (q + 1) cap, .int .i64 ((N + 1 : Nat) : Int)] 26)] :: [(b, cl ((bsv (leB V (q + 1)) ++ rest).set (q * 1) (.int .u8 ((byB (V + 2 ^ N * (v % 2)) q).toNat : Int))) 5)] :: L, iC, rfl, _, _, ⟨hlt, _, rfl, ?_⟩, rfl⟩
    rw [show (N + 1 + 7) / 8 = q + 1 from by omega]
    exact hs
  · have h8 : N % 8 ≠ 0 := by omega
    rw [show (N + 7) / 8 = q + 1 from by omega] at hf
    obtain ⟨b, cap, rest, rfl, rfl, hcell, hlt3, hset⟩ := ow_put hf (k := q) (by omega)
    rw [g2] at hcell
    refine WC_drawAll [31] mixed ?_
    (refine WR_t 0 ?_; refine WR_t 1 ?_; refine WR_t 2 ?_; refine WR_t 3 ?_; refine WR_t 4 ?_; refine WR_t 5 ?_; refine WR_t 6 ?_; refine WR_t 7 ?_)
    (refine WR_take 8 rfl rfl (by kernel_rfl) iP iC (EV_quoN N 8 rfl rfl rfl rfl (by decide) (by omega)) (by rfl) ?_)
    (refine WR_t 9 ?_; refine WR_t 10 ?_; refine WR_t 11 ?_; refine WR_t 12 ?_; refine WR_t 13 ?_; refine WR_t 14 ?_; refine WR_t 15 ?_; refine WR_t 16 ?_)
    (refine WR_take 17 rfl rfl (by kernel_rfl) iP iC (EV_quoN N 8 rfl rfl rfl rfl (by decide) (by omega)) (by rfl) ?_)
    rw [← hq]
    (refine WR_take 18 rfl rfl (by kernel_rfl) iP iC (EV_indexAddr0 (j := q) rfl rfl rfl (by omega)) (by rfl) ?_)
    (refine WR_take 19 rfl rfl (by kernel_rfl) iP iC (EV_load rfl (by repeat (first | assumption | exact Fnd.here | refine Fnd.there ?_)) hcell) (by rfl) ?_)
    (refine WR_t 20 ?_)
    (refine WR_take 21 rfl rfl (by kernel_rfl) iP iC (EV_nand v 1 rfl rfl rfl rfl rfl (by simp only [IntKind.bits]; omega) (by decide)) (by rfl) ?_)
    rw [Nat.pow_one]
    (refine WR_take 22 rfl rfl (by kernel_rfl) iP iC (EV_nconv (k' := .u8) (v % 2) rfl rfl rfl (by simp only [IntKind.bits]; omega)) (by rfl) ?_)
    (refine WR_t 23 ?_; refine WR_t 24 ?_; refine WR_t 25 ?_; refine WR_t 26 ?_)
    (refine WR_take 27 rfl rfl (by kernel_rfl) iP iC (EV_remN N 8 rfl rfl rfl rfl (by decide)) (by rfl) ?_)
    (refine WR_take 28 rfl rfl (by kernel_rfl) iP iC (EV_nshl (v % 2) (N % 8) rfl rfl rfl rfl rfl (by simp only [IntKind.bits]; omega)) (by rfl) ?_)
    (refine WR_take 29 rfl rfl (by kernel_rfl) iP iC (EV_nor (V / 2 ^ (8 * q)) (v % 2) (N % 8) rfl rfl rfl rfl rfl g1 (by simp only [IntKind.bits]; omega)) (by rfl) ?_)
    rw [← g3]
    (refine WR_take 30 rfl rfl (by kernel_rfl) iP iC (EV_indexAddr0 (j := q) rfl rfl rfl (by omega)) (by rfl) ?_)
    (refine WR_last 31 (by kernel_rfl) rfl rfl rfl ?_)
    refine OW_store rfl rfl rfl iU hlt3 ?_
    (refine WR_done (by kernel_rfl) ?_)
    (repeat' first|refine kW ?_|refine kU fun bk=>?_|refine kV fun hc=>?_|refine kZ (fun hc=>?_) fun hc=>?_|fail)
    rw [show (N : Int) + 1 = ((N + 1 : Nat) : Int) from by omega]
    (repeat' first|refine kW ?_|refine kU fun bk=>?_|refine kV fun hc=>?_|refine kZ (fun hc=>?_) fun hc=>?_|fail)
    have hs := hset (byB (V + 2 ^ N * (v % 2)) q)
    rw [g4] at hs
    refine kR ?_
    refine ⟨[(p, cl [.slice (some ⟨b, 0, none⟩) (q + 1) cap, .int .i64 ((N + 1 : Nat) : Int)] 26)] :: [(b, cl ((bsv (leB V (q + 1)) ++ rest).set (q * 1) (.int .u8 ((byB (V + 2 ^ N * (v % 2)) q).toNat : Int))) 5)] :: L, iC, rfl, _, _, ⟨hlt, _, rfl, ?_⟩, rfl⟩
    rw [show (N + 1 + 7) / 8 = q + 1 from by omega]
    exact hs
theorem mod_bit (v i : Nat) : v % 2 ^ i + 2 ^ i * (v / 2 ^ i % 2) = v % 2 ^ (i + 1) := by
  rw [Nat.pow_add 2 i 1, Nat.mod_mul, Nat.pow_one]
set_option maxHeartbeats 2000000 in
theorem rput_n (p V N v : Nat) (n : Int) (D E : Chunk) (L : List Chunk) (h : RwD p V N D E) (hv : v < 2 ^ 32) (hN : N ≤ 1125899906841000) :
    Gv Tryd.prog 10 [.pointer (some ⟨p, 0, none⟩), .int .u32 (v : Int), .int .i64 n].toArray (D :: E :: L) (fun r L' => r = .tuple #[] ∧ ∃ D' E', RwD p (V + 2 ^ N * (v % 2 ^ clp n)) (N + clp n) D' E' ∧ L' = D' :: E' :: L) := by
  refine Gv.of_body Tryd.func10 rfl rfl ?_
  have hc := clp_le n
  have hcn : (clp n : Int) = min (max n 0) 32 := (clp_cast n).symm
  obtain ⟨c, hcc⟩ : ∃ c, c = clp n := ⟨_, rfl⟩
  rw [← hcc] at hc hcn ⊢
  (repeat' first|refine kW ?_|refine kU fun bk=>?_|refine kV fun hc=>?_|refine kZ (fun hc=>?_) fun hc=>?_|fail)
  refine WC_loop (X := Nat × Chunk × Chunk) (fun x => [(0, .pointer (some ⟨p, 0, none⟩)), (1, .int .u32 (v : Int)), (2, .int .i64 n), (6, .int .i64 (x.1 : Int))])
    (fun x => x.2.1 :: x.2.2 :: L) (fun x => x.1 ≤ c ∧ RwD p (V + 2 ^ N * (v % 2 ^ x.1)) (N + x.1) x.2.1 x.2.2) (fun x => c - x.1) (0, D, E) ⟨Nat.zero_le _, h.cast (by rw [Nat.pow_zero, Nat.mod_one]; rfl) rfl⟩ iS (fun w h => h) ?_
  rintro ⟨i, D, E⟩ ⟨hi, hR⟩
  simp only at hi hR ⊢
  (repeat' first|refine kW ?_|refine kU fun bk=>?_|refine kV fun hc=>?_|refine kZ (fun hc=>?_) fun hc=>?_|fail)
  · have hlt : i < c := by omega
    refine OW_EV (EV_nshr v i rfl rfl rfl rfl (by simp only [IntKind.bits]; omega)) rfl ?_
    (repeat' first|refine kW ?_|refine kU fun bk=>?_|refine kV fun hc=>?_|refine kZ (fun hc=>?_) fun hc=>?_|fail)
    refine OW_call rfl rfl rfl (rone_n p _ (N + i) (v / 2 ^ i) D E L hR (Nat.lt_of_le_of_lt (Nat.div_le_self _ _) hv) (by omega)) rfl (fun r L' hp => ?_)
    obtain ⟨rfl, D', E', hR', rfl⟩ := hp
    (repeat' first|refine kW ?_|refine kU fun bk=>?_|refine kV fun hc=>?_|refine kZ (fun hc=>?_) fun hc=>?_|fail)
    have hR2 := hR'.cast (V' := V + 2 ^ N * (v % 2 ^ (i + 1))) (N' := N + (i + 1)) (by rw [← mod_bit, Nat.mul_add, Nat.pow_add]; ac_rfl) (by omega)
    refine WQ_round (X := Nat × Chunk × Chunk) (μ := fun x => c - x.1) (x := (i, D, E)) (i + 1, D', E') (by simp only; omega) ⟨by simp only; omega, hR2⟩ iS (fun w h => iH h)
  · have hic : i = c := by omega
    rw [hic] at hR
    refine kR ?_
    exact ⟨_, iC, rfl, D, E, hR, rfl⟩
set_option maxHeartbeats 2000000 in
theorem rcode_n (p V N v : Nat) (n : Int) (D E : Chunk) (L : List Chunk) (h : RwD p V N D E) (hv : v < 2 ^ 32) (hN : N ≤ 1125899906841000) :
    Gv Tryd.prog 11 [.pointer (some ⟨p, 0, none⟩), .int .u32 (v : Int), .int .i64 n].toArray (D :: E :: L) (fun r L' => r = .tuple #[] ∧ ∃ D' E', RwD p (V + 2 ^ N * mir v (clp n)) (N + clp n) D' E' ∧ L' = D' :: E' :: L) := by
  refine Gv.of_body Tryd.func11 rfl rfl ?_
  have hc := clp_le n
  have hcn : min (max n 0) 32 = (clp n : Int) := clp_cast n
  obtain ⟨c, hcc⟩ : ∃ c, c = clp n := ⟨_, rfl⟩
  rw [← hcc] at hc hcn ⊢
  (repeat' first|refine kW ?_|refine kU fun bk=>?_|refine kV fun hc=>?_|refine kZ (fun hc=>?_) fun hc=>?_|fail)
  rw [hcn]
  (repeat' first|refine kW ?_|refine kU fun bk=>?_|refine kV fun hc=>?_|refine kZ (fun hc=>?_) fun hc=>?_|fail)
  refine WC_loop (X := Nat × Nat × Chunk × Chunk) (fun x => [(0, .pointer (some ⟨p, 0, none⟩)), (1, .int .u32 (v : Int)), (6, .int .i64 ((x.1 : Int) - 1))])
    (fun x => x.2.2.1 :: x.2.2.2 :: L) (fun x => x.1 ≤ c ∧ x.2.1 + 2 ^ (c - x.1) * mir v x.1 = mir v c ∧ RwD p (V + 2 ^ N * x.2.1) (N + (c - x.1)) x.2.2.1 x.2.2.2) (fun x => x.1) (c, 0, D, E) ⟨Nat.le_refl _, by simp only; rw [Nat.sub_self]; omega, h.cast (by rfl) (by simp only; omega)⟩ iS (fun w h => h) ?_
  rintro ⟨i, A, D, E⟩ ⟨hi, hA, hR⟩
  simp only at hi hA hR ⊢
  (repeat' first|refine kW ?_|refine kU fun bk=>?_|refine kV fun hc=>?_|refine kZ (fun hc=>?_) fun hc=>?_|fail)
  · obtain ⟨j, rfl⟩ : ∃ j, i = j + 1 := ⟨i - 1, by omega⟩
    rw [show ((j + 1 : Nat) : Int) - 1 = (j : Int) from by omega]
    refine OW_EV (EV_nshr v j rfl rfl rfl rfl (by simp only [IntKind.bits]; omega)) rfl ?_
    (repeat' first|refine kW ?_|refine kU fun bk=>?_|refine kV fun hc=>?_|refine kZ (fun hc=>?_) fun hc=>?_|fail)
    refine OW_call rfl rfl rfl (rone_n p _ _ (v / 2 ^ j) D E L hR (Nat.lt_of_le_of_lt (Nat.div_le_self _ _) hv) (by omega)) rfl (fun r L' hp => ?_)
    obtain ⟨rfl, D', E', hR', rfl⟩ := hp
    (repeat' first|refine kW ?_|refine kU fun bk=>?_|refine kV fun hc=>?_|refine kZ (fun hc=>?_) fun hc=>?_|fail)
    have hR2 := hR'.cast (V' := V + 2 ^ N * (A + 2 ^ (c - (j + 1)) * (v / 2 ^ j % 2))) (N' := N + (c - j)) (by rw [Nat.mul_add, Nat.pow_add]; ac_rfl) (by omega)
    refine WQ_round (X := Nat × Nat × Chunk × Chunk) (μ := fun x => x.1) (x := (j + 1, A, D, E)) (j, A + 2 ^ (c - (j + 1)) * (v / 2 ^ j % 2), D', E') (by simp only; omega) ⟨by simp only; omega, ?_, hR2⟩ iS (fun w h => iH h)
    simp only
    rw [← hA, show c - j = c - (j + 1) + 1 from by omega, Nat.pow_succ]
    simp only [mir]
    rw [Nat.mul_add, Nat.mul_assoc, Nat.add_assoc]
    congr 1
    rw [Nat.add_comm]
  · obtain rfl : i = 0 := by omega
    rw [show mir v 0 = 0 from rfl, Nat.mul_zero, Nat.add_zero] at hA
    rw [hA] at hR
    refine kR ?_
    exact ⟨_, iC, rfl, D, E, hR.cast rfl (by omega), rfl⟩
end Go.Proofs.YtdcehmhelfohfaaDoor
namespace Go.If
open Go.Vx Go.Hf
set_option linter.all false
theorem fxB_ge : ∀ b : List UInt8, b.length ≤ itL (fxB b)
  | [] => Nat.zero_le _
  | c :: r => by
    have h1 := fxB_ge r
    have h2 := (fxN_le c.toNat).1
    show _ ≤ fxN c.toNat + itL (fxB r)
    rw [List.length_cons]
    omega
theorem fx256 : fxC 256 = (0, 7) := by
  unfold fxC
  rw [fx_cd' (by decide)]
  rfl
theorem fixed_head [W0] {d : List UInt8} {most V N : Nat} (h : At d 0 (3 + 2 ^ 3 * V) (3 + N)) {R : S6} (hR : cdC d most fxL fxD (8 * d.length + 1) ⟨3, [], 0⟩ = R) : rawS d most = R := by
  obtain ⟨h1, h2⟩ := h.split (by decide)
  obtain ⟨e1, e2⟩ := tk_at (s := ⟨0, [], 0⟩) h1
  unfold rawS
  rw [rwS, e1, e2]
  simp only
  rw [if_neg (by decide), if_neg (by decide)]
  have hb : bkS d most (3 / 2) ⟨0 + 3, [], 0⟩ = R := by
    unfold bkS
    rw [if_neg (by decide), if_pos (by decide)]
    exact hR
  rw [hb]
  simp
theorem fixed_end [W0] {d : List UInt8} {most f : Nat} {s : S6} (he : s.e = 0) (h : At d s.t 0 7) : cdC d most fxL fxD (f + 1) s = ⟨s.t + 7, s.out, 0⟩ := by
  have h2 : At d s.t (fxC 256).1 (fxC 256).2 := by rw [fx256]; exact h
  obtain ⟨hs1, hs2⟩ := sy_fx he (by decide) h2
  rw [cdC, if_neg (fun hh => hh he), hs1, hs2, if_neg (by simp), if_neg (by decide), if_pos rfl]
  rfl
end Go.If
namespace Go.Proofs.YtdcehmhelfohfaaDoor
open Go Go.Vx Go.Hf Go.If
variable [W0]
set_option maxRecDepth 4000
set_option linter.all false
omit [W0] in
def pre (b : List UInt8) : List (Nat × Nat) := (3, 3) :: fxB b
theorem pre_snoc (b : List UInt8) (c : UInt8) : itV (pre (b ++ [c])) = itV (pre b) + 2 ^ itL (pre b) * (fxC c.toNat).1 ∧ itL (pre (b ++ [c])) = itL (pre b) + (fxC c.toNat).2 := by
  have e : pre (b ++ [c]) = pre b ++ [fxC c.toNat] := by simp [pre, fxB]
  rw [e, itV_app, itL_app]
  simp [itV, itL]
end Go.Proofs.YtdcehmhelfohfaaDoor
namespace Go.If
open Go.Vx Go.Hf
set_option linter.all false
theorem fxD_cd : ∀ i, i < 4 → cd fxD i = i ∧ fxD[i]? = some 5 := by decide
theorem ln_small : ∀ k, k < 8 → baB 3 4 8 k = 3 + k ∧ exB k 4 8 = 0 := by decide
theorem ds_small : ∀ k, k < 4 → baB 1 2 4 k = 1 + k ∧ exB k 2 4 = 0 := by decide
def mtI (n far : Nat) : List (Nat × Nat) := [(mir (n - 2) 7, 7), (mir (far - 1) 5, 5), (0, 7)]
theorem fxC_len [W0] {n : Nat} (h1 : 3 ≤ n) (h2 : n ≤ 10) : fxC (254 + n) = (mir (n - 2) 7, 7) := by
  have h3 : fxK (254 + n) = n - 2 := by unfold fxK; rw [if_neg (by omega), if_neg (by omega), if_pos (by omega)]; omega
  have h4 : fxN (254 + n) = 7 := by unfold fxN; rw [if_pos (by omega)]
  unfold fxC
  rw [fx_cd' (by omega), h3, h4]
theorem match_at [W0] {d : List UInt8} {most n far f : Nat} {s : S6} (he : s.e = 0) (h1 : 3 ≤ n) (h2 : n ≤ 10) (h3 : 1 ≤ far) (h4 : far ≤ 4) (h : At d s.t (itV (mtI n far)) (itL (mtI n far))) (hm : s.out.length ≤ most) :
    cdC d most fxL fxD (f + 2) s = if s.out.length < far then ⟨s.t + 12, s.out, 3⟩ else if most < s.out.length + n then cpL most far n ⟨s.t + 12, s.out, 0⟩ else ⟨s.t + 19, cpW far n s.out, 0⟩ := by
  change At d s.t (mir (n - 2) 7 + 2 ^ 7 * (mir (far - 1) 5 + 2 ^ 5 * (0 + 2 ^ 7 * 0))) (7 + (5 + (7 + 0))) at h
  obtain ⟨a1, a2⟩ := h.split (mir_lt _ _)
  obtain ⟨a3, a4⟩ := a2.split (mir_lt _ _)
  have b1 : At d s.t (fxC (254 + n)).1 (fxC (254 + n)).2 := by rw [fxC_len h1 h2]; exact a1
  obtain ⟨s1, s2⟩ := sy_fx he (by omega) b1
  have h7 : fxN (254 + n) = 7 := by unfold fxN; rw [if_pos (by omega)]
  rw [h7] at s1
  have hd4 := fxD_cd (far - 1) (by omega)
  have b2 : At d (⟨s.t + 7, s.out, 0⟩ : S6).t (mir (cd fxD (far - 1)) 5) 5 := by rw [hd4.1]; exact a3
  obtain ⟨s3, s4⟩ := sy_at (s := ⟨s.t + 7, s.out, 0⟩) (l := fxD) (i := far - 1) (n := 5) rfl hd4.2 (by decide) (by decide) (by rw [hd4.1]; omega) b2
  have hlb : lnB (254 + n) = (n, 0) := by
    have := ln_small (n - 3) (by omega)
    unfold lnB
    rw [if_neg (by omega), show 254 + n - 257 = n - 3 from by omega, this.1, this.2]
    congr 1
    omega
  have ht7 : s.t + 7 ≤ 8 * d.length := a1.2
  have hds := ds_small (far - 1) (by omega)
  have hS : dsS d fxD ⟨s.t + 7, s.out, 0⟩ = ⟨s.t + 12, s.out, 0⟩ := by
    unfold dsS
    rw [s3, s4, if_neg (by simp), if_neg (by omega), hds.2, tk_zero (by simp only; have := a3.2; omega)]
  have hV : dsV d fxD ⟨s.t + 7, s.out, 0⟩ = far := by
    unfold dsV
    rw [s3, s4, hds.1, hds.2, tv_zero]
    omega
  rw [cdC, if_neg (fun hh => hh he), s1, s2, if_neg (by simp), if_neg (by omega), if_neg (by omega)]
  have hmt := mtS_ok (d := d) (most := most) (k := 254 + n) (dl := fxD) (s := ⟨s.t + 7, s.out, 0⟩) (by omega)
  rw [hlb] at hmt
  rw [tk_zero (by exact ht7), tv_zero, hS, hV] at hmt
  rw [hmt rfl]
  simp only
  by_cases c1 : s.out.length < far
  · rw [if_pos c1, if_pos c1]
    have e3 : (fl (⟨s.t + 12, s.out, 0⟩ : S6) 3) = ⟨s.t + 12, s.out, 3⟩ := by unfold fl; rw [if_pos rfl]
    rw [e3, cpL_err (show (3 : Nat) ≠ 0 by decide), cdC_err (show (3 : Nat) ≠ 0 by decide)]
  · rw [if_neg c1, if_neg c1]
    by_cases c2 : most < s.out.length + n
    · rw [if_pos c2]
      have h5 := cpL_over most far n ⟨s.t + 12, s.out, 0⟩ rfl hm c2
      simp only [Nat.add_zero]
      rw [cdC_err (show (cpL most far n ⟨s.t + 12, s.out, 0⟩).e ≠ 0 by rw [h5]; decide)]
    · rw [if_neg c2]
      simp only [Nat.add_zero]
      rw [cpL_fit most far n ⟨s.t + 12, s.out, 0⟩ rfl (by simp only; omega), fixed_end (s := ⟨s.t + 12, cpW far n s.out, 0⟩) rfl (show At d (s.t + 12) 0 7 from a4)]
theorem match_raw [W0] (b : List UInt8) {n far most : Nat} (h1 : 3 ≤ n) (h2 : n ≤ 10) (h3 : 1 ≤ far) (h4 : far ≤ 4) (hm : b.length ≤ most) :
    ∃ R, rawS (leB (itV ((3, 3) :: (fxB b ++ mtI n far))) ((itL ((3, 3) :: (fxB b ++ mtI n far)) + 7) / 8)) most = R ∧ (b.length < far → R.e = 3) ∧ (far ≤ b.length → most < b.length + n → R.e = 5) ∧ (far ≤ b.length → b.length + n ≤ most → R.e = 0 ∧ R.out = cpW far n b) := by
  have ha := at_all (a := (3, 3) :: (fxB b ++ mtI n far)) (by
    intro x hx
    rcases List.mem_cons.1 hx with rfl | hx
    · decide
    · rcases List.mem_append.1 hx with hx | hx
      · exact fxB_lt b x hx
      · simp only [mtI, List.mem_cons, List.not_mem_nil, or_false] at hx
        rcases hx with rfl | rfl | rfl
        · exact mir_lt _ _
        · exact mir_lt _ _
        · decide)
  generalize hd : leB (itV ((3, 3) :: (fxB b ++ mtI n far))) ((itL ((3, 3) :: (fxB b ++ mtI n far)) + 7) / 8) = d at ha ⊢
  change At d 0 (3 + 2 ^ 3 * itV (fxB b ++ mtI n far)) (3 + itL (fxB b ++ mtI n far)) at ha
  have h5 := (ha.split (by decide)).2
  rw [itV_app, itL_app] at h5
  have hle := h5.2
  have hge := fxB_ge b
  have hml : itL (mtI n far) = 19 := rfl
  have h6 := cdC_lits d most b ⟨3, [], 0⟩ (8 * d.length + 1) (itV (mtI n far)) (itL (mtI n far)) rfl (by omega) (by simp; exact hm) h5
  obtain ⟨g, hg⟩ : ∃ g, 8 * d.length + 1 - b.length = g + 2 := ⟨8 * d.length - 1 - b.length, by omega⟩
  rw [hg] at h6
  have h7 := match_at (d := d) (most := most) (n := n) (far := far) (f := g) (s := ⟨3 + itL (fxB b), b, 0⟩) rfl h1 h2 h3 h4 h6.2 hm
  have h8 := h6.1.trans h7
  refine ⟨_, fixed_head ha h8, fun c => ?_, fun c c2 => ?_, fun c c2 => ?_⟩
  · simp only; rw [if_pos c]
  · simp only; rw [if_neg (by omega), if_pos c2]; exact cpL_over most far n _ rfl hm c2
  · simp only; rw [if_neg (by omega), if_neg (by omega)]; exact ⟨rfl, rfl⟩
end Go.If
namespace Go.Proofs.YtdcehmhelfohfaaDoor
open Go Go.Vx Go.Hf Go.If
variable [W0]
set_option maxRecDepth 4000
set_option linter.all false
theorem mtI_pre (b : List UInt8) (n far : Nat) : itV ((3, 3) :: (fxB b ++ mtI n far)) = itV (pre b) + 2 ^ itL (pre b) * mir (n - 2) 7 + 2 ^ (itL (pre b) + 7) * mir (far - 1) 5 + 2 ^ (itL (pre b) + 7 + 5) * mir 0 7 ∧ itL ((3, 3) :: (fxB b ++ mtI n far)) = itL (pre b) + 7 + 5 + 7 := by
  have e : (3, 3) :: (fxB b ++ mtI n far) = pre b ++ mtI n far := by simp [pre]
  rw [e, itV_app, itL_app, show mir 0 7 = 0 from by decide]
  generalize itV (pre b) = V
  generalize itL (pre b) = N
  refine ⟨?_, by show N + (7 + (5 + (7 + 0))) = _; omega⟩
  show V + 2 ^ N * (mir (n - 2) 7 + 2 ^ 7 * (mir (far - 1) 5 + 2 ^ 5 * (0 + 2 ^ 7 * 0))) = _
  rw [Nat.mul_add, Nat.mul_add (2 ^ 7), Nat.mul_add (2 ^ N), Nat.pow_add, ← Nat.mul_assoc]
  simp only [Nat.mul_zero, Nat.add_zero]
  omega
set_option maxHeartbeats 16000000 in
theorem inflatematches_n (a : Option Addr) (c : Nat) (b : List UInt8) (n0 d0 : Int) (L : List Chunk) (hv : Sl L 1 (.slice a b.length c) b.length (bsv b)) (hl : b.length ≤ 140737488351232) (hor : OrAt L) :
    GvP Tryd.prog 4 [.slice a b.length c, .int .i64 n0, .int .i64 d0].toArray L (.bool true) := by
  refine Gv.of_body Tryd.func4 rfl rfl ?_
  obtain ⟨n, hn⟩ : ∃ n : Nat, n0 % 8 + 3 = (n : Int) := ⟨(n0 % 8 + 3).toNat, by omega⟩
  obtain ⟨far, hfar⟩ : ∃ m : Nat, d0 % 4 + 1 = (m : Int) := ⟨(d0 % 4 + 1).toNat, by omega⟩
  have hn3 : 3 ≤ n ∧ n ≤ 10 := by omega
  have hf3 : 1 ≤ far ∧ far ≤ 4 := by omega
  ((repeat' first|refine kW ?_|refine kU fun bk=>?_|refine kV fun hc=>?_|refine kZ (fun hc=>?_) fun hc=>?_|fail) <;> try exact absurd trivial hc)
  · refine OW_callP rfl rfl rfl (iawake_n L hor) rfl ?_
    ((repeat' first|refine kW ?_|refine kU fun bk=>?_|refine kV fun hc=>?_|refine kZ (fun hc=>?_) fun hc=>?_|fail) <;> try exact absurd trivial hc)
    exact kE
  refine OW_EV (EV_mask (p := 8) rfl rfl rfl) rfl ?_
  ((repeat' first|refine kW ?_|refine kU fun bk=>?_|refine kV fun hc=>?_|refine kZ (fun hc=>?_) fun hc=>?_|fail) <;> try exact absurd trivial hc)
  refine OW_EV (EV_mask (p := 4) rfl rfl rfl) rfl ?_
  ((repeat' first|refine kW ?_|refine kU fun bk=>?_|refine kV fun hc=>?_|refine kZ (fun hc=>?_) fun hc=>?_|fail) <;> try exact absurd trivial hc)
  rw [hn, hfar]
  obtain ⟨p, hp⟩ : ∃ p, p = bk := ⟨_, rfl⟩
  rw [← hp]
  clear hp
  refine OW_holds (L' := [(p, cl [.slice none 0 0, .int .i64 0] 26)] :: [] :: L) (fun w h => Holds.gap.2 h) ?_
  refine OW_call rfl rfl rfl (rput_n p 0 0 3 3 _ [] L (RwD.new p) (by decide) (by decide)) rfl (fun r L' hp => ?_)
  obtain ⟨rfl, D1, E1, hw1, rfl⟩ := hp
  rw [show 0 + 2 ^ 0 * (3 % 2 ^ clp 3) = itV (pre (b.take 0)) from by rw [List.take_zero]; decide, show 0 + clp 3 = itL (pre (b.take 0)) from by rw [List.take_zero]; decide] at hw1
  ((repeat' first|refine kW ?_|refine kU fun bk=>?_|refine kV fun hc=>?_|refine kZ (fun hc=>?_) fun hc=>?_|fail) <;> try exact absurd trivial hc)
  refine WC_loop (X := Nat × Chunk × Chunk) (fun x => [(0, .slice a b.length c), (1, .int .i64 (n : Int)), (2, .int .i64 (far : Int)), (7, .pointer (some ⟨p, 0, none⟩)), (8, .int .i64 (x.1 : Int))]) (fun x => x.2.1 :: x.2.2 :: L)
    (fun x => x.1 ≤ b.length ∧ RwD p (itV (pre (b.take x.1))) (itL (pre (b.take x.1))) x.2.1 x.2.2) (fun x => b.length - x.1) (0, D1, E1) ⟨Nat.zero_le _, hw1⟩ iS (fun w h => h) ?_
  rintro ⟨k, D, E⟩ ⟨hk, hw⟩
  simp only at hk hw ⊢
  have hN : itL (pre (b.take k)) ≤ 5000 := by
    have := fxB_le (b.take k)
    rw [List.length_take] at this
    show 3 + itL (fxB (b.take k)) ≤ 5000
    omega
  ((repeat' first|refine kW ?_|refine kU fun bk=>?_|refine kV fun hc=>?_|refine kZ (fun hc=>?_) fun hc=>?_|fail) <;> try exact absurd trivial hc)
  · have hlt : k < b.length := by omega
    obtain ⟨bb, off, cap, cc, T, fr, hve, hfn, hcell⟩ := sl_byte hv hlt
    injection hve with q1 q2 q3
    subst q1 q3
    clear q2
    refine OW_EV (EV_indexAddr (j := k) rfl rfl rfl hlt) rfl ?_
    ((repeat' first|refine kW ?_|refine kU fun bk=>?_|refine kV fun hc=>?_|refine kZ (fun hc=>?_) fun hc=>?_|fail) <;> try exact absurd trivial hc)
    refine OW_EV (EV_load rfl hfn.there.there hcell) rfl ?_
    have hsn := pre_snoc (b.take k) (b.getD k 0)
    rw [← take_succ 0 hlt] at hsn
    have hx := (b.getD k 0).toNat_lt
    generalize (b.getD k 0).toNat = x at hsn hx
    have hwr : IntKind.u32.wrap (x : Int) = (x : Int) := wrap_nat rfl (by simp only [IntKind.bits]; omega)
    ((repeat' first|refine kW ?_|refine kU fun bk=>?_|refine kV fun hc=>?_|refine kZ (fun hc=>?_) fun hc=>?_|fail) <;> try exact absurd trivial hc)
    · rw [hwr] at hc ⊢
      have hfx : fxC x = (mir (48 + x) 8, 8) := by
        have h1 : fxK x = 48 + x := by unfold fxK; rw [if_pos (by omega)]
        have h2 : fxN x = 8 := by unfold fxN; rw [if_neg (by omega), if_neg (by omega)]
        unfold fxC
        rw [fx_cd' (by omega), h1, h2]
      rw [hfx] at hsn
      refine OW_EV (EV_nadd (k := .u32) 48 x rfl rfl rfl rfl rfl (by simp only [IntKind.bits]; omega)) rfl ?_
      ((repeat' first|refine kW ?_|refine kU fun bk=>?_|refine kV fun hc=>?_|refine kZ (fun hc=>?_) fun hc=>?_|fail) <;> try exact absurd trivial hc)
      refine OW_call rfl rfl rfl (rcode_n p _ _ (48 + x) 8 D E L hw (by omega) (by omega)) rfl (fun r L' hp => ?_)
      obtain ⟨rfl, D2, E2, hw2, rfl⟩ := hp
      rw [show clp 8 = 8 from by decide] at hw2
      simp only at hsn
      rw [← hsn.1, ← hsn.2] at hw2
      ((repeat' first|refine kW ?_|refine kU fun bk=>?_|refine kV fun hc=>?_|refine kZ (fun hc=>?_) fun hc=>?_|fail) <;> try exact absurd trivial hc)
      refine WQ_round (X := Nat × Chunk × Chunk) (μ := fun x => b.length - x.1) (x := (k, D, E)) (k + 1, D2, E2) (by simp only; omega) ⟨by simp only; omega, hw2⟩ iS (fun w h => h)
    · rw [hwr] at hc ⊢
      have hfx : fxC x = (mir (400 + x - 144) 9, 9) := by
        have h1 : fxK x = 400 + x - 144 := by unfold fxK; rw [if_neg (by omega), if_pos (by omega)]
        have h2 : fxN x = 9 := by unfold fxN; rw [if_neg (by omega), if_pos (by omega)]
        unfold fxC
        rw [fx_cd' (by omega), h1, h2]
      rw [hfx] at hsn
      refine OW_EV (EV_nadd (k := .u32) 400 x rfl rfl rfl rfl rfl (by simp only [IntKind.bits]; omega)) rfl ?_
      ((repeat' first|refine kW ?_|refine kU fun bk=>?_|refine kV fun hc=>?_|refine kZ (fun hc=>?_) fun hc=>?_|fail) <;> try exact absurd trivial hc)
      refine OW_EV (EV_nsub (k := .u32) (400 + x) 144 rfl rfl rfl rfl rfl (by omega) (by simp only [IntKind.bits]; omega)) rfl ?_
      ((repeat' first|refine kW ?_|refine kU fun bk=>?_|refine kV fun hc=>?_|refine kZ (fun hc=>?_) fun hc=>?_|fail) <;> try exact absurd trivial hc)
      refine OW_call rfl rfl rfl (rcode_n p _ _ (400 + x - 144) 9 D E L hw (by omega) (by omega)) rfl (fun r L' hp => ?_)
      obtain ⟨rfl, D2, E2, hw2, rfl⟩ := hp
      rw [show clp 9 = 9 from by decide] at hw2
      simp only at hsn
      rw [← hsn.1, ← hsn.2] at hw2
      ((repeat' first|refine kW ?_|refine kU fun bk=>?_|refine kV fun hc=>?_|refine kZ (fun hc=>?_) fun hc=>?_|fail) <;> try exact absurd trivial hc)
      refine WQ_round (X := Nat × Chunk × Chunk) (μ := fun x => b.length - x.1) (x := (k, D, E)) (k + 1, D2, E2) (by simp only; omega) ⟨by simp only; omega, hw2⟩ iS (fun w h => h)
  · obtain rfl : k = b.length := by omega
    rw [List.take_length] at hw hN
    have hc1 : b.length ≤ 100 := by omega
    have hwr1 : IntKind.u32.wrap ((n : Int) - 2) = ((n - 2 : Nat) : Int) := by rw [show (n : Int) - 2 = ((n - 2 : Nat) : Int) from by omega]; exact wrap_nat rfl (by simp only [IntKind.bits]; omega)
    have hwr2 : IntKind.u32.wrap ((far : Int) - 1) = ((far - 1 : Nat) : Int) := by rw [show (far : Int) - 1 = ((far - 1 : Nat) : Int) from by omega]; exact wrap_nat rfl (by simp only [IntKind.bits]; omega)
    rw [hwr1]
    refine OW_call rfl rfl rfl (rcode_n p _ _ (n - 2) 7 D E L hw (by omega) (by omega)) rfl (fun r L' hp => ?_)
    obtain ⟨rfl, D2, E2, hw2, rfl⟩ := hp
    rw [show clp 7 = 7 from by decide] at hw2
    ((repeat' first|refine kW ?_|refine kU fun bk=>?_|refine kV fun hc=>?_|refine kZ (fun hc=>?_) fun hc=>?_|fail) <;> try exact absurd trivial hc)
    rw [hwr2]
    refine OW_call rfl rfl rfl (rcode_n p _ _ (far - 1) 5 D2 E2 L hw2 (by omega) (by omega)) rfl (fun r L' hp => ?_)
    obtain ⟨rfl, D3, E3, hw3, rfl⟩ := hp
    rw [show clp 5 = 5 from by decide] at hw3
    ((repeat' first|refine kW ?_|refine kU fun bk=>?_|refine kV fun hc=>?_|refine kZ (fun hc=>?_) fun hc=>?_|fail) <;> try exact absurd trivial hc)
    refine OW_call rfl rfl rfl (rcode_n p _ _ 0 7 D3 E3 L hw3 (by decide) (by omega)) rfl (fun r L' hp => ?_)
    obtain ⟨rfl, D4, E4, hw4, rfl⟩ := hp
    obtain ⟨e1, e2⟩ := mtI_pre b n far
    rw [show clp 7 = 7 from by decide, ← e1, ← e2] at hw4
    have hraw := fun most (hm : b.length ≤ most) => match_raw b (n := n) (far := far) (most := most) hn3.1 hn3.2 hf3.1 hf3.2 hm
    have hNN : itL ((3, 3) :: (fxB b ++ mtI n far)) ≤ 6000 := by omega
    generalize itV ((3, 3) :: (fxB b ++ mtI n far)) = V at hw4 hraw
    generalize itL ((3, 3) :: (fxB b ++ mtI n far)) = N at hw4 hraw hNN
    obtain ⟨hVN, v, rfl, hoW⟩ := hw4
    obtain ⟨va, vc, rfl⟩ := ow_slc hoW
    have hlen : (leB V ((N + 7) / 8)).length = (N + 7) / 8 := leB_length _ _
    clear hw hw2 hw3 e1 e2
    ((repeat' first|refine kW ?_|refine kU fun bk=>?_|refine kV fun hc=>?_|refine kZ (fun hc=>?_) fun hc=>?_|fail) <;> try exact absurd trivial hc)
    apply OW_buildSlice (parts := []) (pvs := []) (cs := [])
    · rfl
    · rfl
    · rfl
    · omega
    · rfl
    · rfl
    intro b1
    ((repeat' first|refine kW ?_|refine kU fun bk=>?_|refine kV fun hc=>?_|refine kZ (fun hc=>?_) fun hc=>?_|fail) <;> try exact absurd trivial hc)
    refine OW_append rfl rfl (m := 0) (xs := []) (C := [(b1, cl [] 5)]) (.inr ⟨b1, 0, [], rfl, rfl, rfl, rfl, Nat.le_refl _, by simp [maxLen]⟩) (c := b.length) (ys := bsv b) (by repeat (first | exact hv | apply sl_there)) (by repeat (first | exact Zip.here _ | apply Zip.there)) rfl bsv_ones (by omega) (by show _ ≤ 9223372036854775807; omega) rfl (fun v3 C3 ho3 _ _ => ?_)
    rw [List.nil_append, Nat.zero_add] at ho3
    obtain ⟨v3a, v3c, rfl⟩ := ow_slc ho3
    ((repeat' first|refine kW ?_|refine kU fun bk=>?_|refine kV fun hc=>?_|refine kZ (fun hc=>?_) fun hc=>?_|fail) <;> try exact absurd trivial hc)
    have hdw : ∀ (o : List UInt8) (k : Nat), (cpW far k o).length = o.length + k := by
      intro o k
      induction k generalizing o with
      | zero => rfl
      | succ k ih => rw [cpW, ih]; simp; omega
    refine WC_loop (X := Nat × List UInt8 × Value × Chunk) (fun x => [(0, .slice a b.length c), (1, .int .i64 (n : Int)), (2, .int .i64 (far : Int)), (7, .pointer (some ⟨p, 0, none⟩)), (10, x.2.2.1), (11, .int .i64 (x.1 : Int))]) (fun x => x.2.2.2 :: [(p, cl [.slice va ((N + 7) / 8) vc, .int .i64 (N : Int)] 26)] :: E4 :: L)
      (fun x => x.1 ≤ n ∧ (x.1 = 0 ∨ far ≤ b.length) ∧ Ow 5 1 x.2.2.1 x.2.1.length (bsv x.2.1) x.2.2.2 ∧ x.2.1.length = b.length + x.1 ∧ cpW far (n - x.1) x.2.1 = cpW far n b) (fun x => n - x.1) (0, b, .slice v3a b.length v3c, C3) ⟨Nat.zero_le _, .inl rfl, ho3, rfl, rfl⟩ iS (fun w h => iH h) ?_
    clear ho3
    rintro ⟨i, o, vo, Co⟩ ⟨hi, hif, hoo, hol, hcp⟩
    simp only at hi hif hoo hol hcp ⊢
    obtain ⟨oa, oc, rfl⟩ := ow_slc hoo
    ((repeat' first|refine kW ?_|refine kU fun bk=>?_|refine kV fun hc=>?_|refine kZ (fun hc=>?_) fun hc=>?_|fail) <;> try exact absurd trivial hc)
    · have hfb : far ≤ b.length := by omega
      obtain ⟨k2, hk2⟩ : ∃ k2, n - i = k2 + 1 := ⟨n - i - 1, by omega⟩
      have hk3 : n - (i + 1) = k2 := by omega
      rw [hk2, cpW] at hcp
      have hov2 := hoo
      rcases hov2 with ⟨_, h1, _⟩ | ⟨b9, cap, rest, hve, rfl, hxl, hrl, hmc, hcm⟩
      · omega
      injection hve with q1 q2 q3
      subst q1 q3
      clear q2
      have hcell : (bsv o ++ rest).toArray[(o.length - far) * 1]? = some (.int .u8 ((o.getD (o.length - far) 0).toNat : Int)) := by
        rw [Nat.mul_one]
        simpa using getE_app (r := rest) (bsv_get (l := o) (i := o.length - far) (b := o.getD (o.length - far) 0) (by simp [List.getD, show o.length - far < o.length from by omega]))
      generalize o.getD (o.length - far) 0 = cc at hcp hcell
      rw [show (o.length : Int) - (far : Int) = ((o.length - far : Nat) : Int) from by omega]
      refine OW_EV (EV_indexAddr0 (j := o.length - far) (len := o.length) rfl rfl rfl (by omega)) rfl ?_
      ((repeat' first|refine kW ?_|refine kU fun bk=>?_|refine kV fun hc=>?_|refine kZ (fun hc=>?_) fun hc=>?_|fail) <;> try exact absurd trivial hc)
      refine OW_EV (EV_load rfl Fnd.here hcell) rfl ?_
      ((repeat' first|refine kW ?_|refine kU fun bk=>?_|refine kV fun hc=>?_|refine kZ (fun hc=>?_) fun hc=>?_|fail) <;> try exact absurd trivial hc)
      refine OW_buildSlice (cs := [.int .u8 (cc.toNat : Int)]) rfl (by rfl) (by first | (simp [fillL, patch, Value.cells, zeros]; done) | (simp [fillL, patch, Value.cells, zeros]; rfl)) (by omega) rfl rfl (fun bn => ?_)
      ((repeat' first|refine kW ?_|refine kU fun bk=>?_|refine kV fun hc=>?_|refine kZ (fun hc=>?_) fun hc=>?_|fail) <;> try exact absurd trivial hc)
      refine OW_append rfl rfl hoo (sl_cells (k := 1) (c := #[.int .u8 (cc.toNat : Int)]) (xs := [.int .u8 (cc.toNat : Int)]) (m := 1) Fnd.here rfl (by simp)) (by repeat (first | exact Zip.here _ | apply Zip.there)) rfl (by rfl) (by omega) (by show _ ≤ 9223372036854775807; omega) rfl (fun v' C' ho' _ _ => ?_)
      rw [show bsv o ++ [Value.int .u8 (cc.toNat : Int)] = bsv (o ++ [cc]) from by simp [bsv]] at ho'
      ((repeat' first|refine kW ?_|refine kU fun bk=>?_|refine kV fun hc=>?_|refine kZ (fun hc=>?_) fun hc=>?_|fail) <;> try exact absurd trivial hc)
      refine WQ_round (X := Nat × List UInt8 × Value × Chunk) (μ := fun x => n - x.1) (x := (i, o, .slice (some ⟨b9, 0, none⟩) o.length oc, [(b9, cl (bsv o ++ rest) 5)])) (i + 1, o ++ [cc], v', C') (by simp only; omega) ⟨by simp only; omega, .inr hfb, by simpa using ho', by simp; omega, by simp only; rw [hk3]; exact hcp⟩ iS (fun w h => iH h)
    · obtain ⟨R, hR, hR3, _, _⟩ := hraw 1000 (by omega)
      have hpr := praw_n va vc (leB V ((N + 7) / 8)) 1000 1000 (Co :: [(p, cl [.slice va ((N + 7) / 8) vc, .int .i64 (N : Int)] 26)] :: E4 :: L) (by rw [hlen]; exact sl_there (sl_there (ow_sl hoW))) (by rw [hlen]; omega) (by decide) (by decide) (by repeat (first | exact hor | apply OrAt.there))
      have hR3 := hR3 (by omega)
      rw [hR, hlen, hR3] at hpr
      refine OW_call rfl rfl rfl hpr rfl (fun r L' hp => ?_)
      rcases hp with ⟨_, rfl, rfl⟩ | ⟨h, _⟩
      rotate_left
      · cases h
      ((repeat' first|refine kW ?_|refine kU fun bk=>?_|refine kV fun hc=>?_|refine kZ (fun hc=>?_) fun hc=>?_|fail) <;> try exact absurd trivial hc)
      refine OW_callP rfl rfl rfl (iawake_n _ (by repeat (first | exact hor | apply OrAt.there))) rfl ?_
      ((repeat' first|refine kW ?_|refine kU fun bk=>?_|refine kV fun hc=>?_|refine kZ (fun hc=>?_) fun hc=>?_|fail) <;> try exact absurd trivial hc)
      exact kE
    · have hfb : far ≤ b.length := by omega
      obtain rfl : i = n := by omega
      rw [show i - i = 0 from by omega, cpW] at hcp
      obtain ⟨R, hR, _, _, hR0⟩ := hraw 1000 (by omega)
      obtain ⟨hR0, hRo⟩ := hR0 hfb (by omega)
      rw [← hcp] at hRo
      have hpr := praw_n va vc (leB V ((N + 7) / 8)) 1000 1000 (Co :: [(p, cl [.slice va ((N + 7) / 8) vc, .int .i64 (N : Int)] 26)] :: E4 :: L) (by rw [hlen]; exact sl_there (sl_there (ow_sl hoW))) (by rw [hlen]; omega) (by decide) (by decide) (by repeat (first | exact hor | apply OrAt.there))
      rw [hR, hlen, hR0, hRo] at hpr
      refine OW_call rfl rfl rfl hpr rfl (fun r L' hp => ?_)
      rcases hp with ⟨h, _⟩ | ⟨_, v5, C5, rfl, ho5, _, _, rfl⟩
      · exact absurd rfl h
      ((repeat' first|refine kW ?_|refine kU fun bk=>?_|refine kV fun hc=>?_|refine kZ (fun hc=>?_) fun hc=>?_|fail) <;> try exact absurd trivial hc)
      obtain ⟨R2, hR2, _, hR5, _⟩ := hraw (b.length + i - 1) (by omega)
      have hR5 := hR5 hfb (by omega)
      have hpr2 := praw_n va vc (leB V ((N + 7) / 8)) ((b.length : Int) + (i : Int) - 1) (b.length + i - 1) (C5 :: Co :: [(p, cl [.slice va ((N + 7) / 8) vc, .int .i64 (N : Int)] 26)] :: E4 :: L) (by rw [hlen]; exact sl_there (sl_there (sl_there (ow_sl hoW)))) (by rw [hlen]; omega) (by omega) (by omega) (by repeat (first | exact hor | apply OrAt.there))
      rw [hR2, hlen, hR5] at hpr2
      refine OW_call rfl rfl rfl hpr2 rfl (fun r L' hp => ?_)
      rcases hp with ⟨_, rfl, rfl⟩ | ⟨h, _⟩
      rotate_left
      · cases h
      ((repeat' first|refine kW ?_|refine kU fun bk=>?_|refine kV fun hc=>?_|refine kZ (fun hc=>?_) fun hc=>?_|fail) <;> try exact absurd trivial hc)
      refine OW_EV (EV_convStr (m := o.length) (b := o) rfl (by exact ow_sl ho5)) rfl ?_
      ((repeat' first|refine kW ?_|refine kU fun bk=>?_|refine kV fun hc=>?_|refine kZ (fun hc=>?_) fun hc=>?_|fail) <;> try exact absurd trivial hc)
      refine OW_EV (EV_convStr (m := o.length) (b := o) rfl (by repeat (first | exact ow_sl hoo | apply sl_there))) rfl ?_
      ((repeat' first|refine kW ?_|refine kU fun bk=>?_|refine kV fun hc=>?_|refine kZ (fun hc=>?_) fun hc=>?_|fail) <;> try exact absurd trivial hc)
      refine OW_callP rfl rfl rfl (iawake_n _ (by repeat (first | exact hor | apply OrAt.there))) rfl ?_
      ((repeat' first|refine kW ?_|refine kU fun bk=>?_|refine kV fun hc=>?_|refine kZ (fun hc=>?_) fun hc=>?_|fail) <;> try exact absurd trivial hc)
      exact kE
end Go.Proofs.YtdcehmhelfohfaaDoor
namespace Go.Proofs.YtdcehmhelfohfaaDoor
open Go Go.Vx Go.ChangeShapes Go.WideShapes Go.ChangeAt Go.RowKit
set_option maxRecDepth 4000
set_option linter.all false
theorem open_bytes {H : Type} {enc : TypeId × Value → H} {P : Program} {W : World} {t e : TypeId} {a : Option Addr} {len cap : Nat} {d : DataW H} {ps : List MemPlace} (ht : P.underlying t = some (.slice e)) (he : P.underlying e = some (.int .u8)) (hc : P.cellsOf e = 1)
    (h : DataW.Trod enc P W 0 (fun _ => true) true t (.slice a len cap) d ps) :
    ∃ xs : List UInt8, xs.length = len ∧ SlC [blks W] 1 (.slice a len cap) len (bsv xs) ∧ len ≤ Rows.uptoBulk d ∧ (len = 0 ∨ ∃ el sp, d = .slice el sp ∧ el.length = len) := by
  have hx : len ≤ cap ∧ (len = 0 ∨ ∃ el sp, d = .slice el sp ∧ el.length = len) := by
    obtain ⟨fuel, hf⟩ := h
    rcases open_ints ht he hc hf with ⟨hcs, _⟩ | ⟨x, l, c, zs, hcs, _, hl, hm, hz, hx, hcell, hwz⟩
    · simp [Value.cells] at hcs
      obtain ⟨rfl, rfl, rfl⟩ := hcs
      exact ⟨Nat.le_refl _, .inl rfl⟩
    · simp [Value.cells] at hcs
      obtain ⟨rfl, rfl, rfl⟩ := hcs
      have hzl : zs.length = cap := by simpa using hz
      have hd : d = .slice (lits .u8 (zs.take len)) (lits .u8 (zs.drop len)) := by injection hx
      exact ⟨hl, .inr ⟨_, _, hd, by simp [lits]; omega⟩⟩
  obtain ⟨xs, h1, h2, h3, h4⟩ := open_row ht he hc h
  refine ⟨xs.map fun n => UInt8.ofNat n.toNat, by simpa using h1, ⟨?_, _, _, rfl, hx.1⟩, h4, hx.2⟩
  rw [bytes_of xs h2]
  exact h3
theorem reach_len {H : Type} {P : Program} {ts : List TypeId} {ds : List (DataW H)} (h : (DataW.weightsEach P ts ds).all (· ≤ reachBytes) = true) {j : Nat} {t e : TypeId} {d : DataW H} {len : Nat} (ht : ts[j]? = some t) (hd : ds[j]? = some d) (hu : P.underlying t = some (.slice e)) (hb : P.bytesOf e = 1)
    (hl : len = 0 ∨ ∃ el sp, d = .slice el sp ∧ el.length = len) : len ≤ 140737488351232 := by
  rcases hl with rfl | ⟨el, sp, rfl, rfl⟩
  · omega
  · have := sized_slice h ht hd hu
    rw [hb, Nat.mul_one] at this
    simp [reachBytes] at this
    omega
def tabZ : List Int := [16, 17, 18, 0, 8, 7, 9, 6, 10, 5, 11, 4, 12, 3, 13, 2, 14, 1, 15]
theorem tabZ_eq {i : Nat} (h : i < 19) : tabZ.getD i 0 = ((Go.If.ordL.getD i 0 : Nat) : Int) := by
  have : ∀ i : Fin 19, tabZ.getD i.val 0 = ((Go.If.ordL.getD i.val 0 : Nat) : Int) := by decide
  exact this ⟨i, h⟩
theorem tab_met {W : World} (h : laidMetH Tryd.prog [("stemma/symbols.order", Rows.laid_stemma_symbols_order)] W) : OrAt [blks W] := by
  letI : W0 := ⟨W.os, W.output⟩
  have ht : Lib.TabIs Tryd.prog W "stemma/symbols.order" .i64 tabZ :=
    Lib.tabIs_of_head (rest := []) (show Tryd.prog.globalNamed "stemma/symbols.order" = some 0 by kernel_rfl) (show (Tryd.prog.globals[0]?).map (·.type) = some 139 by kernel_rfl)
      Tryd.underlying139 Tryd.underlying3 (show Tryd.prog.cellsOf 3 = 1 by kernel_rfl) (show Tryd.prog.cellsOf 139 = 19 by kernel_rfl) h
  have hg : Tryd.prog.globalNamed "stemma/symbols.order" = some 0 := by kernel_rfl
  have hc0 := ht.cell hg 0 (by decide)
  have hblk : ∃ C T fr, W.heap[0]? = some (.cells C T fr) := by
    unfold World.cell? at hc0
    split at hc0
    · rename_i C T fr hb; exact ⟨C, T, fr, hb⟩
    · cases hc0
  obtain ⟨C, T, fr, hb⟩ := hblk
  refine ⟨C, T, fr, by simpa [Fnd] using blks_mem.2 hb, fun i hi => ?_⟩
  have := ht.cell hg i hi
  rw [cell_of hb] at this
  rw [this, tabZ_eq hi]
end Go.Proofs.YtdcehmhelfohfaaDoor
namespace Go.Proofs.YtdcehmhelfohfaaDoor
open Go Go.Vx Go.ChangeShapes Go.WideShapes Go.ChangeAt Go.RowKit
set_option linter.all false
set_option maxRecDepth 4000
theorem top_row (H : Type) (enc : TypeId × Value → H) (W : World) (base : Nat) (args : Array Value) (ds gs : List (DataW H)) (before : List MemPlace)
    (hval : ∀ (j : Nat) t v, Tryd.f4.params[j]? = some t → args[j]? = some v → Value.okWide Tryd.prog W .any base t v)
    (hW : DataW.Whole enc Tryd.prog Tryd.f4.params.toList Rows.inflateMatchesSpec.vars false W args.toList ds gs before) (hk : Rows.uptoSmall H (ds ++ gs) = true)
    (hz : (DataW.weightsEach Tryd.prog (Tryd.f4.params.toList ++ Rows.inflateMatchesSpec.plain.varTypes Tryd.prog) (ds ++ gs)).all (· ≤ reachBytes) = true) (hL : laidMetH Tryd.prog [("stemma/symbols.order", Rows.laid_stemma_symbols_order)] W) :
    Calls Tryd.prog 4 args W fun e W' => ∃ v, e = .returned v ∧ Rows.inflateMatchesSpec.post enc Tryd.prog Tryd.f4 false true false false W args v W' := by
  have hW' := hW
  obtain ⟨p, q, hA0, hV, rfl, hfz, hnd⟩ := hW
  have hA : DataW.TrodAll enc Tryd.prog W 0 (fun _ => true) true Tryd.f4.params.toList args.toList ds p := hA0
  rw [Tryd.params4] at hA hval hz
  obtain ⟨v0, vs0, d0, ds0, p0, q0, hargs, rfl, rfl, h0, r0⟩ := trodAll_cons hA
  obtain ⟨v1, vs1, d1, ds1, p1, q1, rfl, rfl, rfl, h1, r1⟩ := trodAll_cons r0
  obtain ⟨v2, vs2, d2, ds2, p2, q2, rfl, rfl, rfl, h2, r2⟩ := trodAll_cons r1
  obtain ⟨rfl, rfl, rfl⟩ := trodAll_nil r2
  obtain rfl : args = #[v0, v1, v2] := by cases args; simp_all
  obtain ⟨rfl, rfl⟩ := trodVars_none hV
  obtain ⟨a0, l0, c0, rfl⟩ := okWide_slice Tryd.underlying22 (hval 0 _ v0 rfl rfl)
  obtain ⟨x0, e0, s0, b0, g0⟩ := open_bytes Tryd.underlying22 Tryd.underlying5 (by kernel_rfl) h0
  have r0 : l0 ≤ 140737488351232 := reach_len hz (j := 0) rfl rfl Tryd.underlying22 (by kernel_rfl) g0
  obtain ⟨n1, rfl, rfl, rfl, w1⟩ := open_int Tryd.underlying3 (hval 1 _ v1 rfl rfl) h1
  obtain ⟨n2, rfl, rfl, rfl, w2⟩ := open_int Tryd.underlying3 (hval 2 _ v2 rfl rfl) h2
  clear hA0
  have lt0 : ∀ x ∈ p0, x.block < W.heap.size := by obtain ⟨m, hm⟩ := h0; exact DataW.trod_lt m _ _ _ hm
  have hbulk : Rows.uptoBulk d0 ≤ 1048576 := by
    simp only [Rows.uptoSmall, decide_eq_true_eq, List.append_nil, Rows.uptoBulkAll, Rows.uptoBulk] at hk
    omega
  have hc : Calls Tryd.prog 4 #[.slice a0 l0 c0, .int .i64 n1, .int .i64 n2] W fun e W' => e = .returned (.bool true) ∧ Kept W W' := by
    have ht := tab_met hL
    refine bridge (fun {i} => ?_)
    subst e0
    exact inflatematches_n a0 c0 x0 n1 n2 [blks W] s0.sl r0 ht
  refine hc.mono fun e W' ⟨he, bel⟩ => ?_
  subst he
  exact ⟨_, rfl, _, _, _, [], _, [], hW', trodAll_mk1 (shut_bool Tryd.underlying4 _), (trodAll_cons_mk (Kept.trod Tryd.laidOut (by kernel_rfl) (of_decide_eq_true (by kernel_rfl)) h0 bel lt0) (trodAll_cons_mk (shut_int Tryd.underlying3 w1) (trodAll_cons_mk (shut_int Tryd.underlying3 w2) trodAll_mk0))), rfl, bel.frame _, fun h => by cases h⟩
noncomputable def laidWorld (os : Os) : World :=
  { World.holding Tryd.prog os ⟨#[], #[], []⟩ with heap := (World.holding Tryd.prog os ⟨#[], #[], []⟩).heap.modify 0 fun
      | .cells _ t frozen => .cells (tabZ.map (Value.int .i64)).toArray t frozen
      | o => o }
theorem laid_met (os : Os) : laidMet Tryd.prog Rows.inflateMatchesUptoRow.laid ((laidWorld os).forCall (fun _ _ => 0) ⟨#[], #[.slice none 0 0, .int .i64 0, .int .i64 0], []⟩).memory :=
  laidMet_of_run' 8 (by kernel_rfl) (by kernel_rfl)
theorem reads (os : Os) {H : Type} (enc : TypeId × Value → H) : ∃ places, DataW.whole enc Tryd.prog ((laidWorld os).forCall (fun _ _ => 0) ⟨#[], #[.slice none 0 0, .int .i64 0, .int .i64 0], []⟩).memory Tryd.f4.params.toList Rows.inflateMatchesSpec.vars false #[.slice none 0 0, .int .i64 0, .int .i64 0].toList 8 = some ([.nil, .lit (.int .i64 0), .lit (.int .i64 0)], [], places) :=
  ⟨[], by kernel_rfl⟩
set_option maxRecDepth 100000 in
theorem top_lifted (os : Os) (started : os.Started) (H : Type) (enc : TypeId × Value → H) (F : Stop.Interp) :
    ReturnsInHanded {} Tryd.checked os 4 .any ((Rows.OpenSpec.upto Rows.inflateMatchesSpec).preRow enc Tryd.prog Tryd.f4 Rows.inflateMatchesUptoRow.domain false Rows.inflateMatchesUptoRow.laid) (((Rows.OpenSpec.upto Rows.inflateMatchesSpec).at F).post enc Tryd.prog Tryd.f4 false true false false) := by
  obtain ⟨places, hx⟩ := reads os enc
  refine returnsInHanded_of_row (C := Tryd.checked) (s := (Rows.OpenSpec.upto Rows.inflateMatchesSpec)) Tryd.own started (by kernel_rfl) Tryd.func4
    (witness_row_at (enc := enc) (C := Tryd.checked) false (laidWorld os) #[.slice none 0 0, .int .i64 0, .int .i64 0] rfl (by kernel_rfl) (by kernel_rfl) (by kernel_rfl)
      (OpenSpec.preRow_of_cond 8 hx (by kernel_rfl) (fun k hk => by cases hk; kernel_rfl) (by kernel_rfl) (laid_met os))) ?_
  intro W base args ds gs before hval hW _ hcond hz hL _ _
  exact top_row H enc W base args ds gs before hval hW (hcond _ rfl) hz hL
theorem top_over : Rows.InflateMatchesUptoSaid :=
  OpenClaim.holds_of_cond 4 Tryd.f4 rfl rfl rfl rfl rfl rfl rfl ⟨rfl, rfl, rfl, rfl, rfl⟩ rfl rfl rfl rfl rfl (by kernel_rfl) Tryd.func4 (by kernel_rfl)
    (of_decide_eq_true (by kernel_rfl)) (by unfold Func.isWrapper; first | (rw [if_pos (by decide +kernel)]; kernel_rfl) | (rw [if_neg (by decide +kernel)]; exact ⟨rfl, rfl⟩))
    (fun os started H enc _ F => by rw [OpenClaim.pre_eq_preRow]; exact top_lifted os started H enc F)
theorem top_plain (f : FuncId) (fn : Func) (hf : Tryd.pinned.checked.prog.funcNamed "stemma/stemmalaw6.InflateMatches" = some f) (hfn : Tryd.pinned.checked.prog.funcs[f]? = some fn) :
    false = Tryd.pinned.checked.prog.looks [] ∧ ∀ (j : Nat) t, fn.params[j]? = some t → Tryd.pinned.checked.prog.wantsStandIn t = false := by
  obtain rfl : f = 4 := Option.some.inj ((show Tryd.prog.funcNamed "stemma/stemmalaw6.InflateMatches" = some 4 by kernel_rfl).symm.trans hf) |>.symm
  obtain rfl : fn = Tryd.f4 := (Option.some.inj (Tryd.func4.symm.trans hfn)).symm
  have all : (Tryd.f4.params.toList.all fun t => !Tryd.prog.wantsStandIn t) = true := by kernel_rfl
  refine ⟨by kernel_rfl, fun j t ht => ?_⟩
  have hm : t ∈ Tryd.f4.params.toList := by
    have := Array.mem_of_getElem? ht
    simpa using this
  have := List.all_eq_true.1 all t hm
  show Tryd.prog.wantsStandIn t = false
  simpa using this
theorem top_holds : Rows.InflateMatchesUptoCardSaid :=
  Claim7.holds_tied_plain_at .later [] _ _ _ _ top_over (fun _ h => by cases h) (by kernel_rfl) (fun _ h => by cases h) inflateMatchesUpto_row_tie rfl ⟨rfl, rfl⟩ (by kernel_rfl) rfl top_plain (by kernel_rfl)
end Go.Proofs.YtdcehmhelfohfaaDoor
