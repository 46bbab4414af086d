/- InflateBound returns true and leaves its arguments as they were, for every argument; the table that the program reads is tied to its text (the card). No conditions beyond the row's. -/
import Derived.Test.YtdcehmhelfohfaaDoorPB2
namespace Go.Proofs.YtdcehmhelfohfaaDoor
open Go Go.Vx
variable [W0]
set_option maxRecDepth 4000
set_option linter.all false
theorem sl_byte {L : List Chunk} {v : Value} {m k : Nat} {t : List UInt8} (h : Sl L 1 v m (bsv t)) (hk : k < m) :
    ∃ bb off cap c T fr, v = .slice (some ⟨bb, off, none⟩) m cap ∧ Fnd L bb (.cells c T fr) ∧ c[off + k * 1]? = some (.int .u8 ((t.getD k 0).toNat : Int)) := by
  rcases h with ⟨c, rfl, rfl, h0⟩ | ⟨a, cap, rfl, hr, hl⟩
  · omega
  · have hlt : k < t.length := by rw [bsv_length] at hl; omega
    have hg : (bsv t)[k]? = some (.int .u8 ((t.getD k 0).toNat : Int)) := bsv_get (by simp [List.getD, hlt])
    rcases hr with h0 | ⟨b, off, c, T, fr, rfl, h1, h2⟩
    · rw [h0] at hg; simp at hg
    · exact ⟨b, off, cap, c, T, fr, rfl, h1, by rw [Nat.mul_one]; exact h2 _ _ hg⟩
theorem take_succ {α : Type} {t : List α} {k : Nat} (d : α) (h : k < t.length) : t.take (k + 1) = t.take k ++ [t.getD k d] := by
  rw [List.take_add_one, List.getElem?_eq_getElem h]
  simp [List.getD, h]
omit [W0] in
def adlA (a : BitVec 32) (x : UInt8) : BitVec 32 := (a + b2w x) % 65521#32
omit [W0] in
def adlN (s : BitVec 32 × BitVec 32) (t : List UInt8) : BitVec 32 × BitVec 32 := t.foldl (fun s x => (adlA s.1 x, (s.2 + adlA s.1 x) % 65521#32)) s
theorem adlN_snoc (s : BitVec 32 × BitVec 32) (t : List UInt8) (x : UInt8) : adlN s (t ++ [x]) = (adlA (adlN s t).1 x, ((adlN s t).2 + adlA (adlN s t).1 x) % 65521#32) := by simp [adlN]
omit [W0] in
def adlV (s : BitVec 32 × BitVec 32) : BitVec 32 := s.2 <<< 16 ||| s.1
theorem newAdler_n (L : List Chunk) : Gv Tryd.prog 42 [].toArray L (fun r L' => ∃ p, r = .pointer (some ⟨p, 0, none⟩) ∧ L' = [(p, cl [w32 1#32, w32 0#32] 90)] :: L) := by
  refine Gv.of_body Tryd.func42 rfl rfl ?_
  (repeat' first|refine kX ?_|refine kU fun bk=>?_|refine kV fun hc=>?_|refine kZ (fun hc=>?_) fun hc=>?_|fail)
  first | refine WQ_retH rfl rfl ?_ | refine WQ_endH rfl rfl ?_
  exact ⟨[(bk, cl [w32 1#32, w32 0#32] 90)] :: L, fun w h => h, bk, rfl, rfl⟩
theorem adlerwrite_n (s : BitVec 32 × BitVec 32) (t : List UInt8) (v : Value) (p : Nat) (L : List Chunk) (hlen : t.length < 576460752303423488) (hv : SlC L 1 v t.length (bsv t)) :
    Gv Tryd.prog 43 [.pointer (some ⟨p, 0, none⟩), v].toArray ([(p, cl [w32 s.1, w32 s.2] 90)] :: L)
      (fun z L' => z = .tuple #[] ∧ L' = [(p, cl [w32 (adlN s t).1, w32 (adlN s t).2] 90)] :: L) := by
  refine Gv.of_body Tryd.func43 rfl rfl ?_
  obtain ⟨a, c, rfl, hmc⟩ := hv.room
  (repeat' first|refine kX ?_|refine kU fun bk=>?_|refine kV fun hc=>?_|refine kZ (fun hc=>?_) fun hc=>?_|fail)
  refine WC_drawAll [] mixed ?_
  (refine WR_w 0 ?_; refine WR_w 1 ?_; refine WR_w 2 ?_; refine WR_w 3 ?_; refine WR_w 4 ?_; refine WR_w 5 ?_; refine WR_w 6 ?_; refine WR_w 7 ?_; refine WR_w 8 ?_; refine WR_w 9 ?_)
  (refine WR_done (by kernel_rfl) ?_)
  (repeat' first|refine kX ?_|refine kU fun bk=>?_|refine kV fun hc=>?_|refine kZ (fun hc=>?_) fun hc=>?_|fail)
  refine WC_loop (X := Nat) (fun k => [(0, .pointer (some ⟨p, 0, none⟩)), (4, w32 (adlN s (t.take k)).1), (5, w32 (adlN s (t.take k)).2), (16, .slice a t.length c), (17, .int .i64 (t.length : Int)), (18, .int .i64 (k : Int))])
    (fun k => [(p, cl [w32 s.1, w32 s.2] 90)] :: L) (fun k => k ≤ t.length) (fun k => t.length - k) 0 (Nat.zero_le _) (by repeat (first | exact Sub.nil | refine Sub.cons rfl ?_ | refine Sub.cons (lk_int rfl (by first | omega | (dsimp only; omega))) ?_)) (fun w h => h) ?_
  intro k hk
  replace hk : k ≤ t.length := hk
  (repeat' first|refine kX ?_|refine kU fun bk=>?_|refine kV fun hc=>?_|refine kZ (fun hc=>?_) fun hc=>?_|fail)
  · have hlt : k < t.length := by omega
    obtain ⟨bb, off, cap, cc, bT, bfr, hve, hfn, hcell⟩ := sl_byte hv.sl hlt
    injection hve with e1 e2 e3
    subst e1 e3
    clear e2
    (repeat' first|refine kX ?_|refine kU fun bk=>?_|refine kV fun hc=>?_|refine kZ (fun hc=>?_) fun hc=>?_|fail)
    refine OW_W ?_ (he := EV_load rfl hfn.there hcell)
    (repeat' first|refine kX ?_|refine kU fun bk=>?_|refine kV fun hc=>?_|refine kZ (fun hc=>?_) fun hc=>?_|fail)
    refine WQ_round (X := Nat) (J := fun k => k ≤ t.length) (μ := fun k => t.length - k) (x := k) (k + 1) (by omega) (show k + 1 ≤ t.length by omega) ?_ (fun w h => h)
    rw [take_succ 0 hlt, adlN_snoc]
    exact (by repeat (first | exact Sub.nil | refine Sub.cons rfl ?_ | refine Sub.cons (lk_int rfl (by first | omega | (dsimp only; omega))) ?_))
  · have hk : k = t.length := by omega
    subst hk
    rw [List.take_length]
    (first | refine WQ_retI rfl rfl ?_ | refine WQ_endI rfl rfl ?_)
    exact ⟨_, iC, rfl, rfl⟩
theorem adlervalue_n (s : BitVec 32 × BitVec 32) (p : Nat) (L : List Chunk) (hf : Fnd L p (cl [w32 s.1, w32 s.2] 90)) : GvP Tryd.prog 44 [.pointer (some ⟨p, 0, none⟩)].toArray L (w32 (adlV s)) := by
  refine Gv.of_body Tryd.func44 rfl rfl ?_
  (repeat' first|refine kX ?_|refine kU fun bk=>?_|refine kV fun hc=>?_|refine kZ (fun hc=>?_) fun hc=>?_|fail)
  refine WC_drawAll [] mixed ?_
  (refine WR_w 0 ?_; refine WR_w 1 ?_; refine WR_w 2 ?_; refine WR_w 3 ?_; refine WR_w 4 ?_; refine WR_w 5 ?_; refine WR_w 6 ?_; refine WR_w 7 ?_; refine WR_w 8 ?_; refine WR_w 9 ?_; refine WR_w 10 ?_)
  (refine WR_done (by kernel_rfl) ?_)
  (repeat' first|refine kX ?_|refine kU fun bk=>?_|refine kV fun hc=>?_|refine kZ (fun hc=>?_) fun hc=>?_|fail)
  ((first | refine WQ_retI rfl rfl ?_ | refine WQ_endI rfl rfl ?_); exact ⟨_, iC, rfl, rfl⟩)
theorem adler_n (t : List UInt8) (v : Value) (L : List Chunk) (hlen : t.length < 576460752303423488) (hv : SlC L 1 v t.length (bsv t)) :
    GvP Tryd.prog 29 [v].toArray L (w32 (adlV (adlN (1#32, 0#32) t))) := by
  refine Gv.of_body Tryd.func29 rfl rfl ?_
  (repeat' first|refine kX ?_|refine kU fun bk=>?_|refine kV fun hc=>?_|refine kZ (fun hc=>?_) fun hc=>?_|fail)
  refine OW_call rfl rfl rfl (newAdler_n L) rfl (fun r L' hp => ?_)
  obtain ⟨p, rfl, rfl⟩ := hp
  (repeat' first|refine kX ?_|refine kU fun bk=>?_|refine kV fun hc=>?_|refine kZ (fun hc=>?_) fun hc=>?_|fail)
  refine OW_call rfl rfl rfl (adlerwrite_n (1#32, 0#32) t v p L hlen hv) rfl (fun r L' hp => ?_)
  obtain ⟨rfl, rfl⟩ := hp
  (repeat' first|refine kX ?_|refine kU fun bk=>?_|refine kV fun hc=>?_|refine kZ (fun hc=>?_) fun hc=>?_|fail)
  refine OW_callP rfl rfl rfl (adlervalue_n (adlN (1#32, 0#32) t) p _ Fnd.here) rfl ?_
  (repeat' first|refine kX ?_|refine kU fun bk=>?_|refine kV fun hc=>?_|refine kZ (fun hc=>?_) fun hc=>?_|fail)
  ((first | refine WQ_retI rfl rfl ?_ | refine WQ_endI rfl rfl ?_); exact ⟨_, iC, rfl, rfl⟩)
end Go.Proofs.YtdcehmhelfohfaaDoor
namespace Go.Vx
open Go
set_option linter.all false
variable [W0]
omit [W0] in
/-- No cell of the row is marked. -/
def FrOk (fr : Nat × Nat) (n : Nat) : Prop := ∀ j, j < n → ¬ (fr.1 ≤ j ∧ j < fr.2)
theorem FrOk.zero (n : Nat) : FrOk (0, 0) n := fun j _ h => by simp at h
theorem FrOk.behind (n : Nat) : FrOk (n, n + 1) n := fun j hj h => by simp at h; omega
end Go.Vx
namespace Go.If
open Go.Vx Go.Hf
set_option linter.all false
def hdK (x y : Nat) : Bool := x % 16 == 8 && decide (x / 16 ≤ 7) && (x * 256 + y) % 31 == 0 && (y &&& 32) == 0
def wdN (b0 b1 b2 b3 : Nat) : Nat := ((b0 * 256 + b1) * 256 + b2) * 256 + b3
end Go.If
namespace Go.Proofs.YtdcehmhelfohfaaDoor
open Go Go.Vx Go.Hf Go.If
variable [W0]
set_option maxRecDepth 4000
set_option linter.all false
theorem bit_and8 {a b : Nat} (ha : a < 256) (hb : b < 256) : bitI .and .u8 (a : Int) (b : Int) = some ((a &&& b : Nat) : Int) := by
  have h1 : a &&& b ≤ a := Nat.and_le_left
  have e : ((BitVec.ofInt 8 (a : Int) &&& BitVec.ofInt 8 (b : Int)).toNat) = a &&& b := by
    rw [BitVec.toNat_and, BitVec.ofInt_natCast, BitVec.ofInt_natCast, BitVec.toNat_ofNat, BitVec.toNat_ofNat, Nat.mod_eq_of_lt (by omega), Nat.mod_eq_of_lt (by omega)]
  show some (IntKind.u8.wrap (((BitVec.ofInt 8 (a : Int) &&& BitVec.ofInt 8 (b : Int)).toNat : Nat) : Int)) = _
  rw [e]
  congr 1
  exact wrap_nat rfl (by simp [IntKind.bits]; omega)
theorem bit_or16 {a b : Nat} (ha : a < 256) (hb : b < 256) : bitI .or .i64 ((a * 256 : Nat) : Int) (b : Int) = some ((a * 256 + b : Nat) : Int) := by
  have e0 : a * 256 ||| b = a * 256 + b := by
    have := Nat.two_pow_add_eq_or_of_lt (i := 8) (b := b) (by omega) a
    rw [Nat.mul_comm a 256]
    exact this.symm
  have e : ((BitVec.ofInt 64 ((a * 256 : Nat) : Int) ||| BitVec.ofInt 64 (b : Int)).toNat) = a * 256 + b := by
    rw [BitVec.toNat_or, BitVec.ofInt_natCast, BitVec.ofInt_natCast, BitVec.toNat_ofNat, BitVec.toNat_ofNat, Nat.mod_eq_of_lt (by omega), Nat.mod_eq_of_lt (by omega), e0]
  show some (IntKind.i64.wrap (((BitVec.ofInt 64 ((a * 256 : Nat) : Int) ||| BitVec.ofInt 64 (b : Int)).toNat : Nat) : Int)) = _
  rw [e]
  congr 1
  exact wrap_i64s (by omega)
set_option maxHeartbeats 4000000 in
theorem isHead_n (x y : UInt8) (L : List Chunk) : GvP Tryd.prog 27 [.int .u8 (x.toNat : Int), .int .u8 (y.toNat : Int)].toArray L (.bool (hdK x.toNat y.toNat)) := by
  refine Gv.of_body Tryd.func27 rfl rfl ?_
  have hx := x.toNat_lt
  have hy := y.toNat_lt
  generalize x.toNat = a at hx ⊢
  generalize y.toNat = b at hy ⊢
  unfold hdK
  (repeat' first|refine kW ?_|refine kU fun bk=>?_|refine kV fun hc=>?_|refine kZ (fun hc=>?_) fun hc=>?_|fail)
  refine OW_EV (EV_nand (k := .u8) a 4 rfl rfl rfl rfl rfl (by simp only [IntKind.bits]; omega) (by decide)) rfl ?_
  have hno : ∀ (c1 : Bool), c1 = false → Value.bool false = .bool c1 := fun c1 h => by rw [h]
  have hno2 : ¬ (a % 16 = 8 ∧ a / 16 ≤ 7 ∧ (a * 256 + b) % 31 = 0) → (a % 16 == 8 && decide (a / 16 ≤ 7) && (a * 256 + b) % 31 == 0 && (b &&& 32) == 0) = false := by
    intro h
    cases hh : (a % 16 == 8 && decide (a / 16 ≤ 7) && (a * 256 + b) % 31 == 0 && (b &&& 32) == 0)
    · rfl
    · exfalso
      simp only [Bool.and_eq_true, beq_iff_eq, decide_eq_true_eq] at hh
      exact h ⟨hh.1.1.1, hh.1.1.2, hh.1.2⟩
  (repeat' first|refine kW ?_|refine kU fun bk=>?_|refine kV fun hc=>?_|refine kZ (fun hc=>?_) fun hc=>?_|fail)
  · refine OW_EV (EV_shl64 a 8 rfl rfl rfl rfl (by decide) (by omega)) rfl ?_
    rw [show a * 2 ^ 8 = a * 256 from rfl]
    (repeat' first|refine kW ?_|refine kU fun bk=>?_|refine kV fun hc=>?_|refine kZ (fun hc=>?_) fun hc=>?_|fail)
    refine OW_EV (EV_bit rfl rfl (bit_or16 (a := a) (b := b) hx hy)) rfl ?_
    (repeat' first|refine kW ?_|refine kU fun bk=>?_|refine kV fun hc=>?_|refine kZ (fun hc=>?_) fun hc=>?_|fail)
    refine OW_EV (EV_remN (a * 256 + b) 31 rfl rfl rfl rfl (by decide)) rfl ?_
    (repeat' first|refine kW ?_|refine kU fun bk=>?_|refine kV fun hc=>?_|refine kZ (fun hc=>?_) fun hc=>?_|fail)
    · refine OW_EV (EV_bit rfl rfl (bit_and8 (a := b) (b := 32) hy (by decide))) rfl ?_
      generalize hz : b &&& 32 = z
      (repeat' first|refine kW ?_|refine kU fun bk=>?_|refine kV fun hc=>?_|refine kZ (fun hc=>?_) fun hc=>?_|fail)
      refine kR ?_
      refine ⟨_, iC, ?_, rfl⟩
      refine congrArg Value.bool ?_
      rw [show (a % 16 == 8) = true from by simp; omega, show decide (a / 16 ≤ 7) = true from by simp; omega, show ((a * 256 + b) % 31 == 0) = true from by simp; omega]
      simp only [Bool.true_and]
      by_cases h0 : z = 0
      · subst h0; rfl
      · rw [show (z == 0) = false from by simpa using h0]; simp; omega
    · refine kR ?_
      exact ⟨_, iC, hno _ (hno2 (by omega)), rfl⟩
  · refine kR ?_
    exact ⟨_, iC, hno _ (hno2 (by omega)), rfl⟩
  · refine kR ?_
    exact ⟨_, iC, hno _ (hno2 (by omega)), rfl⟩
theorem sl_bytes {L : List Chunk} {v : Value} {m : Nat} {t : List UInt8} (h : Sl L 1 v m (bsv t)) (hm : 0 < m) :
    ∃ bb off cap c T fr, v = .slice (some ⟨bb, off, none⟩) m cap ∧ Fnd L bb (.cells c T fr) ∧ ∀ k, k < m → c[off + k * 1]? = some (.int .u8 ((t.getD k 0).toNat : Int)) := by
  rcases h with ⟨c, rfl, rfl, h0⟩ | ⟨a, cap, rfl, hr, hl⟩
  · omega
  · rw [bsv_length, Nat.mul_one] at hl
    rcases hr with h0 | ⟨b, off, c, T, fr, rfl, h1, h2⟩
    · have h9 : (bsv t).length = 0 := by rw [h0]; rfl
      rw [bsv_length] at h9
      omega
    · exact ⟨b, off, cap, c, T, fr, rfl, h1, fun k hk => by rw [Nat.mul_one]; exact h2 _ _ (bsv_get (by simp [List.getD, show k < t.length by omega]))⟩
set_option maxHeartbeats 4000000 in
theorem word_n (v : Value) (m : Nat) (t : List UInt8) (L : List Chunk) (h : Sl L 1 v m (bsv t)) (hm : 4 ≤ m) :
    GvP Tryd.prog 28 [v].toArray L (.int .u32 ((wdN (t.getD 0 0).toNat (t.getD 1 0).toNat (t.getD 2 0).toNat (t.getD 3 0).toNat : Nat) : Int)) := by
  refine Gv.of_body Tryd.func28 rfl rfl ?_
  obtain ⟨bb, off, cap, cc, T, fr, rfl, hfn, hcs⟩ := sl_bytes h (by omega)
  have hc0 := hcs 0 (by omega)
  have hc1 := hcs 1 (by omega)
  have hc2 := hcs 2 (by omega)
  have hc3 := hcs 3 (by omega)
  have h0 := (t.getD 0 0).toNat_lt
  have h1 := (t.getD 1 0).toNat_lt
  have h2 := (t.getD 2 0).toNat_lt
  have h3 := (t.getD 3 0).toNat_lt
  clear h hcs
  generalize (t.getD 0 0).toNat = b0 at *
  generalize (t.getD 1 0).toNat = b1 at *
  generalize (t.getD 2 0).toNat = b2 at *
  generalize (t.getD 3 0).toNat = b3 at *
  (repeat' first|refine kW ?_|refine kU fun bk=>?_|refine kV fun hc=>?_|refine kZ (fun hc=>?_) fun hc=>?_|fail)
  refine WC_drawAll [] mixed ?_
  (refine WR_t 0 ?_)
  (refine WR_take 1 rfl rfl (by kernel_rfl) iP iC (EV_indexAddr (j := 0) rfl rfl rfl (by omega)) (by rfl) ?_)
  (refine WR_take 2 rfl rfl (by kernel_rfl) iP iC (EV_load rfl hfn hc0) (by rfl) ?_)
  (refine WR_take 3 rfl rfl (by kernel_rfl) iP iC (EV_nconv b0 rfl rfl rfl (by simp only [IntKind.bits]; omega)) (by rfl) ?_)
  (refine WR_take 4 rfl rfl (by kernel_rfl) iP iC (EV_nshl b0 24 rfl rfl rfl rfl rfl (by simp only [IntKind.bits]; omega)) (by rfl) ?_)
  (refine WR_t 5 ?_)
  (refine WR_take 6 rfl rfl (by kernel_rfl) iP iC (EV_indexAddr (j := 1) rfl rfl rfl (by omega)) (by rfl) ?_)
  (refine WR_take 7 rfl rfl (by kernel_rfl) iP iC (EV_load rfl hfn hc1) (by rfl) ?_)
  (refine WR_take 8 rfl rfl (by kernel_rfl) iP iC (EV_nconv b1 rfl rfl rfl (by simp only [IntKind.bits]; omega)) (by rfl) ?_)
  (refine WR_take 9 rfl rfl (by kernel_rfl) iP iC (EV_nshl b1 16 rfl rfl rfl rfl rfl (by simp only [IntKind.bits]; omega)) (by rfl) ?_)
  (refine WR_take 10 rfl rfl (by kernel_rfl) iP iC (EV_nor' (k := .u32) (b1 * 2 ^ 16) b0 24 rfl rfl rfl rfl rfl (by omega) (by simp only [IntKind.bits]; omega)) (by rfl) ?_)
  rw [show b1 * 2 ^ 16 + b0 * 2 ^ 24 = (b1 + b0 * 256) * 2 ^ 16 from by omega]
  (refine WR_t 11 ?_)
  (refine WR_take 12 rfl rfl (by kernel_rfl) iP iC (EV_indexAddr (j := 2) rfl rfl rfl (by omega)) (by rfl) ?_)
  (refine WR_take 13 rfl rfl (by kernel_rfl) iP iC (EV_load rfl hfn hc2) (by rfl) ?_)
  (refine WR_take 14 rfl rfl (by kernel_rfl) iP iC (EV_nconv b2 rfl rfl rfl (by simp only [IntKind.bits]; omega)) (by rfl) ?_)
  (refine WR_take 15 rfl rfl (by kernel_rfl) iP iC (EV_nshl b2 8 rfl rfl rfl rfl rfl (by simp only [IntKind.bits]; omega)) (by rfl) ?_)
  (refine WR_take 16 rfl rfl (by kernel_rfl) iP iC (EV_nor' (k := .u32) (b2 * 2 ^ 8) (b1 + b0 * 256) 16 rfl rfl rfl rfl rfl (by omega) (by simp only [IntKind.bits]; omega)) (by rfl) ?_)
  rw [show b2 * 2 ^ 8 + (b1 + b0 * 256) * 2 ^ 16 = (b2 + (b1 + b0 * 256) * 256) * 2 ^ 8 from by omega]
  (refine WR_t 17 ?_)
  (refine WR_take 18 rfl rfl (by kernel_rfl) iP iC (EV_indexAddr (j := 3) rfl rfl rfl (by omega)) (by rfl) ?_)
  (refine WR_take 19 rfl rfl (by kernel_rfl) iP iC (EV_load rfl hfn hc3) (by rfl) ?_)
  (refine WR_take 20 rfl rfl (by kernel_rfl) iP iC (EV_nconv b3 rfl rfl rfl (by simp only [IntKind.bits]; omega)) (by rfl) ?_)
  (refine WR_take 21 rfl rfl (by kernel_rfl) iP iC (EV_nor' (k := .u32) b3 (b2 + (b1 + b0 * 256) * 256) 8 rfl rfl rfl rfl rfl (by omega) (by simp only [IntKind.bits]; omega)) (by rfl) ?_)
  rw [show b3 + (b2 + (b1 + b0 * 256) * 256) * 2 ^ 8 = wdN b0 b1 b2 b3 from by unfold wdN; omega]
  (refine WR_t 22 ?_)
  (refine WR_done (by kernel_rfl) ?_)
  (repeat' first|refine kW ?_|refine kU fun bk=>?_|refine kV fun hc=>?_|refine kZ (fun hc=>?_) fun hc=>?_|fail)
  exact kE
end Go.Proofs.YtdcehmhelfohfaaDoor
namespace Go.If
open Go.Vx Go.Hf
set_option linter.all false
def byt (d : List UInt8) (k : Nat) : Nat := (d.getD k 0).toNat
def usd [W0] (d : List UInt8) (m : Nat) : Nat := ((rawS (d.drop 2) m).t + 7) / 8
end Go.If
namespace Go.Proofs.YtdcehmhelfohfaaDoor
open Go Go.Vx Go.Hf Go.If
variable [W0]
set_option maxRecDepth 4000
set_option linter.all false
def adS (d : List UInt8) (m : Nat) : Nat := (adlV (adlN (1#32, 0#32) (rawS (d.drop 2) m).out)).toNat
def zlE (d : List UInt8) (m : Nat) : Nat :=
  if d.length < 2 then 4
  else if hdK (byt d 0) (byt d 1) = false then 3
  else if (rawS (d.drop 2) m).e ≠ 0 then (rawS (d.drop 2) m).e
  else if d.length < 2 + usd d m + 4 then 4
  else if wdN (byt d (2 + usd d m)) (byt d (2 + usd d m + 1)) (byt d (2 + usd d m + 2)) (byt d (2 + usd d m + 3)) ≠ adS d m then 6
  else 0
set_option maxHeartbeats 4000000 in
theorem pzlib_n (a : Option Addr) (c : Nat) (d : List UInt8) (most : Int) (m : Nat) (L : List Chunk) (hv : Sl L 1 (.slice a d.length c) d.length (bsv d)) (hl : d.length ≤ 140737488355328) (hcap : d.length ≤ c) (hm1 : max most 0 = (m : Int)) (hm : m ≤ 1000000) (hor : OrAt L) :
    Gv Tryd.prog 14 [.slice a d.length c, .int .i64 most].toArray L (fun r L' =>
      (zlE d m ≠ 0 ∧ r = .tuple #[.slice none 0 0, .int .i64 0, .int .i64 (zlE d m : Int)] ∧ L' = L) ∨
      (zlE d m = 0 ∧ ∃ v C, r = .tuple #[v, .int .i64 ((2 + usd d m + 4 : Nat) : Int), .int .i64 0] ∧ Ow 5 1 v (rawS (d.drop 2) m).out.length (bsv (rawS (d.drop 2) m).out) C ∧ (rawS (d.drop 2) m).out.length ≤ m ∧ L' = C :: L)) := by
  refine Gv.of_body Tryd.func14 rfl rfl ?_
  by_cases h2 : d.length < 2
  · have hz : zlE d m = 4 := by unfold zlE; rw [if_pos h2]
    rw [hz]
    (repeat' first|refine kW ?_|refine kU fun bk=>?_|refine kV fun hc=>?_|refine kZ (fun hc=>?_) fun hc=>?_|fail)
    refine WQ_retI (rs := [.tmp 4, .tmp 5, .tmp 6]) (vs := [.slice none 0 0, .int .i64 0, .int .i64 4]) rfl rfl ?_
    exact ⟨_, iC, .inl ⟨by decide, rfl, rfl⟩⟩
  have hz : zlE d m = if hdK (byt d 0) (byt d 1) = false then 3 else if (rawS (d.drop 2) m).e ≠ 0 then (rawS (d.drop 2) m).e else if d.length < 2 + usd d m + 4 then 4 else if wdN (byt d (2 + usd d m)) (byt d (2 + usd d m + 1)) (byt d (2 + usd d m + 2)) (byt d (2 + usd d m + 3)) ≠ adS d m then 6 else 0 := by
    unfold zlE; rw [if_neg h2]
  rw [hz]
  clear hz
  obtain ⟨bb, off, cap, cc, T, fr, hve, hfn, hcs⟩ := sl_bytes hv (by omega)
  injection hve with q1 q2 q3
  subst q1 q3
  clear q2
  have hhd := isHead_n (d.getD 0 0) (d.getD 1 0) L
  change GvP _ _ _ L (.bool (hdK (byt d 0) (byt d 1))) at hhd
  generalize hK : hdK (byt d 0) (byt d 1) = K at hhd ⊢
  (repeat' first|refine kW ?_|refine kU fun bk=>?_|refine kV fun hc=>?_|refine kZ (fun hc=>?_) fun hc=>?_|fail)
  refine WC_drawAll [] mixed ?_
  (refine WR_t 0 ?_)
  (refine WR_take 1 rfl rfl (by kernel_rfl) iP iC (EV_indexAddr (j := 0) rfl rfl rfl (by omega)) (by rfl) ?_)
  (refine WR_take 2 rfl rfl (by kernel_rfl) iP iC (EV_load rfl hfn (hcs 0 (by omega))) (by rfl) ?_)
  (refine WR_t 3 ?_)
  (refine WR_take 4 rfl rfl (by kernel_rfl) iP iC (EV_indexAddr (j := 1) rfl rfl rfl (by omega)) (by rfl) ?_)
  (refine WR_take 5 rfl rfl (by kernel_rfl) iP iC (EV_load rfl hfn (hcs 1 (by omega))) (by rfl) ?_)
  (refine WR_one 6 (by kernel_rfl) rfl rfl ?_)
  refine OW_callP rfl rfl rfl hhd rfl ?_
  refine ⟨iC, ?_⟩
  (refine WR_t 7 ?_)
  (refine WR_done (by kernel_rfl) ?_)
  cases K with
  | false =>
    rw [if_pos rfl]
    (repeat' first|refine kW ?_|refine kU fun bk=>?_|refine kV fun hc=>?_|refine kZ (fun hc=>?_) fun hc=>?_|fail)
    refine WQ_retI (rs := [.tmp 4, .tmp 5, .tmp 6]) (vs := [.slice none 0 0, .int .i64 0, .int .i64 3]) rfl rfl ?_
    exact ⟨_, iC, .inl ⟨by decide, rfl, rfl⟩⟩
  | true =>
    rw [if_neg (by decide)]
    have hsub : ∀ k, k ≤ d.length → Sl L 1 (.slice (some ⟨bb, if c = k then off else off + k * 1, none⟩) (d.length - k) (c - k)) (d.length - k) (bsv (d.drop k)) := by
      intro k hk
      refine .inr ⟨_, _, rfl, ?_, by rw [bsv_length, List.length_drop, Nat.mul_one]⟩
      by_cases h0 : d.length = k
      · refine .inl ?_
        rw [List.drop_of_length_le (by omega)]; rfl
      · rw [if_neg (by omega)]
        refine .inr ⟨bb, _, cc, T, fr, rfl, hfn, fun j u hj => ?_⟩
        have hjl : j < (d.drop k).length := by
          have := (List.getElem?_eq_some_iff.1 hj).1
          rwa [bsv_length] at this
        have hj2 : u = .int .u8 ((d.getD (k + j) 0).toNat : Int) := by
          have h3 := bsv_get (l := d.drop k) (i := j) (b := d.getD (k + j) 0) (by rw [List.length_drop] at hjl; simp [List.getD, show k + j < d.length by omega])
          rw [h3] at hj
          injection hj with hj
          exact hj.symm
        rw [hj2, show off + k * 1 + j = off + (k + j) * 1 from by omega]
        rw [List.length_drop] at hjl
        exact hcs (k + j) (by omega)
    have hra := praw_n (some ⟨bb, if c = 2 then off else off + 2 * 1, none⟩) (c - 2) (d.drop 2) most m L (by rw [List.length_drop]; exact hsub 2 (by omega)) (by rw [List.length_drop]; omega) hm1 hm hor
    rw [List.length_drop] at hra
    have hus : usd d m = ((rawS (d.drop 2) m).t + 7) / 8 := rfl
    have had : adS d m = (adlV (adlN (1#32, 0#32) (rawS (d.drop 2) m).out)).toNat := rfl
    generalize rawS (d.drop 2) m = R at hra hus had ⊢
    rw [← hus] at hra
    generalize usd d m = n at hra hus ⊢
    generalize adS d m = ad at had ⊢
    (repeat' first|refine kW ?_|refine kU fun bk=>?_|refine kV fun hc=>?_|refine kZ (fun hc=>?_) fun hc=>?_|fail)
    refine OW_EV (EV_sliceSl (l := 2) (h := d.length) rfl rfl rfl (by omega) hcap) rfl ?_
    (repeat' first|refine kW ?_|refine kU fun bk=>?_|refine kV fun hc=>?_|refine kZ (fun hc=>?_) fun hc=>?_|fail)
    refine OW_call rfl rfl rfl hra rfl (fun r L' hp => ?_)
    rcases hp with ⟨h3, rfl, rfl⟩ | ⟨h3, v1, C1, rfl, ho1, hl1, ht1, rfl⟩
    · rw [if_pos h3]
      (repeat' first|refine kW ?_|refine kU fun bk=>?_|refine kV fun hc=>?_|refine kZ (fun hc=>?_) fun hc=>?_|fail)
      refine WQ_retI (rs := [.tmp 4, .tmp 5, .tmp 6]) (vs := [.slice none 0 0, .int .i64 0, .int .i64 (R.e : Int)]) rfl rfl ?_
      exact ⟨_, iC, .inl ⟨h3, rfl, rfl⟩⟩
    rw [if_neg (show ¬ R.e ≠ 0 by omega)]
    have hn2 : 2 + n ≤ d.length := by omega
    (repeat' first|refine kW ?_|refine kU fun bk=>?_|refine kV fun hc=>?_|refine kZ (fun hc=>?_) fun hc=>?_|fail)
    rw [show (2 : Int) + (n : Int) = ((2 + n : Nat) : Int) from by omega]
    refine OW_EV (EV_sliceSl (l := 2 + n) (h := d.length) rfl rfl rfl hn2 hcap) rfl ?_
    (repeat' first|refine kW ?_|refine kU fun bk=>?_|refine kV fun hc=>?_|refine kZ (fun hc=>?_) fun hc=>?_|fail)
    · rw [if_pos (show d.length < 2 + n + 4 by omega)]
      refine WQ_retI (rs := [.tmp 4, .tmp 5, .tmp 6]) (vs := [.slice none 0 0, .int .i64 0, .int .i64 4]) rfl rfl ?_
      exact ⟨_, iC, .inl ⟨by decide, rfl, rfl⟩⟩
    rw [if_neg (show ¬ d.length < 2 + n + 4 by omega)]
    have hw := word_n _ _ (d.drop (2 + n)) (C1 :: L) (sl_there (hsub (2 + n) hn2)) (by omega)
    have hgd : ∀ j, ((d.drop (2 + n)).getD j 0).toNat = byt d (2 + n + j) := fun j => by simp [byt, List.getD]
    rw [hgd, hgd, hgd, hgd, Nat.add_zero] at hw
    refine OW_callP rfl rfl rfl hw rfl ?_
    generalize wdN (byt d (2 + n)) (byt d (2 + n + 1)) (byt d (2 + n + 2)) (byt d (2 + n + 3)) = wd
    (repeat' first|refine kW ?_|refine kU fun bk=>?_|refine kV fun hc=>?_|refine kZ (fun hc=>?_) fun hc=>?_|fail)
    have hadl : GvP Tryd.prog 29 [v1].toArray (C1 :: L) (.int .u32 (ad : Int)) := by rw [had]; exact adler_n R.out v1 (C1 :: L) (by omega) (SlC.ow ho1)
    refine OW_callP rfl rfl rfl hadl rfl ?_
    (repeat' first|refine kW ?_|refine kU fun bk=>?_|refine kV fun hc=>?_|refine kZ (fun hc=>?_) fun hc=>?_|fail)
    · rw [if_pos (show wd ≠ ad by omega)]
      refine WQ_retI (rs := [.tmp 4, .tmp 5, .tmp 6]) (vs := [.slice none 0 0, .int .i64 0, .int .i64 6]) rfl rfl ?_
      exact ⟨_, iC, .inl ⟨by decide, rfl, rfl⟩⟩
    · rw [if_neg (show ¬ wd ≠ ad by omega)]
      refine kR ?_
      exact ⟨_, iC, .inr ⟨rfl, v1, C1, by rw [show ((2 + n + 4 : Nat) : Int) = 2 + (n : Int) + 4 from by omega]; rfl, ho1, hl1, rfl⟩⟩
end Go.Proofs.YtdcehmhelfohfaaDoor
namespace Go.Proofs.YtdcehmhelfohfaaDoor
open Go Go.Vx Go.Hf Go.If
variable [W0]
set_option maxRecDepth 100000
set_option linter.all false
omit [W0] in
def awA : List UInt8 := [1, 2, 0, 253, 255, 97, 98]
omit [W0] in
def awZ : List UInt8 := [120, 1, 1, 0, 0, 255, 255, 0, 0, 0, 1]
theorem awA_eq : rawS awA 10 = ⟨56, [97, 98], 0⟩ := by kernel_rfl
theorem aw7_eq : (rawS [7] 10).e = 3 := by kernel_rfl
theorem awZ_eq : zlE awZ 10 = 0 := by kernel_rfl
theorem awZ_us : usd awZ 10 = 5 := by kernel_rfl
set_option maxHeartbeats 4000000 in
theorem iawake_n (L : List Chunk) (hor : OrAt L) : GvP Tryd.prog 9 [].toArray L (.bool true) := by
  refine Gv.of_body Tryd.func9 rfl rfl ?_
  (repeat' first|refine kW ?_|refine kU fun bk=>?_|refine kV fun hc=>?_|refine kZ (fun hc=>?_) fun hc=>?_|fail)
  refine OW_buildSlice (cs := bsv awA) rfl (by rfl) (by simp [fillL, patch, Value.cells, zeros]; rfl) (by omega) rfl rfl (fun b1 => ?_)
  (repeat' first|refine kW ?_|refine kU fun bk=>?_|refine kV fun hc=>?_|refine kZ (fun hc=>?_) fun hc=>?_|fail)
  have h1 := praw_n (some ⟨b1, 0, none⟩) 7 awA 10 10 ([(b1, cl (bsv awA) 5)] :: L) (sl_cells (c := (bsv awA).toArray) (xs := bsv awA) (m := 7) Fnd.here rfl (by simp)) (by decide) (by decide) (by decide) hor.there
  rw [awA_eq] at h1
  refine OW_call rfl rfl rfl h1 rfl (fun r L' hp => ?_)
  rcases hp with ⟨h, _⟩ | ⟨_, v1, C1, rfl, ho1, _, _, rfl⟩
  · exact absurd rfl h
  (repeat' first|refine kW ?_|refine kU fun bk=>?_|refine kV fun hc=>?_|refine kZ (fun hc=>?_) fun hc=>?_|fail)
  refine OW_buildSlice (cs := bsv [7]) rfl (by rfl) (by simp [fillL, patch, Value.cells, zeros]; rfl) (by omega) rfl rfl (fun b2 => ?_)
  (repeat' first|refine kW ?_|refine kU fun bk=>?_|refine kV fun hc=>?_|refine kZ (fun hc=>?_) fun hc=>?_|fail)
  have h2 := praw_n (some ⟨b2, 0, none⟩) 1 [7] 10 10 ([(b2, cl (bsv [7]) 5)] :: C1 :: [(b1, cl (bsv awA) 5)] :: L) (sl_cells (c := (bsv [7]).toArray) (xs := bsv [7]) (m := 1) Fnd.here rfl (by simp)) (by decide) (by decide) (by decide) hor.there.there.there
  rw [aw7_eq] at h2
  refine OW_call rfl rfl rfl h2 rfl (fun r L' hp => ?_)
  rcases hp with ⟨_, rfl, rfl⟩ | ⟨h, _⟩
  rotate_left
  · cases h
  (repeat' first|refine kW ?_|refine kU fun bk=>?_|refine kV fun hc=>?_|refine kZ (fun hc=>?_) fun hc=>?_|fail)
  refine OW_buildSlice (cs := bsv awZ) rfl (by rfl) (by simp [fillL, patch, Value.cells, zeros]; rfl) (by omega) rfl rfl (fun b3 => ?_)
  (repeat' first|refine kW ?_|refine kU fun bk=>?_|refine kV fun hc=>?_|refine kZ (fun hc=>?_) fun hc=>?_|fail)
  have h3 := pzlib_n (some ⟨b3, 0, none⟩) 11 awZ 10 10 ([(b3, cl (bsv awZ) 5)] :: [(b2, cl (bsv [7]) 5)] :: C1 :: [(b1, cl (bsv awA) 5)] :: L) (sl_cells (c := (bsv awZ).toArray) (xs := bsv awZ) (m := 11) Fnd.here rfl (by simp)) (by decide) (by decide) (by decide) (by decide) hor.there.there.there.there
  rw [awZ_eq, awZ_us] at h3
  refine OW_call rfl rfl rfl h3 rfl (fun r L' hp => ?_)
  rcases hp with ⟨h, _⟩ | ⟨_, v3, C3, rfl, _, _, rfl⟩
  · exact absurd rfl h
  (repeat' first|refine kW ?_|refine kU fun bk=>?_|refine kV fun hc=>?_|refine kZ (fun hc=>?_) fun hc=>?_|fail)
  refine OW_EV (EV_convStr (m := 2) (b := [97, 98]) rfl (by exact sl_there (sl_there (sl_there (ow_sl ho1))))) rfl ?_
  (repeat' first|refine kW ?_|refine kU fun bk=>?_|refine kV fun hc=>?_|refine kZ (fun hc=>?_) fun hc=>?_|fail)
  exact kE
end Go.Proofs.YtdcehmhelfohfaaDoor
namespace Go.If
open Go.Vx Go.Hf
set_option linter.all false
section
variable [W0]
theorem raw_self {d : List UInt8} {m : Nat} (h : (rawS d m).e = 0) : Ok d m (rawS d m) := (rawS_sim (d' := d) (most' := m) Ag.refl h).self h
theorem raw_pos {d : List UInt8} {m : Nat} (h : (rawS d m).e = 0) : 3 ≤ (rawS d m).t := by
  unfold rawS at h ⊢
  rw [rwS] at h ⊢
  by_cases h1 : (tk d ⟨0, [], 0⟩ 3).e ≠ 0
  · rw [if_pos h1] at h; exact absurd h h1
  have htt : (tk d ⟨0, [], 0⟩ 3).t = 3 := by
    by_cases hc : 0 + 3 ≤ 8 * d.length
    · rw [tk_ok (by exact hc)]
    · exact absurd (show (tk d ⟨0, [], 0⟩ 3).e ≠ 0 by rw [tk_no (by exact hc) rfl]; decide) h1
  rw [if_neg h1] at h ⊢
  by_cases h2 : 5 < tv d ⟨0, [], 0⟩ 3
  · rw [if_pos h2, fl_t, htt]; exact Nat.le_refl _
  rw [if_neg h2] at h ⊢
  have hb := (bkS_le d m (tv d ⟨0, [], 0⟩ 3 / 2) (tk d ⟨0, [], 0⟩ 3)).t
  rw [htt] at hb
  split
  · exact hb
  · split
    · exact hb
    · exact Nat.le_trans hb (rwS_le _ _ _ _).t
theorem raw_room {d : List UInt8} {m : Nat} (h : (rawS d m).e = 0) : rawS d (rawS d m).out.length = rawS d m ∧ (0 < (rawS d m).out.length → (rawS d ((rawS d m).out.length - 1)).e = 5) := by
  have ho := raw_self h
  refine ⟨?_, fun hp => ?_⟩
  · rcases rawS_sim (d' := d) (most' := (rawS d m).out.length) Ag.refl h with ⟨q, _⟩ | ⟨_, q⟩ | ⟨_, q⟩
    · exact q
    · have := ho.t; omega
    · omega
  · rcases rawS_sim (d' := d) (most' := (rawS d m).out.length - 1) Ag.refl h with ⟨_, q⟩ | ⟨_, q⟩ | ⟨q, _⟩
    · have := q.o; omega
    · have := ho.t; omega
    · exact q
theorem raw_cut {d : List UInt8} {m n : Nat} (h : (rawS d m).e = 0) (hn : n = ((rawS d m).t + 7) / 8) (x : List UInt8) : (rawS (d.take (n - 1)) m).e = 4 ∧ rawS (d.take n ++ x) m = rawS d m := by
  have ho := raw_self h
  have hp := raw_pos h
  have hg : ∀ k, Ag d (d.take k) := fun k => by
    have := (ag_app (d.take k) (d.drop k)).symm
    rwa [List.take_append_drop] at this
  have hnd : n ≤ d.length := by have := ho.t; omega
  refine ⟨?_, ?_⟩
  · rcases rawS_sim (d' := d.take (n - 1)) (most' := m) (hg _) h with ⟨_, q⟩ | ⟨q, _⟩ | ⟨_, q⟩
    · have := q.t; rw [List.length_take] at this; omega
    · exact q
    · have := ho.o; omega
  · have h1 : rawS (d.take n) m = rawS d m := by
      rcases rawS_sim (d' := d.take n) (most' := m) (hg _) h with ⟨q, _⟩ | ⟨_, q⟩ | ⟨_, q⟩
      · exact q
      · rw [List.length_take] at q; omega
      · have := ho.o; omega
    have h2 : (rawS (d.take n) m).e = 0 := by rw [h1]; exact h
    have ho2 := raw_self h2
    rcases rawS_sim (d' := d.take n ++ x) (most' := m) (ag_app _ x) h2 with ⟨q, _⟩ | ⟨_, q⟩ | ⟨_, q⟩
    · rw [q, h1]
    · have := ho2.t; rw [List.length_append] at q; omega
    · have := ho2.o; omega
end
end Go.If
namespace Go.Proofs.YtdcehmhelfohfaaDoor
open Go Go.Vx Go.Hf Go.If
variable [W0]
set_option maxRecDepth 4000
set_option linter.all false
theorem bsv_app2 (a b : List UInt8) : bsv (a ++ b) = bsv a ++ bsv b := by simp [bsv]
set_option maxHeartbeats 16000000 in
theorem inflatebound_n (a : Option Addr) (c : Nat) (b : List UInt8) (m0 : Int) (L : List Chunk) (hv : Sl L 1 (.slice a b.length c) b.length (bsv b)) (hcap : b.length ≤ c) (hl : b.length ≤ 140737488351232) (hor : OrAt L) :
    GvP Tryd.prog 8 [.slice a b.length c, .int .i64 m0].toArray L (.bool true) := by
  refine Gv.of_body Tryd.func8 rfl rfl ?_
  obtain ⟨m, hm⟩ : ∃ m : Nat, m0 % 65536 = (m : Int) := ⟨(m0 % 65536).toNat, by omega⟩
  ((repeat' first|refine kW ?_|refine kU fun bk=>?_|refine kV fun hc=>?_|refine kZ (fun hc=>?_) fun hc=>?_|fail) <;> try exact absurd trivial hc)
  · refine OW_callP rfl rfl rfl (iawake_n L hor) rfl ?_
    ((repeat' first|refine kW ?_|refine kU fun bk=>?_|refine kV fun hc=>?_|refine kZ (fun hc=>?_) fun hc=>?_|fail) <;> try exact absurd trivial hc)
    exact kE
  refine OW_EV (EV_mask (p := 65536) rfl rfl rfl) rfl ?_
  rw [hm]
  ((repeat' first|refine kW ?_|refine kU fun bk=>?_|refine kV fun hc=>?_|refine kZ (fun hc=>?_) fun hc=>?_|fail) <;> try exact absurd trivial hc)
  have hp1 := praw_n a c b (m : Int) m L hv (by omega) (by omega) (by omega) hor
  have hself := raw_self (d := b) (m := m)
  have hpos := raw_pos (d := b) (m := m)
  have hroom := raw_room (d := b) (m := m)
  have hcut := fun n => raw_cut (d := b) (m := m) (n := n)
  generalize rawS b m = R at hp1 hself hpos hroom hcut
  refine OW_call rfl rfl rfl hp1 rfl (fun r L' hp => ?_)
  rcases hp with ⟨h1, rfl, rfl⟩ | ⟨h1, v1, C1, rfl, ho1, hl1, ht1, rfl⟩
  · have h1n : (R.e : Int) ≠ 0 := by omega
    ((repeat' first|refine kW ?_|refine kU fun bk=>?_|refine kV fun hc=>?_|refine kZ (fun hc=>?_) fun hc=>?_|fail) <;> try exact absurd trivial hc)
    refine OW_callP rfl rfl rfl (iawake_n _ hor) rfl ?_
    ((repeat' first|refine kW ?_|refine kU fun bk=>?_|refine kV fun hc=>?_|refine kZ (fun hc=>?_) fun hc=>?_|fail) <;> try exact absurd trivial hc)
    exact kE
  have hself := hself h1
  have hpos := hpos h1
  obtain ⟨hr1, hr2⟩ := hroom h1
  obtain ⟨n, hn⟩ : ∃ n, n = (R.t + 7) / 8 := ⟨_, rfl⟩
  obtain ⟨hc1, hc2⟩ := hcut n h1 hn [7, 7, 7]
  rw [← hn]
  have hnb : n ≤ b.length := by have := hself.t; omega
  have hn1 : 1 ≤ n := by omega
  obtain ⟨bb, off, cap, cc, T, fr, hve, hfn, hcs⟩ := sl_bytes hv (by omega)
  injection hve with q1 q2 q3
  subst q1 q3
  clear q2
  have hsub : ∀ k, k ≤ b.length → Sl L 1 (.slice (some ⟨bb, off, none⟩) k c) k (bsv (b.take k)) := by
    intro k hk
    refine .inr ⟨_, _, rfl, .inr ⟨bb, off, cc, T, fr, rfl, hfn, fun j u hj => ?_⟩, by rw [bsv_length, List.length_take]; omega⟩
    have hjl : j < (b.take k).length := by
      have := (List.getElem?_eq_some_iff.1 hj).1
      rwa [bsv_length] at this
    rw [List.length_take] at hjl
    have h3 := bsv_get (l := b.take k) (i := j) (b := b.getD j 0) (by rw [List.getElem?_take, if_pos (by omega)]; simp [List.getD, show j < b.length by omega])
    rw [h3] at hj
    injection hj with hj
    rw [← hj]
    have := hcs j (by omega)
    simpa using this
  obtain ⟨v1a, v1c, rfl⟩ := ow_slc ho1
  ((repeat' first|refine kW ?_|refine kU fun bk=>?_|refine kV fun hc=>?_|refine kZ (fun hc=>?_) fun hc=>?_|fail) <;> try exact absurd trivial hc)
  have hp2 := praw_n (some ⟨bb, off, none⟩) c b (R.out.length : Int) R.out.length (C1 :: L) (sl_there hv) (by omega) (by omega) (by omega) (by repeat (first | exact hor | apply OrAt.there))
  rw [hr1, ← hn] at hp2
  refine OW_call rfl rfl rfl hp2 rfl (fun r L' hp => ?_)
  rcases hp with ⟨h, _⟩ | ⟨_, v2, C2, rfl, ho2, _, _, rfl⟩
  · exact absurd h1 h
  ((repeat' first|refine kW ?_|refine kU fun bk=>?_|refine kV fun hc=>?_|refine kZ (fun hc=>?_) fun hc=>?_|fail) <;> try exact absurd trivial hc)
  refine OW_EV (EV_convStr (m := R.out.length) (b := R.out) rfl (by exact ow_sl ho2)) rfl ?_
  ((repeat' first|refine kW ?_|refine kU fun bk=>?_|refine kV fun hc=>?_|refine kZ (fun hc=>?_) fun hc=>?_|fail) <;> try exact absurd trivial hc)
  refine OW_EV (EV_convStr (m := R.out.length) (b := R.out) rfl (by repeat (first | exact ow_sl ho1 | apply sl_there))) rfl ?_
  ((repeat' first|refine kW ?_|refine kU fun bk=>?_|refine kV fun hc=>?_|refine kZ (fun hc=>?_) fun hc=>?_|fail) <;> try exact absurd trivial hc)
  · have hr2 := hr2 (by omega)
    have hp3 := praw_n (some ⟨bb, off, none⟩) c b ((R.out.length : Int) - 1) (R.out.length - 1) (C2 :: C1 :: L) (sl_there (sl_there hv)) (by omega) (by omega) (by omega) (by repeat (first | exact hor | apply OrAt.there))
    rw [hr2] at hp3
    refine OW_call rfl rfl rfl hp3 rfl (fun r L' hp => ?_)
    rcases hp with ⟨_, rfl, rfl⟩ | ⟨h, _⟩
    rotate_left
    · cases h
    ((repeat' first|refine kW ?_|refine kU fun bk=>?_|refine kV fun hc=>?_|refine kZ (fun hc=>?_) fun hc=>?_|fail) <;> try exact absurd trivial hc)
    rw [show (n : Int) - 1 = ((n - 1 : Nat) : Int) from by omega]
    refine OW_EV (EV_sliceTo (h := n - 1) rfl rfl rfl (by omega)) rfl ?_
    ((repeat' first|refine kW ?_|refine kU fun bk=>?_|refine kV fun hc=>?_|refine kZ (fun hc=>?_) fun hc=>?_|fail) <;> try exact absurd trivial hc)
    have hp4 := praw_n (some ⟨bb, off, none⟩) c (b.take (n - 1)) (m : Int) m (C2 :: C1 :: L) (by rw [List.length_take, Nat.min_eq_left (by omega)]; exact sl_there (sl_there (hsub (n - 1) (by omega)))) (by rw [List.length_take]; omega) (by omega) (by omega) (by repeat (first | exact hor | apply OrAt.there))
    rw [hc1, List.length_take, Nat.min_eq_left (by omega)] at hp4
    refine OW_call rfl rfl rfl hp4 rfl (fun r L' hp => ?_)
    rcases hp with ⟨_, rfl, rfl⟩ | ⟨h, _⟩
    rotate_left
    · cases h
    ((repeat' first|refine kW ?_|refine kU fun bk=>?_|refine kV fun hc=>?_|refine kZ (fun hc=>?_) fun hc=>?_|fail) <;> try exact absurd trivial hc)
    apply OW_buildSlice (parts := []) (pvs := []) (cs := [])
    · rfl
    · rfl
    · rfl
    · omega
    · rfl
    · rfl
    intro b1
    ((repeat' first|refine kW ?_|refine kU fun bk=>?_|refine kV fun hc=>?_|refine kZ (fun hc=>?_) fun hc=>?_|fail) <;> try exact absurd trivial hc)
    refine OW_EV (EV_sliceTo (h := n) rfl rfl rfl (by omega)) rfl ?_
    ((repeat' first|refine kW ?_|refine kU fun bk=>?_|refine kV fun hc=>?_|refine kZ (fun hc=>?_) fun hc=>?_|fail) <;> try exact absurd trivial hc)
    refine OW_append rfl rfl (m := 0) (xs := []) (C := [(b1, cl [] 5)]) (.inr ⟨b1, 0, [], rfl, rfl, rfl, rfl, Nat.le_refl _, by simp [maxLen]⟩) (c := n) (ys := bsv (b.take n)) (by repeat (first | exact hsub n hnb | apply sl_there)) (by repeat (first | exact Zip.here _ | apply Zip.there)) rfl bsv_ones (by omega) (by show _ ≤ 9223372036854775807; omega) rfl (fun v3 C3 ho3 _ _ => ?_)
    rw [List.nil_append, Nat.zero_add] at ho3
    obtain ⟨v3a, v3c, rfl⟩ := ow_slc ho3
    ((repeat' first|refine kW ?_|refine kU fun bk=>?_|refine kV fun hc=>?_|refine kZ (fun hc=>?_) fun hc=>?_|fail) <;> try exact absurd trivial hc)
    refine OW_buildSlice (cs := bsv [7, 7, 7]) rfl (by rfl) (by first | (simp [fillL, patch, Value.cells, zeros]; done) | (simp [fillL, patch, Value.cells, zeros]; rfl)) (by omega) rfl rfl (fun b2 => ?_)
    ((repeat' first|refine kW ?_|refine kU fun bk=>?_|refine kV fun hc=>?_|refine kZ (fun hc=>?_) fun hc=>?_|fail) <;> try exact absurd trivial hc)
    refine OW_append rfl rfl ho3 (sl_cells (k := 1) (c := (bsv [7, 7, 7]).toArray) (xs := bsv [7, 7, 7]) (m := 3) Fnd.here rfl (by simp)) (by repeat (first | exact Zip.here _ | apply Zip.there)) rfl bsv_ones (by omega) (by show _ ≤ 9223372036854775807; omega) rfl (fun v4 C4 ho4 _ _ => ?_)
    rw [← bsv_app2] at ho4
    obtain ⟨v4a, v4c, rfl⟩ := ow_slc ho4
    ((repeat' first|refine kW ?_|refine kU fun bk=>?_|refine kV fun hc=>?_|refine kZ (fun hc=>?_) fun hc=>?_|fail) <;> try exact absurd trivial hc)
    have hlk : (b.take n ++ [7, 7, 7]).length = n + 3 := by rw [List.length_append, List.length_take, Nat.min_eq_left (by omega)]; rfl
    have hp5 := praw_n v4a v4c (b.take n ++ [7, 7, 7]) (m : Int) m (C4 :: [(b2, cl (bsv [7, 7, 7]) 5)] :: C2 :: C1 :: L) (by rw [hlk]; exact ow_sl ho4) (by rw [hlk]; omega) (by omega) (by omega) (by repeat (first | exact hor | apply OrAt.there))
    rw [hc2, hlk, ← hn] at hp5
    refine OW_call rfl rfl rfl (Gv.holds hp5 (fun w h => iH h)) rfl (fun r L' hp => ?_)
    rcases hp with ⟨h, _⟩ | ⟨_, v5, C5, rfl, ho5, _, _, rfl⟩
    · exact absurd h1 h
    ((repeat' first|refine kW ?_|refine kU fun bk=>?_|refine kV fun hc=>?_|refine kZ (fun hc=>?_) fun hc=>?_|fail) <;> try exact absurd trivial hc)
    refine OW_EV (EV_convStr (m := R.out.length) (b := R.out) rfl (by exact ow_sl ho5)) rfl ?_
    ((repeat' first|refine kW ?_|refine kU fun bk=>?_|refine kV fun hc=>?_|refine kZ (fun hc=>?_) fun hc=>?_|fail) <;> try exact absurd trivial hc)
    refine OW_EV (EV_convStr (m := R.out.length) (b := R.out) rfl (by repeat (first | exact ow_sl ho1 | apply sl_there))) rfl ?_
    ((repeat' first|refine kW ?_|refine kU fun bk=>?_|refine kV fun hc=>?_|refine kZ (fun hc=>?_) fun hc=>?_|fail) <;> try exact absurd trivial hc)
    refine OW_callP rfl rfl rfl (iawake_n _ (by repeat (first | exact hor | apply OrAt.there))) rfl ?_
    ((repeat' first|refine kW ?_|refine kU fun bk=>?_|refine kV fun hc=>?_|refine kZ (fun hc=>?_) fun hc=>?_|fail) <;> try exact absurd trivial hc)
    exact kE
  · skip
    rw [show (n : Int) - 1 = ((n - 1 : Nat) : Int) from by omega]
    refine OW_EV (EV_sliceTo (h := n - 1) rfl rfl rfl (by omega)) rfl ?_
    ((repeat' first|refine kW ?_|refine kU fun bk=>?_|refine kV fun hc=>?_|refine kZ (fun hc=>?_) fun hc=>?_|fail) <;> try exact absurd trivial hc)
    have hp4 := praw_n (some ⟨bb, off, none⟩) c (b.take (n - 1)) (m : Int) m (C2 :: C1 :: L) (by rw [List.length_take, Nat.min_eq_left (by omega)]; exact sl_there (sl_there (hsub (n - 1) (by omega)))) (by rw [List.length_take]; omega) (by omega) (by omega) (by repeat (first | exact hor | apply OrAt.there))
    rw [hc1, List.length_take, Nat.min_eq_left (by omega)] at hp4
    refine OW_call rfl rfl rfl hp4 rfl (fun r L' hp => ?_)
    rcases hp with ⟨_, rfl, rfl⟩ | ⟨h, _⟩
    rotate_left
    · cases h
    ((repeat' first|refine kW ?_|refine kU fun bk=>?_|refine kV fun hc=>?_|refine kZ (fun hc=>?_) fun hc=>?_|fail) <;> try exact absurd trivial hc)
    apply OW_buildSlice (parts := []) (pvs := []) (cs := [])
    · rfl
    · rfl
    · rfl
    · omega
    · rfl
    · rfl
    intro b1
    ((repeat' first|refine kW ?_|refine kU fun bk=>?_|refine kV fun hc=>?_|refine kZ (fun hc=>?_) fun hc=>?_|fail) <;> try exact absurd trivial hc)
    refine OW_EV (EV_sliceTo (h := n) rfl rfl rfl (by omega)) rfl ?_
    ((repeat' first|refine kW ?_|refine kU fun bk=>?_|refine kV fun hc=>?_|refine kZ (fun hc=>?_) fun hc=>?_|fail) <;> try exact absurd trivial hc)
    refine OW_append rfl rfl (m := 0) (xs := []) (C := [(b1, cl [] 5)]) (.inr ⟨b1, 0, [], rfl, rfl, rfl, rfl, Nat.le_refl _, by simp [maxLen]⟩) (c := n) (ys := bsv (b.take n)) (by repeat (first | exact hsub n hnb | apply sl_there)) (by repeat (first | exact Zip.here _ | apply Zip.there)) rfl bsv_ones (by omega) (by show _ ≤ 9223372036854775807; omega) rfl (fun v3 C3 ho3 _ _ => ?_)
    rw [List.nil_append, Nat.zero_add] at ho3
    obtain ⟨v3a, v3c, rfl⟩ := ow_slc ho3
    ((repeat' first|refine kW ?_|refine kU fun bk=>?_|refine kV fun hc=>?_|refine kZ (fun hc=>?_) fun hc=>?_|fail) <;> try exact absurd trivial hc)
    refine OW_buildSlice (cs := bsv [7, 7, 7]) rfl (by rfl) (by first | (simp [fillL, patch, Value.cells, zeros]; done) | (simp [fillL, patch, Value.cells, zeros]; rfl)) (by omega) rfl rfl (fun b2 => ?_)
    ((repeat' first|refine kW ?_|refine kU fun bk=>?_|refine kV fun hc=>?_|refine kZ (fun hc=>?_) fun hc=>?_|fail) <;> try exact absurd trivial hc)
    refine OW_append rfl rfl ho3 (sl_cells (k := 1) (c := (bsv [7, 7, 7]).toArray) (xs := bsv [7, 7, 7]) (m := 3) Fnd.here rfl (by simp)) (by repeat (first | exact Zip.here _ | apply Zip.there)) rfl bsv_ones (by omega) (by show _ ≤ 9223372036854775807; omega) rfl (fun v4 C4 ho4 _ _ => ?_)
    rw [← bsv_app2] at ho4
    obtain ⟨v4a, v4c, rfl⟩ := ow_slc ho4
    ((repeat' first|refine kW ?_|refine kU fun bk=>?_|refine kV fun hc=>?_|refine kZ (fun hc=>?_) fun hc=>?_|fail) <;> try exact absurd trivial hc)
    have hlk : (b.take n ++ [7, 7, 7]).length = n + 3 := by rw [List.length_append, List.length_take, Nat.min_eq_left (by omega)]; rfl
    have hp5 := praw_n v4a v4c (b.take n ++ [7, 7, 7]) (m : Int) m (C4 :: [(b2, cl (bsv [7, 7, 7]) 5)] :: C2 :: C1 :: L) (by rw [hlk]; exact ow_sl ho4) (by rw [hlk]; omega) (by omega) (by omega) (by repeat (first | exact hor | apply OrAt.there))
    rw [hc2, hlk, ← hn] at hp5
    refine OW_call rfl rfl rfl (Gv.holds hp5 (fun w h => iH h)) rfl (fun r L' hp => ?_)
    rcases hp with ⟨h, _⟩ | ⟨_, v5, C5, rfl, ho5, _, _, rfl⟩
    · exact absurd h1 h
    ((repeat' first|refine kW ?_|refine kU fun bk=>?_|refine kV fun hc=>?_|refine kZ (fun hc=>?_) fun hc=>?_|fail) <;> try exact absurd trivial hc)
    refine OW_EV (EV_convStr (m := R.out.length) (b := R.out) rfl (by exact ow_sl ho5)) rfl ?_
    ((repeat' first|refine kW ?_|refine kU fun bk=>?_|refine kV fun hc=>?_|refine kZ (fun hc=>?_) fun hc=>?_|fail) <;> try exact absurd trivial hc)
    refine OW_EV (EV_convStr (m := R.out.length) (b := R.out) rfl (by repeat (first | exact ow_sl ho1 | apply sl_there))) rfl ?_
    ((repeat' first|refine kW ?_|refine kU fun bk=>?_|refine kV fun hc=>?_|refine kZ (fun hc=>?_) fun hc=>?_|fail) <;> try exact absurd trivial hc)
    refine OW_callP rfl rfl rfl (iawake_n _ (by repeat (first | exact hor | apply OrAt.there))) rfl ?_
    ((repeat' first|refine kW ?_|refine kU fun bk=>?_|refine kV fun hc=>?_|refine kZ (fun hc=>?_) fun hc=>?_|fail) <;> try exact absurd trivial hc)
    exact kE
end Go.Proofs.YtdcehmhelfohfaaDoor
namespace Go.Proofs.YtdcehmhelfohfaaDoor
open Go Go.Vx Go.ChangeShapes Go.WideShapes Go.ChangeAt Go.RowKit
set_option maxRecDepth 4000
set_option linter.all false
theorem open_bytes {H : Type} {enc : TypeId × Value → H} {P : Program} {W : World} {t e : TypeId} {a : Option Addr} {len cap : Nat} {d : DataW H} {ps : List MemPlace} (ht : P.underlying t = some (.slice e)) (he : P.underlying e = some (.int .u8)) (hc : P.cellsOf e = 1)
    (h : DataW.Trod enc P W 0 (fun _ => true) true t (.slice a len cap) d ps) :
    ∃ xs : List UInt8, xs.length = len ∧ SlC [blks W] 1 (.slice a len cap) len (bsv xs) ∧ len ≤ Rows.uptoBulk d ∧ (len = 0 ∨ ∃ el sp, d = .slice el sp ∧ el.length = len) := by
  have hx : len ≤ cap ∧ (len = 0 ∨ ∃ el sp, d = .slice el sp ∧ el.length = len) := by
    obtain ⟨fuel, hf⟩ := h
    rcases open_ints ht he hc hf with ⟨hcs, _⟩ | ⟨x, l, c, zs, hcs, _, hl, hm, hz, hx, hcell, hwz⟩
    · simp [Value.cells] at hcs
      obtain ⟨rfl, rfl, rfl⟩ := hcs
      exact ⟨Nat.le_refl _, .inl rfl⟩
    · simp [Value.cells] at hcs
      obtain ⟨rfl, rfl, rfl⟩ := hcs
      have hzl : zs.length = cap := by simpa using hz
      have hd : d = .slice (lits .u8 (zs.take len)) (lits .u8 (zs.drop len)) := by injection hx
      exact ⟨hl, .inr ⟨_, _, hd, by simp [lits]; omega⟩⟩
  obtain ⟨xs, h1, h2, h3, h4⟩ := open_row ht he hc h
  refine ⟨xs.map fun n => UInt8.ofNat n.toNat, by simpa using h1, ⟨?_, _, _, rfl, hx.1⟩, h4, hx.2⟩
  rw [bytes_of xs h2]
  exact h3
theorem reach_len {H : Type} {P : Program} {ts : List TypeId} {ds : List (DataW H)} (h : (DataW.weightsEach P ts ds).all (· ≤ reachBytes) = true) {j : Nat} {t e : TypeId} {d : DataW H} {len : Nat} (ht : ts[j]? = some t) (hd : ds[j]? = some d) (hu : P.underlying t = some (.slice e)) (hb : P.bytesOf e = 1)
    (hl : len = 0 ∨ ∃ el sp, d = .slice el sp ∧ el.length = len) : len ≤ 140737488351232 := by
  rcases hl with rfl | ⟨el, sp, rfl, rfl⟩
  · omega
  · have := sized_slice h ht hd hu
    rw [hb, Nat.mul_one] at this
    simp [reachBytes] at this
    omega
def tabZ : List Int := [16, 17, 18, 0, 8, 7, 9, 6, 10, 5, 11, 4, 12, 3, 13, 2, 14, 1, 15]
theorem tabZ_eq {i : Nat} (h : i < 19) : tabZ.getD i 0 = ((Go.If.ordL.getD i 0 : Nat) : Int) := by
  have : ∀ i : Fin 19, tabZ.getD i.val 0 = ((Go.If.ordL.getD i.val 0 : Nat) : Int) := by decide
  exact this ⟨i, h⟩
theorem tab_met {W : World} (h : laidMetH Tryd.prog [("stemma/symbols.order", Rows.laid_stemma_symbols_order)] W) : OrAt [blks W] := by
  letI : W0 := ⟨W.os, W.output⟩
  have ht : Lib.TabIs Tryd.prog W "stemma/symbols.order" .i64 tabZ :=
    Lib.tabIs_of_head (rest := []) (show Tryd.prog.globalNamed "stemma/symbols.order" = some 0 by kernel_rfl) (show (Tryd.prog.globals[0]?).map (·.type) = some 139 by kernel_rfl)
      Tryd.underlying139 Tryd.underlying3 (show Tryd.prog.cellsOf 3 = 1 by kernel_rfl) (show Tryd.prog.cellsOf 139 = 19 by kernel_rfl) h
  have hg : Tryd.prog.globalNamed "stemma/symbols.order" = some 0 := by kernel_rfl
  have hc0 := ht.cell hg 0 (by decide)
  have hblk : ∃ C T fr, W.heap[0]? = some (.cells C T fr) := by
    unfold World.cell? at hc0
    split at hc0
    · rename_i C T fr hb; exact ⟨C, T, fr, hb⟩
    · cases hc0
  obtain ⟨C, T, fr, hb⟩ := hblk
  refine ⟨C, T, fr, by simpa [Fnd] using blks_mem.2 hb, fun i hi => ?_⟩
  have := ht.cell hg i hi
  rw [cell_of hb] at this
  rw [this, tabZ_eq hi]
end Go.Proofs.YtdcehmhelfohfaaDoor
namespace Go.Proofs.YtdcehmhelfohfaaDoor
open Go Go.Vx Go.ChangeShapes Go.WideShapes Go.ChangeAt Go.RowKit
set_option linter.all false
set_option maxRecDepth 4000
theorem top_row (H : Type) (enc : TypeId × Value → H) (W : World) (base : Nat) (args : Array Value) (ds gs : List (DataW H)) (before : List MemPlace)
    (hval : ∀ (j : Nat) t v, Tryd.f8.params[j]? = some t → args[j]? = some v → Value.okWide Tryd.prog W .any base t v)
    (hW : DataW.Whole enc Tryd.prog Tryd.f8.params.toList Rows.inflateBoundSpec.vars false W args.toList ds gs before)
    (hz : (DataW.weightsEach Tryd.prog (Tryd.f8.params.toList ++ Rows.inflateBoundSpec.plain.varTypes Tryd.prog) (ds ++ gs)).all (· ≤ reachBytes) = true) (hL : laidMetH Tryd.prog [("stemma/symbols.order", Rows.laid_stemma_symbols_order)] W) :
    Calls Tryd.prog 8 args W fun e W' => ∃ v, e = .returned v ∧ Rows.inflateBoundSpec.post enc Tryd.prog Tryd.f8 false true false false W args v W' := by
  have hW' := hW
  obtain ⟨p, q, hA0, hV, rfl, hfz, hnd⟩ := hW
  have hA : DataW.TrodAll enc Tryd.prog W 0 (fun _ => true) true Tryd.f8.params.toList args.toList ds p := hA0
  rw [Tryd.params8] at hA hval hz
  obtain ⟨v0, vs0, d0, ds0, p0, q0, hargs, rfl, rfl, h0, r0⟩ := trodAll_cons hA
  obtain ⟨v1, vs1, d1, ds1, p1, q1, rfl, rfl, rfl, h1, r1⟩ := trodAll_cons r0
  obtain ⟨rfl, rfl, rfl⟩ := trodAll_nil r1
  obtain rfl : args = #[v0, v1] := by cases args; simp_all
  obtain ⟨rfl, rfl⟩ := trodVars_none hV
  obtain ⟨a0, l0, c0, rfl⟩ := okWide_slice Tryd.underlying22 (hval 0 _ v0 rfl rfl)
  obtain ⟨x0, e0, s0, b0, g0⟩ := open_bytes Tryd.underlying22 Tryd.underlying5 (by kernel_rfl) h0
  have r0 : l0 ≤ 140737488351232 := reach_len hz (j := 0) rfl rfl Tryd.underlying22 (by kernel_rfl) g0
  obtain ⟨n1, rfl, rfl, rfl, w1⟩ := open_int Tryd.underlying3 (hval 1 _ v1 rfl rfl) h1
  clear hA0
  have lt0 : ∀ x ∈ p0, x.block < W.heap.size := by obtain ⟨m, hm⟩ := h0; exact DataW.trod_lt m _ _ _ hm
  have hc : Calls Tryd.prog 8 #[.slice a0 l0 c0, .int .i64 n1] W fun e W' => e = .returned (.bool true) ∧ Kept W W' := by
    have ht := tab_met hL
    refine bridge (fun {i} => ?_)
    subst e0
    obtain ⟨sa0, sc0, hse0, hsm0⟩ := s0.room
    injection hse0 with _ _ hsc0
    subst hsc0
    exact inflatebound_n a0 c0 x0 n1 [blks W] s0.sl hsm0 r0 ht
  refine hc.mono fun e W' ⟨he, bel⟩ => ?_
  subst he
  exact ⟨_, rfl, _, _, _, [], _, [], hW', trodAll_mk1 (shut_bool Tryd.underlying4 _), (trodAll_cons_mk (Kept.trod Tryd.laidOut (by kernel_rfl) (of_decide_eq_true (by kernel_rfl)) h0 bel lt0) (trodAll_cons_mk (shut_int Tryd.underlying3 w1) trodAll_mk0)), rfl, bel.frame _, fun h => by cases h⟩
noncomputable def laidWorld (os : Os) : World :=
  { World.holding Tryd.prog os ⟨#[], #[], []⟩ with heap := (World.holding Tryd.prog os ⟨#[], #[], []⟩).heap.modify 0 fun
      | .cells _ t frozen => .cells (tabZ.map (Value.int .i64)).toArray t frozen
      | o => o }
theorem laid_met (os : Os) : laidMet Tryd.prog Rows.inflateBoundRow.laid ((laidWorld os).forCall (fun _ _ => 0) ⟨#[], #[.slice none 0 0, .int .i64 0], []⟩).memory :=
  laidMet_of_run' 8 (by kernel_rfl) (by kernel_rfl)
theorem reads (os : Os) {H : Type} (enc : TypeId × Value → H) : ∃ places, DataW.whole enc Tryd.prog ((laidWorld os).forCall (fun _ _ => 0) ⟨#[], #[.slice none 0 0, .int .i64 0], []⟩).memory Tryd.f8.params.toList Rows.inflateBoundSpec.vars false #[.slice none 0 0, .int .i64 0].toList 8 = some ([.nil, .lit (.int .i64 0)], [], places) :=
  ⟨[], by kernel_rfl⟩
set_option maxRecDepth 100000 in
theorem top_lifted (os : Os) (started : os.Started) (H : Type) (enc : TypeId × Value → H) (F : Stop.Interp) :
    ReturnsInHanded {} Tryd.checked os 8 .any ((OpenSpec.ofChange Rows.inflateBoundSpec).preRow enc Tryd.prog Tryd.f8 Rows.inflateBoundRow.domain false Rows.inflateBoundRow.laid) (((OpenSpec.ofChange Rows.inflateBoundSpec).at F).post enc Tryd.prog Tryd.f8 false true false false) := by
  obtain ⟨places, hx⟩ := reads os enc
  refine returnsInHanded_of_row (C := Tryd.checked) (s := (OpenSpec.ofChange Rows.inflateBoundSpec)) Tryd.own started (by kernel_rfl) Tryd.func8
    (witness_row_at (enc := enc) (C := Tryd.checked) false (laidWorld os) #[.slice none 0 0, .int .i64 0] rfl (by kernel_rfl) (by kernel_rfl) (by kernel_rfl)
      (OpenSpec.preRow_of_cond 8 hx (by kernel_rfl) (fun k hk => by cases hk) (by kernel_rfl) (laid_met os))) ?_
  intro W base args ds gs before hval hW _ hcond hz hL _ _
  exact top_row H enc W base args ds gs before hval hW hz hL
theorem top_over : Rows.InflateBoundSaid :=
  OpenClaim.holds_of_cond 8 Tryd.f8 rfl rfl rfl rfl rfl rfl rfl ⟨rfl, rfl, rfl, rfl, rfl⟩ rfl rfl rfl rfl rfl (by kernel_rfl) Tryd.func8 (by kernel_rfl)
    (of_decide_eq_true (by kernel_rfl)) (by unfold Func.isWrapper; first | (rw [if_pos (by decide +kernel)]; kernel_rfl) | (rw [if_neg (by decide +kernel)]; exact ⟨rfl, rfl⟩))
    (fun os started H enc _ F => by rw [OpenClaim.pre_eq_preRow]; exact top_lifted os started H enc F)
theorem top_plain (f : FuncId) (fn : Func) (hf : Tryd.pinned.checked.prog.funcNamed "stemma/stemmalaw6.InflateBound" = some f) (hfn : Tryd.pinned.checked.prog.funcs[f]? = some fn) :
    false = Tryd.pinned.checked.prog.looks [] ∧ ∀ (j : Nat) t, fn.params[j]? = some t → Tryd.pinned.checked.prog.wantsStandIn t = false := by
  obtain rfl : f = 8 := Option.some.inj ((show Tryd.prog.funcNamed "stemma/stemmalaw6.InflateBound" = some 8 by kernel_rfl).symm.trans hf) |>.symm
  obtain rfl : fn = Tryd.f8 := (Option.some.inj (Tryd.func8.symm.trans hfn)).symm
  have all : (Tryd.f8.params.toList.all fun t => !Tryd.prog.wantsStandIn t) = true := by kernel_rfl
  refine ⟨by kernel_rfl, fun j t ht => ?_⟩
  have hm : t ∈ Tryd.f8.params.toList := by
    have := Array.mem_of_getElem? ht
    simpa using this
  have := List.all_eq_true.1 all t hm
  show Tryd.prog.wantsStandIn t = false
  simpa using this
theorem top_holds : Rows.InflateBoundCardSaid :=
  Claim7.holds_tied_plain_at .later [] _ _ _ _ top_over (fun _ h => by cases h) (by kernel_rfl) (fun _ h => by cases h) inflateBound_row_tie rfl ⟨rfl, rfl⟩ (by kernel_rfl) rfl top_plain (by kernel_rfl)
end Go.Proofs.YtdcehmhelfohfaaDoor
