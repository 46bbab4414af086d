/- Package delta: copies appended. It proves no statement by itself. No conditions. -/
import Derived.Test.YtckelgpocplplaaRv
import Derived.Test.YtckelgpocplplaaRk
namespace Go.Proofs.Ytckelgpocplplaa
open Go Go.Vx Go.Dl
variable [W0]
set_option maxRecDepth 4000
set_option linter.all false
theorem or_bit {m i : Nat} (hm : m < 2 ^ i) (hi : i < 7) : (128 + m) ||| 2 ^ i = 128 + (m + 2 ^ i) := by
  have h7 : 2 ^ (i + 1) ≤ 2 ^ 7 := Nat.pow_le_pow_right (by decide) (by omega)
  have hs := Nat.pow_succ 2 i
  have e1 : 128 + m = m ||| 1 * 2 ^ 7 := by rw [or_add (by omega)]; omega
  have e2 : m ||| 1 * 2 ^ i = m + 1 * 2 ^ i := or_add hm
  have e3 : (m + 1 * 2 ^ i) ||| 1 * 2 ^ 7 = (m + 1 * 2 ^ i) + 1 * 2 ^ 7 := or_add (by omega)
  rw [Nat.one_mul] at e2
  rw [e1, Nat.or_assoc, Nat.or_comm (1 * 2 ^ 7), ← Nat.or_assoc, e2]
  rw [Nat.one_mul] at e3
  rw [e3]
  omega
theorem EV_orBit {P : Program} {n : Nat} {M : List (Nat × Value)} {L : List Chunk} {d : Nat} {ty : TypeId} {ps : String} {af : Array Edge} {g : Option (Nat × Bool)} {x y : Operand} {t u : TypeId} {a b : Int} (m i : Nat) (hx : ev M x = some (.int .u8 a)) (hy : ev M y = some (.int .u8 b)) (ha : a = ((128 + m : Nat) : Int)) (hb : b = ((2 ^ i : Nat) : Int)) (hm : m < 2 ^ i) (hi : i < 7) :
    EV P n ⟨some d, .binOp .or t x y u, ty, ps, af, g⟩ M L d (.int .u8 ((128 + (m + 2 ^ i) : Nat) : Int)) := by
  subst ha hb
  have h7 : 2 ^ (i + 1) ≤ 2 ^ 7 := Nat.pow_le_pow_right (by decide) (by omega)
  have hs := Nat.pow_succ 2 i
  refine EV_bit (op := .or) hx hy ?_
  show some (IntKind.u8.wrap ((BitVec.ofInt 8 ((128 + m : Nat) : Int) ||| BitVec.ofInt 8 ((2 ^ i : Nat) : Int)).toNat : Int)) = _
  rw [BitVec.toNat_or, ofInt_toNat (by omega), ofInt_toNat (by omega), or_bit hm hi, wrap_nat rfl (by simp only [IntKind.bits]; omega)]
theorem getD_mid (pre t : List UInt8) (x : UInt8) : (pre ++ x :: t).getD pre.length 0 = x := by
  simp [List.getD_eq_getElem?_getD]
theorem set_mid (pre t : List UInt8) (x y : UInt8) : (pre ++ x :: t).set pre.length y = pre ++ y :: t := by
  rw [List.set_append_right _ _ (Nat.le_refl _), Nat.sub_self]; rfl
theorem bsv_one (x : UInt8) : bsv [x] = [Value.int .u8 (x.toNat : Int)] := rfl
theorem u8_nat {a : Nat} (h : a < 256) : ((UInt8.ofNat a).toNat : Int) = (a : Int) := by
  rw [byte_mod, Nat.mod_eq_of_lt h]
set_option maxHeartbeats 8000000 in
theorem appendcopy_n (v : Value) (pre : List UInt8) (a n : Nat) (C : Chunk) (L : List Chunk) (ho : Ow 5 1 v pre.length (bsv pre) C) (hpl : pre.length ≤ 1000000000) (ha : a < 4294967296) (hn : n ≤ 65536) :
    Gv Try.prog 28 [v, .int .i64 (a : Int), .int .i64 (n : Int)].toArray (C :: L) (fun r L' => ∃ w C', CpN w a n ∧ Ow 5 1 r (pre ++ cpV w).length (bsv (pre ++ cpV w)) C' ∧ L' = C' :: L) := by
  refine Gv.of_body (args := [v, .int .i64 (a : Int), .int .i64 (n : Int)]) Try.func28 rfl rfl ?_
  obtain ⟨va, vc, rfl⟩ := ow_slc ho
  (repeat' first|refine kW ?_|refine kU fun bk=>?_|refine kV fun hc=>?_|refine kZ (fun hc=>?_) fun hc=>?_|fail)
  refine OW_EV (EV_remN (k := .i64) n 65536 rfl rfl rfl rfl (by decide)) rfl ?_
  (repeat' first|refine kW ?_|refine kU fun bk=>?_|refine kV fun hc=>?_|refine kZ (fun hc=>?_) fun hc=>?_|fail)
  refine OW_EV (EV_nshl (k := .u64) (n % 65536) 32 rfl rfl rfl rfl rfl (by simp only [IntKind.bits]; omega)) rfl ?_
  (repeat' first|refine kW ?_|refine kU fun bk=>?_|refine kV fun hc=>?_|refine kZ (fun hc=>?_) fun hc=>?_|fail)
  refine OW_EV (EV_nor (k := .u64) a (n % 65536) 32 rfl rfl rfl rfl rfl (by omega) (by simp only [IntKind.bits]; omega)) rfl ?_
  obtain ⟨w, hw, hwl⟩ : ∃ w, a + n % 65536 * 2 ^ 32 = w ∧ w < 2 ^ 56 := ⟨_, rfl, by omega⟩
  have hcp : CpN w a n := hw.symm
  rw [hw]
  clear hw
  (repeat' first|refine kW ?_|refine kU fun bk=>?_|refine kV fun hc=>?_|refine kZ (fun hc=>?_) fun hc=>?_|fail)
  refine OW_buildSlice (cs := [.int .u8 128]) rfl (by rfl) (by first | (simp [fillL, patch, Value.cells, zeros]; done) | (simp [fillL, patch, Value.cells, zeros]; rfl)) (by omega) rfl rfl (fun bn => ?_)
  (repeat' first|refine kW ?_|refine kU fun bk=>?_|refine kV fun hc=>?_|refine kZ (fun hc=>?_) fun hc=>?_|fail)
  refine OW_append rfl rfl ho (sl_cells (k := 1) (c := #[.int .u8 128]) (xs := [.int .u8 128]) (m := 1) Fnd.here rfl (by simp)) (by repeat (first | exact Zip.here _ | apply Zip.there)) rfl (by rfl) (by omega) (by simp [maxLen]; omega) rfl (fun v1 C1 h1 _ _ => ?_)
  have h1' : Ow 5 1 v1 (pre ++ UInt8.ofNat (128 + msk 0 w) :: bts 0 w).length (bsv (pre ++ UInt8.ofNat (128 + msk 0 w) :: bts 0 w)) C1 := by
    rw [List.length_append, bsv_append]; exact h1
  clear h1
  (repeat' first|refine kW ?_|refine kU fun bk=>?_|refine kV fun hc=>?_|refine kZ (fun hc=>?_) fun hc=>?_|fail)
  refine WC_loop (X := Nat × Value × Chunk) (fun x => [(0, x.2.1), (7, .int .u64 (w : Int)), (8, .int .i64 (pre.length : Int)), (23, .int .i64 (x.1 : Int))]) (fun x => x.2.2 :: L)
    (fun x => x.1 ≤ 7 ∧ Ow 5 1 x.2.1 (pre ++ UInt8.ofNat (128 + msk x.1 w) :: bts x.1 w).length (bsv (pre ++ UInt8.ofNat (128 + msk x.1 w) :: bts x.1 w)) x.2.2) (fun x => 7 - x.1) (0, v1, C1)
    ⟨Nat.zero_le _, h1'⟩ iS (fun w h => iH h) ?_
  clear h1'
  rintro ⟨i, vq, D⟩ ⟨hi, hq⟩
  simp only at hi hq ⊢
  have hml := msk_lt i w
  have hbl : (bts i w).length ≤ i := by
    have : ∀ k, (bts k w).length ≤ k := by
      intro k
      induction k with
      | zero => simp [bts]
      | succ k ih => have := bts_len1 k w; omega
    exact this i
  (repeat' first|refine kW ?_|refine kU fun bk=>?_|refine kV fun hc=>?_|refine kZ (fun hc=>?_) fun hc=>?_|fail)
  · have hi7 : i < 7 := by omega
    have h7 : 2 ^ (i + 1) ≤ 2 ^ 7 := Nat.pow_le_pow_right (by decide) (by omega)
    have hs := Nat.pow_succ 2 i
    have hby : ((UInt8.ofNat (w / 2 ^ (8 * i))).toNat : Int) = (byN w i : Int) := by rw [byte_mod]; rfl
    have hu : UInt8.ofNat (w / 2 ^ (8 * i)) = UInt8.ofNat (byN w i) := by apply UInt8.toNat_inj.1; simp [byN]
    refine OW_EV (EV_nshr (k := .u64) w (8 * i) rfl rfl rfl (by omega) (by simp only [IntKind.bits]; omega)) rfl ?_
    have hwr : IntKind.u8.wrap ((w / 2 ^ (8 * i) : Nat) : Int) = (byN w i : Int) := by rw [wrap_byte, hby]
    by_cases hz : byN w i = 0
    · have e1 : msk (i + 1) w = msk i w := by rw [msk, if_pos hz]; rfl
      have e2 : bts (i + 1) w = bts i w := by rw [bts, if_pos hz, List.append_nil]
      (repeat' first|refine kW ?_|refine kU fun bk=>?_|refine kV fun hc=>?_|refine kZ (fun hc=>?_) fun hc=>?_|fail)
      refine WQ_round (X := Nat × Value × Chunk) (μ := fun x => 7 - x.1) (x := (i, vq, D)) (i + 1, vq, D) (by simp only; omega) ⟨by simp only; omega, by simp only [e1, e2]; exact hq⟩ iS (fun w h => h)
    · have e1 : msk (i + 1) w = msk i w + 2 ^ i := by rw [msk, if_neg hz]
      have e2 : bts (i + 1) w = bts i w ++ [UInt8.ofNat (w / 2 ^ (8 * i))] := by rw [bts, if_neg hz, hu]
      have hlen : (pre ++ UInt8.ofNat (128 + msk i w) :: bts i w).length = pre.length + 1 + (bts i w).length := by simp; omega
      rw [hlen] at hq
      obtain ⟨b, cap, rest, rfl, rfl, hcell, hlt3, hset⟩ := ow_put hq (k := pre.length) (by omega)
      rw [getD_mid] at hcell
      (repeat' first|refine kW ?_|refine kU fun bk=>?_|refine kV fun hc=>?_|refine kZ (fun hc=>?_) fun hc=>?_|fail)
      rw [wrap_byte]
      refine WC_drawAll [8] mixed ?_
      (refine WR_t 0 ?_; refine WR_t 1 ?_)
      (refine WR_take 2 rfl rfl (by kernel_rfl) iP iC (EV_indexAddr0 (j := pre.length) rfl rfl rfl (by omega)) (by rfl) ?_)
      (refine WR_take 3 rfl rfl (by kernel_rfl) iP iC (EV_load rfl (by repeat (first | assumption | exact Fnd.here | refine Fnd.there ?_)) hcell) (by rfl) ?_)
      (refine WR_t 4 ?_)
      (refine WR_take 5 rfl rfl (by kernel_rfl) iP iC (EV_nshl (k := .u8) 1 i rfl rfl rfl rfl rfl (by simp only [IntKind.bits]; omega)) (by rfl) ?_)
      (refine WR_take 6 rfl rfl (by kernel_rfl) iP iC (EV_orBit (msk i w) i rfl rfl (u8_nat (by omega)) (by rw [Nat.one_mul]) hml hi7) (by rfl) ?_)
      rw [← e1, ← u8_nat (show 128 + msk (i + 1) w < 256 by rw [e1]; omega)]
      (refine WR_take 7 rfl rfl (by kernel_rfl) iP iC (EV_indexAddr0 (j := pre.length) rfl rfl rfl (by omega)) (by rfl) ?_)
      (refine WR_last 8 (by kernel_rfl) rfl rfl rfl ?_)
      refine OW_store rfl rfl rfl iU hlt3 ?_
      (refine WR_done (by kernel_rfl) ?_)
      have hq2 := hset (UInt8.ofNat (128 + msk (i + 1) w))
      rw [set_mid] at hq2
      (repeat' first|refine kW ?_|refine kU fun bk=>?_|refine kV fun hc=>?_|refine kZ (fun hc=>?_) fun hc=>?_|fail)
      refine OW_buildSlice (cs := [.int .u8 ((UInt8.ofNat (w / 2 ^ (8 * i))).toNat : Int)]) rfl (by rfl) (by first | (simp [fillL, patch, Value.cells, zeros]; done) | (simp [fillL, patch, Value.cells, zeros]; rfl)) (by omega) rfl rfl (fun bn2 => ?_)
      (repeat' first|refine kW ?_|refine kU fun bk=>?_|refine kV fun hc=>?_|refine kZ (fun hc=>?_) fun hc=>?_|fail)
      refine OW_append rfl rfl hq2 (sl_cells (k := 1) (c := #[.int .u8 ((UInt8.ofNat (w / 2 ^ (8 * i))).toNat : Int)]) (xs := [.int .u8 ((UInt8.ofNat (w / 2 ^ (8 * i))).toNat : Int)]) (m := 1) Fnd.here rfl (by simp)) (by repeat (first | exact Zip.here _ | apply Zip.there)) rfl (by rfl) (by omega) (by simp [maxLen]; omega) rfl (fun v' C' ho' _ _ => ?_)
      rw [← bsv_one, ← bsv_append, List.append_assoc, List.cons_append, ← e2] at ho'
      (repeat' first|refine kW ?_|refine kU fun bk=>?_|refine kV fun hc=>?_|refine kZ (fun hc=>?_) fun hc=>?_|fail)
      refine WQ_round (X := Nat × Value × Chunk) (μ := fun x => 7 - x.1) (x := (i, .slice (some ⟨b, 0, none⟩) (pre.length + 1 + (bts i w).length) cap, [(b, cl (bsv (pre ++ UInt8.ofNat (128 + msk i w) :: bts i w) ++ rest) 5)])) (i + 1, v', C') (by simp only; omega) ⟨by simp only; omega, ?_⟩ iS (fun w h => iH h)
      simp only
      have hlen2 : (pre ++ UInt8.ofNat (128 + msk (i + 1) w) :: bts (i + 1) w).length = pre.length + 1 + (bts i w).length + 1 := by rw [e2]; simp; omega
      rw [hlen2]
      exact ho'
  · obtain rfl : i = 7 := by omega
    refine kR ?_
    exact ⟨_, iC, w, D, hcp, hq, rfl⟩
end Go.Proofs.Ytckelgpocplplaa
