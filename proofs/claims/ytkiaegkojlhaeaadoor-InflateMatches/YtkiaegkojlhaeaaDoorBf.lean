/- The document's reader of bits, and bytes taken by the program's. It proves no statement by itself. No conditions. -/
import Derived.Test.YtkiaegkojlhaeaaDoorBd
import Derived.Test.YtkiaegkojlhaeaaDoorBr
namespace Go.Proofs.YtkiaegkojlhaeaaDoor
open Go Go.Vx
variable [W0]
set_option maxRecDepth 4000
set_option linter.all false

omit [W0] in
def byOk (d : List UInt8) (t : Nat) (n : Int) : Bool := decide (0 ≤ n) && decide ((t + 7) / 8 + n.toNat ≤ d.length)
omit [W0] in
def byX (d : List UInt8) (t : Nat) (n : Int) : List UInt8 := if byOk d t n then (d.drop ((t + 7) / 8)).take n.toNat else []
omit [W0] in
def byT (d : List UInt8) (t : Nat) (n : Int) : Nat := if byOk d t n then 8 * ((t + 7) / 8 + n.toNat) else 8 * ((t + 7) / 8)
theorem by_no {d : List UInt8} {t : Nat} {n : Int} (h : n < 0 ∨ d.length < (t + 7) / 8 + n.toNat) : byOk d t n = false ∧ byX d t n = [] ∧ byT d t n = 8 * ((t + 7) / 8) := by
  have e : byOk d t n = false := by simp only [byOk, Bool.and_eq_false_iff, decide_eq_false_iff_not]; omega
  unfold byX byT
  rw [e]
  exact ⟨rfl, rfl, rfl⟩
theorem by_yes {d : List UInt8} {t n : Nat} (h : (t + 7) / 8 + n ≤ d.length) : byOk d t (n : Int) = true ∧ byX d t (n : Int) = (d.drop ((t + 7) / 8)).take n ∧ byT d t (n : Int) = 8 * ((t + 7) / 8 + n) := by
  have e : byOk d t (n : Int) = true := by simp only [byOk, Bool.and_eq_true, decide_eq_true_eq]; omega
  unfold byX byT
  rw [e]
  exact ⟨rfl, rfl, rfl⟩

theorem RdN.full {p q : Nat} {d : List UInt8} {D E : Chunk} (h : RdN p d (8 * q) D E) : q ≤ d.length ∧ ∃ v, D = [(p, cl [v, .int .i64 (q : Int), .int .u64 0, .int .i64 0] 68)] ∧ Ow 5 1 v d.length (bsv d) E := by
  obtain ⟨ht, v, hD, ho⟩ := h
  refine ⟨by omega, v, ?_, ho⟩
  rw [hD, show (8 * q + 7) / 8 = q from by omega]
  unfold rdC
  rw [Nat.sub_self, Nat.pow_zero, Nat.mod_one]
  rfl
theorem RdN.ofFull {p q : Nat} {d : List UInt8} {E : Chunk} {v : Value} (hq : q ≤ d.length) (ho : Ow 5 1 v d.length (bsv d) E) : RdN p d (8 * q) [(p, cl [v, .int .i64 (q : Int), .int .u64 0, .int .i64 0] 68)] E := by
  refine ⟨by omega, v, ?_, ho⟩
  rw [show (8 * q + 7) / 8 = q from by omega]
  unfold rdC
  rw [Nat.sub_self, Nat.pow_zero, Nat.mod_one]
  rfl
set_option maxHeartbeats 2000000 in
theorem btake_n (p t : Nat) (n : Int) (d : List UInt8) (D E : Chunk) (L : List Chunk) (h : BiD p d t D E) (hl : d.length ≤ 140737488355328) :
    Gv Tryd.prog 34 [.pointer (some ⟨p, 0, none⟩), .int .i64 n].toArray (D :: E :: L) (fun r L' =>
      r = .tuple #[.int .u32 ((tkV d t n : Nat) : Int), .bool (tkB d t n)] ∧ ∃ D', BiD p d (tkT d t n) D' E ∧ L' = D' :: E :: L) := by
  refine Gv.of_body Tryd.func34 rfl rfl ?_
  have hb := h
  obtain ⟨ht, v, rfl, ho⟩ := h
  have hno : ∀ M : List (Nat × Value), tkB d t n = false → lk M 4 = some (.int .u32 0) → lk M 5 = some (.bool false) →
      WQ Tryd.f34.ntmps (bodyPost Tryd.prog Tryd.f34 (fun e w' => ∃ v L', e = .returned v ∧ (v = .tuple #[.int .u32 ((tkV d t n : Nat) : Int), .bool (tkB d t n)] ∧ ∃ D', BiD p d (tkT d t n) D' E ∧ L' = D' :: E :: L) ∧ Holds w' L') .ret) M ([(p, cl [v, .int .i64 (t : Int)] 53)] :: E :: L) := by
    intro M hb' h4 h5
    refine WQ_retI (rs := [.tmp 4, .tmp 5]) (vs := [.int .u32 0, .bool false]) rfl (by simp [resT, h4, h5]) ?_
    obtain ⟨e1, e2⟩ := tk_no hb'
    rw [e1, e2, hb']
    exact ⟨_, iC, rfl, _, hb, rfl⟩
  obtain ⟨fa, fc, rfl⟩ := ow_slc ho
  (repeat' (first | (show WL _ _ _ _ _ _ _; first | refine jA ?_ | refine jB ?_ | refine jC ?_ | refine jD ?_ | refine jE ?_ | refine jF ?_) | (show OW _ _ _ _ _ _; first | refine OW_E ?_ | refine jI ?_ | refine jJ ?_ | refine jK (fun bk => ?_) | refine jL (fun bk => ?_)) | (show WC _ _ _ _ _ _; first | refine jM ?_ | refine jN ?_ | refine jO ?_ | refine jP ?_ | refine jR ?_ | refine jS ?_ | refine jT ?_ | refine jU ?_) | (show WQ _ _ _ _; with_reducible first | refine jV ?_ | refine jW ?_ | refine jX ?_ | refine jY ?_ | refine jZ ?_ | refine kA ?_ | refine kB ?_ | refine kC ?_) | ((first | (refine jG (fun hc => ?_) (fun hc => ?_) <;> rw [hc]) | refine jQ (fun hc => ?_) (fun hc => ?_)) <;> (try simp only [nrB] at hc) <;> (try (exfalso; first | omega | exact hc trivial | exact hc rfl)))))
  · exact hno _ (tkB_no (by omega)) rfl rfl
  · exact hno _ (tkB_no (by omega)) rfl rfl
  obtain ⟨m, rfl⟩ : ∃ m : Nat, n = (m : Int) := ⟨n.toNat, by omega⟩
  have hm : m ≤ 32 := by omega
  refine OW_callP rfl rfl rfl (bleft_n p d.length t fa fc _ _ Fnd.here hl ht) rfl ?_
  (repeat' (first | (show WL _ _ _ _ _ _ _; first | refine jA ?_ | refine jB ?_ | refine jC ?_ | refine jD ?_ | refine jE ?_ | refine jF ?_) | (show OW _ _ _ _ _ _; first | refine OW_E ?_ | refine jI ?_ | refine jJ ?_ | refine jK (fun bk => ?_) | refine jL (fun bk => ?_)) | (show WC _ _ _ _ _ _; first | refine jM ?_ | refine jN ?_ | refine jO ?_ | refine jP ?_ | refine jR ?_ | refine jS ?_ | refine jT ?_ | refine jU ?_) | (show WQ _ _ _ _; with_reducible first | refine jV ?_ | refine jW ?_ | refine jX ?_ | refine jY ?_ | refine jZ ?_ | refine kA ?_ | refine kB ?_ | refine kC ?_) | ((first | (refine jG (fun hc => ?_) (fun hc => ?_) <;> rw [hc]) | refine jQ (fun hc => ?_) (fun hc => ?_)) <;> (try simp only [nrB] at hc) <;> (try (exfalso; first | omega | exact hc trivial | exact hc rfl)))))
  · exact hno _ (tkB_no (by omega)) rfl rfl
  obtain ⟨e1, e2⟩ := tk_nat hm (show t + m ≤ 8 * d.length by omega)
  rw [e1, e2, tkB_nat hm (by omega)]
  refine WC_loop (X := Nat × Chunk) (fun x => [(0, .pointer (some ⟨p, 0, none⟩)), (1, .int .i64 (m : Int)), (6, .int .u32 ((val d / 2 ^ t % 2 ^ x.1 : Nat) : Int)), (7, .int .i64 (x.1 : Int))])
    (fun x => x.2 :: E :: L) (fun x => x.1 ≤ m ∧ BiD p d (t + x.1) x.2 E) (fun x => m - x.1) (0, _) ⟨Nat.zero_le _, hb⟩ (Sub.cons rfl (Sub.cons rfl (Sub.cons (by rw [Nat.pow_zero, Nat.mod_one]; rfl) (by repeat (first | exact Sub.nil | refine Sub.cons rfl ?_ | refine Sub.cons (lk_int rfl (by first | omega | (dsimp only; omega))) ?_))))) (fun w h => h) ?_
  intro x ⟨hx1, hx2⟩
  obtain ⟨k, D⟩ := x
  simp only at hx1 hx2 ⊢
  (repeat' (first | (show WL _ _ _ _ _ _ _; first | refine jA ?_ | refine jB ?_ | refine jC ?_ | refine jD ?_ | refine jE ?_ | refine jF ?_) | (show OW _ _ _ _ _ _; first | refine OW_E ?_ | refine jI ?_ | refine jJ ?_ | refine jK (fun bk => ?_) | refine jL (fun bk => ?_)) | (show WC _ _ _ _ _ _; first | refine jM ?_ | refine jN ?_ | refine jO ?_ | refine jP ?_ | refine jR ?_ | refine jS ?_ | refine jT ?_ | refine jU ?_) | (show WQ _ _ _ _; with_reducible first | refine jV ?_ | refine jW ?_ | refine jX ?_ | refine jY ?_ | refine jZ ?_ | refine kA ?_ | refine kB ?_ | refine kC ?_) | ((first | (refine jG (fun hc => ?_) (fun hc => ?_) <;> rw [hc]) | refine jQ (fun hc => ?_) (fun hc => ?_)) <;> (try simp only [nrB] at hc) <;> (try (exfalso; first | omega | exact hc trivial | exact hc rfl)))))
  · have hml : val d / 2 ^ t % 2 ^ k < 2 ^ k := Nat.mod_lt _ (Nat.pow_pos (by decide))
    refine OW_call rfl rfl rfl (bone_n p (t + k) d D E L hx2 hl (by omega)) rfl (fun r L' hp => ?_)
    obtain ⟨rfl, D', hr, rfl⟩ := hp
    have e3 : val d / 2 ^ t % 2 ^ k + val d / 2 ^ (t + k) % 2 * 2 ^ k = val d / 2 ^ t % 2 ^ (k + 1) := by
      rw [Nat.pow_add 2 k 1, Nat.mod_mul, Nat.pow_one, Nat.div_div_eq_div_mul, ← Nat.pow_add, Nat.mul_comm (2 ^ k)]
    have e4 : val d / 2 ^ t % 2 ^ (k + 1) < 2 ^ (k + 1) := Nat.mod_lt _ (Nat.pow_pos (by decide))
    have e5 : 2 ^ (k + 1) ≤ 2 ^ 32 := pow_le (by omega)
    (repeat' (first | (show WL _ _ _ _ _ _ _; first | refine jA ?_ | refine jB ?_ | refine jC ?_ | refine jD ?_ | refine jE ?_ | refine jF ?_) | (show OW _ _ _ _ _ _; first | refine OW_E ?_ | refine jI ?_ | refine jJ ?_ | refine jK (fun bk => ?_) | refine jL (fun bk => ?_)) | (show WC _ _ _ _ _ _; first | refine jM ?_ | refine jN ?_ | refine jO ?_ | refine jP ?_ | refine jR ?_ | refine jS ?_ | refine jT ?_ | refine jU ?_) | (show WQ _ _ _ _; with_reducible first | refine jV ?_ | refine jW ?_ | refine jX ?_ | refine jY ?_ | refine jZ ?_ | refine kA ?_ | refine kB ?_ | refine kC ?_) | ((first | (refine jG (fun hc => ?_) (fun hc => ?_) <;> rw [hc]) | refine jQ (fun hc => ?_) (fun hc => ?_)) <;> (try simp only [nrB] at hc) <;> (try (exfalso; first | omega | exact hc trivial | exact hc rfl)))))
    refine OW_EV (EV_nshl (val d / 2 ^ (t + k) % 2) k rfl rfl rfl rfl rfl (by simp only [IntKind.bits]; omega)) rfl ?_
    (repeat' (first | (show WL _ _ _ _ _ _ _; first | refine jA ?_ | refine jB ?_ | refine jC ?_ | refine jD ?_ | refine jE ?_ | refine jF ?_) | (show OW _ _ _ _ _ _; first | refine OW_E ?_ | refine jI ?_ | refine jJ ?_ | refine jK (fun bk => ?_) | refine jL (fun bk => ?_)) | (show WC _ _ _ _ _ _; first | refine jM ?_ | refine jN ?_ | refine jO ?_ | refine jP ?_ | refine jR ?_ | refine jS ?_ | refine jT ?_ | refine jU ?_) | (show WQ _ _ _ _; with_reducible first | refine jV ?_ | refine jW ?_ | refine jX ?_ | refine jY ?_ | refine jZ ?_ | refine kA ?_ | refine kB ?_ | refine kC ?_) | ((first | (refine jG (fun hc => ?_) (fun hc => ?_) <;> rw [hc]) | refine jQ (fun hc => ?_) (fun hc => ?_)) <;> (try simp only [nrB] at hc) <;> (try (exfalso; first | omega | exact hc trivial | exact hc rfl)))))
    refine OW_EV (EV_nor (val d / 2 ^ t % 2 ^ k) (val d / 2 ^ (t + k) % 2) k rfl rfl rfl rfl rfl hml (by simp only [IntKind.bits]; omega)) rfl ?_
    rw [e3]
    (repeat' (first | (show WL _ _ _ _ _ _ _; first | refine jA ?_ | refine jB ?_ | refine jC ?_ | refine jD ?_ | refine jE ?_ | refine jF ?_) | (show OW _ _ _ _ _ _; first | refine OW_E ?_ | refine jI ?_ | refine jJ ?_ | refine jK (fun bk => ?_) | refine jL (fun bk => ?_)) | (show WC _ _ _ _ _ _; first | refine jM ?_ | refine jN ?_ | refine jO ?_ | refine jP ?_ | refine jR ?_ | refine jS ?_ | refine jT ?_ | refine jU ?_) | (show WQ _ _ _ _; with_reducible first | refine jV ?_ | refine jW ?_ | refine jX ?_ | refine jY ?_ | refine jZ ?_ | refine kA ?_ | refine kB ?_ | refine kC ?_) | ((first | (refine jG (fun hc => ?_) (fun hc => ?_) <;> rw [hc]) | refine jQ (fun hc => ?_) (fun hc => ?_)) <;> (try simp only [nrB] at hc) <;> (try (exfalso; first | omega | exact hc trivial | exact hc rfl)))))
    refine WQ_round (X := Nat × Chunk) (μ := fun x => m - x.1) (x := (k, D)) (k + 1, D') (by simp only; omega) ⟨by simp only; omega, hr⟩ (by repeat (first | exact Sub.nil | refine Sub.cons rfl ?_ | refine Sub.cons (lk_int rfl (by first | omega | (dsimp only; omega))) ?_)) (fun w h => iH h)
  · obtain rfl : k = m := by omega
    (first | refine WQ_retI rfl rfl ?_ | refine WQ_endI rfl rfl ?_)
    exact ⟨_, iC, rfl, D, hx2, rfl⟩

end Go.Proofs.YtkiaegkojlhaeaaDoor
