/- Package bits: what a reader holds; bits and bytes taken. It proves no statement by itself. No conditions. -/
import Derived.Test.YtkiaegkojlhaeaaDoorBb
namespace Go.Proofs.YtkiaegkojlhaeaaDoor
open Go Go.Vx
variable [W0]
set_option maxRecDepth 4000
set_option linter.all false

omit [W0] in
/-- What a reader of the bytes d keeps, of which the bits before t are taken and the bytes before nx are begun. -/
def rdC (v : Value) (d : List UInt8) (t nx : Nat) : List Value := [v, .int .i64 (nx : Int), .int .u64 ((val d / 2 ^ t % 2 ^ (8 * nx - t) : Nat) : Int), .int .i64 ((8 * nx - t : Nat) : Int)]
omit [W0] in
def RdD (p : Nat) (d : List UInt8) (t nx : Nat) (D E : Chunk) : Prop := ∃ v, D = [(p, cl (rdC v d t nx) 68)] ∧ Ow 5 1 v d.length (bsv d) E
omit [W0] in
/-- The same between the calls. -/
def RdN (p : Nat) (d : List UInt8) (t : Nat) (D E : Chunk) : Prop := t ≤ 8 * d.length ∧ RdD p d t ((t + 7) / 8) D E

theorem read_n (b : List UInt8) (v : Value) (L : List Chunk) (hv : Sl L 1 v b.length (bsv b)) (hl : b.length ≤ 140737488355328) :
    Gv Tryd.prog 17 [v].toArray L (fun r L' => ∃ p D E, r = .pointer (some ⟨p, 0, none⟩) ∧ RdN p b 0 D E ∧ L' = D :: E :: L) := by
  refine Gv.of_body Tryd.func17 rfl rfl ?_
  (repeat' (first | (show WL _ _ _ _ _ _ _; first | refine jA ?_ | refine jB ?_ | refine jC ?_ | refine jD ?_ | refine jE ?_ | refine jF ?_) | (show OW _ _ _ _ _ _; first | refine OW_E ?_ | refine jI ?_ | refine jJ ?_ | refine jK (fun bk => ?_) | refine jL (fun bk => ?_)) | (show WC _ _ _ _ _ _; first | refine jM ?_ | refine jN ?_ | refine jO ?_ | refine jP ?_ | refine jR ?_ | refine jS ?_ | refine jT ?_ | refine jU ?_) | (show WQ _ _ _ _; with_reducible first | refine jV ?_ | refine jW ?_ | refine jX ?_ | refine jY ?_ | refine jZ ?_ | refine kA ?_ | refine kB ?_ | refine kC ?_) | ((first | (refine jG (fun hc => ?_) (fun hc => ?_) <;> rw [hc]) | refine jQ (fun hc => ?_) (fun hc => ?_)) <;> (try simp only [nrB] at hc) <;> (try (exfalso; first | omega | exact hc trivial | exact hc rfl)))))
  refine OW_holds (L' := [] :: L) (fun w h => Holds.nil.2 h) ?_
  refine OW_append rfl rfl (.inl ⟨rfl, rfl, rfl, rfl⟩) (sl_there hv) (by repeat (first | exact Zip.here _ | apply Zip.there)) (by rfl) bsv_ones (by omega) (by simp [maxLen]; omega) rfl (fun v' C' ho1 h1 h2 => ?_)
  rw [List.nil_append, Nat.zero_add] at ho1
  obtain ⟨fa, fc, rfl⟩ := ow_slc ho1
  (repeat' (first | (show WL _ _ _ _ _ _ _; first | refine jA ?_ | refine jB ?_ | refine jC ?_ | refine jD ?_ | refine jE ?_ | refine jF ?_) | (show OW _ _ _ _ _ _; first | refine OW_E ?_ | refine jI ?_ | refine jJ ?_ | refine jK (fun bk => ?_) | refine jL (fun bk => ?_)) | (show WC _ _ _ _ _ _; first | refine jM ?_ | refine jN ?_ | refine jO ?_ | refine jP ?_ | refine jR ?_ | refine jS ?_ | refine jT ?_ | refine jU ?_) | (show WQ _ _ _ _; with_reducible first | refine jV ?_ | refine jW ?_ | refine jX ?_ | refine jY ?_ | refine jZ ?_ | refine kA ?_ | refine kB ?_ | refine kC ?_) | ((first | (refine jG (fun hc => ?_) (fun hc => ?_) <;> rw [hc]) | refine jQ (fun hc => ?_) (fun hc => ?_)) <;> (try simp only [nrB] at hc) <;> (try (exfalso; first | omega | exact hc trivial | exact hc rfl)))))
  (first | refine WQ_retI rfl rfl ?_ | refine WQ_endI rfl rfl ?_)
  refine ⟨[(bk, cl (rdC (.slice fa b.length fc) b 0 0) 68)] :: C' :: L, ?_, bk, _, C', rfl, ⟨Nat.zero_le _, _, rfl, ho1⟩, rfl⟩
  have e : ((val b / 2 ^ 0 % 2 ^ (8 * 0 - 0) : Nat) : Int) = 0 := by simp [Nat.mod_one]
  unfold rdC
  rw [e]
  exact iC

theorem left_n (p m nx : Nat) (a : Option Addr) (c : Nat) (w wt : Value) (T : TypeId) (L : List Chunk) (hf : Fnd L p (cl [.slice a m c, .int .i64 (nx : Int), w, wt] T)) (hm : m ≤ 140737488355328) (hn : nx ≤ m) :
    GvP Tryd.prog 73 [.pointer (some ⟨p, 0, none⟩)].toArray L (.int .i64 ((m - nx : Nat) : Int)) := by
  refine Gv.of_body Tryd.func73 rfl rfl ?_
  (repeat' (first | (show WL _ _ _ _ _ _ _; first | refine jA ?_ | refine jB ?_ | refine jC ?_ | refine jD ?_ | refine jE ?_ | refine jF ?_) | (show OW _ _ _ _ _ _; first | refine OW_E ?_ | refine jI ?_ | refine jJ ?_ | refine jK (fun bk => ?_) | refine jL (fun bk => ?_)) | (show WC _ _ _ _ _ _; first | refine jM ?_ | refine jN ?_ | refine jO ?_ | refine jP ?_ | refine jR ?_ | refine jS ?_ | refine jT ?_ | refine jU ?_) | (show WQ _ _ _ _; with_reducible first | refine jV ?_ | refine jW ?_ | refine jX ?_ | refine jY ?_ | refine jZ ?_ | refine kA ?_ | refine kB ?_ | refine kC ?_) | ((first | (refine jG (fun hc => ?_) (fun hc => ?_) <;> rw [hc]) | refine jQ (fun hc => ?_) (fun hc => ?_)) <;> (try simp only [nrB] at hc) <;> (try (exfalso; first | omega | exact hc trivial | exact hc rfl)))))
  refine WC_drawAll [] mixed ?_
  (refine WR_t 0 ?_; refine WR_t 1 ?_; refine WR_t 2 ?_; refine WR_t 3 ?_; refine WR_t 4 ?_; refine WR_t 5 ?_; refine WR_t 6 ?_; refine WR_t 7 ?_; refine WR_t 8 ?_; refine WR_t 9 ?_)
  rw [show (m : Int) - (nx : Int) = ((m - nx : Nat) : Int) from by omega]
  (refine WR_t 10 ?_)
  (refine WR_done (by kernel_rfl) ?_)
  (repeat' (first | (show WL _ _ _ _ _ _ _; first | refine jA ?_ | refine jB ?_ | refine jC ?_ | refine jD ?_ | refine jE ?_ | refine jF ?_) | (show OW _ _ _ _ _ _; first | refine OW_E ?_ | refine jI ?_ | refine jJ ?_ | refine jK (fun bk => ?_) | refine jL (fun bk => ?_)) | (show WC _ _ _ _ _ _; first | refine jM ?_ | refine jN ?_ | refine jO ?_ | refine jP ?_ | refine jR ?_ | refine jS ?_ | refine jT ?_ | refine jU ?_) | (show WQ _ _ _ _; with_reducible first | refine jV ?_ | refine jW ?_ | refine jX ?_ | refine jY ?_ | refine jZ ?_ | refine kA ?_ | refine kB ?_ | refine kC ?_) | ((first | (refine jG (fun hc => ?_) (fun hc => ?_) <;> rw [hc]) | refine jQ (fun hc => ?_) (fun hc => ?_)) <;> (try simp only [nrB] at hc) <;> (try (exfalso; first | omega | exact hc trivial | exact hc rfl)))))
  ((first | refine WQ_retI rfl rfl ?_ | refine WQ_endI rfl rfl ?_); exact ⟨_, iC, rfl, rfl⟩)
theorem used_n (p nx : Nat) (v w wt : Value) (T : TypeId) (L : List Chunk) (hf : Fnd L p (cl [v, .int .i64 (nx : Int), w, wt] T)) :
    GvP Tryd.prog 19 [.pointer (some ⟨p, 0, none⟩)].toArray L (.int .i64 (nx : Int)) := by
  refine Gv.of_body Tryd.func19 rfl rfl ?_
  (repeat' (first | (show WL _ _ _ _ _ _ _; first | refine jA ?_ | refine jB ?_ | refine jC ?_ | refine jD ?_ | refine jE ?_ | refine jF ?_) | (show OW _ _ _ _ _ _; first | refine OW_E ?_ | refine jI ?_ | refine jJ ?_ | refine jK (fun bk => ?_) | refine jL (fun bk => ?_)) | (show WC _ _ _ _ _ _; first | refine jM ?_ | refine jN ?_ | refine jO ?_ | refine jP ?_ | refine jR ?_ | refine jS ?_ | refine jT ?_ | refine jU ?_) | (show WQ _ _ _ _; with_reducible first | refine jV ?_ | refine jW ?_ | refine jX ?_ | refine jY ?_ | refine jZ ?_ | refine kA ?_ | refine kB ?_ | refine kC ?_) | ((first | (refine jG (fun hc => ?_) (fun hc => ?_) <;> rw [hc]) | refine jQ (fun hc => ?_) (fun hc => ?_)) <;> (try simp only [nrB] at hc) <;> (try (exfalso; first | omega | exact hc trivial | exact hc rfl)))))
  ((first | refine WQ_retI rfl rfl ?_ | refine WQ_endI rfl rfl ?_); exact ⟨_, iC, rfl, rfl⟩)
theorem bytesOf_n (n : Int) (m : Nat) (L : List Chunk) (h : n + 7 = (m : Int)) (hm : m ≤ 1000) : GvP Tryd.prog 72 [.int .i64 n].toArray L (.int .i64 ((m / 8 : Nat) : Int)) := by
  refine Gv.of_body Tryd.func72 rfl rfl ?_
  (repeat' (first | (show WL _ _ _ _ _ _ _; first | refine jA ?_ | refine jB ?_ | refine jC ?_ | refine jD ?_ | refine jE ?_ | refine jF ?_) | (show OW _ _ _ _ _ _; first | refine OW_E ?_ | refine jI ?_ | refine jJ ?_ | refine jK (fun bk => ?_) | refine jL (fun bk => ?_)) | (show WC _ _ _ _ _ _; first | refine jM ?_ | refine jN ?_ | refine jO ?_ | refine jP ?_ | refine jR ?_ | refine jS ?_ | refine jT ?_ | refine jU ?_) | (show WQ _ _ _ _; with_reducible first | refine jV ?_ | refine jW ?_ | refine jX ?_ | refine jY ?_ | refine jZ ?_ | refine kA ?_ | refine kB ?_ | refine kC ?_) | ((first | (refine jG (fun hc => ?_) (fun hc => ?_) <;> rw [hc]) | refine jQ (fun hc => ?_) (fun hc => ?_)) <;> (try simp only [nrB] at hc) <;> (try (exfalso; first | omega | exact hc trivial | exact hc rfl)))))
  refine OW_EV (EV_quoN m 8 rfl rfl (by omega) rfl (by decide) (by omega)) rfl ?_
  (repeat' (first | (show WL _ _ _ _ _ _ _; first | refine jA ?_ | refine jB ?_ | refine jC ?_ | refine jD ?_ | refine jE ?_ | refine jF ?_) | (show OW _ _ _ _ _ _; first | refine OW_E ?_ | refine jI ?_ | refine jJ ?_ | refine jK (fun bk => ?_) | refine jL (fun bk => ?_)) | (show WC _ _ _ _ _ _; first | refine jM ?_ | refine jN ?_ | refine jO ?_ | refine jP ?_ | refine jR ?_ | refine jS ?_ | refine jT ?_ | refine jU ?_) | (show WQ _ _ _ _; with_reducible first | refine jV ?_ | refine jW ?_ | refine jX ?_ | refine jY ?_ | refine jZ ?_ | refine kA ?_ | refine kB ?_ | refine kC ?_) | ((first | (refine jG (fun hc => ?_) (fun hc => ?_) <;> rw [hc]) | refine jQ (fun hc => ?_) (fun hc => ?_)) <;> (try simp only [nrB] at hc) <;> (try (exfalso; first | omega | exact hc trivial | exact hc rfl)))))
  ((first | refine WQ_retI rfl rfl ?_ | refine WQ_endI rfl rfl ?_); exact ⟨_, iC, rfl, rfl⟩)
theorem ralign_n (p t : Nat) (d : List UInt8) (D E : Chunk) (L : List Chunk) (h : RdN p d t D E) :
    Gv Tryd.prog 54 [.pointer (some ⟨p, 0, none⟩)].toArray (D :: E :: L) (fun r L' => r = .tuple #[] ∧ ∃ D', RdN p d (8 * ((t + 7) / 8)) D' E ∧ L' = D' :: E :: L) := by
  obtain ⟨ht, v, rfl, ho⟩ := h
  refine Gv.of_body Tryd.func54 rfl rfl ?_
  unfold rdC
  (repeat' (first | (show WL _ _ _ _ _ _ _; first | refine jA ?_ | refine jB ?_ | refine jC ?_ | refine jD ?_ | refine jE ?_ | refine jF ?_) | (show OW _ _ _ _ _ _; first | refine OW_E ?_ | refine jI ?_ | refine jJ ?_ | refine jK (fun bk => ?_) | refine jL (fun bk => ?_)) | (show WC _ _ _ _ _ _; first | refine jM ?_ | refine jN ?_ | refine jO ?_ | refine jP ?_ | refine jR ?_ | refine jS ?_ | refine jT ?_ | refine jU ?_) | (show WQ _ _ _ _; with_reducible first | refine jV ?_ | refine jW ?_ | refine jX ?_ | refine jY ?_ | refine jZ ?_ | refine kA ?_ | refine kB ?_ | refine kC ?_) | ((first | (refine jG (fun hc => ?_) (fun hc => ?_) <;> rw [hc]) | refine jQ (fun hc => ?_) (fun hc => ?_)) <;> (try simp only [nrB] at hc) <;> (try (exfalso; first | omega | exact hc trivial | exact hc rfl)))))
  (first | refine WQ_retI rfl rfl ?_ | refine WQ_endI rfl rfl ?_)
  obtain ⟨q, hq⟩ : ∃ q, q = (t + 7) / 8 := ⟨_, rfl⟩
  rw [← hq]
  refine ⟨[(p, cl (rdC v d (8 * q) q) 68)] :: E :: L, ?_, rfl, _, ⟨by omega, v, by rw [show (8 * q + 7) / 8 = q from by omega], ho⟩, rfl⟩
  have e : ((val d / 2 ^ (8 * q) % 2 ^ (8 * q - 8 * q) : Nat) : Int) = 0 := by rw [Nat.sub_self]; simp [Nat.mod_one]
  unfold rdC
  rw [e, Nat.sub_self]
  exact iC

theorem rd_step {d : List UInt8} {t w i : Nat} (hw : t + w = 8 * i) (hi : i < d.length) : val d / 2 ^ t % 2 ^ w + (d.getD i 0).toNat * 2 ^ w = val d / 2 ^ t % 2 ^ (w + 8) := by
  rw [Nat.pow_add, Nat.mod_mul, Nat.div_div_eq_div_mul, ← Nat.pow_add, hw, Nat.mul_comm (2 ^ w)]
  have := val_get d i hi
  rw [show (2 : Nat) ^ 8 = 256 from rfl, this]

set_option maxHeartbeats 2000000 in
theorem collect_n (p t n : Nat) (d : List UInt8) (D E : Chunk) (L : List Chunk) (h : RdN p d t D E) (hn : n ≤ 32) (hl : d.length ≤ 140737488355328) :
    Gv Tryd.prog 60 [.pointer (some ⟨p, 0, none⟩), .int .i64 (n : Int)].toArray (D :: E :: L) (fun r L' =>
      (t + n ≤ 8 * d.length ∧ r = .bool true ∧ ∃ D', RdD p d t ((t + 7) / 8 + (n + 7 - (8 * ((t + 7) / 8) - t)) / 8) D' E ∧ L' = D' :: E :: L) ∨ (8 * d.length < t + n ∧ r = .bool false ∧ L' = D :: E :: L)) := by
  obtain ⟨ht, v, rfl, ho⟩ := h
  refine Gv.of_body Tryd.func60 rfl rfl ?_
  obtain ⟨fa, fc, rfl⟩ := ow_slc ho
  obtain ⟨nx, hnx⟩ : ∃ nx, nx = (t + 7) / 8 := ⟨_, rfl⟩
  rw [← hnx]
  obtain ⟨nd, hnd⟩ : ∃ nd, nd = (n + 7 - (8 * nx - t)) / 8 := ⟨_, rfl⟩
  rw [← hnd]
  unfold rdC
  (repeat' (first | (show WL _ _ _ _ _ _ _; first | refine jA ?_ | refine jB ?_ | refine jC ?_ | refine jD ?_ | refine jE ?_ | refine jF ?_) | (show OW _ _ _ _ _ _; first | refine OW_E ?_ | refine jI ?_ | refine jJ ?_ | refine jK (fun bk => ?_) | refine jL (fun bk => ?_)) | (show WC _ _ _ _ _ _; first | refine jM ?_ | refine jN ?_ | refine jO ?_ | refine jP ?_ | refine jR ?_ | refine jS ?_ | refine jT ?_ | refine jU ?_) | (show WQ _ _ _ _; with_reducible first | refine jV ?_ | refine jW ?_ | refine jX ?_ | refine jY ?_ | refine jZ ?_ | refine kA ?_ | refine kB ?_ | refine kC ?_) | ((first | (refine jG (fun hc => ?_) (fun hc => ?_) <;> rw [hc]) | refine jQ (fun hc => ?_) (fun hc => ?_)) <;> (try simp only [nrB] at hc) <;> (try (exfalso; first | omega | exact hc trivial | exact hc rfl)))))
  refine OW_callP rfl rfl rfl (bytesOf_n _ (n + 7 - (8 * nx - t)) _ (by omega) (by omega)) rfl ?_
  rw [← hnd]
  (repeat' (first | (show WL _ _ _ _ _ _ _; first | refine jA ?_ | refine jB ?_ | refine jC ?_ | refine jD ?_ | refine jE ?_ | refine jF ?_) | (show OW _ _ _ _ _ _; first | refine OW_E ?_ | refine jI ?_ | refine jJ ?_ | refine jK (fun bk => ?_) | refine jL (fun bk => ?_)) | (show WC _ _ _ _ _ _; first | refine jM ?_ | refine jN ?_ | refine jO ?_ | refine jP ?_ | refine jR ?_ | refine jS ?_ | refine jT ?_ | refine jU ?_) | (show WQ _ _ _ _; with_reducible first | refine jV ?_ | refine jW ?_ | refine jX ?_ | refine jY ?_ | refine jZ ?_ | refine kA ?_ | refine kB ?_ | refine kC ?_) | ((first | (refine jG (fun hc => ?_) (fun hc => ?_) <;> rw [hc]) | refine jQ (fun hc => ?_) (fun hc => ?_)) <;> (try simp only [nrB] at hc) <;> (try (exfalso; first | omega | exact hc trivial | exact hc rfl)))))
  refine OW_callP rfl rfl rfl (left_n p d.length nx fa fc _ _ _ _ Fnd.here hl (by omega)) rfl ?_
  (repeat' (first | (show WL _ _ _ _ _ _ _; first | refine jA ?_ | refine jB ?_ | refine jC ?_ | refine jD ?_ | refine jE ?_ | refine jF ?_) | (show OW _ _ _ _ _ _; first | refine OW_E ?_ | refine jI ?_ | refine jJ ?_ | refine jK (fun bk => ?_) | refine jL (fun bk => ?_)) | (show WC _ _ _ _ _ _; first | refine jM ?_ | refine jN ?_ | refine jO ?_ | refine jP ?_ | refine jR ?_ | refine jS ?_ | refine jT ?_ | refine jU ?_) | (show WQ _ _ _ _; with_reducible first | refine jV ?_ | refine jW ?_ | refine jX ?_ | refine jY ?_ | refine jZ ?_ | refine kA ?_ | refine kB ?_ | refine kC ?_) | ((first | (refine jG (fun hc => ?_) (fun hc => ?_) <;> rw [hc]) | refine jQ (fun hc => ?_) (fun hc => ?_)) <;> (try simp only [nrB] at hc) <;> (try (exfalso; first | omega | exact hc trivial | exact hc rfl)))))
  · (first | refine WQ_retI rfl rfl ?_ | refine WQ_endI rfl rfl ?_)
    exact ⟨_, iC, .inr ⟨by omega, rfl, rfl⟩⟩
  · refine WC_loop (X := Nat) (fun k => [(0, .pointer (some ⟨p, 0, none⟩)), (17, .int .i64 (nd : Int)), (18, .int .i64 (k : Int))])
      (fun k => [(p, cl (rdC (.slice fa d.length fc) d t (nx + k)) 68)] :: E :: L) (fun k => k ≤ nd) (fun k => nd - k) 0 (Nat.zero_le _) (by repeat (first | exact Sub.nil | refine Sub.cons rfl ?_ | refine Sub.cons (lk_int rfl (by first | omega | (dsimp only; omega))) ?_)) (fun w h => h) ?_
    intro k hk
    unfold rdC
    obtain ⟨wt, hwt⟩ : ∃ wt, wt = 8 * (nx + k) - t := ⟨_, rfl⟩
    rw [← hwt]
    (repeat' (first | (show WL _ _ _ _ _ _ _; first | refine jA ?_ | refine jB ?_ | refine jC ?_ | refine jD ?_ | refine jE ?_ | refine jF ?_) | (show OW _ _ _ _ _ _; first | refine OW_E ?_ | refine jI ?_ | refine jJ ?_ | refine jK (fun bk => ?_) | refine jL (fun bk => ?_)) | (show WC _ _ _ _ _ _; first | refine jM ?_ | refine jN ?_ | refine jO ?_ | refine jP ?_ | refine jR ?_ | refine jS ?_ | refine jT ?_ | refine jU ?_) | (show WQ _ _ _ _; with_reducible first | refine jV ?_ | refine jW ?_ | refine jX ?_ | refine jY ?_ | refine jZ ?_ | refine kA ?_ | refine kB ?_ | refine kC ?_) | ((first | (refine jG (fun hc => ?_) (fun hc => ?_) <;> rw [hc]) | refine jQ (fun hc => ?_) (fun hc => ?_)) <;> (try simp only [nrB] at hc) <;> (try (exfalso; first | omega | exact hc trivial | exact hc rfl)))))
    · obtain ⟨b, cap, rest, hve, rfl, hcell⟩ := ow_byte ho (k := nx + k) (by omega)
      injection hve with e1 e2 e3
      subst e1 e3
      clear e2
      have hwl : wt < 32 := by omega
      have hp := pow_le (Nat.le_of_lt hwl)
      have hml : val d / 2 ^ t % 2 ^ wt < 2 ^ wt := Nat.mod_lt _ (Nat.pow_pos (by decide))
      have hbl := (d.getD (nx + k) 0).toNat_lt
      have hst := rd_step (d := d) (t := t) (w := wt) (i := nx + k) (by omega) (by omega)
      obtain ⟨x, hx⟩ : ∃ x, x = (d.getD (nx + k) 0).toNat := ⟨_, rfl⟩
      rw [← hx] at hcell hbl hst
      have hxm : x * 2 ^ wt ≤ 255 * 2 ^ 32 := Nat.mul_le_mul (by omega) hp
      refine WC_drawAll [23] mixed ?_
      (refine WR_t 0 ?_; refine WR_t 1 ?_; refine WR_t 2 ?_; refine WR_t 3 ?_; refine WR_t 4 ?_; refine WR_t 5 ?_; refine WR_t 6 ?_; refine WR_t 7 ?_; refine WR_t 8 ?_; refine WR_t 9 ?_; refine WR_t 10 ?_; refine WR_t 11 ?_)
      (refine WR_take 12 rfl rfl (by kernel_rfl) (by repeat (first | with_reducible exact PO.body | with_reducible exact RP_po | with_reducible refine PO.then ?_ | with_reducible refine PO.block ?_)) iC (EV_indexAddr0 rfl rfl rfl (by omega)) (by rfl) ?_)
      (refine WR_take 13 rfl rfl (by kernel_rfl) (by repeat (first | with_reducible exact PO.body | with_reducible exact RP_po | with_reducible refine PO.then ?_ | with_reducible refine PO.block ?_)) iC (EV_load rfl (Fnd.there Fnd.here) hcell) (by rfl) ?_)
      (refine WR_take 14 rfl rfl (by kernel_rfl) (by repeat (first | with_reducible exact PO.body | with_reducible exact RP_po | with_reducible refine PO.then ?_ | with_reducible refine PO.block ?_)) iC (EV_nconv x rfl rfl rfl (by simp only [IntKind.bits]; omega)) (by rfl) ?_)
      (refine WR_t 15 ?_; refine WR_t 16 ?_; refine WR_t 17 ?_; refine WR_t 18 ?_)
      (refine WR_take 19 rfl rfl (by kernel_rfl) (by repeat (first | with_reducible exact PO.body | with_reducible exact RP_po | with_reducible refine PO.then ?_ | with_reducible refine PO.block ?_)) iC (EV_nshl x wt rfl rfl rfl rfl rfl (by simp only [IntKind.bits]; omega)) (by rfl) ?_)
      (refine WR_take 20 rfl rfl (by kernel_rfl) (by repeat (first | with_reducible exact PO.body | with_reducible exact RP_po | with_reducible refine PO.then ?_ | with_reducible refine PO.block ?_)) iC (EV_nor (val d / 2 ^ t % 2 ^ wt) x wt rfl rfl rfl rfl rfl hml (by simp only [IntKind.bits]; omega)) (by rfl) ?_)
      rw [hst]
      (refine WR_t 21 ?_; refine WR_t 22 ?_)
      (refine WR_last 23 (by kernel_rfl) rfl rfl rfl ?_)
      refine OW_store rfl rfl rfl (by repeat (first | exact Upd.here | apply Upd.there)) (by simp) ?_
      (refine WR_done (by kernel_rfl) ?_)
      (repeat' (first | (show WL _ _ _ _ _ _ _; first | refine jA ?_ | refine jB ?_ | refine jC ?_ | refine jD ?_ | refine jE ?_ | refine jF ?_) | (show OW _ _ _ _ _ _; first | refine OW_E ?_ | refine jI ?_ | refine jJ ?_ | refine jK (fun bk => ?_) | refine jL (fun bk => ?_)) | (show WC _ _ _ _ _ _; first | refine jM ?_ | refine jN ?_ | refine jO ?_ | refine jP ?_ | refine jR ?_ | refine jS ?_ | refine jT ?_ | refine jU ?_) | (show WQ _ _ _ _; with_reducible first | refine jV ?_ | refine jW ?_ | refine jX ?_ | refine jY ?_ | refine jZ ?_ | refine kA ?_ | refine kB ?_ | refine kC ?_) | ((first | (refine jG (fun hc => ?_) (fun hc => ?_) <;> rw [hc]) | refine jQ (fun hc => ?_) (fun hc => ?_)) <;> (try simp only [nrB] at hc) <;> (try (exfalso; first | omega | exact hc trivial | exact hc rfl)))))
      refine WQ_round (X := Nat) (μ := fun k => nd - k) (x := k) (k + 1) (by omega) (by omega) (by repeat (first | exact Sub.nil | refine Sub.cons rfl ?_ | refine Sub.cons (lk_int rfl (by first | omega | (dsimp only; omega))) ?_)) ?_
      rw [show 8 * (nx + (k + 1)) - t = wt + 8 from by omega, show ((wt + 8 : Nat) : Int) = (wt : Int) + 8 from by omega, show ((nx + (k + 1) : Nat) : Int) = ((nx + k : Nat) : Int) + 1 from by omega]
      exact fun w h => iH h
    · have hk2 : k = nd := by omega
      subst hk2
      (first | refine WQ_retI rfl rfl ?_ | refine WQ_endI rfl rfl ?_)
      rw [hwt]
      exact ⟨_, iC, .inl ⟨by omega, rfl, _, ⟨_, rfl, ho⟩, rfl⟩⟩

omit [W0] in
/-- What a taking does: whether, what, and where the reader stands. -/
def tkB (d : List UInt8) (t : Nat) (n : Int) : Bool := decide (0 ≤ n) && decide (n ≤ 32) && decide (t + n.toNat ≤ 8 * d.length)
omit [W0] in
def tkV (d : List UInt8) (t : Nat) (n : Int) : Nat := if tkB d t n then val d / 2 ^ t % 2 ^ n.toNat else 0
omit [W0] in
def tkT (d : List UInt8) (t : Nat) (n : Int) : Nat := if tkB d t n then t + n.toNat else t
theorem tkB_nat {d : List UInt8} {t n : Nat} (h : n ≤ 32) (h2 : t + n ≤ 8 * d.length) : tkB d t (n : Int) = true := by
  simp only [tkB, Bool.and_eq_true, decide_eq_true_eq]; omega
theorem tkB_no {d : List UInt8} {t : Nat} {n : Int} (h : n < 0 ∨ 32 < n ∨ 8 * d.length < t + n.toNat) : tkB d t n = false := by
  simp only [tkB, Bool.and_eq_false_iff, decide_eq_false_iff_not]; omega
theorem tk_nat {d : List UInt8} {t n : Nat} (h : n ≤ 32) (h2 : t + n ≤ 8 * d.length) : tkV d t (n : Int) = val d / 2 ^ t % 2 ^ n ∧ tkT d t (n : Int) = t + n := by
  unfold tkV tkT
  rw [tkB_nat h h2]
  exact ⟨rfl, rfl⟩
theorem tk_no {d : List UInt8} {t : Nat} {n : Int} (h : tkB d t n = false) : tkV d t n = 0 ∧ tkT d t n = t := by
  unfold tkV tkT
  rw [h]
  exact ⟨rfl, rfl⟩

set_option maxHeartbeats 2000000 in
theorem take_n (p t : Nat) (n : Int) (d : List UInt8) (D E : Chunk) (L : List Chunk) (h : RdN p d t D E) (hl : d.length ≤ 140737488355328) :
    Gv Tryd.prog 48 [.pointer (some ⟨p, 0, none⟩), .int .i64 n].toArray (D :: E :: L) (fun r L' =>
      r = .tuple #[.int .u32 ((tkV d t n : Nat) : Int), .bool (tkB d t n)] ∧ ∃ D', RdN p d (tkT d t n) D' E ∧ L' = D' :: E :: L) := by
  refine Gv.of_body Tryd.func48 rfl rfl ?_
  have hno : ∀ M : List (Nat × Value), tkB d t n = false → lk M 4 = some (.int .u32 0) → lk M 5 = some (.bool false) →
      WQ Tryd.f48.ntmps (bodyPost Tryd.prog Tryd.f48 (fun e w' => ∃ v L', e = .returned v ∧ (v = .tuple #[.int .u32 ((tkV d t n : Nat) : Int), .bool (tkB d t n)] ∧ ∃ D', RdN p d (tkT d t n) D' E ∧ L' = D' :: E :: L) ∧ Holds w' L') .ret) M (D :: E :: L) := by
    intro M hb h4 h5
    refine WQ_retI (rs := [.tmp 4, .tmp 5]) (vs := [.int .u32 0, .bool false]) rfl (by simp [resT, h4, h5]) ?_
    obtain ⟨e1, e2⟩ := tk_no hb
    rw [e1, e2, hb]
    exact ⟨_, iC, rfl, D, h, rfl⟩
  (repeat' (first | (show WL _ _ _ _ _ _ _; first | refine jA ?_ | refine jB ?_ | refine jC ?_ | refine jD ?_ | refine jE ?_ | refine jF ?_) | (show OW _ _ _ _ _ _; first | refine OW_E ?_ | refine jI ?_ | refine jJ ?_ | refine jK (fun bk => ?_) | refine jL (fun bk => ?_)) | (show WC _ _ _ _ _ _; first | refine jM ?_ | refine jN ?_ | refine jO ?_ | refine jP ?_ | refine jR ?_ | refine jS ?_ | refine jT ?_ | refine jU ?_) | (show WQ _ _ _ _; with_reducible first | refine jV ?_ | refine jW ?_ | refine jX ?_ | refine jY ?_ | refine jZ ?_ | refine kA ?_ | refine kB ?_ | refine kC ?_) | ((first | (refine jG (fun hc => ?_) (fun hc => ?_) <;> rw [hc]) | refine jQ (fun hc => ?_) (fun hc => ?_)) <;> (try simp only [nrB] at hc) <;> (try (exfalso; first | omega | exact hc trivial | exact hc rfl)))))
  · exact hno _ (tkB_no (by omega)) rfl rfl
  · exact hno _ (tkB_no (by omega)) rfl rfl
  obtain ⟨m, rfl⟩ : ∃ m : Nat, n = (m : Int) := ⟨n.toNat, by omega⟩
  have hm : m ≤ 32 := by omega
  refine OW_call rfl rfl rfl (collect_n p t m d D E L h hm hl) rfl (fun r L' hp => ?_)
  obtain ⟨hfit, rfl, D', ⟨v, rfl, ho⟩, rfl⟩ | ⟨hfit, rfl, rfl⟩ := hp
  · obtain ⟨e1, e2⟩ := tk_nat hm hfit
    rw [e1, e2, tkB_nat hm hfit]
    have hnx : (t + 7) / 8 + (m + 7 - (8 * ((t + 7) / 8) - t)) / 8 = (t + m + 7) / 8 := by omega
    rw [hnx]
    obtain ⟨nx, hq⟩ : ∃ nx, nx = (t + m + 7) / 8 := ⟨_, rfl⟩
    rw [← hq]
    obtain ⟨wt, hwt⟩ : ∃ wt, wt = 8 * nx - t := ⟨_, rfl⟩
    unfold rdC
    rw [← hwt]
    have hml : val d / 2 ^ t % 2 ^ wt < 2 ^ wt := Nat.mod_lt _ (Nat.pow_pos (by decide))
    have hp := pow_le (show wt ≤ 40 by omega)
    have hp2 := pow_le hm
    have hp3 : val d / 2 ^ t % 2 ^ wt % 2 ^ m < 2 ^ m := Nat.mod_lt _ (Nat.pow_pos (by decide))
    (repeat' (first | (show WL _ _ _ _ _ _ _; first | refine jA ?_ | refine jB ?_ | refine jC ?_ | refine jD ?_ | refine jE ?_ | refine jF ?_) | (show OW _ _ _ _ _ _; first | refine OW_E ?_ | refine jI ?_ | refine jJ ?_ | refine jK (fun bk => ?_) | refine jL (fun bk => ?_)) | (show WC _ _ _ _ _ _; first | refine jM ?_ | refine jN ?_ | refine jO ?_ | refine jP ?_ | refine jR ?_ | refine jS ?_ | refine jT ?_ | refine jU ?_) | (show WQ _ _ _ _; with_reducible first | refine jV ?_ | refine jW ?_ | refine jX ?_ | refine jY ?_ | refine jZ ?_ | refine kA ?_ | refine kB ?_ | refine kC ?_) | ((first | (refine jG (fun hc => ?_) (fun hc => ?_) <;> rw [hc]) | refine jQ (fun hc => ?_) (fun hc => ?_)) <;> (try simp only [nrB] at hc) <;> (try (exfalso; first | omega | exact hc trivial | exact hc rfl)))))
    refine WC_drawAll [] mixed ?_
    (refine WR_t 0 ?_; refine WR_t 1 ?_; refine WR_t 2 ?_; refine WR_t 3 ?_; refine WR_t 4 ?_)
    (refine WR_one 5 (by kernel_rfl) rfl rfl ?_)
    refine OW_callP rfl rfl rfl (lowest_n m _ hm) rfl ?_
    refine ⟨iC, ?_⟩
    (refine WR_take 6 rfl rfl (by kernel_rfl) (by repeat (first | with_reducible exact PO.body | with_reducible exact RP_po | with_reducible refine PO.then ?_ | with_reducible refine PO.block ?_)) iC (EV_nand (val d / 2 ^ t % 2 ^ wt) m rfl rfl rfl rfl rfl (by simp only [IntKind.bits]; omega) (by simp only [IntKind.bits]; omega)) (by rfl) ?_)
    (refine WR_t 7 ?_)
    (refine WR_done (by kernel_rfl) ?_)
    (repeat' (first | (show WL _ _ _ _ _ _ _; first | refine jA ?_ | refine jB ?_ | refine jC ?_ | refine jD ?_ | refine jE ?_ | refine jF ?_) | (show OW _ _ _ _ _ _; first | refine OW_E ?_ | refine jI ?_ | refine jJ ?_ | refine jK (fun bk => ?_) | refine jL (fun bk => ?_)) | (show WC _ _ _ _ _ _; first | refine jM ?_ | refine jN ?_ | refine jO ?_ | refine jP ?_ | refine jR ?_ | refine jS ?_ | refine jT ?_ | refine jU ?_) | (show WQ _ _ _ _; with_reducible first | refine jV ?_ | refine jW ?_ | refine jX ?_ | refine jY ?_ | refine jZ ?_ | refine kA ?_ | refine kB ?_ | refine kC ?_) | ((first | (refine jG (fun hc => ?_) (fun hc => ?_) <;> rw [hc]) | refine jQ (fun hc => ?_) (fun hc => ?_)) <;> (try simp only [nrB] at hc) <;> (try (exfalso; first | omega | exact hc trivial | exact hc rfl)))))
    refine OW_EV (EV_nshr (val d / 2 ^ t % 2 ^ wt) m rfl rfl rfl rfl (by simp only [IntKind.bits]; omega)) rfl ?_
    (repeat' (first | (show WL _ _ _ _ _ _ _; first | refine jA ?_ | refine jB ?_ | refine jC ?_ | refine jD ?_ | refine jE ?_ | refine jF ?_) | (show OW _ _ _ _ _ _; first | refine OW_E ?_ | refine jI ?_ | refine jJ ?_ | refine jK (fun bk => ?_) | refine jL (fun bk => ?_)) | (show WC _ _ _ _ _ _; first | refine jM ?_ | refine jN ?_ | refine jO ?_ | refine jP ?_ | refine jR ?_ | refine jS ?_ | refine jT ?_ | refine jU ?_) | (show WQ _ _ _ _; with_reducible first | refine jV ?_ | refine jW ?_ | refine jX ?_ | refine jY ?_ | refine jZ ?_ | refine kA ?_ | refine kB ?_ | refine kC ?_) | ((first | (refine jG (fun hc => ?_) (fun hc => ?_) <;> rw [hc]) | refine jQ (fun hc => ?_) (fun hc => ?_)) <;> (try simp only [nrB] at hc) <;> (try (exfalso; first | omega | exact hc trivial | exact hc rfl)))))
    rw [wrap_nat (k := .u32) rfl (m := val d / 2 ^ t % 2 ^ wt % 2 ^ m) (by simp only [IntKind.bits]; omega)]
    (repeat' (first | (show WL _ _ _ _ _ _ _; first | refine jA ?_ | refine jB ?_ | refine jC ?_ | refine jD ?_ | refine jE ?_ | refine jF ?_) | (show OW _ _ _ _ _ _; first | refine OW_E ?_ | refine jI ?_ | refine jJ ?_ | refine jK (fun bk => ?_) | refine jL (fun bk => ?_)) | (show WC _ _ _ _ _ _; first | refine jM ?_ | refine jN ?_ | refine jO ?_ | refine jP ?_ | refine jR ?_ | refine jS ?_ | refine jT ?_ | refine jU ?_) | (show WQ _ _ _ _; with_reducible first | refine jV ?_ | refine jW ?_ | refine jX ?_ | refine jY ?_ | refine jZ ?_ | refine kA ?_ | refine kB ?_ | refine kC ?_) | ((first | (refine jG (fun hc => ?_) (fun hc => ?_) <;> rw [hc]) | refine jQ (fun hc => ?_) (fun hc => ?_)) <;> (try simp only [nrB] at hc) <;> (try (exfalso; first | omega | exact hc trivial | exact hc rfl)))))
    (first | refine WQ_retI rfl rfl ?_ | refine WQ_endI rfl rfl ?_)
    have f1 : val d / 2 ^ t % 2 ^ wt % 2 ^ m = val d / 2 ^ t % 2 ^ m := Nat.mod_mod_of_dvd _ (Nat.pow_dvd_pow 2 (by omega))
    have f2 : val d / 2 ^ t % 2 ^ wt / 2 ^ m = val d / 2 ^ (t + m) % 2 ^ (8 * nx - (t + m)) := by
      rw [show wt = m + (8 * nx - (t + m)) from by omega, Nat.pow_add, Nat.mod_mul_right_div_self, Nat.div_div_eq_div_mul, ← Nat.pow_add]
    rw [f1]
    refine ⟨[(p, cl (rdC v d (t + m) nx) 68)] :: E :: L, ?_, rfl, _, ⟨by omega, v, by rw [hq], ho⟩, rfl⟩
    unfold rdC
    rw [← f2, show ((8 * nx - (t + m) : Nat) : Int) = (wt : Int) - (m : Int) from by omega]
    exact iC
  · (repeat' (first | (show WL _ _ _ _ _ _ _; first | refine jA ?_ | refine jB ?_ | refine jC ?_ | refine jD ?_ | refine jE ?_ | refine jF ?_) | (show OW _ _ _ _ _ _; first | refine OW_E ?_ | refine jI ?_ | refine jJ ?_ | refine jK (fun bk => ?_) | refine jL (fun bk => ?_)) | (show WC _ _ _ _ _ _; first | refine jM ?_ | refine jN ?_ | refine jO ?_ | refine jP ?_ | refine jR ?_ | refine jS ?_ | refine jT ?_ | refine jU ?_) | (show WQ _ _ _ _; with_reducible first | refine jV ?_ | refine jW ?_ | refine jX ?_ | refine jY ?_ | refine jZ ?_ | refine kA ?_ | refine kB ?_ | refine kC ?_) | ((first | (refine jG (fun hc => ?_) (fun hc => ?_) <;> rw [hc]) | refine jQ (fun hc => ?_) (fun hc => ?_)) <;> (try simp only [nrB] at hc) <;> (try (exfalso; first | omega | exact hc trivial | exact hc rfl)))))
    exact hno _ (tkB_no (by omega)) rfl rfl
end Go.Proofs.YtkiaegkojlhaeaaDoor
