/- The document's reader of bits: one bit, what is left, where it stands. It proves no statement by itself. No conditions. -/
import Derived.Test.YtkiaegkojlhaeaaDoorWd
import Derived.Test.YtkiaegkojlhaeaaDoorTy
namespace Go.Proofs.YtkiaegkojlhaeaaDoor
open Go Go.Vx
variable [W0]
set_option maxRecDepth 4000
set_option linter.all false

omit [W0] in
/-- The document's reader. -/
def BiD (p : Nat) (d : List UInt8) (t : Nat) (D E : Chunk) : Prop := t ≤ 8 * d.length ∧ ∃ v, D = [(p, cl [v, .int .i64 (t : Int)] 53)] ∧ Ow 5 1 v d.length (bsv d) E

theorem bleft_n (p m t : Nat) (a : Option Addr) (c : Nat) (T : TypeId) (L : List Chunk) (hf : Fnd L p (cl [.slice a m c, .int .i64 (t : Int)] T)) (hm : m ≤ 140737488355328) (hn : t ≤ 8 * m) :
    GvP Tryd.prog 49 [.pointer (some ⟨p, 0, none⟩)].toArray L (.int .i64 ((8 * m - t : Nat) : Int)) := by
  refine Gv.of_body Tryd.func49 rfl rfl ?_
  (repeat' (first | (show WL _ _ _ _ _ _ _; first | refine jA ?_ | refine jB ?_ | refine jC ?_ | refine jD ?_ | refine jE ?_ | refine jF ?_) | (show OW _ _ _ _ _ _; first | refine OW_E ?_ | refine jI ?_ | refine jJ ?_ | refine jK (fun bk => ?_) | refine jL (fun bk => ?_)) | (show WC _ _ _ _ _ _; first | refine jM ?_ | refine jN ?_ | refine jO ?_ | refine jP ?_ | refine jR ?_ | refine jS ?_ | refine jT ?_ | refine jU ?_) | (show WQ _ _ _ _; with_reducible first | refine jV ?_ | refine jW ?_ | refine jX ?_ | refine jY ?_ | refine jZ ?_ | refine kA ?_ | refine kB ?_ | refine kC ?_) | ((first | (refine jG (fun hc => ?_) (fun hc => ?_) <;> rw [hc]) | refine jQ (fun hc => ?_) (fun hc => ?_)) <;> (try simp only [nrB] at hc) <;> (try (exfalso; first | omega | exact hc trivial | exact hc rfl)))))
  refine WC_drawAll [] mixed ?_
  (refine WR_t 0 ?_; refine WR_t 1 ?_; refine WR_t 2 ?_; refine WR_t 3 ?_; refine WR_t 4 ?_; refine WR_t 5 ?_; refine WR_t 6 ?_; refine WR_t 7 ?_; refine WR_t 8 ?_; refine WR_t 9 ?_; refine WR_t 10 ?_)
  rw [show 8 * (m : Int) - (t : Int) = ((8 * m - t : Nat) : Int) from by omega]
  (refine WR_t 11 ?_)
  (refine WR_done (by kernel_rfl) ?_)
  (repeat' (first | (show WL _ _ _ _ _ _ _; first | refine jA ?_ | refine jB ?_ | refine jC ?_ | refine jD ?_ | refine jE ?_ | refine jF ?_) | (show OW _ _ _ _ _ _; first | refine OW_E ?_ | refine jI ?_ | refine jJ ?_ | refine jK (fun bk => ?_) | refine jL (fun bk => ?_)) | (show WC _ _ _ _ _ _; first | refine jM ?_ | refine jN ?_ | refine jO ?_ | refine jP ?_ | refine jR ?_ | refine jS ?_ | refine jT ?_ | refine jU ?_) | (show WQ _ _ _ _; with_reducible first | refine jV ?_ | refine jW ?_ | refine jX ?_ | refine jY ?_ | refine jZ ?_ | refine kA ?_ | refine kB ?_ | refine kC ?_) | ((first | (refine jG (fun hc => ?_) (fun hc => ?_) <;> rw [hc]) | refine jQ (fun hc => ?_) (fun hc => ?_)) <;> (try simp only [nrB] at hc) <;> (try (exfalso; first | omega | exact hc trivial | exact hc rfl)))))
  ((first | refine WQ_retI rfl rfl ?_ | refine WQ_endI rfl rfl ?_); exact ⟨_, iC, rfl, rfl⟩)
theorem bused_n (p t : Nat) (v : Value) (T : TypeId) (L : List Chunk) (hf : Fnd L p (cl [v, .int .i64 (t : Int)] T)) (ht : t ≤ 1125899906842700) :
    GvP Tryd.prog 26 [.pointer (some ⟨p, 0, none⟩)].toArray L (.int .i64 (((t + 7) / 8 : Nat) : Int)) := by
  refine Gv.of_body Tryd.func26 rfl rfl ?_
  (repeat' (first | (show WL _ _ _ _ _ _ _; first | refine jA ?_ | refine jB ?_ | refine jC ?_ | refine jD ?_ | refine jE ?_ | refine jF ?_) | (show OW _ _ _ _ _ _; first | refine OW_E ?_ | refine jI ?_ | refine jJ ?_ | refine jK (fun bk => ?_) | refine jL (fun bk => ?_)) | (show WC _ _ _ _ _ _; first | refine jM ?_ | refine jN ?_ | refine jO ?_ | refine jP ?_ | refine jR ?_ | refine jS ?_ | refine jT ?_ | refine jU ?_) | (show WQ _ _ _ _; with_reducible first | refine jV ?_ | refine jW ?_ | refine jX ?_ | refine jY ?_ | refine jZ ?_ | refine kA ?_ | refine kB ?_ | refine kC ?_) | ((first | (refine jG (fun hc => ?_) (fun hc => ?_) <;> rw [hc]) | refine jQ (fun hc => ?_) (fun hc => ?_)) <;> (try simp only [nrB] at hc) <;> (try (exfalso; first | omega | exact hc trivial | exact hc rfl)))))
  refine OW_EV (EV_quoN (t + 7) 8 rfl rfl (by omega) rfl (by decide) (by omega)) rfl ?_
  (repeat' (first | (show WL _ _ _ _ _ _ _; first | refine jA ?_ | refine jB ?_ | refine jC ?_ | refine jD ?_ | refine jE ?_ | refine jF ?_) | (show OW _ _ _ _ _ _; first | refine OW_E ?_ | refine jI ?_ | refine jJ ?_ | refine jK (fun bk => ?_) | refine jL (fun bk => ?_)) | (show WC _ _ _ _ _ _; first | refine jM ?_ | refine jN ?_ | refine jO ?_ | refine jP ?_ | refine jR ?_ | refine jS ?_ | refine jT ?_ | refine jU ?_) | (show WQ _ _ _ _; with_reducible first | refine jV ?_ | refine jW ?_ | refine jX ?_ | refine jY ?_ | refine jZ ?_ | refine kA ?_ | refine kB ?_ | refine kC ?_) | ((first | (refine jG (fun hc => ?_) (fun hc => ?_) <;> rw [hc]) | refine jQ (fun hc => ?_) (fun hc => ?_)) <;> (try simp only [nrB] at hc) <;> (try (exfalso; first | omega | exact hc trivial | exact hc rfl)))))
  ((first | refine WQ_retI rfl rfl ?_ | refine WQ_endI rfl rfl ?_); exact ⟨_, iC, rfl, rfl⟩)
theorem balign_n (p t : Nat) (d : List UInt8) (D E : Chunk) (L : List Chunk) (h : BiD p d t D E) (hl : d.length ≤ 140737488355328) :
    Gv Tryd.prog 35 [.pointer (some ⟨p, 0, none⟩)].toArray (D :: E :: L) (fun r L' => r = .tuple #[] ∧ ∃ D', BiD p d (8 * ((t + 7) / 8)) D' E ∧ L' = D' :: E :: L) := by
  obtain ⟨ht, v, rfl, ho⟩ := h
  refine Gv.of_body Tryd.func35 rfl rfl ?_
  (repeat' (first | (show WL _ _ _ _ _ _ _; first | refine jA ?_ | refine jB ?_ | refine jC ?_ | refine jD ?_ | refine jE ?_ | refine jF ?_) | (show OW _ _ _ _ _ _; first | refine OW_E ?_ | refine jI ?_ | refine jJ ?_ | refine jK (fun bk => ?_) | refine jL (fun bk => ?_)) | (show WC _ _ _ _ _ _; first | refine jM ?_ | refine jN ?_ | refine jO ?_ | refine jP ?_ | refine jR ?_ | refine jS ?_ | refine jT ?_ | refine jU ?_) | (show WQ _ _ _ _; with_reducible first | refine jV ?_ | refine jW ?_ | refine jX ?_ | refine jY ?_ | refine jZ ?_ | refine kA ?_ | refine kB ?_ | refine kC ?_) | ((first | (refine jG (fun hc => ?_) (fun hc => ?_) <;> rw [hc]) | refine jQ (fun hc => ?_) (fun hc => ?_)) <;> (try simp only [nrB] at hc) <;> (try (exfalso; first | omega | exact hc trivial | exact hc rfl)))))
  refine OW_EV (EV_quoN (t + 7) 8 rfl rfl (by omega) rfl (by decide) (by omega)) rfl ?_
  (repeat' (first | (show WL _ _ _ _ _ _ _; first | refine jA ?_ | refine jB ?_ | refine jC ?_ | refine jD ?_ | refine jE ?_ | refine jF ?_) | (show OW _ _ _ _ _ _; first | refine OW_E ?_ | refine jI ?_ | refine jJ ?_ | refine jK (fun bk => ?_) | refine jL (fun bk => ?_)) | (show WC _ _ _ _ _ _; first | refine jM ?_ | refine jN ?_ | refine jO ?_ | refine jP ?_ | refine jR ?_ | refine jS ?_ | refine jT ?_ | refine jU ?_) | (show WQ _ _ _ _; with_reducible first | refine jV ?_ | refine jW ?_ | refine jX ?_ | refine jY ?_ | refine jZ ?_ | refine kA ?_ | refine kB ?_ | refine kC ?_) | ((first | (refine jG (fun hc => ?_) (fun hc => ?_) <;> rw [hc]) | refine jQ (fun hc => ?_) (fun hc => ?_)) <;> (try simp only [nrB] at hc) <;> (try (exfalso; first | omega | exact hc trivial | exact hc rfl)))))
  rw [show (((t + 7) / 8 : Nat) : Int) * 8 = ((8 * ((t + 7) / 8) : Nat) : Int) from by omega]
  (repeat' (first | (show WL _ _ _ _ _ _ _; first | refine jA ?_ | refine jB ?_ | refine jC ?_ | refine jD ?_ | refine jE ?_ | refine jF ?_) | (show OW _ _ _ _ _ _; first | refine OW_E ?_ | refine jI ?_ | refine jJ ?_ | refine jK (fun bk => ?_) | refine jL (fun bk => ?_)) | (show WC _ _ _ _ _ _; first | refine jM ?_ | refine jN ?_ | refine jO ?_ | refine jP ?_ | refine jR ?_ | refine jS ?_ | refine jT ?_ | refine jU ?_) | (show WQ _ _ _ _; with_reducible first | refine jV ?_ | refine jW ?_ | refine jX ?_ | refine jY ?_ | refine jZ ?_ | refine kA ?_ | refine kB ?_ | refine kC ?_) | ((first | (refine jG (fun hc => ?_) (fun hc => ?_) <;> rw [hc]) | refine jQ (fun hc => ?_) (fun hc => ?_)) <;> (try simp only [nrB] at hc) <;> (try (exfalso; first | omega | exact hc trivial | exact hc rfl)))))
  (first | refine WQ_retI rfl rfl ?_ | refine WQ_endI rfl rfl ?_)
  exact ⟨_, iC, rfl, _, ⟨by omega, v, rfl, ho⟩, rfl⟩

theorem bit_at {d : List UInt8} {t : Nat} (h : t < 8 * d.length) : (d.getD (t / 8) 0).toNat / 2 ^ (t % 8) % 2 ^ 1 = val d / 2 ^ t % 2 := by
  rw [← val_get d (t / 8) (by omega)]
  have e : val d / 2 ^ t = val d / 2 ^ (8 * (t / 8)) / 2 ^ (t % 8) := by
    rw [Nat.div_div_eq_div_mul, ← Nat.pow_add, show 8 * (t / 8) + t % 8 = t from by omega]
  rw [e]
  generalize val d / 2 ^ (8 * (t / 8)) = y
  have e2 : (256 : Nat) = 2 ^ (t % 8) * 2 ^ (8 - t % 8) := by rw [← Nat.pow_add, show t % 8 + (8 - t % 8) = 8 from by omega]
  rw [e2, Nat.mod_mul_right_div_self]
  exact Nat.mod_mod_of_dvd _ (by
    have := Nat.pow_dvd_pow 2 (show 1 ≤ 8 - t % 8 by omega)
    simpa using this)

set_option maxHeartbeats 2000000 in
theorem bone_n (p t : Nat) (d : List UInt8) (D E : Chunk) (L : List Chunk) (h : BiD p d t D E) (hl : d.length ≤ 140737488355328) (hlt : t < 8 * d.length) :
    Gv Tryd.prog 50 [.pointer (some ⟨p, 0, none⟩)].toArray (D :: E :: L) (fun r L' => r = .int .u32 ((val d / 2 ^ t % 2 : Nat) : Int) ∧ ∃ D', BiD p d (t + 1) D' E ∧ L' = D' :: E :: L) := by
  obtain ⟨ht, v, rfl, ho⟩ := h
  refine Gv.of_body Tryd.func50 rfl rfl ?_
  have hbit := bit_at hlt
  obtain ⟨b, cap, rest, rfl, rfl, hcell⟩ := ow_byte ho (k := t / 8) (by omega)
  have hbl := (d.getD (t / 8) 0).toNat_lt
  obtain ⟨x, hx⟩ : ∃ x, x = (d.getD (t / 8) 0).toNat := ⟨_, rfl⟩
  rw [← hx] at hcell hbl hbit
  have hx2 : x / 2 ^ (t % 8) ≤ x := Nat.div_le_self _ _
  (repeat' (first | (show WL _ _ _ _ _ _ _; first | refine jA ?_ | refine jB ?_ | refine jC ?_ | refine jD ?_ | refine jE ?_ | refine jF ?_) | (show OW _ _ _ _ _ _; first | refine OW_E ?_ | refine jI ?_ | refine jJ ?_ | refine jK (fun bk => ?_) | refine jL (fun bk => ?_)) | (show WC _ _ _ _ _ _; first | refine jM ?_ | refine jN ?_ | refine jO ?_ | refine jP ?_ | refine jR ?_ | refine jS ?_ | refine jT ?_ | refine jU ?_) | (show WQ _ _ _ _; with_reducible first | refine jV ?_ | refine jW ?_ | refine jX ?_ | refine jY ?_ | refine jZ ?_ | refine kA ?_ | refine kB ?_ | refine kC ?_) | ((first | (refine jG (fun hc => ?_) (fun hc => ?_) <;> rw [hc]) | refine jQ (fun hc => ?_) (fun hc => ?_)) <;> (try simp only [nrB] at hc) <;> (try (exfalso; first | omega | exact hc trivial | exact hc rfl)))))
  refine WC_drawAll [] mixed ?_
  (refine WR_t 0 ?_; refine WR_t 1 ?_; refine WR_t 2 ?_; refine WR_t 3 ?_; refine WR_t 4 ?_; refine WR_t 5 ?_; refine WR_t 6 ?_; refine WR_t 7 ?_)
  (refine WR_take 8 rfl rfl (by kernel_rfl) (by repeat (first | with_reducible exact PO.body | with_reducible exact RP_po | with_reducible refine PO.then ?_ | with_reducible refine PO.block ?_)) iC (EV_quoN t 8 rfl rfl rfl rfl (by decide) (by omega)) (by rfl) ?_)
  (refine WR_take 9 rfl rfl (by kernel_rfl) (by repeat (first | with_reducible exact PO.body | with_reducible exact RP_po | with_reducible refine PO.then ?_ | with_reducible refine PO.block ?_)) iC (EV_indexAddr0 (j := t / 8) rfl rfl rfl (by omega)) (by rfl) ?_)
  (refine WR_take 10 rfl rfl (by kernel_rfl) (by repeat (first | with_reducible exact PO.body | with_reducible exact RP_po | with_reducible refine PO.then ?_ | with_reducible refine PO.block ?_)) iC (EV_load rfl (Fnd.there Fnd.here) hcell) (by rfl) ?_)
  (refine WR_t 11 ?_; refine WR_t 12 ?_; refine WR_t 13 ?_; refine WR_t 14 ?_)
  (refine WR_take 15 rfl rfl (by kernel_rfl) (by repeat (first | with_reducible exact PO.body | with_reducible exact RP_po | with_reducible refine PO.then ?_ | with_reducible refine PO.block ?_)) iC (EV_remN t 8 rfl rfl rfl rfl (by decide)) (by rfl) ?_)
  (refine WR_take 16 rfl rfl (by kernel_rfl) (by repeat (first | with_reducible exact PO.body | with_reducible exact RP_po | with_reducible refine PO.then ?_ | with_reducible refine PO.block ?_)) iC (EV_nshr x (t % 8) rfl rfl rfl rfl (by simp only [IntKind.bits]; omega)) (by rfl) ?_)
  (refine WR_take 17 rfl rfl (by kernel_rfl) (by repeat (first | with_reducible exact PO.body | with_reducible exact RP_po | with_reducible refine PO.then ?_ | with_reducible refine PO.block ?_)) iC (EV_nconv (k' := .u32) (x / 2 ^ (t % 8)) rfl rfl rfl (by simp only [IntKind.bits]; omega)) (by rfl) ?_)
  (refine WR_take 18 rfl rfl (by kernel_rfl) (by repeat (first | with_reducible exact PO.body | with_reducible exact RP_po | with_reducible refine PO.then ?_ | with_reducible refine PO.block ?_)) iC (EV_nand (x / 2 ^ (t % 8)) 1 rfl rfl rfl rfl rfl (by simp only [IntKind.bits]; omega) (by decide)) (by rfl) ?_)
  rw [hbit]
  (refine WR_t 19 ?_)
  (refine WR_done (by kernel_rfl) ?_)
  (repeat' (first | (show WL _ _ _ _ _ _ _; first | refine jA ?_ | refine jB ?_ | refine jC ?_ | refine jD ?_ | refine jE ?_ | refine jF ?_) | (show OW _ _ _ _ _ _; first | refine OW_E ?_ | refine jI ?_ | refine jJ ?_ | refine jK (fun bk => ?_) | refine jL (fun bk => ?_)) | (show WC _ _ _ _ _ _; first | refine jM ?_ | refine jN ?_ | refine jO ?_ | refine jP ?_ | refine jR ?_ | refine jS ?_ | refine jT ?_ | refine jU ?_) | (show WQ _ _ _ _; with_reducible first | refine jV ?_ | refine jW ?_ | refine jX ?_ | refine jY ?_ | refine jZ ?_ | refine kA ?_ | refine kB ?_ | refine kC ?_) | ((first | (refine jG (fun hc => ?_) (fun hc => ?_) <;> rw [hc]) | refine jQ (fun hc => ?_) (fun hc => ?_)) <;> (try simp only [nrB] at hc) <;> (try (exfalso; first | omega | exact hc trivial | exact hc rfl)))))
  (first | refine WQ_retI rfl rfl ?_ | refine WQ_endI rfl rfl ?_)
  exact ⟨_, iC, rfl, _, ⟨by omega, _, rfl, ho⟩, rfl⟩

end Go.Proofs.YtkiaegkojlhaeaaDoor
