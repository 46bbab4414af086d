/- The document's writer of bits. It proves no statement by itself. No conditions. -/
import Derived.Test.YtkiaegkojlhaeaaDoorBg
namespace Go.Proofs.YtkiaegkojlhaeaaDoor
open Go Go.Vx
variable [W0]
set_option maxRecDepth 4000
set_option linter.all false

omit [W0] in
/-- The document's writer. -/
def RwD (p V N : Nat) (D E : Chunk) : Prop := V < 2 ^ N ∧ ∃ v, D = [(p, cl [v, .int .i64 (N : Int)] 26)] ∧ Ow 5 1 v ((N + 7) / 8) (bsv (leB V ((N + 7) / 8))) E
theorem RwD.new (p : Nat) : RwD p 0 0 [(p, cl [.slice none 0 0, .int .i64 0] 26)] [] := ⟨by decide, _, rfl, .inl ⟨rfl, rfl, rfl, rfl⟩⟩
theorem RwD.cast {p V V' N N' : Nat} {D E : Chunk} (h : RwD p V N D E) (hv : V = V') (he : N = N') : RwD p V' N' D E := hv ▸ he ▸ h

theorem leB_set {V N bit q : Nat} (hq : q = N / 8) (hV : V < 2 ^ N) (hb : bit < 2) : V / 2 ^ (8 * q) < 2 ^ (N % 8) ∧ ((leB V (q + 1)).getD q 0).toNat = V / 2 ^ (8 * q) ∧
    (byB (V + 2 ^ N * bit) q).toNat = V / 2 ^ (8 * q) + bit * 2 ^ (N % 8) ∧ (leB V (q + 1)).set q (byB (V + 2 ^ N * bit) q) = leB (V + 2 ^ N * bit) (q + 1) := by
  have h1 : V / 2 ^ (8 * q) < 2 ^ (N % 8) := by
    rw [Nat.div_lt_iff_lt_mul (Nat.pow_pos (by decide)), ← Nat.pow_add, show N % 8 + 8 * q = N from by omega]
    exact hV
  have h2 : 2 ^ (N % 8) ≤ 2 ^ 7 := pow_le (by omega)
  have h3 : bit * 2 ^ (N % 8) ≤ 1 * 2 ^ 7 := Nat.mul_le_mul (by omega) h2
  have hl := leB_length V q
  refine ⟨h1, ?_, ?_, ?_⟩
  · rw [leB_succ]
    have : (leB V q ++ [byB V q])[q]? = some (byB V q) := by rw [List.getElem?_append_right (by omega), hl]; simp
    simp only [List.getD, this, Option.getD_some]
    rw [byB_toNat, Nat.mod_eq_of_lt (by omega)]
  · rw [byB_toNat, show 2 ^ N * bit = 2 ^ (8 * q) * (bit * 2 ^ (N % 8)) from by
      rw [show 2 ^ N = 2 ^ (8 * q) * 2 ^ (N % 8) from by rw [← Nat.pow_add]; congr 1; omega]; ac_rfl, Nat.add_mul_div_left _ _ (Nat.pow_pos (by decide)), Nat.mod_eq_of_lt (by omega)]
  · rw [leB_succ, leB_succ, leB_add (by omega)]
    rw [List.set_append_right _ _ (by omega), hl, Nat.sub_self]
    rfl

set_option maxHeartbeats 4000000 in
theorem rone_n (p V N v : Nat) (D E : Chunk) (L : List Chunk) (h : RwD p V N D E) (hv : v < 2 ^ 32) (hN : N ≤ 1125899906841600) :
    Gv Tryd.prog 16 [.pointer (some ⟨p, 0, none⟩), .int .u32 (v : Int)].toArray (D :: E :: L) (fun r L' => r = .tuple #[] ∧ ∃ D' E', RwD p (V + 2 ^ N * (v % 2)) (N + 1) D' E' ∧ L' = D' :: E' :: L) := by
  obtain ⟨hV, f, rfl, hf⟩ := h
  refine Gv.of_body Tryd.func16 rfl rfl ?_
  obtain ⟨q, hq⟩ : ∃ q, q = N / 8 := ⟨_, rfl⟩
  have hbit : v % 2 < 2 := Nat.mod_lt _ (by decide)
  obtain ⟨g1, g2, g3, g4⟩ := leB_set hq hV hbit
  have hlt : V + 2 ^ N * (v % 2) < 2 ^ (N + 1) := add_lt hV (by simpa using hbit)
  have h2 : 2 ^ (N % 8) ≤ 2 ^ 7 := pow_le (by omega)
  have h3 : v % 2 * 2 ^ (N % 8) ≤ 1 * 2 ^ 7 := Nat.mul_le_mul (by omega) h2
  (repeat' (first | (show WL _ _ _ _ _ _ _; first | refine jA ?_ | refine jB ?_ | refine jC ?_ | refine jD ?_ | refine jE ?_ | refine jF ?_) | (show OW _ _ _ _ _ _; first | refine OW_E ?_ | refine jI ?_ | refine jJ ?_ | refine jK (fun bk => ?_) | refine jL (fun bk => ?_)) | (show WC _ _ _ _ _ _; first | refine jM ?_ | refine jN ?_ | refine jO ?_ | refine jP ?_ | refine jR ?_ | refine jS ?_ | refine jT ?_ | refine jU ?_) | (show WQ _ _ _ _; with_reducible first | refine jV ?_ | refine jW ?_ | refine jX ?_ | refine jY ?_ | refine jZ ?_ | refine kA ?_ | refine kB ?_ | refine kC ?_) | ((first | (refine jG (fun hc => ?_) (fun hc => ?_) <;> rw [hc]) | refine jQ (fun hc => ?_) (fun hc => ?_)) <;> (try simp only [nrB] at hc) <;> (try (exfalso; first | omega | exact hc trivial | exact hc rfl)))))
  refine OW_EV (EV_remN N 8 rfl rfl rfl rfl (by decide)) rfl ?_
  (repeat' (first | (show WL _ _ _ _ _ _ _; first | refine jA ?_ | refine jB ?_ | refine jC ?_ | refine jD ?_ | refine jE ?_ | refine jF ?_) | (show OW _ _ _ _ _ _; first | refine OW_E ?_ | refine jI ?_ | refine jJ ?_ | refine jK (fun bk => ?_) | refine jL (fun bk => ?_)) | (show WC _ _ _ _ _ _; first | refine jM ?_ | refine jN ?_ | refine jO ?_ | refine jP ?_ | refine jR ?_ | refine jS ?_ | refine jT ?_ | refine jU ?_) | (show WQ _ _ _ _; with_reducible first | refine jV ?_ | refine jW ?_ | refine jX ?_ | refine jY ?_ | refine jZ ?_ | refine kA ?_ | refine kB ?_ | refine kC ?_) | ((first | (refine jG (fun hc => ?_) (fun hc => ?_) <;> rw [hc]) | refine jQ (fun hc => ?_) (fun hc => ?_)) <;> (try simp only [nrB] at hc) <;> (try (exfalso; first | omega | exact hc trivial | exact hc rfl)))))
  · have h8 : N % 8 = 0 := by omega
    rw [show (N + 7) / 8 = q from by omega] at hf
    refine OW_buildSlice (cs := bsv [byB V q]) rfl (by rfl) (by rw [byB_over (by rw [show 8 * q = N from by omega]; exact hV)]; simp [fillL, patch, Value.cells, zeros]; rfl) (by omega) rfl rfl (fun bk => ?_)
    (repeat' (first | (show WL _ _ _ _ _ _ _; first | refine jA ?_ | refine jB ?_ | refine jC ?_ | refine jD ?_ | refine jE ?_ | refine jF ?_) | (show OW _ _ _ _ _ _; first | refine OW_E ?_ | refine jI ?_ | refine jJ ?_ | refine jK (fun bk => ?_) | refine jL (fun bk => ?_)) | (show WC _ _ _ _ _ _; first | refine jM ?_ | refine jN ?_ | refine jO ?_ | refine jP ?_ | refine jR ?_ | refine jS ?_ | refine jT ?_ | refine jU ?_) | (show WQ _ _ _ _; with_reducible first | refine jV ?_ | refine jW ?_ | refine jX ?_ | refine jY ?_ | refine jZ ?_ | refine kA ?_ | refine kB ?_ | refine kC ?_) | ((first | (refine jG (fun hc => ?_) (fun hc => ?_) <;> rw [hc]) | refine jQ (fun hc => ?_) (fun hc => ?_)) <;> (try simp only [nrB] at hc) <;> (try (exfalso; first | omega | exact hc trivial | exact hc rfl)))))
    refine OW_append rfl rfl hf (sl_cells (c := (bsv [byB V q]).toArray) (xs := bsv [byB V q]) (m := 1) Fnd.here rfl (by simp)) (by repeat (first | exact Zip.here _ | apply Zip.there)) (by rfl) bsv_ones (by omega) (by simp [maxLen]; omega) rfl (fun f2 C2 ho1 _ _ => ?_)
    rw [← bsv_append, ← leB_succ] at ho1
    have hf := ho1
    (repeat' (first | (show WL _ _ _ _ _ _ _; first | refine jA ?_ | refine jB ?_ | refine jC ?_ | refine jD ?_ | refine jE ?_ | refine jF ?_) | (show OW _ _ _ _ _ _; first | refine OW_E ?_ | refine jI ?_ | refine jJ ?_ | refine jK (fun bk => ?_) | refine jL (fun bk => ?_)) | (show WC _ _ _ _ _ _; first | refine jM ?_ | refine jN ?_ | refine jO ?_ | refine jP ?_ | refine jR ?_ | refine jS ?_ | refine jT ?_ | refine jU ?_) | (show WQ _ _ _ _; with_reducible first | refine jV ?_ | refine jW ?_ | refine jX ?_ | refine jY ?_ | refine jZ ?_ | refine kA ?_ | refine kB ?_ | refine kC ?_) | ((first | (refine jG (fun hc => ?_) (fun hc => ?_) <;> rw [hc]) | refine jQ (fun hc => ?_) (fun hc => ?_)) <;> (try simp only [nrB] at hc) <;> (try (exfalso; first | omega | exact hc trivial | exact hc rfl)))))
    refine OW_store rfl rfl (ow_one hf) (by repeat (first | exact Upd.here | apply Upd.there)) (by simp) ?_
    (repeat' (first | (show WL _ _ _ _ _ _ _; first | refine jA ?_ | refine jB ?_ | refine jC ?_ | refine jD ?_ | refine jE ?_ | refine jF ?_) | (show OW _ _ _ _ _ _; first | refine OW_E ?_ | refine jI ?_ | refine jJ ?_ | refine jK (fun bk => ?_) | refine jL (fun bk => ?_)) | (show WC _ _ _ _ _ _; first | refine jM ?_ | refine jN ?_ | refine jO ?_ | refine jP ?_ | refine jR ?_ | refine jS ?_ | refine jT ?_ | refine jU ?_) | (show WQ _ _ _ _; with_reducible first | refine jV ?_ | refine jW ?_ | refine jX ?_ | refine jY ?_ | refine jZ ?_ | refine kA ?_ | refine kB ?_ | refine kC ?_) | ((first | (refine jG (fun hc => ?_) (fun hc => ?_) <;> rw [hc]) | refine jQ (fun hc => ?_) (fun hc => ?_)) <;> (try simp only [nrB] at hc) <;> (try (exfalso; first | omega | exact hc trivial | exact hc rfl)))))
    obtain ⟨b, cap, rest, rfl, rfl, hcell, hlt3, hset⟩ := ow_put hf (k := q) (by omega)
    rw [g2] at hcell
    refine WC_drawAll [31] mixed ?_
    (refine WR_t 0 ?_; refine WR_t 1 ?_; refine WR_t 2 ?_; refine WR_t 3 ?_; refine WR_t 4 ?_; refine WR_t 5 ?_; refine WR_t 6 ?_; refine WR_t 7 ?_)
    (refine WR_take 8 rfl rfl (by kernel_rfl) (by repeat (first | with_reducible exact PO.body | with_reducible exact RP_po | with_reducible refine PO.then ?_ | with_reducible refine PO.block ?_)) iC (EV_quoN N 8 rfl rfl rfl rfl (by decide) (by omega)) (by rfl) ?_)
    (refine WR_t 9 ?_; refine WR_t 10 ?_; refine WR_t 11 ?_; refine WR_t 12 ?_; refine WR_t 13 ?_; refine WR_t 14 ?_; refine WR_t 15 ?_; refine WR_t 16 ?_)
    (refine WR_take 17 rfl rfl (by kernel_rfl) (by repeat (first | with_reducible exact PO.body | with_reducible exact RP_po | with_reducible refine PO.then ?_ | with_reducible refine PO.block ?_)) iC (EV_quoN N 8 rfl rfl rfl rfl (by decide) (by omega)) (by rfl) ?_)
    rw [← hq]
    (refine WR_take 18 rfl rfl (by kernel_rfl) (by repeat (first | with_reducible exact PO.body | with_reducible exact RP_po | with_reducible refine PO.then ?_ | with_reducible refine PO.block ?_)) iC (EV_indexAddr0 (j := q) rfl rfl rfl (by omega)) (by rfl) ?_)
    (refine WR_take 19 rfl rfl (by kernel_rfl) (by repeat (first | with_reducible exact PO.body | with_reducible exact RP_po | with_reducible refine PO.then ?_ | with_reducible refine PO.block ?_)) iC (EV_load rfl (by repeat (first | assumption | exact Fnd.here | refine Fnd.there ?_)) hcell) (by rfl) ?_)
    (refine WR_t 20 ?_)
    (refine WR_take 21 rfl rfl (by kernel_rfl) (by repeat (first | with_reducible exact PO.body | with_reducible exact RP_po | with_reducible refine PO.then ?_ | with_reducible refine PO.block ?_)) iC (EV_nand v 1 rfl rfl rfl rfl rfl (by simp only [IntKind.bits]; omega) (by decide)) (by rfl) ?_)
    rw [Nat.pow_one]
    (refine WR_take 22 rfl rfl (by kernel_rfl) (by repeat (first | with_reducible exact PO.body | with_reducible exact RP_po | with_reducible refine PO.then ?_ | with_reducible refine PO.block ?_)) iC (EV_nconv (k' := .u8) (v % 2) rfl rfl rfl (by simp only [IntKind.bits]; omega)) (by rfl) ?_)
    (refine WR_t 23 ?_; refine WR_t 24 ?_; refine WR_t 25 ?_; refine WR_t 26 ?_)
    (refine WR_take 27 rfl rfl (by kernel_rfl) (by repeat (first | with_reducible exact PO.body | with_reducible exact RP_po | with_reducible refine PO.then ?_ | with_reducible refine PO.block ?_)) iC (EV_remN N 8 rfl rfl rfl rfl (by decide)) (by rfl) ?_)
    (refine WR_take 28 rfl rfl (by kernel_rfl) (by repeat (first | with_reducible exact PO.body | with_reducible exact RP_po | with_reducible refine PO.then ?_ | with_reducible refine PO.block ?_)) iC (EV_nshl (v % 2) (N % 8) rfl rfl rfl rfl rfl (by simp only [IntKind.bits]; omega)) (by rfl) ?_)
    (refine WR_take 29 rfl rfl (by kernel_rfl) (by repeat (first | with_reducible exact PO.body | with_reducible exact RP_po | with_reducible refine PO.then ?_ | with_reducible refine PO.block ?_)) iC (EV_nor (V / 2 ^ (8 * q)) (v % 2) (N % 8) rfl rfl rfl rfl rfl g1 (by simp only [IntKind.bits]; omega)) (by rfl) ?_)
    rw [← g3]
    (refine WR_take 30 rfl rfl (by kernel_rfl) (by repeat (first | with_reducible exact PO.body | with_reducible exact RP_po | with_reducible refine PO.then ?_ | with_reducible refine PO.block ?_)) iC (EV_indexAddr0 (j := q) rfl rfl rfl (by omega)) (by rfl) ?_)
    (refine WR_last 31 (by kernel_rfl) rfl rfl rfl ?_)
    refine OW_store rfl rfl rfl (by repeat (first | exact Upd.here | apply Upd.there)) hlt3 ?_
    (refine WR_done (by kernel_rfl) ?_)
    (repeat' (first | (show WL _ _ _ _ _ _ _; first | refine jA ?_ | refine jB ?_ | refine jC ?_ | refine jD ?_ | refine jE ?_ | refine jF ?_) | (show OW _ _ _ _ _ _; first | refine OW_E ?_ | refine jI ?_ | refine jJ ?_ | refine jK (fun bk => ?_) | refine jL (fun bk => ?_)) | (show WC _ _ _ _ _ _; first | refine jM ?_ | refine jN ?_ | refine jO ?_ | refine jP ?_ | refine jR ?_ | refine jS ?_ | refine jT ?_ | refine jU ?_) | (show WQ _ _ _ _; with_reducible first | refine jV ?_ | refine jW ?_ | refine jX ?_ | refine jY ?_ | refine jZ ?_ | refine kA ?_ | refine kB ?_ | refine kC ?_) | ((first | (refine jG (fun hc => ?_) (fun hc => ?_) <;> rw [hc]) | refine jQ (fun hc => ?_) (fun hc => ?_)) <;> (try simp only [nrB] at hc) <;> (try (exfalso; first | omega | exact hc trivial | exact hc rfl)))))
    rw [show (N : Int) + 1 = ((N + 1 : Nat) : Int) from by omega]
    (repeat' (first | (show WL _ _ _ _ _ _ _; first | refine jA ?_ | refine jB ?_ | refine jC ?_ | refine jD ?_ | refine jE ?_ | refine jF ?_) | (show OW _ _ _ _ _ _; first | refine OW_E ?_ | refine jI ?_ | refine jJ ?_ | refine jK (fun bk => ?_) | refine jL (fun bk => ?_)) | (show WC _ _ _ _ _ _; first | refine jM ?_ | refine jN ?_ | refine jO ?_ | refine jP ?_ | refine jR ?_ | refine jS ?_ | refine jT ?_ | refine jU ?_) | (show WQ _ _ _ _; with_reducible first | refine jV ?_ | refine jW ?_ | refine jX ?_ | refine jY ?_ | refine jZ ?_ | refine kA ?_ | refine kB ?_ | refine kC ?_) | ((first | (refine jG (fun hc => ?_) (fun hc => ?_) <;> rw [hc]) | refine jQ (fun hc => ?_) (fun hc => ?_)) <;> (try simp only [nrB] at hc) <;> (try (exfalso; first | omega | exact hc trivial | exact hc rfl)))))
    have hs := hset (byB (V + 2 ^ N * (v % 2)) q)
    rw [g4] at hs
    (first | refine WQ_retI rfl rfl ?_ | refine WQ_endI rfl rfl ?_)
    refine ⟨[(p, cl [.slice (some ⟨b, 0, none⟩) (q + 1) cap, .int .i64 ((N + 1 : Nat) : Int)] 26)] :: [(b, cl ((bsv (leB V (q + 1)) ++ rest).set (q * 1) (.int .u8 ((byB (V + 2 ^ N * (v % 2)) q).toNat : Int))) 5)] :: L, iC, rfl, _, _, ⟨hlt, _, rfl, ?_⟩, rfl⟩
    rw [show (N + 1 + 7) / 8 = q + 1 from by omega]
    exact hs
  · have h8 : N % 8 ≠ 0 := by omega
    rw [show (N + 7) / 8 = q + 1 from by omega] at hf
    obtain ⟨b, cap, rest, rfl, rfl, hcell, hlt3, hset⟩ := ow_put hf (k := q) (by omega)
    rw [g2] at hcell
    refine WC_drawAll [31] mixed ?_
    (refine WR_t 0 ?_; refine WR_t 1 ?_; refine WR_t 2 ?_; refine WR_t 3 ?_; refine WR_t 4 ?_; refine WR_t 5 ?_; refine WR_t 6 ?_; refine WR_t 7 ?_)
    (refine WR_take 8 rfl rfl (by kernel_rfl) (by repeat (first | with_reducible exact PO.body | with_reducible exact RP_po | with_reducible refine PO.then ?_ | with_reducible refine PO.block ?_)) iC (EV_quoN N 8 rfl rfl rfl rfl (by decide) (by omega)) (by rfl) ?_)
    (refine WR_t 9 ?_; refine WR_t 10 ?_; refine WR_t 11 ?_; refine WR_t 12 ?_; refine WR_t 13 ?_; refine WR_t 14 ?_; refine WR_t 15 ?_; refine WR_t 16 ?_)
    (refine WR_take 17 rfl rfl (by kernel_rfl) (by repeat (first | with_reducible exact PO.body | with_reducible exact RP_po | with_reducible refine PO.then ?_ | with_reducible refine PO.block ?_)) iC (EV_quoN N 8 rfl rfl rfl rfl (by decide) (by omega)) (by rfl) ?_)
    rw [← hq]
    (refine WR_take 18 rfl rfl (by kernel_rfl) (by repeat (first | with_reducible exact PO.body | with_reducible exact RP_po | with_reducible refine PO.then ?_ | with_reducible refine PO.block ?_)) iC (EV_indexAddr0 (j := q) rfl rfl rfl (by omega)) (by rfl) ?_)
    (refine WR_take 19 rfl rfl (by kernel_rfl) (by repeat (first | with_reducible exact PO.body | with_reducible exact RP_po | with_reducible refine PO.then ?_ | with_reducible refine PO.block ?_)) iC (EV_load rfl (by repeat (first | assumption | exact Fnd.here | refine Fnd.there ?_)) hcell) (by rfl) ?_)
    (refine WR_t 20 ?_)
    (refine WR_take 21 rfl rfl (by kernel_rfl) (by repeat (first | with_reducible exact PO.body | with_reducible exact RP_po | with_reducible refine PO.then ?_ | with_reducible refine PO.block ?_)) iC (EV_nand v 1 rfl rfl rfl rfl rfl (by simp only [IntKind.bits]; omega) (by decide)) (by rfl) ?_)
    rw [Nat.pow_one]
    (refine WR_take 22 rfl rfl (by kernel_rfl) (by repeat (first | with_reducible exact PO.body | with_reducible exact RP_po | with_reducible refine PO.then ?_ | with_reducible refine PO.block ?_)) iC (EV_nconv (k' := .u8) (v % 2) rfl rfl rfl (by simp only [IntKind.bits]; omega)) (by rfl) ?_)
    (refine WR_t 23 ?_; refine WR_t 24 ?_; refine WR_t 25 ?_; refine WR_t 26 ?_)
    (refine WR_take 27 rfl rfl (by kernel_rfl) (by repeat (first | with_reducible exact PO.body | with_reducible exact RP_po | with_reducible refine PO.then ?_ | with_reducible refine PO.block ?_)) iC (EV_remN N 8 rfl rfl rfl rfl (by decide)) (by rfl) ?_)
    (refine WR_take 28 rfl rfl (by kernel_rfl) (by repeat (first | with_reducible exact PO.body | with_reducible exact RP_po | with_reducible refine PO.then ?_ | with_reducible refine PO.block ?_)) iC (EV_nshl (v % 2) (N % 8) rfl rfl rfl rfl rfl (by simp only [IntKind.bits]; omega)) (by rfl) ?_)
    (refine WR_take 29 rfl rfl (by kernel_rfl) (by repeat (first | with_reducible exact PO.body | with_reducible exact RP_po | with_reducible refine PO.then ?_ | with_reducible refine PO.block ?_)) iC (EV_nor (V / 2 ^ (8 * q)) (v % 2) (N % 8) rfl rfl rfl rfl rfl g1 (by simp only [IntKind.bits]; omega)) (by rfl) ?_)
    rw [← g3]
    (refine WR_take 30 rfl rfl (by kernel_rfl) (by repeat (first | with_reducible exact PO.body | with_reducible exact RP_po | with_reducible refine PO.then ?_ | with_reducible refine PO.block ?_)) iC (EV_indexAddr0 (j := q) rfl rfl rfl (by omega)) (by rfl) ?_)
    (refine WR_last 31 (by kernel_rfl) rfl rfl rfl ?_)
    refine OW_store rfl rfl rfl (by repeat (first | exact Upd.here | apply Upd.there)) hlt3 ?_
    (refine WR_done (by kernel_rfl) ?_)
    (repeat' (first | (show WL _ _ _ _ _ _ _; first | refine jA ?_ | refine jB ?_ | refine jC ?_ | refine jD ?_ | refine jE ?_ | refine jF ?_) | (show OW _ _ _ _ _ _; first | refine OW_E ?_ | refine jI ?_ | refine jJ ?_ | refine jK (fun bk => ?_) | refine jL (fun bk => ?_)) | (show WC _ _ _ _ _ _; first | refine jM ?_ | refine jN ?_ | refine jO ?_ | refine jP ?_ | refine jR ?_ | refine jS ?_ | refine jT ?_ | refine jU ?_) | (show WQ _ _ _ _; with_reducible first | refine jV ?_ | refine jW ?_ | refine jX ?_ | refine jY ?_ | refine jZ ?_ | refine kA ?_ | refine kB ?_ | refine kC ?_) | ((first | (refine jG (fun hc => ?_) (fun hc => ?_) <;> rw [hc]) | refine jQ (fun hc => ?_) (fun hc => ?_)) <;> (try simp only [nrB] at hc) <;> (try (exfalso; first | omega | exact hc trivial | exact hc rfl)))))
    rw [show (N : Int) + 1 = ((N + 1 : Nat) : Int) from by omega]
    (repeat' (first | (show WL _ _ _ _ _ _ _; first | refine jA ?_ | refine jB ?_ | refine jC ?_ | refine jD ?_ | refine jE ?_ | refine jF ?_) | (show OW _ _ _ _ _ _; first | refine OW_E ?_ | refine jI ?_ | refine jJ ?_ | refine jK (fun bk => ?_) | refine jL (fun bk => ?_)) | (show WC _ _ _ _ _ _; first | refine jM ?_ | refine jN ?_ | refine jO ?_ | refine jP ?_ | refine jR ?_ | refine jS ?_ | refine jT ?_ | refine jU ?_) | (show WQ _ _ _ _; with_reducible first | refine jV ?_ | refine jW ?_ | refine jX ?_ | refine jY ?_ | refine jZ ?_ | refine kA ?_ | refine kB ?_ | refine kC ?_) | ((first | (refine jG (fun hc => ?_) (fun hc => ?_) <;> rw [hc]) | refine jQ (fun hc => ?_) (fun hc => ?_)) <;> (try simp only [nrB] at hc) <;> (try (exfalso; first | omega | exact hc trivial | exact hc rfl)))))
    have hs := hset (byB (V + 2 ^ N * (v % 2)) q)
    rw [g4] at hs
    (first | refine WQ_retI rfl rfl ?_ | refine WQ_endI rfl rfl ?_)
    refine ⟨[(p, cl [.slice (some ⟨b, 0, none⟩) (q + 1) cap, .int .i64 ((N + 1 : Nat) : Int)] 26)] :: [(b, cl ((bsv (leB V (q + 1)) ++ rest).set (q * 1) (.int .u8 ((byB (V + 2 ^ N * (v % 2)) q).toNat : Int))) 5)] :: L, iC, rfl, _, _, ⟨hlt, _, rfl, ?_⟩, rfl⟩
    rw [show (N + 1 + 7) / 8 = q + 1 from by omega]
    exact hs

theorem mod_bit (v i : Nat) : v % 2 ^ i + 2 ^ i * (v / 2 ^ i % 2) = v % 2 ^ (i + 1) := by
  rw [Nat.pow_add 2 i 1, Nat.mod_mul, Nat.pow_one]
set_option maxHeartbeats 2000000 in
theorem rput_n (p V N v : Nat) (n : Int) (D E : Chunk) (L : List Chunk) (h : RwD p V N D E) (hv : v < 2 ^ 32) (hN : N ≤ 1125899906841000) :
    Gv Tryd.prog 10 [.pointer (some ⟨p, 0, none⟩), .int .u32 (v : Int), .int .i64 n].toArray (D :: E :: L) (fun r L' => r = .tuple #[] ∧ ∃ D' E', RwD p (V + 2 ^ N * (v % 2 ^ clp n)) (N + clp n) D' E' ∧ L' = D' :: E' :: L) := by
  refine Gv.of_body Tryd.func10 rfl rfl ?_
  have hc := clp_le n
  have hcn : (clp n : Int) = min (max n 0) 32 := (clp_cast n).symm
  obtain ⟨c, hcc⟩ : ∃ c, c = clp n := ⟨_, rfl⟩
  rw [← hcc] at hc hcn ⊢
  (repeat' (first | (show WL _ _ _ _ _ _ _; first | refine jA ?_ | refine jB ?_ | refine jC ?_ | refine jD ?_ | refine jE ?_ | refine jF ?_) | (show OW _ _ _ _ _ _; first | refine OW_E ?_ | refine jI ?_ | refine jJ ?_ | refine jK (fun bk => ?_) | refine jL (fun bk => ?_)) | (show WC _ _ _ _ _ _; first | refine jM ?_ | refine jN ?_ | refine jO ?_ | refine jP ?_ | refine jR ?_ | refine jS ?_ | refine jT ?_ | refine jU ?_) | (show WQ _ _ _ _; with_reducible first | refine jV ?_ | refine jW ?_ | refine jX ?_ | refine jY ?_ | refine jZ ?_ | refine kA ?_ | refine kB ?_ | refine kC ?_) | ((first | (refine jG (fun hc => ?_) (fun hc => ?_) <;> rw [hc]) | refine jQ (fun hc => ?_) (fun hc => ?_)) <;> (try simp only [nrB] at hc) <;> (try (exfalso; first | omega | exact hc trivial | exact hc rfl)))))
  refine WC_loop (X := Nat × Chunk × Chunk) (fun x => [(0, .pointer (some ⟨p, 0, none⟩)), (1, .int .u32 (v : Int)), (2, .int .i64 n), (6, .int .i64 (x.1 : Int))])
    (fun x => x.2.1 :: x.2.2 :: L) (fun x => x.1 ≤ c ∧ RwD p (V + 2 ^ N * (v % 2 ^ x.1)) (N + x.1) x.2.1 x.2.2) (fun x => c - x.1) (0, D, E) ⟨Nat.zero_le _, h.cast (by rw [Nat.pow_zero, Nat.mod_one]; rfl) rfl⟩ (by repeat (first | exact Sub.nil | refine Sub.cons rfl ?_ | refine Sub.cons (lk_int rfl (by first | omega | (dsimp only; omega))) ?_)) (fun w h => h) ?_
  rintro ⟨i, D, E⟩ ⟨hi, hR⟩
  simp only at hi hR ⊢
  (repeat' (first | (show WL _ _ _ _ _ _ _; first | refine jA ?_ | refine jB ?_ | refine jC ?_ | refine jD ?_ | refine jE ?_ | refine jF ?_) | (show OW _ _ _ _ _ _; first | refine OW_E ?_ | refine jI ?_ | refine jJ ?_ | refine jK (fun bk => ?_) | refine jL (fun bk => ?_)) | (show WC _ _ _ _ _ _; first | refine jM ?_ | refine jN ?_ | refine jO ?_ | refine jP ?_ | refine jR ?_ | refine jS ?_ | refine jT ?_ | refine jU ?_) | (show WQ _ _ _ _; with_reducible first | refine jV ?_ | refine jW ?_ | refine jX ?_ | refine jY ?_ | refine jZ ?_ | refine kA ?_ | refine kB ?_ | refine kC ?_) | ((first | (refine jG (fun hc => ?_) (fun hc => ?_) <;> rw [hc]) | refine jQ (fun hc => ?_) (fun hc => ?_)) <;> (try simp only [nrB] at hc) <;> (try (exfalso; first | omega | exact hc trivial | exact hc rfl)))))
  · have hlt : i < c := by omega
    refine OW_EV (EV_nshr v i rfl rfl rfl rfl (by simp only [IntKind.bits]; omega)) rfl ?_
    (repeat' (first | (show WL _ _ _ _ _ _ _; first | refine jA ?_ | refine jB ?_ | refine jC ?_ | refine jD ?_ | refine jE ?_ | refine jF ?_) | (show OW _ _ _ _ _ _; first | refine OW_E ?_ | refine jI ?_ | refine jJ ?_ | refine jK (fun bk => ?_) | refine jL (fun bk => ?_)) | (show WC _ _ _ _ _ _; first | refine jM ?_ | refine jN ?_ | refine jO ?_ | refine jP ?_ | refine jR ?_ | refine jS ?_ | refine jT ?_ | refine jU ?_) | (show WQ _ _ _ _; with_reducible first | refine jV ?_ | refine jW ?_ | refine jX ?_ | refine jY ?_ | refine jZ ?_ | refine kA ?_ | refine kB ?_ | refine kC ?_) | ((first | (refine jG (fun hc => ?_) (fun hc => ?_) <;> rw [hc]) | refine jQ (fun hc => ?_) (fun hc => ?_)) <;> (try simp only [nrB] at hc) <;> (try (exfalso; first | omega | exact hc trivial | exact hc rfl)))))
    refine OW_call rfl rfl rfl (rone_n p _ (N + i) (v / 2 ^ i) D E L hR (Nat.lt_of_le_of_lt (Nat.div_le_self _ _) hv) (by omega)) rfl (fun r L' hp => ?_)
    obtain ⟨rfl, D', E', hR', rfl⟩ := hp
    (repeat' (first | (show WL _ _ _ _ _ _ _; first | refine jA ?_ | refine jB ?_ | refine jC ?_ | refine jD ?_ | refine jE ?_ | refine jF ?_) | (show OW _ _ _ _ _ _; first | refine OW_E ?_ | refine jI ?_ | refine jJ ?_ | refine jK (fun bk => ?_) | refine jL (fun bk => ?_)) | (show WC _ _ _ _ _ _; first | refine jM ?_ | refine jN ?_ | refine jO ?_ | refine jP ?_ | refine jR ?_ | refine jS ?_ | refine jT ?_ | refine jU ?_) | (show WQ _ _ _ _; with_reducible first | refine jV ?_ | refine jW ?_ | refine jX ?_ | refine jY ?_ | refine jZ ?_ | refine kA ?_ | refine kB ?_ | refine kC ?_) | ((first | (refine jG (fun hc => ?_) (fun hc => ?_) <;> rw [hc]) | refine jQ (fun hc => ?_) (fun hc => ?_)) <;> (try simp only [nrB] at hc) <;> (try (exfalso; first | omega | exact hc trivial | exact hc rfl)))))
    have hR2 := hR'.cast (V' := V + 2 ^ N * (v % 2 ^ (i + 1))) (N' := N + (i + 1)) (by rw [← mod_bit, Nat.mul_add, Nat.pow_add]; ac_rfl) (by omega)
    refine WQ_round (X := Nat × Chunk × Chunk) (μ := fun x => c - x.1) (x := (i, D, E)) (i + 1, D', E') (by simp only; omega) ⟨by simp only; omega, hR2⟩ (by repeat (first | exact Sub.nil | refine Sub.cons rfl ?_ | refine Sub.cons (lk_int rfl (by first | omega | (dsimp only; omega))) ?_)) (fun w h => iH h)
  · have hic : i = c := by omega
    rw [hic] at hR
    (first | refine WQ_retI rfl rfl ?_ | refine WQ_endI rfl rfl ?_)
    exact ⟨_, iC, rfl, D, E, hR, rfl⟩

set_option maxHeartbeats 2000000 in
theorem rcode_n (p V N v : Nat) (n : Int) (D E : Chunk) (L : List Chunk) (h : RwD p V N D E) (hv : v < 2 ^ 32) (hN : N ≤ 1125899906841000) :
    Gv Tryd.prog 11 [.pointer (some ⟨p, 0, none⟩), .int .u32 (v : Int), .int .i64 n].toArray (D :: E :: L) (fun r L' => r = .tuple #[] ∧ ∃ D' E', RwD p (V + 2 ^ N * mir v (clp n)) (N + clp n) D' E' ∧ L' = D' :: E' :: L) := by
  refine Gv.of_body Tryd.func11 rfl rfl ?_
  have hc := clp_le n
  have hcn : min (max n 0) 32 = (clp n : Int) := clp_cast n
  obtain ⟨c, hcc⟩ : ∃ c, c = clp n := ⟨_, rfl⟩
  rw [← hcc] at hc hcn ⊢
  (repeat' (first | (show WL _ _ _ _ _ _ _; first | refine jA ?_ | refine jB ?_ | refine jC ?_ | refine jD ?_ | refine jE ?_ | refine jF ?_) | (show OW _ _ _ _ _ _; first | refine OW_E ?_ | refine jI ?_ | refine jJ ?_ | refine jK (fun bk => ?_) | refine jL (fun bk => ?_)) | (show WC _ _ _ _ _ _; first | refine jM ?_ | refine jN ?_ | refine jO ?_ | refine jP ?_ | refine jR ?_ | refine jS ?_ | refine jT ?_ | refine jU ?_) | (show WQ _ _ _ _; with_reducible first | refine jV ?_ | refine jW ?_ | refine jX ?_ | refine jY ?_ | refine jZ ?_ | refine kA ?_ | refine kB ?_ | refine kC ?_) | ((first | (refine jG (fun hc => ?_) (fun hc => ?_) <;> rw [hc]) | refine jQ (fun hc => ?_) (fun hc => ?_)) <;> (try simp only [nrB] at hc) <;> (try (exfalso; first | omega | exact hc trivial | exact hc rfl)))))
  rw [hcn]
  (repeat' (first | (show WL _ _ _ _ _ _ _; first | refine jA ?_ | refine jB ?_ | refine jC ?_ | refine jD ?_ | refine jE ?_ | refine jF ?_) | (show OW _ _ _ _ _ _; first | refine OW_E ?_ | refine jI ?_ | refine jJ ?_ | refine jK (fun bk => ?_) | refine jL (fun bk => ?_)) | (show WC _ _ _ _ _ _; first | refine jM ?_ | refine jN ?_ | refine jO ?_ | refine jP ?_ | refine jR ?_ | refine jS ?_ | refine jT ?_ | refine jU ?_) | (show WQ _ _ _ _; with_reducible first | refine jV ?_ | refine jW ?_ | refine jX ?_ | refine jY ?_ | refine jZ ?_ | refine kA ?_ | refine kB ?_ | refine kC ?_) | ((first | (refine jG (fun hc => ?_) (fun hc => ?_) <;> rw [hc]) | refine jQ (fun hc => ?_) (fun hc => ?_)) <;> (try simp only [nrB] at hc) <;> (try (exfalso; first | omega | exact hc trivial | exact hc rfl)))))
  refine WC_loop (X := Nat × Nat × Chunk × Chunk) (fun x => [(0, .pointer (some ⟨p, 0, none⟩)), (1, .int .u32 (v : Int)), (6, .int .i64 ((x.1 : Int) - 1))])
    (fun x => x.2.2.1 :: x.2.2.2 :: L) (fun x => x.1 ≤ c ∧ x.2.1 + 2 ^ (c - x.1) * mir v x.1 = mir v c ∧ RwD p (V + 2 ^ N * x.2.1) (N + (c - x.1)) x.2.2.1 x.2.2.2) (fun x => x.1) (c, 0, D, E) ⟨Nat.le_refl _, by simp only; rw [Nat.sub_self]; omega, h.cast (by rfl) (by simp only; omega)⟩ (by repeat (first | exact Sub.nil | refine Sub.cons rfl ?_ | refine Sub.cons (lk_int rfl (by first | omega | (dsimp only; omega))) ?_)) (fun w h => h) ?_
  rintro ⟨i, A, D, E⟩ ⟨hi, hA, hR⟩
  simp only at hi hA hR ⊢
  (repeat' (first | (show WL _ _ _ _ _ _ _; first | refine jA ?_ | refine jB ?_ | refine jC ?_ | refine jD ?_ | refine jE ?_ | refine jF ?_) | (show OW _ _ _ _ _ _; first | refine OW_E ?_ | refine jI ?_ | refine jJ ?_ | refine jK (fun bk => ?_) | refine jL (fun bk => ?_)) | (show WC _ _ _ _ _ _; first | refine jM ?_ | refine jN ?_ | refine jO ?_ | refine jP ?_ | refine jR ?_ | refine jS ?_ | refine jT ?_ | refine jU ?_) | (show WQ _ _ _ _; with_reducible first | refine jV ?_ | refine jW ?_ | refine jX ?_ | refine jY ?_ | refine jZ ?_ | refine kA ?_ | refine kB ?_ | refine kC ?_) | ((first | (refine jG (fun hc => ?_) (fun hc => ?_) <;> rw [hc]) | refine jQ (fun hc => ?_) (fun hc => ?_)) <;> (try simp only [nrB] at hc) <;> (try (exfalso; first | omega | exact hc trivial | exact hc rfl)))))
  · obtain ⟨j, rfl⟩ : ∃ j, i = j + 1 := ⟨i - 1, by omega⟩
    rw [show ((j + 1 : Nat) : Int) - 1 = (j : Int) from by omega]
    refine OW_EV (EV_nshr v j rfl rfl rfl rfl (by simp only [IntKind.bits]; omega)) rfl ?_
    (repeat' (first | (show WL _ _ _ _ _ _ _; first | refine jA ?_ | refine jB ?_ | refine jC ?_ | refine jD ?_ | refine jE ?_ | refine jF ?_) | (show OW _ _ _ _ _ _; first | refine OW_E ?_ | refine jI ?_ | refine jJ ?_ | refine jK (fun bk => ?_) | refine jL (fun bk => ?_)) | (show WC _ _ _ _ _ _; first | refine jM ?_ | refine jN ?_ | refine jO ?_ | refine jP ?_ | refine jR ?_ | refine jS ?_ | refine jT ?_ | refine jU ?_) | (show WQ _ _ _ _; with_reducible first | refine jV ?_ | refine jW ?_ | refine jX ?_ | refine jY ?_ | refine jZ ?_ | refine kA ?_ | refine kB ?_ | refine kC ?_) | ((first | (refine jG (fun hc => ?_) (fun hc => ?_) <;> rw [hc]) | refine jQ (fun hc => ?_) (fun hc => ?_)) <;> (try simp only [nrB] at hc) <;> (try (exfalso; first | omega | exact hc trivial | exact hc rfl)))))
    refine OW_call rfl rfl rfl (rone_n p _ _ (v / 2 ^ j) D E L hR (Nat.lt_of_le_of_lt (Nat.div_le_self _ _) hv) (by omega)) rfl (fun r L' hp => ?_)
    obtain ⟨rfl, D', E', hR', rfl⟩ := hp
    (repeat' (first | (show WL _ _ _ _ _ _ _; first | refine jA ?_ | refine jB ?_ | refine jC ?_ | refine jD ?_ | refine jE ?_ | refine jF ?_) | (show OW _ _ _ _ _ _; first | refine OW_E ?_ | refine jI ?_ | refine jJ ?_ | refine jK (fun bk => ?_) | refine jL (fun bk => ?_)) | (show WC _ _ _ _ _ _; first | refine jM ?_ | refine jN ?_ | refine jO ?_ | refine jP ?_ | refine jR ?_ | refine jS ?_ | refine jT ?_ | refine jU ?_) | (show WQ _ _ _ _; with_reducible first | refine jV ?_ | refine jW ?_ | refine jX ?_ | refine jY ?_ | refine jZ ?_ | refine kA ?_ | refine kB ?_ | refine kC ?_) | ((first | (refine jG (fun hc => ?_) (fun hc => ?_) <;> rw [hc]) | refine jQ (fun hc => ?_) (fun hc => ?_)) <;> (try simp only [nrB] at hc) <;> (try (exfalso; first | omega | exact hc trivial | exact hc rfl)))))
    have hR2 := hR'.cast (V' := V + 2 ^ N * (A + 2 ^ (c - (j + 1)) * (v / 2 ^ j % 2))) (N' := N + (c - j)) (by rw [Nat.mul_add, Nat.pow_add]; ac_rfl) (by omega)
    refine WQ_round (X := Nat × Nat × Chunk × Chunk) (μ := fun x => x.1) (x := (j + 1, A, D, E)) (j, A + 2 ^ (c - (j + 1)) * (v / 2 ^ j % 2), D', E') (by simp only; omega) ⟨by simp only; omega, ?_, hR2⟩ (by repeat (first | exact Sub.nil | refine Sub.cons rfl ?_ | refine Sub.cons (lk_int rfl (by first | omega | (dsimp only; omega))) ?_)) (fun w h => iH h)
    simp only
    rw [← hA, show c - j = c - (j + 1) + 1 from by omega, Nat.pow_succ]
    simp only [mir]
    rw [Nat.mul_add, Nat.mul_assoc, Nat.add_assoc]
    congr 1
    rw [Nat.add_comm]
  · obtain rfl : i = 0 := by omega
    rw [show mir v 0 = 0 from rfl, Nat.mul_zero, Nat.add_zero] at hA
    rw [hA] at hR
    (first | refine WQ_retI rfl rfl ?_ | refine WQ_endI rfl rfl ?_)
    exact ⟨_, iC, rfl, D, E, hR.cast rfl (by omega), rfl⟩

end Go.Proofs.YtkiaegkojlhaeaaDoor
