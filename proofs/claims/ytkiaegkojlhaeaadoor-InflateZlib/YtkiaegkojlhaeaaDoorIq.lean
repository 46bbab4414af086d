/- The document's own answer for layer 6: RFC 1950; InflateZlib's body. It proves no statement by itself. No conditions. -/
import Derived.Test.YtkiaegkojlhaeaaDoorIl
import Derived.Test.YtkiaegkojlhaeaaDoorIy
namespace Go.If
open Go.Vx Go.Hf
set_option linter.all false
/- Never more bytes than may be. -/
theorem pt_m {most : Nat} {s : S6} {c : UInt8} (h : s.out.length ≤ most) : (pt most s c).out.length ≤ most := by
  unfold pt
  split
  · rw [fl_out]; exact h
  · simp; omega
theorem cpL_m {most far : Nat} : ∀ {n : Nat} {s : S6}, s.out.length ≤ most → (cpL most far n s).out.length ≤ most
  | 0, s, h => h
  | n + 1, s, h => by
    rw [cpL]
    split
    · exact cpL_m (pt_m h)
    · exact h
theorem mtS_m [W0] {d : List UInt8} {most k : Nat} {dl : List Nat} {s : S6} (h : s.out.length ≤ most) : (mtS d most k dl s).out.length ≤ most := by
  unfold mtS mtD
  repeat' split
  all_goals first
    | (refine cpL_m ?_; simp only [fl_out, tk_out, sy_o]; exact h)
    | (simp only [fl_out, tk_out, sy_o]; exact h)
theorem cdC_m [W0] {d : List UInt8} {most : Nat} {l dl : List Nat} : ∀ {f : Nat} {s : S6}, s.out.length ≤ most → (cdC d most l dl f s).out.length ≤ most
  | 0, s, h => h
  | f + 1, s, h => by
    have hs : (sy d s l).out.length ≤ most := by rw [sy_o]; exact h
    rw [cdC]
    split
    · exact h
    · split
      · exact hs
      · split
        · exact cdC_m (pt_m hs)
        · split
          · exact hs
          · exact cdC_m (mtS_m hs)
theorem stL_m [W0] {d : List UInt8} {most : Nat} : ∀ {k : Nat} {s : S6}, s.out.length ≤ most → (stL d most k s).out.length ≤ most
  | 0, s, h => h
  | k + 1, s, h => by
    have hs : (tk d s 8).out.length ≤ most := by rw [tk_out]; exact h
    rw [stL]
    split
    · refine stL_m ?_
      split
      · exact pt_m hs
      · exact hs
    · exact h
theorem bkS_m [W0] {d : List UInt8} {most k : Nat} {s : S6} (h : s.out.length ≤ most) : (bkS d most k s).out.length ≤ most := by
  unfold bkS stS dbS
  split
  · refine stL_m ?_
    split <;> simp only [fl_out, tk_out] <;> exact h
  · split
    · exact cdC_m h
    · split
      · rw [dyS_out]; exact h
      · exact cdC_m (by rw [dyS_out]; exact h)
theorem rwS_m [W0] {d : List UInt8} {most : Nat} : ∀ {f : Nat} {s : S6}, s.out.length ≤ most → (rwS d most f s).out.length ≤ most
  | 0, s, h => h
  | f + 1, s, h => by
    have hs : (tk d s 3).out.length ≤ most := by rw [tk_out]; exact h
    have hb := bkS_m (d := d) (k := tv d s 3 / 2) hs
    rw [rwS]
    split
    · exact hs
    · split
      · rw [fl_out]; exact hs
      · split
        · exact hb
        · split
          · exact hb
          · exact rwS_m hb
theorem rawS_m [W0] (d : List UInt8) (most : Nat) : (rawS d most).out.length ≤ most := rwS_m (Nat.zero_le _)
end Go.If
namespace Go.Proofs.YtkiaegkojlhaeaaDoor
open Go Go.Vx Go.Hf Go.If
variable [W0]
set_option maxRecDepth 4000
set_option linter.all false
omit [W0] in
/-- A number, the highest byte first. -/
def gtN (t : List UInt8) : Nat := t.foldl (fun n x => n * 256 + x.toNat) 0
theorem gtN_snoc (t : List UInt8) (x : UInt8) : gtN (t ++ [x]) = gtN t * 256 + x.toNat := by simp [gtN]
theorem gtN_four (t : List UInt8) (h : t.length = 4) : gtN t = wdN (t.getD 0 0).toNat (t.getD 1 0).toNat (t.getD 2 0).toNat (t.getD 3 0).toNat := by
  match t, h with
  | [a, b, c, d], _ => simp [gtN, wdN]

set_option maxHeartbeats 4000000 in
theorem refget_n (a : Option Addr) (c : Nat) (t : List UInt8) (L : List Chunk) (hv : Sl L 1 (.slice a t.length c) t.length (bsv t)) (hl : t.length ≤ 7) :
    GvP Tryd.prog 30 [.slice a t.length c].toArray L (.int .u64 ((gtN t : Nat) : Int)) := by
  refine Gv.of_body Tryd.func30 rfl rfl ?_
  (repeat' (first | (show WL _ _ _ _ _ _ _; first | refine jA ?_ | refine jB ?_ | refine jC ?_ | refine jD ?_ | refine jE ?_ | refine jF ?_) | (show OW _ _ _ _ _ _; first | refine OW_E ?_ | refine jI ?_ | refine jJ ?_ | refine jK (fun bk => ?_) | refine jL (fun bk => ?_)) | (show WC _ _ _ _ _ _; first | refine jM ?_ | refine jN ?_ | refine jO ?_ | refine jP ?_ | refine jR ?_ | refine jS ?_ | refine jT ?_ | refine jU ?_) | (show WQ _ _ _ _; with_reducible first | refine jV ?_ | refine jW ?_ | refine jX ?_ | refine jY ?_ | refine jZ ?_ | refine kA ?_ | refine kB ?_ | refine kC ?_) | ((first | (refine jG (fun hc => ?_) (fun hc => ?_) <;> rw [hc]) | refine jQ (fun hc => ?_) (fun hc => ?_)) <;> (try simp only [nrB] at hc) <;> (try (exfalso; first | omega | exact hc trivial | exact hc rfl)))))
  refine WC_loop (X := Nat) (fun k => [(0, .slice a t.length c), (3, .int .u64 ((gtN (t.take k) : Nat) : Int)), (4, .int .i64 (k : Int))]) (fun _ => L)
    (fun k => k ≤ t.length ∧ gtN (t.take k) < 256 ^ k) (fun k => t.length - k) 0 ⟨Nat.zero_le _, by simp [gtN]⟩ (by repeat (first | exact Sub.nil | refine Sub.cons rfl ?_ | refine Sub.cons (lk_int rfl (by first | omega | (dsimp only; omega))) ?_)) (fun w h => h) ?_
  rintro k ⟨hk, hb⟩
  (repeat' (first | (show WL _ _ _ _ _ _ _; first | refine jA ?_ | refine jB ?_ | refine jC ?_ | refine jD ?_ | refine jE ?_ | refine jF ?_) | (show OW _ _ _ _ _ _; first | refine OW_E ?_ | refine jI ?_ | refine jJ ?_ | refine jK (fun bk => ?_) | refine jL (fun bk => ?_)) | (show WC _ _ _ _ _ _; first | refine jM ?_ | refine jN ?_ | refine jO ?_ | refine jP ?_ | refine jR ?_ | refine jS ?_ | refine jT ?_ | refine jU ?_) | (show WQ _ _ _ _; with_reducible first | refine jV ?_ | refine jW ?_ | refine jX ?_ | refine jY ?_ | refine jZ ?_ | refine kA ?_ | refine kB ?_ | refine kC ?_) | ((first | (refine jG (fun hc => ?_) (fun hc => ?_) <;> rw [hc]) | refine jQ (fun hc => ?_) (fun hc => ?_)) <;> (try simp only [nrB] at hc) <;> (try (exfalso; first | omega | exact hc trivial | exact hc rfl)))))
  · have hlt : k < t.length := by omega
    obtain ⟨bb, off, cap, cc, bT, bfr, hve, hfn, hcell⟩ := sl_byte hv hlt
    injection hve with e1 e2 e3
    subst e1 e3
    clear e2
    have h8 := (t.getD k 0).toNat_lt
    have hs : gtN (t.take (k + 1)) = gtN (t.take k) * 256 + (t.getD k 0).toNat := by rw [take_succ 0 hlt, gtN_snoc]
    have hp : 256 ^ (k + 1) = 256 ^ k * 256 := Nat.pow_succ ..
    have hp7 : 256 ^ (k + 1) ≤ 256 ^ 7 := Nat.pow_le_pow_right (by decide) (by omega)
    generalize gtN (t.take k) = g at hb hs ⊢
    generalize (t.getD k 0).toNat = x at hcell h8 hs
    refine OW_EV (EV_ari (r := 256 * (g : Int)) rfl rfl rfl) rfl ?_
    rw [show 256 * (g : Int) = ((256 * g : Nat) : Int) from by omega, wrap_nat (k := .u64) rfl (by simp only [IntKind.bits]; omega)]
    (repeat' (first | (show WL _ _ _ _ _ _ _; first | refine jA ?_ | refine jB ?_ | refine jC ?_ | refine jD ?_ | refine jE ?_ | refine jF ?_) | (show OW _ _ _ _ _ _; first | refine OW_E ?_ | refine jI ?_ | refine jJ ?_ | refine jK (fun bk => ?_) | refine jL (fun bk => ?_)) | (show WC _ _ _ _ _ _; first | refine jM ?_ | refine jN ?_ | refine jO ?_ | refine jP ?_ | refine jR ?_ | refine jS ?_ | refine jT ?_ | refine jU ?_) | (show WQ _ _ _ _; with_reducible first | refine jV ?_ | refine jW ?_ | refine jX ?_ | refine jY ?_ | refine jZ ?_ | refine kA ?_ | refine kB ?_ | refine kC ?_) | ((first | (refine jG (fun hc => ?_) (fun hc => ?_) <;> rw [hc]) | refine jQ (fun hc => ?_) (fun hc => ?_)) <;> (try simp only [nrB] at hc) <;> (try (exfalso; first | omega | exact hc trivial | exact hc rfl)))))
    refine OW_EV (EV_indexAddr (j := k) rfl rfl rfl hlt) rfl ?_
    (repeat' (first | (show WL _ _ _ _ _ _ _; first | refine jA ?_ | refine jB ?_ | refine jC ?_ | refine jD ?_ | refine jE ?_ | refine jF ?_) | (show OW _ _ _ _ _ _; first | refine OW_E ?_ | refine jI ?_ | refine jJ ?_ | refine jK (fun bk => ?_) | refine jL (fun bk => ?_)) | (show WC _ _ _ _ _ _; first | refine jM ?_ | refine jN ?_ | refine jO ?_ | refine jP ?_ | refine jR ?_ | refine jS ?_ | refine jT ?_ | refine jU ?_) | (show WQ _ _ _ _; with_reducible first | refine jV ?_ | refine jW ?_ | refine jX ?_ | refine jY ?_ | refine jZ ?_ | refine kA ?_ | refine kB ?_ | refine kC ?_) | ((first | (refine jG (fun hc => ?_) (fun hc => ?_) <;> rw [hc]) | refine jQ (fun hc => ?_) (fun hc => ?_)) <;> (try simp only [nrB] at hc) <;> (try (exfalso; first | omega | exact hc trivial | exact hc rfl)))))
    refine OW_EV (EV_load rfl hfn hcell) rfl ?_
    (repeat' (first | (show WL _ _ _ _ _ _ _; first | refine jA ?_ | refine jB ?_ | refine jC ?_ | refine jD ?_ | refine jE ?_ | refine jF ?_) | (show OW _ _ _ _ _ _; first | refine OW_E ?_ | refine jI ?_ | refine jJ ?_ | refine jK (fun bk => ?_) | refine jL (fun bk => ?_)) | (show WC _ _ _ _ _ _; first | refine jM ?_ | refine jN ?_ | refine jO ?_ | refine jP ?_ | refine jR ?_ | refine jS ?_ | refine jT ?_ | refine jU ?_) | (show WQ _ _ _ _; with_reducible first | refine jV ?_ | refine jW ?_ | refine jX ?_ | refine jY ?_ | refine jZ ?_ | refine kA ?_ | refine kB ?_ | refine kC ?_) | ((first | (refine jG (fun hc => ?_) (fun hc => ?_) <;> rw [hc]) | refine jQ (fun hc => ?_) (fun hc => ?_)) <;> (try simp only [nrB] at hc) <;> (try (exfalso; first | omega | exact hc trivial | exact hc rfl)))))
    refine OW_EV (EV_ari (r := ((256 * g : Nat) : Int) + (x : Int)) rfl rfl rfl) rfl ?_
    rw [show ((256 * g : Nat) : Int) + (x : Int) = ((256 * g + x : Nat) : Int) from by omega, wrap_nat (k := .u64) rfl (by simp only [IntKind.bits]; omega)]
    (repeat' (first | (show WL _ _ _ _ _ _ _; first | refine jA ?_ | refine jB ?_ | refine jC ?_ | refine jD ?_ | refine jE ?_ | refine jF ?_) | (show OW _ _ _ _ _ _; first | refine OW_E ?_ | refine jI ?_ | refine jJ ?_ | refine jK (fun bk => ?_) | refine jL (fun bk => ?_)) | (show WC _ _ _ _ _ _; first | refine jM ?_ | refine jN ?_ | refine jO ?_ | refine jP ?_ | refine jR ?_ | refine jS ?_ | refine jT ?_ | refine jU ?_) | (show WQ _ _ _ _; with_reducible first | refine jV ?_ | refine jW ?_ | refine jX ?_ | refine jY ?_ | refine jZ ?_ | refine kA ?_ | refine kB ?_ | refine kC ?_) | ((first | (refine jG (fun hc => ?_) (fun hc => ?_) <;> rw [hc]) | refine jQ (fun hc => ?_) (fun hc => ?_)) <;> (try simp only [nrB] at hc) <;> (try (exfalso; first | omega | exact hc trivial | exact hc rfl)))))
    rw [show 256 * g + x = gtN (t.take (k + 1)) by omega]
    refine WQ_round (X := Nat) (μ := fun k => t.length - k) (x := k) (k + 1) (by omega) ⟨by omega, by omega⟩ (by repeat (first | exact Sub.nil | refine Sub.cons rfl ?_ | refine Sub.cons (lk_int rfl (by first | omega | (dsimp only; omega))) ?_)) (fun w h => h)
  · have hk : k = t.length := by omega
    subst hk
    rw [List.take_length]
    (first | refine WQ_retI rfl rfl ?_ | refine WQ_endI rfl rfl ?_)
    exact ⟨L, iC, rfl, rfl⟩

set_option maxHeartbeats 16000000 in
theorem wzlib_n (a : Option Addr) (c : Nat) (d : List UInt8) (mo : Int) (m : Nat) (L : List Chunk) (hv : Sl L 1 (.slice a d.length c) d.length (bsv d)) (hl : d.length ≤ 1000000) (hcap : d.length ≤ c) (hm1 : max mo 0 = (m : Int)) (hm : m ≤ 1000000) :
    Gv Tryd.prog 15 [.slice a d.length c, .int .i64 mo].toArray L (fun r L' =>
      (zlE d m ≠ 0 ∧ r = .agg #[.slice none 0 0, .int .i64 0, .int .i64 (zlE d m : Int)] ∧ L' = L) ∨
      (zlE d m = 0 ∧ ∃ v C, r = .agg #[v, .int .i64 ((2 + usd d m + 4 : Nat) : Int), .int .i64 0] ∧ Ow 5 1 v (rawS (d.drop 2) m).out.length (bsv (rawS (d.drop 2) m).out) C ∧ L' = C :: L)) := by
  refine Gv.of_body Tryd.func15 rfl rfl ?_
  (repeat' (first | (show WL _ _ _ _ _ _ _; first | refine jA ?_ | refine jB ?_ | refine jC ?_ | refine jD ?_ | refine jE ?_ | refine jF ?_) | (show OW _ _ _ _ _ _; first | refine OW_E ?_ | refine jI ?_ | refine jJ ?_ | refine jK (fun bk => ?_) | refine jL (fun bk => ?_)) | (show WC _ _ _ _ _ _; first | refine jM ?_ | refine jN ?_ | refine jO ?_ | refine jP ?_ | refine jR ?_ | refine jS ?_ | refine jT ?_ | refine jU ?_) | (show WQ _ _ _ _; with_reducible first | refine jV ?_ | refine jW ?_ | refine jX ?_ | refine jY ?_ | refine jZ ?_ | refine kA ?_ | refine kB ?_ | refine kC ?_) | ((first | (refine jG (fun hc => ?_) (fun hc => ?_) <;> rw [hc]) | refine jQ (fun hc => ?_) (fun hc => ?_)) <;> (try simp only [nrB] at hc) <;> (try (exfalso; first | omega | exact hc trivial | exact hc rfl)))))
  · have hz : zlE d m = 4 := by unfold zlE; rw [if_pos (show d.length < 2 by omega)]
    rw [hz]
    first
      | (refine WQ_retC (vs := [.agg #[.slice none 0 0, .int .i64 0, .int .i64 4]]) rfl (.agg ⟨by kernel_rfl, by kernel_rfl⟩ rfl (RdAt.cl' (vs := [.slice none 0 0, .int .i64 0, .int .i64 4]) (by repeat (first | assumption | exact Fnd.here | refine Fnd.there ?_)) rfl) rfl .nil) ?_
         exact ⟨L, fun w h => iH h, .inl ⟨by first | decide | assumption, rfl, rfl⟩⟩)
      | (refine WQ_endC (vs := [.agg #[.slice none 0 0, .int .i64 0, .int .i64 4]]) rfl (.agg ⟨by kernel_rfl, by kernel_rfl⟩ rfl (RdAt.cl' (vs := [.slice none 0 0, .int .i64 0, .int .i64 4]) (by repeat (first | assumption | exact Fnd.here | refine Fnd.there ?_)) rfl) rfl .nil) ?_
         exact ⟨L, fun w h => iH h, .inl ⟨by first | decide | assumption, rfl, rfl⟩⟩)
  have h2 : ¬ d.length < 2 := by omega
  have hz : zlE d m = if hdK (byt d 0) (byt d 1) = false then 3 else if (rawS (d.drop 2) m).e ≠ 0 then (rawS (d.drop 2) m).e else if d.length < 2 + usd d m + 4 then 4 else if wdN (byt d (2 + usd d m)) (byt d (2 + usd d m + 1)) (byt d (2 + usd d m + 2)) (byt d (2 + usd d m + 3)) ≠ adS d m then 6 else 0 := by
    unfold zlE; rw [if_neg h2]
  rw [hz]
  clear hz
  obtain ⟨bb, off, cap, cc, T, fr, hve, hfn, hcs⟩ := sl_bytes hv (by omega)
  injection hve with q1 q2 q3
  subst q1 q3
  clear q2
  have hx := (d.getD 0 0).toNat_lt
  have hy := (d.getD 1 0).toNat_lt
  have hc0 := hcs 0 (by omega)
  have hc1 := hcs 1 (by omega)
  generalize hKd : hdK (byt d 0) (byt d 1) = K
  have hdf : ¬ (byt d 0 % 16 = 8 ∧ byt d 0 / 16 ≤ 7 ∧ (byt d 0 * 256 + byt d 1) % 31 = 0 ∧ byt d 1 &&& 32 = 0) → hdK (byt d 0) (byt d 1) = false := by
    intro h
    cases hh : hdK (byt d 0) (byt d 1)
    · rfl
    · exfalso
      unfold hdK at hh
      simp only [Bool.and_eq_true, beq_iff_eq, decide_eq_true_eq] at hh
      exact h ⟨hh.1.1.1, hh.1.1.2, hh.1.2, hh.2⟩
  have hdt : byt d 0 % 16 = 8 ∧ byt d 0 / 16 ≤ 7 ∧ (byt d 0 * 256 + byt d 1) % 31 = 0 ∧ byt d 1 &&& 32 = 0 → hdK (byt d 0) (byt d 1) = true := by
    rintro ⟨h1, h2, h3, h4⟩
    unfold hdK
    rw [h1, h3, h4, decide_eq_true h2]
    rfl
  change byt d 0 < 256 at hx
  change byt d 1 < 256 at hy
  change cc[off + 0 * 1]? = some (Value.int .u8 (byt d 0 : Int)) at hc0
  change cc[off + 1 * 1]? = some (Value.int .u8 (byt d 1 : Int)) at hc1
  generalize byt d 0 = x at hx hc0 hdf hdt hKd
  generalize byt d 1 = y at hy hc1 hdf hdt hKd
  refine WC_drawAll [] mixed ?_
  (refine WR_t 0 ?_)
  (refine WR_take 1 rfl rfl (by kernel_rfl) (by repeat (first | with_reducible exact PO.body | with_reducible exact RP_po | with_reducible refine PO.then ?_ | with_reducible refine PO.block ?_)) iC (EV_indexAddr (j := 0) rfl rfl rfl (by omega)) (by rfl) ?_)
  (refine WR_take 2 rfl rfl (by kernel_rfl) (by repeat (first | with_reducible exact PO.body | with_reducible exact RP_po | with_reducible refine PO.then ?_ | with_reducible refine PO.block ?_)) iC (EV_load rfl hfn.there hc0) (by rfl) ?_)
  (refine WR_take 3 rfl rfl (by kernel_rfl) (by repeat (first | with_reducible exact PO.body | with_reducible exact RP_po | with_reducible refine PO.then ?_ | with_reducible refine PO.block ?_)) iC (EV_nand (k := .u8) x 4 rfl rfl rfl rfl rfl (by simp only [IntKind.bits]; omega) (by decide)) (by rfl) ?_)
  (refine WR_t 4 ?_; refine WR_t 5 ?_)
  by_cases c1 : x % 16 = 8
  rotate_left
  · rw [show (((x % 2 ^ 4 : Nat) : Int) != 8) = true from by simp; omega]
    (refine WR_v 6 ?_; refine WR_v 7 ?_; refine WR_v 8 ?_; refine WR_v 9 ?_; refine WR_v 10 ?_)
    (refine WR_t 11 ?_; refine WR_t 12 ?_)
    (refine WR_v 13 ?_; refine WR_v 14 ?_; refine WR_v 15 ?_; refine WR_v 16 ?_; refine WR_v 17 ?_; refine WR_v 18 ?_; refine WR_v 19 ?_; refine WR_v 20 ?_; refine WR_v 21 ?_; refine WR_v 22 ?_; refine WR_v 23 ?_; refine WR_v 24 ?_)
    (refine WR_t 25 ?_; refine WR_t 26 ?_)
    (refine WR_v 27 ?_; refine WR_v 28 ?_; refine WR_v 29 ?_; refine WR_v 30 ?_; refine WR_v 31 ?_)
    (refine WR_t 32 ?_)
    have hK : K = false := by rw [← hKd]; exact hdf (fun h => c1 h.1)
    rw [if_pos hK]
    (refine WR_done (by kernel_rfl) ?_)
    (repeat' (first | (show WL _ _ _ _ _ _ _; first | refine jA ?_ | refine jB ?_ | refine jC ?_ | refine jD ?_ | refine jE ?_ | refine jF ?_) | (show OW _ _ _ _ _ _; first | refine OW_E ?_ | refine jI ?_ | refine jJ ?_ | refine jK (fun bk => ?_) | refine jL (fun bk => ?_)) | (show WC _ _ _ _ _ _; first | refine jM ?_ | refine jN ?_ | refine jO ?_ | refine jP ?_ | refine jR ?_ | refine jS ?_ | refine jT ?_ | refine jU ?_) | (show WQ _ _ _ _; with_reducible first | refine jV ?_ | refine jW ?_ | refine jX ?_ | refine jY ?_ | refine jZ ?_ | refine kA ?_ | refine kB ?_ | refine kC ?_) | ((first | (refine jG (fun hc => ?_) (fun hc => ?_) <;> rw [hc]) | refine jQ (fun hc => ?_) (fun hc => ?_)) <;> (try simp only [nrB] at hc) <;> (try (exfalso; first | omega | exact hc trivial | exact hc rfl)))))
    first
      | (refine WQ_retC (vs := [.agg #[.slice none 0 0, .int .i64 0, .int .i64 3]]) rfl (.agg ⟨by kernel_rfl, by kernel_rfl⟩ rfl (RdAt.cl' (vs := [.slice none 0 0, .int .i64 0, .int .i64 3]) (by repeat (first | assumption | exact Fnd.here | refine Fnd.there ?_)) rfl) rfl .nil) ?_
         exact ⟨L, fun w h => iH h, .inl ⟨by first | decide | assumption, rfl, rfl⟩⟩)
      | (refine WQ_endC (vs := [.agg #[.slice none 0 0, .int .i64 0, .int .i64 3]]) rfl (.agg ⟨by kernel_rfl, by kernel_rfl⟩ rfl (RdAt.cl' (vs := [.slice none 0 0, .int .i64 0, .int .i64 3]) (by repeat (first | assumption | exact Fnd.here | refine Fnd.there ?_)) rfl) rfl .nil) ?_
         exact ⟨L, fun w h => iH h, .inl ⟨by first | decide | assumption, rfl, rfl⟩⟩)
  rw [show (((x % 2 ^ 4 : Nat) : Int) != 8) = false from by simp; omega]
  (refine WR_u 6 ?_)
  (refine WR_takeOn 7 rfl rfl rfl (by kernel_rfl) (by repeat (first | with_reducible exact PO.body | with_reducible exact RP_po | with_reducible refine PO.then ?_ | with_reducible refine PO.block ?_)) iC (EV_indexAddr (j := 0) rfl rfl rfl (by omega)) (by rfl) ?_)
  (refine WR_takeOn 8 rfl rfl rfl (by kernel_rfl) (by repeat (first | with_reducible exact PO.body | with_reducible exact RP_po | with_reducible refine PO.then ?_ | with_reducible refine PO.block ?_)) iC (EV_load rfl hfn.there hc0) (by rfl) ?_)
  (refine WR_takeOn 9 rfl rfl rfl (by kernel_rfl) (by repeat (first | with_reducible exact PO.body | with_reducible exact RP_po | with_reducible refine PO.then ?_ | with_reducible refine PO.block ?_)) iC (EV_nshr (k := .u8) x 4 rfl rfl rfl rfl (by simp only [IntKind.bits]; omega)) (by rfl) ?_)
  (refine WR_u 10 ?_)
  (refine WR_t 11 ?_; refine WR_t 12 ?_)
  by_cases c2 : x / 16 ≤ 7
  rotate_left
  · rw [show decide (((x / 2 ^ 4 : Nat) : Int) > 7) = true from by simp; omega]
    (refine WR_v 13 ?_; refine WR_v 14 ?_; refine WR_v 15 ?_; refine WR_v 16 ?_; refine WR_v 17 ?_; refine WR_v 18 ?_; refine WR_v 19 ?_; refine WR_v 20 ?_; refine WR_v 21 ?_; refine WR_v 22 ?_; refine WR_v 23 ?_; refine WR_v 24 ?_)
    (refine WR_t 25 ?_; refine WR_t 26 ?_)
    (refine WR_v 27 ?_; refine WR_v 28 ?_; refine WR_v 29 ?_; refine WR_v 30 ?_; refine WR_v 31 ?_)
    (refine WR_t 32 ?_)
    have hK : K = false := by rw [← hKd]; exact hdf (fun h => c2 h.2.1)
    rw [if_pos hK]
    (refine WR_done (by kernel_rfl) ?_)
    (repeat' (first | (show WL _ _ _ _ _ _ _; first | refine jA ?_ | refine jB ?_ | refine jC ?_ | refine jD ?_ | refine jE ?_ | refine jF ?_) | (show OW _ _ _ _ _ _; first | refine OW_E ?_ | refine jI ?_ | refine jJ ?_ | refine jK (fun bk => ?_) | refine jL (fun bk => ?_)) | (show WC _ _ _ _ _ _; first | refine jM ?_ | refine jN ?_ | refine jO ?_ | refine jP ?_ | refine jR ?_ | refine jS ?_ | refine jT ?_ | refine jU ?_) | (show WQ _ _ _ _; with_reducible first | refine jV ?_ | refine jW ?_ | refine jX ?_ | refine jY ?_ | refine jZ ?_ | refine kA ?_ | refine kB ?_ | refine kC ?_) | ((first | (refine jG (fun hc => ?_) (fun hc => ?_) <;> rw [hc]) | refine jQ (fun hc => ?_) (fun hc => ?_)) <;> (try simp only [nrB] at hc) <;> (try (exfalso; first | omega | exact hc trivial | exact hc rfl)))))
    first
      | (refine WQ_retC (vs := [.agg #[.slice none 0 0, .int .i64 0, .int .i64 3]]) rfl (.agg ⟨by kernel_rfl, by kernel_rfl⟩ rfl (RdAt.cl' (vs := [.slice none 0 0, .int .i64 0, .int .i64 3]) (by repeat (first | assumption | exact Fnd.here | refine Fnd.there ?_)) rfl) rfl .nil) ?_
         exact ⟨L, fun w h => iH h, .inl ⟨by first | decide | assumption, rfl, rfl⟩⟩)
      | (refine WQ_endC (vs := [.agg #[.slice none 0 0, .int .i64 0, .int .i64 3]]) rfl (.agg ⟨by kernel_rfl, by kernel_rfl⟩ rfl (RdAt.cl' (vs := [.slice none 0 0, .int .i64 0, .int .i64 3]) (by repeat (first | assumption | exact Fnd.here | refine Fnd.there ?_)) rfl) rfl .nil) ?_
         exact ⟨L, fun w h => iH h, .inl ⟨by first | decide | assumption, rfl, rfl⟩⟩)
  rw [show decide (((x / 2 ^ 4 : Nat) : Int) > 7) = false from by simp; omega]
  (refine WR_u 13 ?_)
  (refine WR_takeOn 14 rfl rfl rfl (by kernel_rfl) (by repeat (first | with_reducible exact PO.body | with_reducible exact RP_po | with_reducible refine PO.then ?_ | with_reducible refine PO.block ?_)) iC (EV_indexAddr (j := 0) rfl rfl rfl (by omega)) (by rfl) ?_)
  (refine WR_takeOn 15 rfl rfl rfl (by kernel_rfl) (by repeat (first | with_reducible exact PO.body | with_reducible exact RP_po | with_reducible refine PO.then ?_ | with_reducible refine PO.block ?_)) iC (EV_load rfl hfn.there hc0) (by rfl) ?_)
  (refine WR_u 16 ?_; refine WR_u 17 ?_; refine WR_u 18 ?_)
  (refine WR_takeOn 19 rfl rfl rfl (by kernel_rfl) (by repeat (first | with_reducible exact PO.body | with_reducible exact RP_po | with_reducible refine PO.then ?_ | with_reducible refine PO.block ?_)) iC (EV_indexAddr (j := 1) rfl rfl rfl (by omega)) (by rfl) ?_)
  (refine WR_takeOn 20 rfl rfl rfl (by kernel_rfl) (by repeat (first | with_reducible exact PO.body | with_reducible exact RP_po | with_reducible refine PO.then ?_ | with_reducible refine PO.block ?_)) iC (EV_load rfl hfn.there hc1) (by rfl) ?_)
  (refine WR_u 21 ?_; refine WR_u 22 ?_)
  (refine WR_takeOn 23 rfl rfl rfl (by kernel_rfl) (by repeat (first | with_reducible exact PO.body | with_reducible exact RP_po | with_reducible refine PO.then ?_ | with_reducible refine PO.block ?_)) iC (EV_remN (x * 256 + y) 31 rfl rfl (by omega) rfl (by decide)) (by rfl) ?_)
  (refine WR_u 24 ?_)
  (refine WR_t 25 ?_; refine WR_t 26 ?_)
  by_cases c3 : (x * 256 + y) % 31 = 0
  rotate_left
  · rw [show ((((x * 256 + y) % 31 : Nat) : Int) != 0) = true from by simp; omega]
    (refine WR_v 27 ?_; refine WR_v 28 ?_; refine WR_v 29 ?_; refine WR_v 30 ?_; refine WR_v 31 ?_)
    (refine WR_t 32 ?_)
    have hK : K = false := by rw [← hKd]; exact hdf (fun h => c3 h.2.2.1)
    rw [if_pos hK]
    (refine WR_done (by kernel_rfl) ?_)
    (repeat' (first | (show WL _ _ _ _ _ _ _; first | refine jA ?_ | refine jB ?_ | refine jC ?_ | refine jD ?_ | refine jE ?_ | refine jF ?_) | (show OW _ _ _ _ _ _; first | refine OW_E ?_ | refine jI ?_ | refine jJ ?_ | refine jK (fun bk => ?_) | refine jL (fun bk => ?_)) | (show WC _ _ _ _ _ _; first | refine jM ?_ | refine jN ?_ | refine jO ?_ | refine jP ?_ | refine jR ?_ | refine jS ?_ | refine jT ?_ | refine jU ?_) | (show WQ _ _ _ _; with_reducible first | refine jV ?_ | refine jW ?_ | refine jX ?_ | refine jY ?_ | refine jZ ?_ | refine kA ?_ | refine kB ?_ | refine kC ?_) | ((first | (refine jG (fun hc => ?_) (fun hc => ?_) <;> rw [hc]) | refine jQ (fun hc => ?_) (fun hc => ?_)) <;> (try simp only [nrB] at hc) <;> (try (exfalso; first | omega | exact hc trivial | exact hc rfl)))))
    first
      | (refine WQ_retC (vs := [.agg #[.slice none 0 0, .int .i64 0, .int .i64 3]]) rfl (.agg ⟨by kernel_rfl, by kernel_rfl⟩ rfl (RdAt.cl' (vs := [.slice none 0 0, .int .i64 0, .int .i64 3]) (by repeat (first | assumption | exact Fnd.here | refine Fnd.there ?_)) rfl) rfl .nil) ?_
         exact ⟨L, fun w h => iH h, .inl ⟨by first | decide | assumption, rfl, rfl⟩⟩)
      | (refine WQ_endC (vs := [.agg #[.slice none 0 0, .int .i64 0, .int .i64 3]]) rfl (.agg ⟨by kernel_rfl, by kernel_rfl⟩ rfl (RdAt.cl' (vs := [.slice none 0 0, .int .i64 0, .int .i64 3]) (by repeat (first | assumption | exact Fnd.here | refine Fnd.there ?_)) rfl) rfl .nil) ?_
         exact ⟨L, fun w h => iH h, .inl ⟨by first | decide | assumption, rfl, rfl⟩⟩)
  rw [show ((((x * 256 + y) % 31 : Nat) : Int) != 0) = false from by simp; omega]
  (refine WR_u 27 ?_)
  (refine WR_takeOn 28 rfl rfl rfl (by kernel_rfl) (by repeat (first | with_reducible exact PO.body | with_reducible exact RP_po | with_reducible refine PO.then ?_ | with_reducible refine PO.block ?_)) iC (EV_indexAddr (j := 1) rfl rfl rfl (by omega)) (by rfl) ?_)
  (refine WR_takeOn 29 rfl rfl rfl (by kernel_rfl) (by repeat (first | with_reducible exact PO.body | with_reducible exact RP_po | with_reducible refine PO.then ?_ | with_reducible refine PO.block ?_)) iC (EV_load rfl hfn.there hc1) (by rfl) ?_)
  (refine WR_takeOn 30 rfl rfl rfl (by kernel_rfl) (by repeat (first | with_reducible exact PO.body | with_reducible exact RP_po | with_reducible refine PO.then ?_ | with_reducible refine PO.block ?_)) iC (EV_bit rfl rfl (bit_and8 (a := y) (b := 32) hy (by decide))) (by rfl) ?_)
  (refine WR_u 31 ?_)
  (refine WR_t 32 ?_)
  by_cases c4 : y &&& 32 = 0
  rotate_left
  · rw [show (((y &&& 32 : Nat) : Int) != 0) = true from by simp; omega]
    have hK : K = false := by rw [← hKd]; exact hdf (fun h => c4 h.2.2.2)
    rw [if_pos hK]
    (refine WR_done (by kernel_rfl) ?_)
    (repeat' (first | (show WL _ _ _ _ _ _ _; first | refine jA ?_ | refine jB ?_ | refine jC ?_ | refine jD ?_ | refine jE ?_ | refine jF ?_) | (show OW _ _ _ _ _ _; first | refine OW_E ?_ | refine jI ?_ | refine jJ ?_ | refine jK (fun bk => ?_) | refine jL (fun bk => ?_)) | (show WC _ _ _ _ _ _; first | refine jM ?_ | refine jN ?_ | refine jO ?_ | refine jP ?_ | refine jR ?_ | refine jS ?_ | refine jT ?_ | refine jU ?_) | (show WQ _ _ _ _; with_reducible first | refine jV ?_ | refine jW ?_ | refine jX ?_ | refine jY ?_ | refine jZ ?_ | refine kA ?_ | refine kB ?_ | refine kC ?_) | ((first | (refine jG (fun hc => ?_) (fun hc => ?_) <;> rw [hc]) | refine jQ (fun hc => ?_) (fun hc => ?_)) <;> (try simp only [nrB] at hc) <;> (try (exfalso; first | omega | exact hc trivial | exact hc rfl)))))
    first
      | (refine WQ_retC (vs := [.agg #[.slice none 0 0, .int .i64 0, .int .i64 3]]) rfl (.agg ⟨by kernel_rfl, by kernel_rfl⟩ rfl (RdAt.cl' (vs := [.slice none 0 0, .int .i64 0, .int .i64 3]) (by repeat (first | assumption | exact Fnd.here | refine Fnd.there ?_)) rfl) rfl .nil) ?_
         exact ⟨L, fun w h => iH h, .inl ⟨by first | decide | assumption, rfl, rfl⟩⟩)
      | (refine WQ_endC (vs := [.agg #[.slice none 0 0, .int .i64 0, .int .i64 3]]) rfl (.agg ⟨by kernel_rfl, by kernel_rfl⟩ rfl (RdAt.cl' (vs := [.slice none 0 0, .int .i64 0, .int .i64 3]) (by repeat (first | assumption | exact Fnd.here | refine Fnd.there ?_)) rfl) rfl .nil) ?_
         exact ⟨L, fun w h => iH h, .inl ⟨by first | decide | assumption, rfl, rfl⟩⟩)
  rw [show (((y &&& 32 : Nat) : Int) != 0) = false from by simp; omega]
  have hK : K = true := by rw [← hKd]; exact hdt ⟨c1, c2, c3, c4⟩
  rw [if_neg (show ¬ K = false from by rw [hK]; decide)]
  (refine WR_done (by kernel_rfl) ?_)
  (repeat' (first | (show WL _ _ _ _ _ _ _; first | refine jA ?_ | refine jB ?_ | refine jC ?_ | refine jD ?_ | refine jE ?_ | refine jF ?_) | (show OW _ _ _ _ _ _; first | refine OW_E ?_ | refine jI ?_ | refine jJ ?_ | refine jK (fun bk => ?_) | refine jL (fun bk => ?_)) | (show WC _ _ _ _ _ _; first | refine jM ?_ | refine jN ?_ | refine jO ?_ | refine jP ?_ | refine jR ?_ | refine jS ?_ | refine jT ?_ | refine jU ?_) | (show WQ _ _ _ _; with_reducible first | refine jV ?_ | refine jW ?_ | refine jX ?_ | refine jY ?_ | refine jZ ?_ | refine kA ?_ | refine kB ?_ | refine kC ?_) | ((first | (refine jG (fun hc => ?_) (fun hc => ?_) <;> rw [hc]) | refine jQ (fun hc => ?_) (fun hc => ?_)) <;> (try simp only [nrB] at hc) <;> (try (exfalso; first | omega | exact hc trivial | exact hc rfl)))))
  clear hKd hdf hdt hx hy hc0 hc1
  have hsub : ∀ k, k ≤ d.length → Sl L 1 (.slice (some ⟨bb, if c = k then off else off + k * 1, none⟩) (d.length - k) (c - k)) (d.length - k) (bsv (d.drop k)) := by
    intro k hk
    refine .inr ⟨_, _, rfl, ?_, by rw [bsv_length, List.length_drop, Nat.mul_one]⟩
    by_cases h0 : d.length = k
    · refine .inl ?_
      rw [List.drop_of_length_le (by omega)]; rfl
    · rw [if_neg (by omega)]
      refine .inr ⟨bb, _, cc, T, fr, rfl, hfn, fun j u hj => ?_⟩
      have hjl : j < (d.drop k).length := by
        have := (List.getElem?_eq_some_iff.1 hj).1
        rwa [bsv_length] at this
      have hj2 : u = .int .u8 ((d.getD (k + j) 0).toNat : Int) := by
        have h3 := bsv_get (l := d.drop k) (i := j) (b := d.getD (k + j) 0) (by rw [List.length_drop] at hjl; simp [List.getD, show k + j < d.length by omega])
        rw [h3] at hj
        injection hj with hj
        exact hj.symm
      rw [hj2, show off + k * 1 + j = off + (k + j) * 1 from by omega]
      rw [List.length_drop] at hjl
      exact hcs (k + j) (by omega)
  obtain ⟨gr, hgr⟩ : ∃ gr, gr = bk := ⟨_, rfl⟩
  rw [← hgr]
  clear hgr
  refine OW_holds (L' := [(gr, cl [.slice none 0 0, .int .i64 0, .int .i64 0] 38)] :: L) (fun w h => h) ?_
  have hra := wraw_n (some ⟨bb, if c = 2 then off else off + 2 * 1, none⟩) (c - 2) (d.drop 2) mo m ([(gr, cl [.slice none 0 0, .int .i64 0, .int .i64 0] 38)] :: L) (by rw [List.length_drop]; exact sl_there (hsub 2 (by omega))) (by rw [List.length_drop]; omega) hm1 hm
  rw [List.length_drop] at hra
  have hus : usd d m = ((rawS (d.drop 2) m).t + 7) / 8 := rfl
  have had : adS d m = (adlV (adlN (1#32, 0#32) (rawS (d.drop 2) m).out)).toNat := rfl
  have hrm := rawS_m (d.drop 2) m
  generalize rawS (d.drop 2) m = R at hra hus had hrm ⊢
  rw [← hus] at hra
  generalize usd d m = n at hra hus ⊢
  generalize adS d m = ad at had ⊢
  refine OW_EV (EV_sliceSl (l := 2) (h := d.length) rfl rfl rfl (by omega) hcap) rfl ?_
  (repeat' (first | (show WL _ _ _ _ _ _ _; first | refine jA ?_ | refine jB ?_ | refine jC ?_ | refine jD ?_ | refine jE ?_ | refine jF ?_) | (show OW _ _ _ _ _ _; first | refine OW_E ?_ | refine jI ?_ | refine jJ ?_ | refine jK (fun bk => ?_) | refine jL (fun bk => ?_)) | (show WC _ _ _ _ _ _; first | refine jM ?_ | refine jN ?_ | refine jO ?_ | refine jP ?_ | refine jR ?_ | refine jS ?_ | refine jT ?_ | refine jU ?_) | (show WQ _ _ _ _; with_reducible first | refine jV ?_ | refine jW ?_ | refine jX ?_ | refine jY ?_ | refine jZ ?_ | refine kA ?_ | refine kB ?_ | refine kC ?_) | ((first | (refine jG (fun hc => ?_) (fun hc => ?_) <;> rw [hc]) | refine jQ (fun hc => ?_) (fun hc => ?_)) <;> (try simp only [nrB] at hc) <;> (try (exfalso; first | omega | exact hc trivial | exact hc rfl)))))
  refine OW_call rfl rfl rfl hra rfl (fun r L' hp => ?_)
  rcases hp with ⟨h3, rfl, rfl⟩ | ⟨h3, v1, C1, rfl, ho1, ht1, rfl⟩
  · rw [if_pos h3]
    (repeat' (first | (show WL _ _ _ _ _ _ _; first | refine jA ?_ | refine jB ?_ | refine jC ?_ | refine jD ?_ | refine jE ?_ | refine jF ?_) | (show OW _ _ _ _ _ _; first | refine OW_E ?_ | refine jI ?_ | refine jJ ?_ | refine jK (fun bk => ?_) | refine jL (fun bk => ?_)) | (show WC _ _ _ _ _ _; first | refine jM ?_ | refine jN ?_ | refine jO ?_ | refine jP ?_ | refine jR ?_ | refine jS ?_ | refine jT ?_ | refine jU ?_) | (show WQ _ _ _ _; with_reducible first | refine jV ?_ | refine jW ?_ | refine jX ?_ | refine jY ?_ | refine jZ ?_ | refine kA ?_ | refine kB ?_ | refine kC ?_) | ((first | (refine jG (fun hc => ?_) (fun hc => ?_) <;> rw [hc]) | refine jQ (fun hc => ?_) (fun hc => ?_)) <;> (try simp only [nrB] at hc) <;> (try (exfalso; first | omega | exact hc trivial | exact hc rfl)))))
    first
      | (refine WQ_retC (vs := [.agg #[.slice none 0 0, .int .i64 0, .int .i64 (R.e : Int)]]) rfl (.agg ⟨by kernel_rfl, by kernel_rfl⟩ rfl (RdAt.cl' (vs := [.slice none 0 0, .int .i64 0, .int .i64 (R.e : Int)]) (by repeat (first | assumption | exact Fnd.here | refine Fnd.there ?_)) rfl) rfl .nil) ?_
         exact ⟨L, fun w h => iH h, .inl ⟨by first | decide | assumption, rfl, rfl⟩⟩)
      | (refine WQ_endC (vs := [.agg #[.slice none 0 0, .int .i64 0, .int .i64 (R.e : Int)]]) rfl (.agg ⟨by kernel_rfl, by kernel_rfl⟩ rfl (RdAt.cl' (vs := [.slice none 0 0, .int .i64 0, .int .i64 (R.e : Int)]) (by repeat (first | assumption | exact Fnd.here | refine Fnd.there ?_)) rfl) rfl .nil) ?_
         exact ⟨L, fun w h => iH h, .inl ⟨by first | decide | assumption, rfl, rfl⟩⟩)
  rw [if_neg (show ¬ R.e ≠ 0 by omega)]
  have hn2 : 2 + n ≤ d.length := by omega
  obtain ⟨v1a, v1c, rfl⟩ := ow_slc ho1
  (repeat' (first | (show WL _ _ _ _ _ _ _; first | refine jA ?_ | refine jB ?_ | refine jC ?_ | refine jD ?_ | refine jE ?_ | refine jF ?_) | (show OW _ _ _ _ _ _; first | refine OW_E ?_ | refine jI ?_ | refine jJ ?_ | refine jK (fun bk => ?_) | refine jL (fun bk => ?_)) | (show WC _ _ _ _ _ _; first | refine jM ?_ | refine jN ?_ | refine jO ?_ | refine jP ?_ | refine jR ?_ | refine jS ?_ | refine jT ?_ | refine jU ?_) | (show WQ _ _ _ _; with_reducible first | refine jV ?_ | refine jW ?_ | refine jX ?_ | refine jY ?_ | refine jZ ?_ | refine kA ?_ | refine kB ?_ | refine kC ?_) | ((first | (refine jG (fun hc => ?_) (fun hc => ?_) <;> rw [hc]) | refine jQ (fun hc => ?_) (fun hc => ?_)) <;> (try simp only [nrB] at hc) <;> (try (exfalso; first | omega | exact hc trivial | exact hc rfl)))))
  · rw [if_pos (show d.length < 2 + n + 4 by omega)]
    first
      | (refine WQ_retC (vs := [.agg #[.slice none 0 0, .int .i64 0, .int .i64 4]]) rfl (.agg ⟨by kernel_rfl, by kernel_rfl⟩ rfl (RdAt.cl' (vs := [.slice none 0 0, .int .i64 0, .int .i64 4]) (by repeat (first | assumption | exact Fnd.here | refine Fnd.there ?_)) rfl) rfl .nil) ?_
         exact ⟨L, fun w h => iH h, .inl ⟨by first | decide | assumption, rfl, rfl⟩⟩)
      | (refine WQ_endC (vs := [.agg #[.slice none 0 0, .int .i64 0, .int .i64 4]]) rfl (.agg ⟨by kernel_rfl, by kernel_rfl⟩ rfl (RdAt.cl' (vs := [.slice none 0 0, .int .i64 0, .int .i64 4]) (by repeat (first | assumption | exact Fnd.here | refine Fnd.there ?_)) rfl) rfl .nil) ?_
         exact ⟨L, fun w h => iH h, .inl ⟨by first | decide | assumption, rfl, rfl⟩⟩)
  rw [if_neg (show ¬ d.length < 2 + n + 4 by omega)]
  have hS4 : Sl L 1 (.slice (some ⟨bb, off + (2 + n) * 1, none⟩) 4 (c - (2 + n))) 4 (bsv ((d.drop (2 + n)).take 4)) := by
    refine .inr ⟨_, _, rfl, .inr ⟨bb, _, cc, T, fr, rfl, hfn, fun j u hj => ?_⟩, by rw [bsv_length, List.length_take, List.length_drop]; omega⟩
    have hjl : j < ((d.drop (2 + n)).take 4).length := by
      have := (List.getElem?_eq_some_iff.1 hj).1
      rwa [bsv_length] at this
    rw [List.length_take, List.length_drop] at hjl
    have h3 := bsv_get (l := (d.drop (2 + n)).take 4) (i := j) (b := d.getD (2 + n + j) 0) (by rw [List.getElem?_take, if_pos (by omega), List.getElem?_drop]; simp [List.getD, show 2 + n + j < d.length by omega])
    rw [h3] at hj
    injection hj with hj
    rw [← hj, show off + (2 + n) * 1 + j = off + (2 + n + j) * 1 from by omega]
    exact hcs (2 + n + j) (by omega)
  have hl4 : ((d.drop (2 + n)).take 4).length = 4 := by rw [List.length_take, List.length_drop]; omega
  have hwd : gtN ((d.drop (2 + n)).take 4) = wdN (byt d (2 + n)) (byt d (2 + n + 1)) (byt d (2 + n + 2)) (byt d (2 + n + 3)) := by
    have hg : ∀ j, j < 4 → (((d.drop (2 + n)).take 4).getD j 0).toNat = byt d (2 + n + j) := fun j hj => by simp [byt, List.getD, List.getElem?_take, hj]
    rw [gtN_four _ hl4, hg 0 (by decide), hg 1 (by decide), hg 2 (by decide), hg 3 (by decide)]
    rfl
  have hgt := fun L (h : Sl L 1 (.slice (some ⟨bb, off + (2 + n) * 1, none⟩) 4 (c - (2 + n))) 4 (bsv ((d.drop (2 + n)).take 4))) => refget_n (some ⟨bb, off + (2 + n) * 1, none⟩) (c - (2 + n)) ((d.drop (2 + n)).take 4) L (by rw [hl4]; exact h) (by omega)
  rw [hwd, hl4] at hgt
  generalize wdN (byt d (2 + n)) (byt d (2 + n + 1)) (byt d (2 + n + 2)) (byt d (2 + n + 3)) = wd at hgt ⊢
  have hadl : ∀ L, GvP Tryd.prog 31 [.string (str R.out)].toArray L (.int .u32 (ad : Int)) := fun L => by rw [had]; exact refadler_n R.out L (by omega)
  have hadb : ad < 2 ^ 32 := by rw [had]; exact BitVec.isLt _
  rw [show (2 : Int) + (n : Int) = ((2 + n : Nat) : Int) from by omega]
  obtain ⟨go, hgo⟩ : ∃ go, go = bk := ⟨_, rfl⟩
  rw [← hgo]
  clear hgo
  refine WC_holds' (L' := [(go, cl [.slice v1a R.out.length v1c, .int .i64 (n : Int), .int .i64 0] 38)] :: C1 :: [(gr, cl [.slice none 0 0, .int .i64 0, .int .i64 0] 38)] :: L) (fun w h => h) ?_
  refine WC_draw [[(go, cl [.slice v1a R.out.length v1c, .int .i64 (n : Int), .int .i64 0] 38)], C1] [] mixed ?_
  (refine WR_t 0 ?_; refine WR_t 1 ?_; refine WR_t 2 ?_; refine WR_t 3 ?_)
  (refine WR_take 4 rfl rfl (by kernel_rfl) (by repeat (first | with_reducible exact PO.body | with_reducible exact RP_po | with_reducible refine PO.then ?_ | with_reducible refine PO.block ?_)) iC (EV_sliceSl (l := 2 + n) (h := 2 + n + 4) rfl rfl rfl (by omega) (by omega)) (by rfl) ?_)
  rw [if_neg (show ¬ c = 2 + n by omega), show 2 + n + 4 - (2 + n) = 4 from by omega]
  (refine WR_t 6 ?_; refine WR_t 7 ?_)
  (refine WR_take 8 rfl rfl (by kernel_rfl) (by repeat (first | with_reducible exact PO.body | with_reducible exact RP_po | with_reducible refine PO.then ?_ | with_reducible refine PO.block ?_)) iC (EV_convStr (m := R.out.length) (b := R.out) rfl (by exact sl_there (ow_sl ho1))) (by rfl) ?_)
  (refine WR_one 5 (by kernel_rfl) rfl rfl ?_)
  refine OW_callP rfl rfl rfl (hgt _ (by repeat (first | exact hS4 | apply sl_there))) rfl ?_
  refine ⟨iC, ?_⟩
  (refine WR_one 9 (by kernel_rfl) rfl rfl ?_)
  refine OW_callP rfl rfl rfl (hadl _) rfl ?_
  refine ⟨iC, ?_⟩
  (refine WR_take 10 rfl rfl (by kernel_rfl) (by repeat (first | with_reducible exact PO.body | with_reducible exact RP_po | with_reducible refine PO.then ?_ | with_reducible refine PO.block ?_)) iC (EV_nconv ad rfl rfl rfl (by simp only [IntKind.bits]; omega)) (by rfl) ?_)
  (refine WR_t 11 ?_)
  (refine WR_done (by kernel_rfl) ?_)
  (repeat' (first | (show WL _ _ _ _ _ _ _; first | refine jA ?_ | refine jB ?_ | refine jC ?_ | refine jD ?_ | refine jE ?_ | refine jF ?_) | (show OW _ _ _ _ _ _; first | refine OW_E ?_ | refine jI ?_ | refine jJ ?_ | refine jK (fun bk => ?_) | refine jL (fun bk => ?_)) | (show WC _ _ _ _ _ _; first | refine jM ?_ | refine jN ?_ | refine jO ?_ | refine jP ?_ | refine jR ?_ | refine jS ?_ | refine jT ?_ | refine jU ?_) | (show WQ _ _ _ _; with_reducible first | refine jV ?_ | refine jW ?_ | refine jX ?_ | refine jY ?_ | refine jZ ?_ | refine kA ?_ | refine kB ?_ | refine kC ?_) | ((first | (refine jG (fun hc => ?_) (fun hc => ?_) <;> rw [hc]) | refine jQ (fun hc => ?_) (fun hc => ?_)) <;> (try simp only [nrB] at hc) <;> (try (exfalso; first | omega | exact hc trivial | exact hc rfl)))))
  · rw [if_pos (show wd ≠ ad by omega)]
    first
      | (refine WQ_retC (vs := [.agg #[.slice none 0 0, .int .i64 0, .int .i64 6]]) rfl (.agg ⟨by kernel_rfl, by kernel_rfl⟩ rfl (RdAt.cl' (vs := [.slice none 0 0, .int .i64 0, .int .i64 6]) (by repeat (first | assumption | exact Fnd.here | refine Fnd.there ?_)) rfl) rfl .nil) ?_
         exact ⟨L, fun w h => iH h, .inl ⟨by first | decide | assumption, rfl, rfl⟩⟩)
      | (refine WQ_endC (vs := [.agg #[.slice none 0 0, .int .i64 0, .int .i64 6]]) rfl (.agg ⟨by kernel_rfl, by kernel_rfl⟩ rfl (RdAt.cl' (vs := [.slice none 0 0, .int .i64 0, .int .i64 6]) (by repeat (first | assumption | exact Fnd.here | refine Fnd.there ?_)) rfl) rfl .nil) ?_
         exact ⟨L, fun w h => iH h, .inl ⟨by first | decide | assumption, rfl, rfl⟩⟩)
  · rw [if_neg (show ¬ wd ≠ ad by omega)]
    rw [show (2 : Int) + (n : Int) + 4 = ((2 + n + 4 : Nat) : Int) from by omega]
    first
      | (refine WQ_retC (vs := [.agg #[.slice v1a R.out.length v1c, .int .i64 ((2 + n + 4 : Nat) : Int), .int .i64 0]]) rfl (.agg ⟨by kernel_rfl, by kernel_rfl⟩ rfl (RdAt.cl' (vs := [.slice v1a R.out.length v1c, .int .i64 ((2 + n + 4 : Nat) : Int), .int .i64 0]) (by repeat (first | assumption | exact Fnd.here | refine Fnd.there ?_)) rfl) rfl .nil) ?_
         exact ⟨C1 :: L, fun w h => iH h, .inr ⟨rfl, _, C1, rfl, ho1, rfl⟩⟩)
      | (refine WQ_endC (vs := [.agg #[.slice v1a R.out.length v1c, .int .i64 ((2 + n + 4 : Nat) : Int), .int .i64 0]]) rfl (.agg ⟨by kernel_rfl, by kernel_rfl⟩ rfl (RdAt.cl' (vs := [.slice v1a R.out.length v1c, .int .i64 ((2 + n + 4 : Nat) : Int), .int .i64 0]) (by repeat (first | assumption | exact Fnd.here | refine Fnd.there ?_)) rfl) rfl .nil) ?_
         exact ⟨C1 :: L, fun w h => iH h, .inr ⟨rfl, _, C1, rfl, ho1, rfl⟩⟩)

set_option maxHeartbeats 16000000 in
theorem inflatezlib_n (a : Option Addr) (c : Nat) (b : List UInt8) (mo : Int) (L : List Chunk) (hv : Sl L 1 (.slice a b.length c) b.length (bsv b)) (hcap : b.length ≤ c) (hl : b.length ≤ 140737488351232) (hor : OrAt L) :
    GvP Tryd.prog 7 [.slice a b.length c, .int .i64 mo].toArray L (.bool true) := by
  refine Gv.of_body Tryd.func7 rfl rfl ?_
  (repeat' (first | (show WL _ _ _ _ _ _ _; first | refine jA ?_ | refine jB ?_ | refine jC ?_ | refine jD ?_ | refine jE ?_ | refine jF ?_) | (show OW _ _ _ _ _ _; first | refine OW_E ?_ | refine jI ?_ | refine jJ ?_ | refine jK (fun bk => ?_) | refine jL (fun bk => ?_)) | (show WC _ _ _ _ _ _; first | refine jM ?_ | refine jN ?_ | refine jO ?_ | refine jP ?_ | refine jR ?_ | refine jS ?_ | refine jT ?_ | refine jU ?_) | (show WQ _ _ _ _; with_reducible first | refine jV ?_ | refine jW ?_ | refine jX ?_ | refine jY ?_ | refine jZ ?_ | refine kA ?_ | refine kB ?_ | refine kC ?_) | ((first | (refine jG (fun hc => ?_) (fun hc => ?_) <;> rw [hc]) | refine jQ (fun hc => ?_) (fun hc => ?_)) <;> (try simp only [nrB] at hc) <;> (try (exfalso; first | omega | exact hc trivial | exact hc rfl)))))
  · refine OW_callP rfl rfl rfl (iawake_n L hor) rfl ?_
    (repeat' (first | (show WL _ _ _ _ _ _ _; first | refine jA ?_ | refine jB ?_ | refine jC ?_ | refine jD ?_ | refine jE ?_ | refine jF ?_) | (show OW _ _ _ _ _ _; first | refine OW_E ?_ | refine jI ?_ | refine jJ ?_ | refine jK (fun bk => ?_) | refine jL (fun bk => ?_)) | (show WC _ _ _ _ _ _; first | refine jM ?_ | refine jN ?_ | refine jO ?_ | refine jP ?_ | refine jR ?_ | refine jS ?_ | refine jT ?_ | refine jU ?_) | (show WQ _ _ _ _; with_reducible first | refine jV ?_ | refine jW ?_ | refine jX ?_ | refine jY ?_ | refine jZ ?_ | refine kA ?_ | refine kB ?_ | refine kC ?_) | ((first | (refine jG (fun hc => ?_) (fun hc => ?_) <;> rw [hc]) | refine jQ (fun hc => ?_) (fun hc => ?_)) <;> (try simp only [nrB] at hc) <;> (try (exfalso; first | omega | exact hc trivial | exact hc rfl)))))
    ((first | refine WQ_retI rfl rfl ?_ | refine WQ_endI rfl rfl ?_); exact ⟨_, iC, rfl, rfl⟩)
  · refine OW_callP rfl rfl rfl (iawake_n L hor) rfl ?_
    (repeat' (first | (show WL _ _ _ _ _ _ _; first | refine jA ?_ | refine jB ?_ | refine jC ?_ | refine jD ?_ | refine jE ?_ | refine jF ?_) | (show OW _ _ _ _ _ _; first | refine OW_E ?_ | refine jI ?_ | refine jJ ?_ | refine jK (fun bk => ?_) | refine jL (fun bk => ?_)) | (show WC _ _ _ _ _ _; first | refine jM ?_ | refine jN ?_ | refine jO ?_ | refine jP ?_ | refine jR ?_ | refine jS ?_ | refine jT ?_ | refine jU ?_) | (show WQ _ _ _ _; with_reducible first | refine jV ?_ | refine jW ?_ | refine jX ?_ | refine jY ?_ | refine jZ ?_ | refine kA ?_ | refine kB ?_ | refine kC ?_) | ((first | (refine jG (fun hc => ?_) (fun hc => ?_) <;> rw [hc]) | refine jQ (fun hc => ?_) (fun hc => ?_)) <;> (try simp only [nrB] at hc) <;> (try (exfalso; first | omega | exact hc trivial | exact hc rfl)))))
    ((first | refine WQ_retI rfl rfl ?_ | refine WQ_endI rfl rfl ?_); exact ⟨_, iC, rfl, rfl⟩)
  obtain ⟨m, hm⟩ : ∃ m : Nat, max mo 0 = (m : Int) := ⟨(max mo 0).toNat, by omega⟩
  have hp1 := pzlib_n a c b mo m L hv (by omega) hcap hm (by omega) hor
  have hp2 := fun L hv => wzlib_n a c b mo m L hv (by omega) hcap hm (by omega)
  generalize rawS (b.drop 2) m = R at hp1 hp2
  generalize zlE b m = e at hp1 hp2
  generalize 2 + usd b m + 4 = n at hp1 hp2
  refine OW_call rfl rfl rfl hp1 rfl (fun r L' hp => ?_)
  rcases hp with ⟨h1, rfl, rfl⟩ | ⟨h1, v1, C1, rfl, ho1, hl1, rfl⟩
  · (repeat' (first | (show WL _ _ _ _ _ _ _; first | refine jA ?_ | refine jB ?_ | refine jC ?_ | refine jD ?_ | refine jE ?_ | refine jF ?_) | (show OW _ _ _ _ _ _; first | refine OW_E ?_ | refine jI ?_ | refine jJ ?_ | refine jK (fun bk => ?_) | refine jL (fun bk => ?_)) | (show WC _ _ _ _ _ _; first | refine jM ?_ | refine jN ?_ | refine jO ?_ | refine jP ?_ | refine jR ?_ | refine jS ?_ | refine jT ?_ | refine jU ?_) | (show WQ _ _ _ _; with_reducible first | refine jV ?_ | refine jW ?_ | refine jX ?_ | refine jY ?_ | refine jZ ?_ | refine kA ?_ | refine kB ?_ | refine kC ?_) | ((first | (refine jG (fun hc => ?_) (fun hc => ?_) <;> rw [hc]) | refine jQ (fun hc => ?_) (fun hc => ?_)) <;> (try simp only [nrB] at hc) <;> (try (exfalso; first | omega | exact hc trivial | exact hc rfl)))))
    refine OW_call rfl rfl rfl (hp2 _ hv) rfl (fun r L' hp => ?_)
    rcases hp with ⟨h1, rfl, rfl⟩ | ⟨h0, _⟩
    rotate_left
    · exact absurd h0 h1
    (repeat' (first | (show WL _ _ _ _ _ _ _; first | refine jA ?_ | refine jB ?_ | refine jC ?_ | refine jD ?_ | refine jE ?_ | refine jF ?_) | (show OW _ _ _ _ _ _; first | refine OW_E ?_ | refine jI ?_ | refine jJ ?_ | refine jK (fun bk => ?_) | refine jL (fun bk => ?_)) | (show WC _ _ _ _ _ _; first | refine jM ?_ | refine jN ?_ | refine jO ?_ | refine jP ?_ | refine jR ?_ | refine jS ?_ | refine jT ?_ | refine jU ?_) | (show WQ _ _ _ _; with_reducible first | refine jV ?_ | refine jW ?_ | refine jX ?_ | refine jY ?_ | refine jZ ?_ | refine kA ?_ | refine kB ?_ | refine kC ?_) | ((first | (refine jG (fun hc => ?_) (fun hc => ?_) <;> rw [hc]) | refine jQ (fun hc => ?_) (fun hc => ?_)) <;> (try simp only [nrB] at hc) <;> (try (exfalso; first | omega | exact hc trivial | exact hc rfl)))))
    refine OW_holds (L' := [(bk, cl [.slice none 0 0, .int .i64 0, .int .i64 (e : Int)] 38)] :: L') (fun w h => h) ?_
    refine OW_EV (EV_convStr (m := 0) (b := []) rfl (Or.inl ⟨0, rfl, rfl, rfl⟩)) rfl ?_
    (repeat' (first | (show WL _ _ _ _ _ _ _; first | refine jA ?_ | refine jB ?_ | refine jC ?_ | refine jD ?_ | refine jE ?_ | refine jF ?_) | (show OW _ _ _ _ _ _; first | refine OW_E ?_ | refine jI ?_ | refine jJ ?_ | refine jK (fun bk => ?_) | refine jL (fun bk => ?_)) | (show WC _ _ _ _ _ _; first | refine jM ?_ | refine jN ?_ | refine jO ?_ | refine jP ?_ | refine jR ?_ | refine jS ?_ | refine jT ?_ | refine jU ?_) | (show WQ _ _ _ _; with_reducible first | refine jV ?_ | refine jW ?_ | refine jX ?_ | refine jY ?_ | refine jZ ?_ | refine kA ?_ | refine kB ?_ | refine kC ?_) | ((first | (refine jG (fun hc => ?_) (fun hc => ?_) <;> rw [hc]) | refine jQ (fun hc => ?_) (fun hc => ?_)) <;> (try simp only [nrB] at hc) <;> (try (exfalso; first | omega | exact hc trivial | exact hc rfl)))))
    refine OW_EV (EV_convStr (m := 0) (b := []) rfl (Or.inl ⟨0, rfl, rfl, rfl⟩)) rfl ?_
    (repeat' (first | (show WL _ _ _ _ _ _ _; first | refine jA ?_ | refine jB ?_ | refine jC ?_ | refine jD ?_ | refine jE ?_ | refine jF ?_) | (show OW _ _ _ _ _ _; first | refine OW_E ?_ | refine jI ?_ | refine jJ ?_ | refine jK (fun bk => ?_) | refine jL (fun bk => ?_)) | (show WC _ _ _ _ _ _; first | refine jM ?_ | refine jN ?_ | refine jO ?_ | refine jP ?_ | refine jR ?_ | refine jS ?_ | refine jT ?_ | refine jU ?_) | (show WQ _ _ _ _; with_reducible first | refine jV ?_ | refine jW ?_ | refine jX ?_ | refine jY ?_ | refine jZ ?_ | refine kA ?_ | refine kB ?_ | refine kC ?_) | ((first | (refine jG (fun hc => ?_) (fun hc => ?_) <;> rw [hc]) | refine jQ (fun hc => ?_) (fun hc => ?_)) <;> (try simp only [nrB] at hc) <;> (try (exfalso; first | omega | exact hc trivial | exact hc rfl)))))
    refine OW_callP rfl rfl rfl (iawake_n _ (by repeat (first | exact hor | apply OrAt.there))) rfl ?_
    (repeat' (first | (show WL _ _ _ _ _ _ _; first | refine jA ?_ | refine jB ?_ | refine jC ?_ | refine jD ?_ | refine jE ?_ | refine jF ?_) | (show OW _ _ _ _ _ _; first | refine OW_E ?_ | refine jI ?_ | refine jJ ?_ | refine jK (fun bk => ?_) | refine jL (fun bk => ?_)) | (show WC _ _ _ _ _ _; first | refine jM ?_ | refine jN ?_ | refine jO ?_ | refine jP ?_ | refine jR ?_ | refine jS ?_ | refine jT ?_ | refine jU ?_) | (show WQ _ _ _ _; with_reducible first | refine jV ?_ | refine jW ?_ | refine jX ?_ | refine jY ?_ | refine jZ ?_ | refine kA ?_ | refine kB ?_ | refine kC ?_) | ((first | (refine jG (fun hc => ?_) (fun hc => ?_) <;> rw [hc]) | refine jQ (fun hc => ?_) (fun hc => ?_)) <;> (try simp only [nrB] at hc) <;> (try (exfalso; first | omega | exact hc trivial | exact hc rfl)))))
    ((first | refine WQ_retI rfl rfl ?_ | refine WQ_endI rfl rfl ?_); exact ⟨_, iC, rfl, rfl⟩)
  · obtain ⟨v1a, v1c, rfl⟩ := ow_slc ho1
    (repeat' (first | (show WL _ _ _ _ _ _ _; first | refine jA ?_ | refine jB ?_ | refine jC ?_ | refine jD ?_ | refine jE ?_ | refine jF ?_) | (show OW _ _ _ _ _ _; first | refine OW_E ?_ | refine jI ?_ | refine jJ ?_ | refine jK (fun bk => ?_) | refine jL (fun bk => ?_)) | (show WC _ _ _ _ _ _; first | refine jM ?_ | refine jN ?_ | refine jO ?_ | refine jP ?_ | refine jR ?_ | refine jS ?_ | refine jT ?_ | refine jU ?_) | (show WQ _ _ _ _; with_reducible first | refine jV ?_ | refine jW ?_ | refine jX ?_ | refine jY ?_ | refine jZ ?_ | refine kA ?_ | refine kB ?_ | refine kC ?_) | ((first | (refine jG (fun hc => ?_) (fun hc => ?_) <;> rw [hc]) | refine jQ (fun hc => ?_) (fun hc => ?_)) <;> (try simp only [nrB] at hc) <;> (try (exfalso; first | omega | exact hc trivial | exact hc rfl)))))
    refine OW_call rfl rfl rfl (hp2 _ (sl_there hv)) rfl (fun r L' hp => ?_)
    rcases hp with ⟨h0, _⟩ | ⟨_, v2, C2, rfl, ho2, rfl⟩
    · exact absurd h1 h0
    obtain ⟨v2a, v2c, rfl⟩ := ow_slc ho2
    (repeat' (first | (show WL _ _ _ _ _ _ _; first | refine jA ?_ | refine jB ?_ | refine jC ?_ | refine jD ?_ | refine jE ?_ | refine jF ?_) | (show OW _ _ _ _ _ _; first | refine OW_E ?_ | refine jI ?_ | refine jJ ?_ | refine jK (fun bk => ?_) | refine jL (fun bk => ?_)) | (show WC _ _ _ _ _ _; first | refine jM ?_ | refine jN ?_ | refine jO ?_ | refine jP ?_ | refine jR ?_ | refine jS ?_ | refine jT ?_ | refine jU ?_) | (show WQ _ _ _ _; with_reducible first | refine jV ?_ | refine jW ?_ | refine jX ?_ | refine jY ?_ | refine jZ ?_ | refine kA ?_ | refine kB ?_ | refine kC ?_) | ((first | (refine jG (fun hc => ?_) (fun hc => ?_) <;> rw [hc]) | refine jQ (fun hc => ?_) (fun hc => ?_)) <;> (try simp only [nrB] at hc) <;> (try (exfalso; first | omega | exact hc trivial | exact hc rfl)))))
    refine OW_holds (L' := [(bk, cl [.slice v2a R.out.length v2c, .int .i64 (n : Int), .int .i64 0] 38)] :: C2 :: C1 :: L) (fun w h => h) ?_
    refine OW_EV (EV_convStr (m := R.out.length) (b := R.out) rfl (by repeat (first | exact ow_sl ho1 | apply sl_there))) rfl ?_
    (repeat' (first | (show WL _ _ _ _ _ _ _; first | refine jA ?_ | refine jB ?_ | refine jC ?_ | refine jD ?_ | refine jE ?_ | refine jF ?_) | (show OW _ _ _ _ _ _; first | refine OW_E ?_ | refine jI ?_ | refine jJ ?_ | refine jK (fun bk => ?_) | refine jL (fun bk => ?_)) | (show WC _ _ _ _ _ _; first | refine jM ?_ | refine jN ?_ | refine jO ?_ | refine jP ?_ | refine jR ?_ | refine jS ?_ | refine jT ?_ | refine jU ?_) | (show WQ _ _ _ _; with_reducible first | refine jV ?_ | refine jW ?_ | refine jX ?_ | refine jY ?_ | refine jZ ?_ | refine kA ?_ | refine kB ?_ | refine kC ?_) | ((first | (refine jG (fun hc => ?_) (fun hc => ?_) <;> rw [hc]) | refine jQ (fun hc => ?_) (fun hc => ?_)) <;> (try simp only [nrB] at hc) <;> (try (exfalso; first | omega | exact hc trivial | exact hc rfl)))))
    refine OW_EV (EV_convStr (m := R.out.length) (b := R.out) rfl (by repeat (first | exact ow_sl ho2 | apply sl_there))) rfl ?_
    (repeat' (first | (show WL _ _ _ _ _ _ _; first | refine jA ?_ | refine jB ?_ | refine jC ?_ | refine jD ?_ | refine jE ?_ | refine jF ?_) | (show OW _ _ _ _ _ _; first | refine OW_E ?_ | refine jI ?_ | refine jJ ?_ | refine jK (fun bk => ?_) | refine jL (fun bk => ?_)) | (show WC _ _ _ _ _ _; first | refine jM ?_ | refine jN ?_ | refine jO ?_ | refine jP ?_ | refine jR ?_ | refine jS ?_ | refine jT ?_ | refine jU ?_) | (show WQ _ _ _ _; with_reducible first | refine jV ?_ | refine jW ?_ | refine jX ?_ | refine jY ?_ | refine jZ ?_ | refine kA ?_ | refine kB ?_ | refine kC ?_) | ((first | (refine jG (fun hc => ?_) (fun hc => ?_) <;> rw [hc]) | refine jQ (fun hc => ?_) (fun hc => ?_)) <;> (try simp only [nrB] at hc) <;> (try (exfalso; first | omega | exact hc trivial | exact hc rfl)))))
    refine OW_callP rfl rfl rfl (iawake_n _ (by repeat (first | exact hor | apply OrAt.there))) rfl ?_
    (repeat' (first | (show WL _ _ _ _ _ _ _; first | refine jA ?_ | refine jB ?_ | refine jC ?_ | refine jD ?_ | refine jE ?_ | refine jF ?_) | (show OW _ _ _ _ _ _; first | refine OW_E ?_ | refine jI ?_ | refine jJ ?_ | refine jK (fun bk => ?_) | refine jL (fun bk => ?_)) | (show WC _ _ _ _ _ _; first | refine jM ?_ | refine jN ?_ | refine jO ?_ | refine jP ?_ | refine jR ?_ | refine jS ?_ | refine jT ?_ | refine jU ?_) | (show WQ _ _ _ _; with_reducible first | refine jV ?_ | refine jW ?_ | refine jX ?_ | refine jY ?_ | refine jZ ?_ | refine kA ?_ | refine kB ?_ | refine kC ?_) | ((first | (refine jG (fun hc => ?_) (fun hc => ?_) <;> rw [hc]) | refine jQ (fun hc => ?_) (fun hc => ?_)) <;> (try simp only [nrB] at hc) <;> (try (exfalso; first | omega | exact hc trivial | exact hc rfl)))))
    ((first | refine WQ_retI rfl rfl ?_ | refine WQ_endI rfl rfl ?_); exact ⟨_, iC, rfl, rfl⟩)
end Go.Proofs.YtkiaegkojlhaeaaDoor
