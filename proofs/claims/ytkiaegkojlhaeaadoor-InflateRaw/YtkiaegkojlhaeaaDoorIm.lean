/- slices.Concat over lists of numbers, the fixed codes' lengths. It proves no statement by itself. No conditions. -/
import Derived.Test.YtkiaegkojlhaeaaDoorIk
namespace Go.Vx
section
variable [W0] {P : Program} {n : Nat} {M : List (Nat × Value)} {L : List Chunk} {d : Nat} {ty : TypeId} {ps : String} {af : Array Edge} {g : Option (Nat × Bool)} {x y : Operand} {K : List (Nat × Value) → List Chunk → Prop}
/-- append(nil, make(T, c)...). -/
theorem OW_appendZerosNil {t u e k by_ : Nat} {z : Value} {ku : IntKind} [hs : SL P t e k by_] [hz : ZV P e z] [hi : IK P u ku] {c : Nat} {kk : IntKind} (hx : ev M x = some (.slice none 0 0)) (hy : ev M y = some (.int kk (c : Int)))
    (hzk : z.cells.size = k) (hgrow : 0 < c) (hb : c * by_ ≤ 140737488355328) (h63 : c ≤ 9223372036854775807)
    (hn : Nat.blt d n = true) (h : ∀ b cap rest, c ≤ cap → cap ≤ maxLen → rest.length = (cap - c) * k → K ((d, .slice (some ⟨b, 0, none⟩) c cap) :: M) ([(b, cl (zeros z.cells.toList c ++ rest) e)] :: L)) :
    OW P n ⟨some d, .call ⟨.builtin .append, #[x, y], #[t, u]⟩, ty, ps, af, g⟩ K M L := ⟨fun a w next Q ha hw hk => by
  obtain ⟨ht, i, hif, hik, hib, hk0⟩ := hs.parts
  subst hik hib
  have hzz : i.zero = some z := by have := hz.out; rw [hif] at this; simpa using this
  have hfit := growslice_fits (need := c) (old := 0) (bytes := i.bytes) hgrow hb
  have hcap := grownCap_ge w (0 + c) 0 e
  have hcm := grownCap_le_maxLen w (0 + c) 0 e (by simp [maxLen]; omega)
  have hz2 := zeros_range (z := z.cells) (m := c)
  have hz3 := zeros_range (z := z.cells) (m := grownCap w (0 + c) 0 e - (0 + c))
  have hc1 := wrap_i64 (r := (c : Int)) (by omega) (by omega)
  have hcb : ¬ (281474976710656 < (c : Int) * (i.bytes : Int)) := by
    rw [← Int.natCast_mul]; omega
  rw [Nat.zero_add] at hcap hcm hz3
  have hrun : (execOp a.eval ⟨some d, .call ⟨.builtin .append, #[x, y], #[t, u]⟩, ty, ps, af, g⟩).run P w = .ok (.value (.slice (some ⟨w.heap.size, 0, none⟩) c (grownCap w c 0 e)))
      (w.drew.alloc (cl (zeros z.cells.toList c ++ zeros z.cells.toList (grownCap w c 0 e - c)) e)) := by
    have hne : ¬ (c ≤ 0) := by omega
    have hne2 : ¬ (c = 0) := by omega
    have h63' : ¬ (9223372036854775807 < (c : Int)) := by omega
    have h48' : ¬ (281474976710656 < Builtin.nextslicecap c 0 * i.bytes) := by omega
    have hc0 : ¬ ((c : Int) < 0) := by omega
    simp only [execOp, resolve, invoke, builtin, Sem.run_bind, Sem.run_pure, Result.andThen_ok, List.map_toArray, List.map_cons, List.map_nil, ha.eval hx, ha.eval hy]
    simp [Builtin.append_, run_underlying ht, run_underlying hi.out, sizeOf, typeInfo, hif, asInt, asIntOf, hc1, hc0, hcb, hne2, h63', h48', Question.forced, Builtin.firstCells, newRow, zero_run hz.out]
    split
    · rename_i h0
      have hcz : c = 0 := by
        rcases Nat.mul_eq_zero.1 h0 with h | h
        · exact h
        · omega
      omega
    · simp [zeroCells_eq, grownCap, cl]
  unfold Oper.wp
  rw [hrun, Oper.upon_value]
  have := (hw.same (w' := w.drew) rfl rfl rfl).alloc (cl (zeros z.cells.toList c ++ zeros z.cells.toList (grownCap w c 0 e - c)) e)
  exact (hk _ _ (h w.heap.size _ _ hcap hcm (by rw [zeros_length]; simp [hzk]))).out _ _ (ha.put _ hn) this⟩
end
end Go.Vx
namespace Go.Proofs.YtkiaegkojlhaeaaDoor
open Go Go.Vx Go.Hf Go.If
variable [W0]
set_option maxRecDepth 4000
set_option linter.all false
theorem zeros_int (n : Nat) : zeros (Value.int .i64 0).cells.toList n = ivn (List.replicate n 0) := by
  induction n with
  | zero => rfl
  | succ n ih => rw [zeros, ih]; simp [ivn, List.replicate_succ, Value.cells]
theorem ivn_app (a b : List Nat) : ivn (a ++ b) = ivn a ++ ivn b := by simp [ivn]
theorem intsN_icn (l : List Nat) : intsN (icn l) = ivn l := by simp [intsN, icn, ivn]

set_option maxHeartbeats 4000000 in
/-- 1 times n. -/
theorem mul_one_n (n : Nat) (L : List Chunk) (hn : n ≤ 1000000) : GvP Tryd.prog 91 [.int .u64 1, .int .u64 (n : Int)].toArray L (.tuple #[.int .u64 0, .int .u64 (n : Int)]) := by
  refine Gv.of_body Tryd.func91 rfl rfl ?_
  (repeat' (first | (show WL _ _ _ _ _ _ _; first | refine jA ?_ | refine jB ?_ | refine jC ?_ | refine jD ?_ | refine jE ?_ | refine jF ?_) | (show OW _ _ _ _ _ _; first | refine OW_E ?_ | refine jI ?_ | refine jJ ?_ | refine jK (fun bk => ?_) | refine jL (fun bk => ?_)) | (show WC _ _ _ _ _ _; first | refine jM ?_ | refine jN ?_ | refine jO ?_ | refine jP ?_ | refine jR ?_ | refine jS ?_ | refine jT ?_ | refine jU ?_) | (show WQ _ _ _ _; with_reducible first | refine jV ?_ | refine jW ?_ | refine jX ?_ | refine jY ?_ | refine jZ ?_ | refine kA ?_ | refine kB ?_ | refine kC ?_) | ((first | (refine jG (fun hc => ?_) (fun hc => ?_) <;> rw [hc]) | refine jQ (fun hc => ?_) (fun hc => ?_)) <;> (try simp only [nrB] at hc) <;> (try (exfalso; first | omega | exact hc trivial | exact hc rfl)))))
  refine OW_EV (EV_nand (k := .u64) 1 32 rfl rfl rfl rfl rfl (by decide) (by decide)) rfl ?_
  rw [show ((1 % 2 ^ 32 : Nat) : Int) = 1 from by decide]
  (repeat' (first | (show WL _ _ _ _ _ _ _; first | refine jA ?_ | refine jB ?_ | refine jC ?_ | refine jD ?_ | refine jE ?_ | refine jF ?_) | (show OW _ _ _ _ _ _; first | refine OW_E ?_ | refine jI ?_ | refine jJ ?_ | refine jK (fun bk => ?_) | refine jL (fun bk => ?_)) | (show WC _ _ _ _ _ _; first | refine jM ?_ | refine jN ?_ | refine jO ?_ | refine jP ?_ | refine jR ?_ | refine jS ?_ | refine jT ?_ | refine jU ?_) | (show WQ _ _ _ _; with_reducible first | refine jV ?_ | refine jW ?_ | refine jX ?_ | refine jY ?_ | refine jZ ?_ | refine kA ?_ | refine kB ?_ | refine kC ?_) | ((first | (refine jG (fun hc => ?_) (fun hc => ?_) <;> rw [hc]) | refine jQ (fun hc => ?_) (fun hc => ?_)) <;> (try simp only [nrB] at hc) <;> (try (exfalso; first | omega | exact hc trivial | exact hc rfl)))))
  rw [show (1 : Int) / 4294967296 = 0 from by decide]
  refine OW_EV (EV_nand (k := .u64) n 32 rfl rfl rfl rfl rfl (by simp only [IntKind.bits]; omega) (by decide)) rfl ?_
  rw [show ((n % 2 ^ 32 : Nat) : Int) = n from by omega]
  (repeat' (first | (show WL _ _ _ _ _ _ _; first | refine jA ?_ | refine jB ?_ | refine jC ?_ | refine jD ?_ | refine jE ?_ | refine jF ?_) | (show OW _ _ _ _ _ _; first | refine OW_E ?_ | refine jI ?_ | refine jJ ?_ | refine jK (fun bk => ?_) | refine jL (fun bk => ?_)) | (show WC _ _ _ _ _ _; first | refine jM ?_ | refine jN ?_ | refine jO ?_ | refine jP ?_ | refine jR ?_ | refine jS ?_ | refine jT ?_ | refine jU ?_) | (show WQ _ _ _ _; with_reducible first | refine jV ?_ | refine jW ?_ | refine jX ?_ | refine jY ?_ | refine jZ ?_ | refine kA ?_ | refine kB ?_ | refine kC ?_) | ((first | (refine jG (fun hc => ?_) (fun hc => ?_) <;> rw [hc]) | refine jQ (fun hc => ?_) (fun hc => ?_)) <;> (try simp only [nrB] at hc) <;> (try (exfalso; first | omega | exact hc trivial | exact hc rfl)))))
  have e0 : (n : Int) / 4294967296 = 0 := by omega
  have ez : (0 : Int) / 4294967296 = 0 := by decide
  try rw [e0]
  refine OW_EV (EV_nmul (k := .u64) 1 n rfl rfl rfl rfl rfl (by simp only [IntKind.bits]; omega)) rfl ?_
  rw [Nat.one_mul]
  (repeat' (first | (show WL _ _ _ _ _ _ _; first | refine jA ?_ | refine jB ?_ | refine jC ?_ | refine jD ?_ | refine jE ?_ | refine jF ?_) | (show OW _ _ _ _ _ _; first | refine OW_E ?_ | refine jI ?_ | refine jJ ?_ | refine jK (fun bk => ?_) | refine jL (fun bk => ?_)) | (show WC _ _ _ _ _ _; first | refine jM ?_ | refine jN ?_ | refine jO ?_ | refine jP ?_ | refine jR ?_ | refine jS ?_ | refine jT ?_ | refine jU ?_) | (show WQ _ _ _ _; with_reducible first | refine jV ?_ | refine jW ?_ | refine jX ?_ | refine jY ?_ | refine jZ ?_ | refine kA ?_ | refine kB ?_ | refine kC ?_) | ((first | (refine jG (fun hc => ?_) (fun hc => ?_) <;> rw [hc]) | refine jQ (fun hc => ?_) (fun hc => ?_)) <;> (try simp only [nrB] at hc) <;> (try (exfalso; first | omega | exact hc trivial | exact hc rfl)))))
  refine OW_EV (EV_nmul (k := .u64) 0 n rfl rfl rfl rfl rfl (by simp only [IntKind.bits]; omega)) rfl ?_
  rw [Nat.zero_mul]
  (repeat' (first | (show WL _ _ _ _ _ _ _; first | refine jA ?_ | refine jB ?_ | refine jC ?_ | refine jD ?_ | refine jE ?_ | refine jF ?_) | (show OW _ _ _ _ _ _; first | refine OW_E ?_ | refine jI ?_ | refine jJ ?_ | refine jK (fun bk => ?_) | refine jL (fun bk => ?_)) | (show WC _ _ _ _ _ _; first | refine jM ?_ | refine jN ?_ | refine jO ?_ | refine jP ?_ | refine jR ?_ | refine jS ?_ | refine jT ?_ | refine jU ?_) | (show WQ _ _ _ _; with_reducible first | refine jV ?_ | refine jW ?_ | refine jX ?_ | refine jY ?_ | refine jZ ?_ | refine kA ?_ | refine kB ?_ | refine kC ?_) | ((first | (refine jG (fun hc => ?_) (fun hc => ?_) <;> rw [hc]) | refine jQ (fun hc => ?_) (fun hc => ?_)) <;> (try simp only [nrB] at hc) <;> (try (exfalso; first | omega | exact hc trivial | exact hc rfl)))))
  try rw [e0]
  refine OW_EV (EV_nadd (k := .u64) 0 0 rfl rfl rfl rfl rfl (by decide)) rfl ?_
  rw [Nat.zero_add]
  (repeat' (first | (show WL _ _ _ _ _ _ _; first | refine jA ?_ | refine jB ?_ | refine jC ?_ | refine jD ?_ | refine jE ?_ | refine jF ?_) | (show OW _ _ _ _ _ _; first | refine OW_E ?_ | refine jI ?_ | refine jJ ?_ | refine jK (fun bk => ?_) | refine jL (fun bk => ?_)) | (show WC _ _ _ _ _ _; first | refine jM ?_ | refine jN ?_ | refine jO ?_ | refine jP ?_ | refine jR ?_ | refine jS ?_ | refine jT ?_ | refine jU ?_) | (show WQ _ _ _ _; with_reducible first | refine jV ?_ | refine jW ?_ | refine jX ?_ | refine jY ?_ | refine jZ ?_ | refine kA ?_ | refine kB ?_ | refine kC ?_) | ((first | (refine jG (fun hc => ?_) (fun hc => ?_) <;> rw [hc]) | refine jQ (fun hc => ?_) (fun hc => ?_)) <;> (try simp only [nrB] at hc) <;> (try (exfalso; first | omega | exact hc trivial | exact hc rfl)))))
  refine OW_EV (EV_nand (k := .u64) 0 32 rfl rfl rfl rfl rfl (by decide) (by decide)) rfl ?_
  rw [show (0 % 2 ^ 32 : Nat) = 0 from by decide]
  (repeat' (first | (show WL _ _ _ _ _ _ _; first | refine jA ?_ | refine jB ?_ | refine jC ?_ | refine jD ?_ | refine jE ?_ | refine jF ?_) | (show OW _ _ _ _ _ _; first | refine OW_E ?_ | refine jI ?_ | refine jJ ?_ | refine jK (fun bk => ?_) | refine jL (fun bk => ?_)) | (show WC _ _ _ _ _ _; first | refine jM ?_ | refine jN ?_ | refine jO ?_ | refine jP ?_ | refine jR ?_ | refine jS ?_ | refine jT ?_ | refine jU ?_) | (show WQ _ _ _ _; with_reducible first | refine jV ?_ | refine jW ?_ | refine jX ?_ | refine jY ?_ | refine jZ ?_ | refine kA ?_ | refine kB ?_ | refine kC ?_) | ((first | (refine jG (fun hc => ?_) (fun hc => ?_) <;> rw [hc]) | refine jQ (fun hc => ?_) (fun hc => ?_)) <;> (try simp only [nrB] at hc) <;> (try (exfalso; first | omega | exact hc trivial | exact hc rfl)))))
  try rw [show ((0 : Nat) : Int) / 4294967296 = 0 from by decide]
  try rw [ez]
  refine OW_EV (EV_nmul (k := .u64) 1 0 rfl rfl rfl rfl rfl (by decide)) rfl ?_
  rw [Nat.mul_zero]
  (repeat' (first | (show WL _ _ _ _ _ _ _; first | refine jA ?_ | refine jB ?_ | refine jC ?_ | refine jD ?_ | refine jE ?_ | refine jF ?_) | (show OW _ _ _ _ _ _; first | refine OW_E ?_ | refine jI ?_ | refine jJ ?_ | refine jK (fun bk => ?_) | refine jL (fun bk => ?_)) | (show WC _ _ _ _ _ _; first | refine jM ?_ | refine jN ?_ | refine jO ?_ | refine jP ?_ | refine jR ?_ | refine jS ?_ | refine jT ?_ | refine jU ?_) | (show WQ _ _ _ _; with_reducible first | refine jV ?_ | refine jW ?_ | refine jX ?_ | refine jY ?_ | refine jZ ?_ | refine kA ?_ | refine kB ?_ | refine kC ?_) | ((first | (refine jG (fun hc => ?_) (fun hc => ?_) <;> rw [hc]) | refine jQ (fun hc => ?_) (fun hc => ?_)) <;> (try simp only [nrB] at hc) <;> (try (exfalso; first | omega | exact hc trivial | exact hc rfl)))))
  refine OW_EV (EV_nadd (k := .u64) 0 0 rfl rfl rfl rfl rfl (by decide)) rfl ?_
  rw [Nat.zero_add]
  (repeat' (first | (show WL _ _ _ _ _ _ _; first | refine jA ?_ | refine jB ?_ | refine jC ?_ | refine jD ?_ | refine jE ?_ | refine jF ?_) | (show OW _ _ _ _ _ _; first | refine OW_E ?_ | refine jI ?_ | refine jJ ?_ | refine jK (fun bk => ?_) | refine jL (fun bk => ?_)) | (show WC _ _ _ _ _ _; first | refine jM ?_ | refine jN ?_ | refine jO ?_ | refine jP ?_ | refine jR ?_ | refine jS ?_ | refine jT ?_ | refine jU ?_) | (show WQ _ _ _ _; with_reducible first | refine jV ?_ | refine jW ?_ | refine jX ?_ | refine jY ?_ | refine jZ ?_ | refine kA ?_ | refine kB ?_ | refine kC ?_) | ((first | (refine jG (fun hc => ?_) (fun hc => ?_) <;> rw [hc]) | refine jQ (fun hc => ?_) (fun hc => ?_)) <;> (try simp only [nrB] at hc) <;> (try (exfalso; first | omega | exact hc trivial | exact hc rfl)))))
  refine OW_EV (EV_nmul (k := .u64) 0 0 rfl rfl rfl rfl rfl (by decide)) rfl ?_
  rw [Nat.mul_zero]
  (repeat' (first | (show WL _ _ _ _ _ _ _; first | refine jA ?_ | refine jB ?_ | refine jC ?_ | refine jD ?_ | refine jE ?_ | refine jF ?_) | (show OW _ _ _ _ _ _; first | refine OW_E ?_ | refine jI ?_ | refine jJ ?_ | refine jK (fun bk => ?_) | refine jL (fun bk => ?_)) | (show WC _ _ _ _ _ _; first | refine jM ?_ | refine jN ?_ | refine jO ?_ | refine jP ?_ | refine jR ?_ | refine jS ?_ | refine jT ?_ | refine jU ?_) | (show WQ _ _ _ _; with_reducible first | refine jV ?_ | refine jW ?_ | refine jX ?_ | refine jY ?_ | refine jZ ?_ | refine kA ?_ | refine kB ?_ | refine kC ?_) | ((first | (refine jG (fun hc => ?_) (fun hc => ?_) <;> rw [hc]) | refine jQ (fun hc => ?_) (fun hc => ?_)) <;> (try simp only [nrB] at hc) <;> (try (exfalso; first | omega | exact hc trivial | exact hc rfl)))))
  refine OW_EV (EV_nadd (k := .u64) 0 0 rfl rfl rfl rfl rfl (by decide)) rfl ?_
  rw [Nat.zero_add]
  (repeat' (first | (show WL _ _ _ _ _ _ _; first | refine jA ?_ | refine jB ?_ | refine jC ?_ | refine jD ?_ | refine jE ?_ | refine jF ?_) | (show OW _ _ _ _ _ _; first | refine OW_E ?_ | refine jI ?_ | refine jJ ?_ | refine jK (fun bk => ?_) | refine jL (fun bk => ?_)) | (show WC _ _ _ _ _ _; first | refine jM ?_ | refine jN ?_ | refine jO ?_ | refine jP ?_ | refine jR ?_ | refine jS ?_ | refine jT ?_ | refine jU ?_) | (show WQ _ _ _ _; with_reducible first | refine jV ?_ | refine jW ?_ | refine jX ?_ | refine jY ?_ | refine jZ ?_ | refine kA ?_ | refine kB ?_ | refine kC ?_) | ((first | (refine jG (fun hc => ?_) (fun hc => ?_) <;> rw [hc]) | refine jQ (fun hc => ?_) (fun hc => ?_)) <;> (try simp only [nrB] at hc) <;> (try (exfalso; first | omega | exact hc trivial | exact hc rfl)))))
  try rw [show ((0 : Nat) : Int) / 4294967296 = 0 from by decide]
  try rw [ez]
  refine OW_EV (EV_nadd (k := .u64) 0 0 rfl rfl rfl rfl rfl (by decide)) rfl ?_
  rw [Nat.zero_add]
  (repeat' (first | (show WL _ _ _ _ _ _ _; first | refine jA ?_ | refine jB ?_ | refine jC ?_ | refine jD ?_ | refine jE ?_ | refine jF ?_) | (show OW _ _ _ _ _ _; first | refine OW_E ?_ | refine jI ?_ | refine jJ ?_ | refine jK (fun bk => ?_) | refine jL (fun bk => ?_)) | (show WC _ _ _ _ _ _; first | refine jM ?_ | refine jN ?_ | refine jO ?_ | refine jP ?_ | refine jR ?_ | refine jS ?_ | refine jT ?_ | refine jU ?_) | (show WQ _ _ _ _; with_reducible first | refine jV ?_ | refine jW ?_ | refine jX ?_ | refine jY ?_ | refine jZ ?_ | refine kA ?_ | refine kB ?_ | refine kC ?_) | ((first | (refine jG (fun hc => ?_) (fun hc => ?_) <;> rw [hc]) | refine jQ (fun hc => ?_) (fun hc => ?_)) <;> (try simp only [nrB] at hc) <;> (try (exfalso; first | omega | exact hc trivial | exact hc rfl)))))
  refine OW_EV (EV_nmul (k := .u64) 1 n rfl rfl rfl rfl rfl (by simp only [IntKind.bits]; omega)) rfl ?_
  rw [Nat.one_mul]
  (repeat' (first | (show WL _ _ _ _ _ _ _; first | refine jA ?_ | refine jB ?_ | refine jC ?_ | refine jD ?_ | refine jE ?_ | refine jF ?_) | (show OW _ _ _ _ _ _; first | refine OW_E ?_ | refine jI ?_ | refine jJ ?_ | refine jK (fun bk => ?_) | refine jL (fun bk => ?_)) | (show WC _ _ _ _ _ _; first | refine jM ?_ | refine jN ?_ | refine jO ?_ | refine jP ?_ | refine jR ?_ | refine jS ?_ | refine jT ?_ | refine jU ?_) | (show WQ _ _ _ _; with_reducible first | refine jV ?_ | refine jW ?_ | refine jX ?_ | refine jY ?_ | refine jZ ?_ | refine kA ?_ | refine kB ?_ | refine kC ?_) | ((first | (refine jG (fun hc => ?_) (fun hc => ?_) <;> rw [hc]) | refine jQ (fun hc => ?_) (fun hc => ?_)) <;> (try simp only [nrB] at hc) <;> (try (exfalso; first | omega | exact hc trivial | exact hc rfl)))))
  refine WQ_retI (rs := [.tmp 4, .tmp 5]) (vs := [.int .u64 0, .int .u64 (n : Int)]) rfl rfl ?_
  exact ⟨_, iC, rfl, rfl⟩

set_option maxHeartbeats 2000000 in
theorem mul1_n (n : Nat) (L : List Chunk) (hn : n ≤ 1000000) : GvP Tryd.prog 88 [.int .u64 1, .int .u64 (n : Int)].toArray L (.tuple #[.int .u64 0, .int .u64 (n : Int)]) := by
  refine Gv.of_body Tryd.func88 rfl rfl ?_
  have hm := mul_one_n n L hn
  (repeat' (first | (show WL _ _ _ _ _ _ _; first | refine jA ?_ | refine jB ?_ | refine jC ?_ | refine jD ?_ | refine jE ?_ | refine jF ?_) | (show OW _ _ _ _ _ _; first | refine OW_E ?_ | refine jI ?_ | refine jJ ?_ | refine jK (fun bk => ?_) | refine jL (fun bk => ?_)) | (show WC _ _ _ _ _ _; first | refine jM ?_ | refine jN ?_ | refine jO ?_ | refine jP ?_ | refine jR ?_ | refine jS ?_ | refine jT ?_ | refine jU ?_) | (show WQ _ _ _ _; with_reducible first | refine jV ?_ | refine jW ?_ | refine jX ?_ | refine jY ?_ | refine jZ ?_ | refine kA ?_ | refine kB ?_ | refine kC ?_) | ((first | (refine jG (fun hc => ?_) (fun hc => ?_) <;> rw [hc]) | refine jQ (fun hc => ?_) (fun hc => ?_)) <;> (try simp only [nrB] at hc) <;> (try (exfalso; first | omega | exact hc trivial | exact hc rfl)))))
  refine OW_callP rfl rfl rfl hm rfl ?_
  (repeat' (first | (show WL _ _ _ _ _ _ _; first | refine jA ?_ | refine jB ?_ | refine jC ?_ | refine jD ?_ | refine jE ?_ | refine jF ?_) | (show OW _ _ _ _ _ _; first | refine OW_E ?_ | refine jI ?_ | refine jJ ?_ | refine jK (fun bk => ?_) | refine jL (fun bk => ?_)) | (show WC _ _ _ _ _ _; first | refine jM ?_ | refine jN ?_ | refine jO ?_ | refine jP ?_ | refine jR ?_ | refine jS ?_ | refine jT ?_ | refine jU ?_) | (show WQ _ _ _ _; with_reducible first | refine jV ?_ | refine jW ?_ | refine jX ?_ | refine jY ?_ | refine jZ ?_ | refine kA ?_ | refine kB ?_ | refine kC ?_) | ((first | (refine jG (fun hc => ?_) (fun hc => ?_) <;> rw [hc]) | refine jQ (fun hc => ?_) (fun hc => ?_)) <;> (try simp only [nrB] at hc) <;> (try (exfalso; first | omega | exact hc trivial | exact hc rfl)))))
  (first | refine WQ_retI rfl rfl ?_ | refine WQ_endI rfl rfl ?_)
  exact ⟨_, iC, rfl, rfl⟩

theorem rep_patch (n k m v : Nat) (h : k + m ≤ n) : patch (ivn (List.replicate k v ++ List.replicate (n - k) 0)) k (ivn (List.replicate m v)) = ivn (List.replicate (k + m) v ++ List.replicate (n - (k + m)) 0) := by
  unfold patch ivn
  rw [← List.map_take, ← List.map_drop, ← List.map_append, ← List.map_append]
  congr 1
  simp only [List.length_map, List.length_replicate]
  rw [List.take_left' (by simp), List.drop_append, List.drop_replicate, List.drop_replicate, List.length_replicate, show k - (k + m) = 0 from by omega, show n - k - (k + m - k) = n - (k + m) from by omega, List.replicate_append_replicate]
  rfl

set_option maxHeartbeats 4000000 in
theorem repeat_n (b v n : Nat) (L : List Chunk) (hf : Fnd L b (cl [.int .i64 (v : Int)] 3)) (h1 : 1 ≤ n) (hn : n ≤ 1000000) :
    Gv Tryd.prog 77 [.slice (some ⟨b, 0, none⟩) 1 1, .int .i64 (n : Int)].toArray L (fun r L' => ∃ C, L' = C :: L ∧ Ow 3 1 r n (ivn (List.replicate n v)) C) := by
  refine Gv.of_body Tryd.func77 rfl rfl ?_
  have hm := fun L => mul1_n n L hn
  (repeat' (first | (show WL _ _ _ _ _ _ _; first | refine jA ?_ | refine jB ?_ | refine jC ?_ | refine jD ?_ | refine jE ?_ | refine jF ?_) | (show OW _ _ _ _ _ _; first | refine OW_E ?_ | refine jI ?_ | refine jJ ?_ | refine jK (fun bk => ?_) | refine jL (fun bk => ?_)) | (show WC _ _ _ _ _ _; first | refine jM ?_ | refine jN ?_ | refine jO ?_ | refine jP ?_ | refine jR ?_ | refine jS ?_ | refine jT ?_ | refine jU ?_) | (show WQ _ _ _ _; with_reducible first | refine jV ?_ | refine jW ?_ | refine jX ?_ | refine jY ?_ | refine jZ ?_ | refine kA ?_ | refine kB ?_ | refine kC ?_) | ((first | (refine jG (fun hc => ?_) (fun hc => ?_) <;> rw [hc]) | refine jQ (fun hc => ?_) (fun hc => ?_)) <;> (try simp only [nrB] at hc) <;> (try (exfalso; first | omega | exact hc trivial | exact hc rfl)))))
  refine OW_callP rfl rfl rfl (hm _) rfl ?_
  (repeat' (first | (show WL _ _ _ _ _ _ _; first | refine jA ?_ | refine jB ?_ | refine jC ?_ | refine jD ?_ | refine jE ?_ | refine jF ?_) | (show OW _ _ _ _ _ _; first | refine OW_E ?_ | refine jI ?_ | refine jJ ?_ | refine jK (fun bk => ?_) | refine jL (fun bk => ?_)) | (show WC _ _ _ _ _ _; first | refine jM ?_ | refine jN ?_ | refine jO ?_ | refine jP ?_ | refine jR ?_ | refine jS ?_ | refine jT ?_ | refine jU ?_) | (show WQ _ _ _ _; with_reducible first | refine jV ?_ | refine jW ?_ | refine jX ?_ | refine jY ?_ | refine jZ ?_ | refine kA ?_ | refine kB ?_ | refine kC ?_) | ((first | (refine jG (fun hc => ?_) (fun hc => ?_) <;> rw [hc]) | refine jQ (fun hc => ?_) (fun hc => ?_)) <;> (try simp only [nrB] at hc) <;> (try (exfalso; first | omega | exact hc trivial | exact hc rfl)))))
  refine OW_makeSlice (m := n) (c := n) rfl rfl (by rfl) (Nat.le_refl _) (by omega) (by omega) rfl (fun c => ?_)
  rw [zeros_int]
  (repeat' (first | (show WL _ _ _ _ _ _ _; first | refine jA ?_ | refine jB ?_ | refine jC ?_ | refine jD ?_ | refine jE ?_ | refine jF ?_) | (show OW _ _ _ _ _ _; first | refine OW_E ?_ | refine jI ?_ | refine jJ ?_ | refine jK (fun bk => ?_) | refine jL (fun bk => ?_)) | (show WC _ _ _ _ _ _; first | refine jM ?_ | refine jN ?_ | refine jO ?_ | refine jP ?_ | refine jR ?_ | refine jS ?_ | refine jT ?_ | refine jU ?_) | (show WQ _ _ _ _; with_reducible first | refine jV ?_ | refine jW ?_ | refine jX ?_ | refine jY ?_ | refine jZ ?_ | refine kA ?_ | refine kB ?_ | refine kC ?_) | ((first | (refine jG (fun hc => ?_) (fun hc => ?_) <;> rw [hc]) | refine jQ (fun hc => ?_) (fun hc => ?_)) <;> (try simp only [nrB] at hc) <;> (try (exfalso; first | omega | exact hc trivial | exact hc rfl)))))
  refine OW_copyTo (sl := 1) (zs := ivn [v]) (ivn (List.replicate 1 v ++ List.replicate (n - 1) 0)) rfl rfl (.inr ⟨_, _, rfl, RdAt.cl' (l := ivn [v]) (off := 0) (Fnd.there hf) rfl, rfl⟩) (by rw [Nat.min_eq_left (by omega)]; rfl) ?_ (by repeat (first | exact Upd.here | apply Upd.there)) (by rw [Nat.min_eq_left (by omega)]; simp [ivn]; omega) rfl ?_
  · rw [Nat.min_eq_left (by omega)]
    have := rep_patch n 0 1 v (by omega)
    rw [show List.take (1 * 1) (ivn [v]) = ivn [v] from rfl]
    simpa using this
  rw [Nat.min_eq_left (by omega)]
  (repeat' (first | (show WL _ _ _ _ _ _ _; first | refine jA ?_ | refine jB ?_ | refine jC ?_ | refine jD ?_ | refine jE ?_ | refine jF ?_) | (show OW _ _ _ _ _ _; first | refine OW_E ?_ | refine jI ?_ | refine jJ ?_ | refine jK (fun bk => ?_) | refine jL (fun bk => ?_)) | (show WC _ _ _ _ _ _; first | refine jM ?_ | refine jN ?_ | refine jO ?_ | refine jP ?_ | refine jR ?_ | refine jS ?_ | refine jT ?_ | refine jU ?_) | (show WQ _ _ _ _; with_reducible first | refine jV ?_ | refine jW ?_ | refine jX ?_ | refine jY ?_ | refine jZ ?_ | refine kA ?_ | refine kB ?_ | refine kC ?_) | ((first | (refine jG (fun hc => ?_) (fun hc => ?_) <;> rw [hc]) | refine jQ (fun hc => ?_) (fun hc => ?_)) <;> (try simp only [nrB] at hc) <;> (try (exfalso; first | omega | exact hc trivial | exact hc rfl)))))
  refine WC_loop (X := Nat) (fun k => [(7, .slice (some ⟨c, 0, none⟩) n n), (8, .int .i64 (k : Int))]) (fun k => [(c, cl (ivn (List.replicate k v ++ List.replicate (n - k) 0)) 3)] :: L)
    (fun k => 1 ≤ k ∧ k ≤ n) (fun k => n - k) 1 ⟨Nat.le_refl _, h1⟩ (by repeat (first | exact Sub.nil | refine Sub.cons rfl ?_ | refine Sub.cons (lk_int rfl (by first | omega | (dsimp only; omega))) ?_)) (fun w h => h) ?_
  rintro k ⟨hk1, hk2⟩
  (repeat' (first | (show WL _ _ _ _ _ _ _; first | refine jA ?_ | refine jB ?_ | refine jC ?_ | refine jD ?_ | refine jE ?_ | refine jF ?_) | (show OW _ _ _ _ _ _; first | refine OW_E ?_ | refine jI ?_ | refine jJ ?_ | refine jK (fun bk => ?_) | refine jL (fun bk => ?_)) | (show WC _ _ _ _ _ _; first | refine jM ?_ | refine jN ?_ | refine jO ?_ | refine jP ?_ | refine jR ?_ | refine jS ?_ | refine jT ?_ | refine jU ?_) | (show WQ _ _ _ _; with_reducible first | refine jV ?_ | refine jW ?_ | refine jX ?_ | refine jY ?_ | refine jZ ?_ | refine kA ?_ | refine kB ?_ | refine kC ?_) | ((first | (refine jG (fun hc => ?_) (fun hc => ?_) <;> rw [hc]) | refine jQ (fun hc => ?_) (fun hc => ?_)) <;> (try simp only [nrB] at hc) <;> (try (exfalso; first | omega | exact hc trivial | exact hc rfl)))))
  · have hlen : (ivn (List.replicate k v ++ List.replicate (n - k) 0)).length = n := by rw [ivn_length]; simp; omega
    have htk : List.take (min k (n - k) * 1) (ivn (List.replicate k v)) = ivn (List.replicate (min k (n - k)) v) := by
      unfold ivn
      rw [← List.map_take, List.take_replicate, show min (min k (n - k) * 1) k = min k (n - k) from by omega]
    refine WC_draw [] [] mixed ?_
    (refine WR_t 0 ?_; refine WR_t 1 ?_; refine WR_t 2 ?_)
    (refine WR_take 3 rfl rfl (by kernel_rfl) (by repeat (first | with_reducible exact PO.body | with_reducible exact RP_po | with_reducible refine PO.then ?_ | with_reducible refine PO.block ?_)) iC (EV_sliceFrom0 (l := k) (h := n) rfl rfl rfl (by omega) (by omega) (by omega)) (by rfl) ?_)
    (refine WR_t 4 ?_; refine WR_t 5 ?_)
    (refine WR_take 6 rfl rfl (by kernel_rfl) (by repeat (first | with_reducible exact PO.body | with_reducible exact RP_po | with_reducible refine PO.then ?_ | with_reducible refine PO.block ?_)) iC (EV_sliceTo (h := k) rfl rfl rfl (by omega)) (by rfl) ?_)
    (refine WR_one 7 (by kernel_rfl) rfl rfl ?_)
    refine OW_copyTo (sl := k) (zs := ivn (List.replicate k v)) (ivn (List.replicate (k + min k (n - k)) v ++ List.replicate (n - (k + min k (n - k))) 0)) rfl rfl (.inr ⟨_, _, rfl, RdAt.cl' (off := 0) Fnd.here ?_, by rw [ivn_length]; simp⟩) ?_ ?_ (by repeat (first | exact Upd.here | apply Upd.there)) (by rw [hlen]; omega) rfl ?_
    · rw [ivn_length, List.length_replicate, ivn_app]
      unfold cut
      rw [List.drop_zero, List.take_left' (by rw [ivn_length, List.length_replicate])]
    · rw [htk]
      exact ivn_ones
    · rw [← rep_patch n k (min k (n - k)) v (by omega), htk, Nat.mul_one]
    refine ⟨iC, ?_⟩
    (refine WR_t 8 ?_; refine WR_t 9 ?_)
    (refine WR_done (by kernel_rfl) ?_)
    (repeat' (first | (show WL _ _ _ _ _ _ _; first | refine jA ?_ | refine jB ?_ | refine jC ?_ | refine jD ?_ | refine jE ?_ | refine jF ?_) | (show OW _ _ _ _ _ _; first | refine OW_E ?_ | refine jI ?_ | refine jJ ?_ | refine jK (fun bk => ?_) | refine jL (fun bk => ?_)) | (show WC _ _ _ _ _ _; first | refine jM ?_ | refine jN ?_ | refine jO ?_ | refine jP ?_ | refine jR ?_ | refine jS ?_ | refine jT ?_ | refine jU ?_) | (show WQ _ _ _ _; with_reducible first | refine jV ?_ | refine jW ?_ | refine jX ?_ | refine jY ?_ | refine jZ ?_ | refine kA ?_ | refine kB ?_ | refine kC ?_) | ((first | (refine jG (fun hc => ?_) (fun hc => ?_) <;> rw [hc]) | refine jQ (fun hc => ?_) (fun hc => ?_)) <;> (try simp only [nrB] at hc) <;> (try (exfalso; first | omega | exact hc trivial | exact hc rfl)))))
    refine WQ_round (X := Nat) (μ := fun k => n - k) (x := k) (k + min k (n - k)) (by omega) ⟨by omega, by omega⟩ (by repeat (first | exact Sub.nil | refine Sub.cons rfl ?_ | refine Sub.cons (lk_int rfl (by first | omega | (dsimp only; omega))) ?_)) (fun w h => h)
  · obtain rfl : k = n := by omega
    rw [show k - k = 0 from by omega, List.replicate_zero, List.append_nil]
    (first | refine WQ_retI rfl rfl ?_ | refine WQ_endI rfl rfl ?_)
    refine ⟨_, iC, _, rfl, .inr ⟨c, k, [], rfl, by rw [List.append_nil], by rw [ivn_length]; simp, by simp, Nat.le_refl _, by simp [maxLen]; omega⟩⟩

set_option maxHeartbeats 1000000 in
theorem times_n (v n : Nat) (L : List Chunk) (h1 : 1 ≤ n) (hn : n ≤ 1000000) :
    Gv Tryd.prog 67 [.int .i64 (v : Int), .int .i64 (n : Int)].toArray L (fun r L' => ∃ C, L' = C :: L ∧ Ow 3 1 r n (ivn (List.replicate n v)) C) := by
  refine Gv.of_body Tryd.func67 rfl rfl ?_
  (repeat' (first | (show WL _ _ _ _ _ _ _; first | refine jA ?_ | refine jB ?_ | refine jC ?_ | refine jD ?_ | refine jE ?_ | refine jF ?_) | (show OW _ _ _ _ _ _; first | refine OW_E ?_ | refine jI ?_ | refine jJ ?_ | refine jK (fun bk => ?_) | refine jL (fun bk => ?_)) | (show WC _ _ _ _ _ _; first | refine jM ?_ | refine jN ?_ | refine jO ?_ | refine jP ?_ | refine jR ?_ | refine jS ?_ | refine jT ?_ | refine jU ?_) | (show WQ _ _ _ _; with_reducible first | refine jV ?_ | refine jW ?_ | refine jX ?_ | refine jY ?_ | refine jZ ?_ | refine kA ?_ | refine kB ?_ | refine kC ?_) | ((first | (refine jG (fun hc => ?_) (fun hc => ?_) <;> rw [hc]) | refine jQ (fun hc => ?_) (fun hc => ?_)) <;> (try simp only [nrB] at hc) <;> (try (exfalso; first | omega | exact hc trivial | exact hc rfl)))))
  refine OW_buildSlice (cs := [.int .i64 (v : Int)]) rfl (by rfl) (by first | (simp [fillL, patch, Value.cells, zeros]; done) | (simp [fillL, patch, Value.cells, zeros]; rfl)) (by omega) rfl rfl (fun b => ?_)
  (repeat' (first | (show WL _ _ _ _ _ _ _; first | refine jA ?_ | refine jB ?_ | refine jC ?_ | refine jD ?_ | refine jE ?_ | refine jF ?_) | (show OW _ _ _ _ _ _; first | refine OW_E ?_ | refine jI ?_ | refine jJ ?_ | refine jK (fun bk => ?_) | refine jL (fun bk => ?_)) | (show WC _ _ _ _ _ _; first | refine jM ?_ | refine jN ?_ | refine jO ?_ | refine jP ?_ | refine jR ?_ | refine jS ?_ | refine jT ?_ | refine jU ?_) | (show WQ _ _ _ _; with_reducible first | refine jV ?_ | refine jW ?_ | refine jX ?_ | refine jY ?_ | refine jZ ?_ | refine kA ?_ | refine kB ?_ | refine kC ?_) | ((first | (refine jG (fun hc => ?_) (fun hc => ?_) <;> rw [hc]) | refine jQ (fun hc => ?_) (fun hc => ?_)) <;> (try simp only [nrB] at hc) <;> (try (exfalso; first | omega | exact hc trivial | exact hc rfl)))))
  refine OW_call rfl rfl rfl (repeat_n b v n _ Fnd.here h1 hn) rfl (fun r L' hp => ?_)
  obtain ⟨C, rfl, ho⟩ := hp
  (repeat' (first | (show WL _ _ _ _ _ _ _; first | refine jA ?_ | refine jB ?_ | refine jC ?_ | refine jD ?_ | refine jE ?_ | refine jF ?_) | (show OW _ _ _ _ _ _; first | refine OW_E ?_ | refine jI ?_ | refine jJ ?_ | refine jK (fun bk => ?_) | refine jL (fun bk => ?_)) | (show WC _ _ _ _ _ _; first | refine jM ?_ | refine jN ?_ | refine jO ?_ | refine jP ?_ | refine jR ?_ | refine jS ?_ | refine jT ?_ | refine jU ?_) | (show WQ _ _ _ _; with_reducible first | refine jV ?_ | refine jW ?_ | refine jX ?_ | refine jY ?_ | refine jZ ?_ | refine kA ?_ | refine kB ?_ | refine kC ?_) | ((first | (refine jG (fun hc => ?_) (fun hc => ?_) <;> rw [hc]) | refine jQ (fun hc => ?_) (fun hc => ?_)) <;> (try simp only [nrB] at hc) <;> (try (exfalso; first | omega | exact hc trivial | exact hc rfl)))))
  (first | refine WQ_retI rfl rfl ?_ | refine WQ_endI rfl rfl ?_)
  exact ⟨_, iC, C, rfl, ho⟩

set_option maxHeartbeats 2000000 in
theorem grow_n (n : Nat) (L : List Chunk) (h1 : 1 ≤ n) (hn : n ≤ 1000000) :
    Gv Tryd.prog 76 [.slice none 0 0, .int .i64 (n : Int)].toArray L (fun r L' => ∃ C, L' = C :: L ∧ Ow 3 1 r 0 (ivn []) C) := by
  refine Gv.of_body Tryd.func76 rfl rfl ?_
  (repeat' (first | (show WL _ _ _ _ _ _ _; first | refine jA ?_ | refine jB ?_ | refine jC ?_ | refine jD ?_ | refine jE ?_ | refine jF ?_) | (show OW _ _ _ _ _ _; first | refine OW_E ?_ | refine jI ?_ | refine jJ ?_ | refine jK (fun bk => ?_) | refine jL (fun bk => ?_)) | (show WC _ _ _ _ _ _; first | refine jM ?_ | refine jN ?_ | refine jO ?_ | refine jP ?_ | refine jR ?_ | refine jS ?_ | refine jT ?_ | refine jU ?_) | (show WQ _ _ _ _; with_reducible first | refine jV ?_ | refine jW ?_ | refine jX ?_ | refine jY ?_ | refine jZ ?_ | refine kA ?_ | refine kB ?_ | refine kC ?_) | ((first | (refine jG (fun hc => ?_) (fun hc => ?_) <;> rw [hc]) | refine jQ (fun hc => ?_) (fun hc => ?_)) <;> (try simp only [nrB] at hc) <;> (try (exfalso; first | omega | exact hc trivial | exact hc rfl)))))
  refine OW_EV (EV_sliceNil rfl rfl rfl) rfl ?_
  (repeat' (first | (show WL _ _ _ _ _ _ _; first | refine jA ?_ | refine jB ?_ | refine jC ?_ | refine jD ?_ | refine jE ?_ | refine jF ?_) | (show OW _ _ _ _ _ _; first | refine OW_E ?_ | refine jI ?_ | refine jJ ?_ | refine jK (fun bk => ?_) | refine jL (fun bk => ?_)) | (show WC _ _ _ _ _ _; first | refine jM ?_ | refine jN ?_ | refine jO ?_ | refine jP ?_ | refine jR ?_ | refine jS ?_ | refine jT ?_ | refine jU ?_) | (show WQ _ _ _ _; with_reducible first | refine jV ?_ | refine jW ?_ | refine jX ?_ | refine jY ?_ | refine jZ ?_ | refine kA ?_ | refine kB ?_ | refine kC ?_) | ((first | (refine jG (fun hc => ?_) (fun hc => ?_) <;> rw [hc]) | refine jQ (fun hc => ?_) (fun hc => ?_)) <;> (try simp only [nrB] at hc) <;> (try (exfalso; first | omega | exact hc trivial | exact hc rfl)))))
  refine OW_appendZerosNil (c := n) rfl rfl (by rfl) (by omega) (by omega) (by omega) rfl (fun b cap rest h2 h3 h4 => ?_)
  (repeat' (first | (show WL _ _ _ _ _ _ _; first | refine jA ?_ | refine jB ?_ | refine jC ?_ | refine jD ?_ | refine jE ?_ | refine jF ?_) | (show OW _ _ _ _ _ _; first | refine OW_E ?_ | refine jI ?_ | refine jJ ?_ | refine jK (fun bk => ?_) | refine jL (fun bk => ?_)) | (show WC _ _ _ _ _ _; first | refine jM ?_ | refine jN ?_ | refine jO ?_ | refine jP ?_ | refine jR ?_ | refine jS ?_ | refine jT ?_ | refine jU ?_) | (show WQ _ _ _ _; with_reducible first | refine jV ?_ | refine jW ?_ | refine jX ?_ | refine jY ?_ | refine jZ ?_ | refine kA ?_ | refine kB ?_ | refine kC ?_) | ((first | (refine jG (fun hc => ?_) (fun hc => ?_) <;> rw [hc]) | refine jQ (fun hc => ?_) (fun hc => ?_)) <;> (try simp only [nrB] at hc) <;> (try (exfalso; first | omega | exact hc trivial | exact hc rfl)))))
  refine OW_EV (EV_sliceTo (h := 0) rfl rfl rfl (by omega)) rfl ?_
  (repeat' (first | (show WL _ _ _ _ _ _ _; first | refine jA ?_ | refine jB ?_ | refine jC ?_ | refine jD ?_ | refine jE ?_ | refine jF ?_) | (show OW _ _ _ _ _ _; first | refine OW_E ?_ | refine jI ?_ | refine jJ ?_ | refine jK (fun bk => ?_) | refine jL (fun bk => ?_)) | (show WC _ _ _ _ _ _; first | refine jM ?_ | refine jN ?_ | refine jO ?_ | refine jP ?_ | refine jR ?_ | refine jS ?_ | refine jT ?_ | refine jU ?_) | (show WQ _ _ _ _; with_reducible first | refine jV ?_ | refine jW ?_ | refine jX ?_ | refine jY ?_ | refine jZ ?_ | refine kA ?_ | refine kB ?_ | refine kC ?_) | ((first | (refine jG (fun hc => ?_) (fun hc => ?_) <;> rw [hc]) | refine jQ (fun hc => ?_) (fun hc => ?_)) <;> (try simp only [nrB] at hc) <;> (try (exfalso; first | omega | exact hc trivial | exact hc rfl)))))
  (first | refine WQ_retI rfl rfl ?_ | refine WQ_endI rfl rfl ?_)
  refine ⟨_, iC, _, rfl, .inr ⟨b, cap, _, rfl, by rfl, rfl, ?_, Nat.zero_le _, h3⟩⟩
  show (zeros (Value.int .i64 0).cells.toList n ++ rest).length = _
  rw [List.length_append, zeros_int, ivn_length, List.length_replicate]
  omega
end Go.Proofs.YtkiaegkojlhaeaaDoor
/- slices.Concat over lists of numbers, the fixed codes' lengths. It proves no statement by itself. No conditions. -/
namespace Go.Proofs.YtkiaegkojlhaeaaDoor
open Go Go.Vx Go.Hf Go.If
variable [W0]
set_option maxRecDepth 4000
set_option linter.all false
theorem sl_slc {L : List Chunk} {k m : Nat} {v : Value} {xs : List Value} (h : Sl L k v m xs) : ∃ a c, v = .slice a m c := by
  rcases h with ⟨c, rfl, rfl, _⟩ | ⟨a, c, rfl, _, _⟩
  · exact ⟨_, _, rfl⟩
  · exact ⟨_, _, rfl⟩
omit [W0] in
/-- The first i of some lists, one behind the other. -/
def ccL (ss : List (Value × List Nat)) (i : Nat) : List Nat := (ss.take i).flatMap (·.2)
theorem ccL_succ {ss : List (Value × List Nat)} {i : Nat} {x : Value × List Nat} (h : ss[i]? = some x) : ccL ss (i + 1) = ccL ss i ++ x.2 := by
  unfold ccL
  rw [List.take_add_one, h]
  simp [List.flatMap_append]
theorem ccL_le (ss : List (Value × List Nat)) (i : Nat) : (ccL ss i).length ≤ (ccL ss ss.length).length := by
  unfold ccL
  rw [List.take_length]
  conv => rhs; rw [← List.take_append_drop i ss]
  rw [List.flatMap_append, List.length_append]
  omega

set_option maxHeartbeats 4000000 in
theorem concat_n (a : Option Addr) (c : Nat) (ss : List (Value × List Nat)) (L : List Chunk) (h : Sl L 1 (.slice a ss.length c) ss.length (ss.map (·.1))) (hs : ∀ x ∈ ss, Sl L 1 x.1 x.2.length (ivn x.2)) (hl : ss.length ≤ 1000)
    (h1 : 1 ≤ (ccL ss ss.length).length) (hn : (ccL ss ss.length).length ≤ 1000000) :
    Gv Tryd.prog 66 [.slice a ss.length c].toArray L (fun r L' => ∃ C, L' = C :: L ∧ Ow 3 1 r (ccL ss ss.length).length (ivn (ccL ss ss.length)) C) := by
  refine Gv.of_body Tryd.func66 rfl rfl ?_
  have hle := ccL_le ss
  (repeat' (first | (show WL _ _ _ _ _ _ _; first | refine jA ?_ | refine jB ?_ | refine jC ?_ | refine jD ?_ | refine jE ?_ | refine jF ?_) | (show OW _ _ _ _ _ _; first | refine OW_E ?_ | refine jI ?_ | refine jJ ?_ | refine jK (fun bk => ?_) | refine jL (fun bk => ?_)) | (show WC _ _ _ _ _ _; first | refine jM ?_ | refine jN ?_ | refine jO ?_ | refine jP ?_ | refine jR ?_ | refine jS ?_ | refine jT ?_ | refine jU ?_) | (show WQ _ _ _ _; with_reducible first | refine jV ?_ | refine jW ?_ | refine jX ?_ | refine jY ?_ | refine jZ ?_ | refine kA ?_ | refine kB ?_ | refine kC ?_) | ((first | (refine jG (fun hc => ?_) (fun hc => ?_) <;> rw [hc]) | refine jQ (fun hc => ?_) (fun hc => ?_)) <;> (try simp only [nrB] at hc) <;> (try (exfalso; first | omega | exact hc trivial | exact hc rfl)))))
  refine WC_loop (X := Nat) (fun i => [(0, .slice a ss.length c), (3, .int .i64 ((ccL ss i).length : Int)), (9, .slice a ss.length c), (10, .int .i64 (ss.length : Int)), (11, .int .i64 (i : Int))]) (fun _ => L)
    (fun i => i ≤ ss.length) (fun i => ss.length - i) 0 (Nat.zero_le _) (by repeat (first | exact Sub.nil | refine Sub.cons rfl ?_ | refine Sub.cons (lk_int rfl (by first | omega | (dsimp only; omega))) ?_)) (fun w h => h) ?_
  intro i hi
  (repeat' (first | (show WL _ _ _ _ _ _ _; first | refine jA ?_ | refine jB ?_ | refine jC ?_ | refine jD ?_ | refine jE ?_ | refine jF ?_) | (show OW _ _ _ _ _ _; first | refine OW_E ?_ | refine jI ?_ | refine jJ ?_ | refine jK (fun bk => ?_) | refine jL (fun bk => ?_)) | (show WC _ _ _ _ _ _; first | refine jM ?_ | refine jN ?_ | refine jO ?_ | refine jP ?_ | refine jR ?_ | refine jS ?_ | refine jT ?_ | refine jU ?_) | (show WQ _ _ _ _; with_reducible first | refine jV ?_ | refine jW ?_ | refine jX ?_ | refine jY ?_ | refine jZ ?_ | refine kA ?_ | refine kB ?_ | refine kC ?_) | ((first | (refine jG (fun hc => ?_) (fun hc => ?_) <;> rw [hc]) | refine jQ (fun hc => ?_) (fun hc => ?_)) <;> (try simp only [nrB] at hc) <;> (try (exfalso; first | omega | exact hc trivial | exact hc rfl)))))
  · have hlt : i < ss.length := by omega
    obtain ⟨x, hx⟩ : ∃ x, ss[i]? = some x := ⟨ss[i], List.getElem?_eq_getElem hlt⟩
    have hsx := hs x (List.mem_of_getElem? hx)
    obtain ⟨xv, xl⟩ := x
    simp only at hsx
    have hsu := ccL_succ hx
    have hle1 := hle (i + 1)
    rw [hsu, List.length_append] at hle1
    simp only at hsu hle1
    obtain ⟨xa, xc, rfl⟩ := sl_slc hsx
    obtain ⟨b, off, cap, cc, T, fr, hve, hfn, hcell⟩ := sl_at h (k := i) (u := .slice xa xl.length xc) (by rw [List.getElem?_map, hx]; rfl)
    injection hve with q1 q2 q3
    subst q1 q3
    clear q2
    refine OW_EV (EV_indexAddr (j := i) rfl rfl rfl hlt) rfl ?_
    (repeat' (first | (show WL _ _ _ _ _ _ _; first | refine jA ?_ | refine jB ?_ | refine jC ?_ | refine jD ?_ | refine jE ?_ | refine jF ?_) | (show OW _ _ _ _ _ _; first | refine OW_E ?_ | refine jI ?_ | refine jJ ?_ | refine jK (fun bk => ?_) | refine jL (fun bk => ?_)) | (show WC _ _ _ _ _ _; first | refine jM ?_ | refine jN ?_ | refine jO ?_ | refine jP ?_ | refine jR ?_ | refine jS ?_ | refine jT ?_ | refine jU ?_) | (show WQ _ _ _ _; with_reducible first | refine jV ?_ | refine jW ?_ | refine jX ?_ | refine jY ?_ | refine jZ ?_ | refine kA ?_ | refine kB ?_ | refine kC ?_) | ((first | (refine jG (fun hc => ?_) (fun hc => ?_) <;> rw [hc]) | refine jQ (fun hc => ?_) (fun hc => ?_)) <;> (try simp only [nrB] at hc) <;> (try (exfalso; first | omega | exact hc trivial | exact hc rfl)))))
    refine OW_EV (EV_load rfl hfn hcell) rfl ?_
    (repeat' (first | (show WL _ _ _ _ _ _ _; first | refine jA ?_ | refine jB ?_ | refine jC ?_ | refine jD ?_ | refine jE ?_ | refine jF ?_) | (show OW _ _ _ _ _ _; first | refine OW_E ?_ | refine jI ?_ | refine jJ ?_ | refine jK (fun bk => ?_) | refine jL (fun bk => ?_)) | (show WC _ _ _ _ _ _; first | refine jM ?_ | refine jN ?_ | refine jO ?_ | refine jP ?_ | refine jR ?_ | refine jS ?_ | refine jT ?_ | refine jU ?_) | (show WQ _ _ _ _; with_reducible first | refine jV ?_ | refine jW ?_ | refine jX ?_ | refine jY ?_ | refine jZ ?_ | refine kA ?_ | refine kB ?_ | refine kC ?_) | ((first | (refine jG (fun hc => ?_) (fun hc => ?_) <;> rw [hc]) | refine jQ (fun hc => ?_) (fun hc => ?_)) <;> (try simp only [nrB] at hc) <;> (try (exfalso; first | omega | exact hc trivial | exact hc rfl)))))
    rw [← Int.natCast_add, ← List.length_append, ← hsu]
    refine WQ_round (X := Nat) (μ := fun i => ss.length - i) (x := i) (i + 1) (by omega) (by omega) (by repeat (first | exact Sub.nil | refine Sub.cons rfl ?_ | refine Sub.cons (lk_int rfl (by first | omega | (dsimp only; omega))) ?_)) (fun w h => h)
  · obtain rfl : i = ss.length := by omega
    refine OW_call rfl rfl rfl (grow_n _ L h1 hn) rfl (fun r L' hp => ?_)
    obtain ⟨C, rfl, ho⟩ := hp
    (repeat' (first | (show WL _ _ _ _ _ _ _; first | refine jA ?_ | refine jB ?_ | refine jC ?_ | refine jD ?_ | refine jE ?_ | refine jF ?_) | (show OW _ _ _ _ _ _; first | refine OW_E ?_ | refine jI ?_ | refine jJ ?_ | refine jK (fun bk => ?_) | refine jL (fun bk => ?_)) | (show WC _ _ _ _ _ _; first | refine jM ?_ | refine jN ?_ | refine jO ?_ | refine jP ?_ | refine jR ?_ | refine jS ?_ | refine jT ?_ | refine jU ?_) | (show WQ _ _ _ _; with_reducible first | refine jV ?_ | refine jW ?_ | refine jX ?_ | refine jY ?_ | refine jZ ?_ | refine kA ?_ | refine kB ?_ | refine kC ?_) | ((first | (refine jG (fun hc => ?_) (fun hc => ?_) <;> rw [hc]) | refine jQ (fun hc => ?_) (fun hc => ?_)) <;> (try simp only [nrB] at hc) <;> (try (exfalso; first | omega | exact hc trivial | exact hc rfl)))))
    refine WC_loop (X := Nat × Value × Chunk) (fun x => [(6, x.2.1), (25, .slice a ss.length c), (26, .int .i64 (ss.length : Int)), (27, .int .i64 (x.1 : Int))]) (fun x => x.2.2 :: L)
      (fun x => x.1 ≤ ss.length ∧ Ow 3 1 x.2.1 (ccL ss x.1).length (ivn (ccL ss x.1)) x.2.2) (fun x => ss.length - x.1) (0, r, C) ⟨Nat.zero_le _, ho⟩ (by repeat (first | exact Sub.nil | refine Sub.cons rfl ?_ | refine Sub.cons (lk_int rfl (by first | omega | (dsimp only; omega))) ?_)) (fun w h => h) ?_
    rintro ⟨i, v, C1⟩ ⟨hi, hov⟩
    simp only at hi hov ⊢
    (repeat' (first | (show WL _ _ _ _ _ _ _; first | refine jA ?_ | refine jB ?_ | refine jC ?_ | refine jD ?_ | refine jE ?_ | refine jF ?_) | (show OW _ _ _ _ _ _; first | refine OW_E ?_ | refine jI ?_ | refine jJ ?_ | refine jK (fun bk => ?_) | refine jL (fun bk => ?_)) | (show WC _ _ _ _ _ _; first | refine jM ?_ | refine jN ?_ | refine jO ?_ | refine jP ?_ | refine jR ?_ | refine jS ?_ | refine jT ?_ | refine jU ?_) | (show WQ _ _ _ _; with_reducible first | refine jV ?_ | refine jW ?_ | refine jX ?_ | refine jY ?_ | refine jZ ?_ | refine kA ?_ | refine kB ?_ | refine kC ?_) | ((first | (refine jG (fun hc => ?_) (fun hc => ?_) <;> rw [hc]) | refine jQ (fun hc => ?_) (fun hc => ?_)) <;> (try simp only [nrB] at hc) <;> (try (exfalso; first | omega | exact hc trivial | exact hc rfl)))))
    · have hlt : i < ss.length := by omega
      obtain ⟨x, hx⟩ : ∃ x, ss[i]? = some x := ⟨ss[i], List.getElem?_eq_getElem hlt⟩
      have hsx := hs x (List.mem_of_getElem? hx)
      obtain ⟨xv, xl⟩ := x
      simp only at hsx
      have hsu := ccL_succ hx
      have hle1 := hle (i + 1)
      rw [hsu, List.length_append] at hle1
      simp only at hsu hle1
      obtain ⟨xa, xc, rfl⟩ := sl_slc hsx
      obtain ⟨b, off, cap, cc, T, fr, hve, hfn, hcell⟩ := sl_at h (k := i) (u := .slice xa xl.length xc) (by rw [List.getElem?_map, hx]; rfl)
      injection hve with q1 q2 q3
      subst q1 q3
      clear q2
      refine OW_EV (EV_indexAddr (j := i) rfl rfl rfl hlt) rfl ?_
      (repeat' (first | (show WL _ _ _ _ _ _ _; first | refine jA ?_ | refine jB ?_ | refine jC ?_ | refine jD ?_ | refine jE ?_ | refine jF ?_) | (show OW _ _ _ _ _ _; first | refine OW_E ?_ | refine jI ?_ | refine jJ ?_ | refine jK (fun bk => ?_) | refine jL (fun bk => ?_)) | (show WC _ _ _ _ _ _; first | refine jM ?_ | refine jN ?_ | refine jO ?_ | refine jP ?_ | refine jR ?_ | refine jS ?_ | refine jT ?_ | refine jU ?_) | (show WQ _ _ _ _; with_reducible first | refine jV ?_ | refine jW ?_ | refine jX ?_ | refine jY ?_ | refine jZ ?_ | refine kA ?_ | refine kB ?_ | refine kC ?_) | ((first | (refine jG (fun hc => ?_) (fun hc => ?_) <;> rw [hc]) | refine jQ (fun hc => ?_) (fun hc => ?_)) <;> (try simp only [nrB] at hc) <;> (try (exfalso; first | omega | exact hc trivial | exact hc rfl)))))
      refine OW_EV (EV_load rfl hfn.there hcell) rfl ?_
      (repeat' (first | (show WL _ _ _ _ _ _ _; first | refine jA ?_ | refine jB ?_ | refine jC ?_ | refine jD ?_ | refine jE ?_ | refine jF ?_) | (show OW _ _ _ _ _ _; first | refine OW_E ?_ | refine jI ?_ | refine jJ ?_ | refine jK (fun bk => ?_) | refine jL (fun bk => ?_)) | (show WC _ _ _ _ _ _; first | refine jM ?_ | refine jN ?_ | refine jO ?_ | refine jP ?_ | refine jR ?_ | refine jS ?_ | refine jT ?_ | refine jU ?_) | (show WQ _ _ _ _; with_reducible first | refine jV ?_ | refine jW ?_ | refine jX ?_ | refine jY ?_ | refine jZ ?_ | refine kA ?_ | refine kB ?_ | refine kC ?_) | ((first | (refine jG (fun hc => ?_) (fun hc => ?_) <;> rw [hc]) | refine jQ (fun hc => ?_) (fun hc => ?_)) <;> (try simp only [nrB] at hc) <;> (try (exfalso; first | omega | exact hc trivial | exact hc rfl)))))
      refine OW_append rfl rfl hov (sl_there hsx) (by repeat (first | exact Zip.here _ | apply Zip.there)) rfl ivn_ones (by omega) (by simp [maxLen]; omega) rfl (fun v' C' ho' _ _ => ?_)
      (repeat' (first | (show WL _ _ _ _ _ _ _; first | refine jA ?_ | refine jB ?_ | refine jC ?_ | refine jD ?_ | refine jE ?_ | refine jF ?_) | (show OW _ _ _ _ _ _; first | refine OW_E ?_ | refine jI ?_ | refine jJ ?_ | refine jK (fun bk => ?_) | refine jL (fun bk => ?_)) | (show WC _ _ _ _ _ _; first | refine jM ?_ | refine jN ?_ | refine jO ?_ | refine jP ?_ | refine jR ?_ | refine jS ?_ | refine jT ?_ | refine jU ?_) | (show WQ _ _ _ _; with_reducible first | refine jV ?_ | refine jW ?_ | refine jX ?_ | refine jY ?_ | refine jZ ?_ | refine kA ?_ | refine kB ?_ | refine kC ?_) | ((first | (refine jG (fun hc => ?_) (fun hc => ?_) <;> rw [hc]) | refine jQ (fun hc => ?_) (fun hc => ?_)) <;> (try simp only [nrB] at hc) <;> (try (exfalso; first | omega | exact hc trivial | exact hc rfl)))))
      rw [← List.length_append, ← ivn_app, ← hsu] at ho'
      refine WQ_round (X := Nat × Value × Chunk) (μ := fun x => ss.length - x.1) (x := (i, v, C1)) (i + 1, v', C') (by simp only; omega) ⟨by simp only; omega, ho'⟩ (by repeat (first | exact Sub.nil | refine Sub.cons rfl ?_ | refine Sub.cons (lk_int rfl (by first | omega | (dsimp only; omega))) ?_)) (fun w h => h)
    · obtain rfl : i = ss.length := by omega
      (first | refine WQ_retI rfl rfl ?_ | refine WQ_endI rfl rfl ?_)
      exact ⟨_, iC, C1, rfl, hov⟩

omit [W0] in
def fxS (u1 u2 u3 u4 : Value) : List (Value × List Nat) := [(u1, List.replicate 144 8), (u2, List.replicate 112 9), (u3, List.replicate 24 7), (u4, List.replicate 8 8)]
theorem fx_cc (u1 u2 u3 u4 : Value) : ccL (fxS u1 u2 u3 u4) (fxS u1 u2 u3 u4).length = fxL := by
  show (List.replicate 144 8 ++ (List.replicate 112 9 ++ (List.replicate 24 7 ++ (List.replicate 8 8 ++ [])))) = fxL
  decide
theorem fx_len (u1 u2 u3 u4 : Value) : (ccL (fxS u1 u2 u3 u4) (fxS u1 u2 u3 u4).length).length = 288 := by rw [fx_cc]; decide

set_option maxHeartbeats 4000000 in
theorem fixedLengths_n (L : List Chunk) : Gv Tryd.prog 57 #[] L (fun r L' => ∃ u v C D, r = .tuple #[u, v] ∧ L' = D :: C :: L ∧ Ow 3 1 u 288 (ivn fxL) C ∧ Ow 3 1 v 32 (ivn fxD) D) := by
  refine Gv.of_body (args := []) Tryd.func57 rfl rfl ?_
  (repeat' (first | (show WL _ _ _ _ _ _ _; first | refine jA ?_ | refine jB ?_ | refine jC ?_ | refine jD ?_ | refine jE ?_ | refine jF ?_) | (show OW _ _ _ _ _ _; first | refine OW_E ?_ | refine jI ?_ | refine jJ ?_ | refine jK (fun bk => ?_) | refine jL (fun bk => ?_)) | (show WC _ _ _ _ _ _; first | refine jM ?_ | refine jN ?_ | refine jO ?_ | refine jP ?_ | refine jR ?_ | refine jS ?_ | refine jT ?_ | refine jU ?_) | (show WQ _ _ _ _; with_reducible first | refine jV ?_ | refine jW ?_ | refine jX ?_ | refine jY ?_ | refine jZ ?_ | refine kA ?_ | refine kB ?_ | refine kC ?_) | ((first | (refine jG (fun hc => ?_) (fun hc => ?_) <;> rw [hc]) | refine jQ (fun hc => ?_) (fun hc => ?_)) <;> (try simp only [nrB] at hc) <;> (try (exfalso; first | omega | exact hc trivial | exact hc rfl)))))
  refine OW_call rfl rfl rfl (times_n 8 144 L (by decide) (by decide)) rfl (fun r L' hp => ?_)
  obtain ⟨C1, rfl, o1⟩ := hp
  obtain ⟨a1, c1, rfl⟩ := ow_slc o1
  (repeat' (first | (show WL _ _ _ _ _ _ _; first | refine jA ?_ | refine jB ?_ | refine jC ?_ | refine jD ?_ | refine jE ?_ | refine jF ?_) | (show OW _ _ _ _ _ _; first | refine OW_E ?_ | refine jI ?_ | refine jJ ?_ | refine jK (fun bk => ?_) | refine jL (fun bk => ?_)) | (show WC _ _ _ _ _ _; first | refine jM ?_ | refine jN ?_ | refine jO ?_ | refine jP ?_ | refine jR ?_ | refine jS ?_ | refine jT ?_ | refine jU ?_) | (show WQ _ _ _ _; with_reducible first | refine jV ?_ | refine jW ?_ | refine jX ?_ | refine jY ?_ | refine jZ ?_ | refine kA ?_ | refine kB ?_ | refine kC ?_) | ((first | (refine jG (fun hc => ?_) (fun hc => ?_) <;> rw [hc]) | refine jQ (fun hc => ?_) (fun hc => ?_)) <;> (try simp only [nrB] at hc) <;> (try (exfalso; first | omega | exact hc trivial | exact hc rfl)))))
  refine OW_call rfl rfl rfl (times_n 9 112 _ (by decide) (by decide)) rfl (fun r L' hp => ?_)
  obtain ⟨C2, rfl, o2⟩ := hp
  obtain ⟨a2, c2, rfl⟩ := ow_slc o2
  (repeat' (first | (show WL _ _ _ _ _ _ _; first | refine jA ?_ | refine jB ?_ | refine jC ?_ | refine jD ?_ | refine jE ?_ | refine jF ?_) | (show OW _ _ _ _ _ _; first | refine OW_E ?_ | refine jI ?_ | refine jJ ?_ | refine jK (fun bk => ?_) | refine jL (fun bk => ?_)) | (show WC _ _ _ _ _ _; first | refine jM ?_ | refine jN ?_ | refine jO ?_ | refine jP ?_ | refine jR ?_ | refine jS ?_ | refine jT ?_ | refine jU ?_) | (show WQ _ _ _ _; with_reducible first | refine jV ?_ | refine jW ?_ | refine jX ?_ | refine jY ?_ | refine jZ ?_ | refine kA ?_ | refine kB ?_ | refine kC ?_) | ((first | (refine jG (fun hc => ?_) (fun hc => ?_) <;> rw [hc]) | refine jQ (fun hc => ?_) (fun hc => ?_)) <;> (try simp only [nrB] at hc) <;> (try (exfalso; first | omega | exact hc trivial | exact hc rfl)))))
  refine OW_call rfl rfl rfl (times_n 7 24 _ (by decide) (by decide)) rfl (fun r L' hp => ?_)
  obtain ⟨C3, rfl, o3⟩ := hp
  obtain ⟨a3, c3, rfl⟩ := ow_slc o3
  (repeat' (first | (show WL _ _ _ _ _ _ _; first | refine jA ?_ | refine jB ?_ | refine jC ?_ | refine jD ?_ | refine jE ?_ | refine jF ?_) | (show OW _ _ _ _ _ _; first | refine OW_E ?_ | refine jI ?_ | refine jJ ?_ | refine jK (fun bk => ?_) | refine jL (fun bk => ?_)) | (show WC _ _ _ _ _ _; first | refine jM ?_ | refine jN ?_ | refine jO ?_ | refine jP ?_ | refine jR ?_ | refine jS ?_ | refine jT ?_ | refine jU ?_) | (show WQ _ _ _ _; with_reducible first | refine jV ?_ | refine jW ?_ | refine jX ?_ | refine jY ?_ | refine jZ ?_ | refine kA ?_ | refine kB ?_ | refine kC ?_) | ((first | (refine jG (fun hc => ?_) (fun hc => ?_) <;> rw [hc]) | refine jQ (fun hc => ?_) (fun hc => ?_)) <;> (try simp only [nrB] at hc) <;> (try (exfalso; first | omega | exact hc trivial | exact hc rfl)))))
  refine OW_call rfl rfl rfl (times_n 8 8 _ (by decide) (by decide)) rfl (fun r L' hp => ?_)
  obtain ⟨C4, rfl, o4⟩ := hp
  obtain ⟨a4, c4, rfl⟩ := ow_slc o4
  (repeat' (first | (show WL _ _ _ _ _ _ _; first | refine jA ?_ | refine jB ?_ | refine jC ?_ | refine jD ?_ | refine jE ?_ | refine jF ?_) | (show OW _ _ _ _ _ _; first | refine OW_E ?_ | refine jI ?_ | refine jJ ?_ | refine jK (fun bk => ?_) | refine jL (fun bk => ?_)) | (show WC _ _ _ _ _ _; first | refine jM ?_ | refine jN ?_ | refine jO ?_ | refine jP ?_ | refine jR ?_ | refine jS ?_ | refine jT ?_ | refine jU ?_) | (show WQ _ _ _ _; with_reducible first | refine jV ?_ | refine jW ?_ | refine jX ?_ | refine jY ?_ | refine jZ ?_ | refine kA ?_ | refine kB ?_ | refine kC ?_) | ((first | (refine jG (fun hc => ?_) (fun hc => ?_) <;> rw [hc]) | refine jQ (fun hc => ?_) (fun hc => ?_)) <;> (try simp only [nrB] at hc) <;> (try (exfalso; first | omega | exact hc trivial | exact hc rfl)))))
  refine OW_buildSlice (cs := [.slice a1 144 c1, .slice a2 112 c2, .slice a3 24 c3, .slice a4 8 c4]) rfl (by rfl) (by first | (simp [fillL, patch, Value.cells, zeros]; done) | (simp [fillL, patch, Value.cells, zeros]; rfl)) (by omega) rfl rfl (fun b => ?_)
  (repeat' (first | (show WL _ _ _ _ _ _ _; first | refine jA ?_ | refine jB ?_ | refine jC ?_ | refine jD ?_ | refine jE ?_ | refine jF ?_) | (show OW _ _ _ _ _ _; first | refine OW_E ?_ | refine jI ?_ | refine jJ ?_ | refine jK (fun bk => ?_) | refine jL (fun bk => ?_)) | (show WC _ _ _ _ _ _; first | refine jM ?_ | refine jN ?_ | refine jO ?_ | refine jP ?_ | refine jR ?_ | refine jS ?_ | refine jT ?_ | refine jU ?_) | (show WQ _ _ _ _; with_reducible first | refine jV ?_ | refine jW ?_ | refine jX ?_ | refine jY ?_ | refine jZ ?_ | refine kA ?_ | refine kB ?_ | refine kC ?_) | ((first | (refine jG (fun hc => ?_) (fun hc => ?_) <;> rw [hc]) | refine jQ (fun hc => ?_) (fun hc => ?_)) <;> (try simp only [nrB] at hc) <;> (try (exfalso; first | omega | exact hc trivial | exact hc rfl)))))
  have hcc := concat_n (some ⟨b, 0, none⟩) 4 (fxS (.slice a1 144 c1) (.slice a2 112 c2) (.slice a3 24 c3) (.slice a4 8 c4))
    ([(b, cl [.slice a1 144 c1, .slice a2 112 c2, .slice a3 24 c3, .slice a4 8 c4] 57)] :: C4 :: C3 :: C2 :: C1 :: L) (sl_cells (c := #[.slice a1 144 c1, .slice a2 112 c2, .slice a3 24 c3, .slice a4 8 c4]) Fnd.here rfl rfl)
    (by
      intro x hx
      simp only [fxS, List.mem_cons, List.not_mem_nil, or_false] at hx
      rcases hx with rfl | rfl | rfl | rfl
      · exact sl_there (sl_there (sl_there (sl_there (ow_sl o1))))
      · exact sl_there (sl_there (sl_there (ow_sl o2)))
      · exact sl_there (sl_there (ow_sl o3))
      · exact sl_there (ow_sl o4)) (by show 4 ≤ 1000; decide) (by rw [fx_len]; decide) (by rw [fx_len]; decide)
  rw [fx_len, fx_cc] at hcc
  refine OW_call rfl rfl rfl hcc rfl (fun r L' hp => ?_)
  obtain ⟨C5, rfl, o5⟩ := hp
  (repeat' (first | (show WL _ _ _ _ _ _ _; first | refine jA ?_ | refine jB ?_ | refine jC ?_ | refine jD ?_ | refine jE ?_ | refine jF ?_) | (show OW _ _ _ _ _ _; first | refine OW_E ?_ | refine jI ?_ | refine jJ ?_ | refine jK (fun bk => ?_) | refine jL (fun bk => ?_)) | (show WC _ _ _ _ _ _; first | refine jM ?_ | refine jN ?_ | refine jO ?_ | refine jP ?_ | refine jR ?_ | refine jS ?_ | refine jT ?_ | refine jU ?_) | (show WQ _ _ _ _; with_reducible first | refine jV ?_ | refine jW ?_ | refine jX ?_ | refine jY ?_ | refine jZ ?_ | refine kA ?_ | refine kB ?_ | refine kC ?_) | ((first | (refine jG (fun hc => ?_) (fun hc => ?_) <;> rw [hc]) | refine jQ (fun hc => ?_) (fun hc => ?_)) <;> (try simp only [nrB] at hc) <;> (try (exfalso; first | omega | exact hc trivial | exact hc rfl)))))
  refine OW_call rfl rfl rfl (times_n 5 32 _ (by decide) (by decide)) rfl (fun r L' hp => ?_)
  obtain ⟨C6, rfl, o6⟩ := hp
  (repeat' (first | (show WL _ _ _ _ _ _ _; first | refine jA ?_ | refine jB ?_ | refine jC ?_ | refine jD ?_ | refine jE ?_ | refine jF ?_) | (show OW _ _ _ _ _ _; first | refine OW_E ?_ | refine jI ?_ | refine jJ ?_ | refine jK (fun bk => ?_) | refine jL (fun bk => ?_)) | (show WC _ _ _ _ _ _; first | refine jM ?_ | refine jN ?_ | refine jO ?_ | refine jP ?_ | refine jR ?_ | refine jS ?_ | refine jT ?_ | refine jU ?_) | (show WQ _ _ _ _; with_reducible first | refine jV ?_ | refine jW ?_ | refine jX ?_ | refine jY ?_ | refine jZ ?_ | refine kA ?_ | refine kB ?_ | refine kC ?_) | ((first | (refine jG (fun hc => ?_) (fun hc => ?_) <;> rw [hc]) | refine jQ (fun hc => ?_) (fun hc => ?_)) <;> (try simp only [nrB] at hc) <;> (try (exfalso; first | omega | exact hc trivial | exact hc rfl)))))
  (first | refine WQ_retI rfl rfl ?_ | refine WQ_endI rfl rfl ?_)
  exact ⟨_, iC, _, _, C5, C6, rfl, rfl, o5, o6⟩
end Go.Proofs.YtkiaegkojlhaeaaDoor
