/- Coins compared, rows of coins exchanged and turned, coins put in by insertion. It proves no statement by itself. No conditions. -/
import Derived.Test.YteebdaoanfnkgaaOa
import Derived.Test.YteebdaoanfnkgaaTy
import Derived.Test.YteebdaoanfnkgaaWd
import Derived.Test.YteebdaoanfnkgaaVk
namespace Go.Vx
open Go Go.So
set_option linter.all false
variable [W0]
omit [W0] in
/-- A pair's cells; the cells of a row of pairs. -/
def cv (x : Nat × Nat) : List Value := [.int .i64 (x.1 : Int), .int .i64 (x.2 : Int)]
omit [W0] in
def cvs (f : Nat → Nat × Nat) : Nat → List Value
  | 0 => []
  | n + 1 => cvs f n ++ cv (f n)
theorem cvs_length (f : Nat → Nat × Nat) : ∀ n, (cvs f n).length = n * 2
  | 0 => rfl
  | n + 1 => by rw [cvs, List.length_append, cvs_length f n]; simp [cv]; omega
theorem cvs_congr {f g : Nat → Nat × Nat} : ∀ {n : Nat}, (∀ k, k < n → f k = g k) → cvs f n = cvs g n
  | 0, _ => rfl
  | n + 1, h => by rw [cvs, cvs, cvs_congr (fun k hk => h k (by omega)), h n (by omega)]
theorem cvs_ones (f : Nat → Nat × Nat) : ∀ n, ones (cvs f n) = true
  | 0 => rfl
  | n + 1 => by
    have := cvs_ones f n
    simp only [ones, cvs, List.all_append, Bool.and_eq_true] at *
    exact ⟨this, rfl⟩
theorem cvs_split (f : Nat → Nat × Nat) : ∀ {n j : Nat}, j < n → ∃ A B, cvs f n = A ++ (cv (f j) ++ B) ∧ A.length = j * 2 ∧ ∀ y, cvs (upd f j y) n = A ++ (cv y ++ B)
  | 0, j, h => by omega
  | n + 1, j, h => by
    by_cases he : j = n
    · subst he
      refine ⟨cvs f j, [], by simp [cvs], cvs_length f j, fun y => ?_⟩
      rw [cvs, cvs_congr (g := f) (fun k hk => by simp only [upd]; rw [if_neg (by omega)])]
      simp [upd]
    · obtain ⟨A, B, h1, h2, h3⟩ := cvs_split f (n := n) (j := j) (by omega)
      refine ⟨A, B ++ cv (f n), by rw [cvs, h1]; simp, h2, fun y => ?_⟩
      rw [cvs, h3]
      simp only [upd]
      rw [if_neg (by omega)]
      simp
theorem cv_rd {f : Nat → Nat × Nat} {n j b : Nat} {rest : List Value} {T : TypeId} {L : List Chunk} (hj : j < n) (hf : Fnd L b (cl (cvs f n ++ rest) T)) : RdAt L ⟨b, j * 2, none⟩ (cv (f j)) := by
  obtain ⟨A, B, h1, h2, _⟩ := cvs_split f hj
  refine RdAt.cl' hf ?_
  have hl : (cv (f j)).length = 2 := rfl
  rw [h1, cut, List.append_assoc, ← h2, List.drop_left, List.append_assoc, List.take_left' rfl]
theorem cv_patch {f : Nat → Nat × Nat} {n j : Nat} {rest : List Value} {y : Nat × Nat} (hj : j < n) : patch (cvs f n ++ rest) (j * 2) (cv y) = cvs (upd f j y) n ++ rest := by
  obtain ⟨A, B, h1, h2, h3⟩ := cvs_split f hj
  rw [h1, h3, patch, ← h2]
  have hl : A.length + (cv y).length = (A ++ cv (f j)).length := by simp [cv]
  have e1 : A ++ (cv (f j) ++ B) ++ rest = A ++ (cv (f j) ++ (B ++ rest)) := by simp
  have e2 : A ++ (cv (f j) ++ B) ++ rest = (A ++ cv (f j)) ++ (B ++ rest) := by simp
  have t1 : (A ++ (cv (f j) ++ B) ++ rest).take A.length = A := by rw [e1, List.take_left]
  have t2 : (A ++ (cv (f j) ++ B) ++ rest).drop (A.length + (cv y).length) = B ++ rest := by rw [hl, e2, List.drop_left]
  rw [t1, t2]
  simp
end Go.Vx
namespace Go.Proofs.Yteebdaoanfnkgaa
open Go Go.Vx Go.So
variable [W0]
set_option maxRecDepth 4000
set_option linter.all false

theorem isnan_n (x : Int) (L : List Chunk) : GvP Try.prog 55 [.int .i64 x].toArray L (.bool false) := by
  refine Gv.of_body Try.func55 rfl rfl ?_
  (repeat' (first | (show WL _ _ _ _ _ _ _; first | (refine WL_plain rfl ?_) | (refine WL_nil ?_) | (refine WL_on rfl rfl ?_) | (refine WL_off rfl rfl rfl rfl ?_) | (refine WL_offu rfl rfl rfl rfl ?_) | (refine WL_off' rfl rfl rfl ?_) | ((refine WL_split rfl rfl (fun hc => ?_) (fun hc => ?_)) <;> (rw [hc]; (try simp only [nrB] at hc); (try (exfalso; first | omega | exact hc trivial | exact hc rfl))))) | (show OW _ _ _ _ _ _; refine OW_E ?_) | (show OW _ _ ⟨_, .store .., _, _, _, _⟩ _ _ _; first | (refine OW_store rfl rfl rfl (by repeat (first | exact Upd.here | apply Upd.there)) (by first | (simp; done) | (simp; omega)) ?_) | (refine OW_storeAgg rfl rfl rfl rfl (by repeat (first | exact Upd.here | apply Upd.there)) (by first | (simp [Value.cells]; done) | (simp [Value.cells]; omega)) ?_)) | (show OW _ _ ⟨_, .alloc _, _, _, _, _⟩ _ _ _; first | (refine OW_alloc rfl (fun bk => ?_))) | (show OW _ _ ⟨_, .box .., _, _, _, _⟩ _ _ _; first | (refine OW_box rfl rfl (fun bk => ?_))) | (show WC _ _ _ _ _ _; first | (refine WC_seq ?_) | (refine WC_region ?_) | (refine WC_true rfl ?_) | (refine WC_false rfl ?_) | ((refine WC_cond rfl (fun hc => ?_) (fun hc => ?_)) <;> (try simp only [nrB] at hc) <;> (try (exfalso; first | omega | exact hc trivial | exact hc rfl))) | (refine WC_skip ?_) | (refine WC_ret ?_) | (refine WC_exit ?_) | (refine WC_block ?_)) | (show WQ _ _ _ _; first | (with_reducible refine WQ_then_normal ?_) | (with_reducible refine WQ_code ?_) | (with_reducible refine WQ_then_ret ?_) | (with_reducible refine WQ_block_ret ?_) | (with_reducible refine WQ_then_exit ?_) | (with_reducible refine WQ_block_hit ?_) | (with_reducible refine WQ_block_miss rfl ?_) | (with_reducible refine WQ_block_normal ?_))))
  (first | refine WQ_retI rfl rfl ?_ | refine WQ_endI rfl rfl ?_)
  refine ⟨L, (by repeat (first | exact Inc.refl | exact Inc.nil | refine Inc.cons (by repeat (first | exact Take.here | apply Take.there)) ?_ | refine Inc.skip ?_)), ?_, rfl⟩
  simp [tupled]
omit [W0] in
def cmpZ (x y : Int) : Int := if x < y then -1 else if x > y then 1 else 0
theorem compare_n (x y : Int) (L : List Chunk) : GvP Try.prog 47 [.int .i64 x, .int .i64 y].toArray L (.int .i64 (cmpZ x y)) := by
  refine Gv.of_body Try.func47 rfl rfl ?_
  (repeat' (first | (show WL _ _ _ _ _ _ _; first | (refine WL_plain rfl ?_) | (refine WL_nil ?_) | (refine WL_on rfl rfl ?_) | (refine WL_off rfl rfl rfl rfl ?_) | (refine WL_offu rfl rfl rfl rfl ?_) | (refine WL_off' rfl rfl rfl ?_) | ((refine WL_split rfl rfl (fun hc => ?_) (fun hc => ?_)) <;> (rw [hc]; (try simp only [nrB] at hc); (try (exfalso; first | omega | exact hc trivial | exact hc rfl))))) | (show OW _ _ _ _ _ _; refine OW_E ?_) | (show OW _ _ ⟨_, .store .., _, _, _, _⟩ _ _ _; first | (refine OW_store rfl rfl rfl (by repeat (first | exact Upd.here | apply Upd.there)) (by first | (simp; done) | (simp; omega)) ?_) | (refine OW_storeAgg rfl rfl rfl rfl (by repeat (first | exact Upd.here | apply Upd.there)) (by first | (simp [Value.cells]; done) | (simp [Value.cells]; omega)) ?_)) | (show OW _ _ ⟨_, .alloc _, _, _, _, _⟩ _ _ _; first | (refine OW_alloc rfl (fun bk => ?_))) | (show OW _ _ ⟨_, .box .., _, _, _, _⟩ _ _ _; first | (refine OW_box rfl rfl (fun bk => ?_))) | (show WC _ _ _ _ _ _; first | (refine WC_seq ?_) | (refine WC_region ?_) | (refine WC_true rfl ?_) | (refine WC_false rfl ?_) | ((refine WC_cond rfl (fun hc => ?_) (fun hc => ?_)) <;> (try simp only [nrB] at hc) <;> (try (exfalso; first | omega | exact hc trivial | exact hc rfl))) | (refine WC_skip ?_) | (refine WC_ret ?_) | (refine WC_exit ?_) | (refine WC_block ?_)) | (show WQ _ _ _ _; first | (with_reducible refine WQ_then_normal ?_) | (with_reducible refine WQ_code ?_) | (with_reducible refine WQ_then_ret ?_) | (with_reducible refine WQ_block_ret ?_) | (with_reducible refine WQ_then_exit ?_) | (with_reducible refine WQ_block_hit ?_) | (with_reducible refine WQ_block_miss rfl ?_) | (with_reducible refine WQ_block_normal ?_))))
  refine OW_callP rfl rfl rfl (isnan_n x L) rfl ?_
  (repeat' (first | (show WL _ _ _ _ _ _ _; first | (refine WL_plain rfl ?_) | (refine WL_nil ?_) | (refine WL_on rfl rfl ?_) | (refine WL_off rfl rfl rfl rfl ?_) | (refine WL_offu rfl rfl rfl rfl ?_) | (refine WL_off' rfl rfl rfl ?_) | ((refine WL_split rfl rfl (fun hc => ?_) (fun hc => ?_)) <;> (rw [hc]; (try simp only [nrB] at hc); (try (exfalso; first | omega | exact hc trivial | exact hc rfl))))) | (show OW _ _ _ _ _ _; refine OW_E ?_) | (show OW _ _ ⟨_, .store .., _, _, _, _⟩ _ _ _; first | (refine OW_store rfl rfl rfl (by repeat (first | exact Upd.here | apply Upd.there)) (by first | (simp; done) | (simp; omega)) ?_) | (refine OW_storeAgg rfl rfl rfl rfl (by repeat (first | exact Upd.here | apply Upd.there)) (by first | (simp [Value.cells]; done) | (simp [Value.cells]; omega)) ?_)) | (show OW _ _ ⟨_, .alloc _, _, _, _, _⟩ _ _ _; first | (refine OW_alloc rfl (fun bk => ?_))) | (show OW _ _ ⟨_, .box .., _, _, _, _⟩ _ _ _; first | (refine OW_box rfl rfl (fun bk => ?_))) | (show WC _ _ _ _ _ _; first | (refine WC_seq ?_) | (refine WC_region ?_) | (refine WC_true rfl ?_) | (refine WC_false rfl ?_) | ((refine WC_cond rfl (fun hc => ?_) (fun hc => ?_)) <;> (try simp only [nrB] at hc) <;> (try (exfalso; first | omega | exact hc trivial | exact hc rfl))) | (refine WC_skip ?_) | (refine WC_ret ?_) | (refine WC_exit ?_) | (refine WC_block ?_)) | (show WQ _ _ _ _; first | (with_reducible refine WQ_then_normal ?_) | (with_reducible refine WQ_code ?_) | (with_reducible refine WQ_then_ret ?_) | (with_reducible refine WQ_block_ret ?_) | (with_reducible refine WQ_then_exit ?_) | (with_reducible refine WQ_block_hit ?_) | (with_reducible refine WQ_block_miss rfl ?_) | (with_reducible refine WQ_block_normal ?_))))
  refine OW_callP rfl rfl rfl (isnan_n y L) rfl ?_
  (repeat' (first | (show WL _ _ _ _ _ _ _; first | (refine WL_plain rfl ?_) | (refine WL_nil ?_) | (refine WL_on rfl rfl ?_) | (refine WL_off rfl rfl rfl rfl ?_) | (refine WL_offu rfl rfl rfl rfl ?_) | (refine WL_off' rfl rfl rfl ?_) | ((refine WL_split rfl rfl (fun hc => ?_) (fun hc => ?_)) <;> (rw [hc]; (try simp only [nrB] at hc); (try (exfalso; first | omega | exact hc trivial | exact hc rfl))))) | (show OW _ _ _ _ _ _; refine OW_E ?_) | (show OW _ _ ⟨_, .store .., _, _, _, _⟩ _ _ _; first | (refine OW_store rfl rfl rfl (by repeat (first | exact Upd.here | apply Upd.there)) (by first | (simp; done) | (simp; omega)) ?_) | (refine OW_storeAgg rfl rfl rfl rfl (by repeat (first | exact Upd.here | apply Upd.there)) (by first | (simp [Value.cells]; done) | (simp [Value.cells]; omega)) ?_)) | (show OW _ _ ⟨_, .alloc _, _, _, _, _⟩ _ _ _; first | (refine OW_alloc rfl (fun bk => ?_))) | (show OW _ _ ⟨_, .box .., _, _, _, _⟩ _ _ _; first | (refine OW_box rfl rfl (fun bk => ?_))) | (show WC _ _ _ _ _ _; first | (refine WC_seq ?_) | (refine WC_region ?_) | (refine WC_true rfl ?_) | (refine WC_false rfl ?_) | ((refine WC_cond rfl (fun hc => ?_) (fun hc => ?_)) <;> (try simp only [nrB] at hc) <;> (try (exfalso; first | omega | exact hc trivial | exact hc rfl))) | (refine WC_skip ?_) | (refine WC_ret ?_) | (refine WC_exit ?_) | (refine WC_block ?_)) | (show WQ _ _ _ _; first | (with_reducible refine WQ_then_normal ?_) | (with_reducible refine WQ_code ?_) | (with_reducible refine WQ_then_ret ?_) | (with_reducible refine WQ_block_ret ?_) | (with_reducible refine WQ_then_exit ?_) | (with_reducible refine WQ_block_hit ?_) | (with_reducible refine WQ_block_miss rfl ?_) | (with_reducible refine WQ_block_normal ?_))))
  · (first | refine WQ_retI rfl rfl ?_ | refine WQ_endI rfl rfl ?_)
    exact ⟨L, (by repeat (first | exact Inc.refl | exact Inc.nil | refine Inc.cons (by repeat (first | exact Take.here | apply Take.there)) ?_ | refine Inc.skip ?_)), by unfold cmpZ; rw [if_pos (by assumption)]; rfl, rfl⟩
  · (first | refine WQ_retI rfl rfl ?_ | refine WQ_endI rfl rfl ?_)
    exact ⟨L, (by repeat (first | exact Inc.refl | exact Inc.nil | refine Inc.cons (by repeat (first | exact Take.here | apply Take.there)) ?_ | refine Inc.skip ?_)), by unfold cmpZ; rw [if_neg (by assumption), if_pos (by assumption)]; rfl, rfl⟩
  · (first | refine WQ_retI rfl rfl ?_ | refine WQ_endI rfl rfl ?_)
    exact ⟨L, (by repeat (first | exact Inc.refl | exact Inc.nil | refine Inc.cons (by repeat (first | exact Take.here | apply Take.there)) ?_ | refine Inc.skip ?_)), by unfold cmpZ; rw [if_neg (by assumption), if_neg (by assumption)]; rfl, rfl⟩
theorem ccmp_n (x y : Nat × Nat) (L : List Chunk) : GvP Try.prog 46 [.agg (cv x).toArray, .agg (cv y).toArray].toArray L (.int .i64 (cmpZ (x.2 : Int) (y.2 : Int))) := by
  refine Gv.of_body Try.func46 rfl rfl ?_
  (repeat' (first | (show WL _ _ _ _ _ _ _; first | (refine WL_plain rfl ?_) | (refine WL_nil ?_) | (refine WL_on rfl rfl ?_) | (refine WL_off rfl rfl rfl rfl ?_) | (refine WL_offu rfl rfl rfl rfl ?_) | (refine WL_off' rfl rfl rfl ?_) | ((refine WL_split rfl rfl (fun hc => ?_) (fun hc => ?_)) <;> (rw [hc]; (try simp only [nrB] at hc); (try (exfalso; first | omega | exact hc trivial | exact hc rfl))))) | (show OW _ _ _ _ _ _; refine OW_E ?_) | (show OW _ _ ⟨_, .store .., _, _, _, _⟩ _ _ _; first | (refine OW_store rfl rfl rfl (by repeat (first | exact Upd.here | apply Upd.there)) (by first | (simp; done) | (simp; omega)) ?_) | (refine OW_storeAgg rfl rfl rfl rfl (by repeat (first | exact Upd.here | apply Upd.there)) (by first | (simp [Value.cells]; done) | (simp [Value.cells]; omega)) ?_)) | (show OW _ _ ⟨_, .alloc _, _, _, _, _⟩ _ _ _; first | (refine OW_alloc rfl (fun bk => ?_))) | (show OW _ _ ⟨_, .box .., _, _, _, _⟩ _ _ _; first | (refine OW_box rfl rfl (fun bk => ?_))) | (show WC _ _ _ _ _ _; first | (refine WC_seq ?_) | (refine WC_region ?_) | (refine WC_true rfl ?_) | (refine WC_false rfl ?_) | ((refine WC_cond rfl (fun hc => ?_) (fun hc => ?_)) <;> (try simp only [nrB] at hc) <;> (try (exfalso; first | omega | exact hc trivial | exact hc rfl))) | (refine WC_skip ?_) | (refine WC_ret ?_) | (refine WC_exit ?_) | (refine WC_block ?_)) | (show WQ _ _ _ _; first | (with_reducible refine WQ_then_normal ?_) | (with_reducible refine WQ_code ?_) | (with_reducible refine WQ_then_ret ?_) | (with_reducible refine WQ_block_ret ?_) | (with_reducible refine WQ_then_exit ?_) | (with_reducible refine WQ_block_hit ?_) | (with_reducible refine WQ_block_miss rfl ?_) | (with_reducible refine WQ_block_normal ?_))))
  refine OW_callP rfl rfl rfl (compare_n _ _ _) rfl ?_
  (repeat' (first | (show WL _ _ _ _ _ _ _; first | (refine WL_plain rfl ?_) | (refine WL_nil ?_) | (refine WL_on rfl rfl ?_) | (refine WL_off rfl rfl rfl rfl ?_) | (refine WL_offu rfl rfl rfl rfl ?_) | (refine WL_off' rfl rfl rfl ?_) | ((refine WL_split rfl rfl (fun hc => ?_) (fun hc => ?_)) <;> (rw [hc]; (try simp only [nrB] at hc); (try (exfalso; first | omega | exact hc trivial | exact hc rfl))))) | (show OW _ _ _ _ _ _; refine OW_E ?_) | (show OW _ _ ⟨_, .store .., _, _, _, _⟩ _ _ _; first | (refine OW_store rfl rfl rfl (by repeat (first | exact Upd.here | apply Upd.there)) (by first | (simp; done) | (simp; omega)) ?_) | (refine OW_storeAgg rfl rfl rfl rfl (by repeat (first | exact Upd.here | apply Upd.there)) (by first | (simp [Value.cells]; done) | (simp [Value.cells]; omega)) ?_)) | (show OW _ _ ⟨_, .alloc _, _, _, _, _⟩ _ _ _; first | (refine OW_alloc rfl (fun bk => ?_))) | (show OW _ _ ⟨_, .box .., _, _, _, _⟩ _ _ _; first | (refine OW_box rfl rfl (fun bk => ?_))) | (show WC _ _ _ _ _ _; first | (refine WC_seq ?_) | (refine WC_region ?_) | (refine WC_true rfl ?_) | (refine WC_false rfl ?_) | ((refine WC_cond rfl (fun hc => ?_) (fun hc => ?_)) <;> (try simp only [nrB] at hc) <;> (try (exfalso; first | omega | exact hc trivial | exact hc rfl))) | (refine WC_skip ?_) | (refine WC_ret ?_) | (refine WC_exit ?_) | (refine WC_block ?_)) | (show WQ _ _ _ _; first | (with_reducible refine WQ_then_normal ?_) | (with_reducible refine WQ_code ?_) | (with_reducible refine WQ_then_ret ?_) | (with_reducible refine WQ_block_ret ?_) | (with_reducible refine WQ_then_exit ?_) | (with_reducible refine WQ_block_hit ?_) | (with_reducible refine WQ_block_miss rfl ?_) | (with_reducible refine WQ_block_normal ?_))))
  (first | refine WQ_retI rfl rfl ?_ | refine WQ_endI rfl rfl ?_)
  exact ⟨L, (by repeat (first | exact Inc.refl | exact Inc.nil | refine Inc.cons (by repeat (first | exact Take.here | apply Take.there)) ?_ | refine Inc.skip ?_)), rfl, rfl⟩
omit [W0] in
/-- The comparison that is handed on. -/
def cmpV : Value := .func (.func 46) #[] #[]

set_option maxHeartbeats 2000000 in
theorem swapr_n (f : Nat → Nat × Nat) (N b0 cap a b n : Nat) (rest : List Value) (L : List Chunk) (hN : N ≤ 1000) (h1 : a + n ≤ N) (h2 : b + n ≤ N) :
    Gv Try.prog 65 [.slice (some ⟨b0, 0, none⟩) N cap, .int .i64 (a : Int), .int .i64 (b : Int), .int .i64 (n : Int), cmpV].toArray ([(b0, cl (cvs f N ++ rest) 63)] :: L)
      (fun r L' => r = .tuple #[] ∧ L' = [(b0, cl (cvs (swr f a b n) N ++ rest) 63)] :: L) := by
  refine Gv.of_body Try.func65 rfl rfl ?_
  (repeat' (first | (show WL _ _ _ _ _ _ _; first | (refine WL_plain rfl ?_) | (refine WL_nil ?_) | (refine WL_on rfl rfl ?_) | (refine WL_off rfl rfl rfl rfl ?_) | (refine WL_offu rfl rfl rfl rfl ?_) | (refine WL_off' rfl rfl rfl ?_) | ((refine WL_split rfl rfl (fun hc => ?_) (fun hc => ?_)) <;> (rw [hc]; (try simp only [nrB] at hc); (try (exfalso; first | omega | exact hc trivial | exact hc rfl))))) | (show OW _ _ _ _ _ _; refine OW_E ?_) | (show OW _ _ ⟨_, .store .., _, _, _, _⟩ _ _ _; first | (refine OW_store rfl rfl rfl (by repeat (first | exact Upd.here | apply Upd.there)) (by first | (simp; done) | (simp; omega)) ?_) | (refine OW_storeAgg rfl rfl rfl rfl (by repeat (first | exact Upd.here | apply Upd.there)) (by first | (simp [Value.cells]; done) | (simp [Value.cells]; omega)) ?_)) | (show OW _ _ ⟨_, .alloc _, _, _, _, _⟩ _ _ _; first | (refine OW_alloc rfl (fun bk => ?_))) | (show OW _ _ ⟨_, .box .., _, _, _, _⟩ _ _ _; first | (refine OW_box rfl rfl (fun bk => ?_))) | (show WC _ _ _ _ _ _; first | (refine WC_seq ?_) | (refine WC_region ?_) | (refine WC_true rfl ?_) | (refine WC_false rfl ?_) | ((refine WC_cond rfl (fun hc => ?_) (fun hc => ?_)) <;> (try simp only [nrB] at hc) <;> (try (exfalso; first | omega | exact hc trivial | exact hc rfl))) | (refine WC_skip ?_) | (refine WC_ret ?_) | (refine WC_exit ?_) | (refine WC_block ?_)) | (show WQ _ _ _ _; first | (with_reducible refine WQ_then_normal ?_) | (with_reducible refine WQ_code ?_) | (with_reducible refine WQ_then_ret ?_) | (with_reducible refine WQ_block_ret ?_) | (with_reducible refine WQ_then_exit ?_) | (with_reducible refine WQ_block_hit ?_) | (with_reducible refine WQ_block_miss rfl ?_) | (with_reducible refine WQ_block_normal ?_))))
  refine WC_loop (X := Nat) (fun i => [(0, .slice (some ⟨b0, 0, none⟩) N cap), (1, .int .i64 (a : Int)), (2, .int .i64 (b : Int)), (3, .int .i64 (n : Int)), (10, .int .i64 (i : Int))])
    (fun i => [(b0, cl (cvs (swr f a b i) N ++ rest) 63)] :: L) (fun i => i ≤ n) (fun i => n - i) 0 (Nat.zero_le _) (by repeat (first | exact Sub.nil | refine Sub.cons rfl ?_ | refine Sub.cons (lk_int rfl (by first | omega | (dsimp only; omega))) ?_)) (fun w h => h) ?_
  intro i hi
  obtain ⟨g, hg⟩ : ∃ g, g = swr f a b i := ⟨_, rfl⟩
  have hst : swr f a b (i + 1) = swp g (a + i) (b + i) := by rw [hg]; rfl
  rw [← hg]
  (repeat' (first | (show WL _ _ _ _ _ _ _; first | (refine WL_plain rfl ?_) | (refine WL_nil ?_) | (refine WL_on rfl rfl ?_) | (refine WL_off rfl rfl rfl rfl ?_) | (refine WL_offu rfl rfl rfl rfl ?_) | (refine WL_off' rfl rfl rfl ?_) | ((refine WL_split rfl rfl (fun hc => ?_) (fun hc => ?_)) <;> (rw [hc]; (try simp only [nrB] at hc); (try (exfalso; first | omega | exact hc trivial | exact hc rfl))))) | (show OW _ _ _ _ _ _; refine OW_E ?_) | (show OW _ _ ⟨_, .store .., _, _, _, _⟩ _ _ _; first | (refine OW_store rfl rfl rfl (by repeat (first | exact Upd.here | apply Upd.there)) (by first | (simp; done) | (simp; omega)) ?_) | (refine OW_storeAgg rfl rfl rfl rfl (by repeat (first | exact Upd.here | apply Upd.there)) (by first | (simp [Value.cells]; done) | (simp [Value.cells]; omega)) ?_)) | (show OW _ _ ⟨_, .alloc _, _, _, _, _⟩ _ _ _; first | (refine OW_alloc rfl (fun bk => ?_))) | (show OW _ _ ⟨_, .box .., _, _, _, _⟩ _ _ _; first | (refine OW_box rfl rfl (fun bk => ?_))) | (show WC _ _ _ _ _ _; first | (refine WC_seq ?_) | (refine WC_region ?_) | (refine WC_true rfl ?_) | (refine WC_false rfl ?_) | ((refine WC_cond rfl (fun hc => ?_) (fun hc => ?_)) <;> (try simp only [nrB] at hc) <;> (try (exfalso; first | omega | exact hc trivial | exact hc rfl))) | (refine WC_skip ?_) | (refine WC_ret ?_) | (refine WC_exit ?_) | (refine WC_block ?_)) | (show WQ _ _ _ _; first | (with_reducible refine WQ_then_normal ?_) | (with_reducible refine WQ_code ?_) | (with_reducible refine WQ_then_ret ?_) | (with_reducible refine WQ_block_ret ?_) | (with_reducible refine WQ_then_exit ?_) | (with_reducible refine WQ_block_hit ?_) | (with_reducible refine WQ_block_miss rfl ?_) | (with_reducible refine WQ_block_normal ?_))))
  · have hlt : i < n := by omega
    refine WC_drawAll [4, 5, 6, 7, 21, 22, 23] mixed ?_
    (refine WR_f 4 ?_; refine WR_f 5 ?_; refine WR_f 6 ?_; refine WR_f 7 ?_)
    (refine WR_t2 0 ?_; refine WR_t2 1 ?_; refine WR_t2 2 ?_; refine WR_t2 3 ?_; refine WR_t2 8 ?_; refine WR_t2 9 ?_; refine WR_t2 10 ?_; refine WR_t2 11 ?_)
    (refine WR_take2 12 rfl rfl (by kernel_rfl) (by repeat (first | with_reducible exact PO.body | with_reducible refine PO.then ?_ | with_reducible refine PO.block ?_)) (by repeat (first | exact Inc.refl | exact Inc.nil | refine Inc.cons (by repeat (first | exact Take.here | apply Take.there)) ?_ | refine Inc.skip ?_)) (EV_indexAddr0 (j := b + i) rfl rfl (by omega) (by omega)) (by rfl) ?_)
    (refine WR_take2 13 rfl rfl (by kernel_rfl) (by repeat (first | with_reducible exact PO.body | with_reducible refine PO.then ?_ | with_reducible refine PO.block ?_)) (by repeat (first | exact Inc.refl | exact Inc.nil | refine Inc.cons (by repeat (first | exact Take.here | apply Take.there)) ?_ | refine Inc.skip ?_)) (EV_loadAgg rfl (cv_rd (f := g) (n := N) (j := b + i) (rest := rest) (by omega) (by repeat (first | assumption | exact Fnd.here | refine Fnd.there ?_))) rfl) (by rfl) ?_)
    (refine WR_t2 14 ?_; refine WR_t2 15 ?_; refine WR_t2 16 ?_; refine WR_t2 17 ?_)
    (refine WR_take2 18 rfl rfl (by kernel_rfl) (by repeat (first | with_reducible exact PO.body | with_reducible refine PO.then ?_ | with_reducible refine PO.block ?_)) (by repeat (first | exact Inc.refl | exact Inc.nil | refine Inc.cons (by repeat (first | exact Take.here | apply Take.there)) ?_ | refine Inc.skip ?_)) (EV_indexAddr0 (j := a + i) rfl rfl (by omega) (by omega)) (by rfl) ?_)
    (refine WR_take2 19 rfl rfl (by kernel_rfl) (by repeat (first | with_reducible exact PO.body | with_reducible refine PO.then ?_ | with_reducible refine PO.block ?_)) (by repeat (first | exact Inc.refl | exact Inc.nil | refine Inc.cons (by repeat (first | exact Take.here | apply Take.there)) ?_ | refine Inc.skip ?_)) (EV_loadAgg rfl (cv_rd (f := g) (n := N) (j := a + i) (rest := rest) (by omega) (by repeat (first | assumption | exact Fnd.here | refine Fnd.there ?_))) rfl) (by rfl) ?_)
    (refine WR_take2 20 rfl rfl (by kernel_rfl) (by repeat (first | with_reducible exact PO.body | with_reducible refine PO.then ?_ | with_reducible refine PO.block ?_)) (by repeat (first | exact Inc.refl | exact Inc.nil | refine Inc.cons (by repeat (first | exact Take.here | apply Take.there)) ?_ | refine Inc.skip ?_)) (EV_indexAddr0 (j := a + i) rfl rfl (by omega) (by omega)) (by rfl) ?_)
    (refine WR_last 21 (by kernel_rfl) rfl rfl rfl ?_)
    refine OW_storeAggTo (vs := cv (g (b + i))) (cvs (upd g (a + i) (g (b + i))) N ++ rest) rfl rfl rfl rfl (cv_patch (by omega)) (by repeat (first | exact Upd.here | apply Upd.there)) (by rw [List.length_append, cvs_length]; simp [cv]; omega) ?_
    (refine WR_last 22 (by kernel_rfl) rfl rfl rfl ?_)
    refine OW_EV (EV_indexAddr0 (j := b + i) rfl rfl (by omega) (by omega)) rfl ?_
    (refine WR_last 23 (by kernel_rfl) rfl rfl rfl ?_)
    refine OW_storeAggTo (l := cvs (upd g (a + i) (g (b + i))) N ++ rest) (vs := cv (g (a + i))) (cvs (swp g (a + i) (b + i)) N ++ rest) rfl rfl rfl rfl (by rw [cv_patch (n := N) (rest := rest) (j := b + i) (by omega), upd_swp]) (by repeat (first | exact Upd.here | apply Upd.there)) (by rw [List.length_append, cvs_length]; simp [cv]; omega) ?_
    (refine WR_done (by kernel_rfl) ?_)
    rw [← hst]
    (repeat' (first | (show WL _ _ _ _ _ _ _; first | (refine WL_plain rfl ?_) | (refine WL_nil ?_) | (refine WL_on rfl rfl ?_) | (refine WL_off rfl rfl rfl rfl ?_) | (refine WL_offu rfl rfl rfl rfl ?_) | (refine WL_off' rfl rfl rfl ?_) | ((refine WL_split rfl rfl (fun hc => ?_) (fun hc => ?_)) <;> (rw [hc]; (try simp only [nrB] at hc); (try (exfalso; first | omega | exact hc trivial | exact hc rfl))))) | (show OW _ _ _ _ _ _; refine OW_E ?_) | (show OW _ _ ⟨_, .store .., _, _, _, _⟩ _ _ _; first | (refine OW_store rfl rfl rfl (by repeat (first | exact Upd.here | apply Upd.there)) (by first | (simp; done) | (simp; omega)) ?_) | (refine OW_storeAgg rfl rfl rfl rfl (by repeat (first | exact Upd.here | apply Upd.there)) (by first | (simp [Value.cells]; done) | (simp [Value.cells]; omega)) ?_)) | (show OW _ _ ⟨_, .alloc _, _, _, _, _⟩ _ _ _; first | (refine OW_alloc rfl (fun bk => ?_))) | (show OW _ _ ⟨_, .box .., _, _, _, _⟩ _ _ _; first | (refine OW_box rfl rfl (fun bk => ?_))) | (show WC _ _ _ _ _ _; first | (refine WC_seq ?_) | (refine WC_region ?_) | (refine WC_true rfl ?_) | (refine WC_false rfl ?_) | ((refine WC_cond rfl (fun hc => ?_) (fun hc => ?_)) <;> (try simp only [nrB] at hc) <;> (try (exfalso; first | omega | exact hc trivial | exact hc rfl))) | (refine WC_skip ?_) | (refine WC_ret ?_) | (refine WC_exit ?_) | (refine WC_block ?_)) | (show WQ _ _ _ _; first | (with_reducible refine WQ_then_normal ?_) | (with_reducible refine WQ_code ?_) | (with_reducible refine WQ_then_ret ?_) | (with_reducible refine WQ_block_ret ?_) | (with_reducible refine WQ_then_exit ?_) | (with_reducible refine WQ_block_hit ?_) | (with_reducible refine WQ_block_miss rfl ?_) | (with_reducible refine WQ_block_normal ?_))))
    refine WQ_round (X := Nat) (μ := fun i => n - i) (x := i) (i + 1) (by omega) (by omega) (by repeat (first | exact Sub.nil | refine Sub.cons rfl ?_ | refine Sub.cons (lk_int rfl (by first | omega | (dsimp only; omega))) ?_)) (fun w h => h)
  · have hin : i = n := by omega
    rw [hg, hin]
    (first | refine WQ_retI rfl rfl ?_ | refine WQ_endI rfl rfl ?_)
    exact ⟨_, (by repeat (first | exact Inc.refl | exact Inc.nil | refine Inc.cons (by repeat (first | exact Take.here | apply Take.there)) ?_ | refine Inc.skip ?_)), rfl, rfl⟩
end Go.Proofs.Yteebdaoanfnkgaa
