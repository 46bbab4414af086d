/- Lengths. It proves no statement by itself. No conditions. -/
import Derived.Test.YteebdaoanfnkgaaOo
import Derived.Test.YteebdaoanfnkgaaOm
import Derived.Test.YteebdaoanfnkgaaZb
namespace Go.Proofs.Yteebdaoanfnkgaa
open Go Go.Vx Go.So Go.Hf
variable [W0]
set_option maxRecDepth 4000
set_option linter.all false
omit [W0] in
/-- How many come. -/
def nC (ls : List Int) : Nat := (pos (nl ls) ls.length).length
omit [W0] in
def errL (ls : List Int) (most : Int) : Prop := most < 1 ∨ 15 < most ∨ 400 < ls.length ∨ ls.all okc = false ∨ 2 ^ most.toNat < nC ls
omit [W0] in
/-- What Lengths answers, of counts that it takes. -/
structure LenOf (cs : List Nat) (M : Nat) (lens : List Nat) : Prop where
  len : lens.length = cs.length
  m1 : 1 ≤ M
  m15 : M ≤ 15
  n400 : cs.length ≤ 400
  off : ∀ i, cs.getD i 0 = 0 → lens.getD i 0 = 0
  ex : ∃ N g, N = (pos cs cs.length).length ∧ Cn cs cs.length N g ∧ N ≤ 2 ^ M ∧ (N = 1 → ∀ r, r < N → lens.getD (g r).1 0 = 1) ∧
    (2 ≤ N → ∃ lv, Pm.Lv (coinsOf (fun i => cs.getD i 0) g N) lv ∧ ∀ r, r < N → lens.getD (g r).1 0 = Pm.ln (Pm.sel lv M (2 * N - 2)) r)

theorem zeros_ivn : ∀ n, zeros [.int .i64 0] n = ivn (List.replicate n 0)
  | 0 => rfl
  | n + 1 => by simp only [zeros, List.replicate_succ]; rw [zeros_ivn n]; rfl
theorem rep_getD (n i : Nat) : (List.replicate n 0).getD i 0 = 0 := by
  simp only [List.getD, List.getElem?_replicate]
  split <;> rfl

set_option maxHeartbeats 16000000 in
theorem lengths_n (a : Option Addr) (c : Nat) (ls : List Int) (most : Int) (L : List Chunk) (h : Sl L 1 (.slice a ls.length c) ls.length (intsN ls)) (hl : ls.length ≤ 17592186044416) :
    Gv Try.prog 9 [.slice a ls.length c, .int .i64 most].toArray L (fun r L' => (errL ls most ∧ r = .tuple #[.slice none 0 0, .int .i64 1] ∧ L' = L) ∨
      (¬ errL ls most ∧ ∃ lens v C, r = .tuple #[v, .int .i64 0] ∧ L' = C :: L ∧ Ow 3 1 v ls.length (ivn lens) C ∧ LenOf (nl ls) most.toNat lens)) := by
  refine Gv.of_body Try.func9 rfl rfl ?_
  obtain ⟨Q, hQ⟩ : ∃ Q : Value → List Chunk → Prop, ∀ r L', Q r L' ↔ ((errL ls most ∧ r = .tuple #[.slice none 0 0, .int .i64 1] ∧ L' = L) ∨
      (¬ errL ls most ∧ ∃ lens v C, r = .tuple #[v, .int .i64 0] ∧ L' = C :: L ∧ Ow 3 1 v ls.length (ivn lens) C ∧ LenOf (nl ls) most.toNat lens)) := ⟨fun r L' => _, fun _ _ => Iff.rfl⟩
  simp only [← hQ]
  have hno : errL ls most → ∀ (M : List (Nat × Value)) (L1 : List Chunk), lk M 4 = some (.slice none 0 0) → lk M 5 = some (.int .i64 1) → (∀ w, Holds w L1 → Holds w L) →
      WQ Try.f9.ntmps (bodyPost Try.prog Try.f9 (fun e w' => ∃ v L', e = .returned v ∧ Q v L' ∧ Holds w' L') .ret) M L1 := by
    intro he M L1 h2 h3 h4
    refine WQ_retH (rs := [.tmp 4, .tmp 5]) (vs := [.slice none 0 0, .int .i64 1]) rfl (by simp [resT, h2, h3]) ?_
    exact ⟨L, h4, (hQ _ _).2 (.inl ⟨he, rfl, rfl⟩)⟩
  (repeat' (first | (show WL _ _ _ _ _ _ _; first | (refine WL_plain rfl ?_) | (refine WL_nil ?_) | (refine WL_on rfl rfl ?_) | (refine WL_off rfl rfl rfl rfl ?_) | (refine WL_offu rfl rfl rfl rfl ?_) | (refine WL_off' rfl rfl rfl ?_) | ((refine WL_split rfl rfl (fun hc => ?_) (fun hc => ?_)) <;> (rw [hc]; (try simp only [nrB] at hc); (try (exfalso; first | omega | exact hc trivial | exact hc rfl))))) | (show OW _ _ _ _ _ _; refine OW_E ?_) | (show OW _ _ ⟨_, .store .., _, _, _, _⟩ _ _ _; first | (refine OW_store rfl rfl rfl (by repeat (first | exact Upd.here | apply Upd.there)) (by first | (simp; done) | (simp; omega)) ?_) | (refine OW_storeAgg rfl rfl rfl rfl (by repeat (first | exact Upd.here | apply Upd.there)) (by first | (simp [Value.cells]; done) | (simp [Value.cells]; omega)) ?_)) | (show OW _ _ ⟨_, .alloc _, _, _, _, _⟩ _ _ _; first | (refine OW_alloc rfl (fun bk => ?_))) | (show OW _ _ ⟨_, .box .., _, _, _, _⟩ _ _ _; first | (refine OW_box rfl rfl (fun bk => ?_))) | (show WC _ _ _ _ _ _; first | (refine WC_seq ?_) | (refine WC_region ?_) | (refine WC_true rfl ?_) | (refine WC_false rfl ?_) | ((refine WC_cond rfl (fun hc => ?_) (fun hc => ?_)) <;> (try simp only [nrB] at hc) <;> (try (exfalso; first | omega | exact hc trivial | exact hc rfl))) | (refine WC_skip ?_) | (refine WC_ret ?_) | (refine WC_exit ?_) | (refine WC_block ?_)) | (show WQ _ _ _ _; first | (with_reducible refine WQ_then_normal ?_) | (with_reducible refine WQ_code ?_) | (with_reducible refine WQ_then_ret ?_) | (with_reducible refine WQ_block_ret ?_) | (with_reducible refine WQ_then_exit ?_) | (with_reducible refine WQ_block_hit ?_) | (with_reducible refine WQ_block_miss rfl ?_) | (with_reducible refine WQ_block_normal ?_))))
  · exact hno (.inl hc) _ _ rfl rfl (fun w h => h)
  · exact hno (.inr (.inl hc)) _ _ rfl rfl (fun w h => h)
  · exact hno (.inr (.inr (.inl (by omega)))) _ _ rfl rfl (fun w h => h)
  refine OW_callP rfl rfl rfl (countable_n a c ls L h hl) rfl ?_
  (repeat' (first | (show WL _ _ _ _ _ _ _; first | (refine WL_plain rfl ?_) | (refine WL_nil ?_) | (refine WL_on rfl rfl ?_) | (refine WL_off rfl rfl rfl rfl ?_) | (refine WL_offu rfl rfl rfl rfl ?_) | (refine WL_off' rfl rfl rfl ?_) | ((refine WL_split rfl rfl (fun hc => ?_) (fun hc => ?_)) <;> (rw [hc]; (try simp only [nrB] at hc); (try (exfalso; first | omega | exact hc trivial | exact hc rfl))))) | (show OW _ _ _ _ _ _; refine OW_E ?_) | (show OW _ _ ⟨_, .store .., _, _, _, _⟩ _ _ _; first | (refine OW_store rfl rfl rfl (by repeat (first | exact Upd.here | apply Upd.there)) (by first | (simp; done) | (simp; omega)) ?_) | (refine OW_storeAgg rfl rfl rfl rfl (by repeat (first | exact Upd.here | apply Upd.there)) (by first | (simp [Value.cells]; done) | (simp [Value.cells]; omega)) ?_)) | (show OW _ _ ⟨_, .alloc _, _, _, _, _⟩ _ _ _; first | (refine OW_alloc rfl (fun bk => ?_))) | (show OW _ _ ⟨_, .box .., _, _, _, _⟩ _ _ _; first | (refine OW_box rfl rfl (fun bk => ?_))) | (show WC _ _ _ _ _ _; first | (refine WC_seq ?_) | (refine WC_region ?_) | (refine WC_true rfl ?_) | (refine WC_false rfl ?_) | ((refine WC_cond rfl (fun hc => ?_) (fun hc => ?_)) <;> (try simp only [nrB] at hc) <;> (try (exfalso; first | omega | exact hc trivial | exact hc rfl))) | (refine WC_skip ?_) | (refine WC_ret ?_) | (refine WC_exit ?_) | (refine WC_block ?_)) | (show WQ _ _ _ _; first | (with_reducible refine WQ_then_normal ?_) | (with_reducible refine WQ_code ?_) | (with_reducible refine WQ_then_ret ?_) | (with_reducible refine WQ_block_ret ?_) | (with_reducible refine WQ_then_exit ?_) | (with_reducible refine WQ_block_hit ?_) | (with_reducible refine WQ_block_miss rfl ?_) | (with_reducible refine WQ_block_normal ?_))))
  · exact hno (.inr (.inr (.inr (.inl (by simpa using hc))))) _ _ rfl rfl (fun w h => h)
  rename_i hm1 hm2 hm3
  have hok : ls.all okc = true := by simpa using hc
  obtain ⟨M, rfl⟩ : ∃ M : Nat, most = (M : Int) := ⟨most.toNat, by omega⟩
  refine OW_call rfl rfl rfl (coins_n a c ls L h (by omega) hok) rfl (fun r L' hp => ?_)
  obtain ⟨g, C, hcn, rfl, ho⟩ := hp
  obtain ⟨N, hN⟩ : ∃ N, N = (pos (nl ls) ls.length).length := ⟨_, rfl⟩
  rw [← hN] at hcn ho
  obtain ⟨va, vc, rfl⟩ := ow_slc ho
  have hp15 : 2 ^ M ≤ 2 ^ 15 := Nat.pow_le_pow_right (by decide) (by omega)
  (repeat' (first | (show WL _ _ _ _ _ _ _; first | (refine WL_plain rfl ?_) | (refine WL_nil ?_) | (refine WL_on rfl rfl ?_) | (refine WL_off rfl rfl rfl rfl ?_) | (refine WL_offu rfl rfl rfl rfl ?_) | (refine WL_off' rfl rfl rfl ?_) | ((refine WL_split rfl rfl (fun hc => ?_) (fun hc => ?_)) <;> (rw [hc]; (try simp only [nrB] at hc); (try (exfalso; first | omega | exact hc trivial | exact hc rfl))))) | (show OW _ _ _ _ _ _; refine OW_E ?_) | (show OW _ _ ⟨_, .store .., _, _, _, _⟩ _ _ _; first | (refine OW_store rfl rfl rfl (by repeat (first | exact Upd.here | apply Upd.there)) (by first | (simp; done) | (simp; omega)) ?_) | (refine OW_storeAgg rfl rfl rfl rfl (by repeat (first | exact Upd.here | apply Upd.there)) (by first | (simp [Value.cells]; done) | (simp [Value.cells]; omega)) ?_)) | (show OW _ _ ⟨_, .alloc _, _, _, _, _⟩ _ _ _; first | (refine OW_alloc rfl (fun bk => ?_))) | (show OW _ _ ⟨_, .box .., _, _, _, _⟩ _ _ _; first | (refine OW_box rfl rfl (fun bk => ?_))) | (show WC _ _ _ _ _ _; first | (refine WC_seq ?_) | (refine WC_region ?_) | (refine WC_true rfl ?_) | (refine WC_false rfl ?_) | ((refine WC_cond rfl (fun hc => ?_) (fun hc => ?_)) <;> (try simp only [nrB] at hc) <;> (try (exfalso; first | omega | exact hc trivial | exact hc rfl))) | (refine WC_skip ?_) | (refine WC_ret ?_) | (refine WC_exit ?_) | (refine WC_block ?_)) | (show WQ _ _ _ _; first | (with_reducible refine WQ_then_normal ?_) | (with_reducible refine WQ_code ?_) | (with_reducible refine WQ_then_ret ?_) | (with_reducible refine WQ_block_ret ?_) | (with_reducible refine WQ_then_exit ?_) | (with_reducible refine WQ_block_hit ?_) | (with_reducible refine WQ_block_miss rfl ?_) | (with_reducible refine WQ_block_normal ?_))))
  refine OW_EV (EV_shl64 1 M rfl rfl rfl rfl (by omega) (by omega)) rfl ?_
  (repeat' (first | (show WL _ _ _ _ _ _ _; first | (refine WL_plain rfl ?_) | (refine WL_nil ?_) | (refine WL_on rfl rfl ?_) | (refine WL_off rfl rfl rfl rfl ?_) | (refine WL_offu rfl rfl rfl rfl ?_) | (refine WL_off' rfl rfl rfl ?_) | ((refine WL_split rfl rfl (fun hc => ?_) (fun hc => ?_)) <;> (rw [hc]; (try simp only [nrB] at hc); (try (exfalso; first | omega | exact hc trivial | exact hc rfl))))) | (show OW _ _ _ _ _ _; refine OW_E ?_) | (show OW _ _ ⟨_, .store .., _, _, _, _⟩ _ _ _; first | (refine OW_store rfl rfl rfl (by repeat (first | exact Upd.here | apply Upd.there)) (by first | (simp; done) | (simp; omega)) ?_) | (refine OW_storeAgg rfl rfl rfl rfl (by repeat (first | exact Upd.here | apply Upd.there)) (by first | (simp [Value.cells]; done) | (simp [Value.cells]; omega)) ?_)) | (show OW _ _ ⟨_, .alloc _, _, _, _, _⟩ _ _ _; first | (refine OW_alloc rfl (fun bk => ?_))) | (show OW _ _ ⟨_, .box .., _, _, _, _⟩ _ _ _; first | (refine OW_box rfl rfl (fun bk => ?_))) | (show WC _ _ _ _ _ _; first | (refine WC_seq ?_) | (refine WC_region ?_) | (refine WC_true rfl ?_) | (refine WC_false rfl ?_) | ((refine WC_cond rfl (fun hc => ?_) (fun hc => ?_)) <;> (try simp only [nrB] at hc) <;> (try (exfalso; first | omega | exact hc trivial | exact hc rfl))) | (refine WC_skip ?_) | (refine WC_ret ?_) | (refine WC_exit ?_) | (refine WC_block ?_)) | (show WQ _ _ _ _; first | (with_reducible refine WQ_then_normal ?_) | (with_reducible refine WQ_code ?_) | (with_reducible refine WQ_then_ret ?_) | (with_reducible refine WQ_block_ret ?_) | (with_reducible refine WQ_then_exit ?_) | (with_reducible refine WQ_block_hit ?_) | (with_reducible refine WQ_block_miss rfl ?_) | (with_reducible refine WQ_block_normal ?_))))
  · refine hno (.inr (.inr (.inr (.inr ?_)))) _ _ rfl rfl (fun w h => h.drop)
    unfold nC
    rw [← hN, Int.toNat_natCast]
    omega
  have hNM : N ≤ 2 ^ M := by omega
  refine OW_makeSlice (m := ls.length) (c := ls.length) rfl rfl (by rfl) (by omega) (by omega) (by omega) rfl (fun bn => ?_)
  rw [show zeros (Value.int .i64 0).cells.toList ls.length = ivn (List.replicate ls.length 0) from zeros_ivn _]
  have hne : ¬ errL ls (M : Int) := by
    rintro (h1 | h1 | h1 | h1 | h1)
    · omega
    · omega
    · omega
    · rw [hok] at h1; cases h1
    · unfold nC at h1
      rw [← hN, Int.toNat_natCast] at h1
      omega
  have hfin : ∀ lens, lens.length = ls.length → LenOf (nl ls) M lens → ∀ (L1 : List Chunk), (∀ w, Holds w L1 → Holds w ([(bn, cl (ivn lens) 3)] :: L)) → ∃ L', (∀ w, Holds w L1 → Holds w L') ∧ Q (.tuple #[.slice (some ⟨bn, 0, none⟩) ls.length ls.length, .int .i64 0]) L' := by
    intro lens hll hlo L1 h1
    refine ⟨_, h1, (hQ _ _).2 (.inr ⟨hne, lens, _, _, rfl, rfl, .inr ⟨bn, ls.length, [], rfl, by rw [List.append_nil], by rw [ivn_length, hll, Nat.mul_one], by simp, Nat.le_refl _, by simp [maxLen]; omega⟩, by rw [Int.toNat_natCast]; exact hlo⟩)⟩
  (repeat' (first | (show WL _ _ _ _ _ _ _; first | (refine WL_plain rfl ?_) | (refine WL_nil ?_) | (refine WL_on rfl rfl ?_) | (refine WL_off rfl rfl rfl rfl ?_) | (refine WL_offu rfl rfl rfl rfl ?_) | (refine WL_off' rfl rfl rfl ?_) | ((refine WL_split rfl rfl (fun hc => ?_) (fun hc => ?_)) <;> (rw [hc]; (try simp only [nrB] at hc); (try (exfalso; first | omega | exact hc trivial | exact hc rfl))))) | (show OW _ _ _ _ _ _; refine OW_E ?_) | (show OW _ _ ⟨_, .store .., _, _, _, _⟩ _ _ _; first | (refine OW_store rfl rfl rfl (by repeat (first | exact Upd.here | apply Upd.there)) (by first | (simp; done) | (simp; omega)) ?_) | (refine OW_storeAgg rfl rfl rfl rfl (by repeat (first | exact Upd.here | apply Upd.there)) (by first | (simp [Value.cells]; done) | (simp [Value.cells]; omega)) ?_)) | (show OW _ _ ⟨_, .alloc _, _, _, _, _⟩ _ _ _; first | (refine OW_alloc rfl (fun bk => ?_))) | (show OW _ _ ⟨_, .box .., _, _, _, _⟩ _ _ _; first | (refine OW_box rfl rfl (fun bk => ?_))) | (show WC _ _ _ _ _ _; first | (refine WC_seq ?_) | (refine WC_region ?_) | (refine WC_true rfl ?_) | (refine WC_false rfl ?_) | ((refine WC_cond rfl (fun hc => ?_) (fun hc => ?_)) <;> (try simp only [nrB] at hc) <;> (try (exfalso; first | omega | exact hc trivial | exact hc rfl))) | (refine WC_skip ?_) | (refine WC_ret ?_) | (refine WC_exit ?_) | (refine WC_block ?_)) | (show WQ _ _ _ _; first | (with_reducible refine WQ_then_normal ?_) | (with_reducible refine WQ_code ?_) | (with_reducible refine WQ_then_ret ?_) | (with_reducible refine WQ_block_ret ?_) | (with_reducible refine WQ_then_exit ?_) | (with_reducible refine WQ_block_hit ?_) | (with_reducible refine WQ_block_miss rfl ?_) | (with_reducible refine WQ_block_normal ?_))))
  · have hN1 : N = 1 := by omega
    rcases ho with ⟨_, h1, _⟩ | ⟨b, cap, rest, hv, rfl, hxl, hrl, hmc, hcm⟩
    · omega
    injection hv with e1 e2 e3
    subst e1 e3
    clear e2
    have hsy := hcn.sy 0 (by omega)
    have hld : nth (cvs g N ++ rest) (0 * 2 + 0) = some (.int .i64 ((g 0).1 : Int)) := by
      rw [hN1]; rfl
    refine OW_EV (EV_indexAddr0 (j := 0) (len := N) rfl rfl rfl (by omega)) rfl ?_
    (repeat' (first | (show WL _ _ _ _ _ _ _; first | (refine WL_plain rfl ?_) | (refine WL_nil ?_) | (refine WL_on rfl rfl ?_) | (refine WL_off rfl rfl rfl rfl ?_) | (refine WL_offu rfl rfl rfl rfl ?_) | (refine WL_off' rfl rfl rfl ?_) | ((refine WL_split rfl rfl (fun hc => ?_) (fun hc => ?_)) <;> (rw [hc]; (try simp only [nrB] at hc); (try (exfalso; first | omega | exact hc trivial | exact hc rfl))))) | (show OW _ _ _ _ _ _; refine OW_E ?_) | (show OW _ _ ⟨_, .store .., _, _, _, _⟩ _ _ _; first | (refine OW_store rfl rfl rfl (by repeat (first | exact Upd.here | apply Upd.there)) (by first | (simp; done) | (simp; omega)) ?_) | (refine OW_storeAgg rfl rfl rfl rfl (by repeat (first | exact Upd.here | apply Upd.there)) (by first | (simp [Value.cells]; done) | (simp [Value.cells]; omega)) ?_)) | (show OW _ _ ⟨_, .alloc _, _, _, _, _⟩ _ _ _; first | (refine OW_alloc rfl (fun bk => ?_))) | (show OW _ _ ⟨_, .box .., _, _, _, _⟩ _ _ _; first | (refine OW_box rfl rfl (fun bk => ?_))) | (show WC _ _ _ _ _ _; first | (refine WC_seq ?_) | (refine WC_region ?_) | (refine WC_true rfl ?_) | (refine WC_false rfl ?_) | ((refine WC_cond rfl (fun hc => ?_) (fun hc => ?_)) <;> (try simp only [nrB] at hc) <;> (try (exfalso; first | omega | exact hc trivial | exact hc rfl))) | (refine WC_skip ?_) | (refine WC_ret ?_) | (refine WC_exit ?_) | (refine WC_block ?_)) | (show WQ _ _ _ _; first | (with_reducible refine WQ_then_normal ?_) | (with_reducible refine WQ_code ?_) | (with_reducible refine WQ_then_ret ?_) | (with_reducible refine WQ_block_ret ?_) | (with_reducible refine WQ_then_exit ?_) | (with_reducible refine WQ_block_hit ?_) | (with_reducible refine WQ_block_miss rfl ?_) | (with_reducible refine WQ_block_normal ?_))))
    refine OW_EV (EV_loadc rfl (Fnd.there Fnd.here) hld) rfl ?_
    (repeat' (first | (show WL _ _ _ _ _ _ _; first | (refine WL_plain rfl ?_) | (refine WL_nil ?_) | (refine WL_on rfl rfl ?_) | (refine WL_off rfl rfl rfl rfl ?_) | (refine WL_offu rfl rfl rfl rfl ?_) | (refine WL_off' rfl rfl rfl ?_) | ((refine WL_split rfl rfl (fun hc => ?_) (fun hc => ?_)) <;> (rw [hc]; (try simp only [nrB] at hc); (try (exfalso; first | omega | exact hc trivial | exact hc rfl))))) | (show OW _ _ _ _ _ _; refine OW_E ?_) | (show OW _ _ ⟨_, .store .., _, _, _, _⟩ _ _ _; first | (refine OW_store rfl rfl rfl (by repeat (first | exact Upd.here | apply Upd.there)) (by first | (simp; done) | (simp; omega)) ?_) | (refine OW_storeAgg rfl rfl rfl rfl (by repeat (first | exact Upd.here | apply Upd.there)) (by first | (simp [Value.cells]; done) | (simp [Value.cells]; omega)) ?_)) | (show OW _ _ ⟨_, .alloc _, _, _, _, _⟩ _ _ _; first | (refine OW_alloc rfl (fun bk => ?_))) | (show OW _ _ ⟨_, .box .., _, _, _, _⟩ _ _ _; first | (refine OW_box rfl rfl (fun bk => ?_))) | (show WC _ _ _ _ _ _; first | (refine WC_seq ?_) | (refine WC_region ?_) | (refine WC_true rfl ?_) | (refine WC_false rfl ?_) | ((refine WC_cond rfl (fun hc => ?_) (fun hc => ?_)) <;> (try simp only [nrB] at hc) <;> (try (exfalso; first | omega | exact hc trivial | exact hc rfl))) | (refine WC_skip ?_) | (refine WC_ret ?_) | (refine WC_exit ?_) | (refine WC_block ?_)) | (show WQ _ _ _ _; first | (with_reducible refine WQ_then_normal ?_) | (with_reducible refine WQ_code ?_) | (with_reducible refine WQ_then_ret ?_) | (with_reducible refine WQ_block_ret ?_) | (with_reducible refine WQ_then_exit ?_) | (with_reducible refine WQ_block_hit ?_) | (with_reducible refine WQ_block_miss rfl ?_) | (with_reducible refine WQ_block_normal ?_))))
    refine OW_EV (EV_indexAddr0 (j := (g 0).1) (len := ls.length) rfl rfl rfl hsy.1) rfl ?_
    (repeat' (first | (show WL _ _ _ _ _ _ _; first | (refine WL_plain rfl ?_) | (refine WL_nil ?_) | (refine WL_on rfl rfl ?_) | (refine WL_off rfl rfl rfl rfl ?_) | (refine WL_offu rfl rfl rfl rfl ?_) | (refine WL_off' rfl rfl rfl ?_) | ((refine WL_split rfl rfl (fun hc => ?_) (fun hc => ?_)) <;> (rw [hc]; (try simp only [nrB] at hc); (try (exfalso; first | omega | exact hc trivial | exact hc rfl))))) | (show OW _ _ _ _ _ _; refine OW_E ?_) | (show OW _ _ ⟨_, .store .., _, _, _, _⟩ _ _ _; first | (refine OW_store rfl rfl rfl (by repeat (first | exact Upd.here | apply Upd.there)) (by first | (simp; done) | (simp; omega)) ?_) | (refine OW_storeAgg rfl rfl rfl rfl (by repeat (first | exact Upd.here | apply Upd.there)) (by first | (simp [Value.cells]; done) | (simp [Value.cells]; omega)) ?_)) | (show OW _ _ ⟨_, .alloc _, _, _, _, _⟩ _ _ _; first | (refine OW_alloc rfl (fun bk => ?_))) | (show OW _ _ ⟨_, .box .., _, _, _, _⟩ _ _ _; first | (refine OW_box rfl rfl (fun bk => ?_))) | (show WC _ _ _ _ _ _; first | (refine WC_seq ?_) | (refine WC_region ?_) | (refine WC_true rfl ?_) | (refine WC_false rfl ?_) | ((refine WC_cond rfl (fun hc => ?_) (fun hc => ?_)) <;> (try simp only [nrB] at hc) <;> (try (exfalso; first | omega | exact hc trivial | exact hc rfl))) | (refine WC_skip ?_) | (refine WC_ret ?_) | (refine WC_exit ?_) | (refine WC_block ?_)) | (show WQ _ _ _ _; first | (with_reducible refine WQ_then_normal ?_) | (with_reducible refine WQ_code ?_) | (with_reducible refine WQ_then_ret ?_) | (with_reducible refine WQ_block_ret ?_) | (with_reducible refine WQ_then_exit ?_) | (with_reducible refine WQ_block_hit ?_) | (with_reducible refine WQ_block_miss rfl ?_) | (with_reducible refine WQ_block_normal ?_))))
    refine OW_storeTo (l := ivn (List.replicate ls.length 0)) (ivn ((List.replicate ls.length 0).set (g 0).1 1)) rfl rfl rfl (by rw [Nat.mul_one]; simp [ivn, List.map_set]) (by repeat (first | exact Upd.here | apply Upd.there)) (by rw [ivn_length, List.length_replicate, Nat.mul_one]; exact hsy.1) ?_
    (repeat' (first | (show WL _ _ _ _ _ _ _; first | (refine WL_plain rfl ?_) | (refine WL_nil ?_) | (refine WL_on rfl rfl ?_) | (refine WL_off rfl rfl rfl rfl ?_) | (refine WL_offu rfl rfl rfl rfl ?_) | (refine WL_off' rfl rfl rfl ?_) | ((refine WL_split rfl rfl (fun hc => ?_) (fun hc => ?_)) <;> (rw [hc]; (try simp only [nrB] at hc); (try (exfalso; first | omega | exact hc trivial | exact hc rfl))))) | (show OW _ _ _ _ _ _; refine OW_E ?_) | (show OW _ _ ⟨_, .store .., _, _, _, _⟩ _ _ _; first | (refine OW_store rfl rfl rfl (by repeat (first | exact Upd.here | apply Upd.there)) (by first | (simp; done) | (simp; omega)) ?_) | (refine OW_storeAgg rfl rfl rfl rfl (by repeat (first | exact Upd.here | apply Upd.there)) (by first | (simp [Value.cells]; done) | (simp [Value.cells]; omega)) ?_)) | (show OW _ _ ⟨_, .alloc _, _, _, _, _⟩ _ _ _; first | (refine OW_alloc rfl (fun bk => ?_))) | (show OW _ _ ⟨_, .box .., _, _, _, _⟩ _ _ _; first | (refine OW_box rfl rfl (fun bk => ?_))) | (show WC _ _ _ _ _ _; first | (refine WC_seq ?_) | (refine WC_region ?_) | (refine WC_true rfl ?_) | (refine WC_false rfl ?_) | ((refine WC_cond rfl (fun hc => ?_) (fun hc => ?_)) <;> (try simp only [nrB] at hc) <;> (try (exfalso; first | omega | exact hc trivial | exact hc rfl))) | (refine WC_skip ?_) | (refine WC_ret ?_) | (refine WC_exit ?_) | (refine WC_block ?_)) | (show WQ _ _ _ _; first | (with_reducible refine WQ_then_normal ?_) | (with_reducible refine WQ_code ?_) | (with_reducible refine WQ_then_ret ?_) | (with_reducible refine WQ_block_ret ?_) | (with_reducible refine WQ_then_exit ?_) | (with_reducible refine WQ_block_hit ?_) | (with_reducible refine WQ_block_miss rfl ?_) | (with_reducible refine WQ_block_normal ?_))))
    refine WQ_retH (rs := [.tmp 4, .tmp 5]) (vs := [.slice (some ⟨bn, 0, none⟩) ls.length ls.length, .int .i64 0]) rfl rfl ?_
    refine hfin ((List.replicate ls.length 0).set (g 0).1 1) (by simp) ⟨by simp [nl_length], by omega, by omega, by rw [nl_length]; omega, fun i hi => ?_, N, g, by rw [nl_length]; exact hN, by rw [nl_length]; exact hcn, hNM, fun _ r hr => ?_, fun h2 => by omega⟩ _ (fun w h => ((by repeat (first | exact Inc.refl | exact Inc.nil | refine Inc.cons (by repeat (first | exact Take.here | apply Take.there)) ?_ | refine Inc.skip ?_)) : Inc _ _).holds h)
    · have hne2 : (g 0).1 ≠ i := fun e => by rw [e] at hsy; omega
      simp only [List.getD, List.getElem?_set_ne hne2]
      exact rep_getD _ _
    · have e0 : r = 0 := by omega
      subst e0
      simp [List.getD, hsy.1]
  · have hN1 : 2 ≤ N := by omega
    rcases ho with ⟨_, h1, _⟩ | ⟨b, cap, rest, hv, rfl, hxl, hrl, hmc, hcm⟩
    · omega
    injection hv with e1 e2 e3
    subst e1 e3
    clear e2
    have hle := hcn.le
    have hgb : ∀ r, r < N → (g r).2 ≤ 1073741824 := by
      intro r hr
      obtain ⟨h1, h2, h3⟩ := hcn.sy r hr
      have hox : okc (ls.getD (g r).1 0) = true := List.all_eq_true.1 hok _ (by simp [List.getD, h1])
      have h4 := (okc_iff _).1 hox
      rw [h3, nl_get h1]
      omega
    refine OW_holds (L' := [(b, cl (cvs g N ++ rest) 63)] :: [(bn, cl (ivn (List.replicate ls.length 0)) 3)] :: L) (fun w h => ((by repeat (first | exact Inc.refl | exact Inc.nil | refine Inc.cons (by repeat (first | exact Take.here | apply Take.there)) ?_ | refine Inc.skip ?_)) : Inc _ _).holds h) ?_
    refine OW_call rfl rfl rfl (levels_c (fun i => (nl ls).getD i 0) g N b vc M rest _ (by omega) (by omega) hcn.up (fun r hr => (hcn.sy r hr).2.2) hgb) rfl (fun r L' hp => ?_)
    obtain ⟨lv, vs, Cs, Cl, rfl, hlv, hR, hO⟩ := hp
    rcases hO with ⟨_, h1, _⟩ | ⟨bv, cw, restv, rfl, rfl, hxl2, hrl2, hmc2, hcm2⟩
    · omega
    (repeat' (first | (show WL _ _ _ _ _ _ _; first | (refine WL_plain rfl ?_) | (refine WL_nil ?_) | (refine WL_on rfl rfl ?_) | (refine WL_off rfl rfl rfl rfl ?_) | (refine WL_offu rfl rfl rfl rfl ?_) | (refine WL_off' rfl rfl rfl ?_) | ((refine WL_split rfl rfl (fun hc => ?_) (fun hc => ?_)) <;> (rw [hc]; (try simp only [nrB] at hc); (try (exfalso; first | omega | exact hc trivial | exact hc rfl))))) | (show OW _ _ _ _ _ _; refine OW_E ?_) | (show OW _ _ ⟨_, .store .., _, _, _, _⟩ _ _ _; first | (refine OW_store rfl rfl rfl (by repeat (first | exact Upd.here | apply Upd.there)) (by first | (simp; done) | (simp; omega)) ?_) | (refine OW_storeAgg rfl rfl rfl rfl (by repeat (first | exact Upd.here | apply Upd.there)) (by first | (simp [Value.cells]; done) | (simp [Value.cells]; omega)) ?_)) | (show OW _ _ ⟨_, .alloc _, _, _, _, _⟩ _ _ _; first | (refine OW_alloc rfl (fun bk => ?_))) | (show OW _ _ ⟨_, .box .., _, _, _, _⟩ _ _ _; first | (refine OW_box rfl rfl (fun bk => ?_))) | (show WC _ _ _ _ _ _; first | (refine WC_seq ?_) | (refine WC_region ?_) | (refine WC_true rfl ?_) | (refine WC_false rfl ?_) | ((refine WC_cond rfl (fun hc => ?_) (fun hc => ?_)) <;> (try simp only [nrB] at hc) <;> (try (exfalso; first | omega | exact hc trivial | exact hc rfl))) | (refine WC_skip ?_) | (refine WC_ret ?_) | (refine WC_exit ?_) | (refine WC_block ?_)) | (show WQ _ _ _ _; first | (with_reducible refine WQ_then_normal ?_) | (with_reducible refine WQ_code ?_) | (with_reducible refine WQ_then_ret ?_) | (with_reducible refine WQ_block_ret ?_) | (with_reducible refine WQ_then_exit ?_) | (with_reducible refine WQ_block_hit ?_) | (with_reducible refine WQ_block_miss rfl ?_) | (with_reducible refine WQ_block_normal ?_))))
    refine OW_holds (L' := [(bn, cl (ivn (List.replicate ls.length 0)) 3)] :: [(b, cl (cvs g N ++ rest) 63)] :: [(bv, cl (vs ++ restv) 101)] :: Cs.flatten :: L) (fun w h => ((by repeat (first | exact Inc.refl | exact Inc.nil | refine Inc.cons (by repeat (first | exact Take.here | apply Take.there)) ?_ | refine Inc.skip ?_)) : Inc _ _).holds h) ?_
    refine OW_call rfl rfl rfl (lengthen_c (fun i => (nl ls).getD i 0) g N ls.length b vc bn bv cw M rest restv lv vs Cs L hN1 (by omega) (by omega) hmc (by omega) (by omega) hNM hlv hR hcn.inj (fun r hr => (hcn.sy r hr).1)) rfl (fun r L' hp => ?_)
    obtain ⟨rfl, lst, hI, rfl⟩ := hp
    (repeat' (first | (show WL _ _ _ _ _ _ _; first | (refine WL_plain rfl ?_) | (refine WL_nil ?_) | (refine WL_on rfl rfl ?_) | (refine WL_off rfl rfl rfl rfl ?_) | (refine WL_offu rfl rfl rfl rfl ?_) | (refine WL_off' rfl rfl rfl ?_) | ((refine WL_split rfl rfl (fun hc => ?_) (fun hc => ?_)) <;> (rw [hc]; (try simp only [nrB] at hc); (try (exfalso; first | omega | exact hc trivial | exact hc rfl))))) | (show OW _ _ _ _ _ _; refine OW_E ?_) | (show OW _ _ ⟨_, .store .., _, _, _, _⟩ _ _ _; first | (refine OW_store rfl rfl rfl (by repeat (first | exact Upd.here | apply Upd.there)) (by first | (simp; done) | (simp; omega)) ?_) | (refine OW_storeAgg rfl rfl rfl rfl (by repeat (first | exact Upd.here | apply Upd.there)) (by first | (simp [Value.cells]; done) | (simp [Value.cells]; omega)) ?_)) | (show OW _ _ ⟨_, .alloc _, _, _, _, _⟩ _ _ _; first | (refine OW_alloc rfl (fun bk => ?_))) | (show OW _ _ ⟨_, .box .., _, _, _, _⟩ _ _ _; first | (refine OW_box rfl rfl (fun bk => ?_))) | (show WC _ _ _ _ _ _; first | (refine WC_seq ?_) | (refine WC_region ?_) | (refine WC_true rfl ?_) | (refine WC_false rfl ?_) | ((refine WC_cond rfl (fun hc => ?_) (fun hc => ?_)) <;> (try simp only [nrB] at hc) <;> (try (exfalso; first | omega | exact hc trivial | exact hc rfl))) | (refine WC_skip ?_) | (refine WC_ret ?_) | (refine WC_exit ?_) | (refine WC_block ?_)) | (show WQ _ _ _ _; first | (with_reducible refine WQ_then_normal ?_) | (with_reducible refine WQ_code ?_) | (with_reducible refine WQ_then_ret ?_) | (with_reducible refine WQ_block_ret ?_) | (with_reducible refine WQ_then_exit ?_) | (with_reducible refine WQ_block_hit ?_) | (with_reducible refine WQ_block_miss rfl ?_) | (with_reducible refine WQ_block_normal ?_))))
    refine WQ_retH (rs := [.tmp 4, .tmp 5]) (vs := [.slice (some ⟨bn, 0, none⟩) ls.length ls.length, .int .i64 0]) rfl rfl ?_
    refine hfin lst hI.len ⟨by rw [hI.len, nl_length], by omega, by omega, by rw [nl_length]; omega, fun i hi => ?_, N, g, by rw [nl_length]; exact hN, by rw [nl_length]; exact hcn, hNM, fun h1 => by omega, fun _ => ⟨lv, hlv, fun r hr => ?_⟩⟩ _ (fun w h => h)
    · refine hI.off i fun r hr he => ?_
      have h1 := (hcn.sy r hr).2.1
      rw [he] at h1
      omega
    · have h1 := hI.on r hr
      rw [if_neg (by omega), Nat.add_zero] at h1
      exact h1
  · have hN0 : N = 0 := by omega
    refine WQ_retH (rs := [.tmp 4, .tmp 5]) (vs := [.slice (some ⟨bn, 0, none⟩) ls.length ls.length, .int .i64 0]) rfl rfl ?_
    refine hfin (List.replicate ls.length 0) (by simp) ⟨by simp [nl_length], by omega, by omega, by rw [nl_length]; omega, fun i hi => rep_getD _ _, N, g, by rw [nl_length]; exact hN, by rw [nl_length]; exact hcn, hNM, fun _ r hr => by omega, fun h2 => by omega⟩ _ (fun w h => ((by repeat (first | exact Inc.refl | exact Inc.nil | refine Inc.cons (by repeat (first | exact Take.here | apply Take.there)) ?_ | refine Inc.skip ?_)) : Inc _ _).holds h)
end Go.Proofs.Yteebdaoanfnkgaa
