/- HuffOften's body: true at any counts. It proves no statement by itself. No conditions. -/
import Derived.Test.YteebdaoanfnkgaaOq
import Derived.Test.YteebdaoanfnkgaaZc
import Derived.Test.YteebdaoanfnkgaaYb
namespace Go.Proofs.Yteebdaoanfnkgaa
open Go Go.Vx Go.So Go.Hf
variable [W0]
set_option maxRecDepth 4000
set_option linter.all false
theorem ow_int {e m : Nat} {v : Value} {xs : List Nat} {C : Chunk} (h : Ow e 1 v m (ivn xs) C) {k : Nat} (hk : k < m) :
    ∃ b cap rest, v = .slice (some ⟨b, 0, none⟩) m cap ∧ C = [(b, cl (ivn xs ++ rest) e)] ∧ (ivn xs ++ rest).toArray[k * 1]? = some (.int .i64 (xs.getD k 0 : Int)) := by
  rcases h with ⟨rfl, rfl, _⟩ | ⟨b, cap, rest, rfl, rfl, hxl, hrl, hmc, hcm⟩
  · omega
  · refine ⟨b, cap, rest, rfl, rfl, ?_⟩
    have hlt : k < xs.length := by rw [ivn_length] at hxl; omega
    rw [Nat.mul_one]
    simpa using getE_app (r := rest) (ivn_get (l := xs) (i := k) (n := xs.getD k 0) (by simp [List.getD, hlt]))
theorem LenOf.rank {cs lens : List Nat} {M : Nat} (h : LenOf cs M lens) {i k : Nat} (hi : i < cs.length) (hk : k < cs.length) (h0 : 0 < cs.getD k 0) (h1 : cs.getD k 0 < cs.getD i 0) : lens.getD i 0 ≤ lens.getD k 0 := by
  obtain ⟨N, g, hN, hcn, hNM, hone, htwo⟩ := h.ex
  obtain ⟨r, hr, rfl⟩ := hcn.onto i hi (by omega)
  obtain ⟨q, hq, rfl⟩ := hcn.onto k hk h0
  have hr3 := (hcn.sy r hr).2.2
  have hq3 := (hcn.sy q hq).2.2
  by_cases h2 : 2 ≤ N
  · obtain ⟨lv, _, hln⟩ := htwo h2
    rw [hln r hr, hln q hq]
    refine Pm.ln_anti _ ?_
    rcases Nat.lt_or_ge r q with hlt | hge
    · have : (g r).2 ≤ (g q).2 := hcn.up r q (Nat.zero_le _) (by omega) hq
      omega
    · exact hge
  · have e : r = q := by omega
    subst e
    omega

set_option maxHeartbeats 16000000 in
theorem often_n (a : Option Addr) (c : Nat) (ls : List Int) (most : Int) (L : List Chunk) (h : Sl L 1 (.slice a ls.length c) ls.length (intsN ls)) (hl : ls.length ≤ 17592186044416) :
    GvP Try.prog 7 [.slice a ls.length c, .int .i64 most].toArray L (.bool true) := by
  refine Gv.of_body Try.func7 rfl rfl ?_
  (repeat' (first | (show WL _ _ _ _ _ _ _; first | (refine WL_plain rfl ?_) | (refine WL_nil ?_) | (refine WL_on rfl rfl ?_) | (refine WL_off rfl rfl rfl rfl ?_) | (refine WL_offu rfl rfl rfl rfl ?_) | (refine WL_off' rfl rfl rfl ?_) | ((refine WL_split rfl rfl (fun hc => ?_) (fun hc => ?_)) <;> (rw [hc]; (try simp only [nrB] at hc); (try (exfalso; first | omega | exact hc trivial | exact hc rfl))))) | (show OW _ _ _ _ _ _; refine OW_E ?_) | (show OW _ _ ⟨_, .store .., _, _, _, _⟩ _ _ _; first | (refine OW_store rfl rfl rfl (by repeat (first | exact Upd.here | apply Upd.there)) (by first | (simp; done) | (simp; omega)) ?_) | (refine OW_storeAgg rfl rfl rfl rfl (by repeat (first | exact Upd.here | apply Upd.there)) (by first | (simp [Value.cells]; done) | (simp [Value.cells]; omega)) ?_)) | (show OW _ _ ⟨_, .alloc _, _, _, _, _⟩ _ _ _; first | (refine OW_alloc rfl (fun bk => ?_))) | (show OW _ _ ⟨_, .box .., _, _, _, _⟩ _ _ _; first | (refine OW_box rfl rfl (fun bk => ?_))) | (show WC _ _ _ _ _ _; first | (refine WC_seq ?_) | (refine WC_region ?_) | (refine WC_true rfl ?_) | (refine WC_false rfl ?_) | ((refine WC_cond rfl (fun hc => ?_) (fun hc => ?_)) <;> (try simp only [nrB] at hc) <;> (try (exfalso; first | omega | exact hc trivial | exact hc rfl))) | (refine WC_skip ?_) | (refine WC_ret ?_) | (refine WC_exit ?_) | (refine WC_block ?_)) | (show WQ _ _ _ _; first | (with_reducible refine WQ_then_normal ?_) | (with_reducible refine WQ_code ?_) | (with_reducible refine WQ_then_ret ?_) | (with_reducible refine WQ_block_ret ?_) | (with_reducible refine WQ_then_exit ?_) | (with_reducible refine WQ_block_hit ?_) | (with_reducible refine WQ_block_miss rfl ?_) | (with_reducible refine WQ_block_normal ?_))))
  refine OW_call rfl rfl rfl (lengths_n a c ls most L h hl) rfl (fun r L' hp => ?_)
  rcases hp with ⟨he, rfl, rfl⟩ | ⟨hne, lens, v, C, rfl, rfl, ho, hlo⟩
  · (repeat' (first | (show WL _ _ _ _ _ _ _; first | (refine WL_plain rfl ?_) | (refine WL_nil ?_) | (refine WL_on rfl rfl ?_) | (refine WL_off rfl rfl rfl rfl ?_) | (refine WL_offu rfl rfl rfl rfl ?_) | (refine WL_off' rfl rfl rfl ?_) | ((refine WL_split rfl rfl (fun hc => ?_) (fun hc => ?_)) <;> (rw [hc]; (try simp only [nrB] at hc); (try (exfalso; first | omega | exact hc trivial | exact hc rfl))))) | (show OW _ _ _ _ _ _; refine OW_E ?_) | (show OW _ _ ⟨_, .store .., _, _, _, _⟩ _ _ _; first | (refine OW_store rfl rfl rfl (by repeat (first | exact Upd.here | apply Upd.there)) (by first | (simp; done) | (simp; omega)) ?_) | (refine OW_storeAgg rfl rfl rfl rfl (by repeat (first | exact Upd.here | apply Upd.there)) (by first | (simp [Value.cells]; done) | (simp [Value.cells]; omega)) ?_)) | (show OW _ _ ⟨_, .alloc _, _, _, _, _⟩ _ _ _; first | (refine OW_alloc rfl (fun bk => ?_))) | (show OW _ _ ⟨_, .box .., _, _, _, _⟩ _ _ _; first | (refine OW_box rfl rfl (fun bk => ?_))) | (show WC _ _ _ _ _ _; first | (refine WC_seq ?_) | (refine WC_region ?_) | (refine WC_true rfl ?_) | (refine WC_false rfl ?_) | ((refine WC_cond rfl (fun hc => ?_) (fun hc => ?_)) <;> (try simp only [nrB] at hc) <;> (try (exfalso; first | omega | exact hc trivial | exact hc rfl))) | (refine WC_skip ?_) | (refine WC_ret ?_) | (refine WC_exit ?_) | (refine WC_block ?_)) | (show WQ _ _ _ _; first | (with_reducible refine WQ_then_normal ?_) | (with_reducible refine WQ_code ?_) | (with_reducible refine WQ_then_ret ?_) | (with_reducible refine WQ_block_ret ?_) | (with_reducible refine WQ_then_exit ?_) | (with_reducible refine WQ_block_hit ?_) | (with_reducible refine WQ_block_miss rfl ?_) | (with_reducible refine WQ_block_normal ?_))))
    refine OW_callP rfl rfl rfl (hawake_n _) rfl ?_
    (repeat' (first | (show WL _ _ _ _ _ _ _; first | (refine WL_plain rfl ?_) | (refine WL_nil ?_) | (refine WL_on rfl rfl ?_) | (refine WL_off rfl rfl rfl rfl ?_) | (refine WL_offu rfl rfl rfl rfl ?_) | (refine WL_off' rfl rfl rfl ?_) | ((refine WL_split rfl rfl (fun hc => ?_) (fun hc => ?_)) <;> (rw [hc]; (try simp only [nrB] at hc); (try (exfalso; first | omega | exact hc trivial | exact hc rfl))))) | (show OW _ _ _ _ _ _; refine OW_E ?_) | (show OW _ _ ⟨_, .store .., _, _, _, _⟩ _ _ _; first | (refine OW_store rfl rfl rfl (by repeat (first | exact Upd.here | apply Upd.there)) (by first | (simp; done) | (simp; omega)) ?_) | (refine OW_storeAgg rfl rfl rfl rfl (by repeat (first | exact Upd.here | apply Upd.there)) (by first | (simp [Value.cells]; done) | (simp [Value.cells]; omega)) ?_)) | (show OW _ _ ⟨_, .alloc _, _, _, _, _⟩ _ _ _; first | (refine OW_alloc rfl (fun bk => ?_))) | (show OW _ _ ⟨_, .box .., _, _, _, _⟩ _ _ _; first | (refine OW_box rfl rfl (fun bk => ?_))) | (show WC _ _ _ _ _ _; first | (refine WC_seq ?_) | (refine WC_region ?_) | (refine WC_true rfl ?_) | (refine WC_false rfl ?_) | ((refine WC_cond rfl (fun hc => ?_) (fun hc => ?_)) <;> (try simp only [nrB] at hc) <;> (try (exfalso; first | omega | exact hc trivial | exact hc rfl))) | (refine WC_skip ?_) | (refine WC_ret ?_) | (refine WC_exit ?_) | (refine WC_block ?_)) | (show WQ _ _ _ _; first | (with_reducible refine WQ_then_normal ?_) | (with_reducible refine WQ_code ?_) | (with_reducible refine WQ_then_ret ?_) | (with_reducible refine WQ_block_ret ?_) | (with_reducible refine WQ_then_exit ?_) | (with_reducible refine WQ_block_hit ?_) | (with_reducible refine WQ_block_miss rfl ?_) | (with_reducible refine WQ_block_normal ?_))))
    (first | refine WQ_retI rfl rfl ?_ | refine WQ_endI rfl rfl ?_)
    exact ⟨L', (by repeat (first | exact Inc.refl | exact Inc.nil | refine Inc.cons (by repeat (first | exact Take.here | apply Take.there)) ?_ | refine Inc.skip ?_)), rfl, rfl⟩
  · obtain ⟨va, vc, rfl⟩ := ow_slc ho
    have hok : ∀ i, i < ls.length → ls.getD i 0 = ((nl ls).getD i 0 : Int) := by
      intro i hi
      have hal : ls.all okc = true := by
        rcases hb : ls.all okc with _ | _
        · exact absurd (.inr (.inr (.inr (.inl hb)))) hne
        · rfl
      have hox : okc (ls.getD i 0) = true := List.all_eq_true.1 hal _ (by simp [List.getD, hi])
      have := (okc_iff _).1 hox
      rw [nl_get hi]
      omega
    have hnl := nl_length ls
    have hrk := fun i k (hi : i < ls.length) (hk : k < ls.length) => hlo.rank (i := i) (k := k) (by omega) (by omega)
    have hn := hlo.n400
    (repeat' (first | (show WL _ _ _ _ _ _ _; first | (refine WL_plain rfl ?_) | (refine WL_nil ?_) | (refine WL_on rfl rfl ?_) | (refine WL_off rfl rfl rfl rfl ?_) | (refine WL_offu rfl rfl rfl rfl ?_) | (refine WL_off' rfl rfl rfl ?_) | ((refine WL_split rfl rfl (fun hc => ?_) (fun hc => ?_)) <;> (rw [hc]; (try simp only [nrB] at hc); (try (exfalso; first | omega | exact hc trivial | exact hc rfl))))) | (show OW _ _ _ _ _ _; refine OW_E ?_) | (show OW _ _ ⟨_, .store .., _, _, _, _⟩ _ _ _; first | (refine OW_store rfl rfl rfl (by repeat (first | exact Upd.here | apply Upd.there)) (by first | (simp; done) | (simp; omega)) ?_) | (refine OW_storeAgg rfl rfl rfl rfl (by repeat (first | exact Upd.here | apply Upd.there)) (by first | (simp [Value.cells]; done) | (simp [Value.cells]; omega)) ?_)) | (show OW _ _ ⟨_, .alloc _, _, _, _, _⟩ _ _ _; first | (refine OW_alloc rfl (fun bk => ?_))) | (show OW _ _ ⟨_, .box .., _, _, _, _⟩ _ _ _; first | (refine OW_box rfl rfl (fun bk => ?_))) | (show WC _ _ _ _ _ _; first | (refine WC_seq ?_) | (refine WC_region ?_) | (refine WC_true rfl ?_) | (refine WC_false rfl ?_) | ((refine WC_cond rfl (fun hc => ?_) (fun hc => ?_)) <;> (try simp only [nrB] at hc) <;> (try (exfalso; first | omega | exact hc trivial | exact hc rfl))) | (refine WC_skip ?_) | (refine WC_ret ?_) | (refine WC_exit ?_) | (refine WC_block ?_)) | (show WQ _ _ _ _; first | (with_reducible refine WQ_then_normal ?_) | (with_reducible refine WQ_code ?_) | (with_reducible refine WQ_then_ret ?_) | (with_reducible refine WQ_block_ret ?_) | (with_reducible refine WQ_then_exit ?_) | (with_reducible refine WQ_block_hit ?_) | (with_reducible refine WQ_block_miss rfl ?_) | (with_reducible refine WQ_block_normal ?_))))
    refine WC_loop (X := Nat) (fun i => [(0, .slice a ls.length c), (5, .slice va ls.length vc), (7, .int .i64 (i : Int))]) (fun i => C :: L) (fun i => i ≤ ls.length) (fun i => ls.length - i) 0 (Nat.zero_le _) (by repeat (first | exact Sub.nil | refine Sub.cons rfl ?_ | refine Sub.cons (lk_int rfl (by first | omega | (dsimp only; omega))) ?_)) (fun w h => h) ?_
    intro i hi
    (repeat' (first | (show WL _ _ _ _ _ _ _; first | (refine WL_plain rfl ?_) | (refine WL_nil ?_) | (refine WL_on rfl rfl ?_) | (refine WL_off rfl rfl rfl rfl ?_) | (refine WL_offu rfl rfl rfl rfl ?_) | (refine WL_off' rfl rfl rfl ?_) | ((refine WL_split rfl rfl (fun hc => ?_) (fun hc => ?_)) <;> (rw [hc]; (try simp only [nrB] at hc); (try (exfalso; first | omega | exact hc trivial | exact hc rfl))))) | (show OW _ _ _ _ _ _; refine OW_E ?_) | (show OW _ _ ⟨_, .store .., _, _, _, _⟩ _ _ _; first | (refine OW_store rfl rfl rfl (by repeat (first | exact Upd.here | apply Upd.there)) (by first | (simp; done) | (simp; omega)) ?_) | (refine OW_storeAgg rfl rfl rfl rfl (by repeat (first | exact Upd.here | apply Upd.there)) (by first | (simp [Value.cells]; done) | (simp [Value.cells]; omega)) ?_)) | (show OW _ _ ⟨_, .alloc _, _, _, _, _⟩ _ _ _; first | (refine OW_alloc rfl (fun bk => ?_))) | (show OW _ _ ⟨_, .box .., _, _, _, _⟩ _ _ _; first | (refine OW_box rfl rfl (fun bk => ?_))) | (show WC _ _ _ _ _ _; first | (refine WC_seq ?_) | (refine WC_region ?_) | (refine WC_true rfl ?_) | (refine WC_false rfl ?_) | ((refine WC_cond rfl (fun hc => ?_) (fun hc => ?_)) <;> (try simp only [nrB] at hc) <;> (try (exfalso; first | omega | exact hc trivial | exact hc rfl))) | (refine WC_skip ?_) | (refine WC_ret ?_) | (refine WC_exit ?_) | (refine WC_block ?_)) | (show WQ _ _ _ _; first | (with_reducible refine WQ_then_normal ?_) | (with_reducible refine WQ_code ?_) | (with_reducible refine WQ_then_ret ?_) | (with_reducible refine WQ_block_ret ?_) | (with_reducible refine WQ_then_exit ?_) | (with_reducible refine WQ_block_hit ?_) | (with_reducible refine WQ_block_miss rfl ?_) | (with_reducible refine WQ_block_normal ?_))))
    · have hlt : i < ls.length := by omega
      refine WC_loop (X := Nat) (fun k => [(0, .slice a ls.length c), (5, .slice va ls.length vc), (7, .int .i64 (i : Int)), (8, .int .i64 (k : Int))]) (fun i => C :: L) (fun k => k ≤ ls.length) (fun k => ls.length - k) 0 (Nat.zero_le _) (by repeat (first | exact Sub.nil | refine Sub.cons rfl ?_ | refine Sub.cons (lk_int rfl (by first | omega | (dsimp only; omega))) ?_)) (fun w h => h) ?_
      intro k hk
      (repeat' (first | (show WL _ _ _ _ _ _ _; first | (refine WL_plain rfl ?_) | (refine WL_nil ?_) | (refine WL_on rfl rfl ?_) | (refine WL_off rfl rfl rfl rfl ?_) | (refine WL_offu rfl rfl rfl rfl ?_) | (refine WL_off' rfl rfl rfl ?_) | ((refine WL_split rfl rfl (fun hc => ?_) (fun hc => ?_)) <;> (rw [hc]; (try simp only [nrB] at hc); (try (exfalso; first | omega | exact hc trivial | exact hc rfl))))) | (show OW _ _ _ _ _ _; refine OW_E ?_) | (show OW _ _ ⟨_, .store .., _, _, _, _⟩ _ _ _; first | (refine OW_store rfl rfl rfl (by repeat (first | exact Upd.here | apply Upd.there)) (by first | (simp; done) | (simp; omega)) ?_) | (refine OW_storeAgg rfl rfl rfl rfl (by repeat (first | exact Upd.here | apply Upd.there)) (by first | (simp [Value.cells]; done) | (simp [Value.cells]; omega)) ?_)) | (show OW _ _ ⟨_, .alloc _, _, _, _, _⟩ _ _ _; first | (refine OW_alloc rfl (fun bk => ?_))) | (show OW _ _ ⟨_, .box .., _, _, _, _⟩ _ _ _; first | (refine OW_box rfl rfl (fun bk => ?_))) | (show WC _ _ _ _ _ _; first | (refine WC_seq ?_) | (refine WC_region ?_) | (refine WC_true rfl ?_) | (refine WC_false rfl ?_) | ((refine WC_cond rfl (fun hc => ?_) (fun hc => ?_)) <;> (try simp only [nrB] at hc) <;> (try (exfalso; first | omega | exact hc trivial | exact hc rfl))) | (refine WC_skip ?_) | (refine WC_ret ?_) | (refine WC_exit ?_) | (refine WC_block ?_)) | (show WQ _ _ _ _; first | (with_reducible refine WQ_then_normal ?_) | (with_reducible refine WQ_code ?_) | (with_reducible refine WQ_then_ret ?_) | (with_reducible refine WQ_block_ret ?_) | (with_reducible refine WQ_then_exit ?_) | (with_reducible refine WQ_block_hit ?_) | (with_reducible refine WQ_block_miss rfl ?_) | (with_reducible refine WQ_block_normal ?_))))
      · have hlk : k < ls.length := by omega
        obtain ⟨b, off, cap, cc, T, fr, hve, hfn, hcell⟩ := sl_at h (ints_get hlt)
        obtain ⟨b', off', cap', cc', T', fr', hve', hfn', hcell'⟩ := sl_at h (ints_get hlk)
        injection hve with q1 q2 q3
        injection hve' with q4 q5 q6
        subst q1 q3
        injection q4 with q4
        injection q4 with q7 q8
        subst q7 q8 q6
        clear q2 q5
        obtain ⟨b1, c1, r1, hv1, hC1, hg1⟩ := ow_int ho hlt
        obtain ⟨b2, c2, r2, hv2, hC2, hg2⟩ := ow_int ho hlk
        injection hv1 with e1 e2 e3
        subst e1 e3
        injection hv2 with e4 e5 e6
        injection e4 with e4
        injection e4 with e7
        subst e7 e6
        rw [hC1] at hC2
        injection hC2 with hC2
        injection hC2 with _ hC2
        subst hC1
        clear e2 e5
        have hg3 : (ivn lens ++ r1).toArray[k * 1]? = some (.int .i64 (lens.getD k 0 : Int)) := by
          have e9 : (ivn lens ++ r1) = (ivn lens ++ r2) := by injection hC2 with h9; simpa [cl] using h9
          rw [e9]; exact hg2
        rw [hok i hlt] at hcell
        rw [hok k hlk] at hcell'
        have hrk := hrk i k hlt hlk
        obtain ⟨x, hx⟩ : ∃ x, x = (nl ls).getD i 0 := ⟨_, rfl⟩
        obtain ⟨y, hy⟩ : ∃ y, y = (nl ls).getD k 0 := ⟨_, rfl⟩
        obtain ⟨p, hp⟩ : ∃ p, p = lens.getD i 0 := ⟨_, rfl⟩
        obtain ⟨q, hq⟩ : ∃ q, q = lens.getD k 0 := ⟨_, rfl⟩
        rw [← hx] at hcell
        rw [← hy] at hcell'
        rw [← hp] at hg1
        rw [← hq] at hg3
        rw [← hx, ← hy, ← hp, ← hq] at hrk
        refine WC_drawAll [] mixed ?_
        (refine WR_t 0 ?_; refine WR_t 1 ?_)
        (refine WR_take 2 rfl rfl (by kernel_rfl) (by repeat (first | with_reducible exact PO.body | with_reducible exact RP_po | with_reducible refine PO.then ?_ | with_reducible refine PO.block ?_)) (by repeat (first | exact Inc.refl | exact Inc.nil | refine Inc.cons (by repeat (first | exact Take.here | apply Take.there)) ?_ | refine Inc.skip ?_)) (EV_indexAddr (j := i) rfl rfl rfl hlt) (by rfl) ?_)
        (refine WR_take 3 rfl rfl (by kernel_rfl) (by repeat (first | with_reducible exact PO.body | with_reducible exact RP_po | with_reducible refine PO.then ?_ | with_reducible refine PO.block ?_)) (by repeat (first | exact Inc.refl | exact Inc.nil | refine Inc.cons (by repeat (first | exact Take.here | apply Take.there)) ?_ | refine Inc.skip ?_)) (EV_load rfl hfn.there hcell) (by rfl) ?_)
        (refine WR_t 4 ?_; refine WR_t 5 ?_)
        (refine WR_take 6 rfl rfl (by kernel_rfl) (by repeat (first | with_reducible exact PO.body | with_reducible exact RP_po | with_reducible refine PO.then ?_ | with_reducible refine PO.block ?_)) (by repeat (first | exact Inc.refl | exact Inc.nil | refine Inc.cons (by repeat (first | exact Take.here | apply Take.there)) ?_ | refine Inc.skip ?_)) (EV_indexAddr (j := k) rfl rfl rfl hlk) (by rfl) ?_)
        (refine WR_take 7 rfl rfl (by kernel_rfl) (by repeat (first | with_reducible exact PO.body | with_reducible exact RP_po | with_reducible refine PO.then ?_ | with_reducible refine PO.block ?_)) (by repeat (first | exact Inc.refl | exact Inc.nil | refine Inc.cons (by repeat (first | exact Take.here | apply Take.there)) ?_ | refine Inc.skip ?_)) (EV_load rfl hfn'.there hcell') (by rfl) ?_)
        (refine WR_t 8 ?_; refine WR_t 9 ?_)
        by_cases hd1 : (x : Int) > (y : Int)
        · rw [show decide ((x : Int) > (y : Int)) = true from decide_eq_true hd1]
          (refine WR_u 10 ?_; refine WR_u 11 ?_)
          (refine WR_takeOn 12 rfl rfl rfl (by kernel_rfl) (by repeat (first | with_reducible exact PO.body | with_reducible exact RP_po | with_reducible refine PO.then ?_ | with_reducible refine PO.block ?_)) (by repeat (first | exact Inc.refl | exact Inc.nil | refine Inc.cons (by repeat (first | exact Take.here | apply Take.there)) ?_ | refine Inc.skip ?_)) (EV_indexAddr (j := k) rfl rfl rfl hlk) (by rfl) ?_)
          (refine WR_takeOn 13 rfl rfl rfl (by kernel_rfl) (by repeat (first | with_reducible exact PO.body | with_reducible exact RP_po | with_reducible refine PO.then ?_ | with_reducible refine PO.block ?_)) (by repeat (first | exact Inc.refl | exact Inc.nil | refine Inc.cons (by repeat (first | exact Take.here | apply Take.there)) ?_ | refine Inc.skip ?_)) (EV_load rfl hfn'.there hcell') (by rfl) ?_)
          (refine WR_u 14 ?_)
          (refine WR_t 15 ?_; refine WR_t 16 ?_)
          by_cases hd2 : (y : Int) > 0
          · rw [show decide ((y : Int) > 0) = true from decide_eq_true hd2]
            (refine WR_u 17 ?_; refine WR_u 18 ?_)
            (refine WR_takeOn 19 rfl rfl rfl (by kernel_rfl) (by repeat (first | with_reducible exact PO.body | with_reducible exact RP_po | with_reducible refine PO.then ?_ | with_reducible refine PO.block ?_)) (by repeat (first | exact Inc.refl | exact Inc.nil | refine Inc.cons (by repeat (first | exact Take.here | apply Take.there)) ?_ | refine Inc.skip ?_)) (EV_indexAddr0 (j := i) rfl rfl rfl hlt) (by rfl) ?_)
            (refine WR_takeOn 20 rfl rfl rfl (by kernel_rfl) (by repeat (first | with_reducible exact PO.body | with_reducible exact RP_po | with_reducible refine PO.then ?_ | with_reducible refine PO.block ?_)) (by repeat (first | exact Inc.refl | exact Inc.nil | refine Inc.cons (by repeat (first | exact Take.here | apply Take.there)) ?_ | refine Inc.skip ?_)) (EV_load rfl (by exact Fnd.here) hg1) (by rfl) ?_)
            (refine WR_u 21 ?_; refine WR_u 22 ?_)
            (refine WR_takeOn 23 rfl rfl rfl (by kernel_rfl) (by repeat (first | with_reducible exact PO.body | with_reducible exact RP_po | with_reducible refine PO.then ?_ | with_reducible refine PO.block ?_)) (by repeat (first | exact Inc.refl | exact Inc.nil | refine Inc.cons (by repeat (first | exact Take.here | apply Take.there)) ?_ | refine Inc.skip ?_)) (EV_indexAddr0 (j := k) rfl rfl rfl hlk) (by rfl) ?_)
            (refine WR_takeOn 24 rfl rfl rfl (by kernel_rfl) (by repeat (first | with_reducible exact PO.body | with_reducible exact RP_po | with_reducible refine PO.then ?_ | with_reducible refine PO.block ?_)) (by repeat (first | exact Inc.refl | exact Inc.nil | refine Inc.cons (by repeat (first | exact Take.here | apply Take.there)) ?_ | refine Inc.skip ?_)) (EV_load rfl (by exact Fnd.here) hg3) (by rfl) ?_)
            (refine WR_u 25 ?_)
            (refine WR_t 26 ?_)
            have hle := hrk (by omega) (by omega)
            (refine WR_done (by kernel_rfl) ?_)
            (repeat' (first | (show WL _ _ _ _ _ _ _; first | (refine WL_plain rfl ?_) | (refine WL_nil ?_) | (refine WL_on rfl rfl ?_) | (refine WL_off rfl rfl rfl rfl ?_) | (refine WL_offu rfl rfl rfl rfl ?_) | (refine WL_off' rfl rfl rfl ?_) | ((refine WL_split rfl rfl (fun hc => ?_) (fun hc => ?_)) <;> (rw [hc]; (try simp only [nrB] at hc); (try (exfalso; first | omega | exact hc trivial | exact hc rfl))))) | (show OW _ _ _ _ _ _; refine OW_E ?_) | (show OW _ _ ⟨_, .store .., _, _, _, _⟩ _ _ _; first | (refine OW_store rfl rfl rfl (by repeat (first | exact Upd.here | apply Upd.there)) (by first | (simp; done) | (simp; omega)) ?_) | (refine OW_storeAgg rfl rfl rfl rfl (by repeat (first | exact Upd.here | apply Upd.there)) (by first | (simp [Value.cells]; done) | (simp [Value.cells]; omega)) ?_)) | (show OW _ _ ⟨_, .alloc _, _, _, _, _⟩ _ _ _; first | (refine OW_alloc rfl (fun bk => ?_))) | (show OW _ _ ⟨_, .box .., _, _, _, _⟩ _ _ _; first | (refine OW_box rfl rfl (fun bk => ?_))) | (show WC _ _ _ _ _ _; first | (refine WC_seq ?_) | (refine WC_region ?_) | (refine WC_true rfl ?_) | (refine WC_false rfl ?_) | ((refine WC_cond rfl (fun hc => ?_) (fun hc => ?_)) <;> (try simp only [nrB] at hc) <;> (try (exfalso; first | omega | exact hc trivial | exact hc rfl))) | (refine WC_skip ?_) | (refine WC_ret ?_) | (refine WC_exit ?_) | (refine WC_block ?_)) | (show WQ _ _ _ _; first | (with_reducible refine WQ_then_normal ?_) | (with_reducible refine WQ_code ?_) | (with_reducible refine WQ_then_ret ?_) | (with_reducible refine WQ_block_ret ?_) | (with_reducible refine WQ_then_exit ?_) | (with_reducible refine WQ_block_hit ?_) | (with_reducible refine WQ_block_miss rfl ?_) | (with_reducible refine WQ_block_normal ?_))))
            refine WQ_round (X := Nat) (μ := fun k => ls.length - k) (x := k) (k + 1) (by omega) (by omega) (by repeat (first | exact Sub.nil | refine Sub.cons rfl ?_ | refine Sub.cons (lk_int rfl (by first | omega | (dsimp only; omega))) ?_)) (fun w h => h)
          · rw [show decide ((y : Int) > 0) = false from decide_eq_false hd2]
            (refine WR_v 17 ?_; refine WR_v 18 ?_; refine WR_v 19 ?_; refine WR_v 20 ?_; refine WR_v 21 ?_; refine WR_v 22 ?_; refine WR_v 23 ?_; refine WR_v 24 ?_; refine WR_v 25 ?_)
            (refine WR_t 26 ?_)
            (refine WR_done (by kernel_rfl) ?_)
            (repeat' (first | (show WL _ _ _ _ _ _ _; first | (refine WL_plain rfl ?_) | (refine WL_nil ?_) | (refine WL_on rfl rfl ?_) | (refine WL_off rfl rfl rfl rfl ?_) | (refine WL_offu rfl rfl rfl rfl ?_) | (refine WL_off' rfl rfl rfl ?_) | ((refine WL_split rfl rfl (fun hc => ?_) (fun hc => ?_)) <;> (rw [hc]; (try simp only [nrB] at hc); (try (exfalso; first | omega | exact hc trivial | exact hc rfl))))) | (show OW _ _ _ _ _ _; refine OW_E ?_) | (show OW _ _ ⟨_, .store .., _, _, _, _⟩ _ _ _; first | (refine OW_store rfl rfl rfl (by repeat (first | exact Upd.here | apply Upd.there)) (by first | (simp; done) | (simp; omega)) ?_) | (refine OW_storeAgg rfl rfl rfl rfl (by repeat (first | exact Upd.here | apply Upd.there)) (by first | (simp [Value.cells]; done) | (simp [Value.cells]; omega)) ?_)) | (show OW _ _ ⟨_, .alloc _, _, _, _, _⟩ _ _ _; first | (refine OW_alloc rfl (fun bk => ?_))) | (show OW _ _ ⟨_, .box .., _, _, _, _⟩ _ _ _; first | (refine OW_box rfl rfl (fun bk => ?_))) | (show WC _ _ _ _ _ _; first | (refine WC_seq ?_) | (refine WC_region ?_) | (refine WC_true rfl ?_) | (refine WC_false rfl ?_) | ((refine WC_cond rfl (fun hc => ?_) (fun hc => ?_)) <;> (try simp only [nrB] at hc) <;> (try (exfalso; first | omega | exact hc trivial | exact hc rfl))) | (refine WC_skip ?_) | (refine WC_ret ?_) | (refine WC_exit ?_) | (refine WC_block ?_)) | (show WQ _ _ _ _; first | (with_reducible refine WQ_then_normal ?_) | (with_reducible refine WQ_code ?_) | (with_reducible refine WQ_then_ret ?_) | (with_reducible refine WQ_block_ret ?_) | (with_reducible refine WQ_then_exit ?_) | (with_reducible refine WQ_block_hit ?_) | (with_reducible refine WQ_block_miss rfl ?_) | (with_reducible refine WQ_block_normal ?_))))
            refine WQ_round (X := Nat) (μ := fun k => ls.length - k) (x := k) (k + 1) (by omega) (by omega) (by repeat (first | exact Sub.nil | refine Sub.cons rfl ?_ | refine Sub.cons (lk_int rfl (by first | omega | (dsimp only; omega))) ?_)) (fun w h => h)
        · rw [show decide ((x : Int) > (y : Int)) = false from decide_eq_false hd1]
          (refine WR_v 10 ?_; refine WR_v 11 ?_; refine WR_v 12 ?_; refine WR_v 13 ?_; refine WR_v 14 ?_)
          (refine WR_t 15 ?_; refine WR_t 16 ?_)
          (refine WR_v 17 ?_; refine WR_v 18 ?_; refine WR_v 19 ?_; refine WR_v 20 ?_; refine WR_v 21 ?_; refine WR_v 22 ?_; refine WR_v 23 ?_; refine WR_v 24 ?_; refine WR_v 25 ?_)
          (refine WR_t 26 ?_)
          (refine WR_done (by kernel_rfl) ?_)
          (repeat' (first | (show WL _ _ _ _ _ _ _; first | (refine WL_plain rfl ?_) | (refine WL_nil ?_) | (refine WL_on rfl rfl ?_) | (refine WL_off rfl rfl rfl rfl ?_) | (refine WL_offu rfl rfl rfl rfl ?_) | (refine WL_off' rfl rfl rfl ?_) | ((refine WL_split rfl rfl (fun hc => ?_) (fun hc => ?_)) <;> (rw [hc]; (try simp only [nrB] at hc); (try (exfalso; first | omega | exact hc trivial | exact hc rfl))))) | (show OW _ _ _ _ _ _; refine OW_E ?_) | (show OW _ _ ⟨_, .store .., _, _, _, _⟩ _ _ _; first | (refine OW_store rfl rfl rfl (by repeat (first | exact Upd.here | apply Upd.there)) (by first | (simp; done) | (simp; omega)) ?_) | (refine OW_storeAgg rfl rfl rfl rfl (by repeat (first | exact Upd.here | apply Upd.there)) (by first | (simp [Value.cells]; done) | (simp [Value.cells]; omega)) ?_)) | (show OW _ _ ⟨_, .alloc _, _, _, _, _⟩ _ _ _; first | (refine OW_alloc rfl (fun bk => ?_))) | (show OW _ _ ⟨_, .box .., _, _, _, _⟩ _ _ _; first | (refine OW_box rfl rfl (fun bk => ?_))) | (show WC _ _ _ _ _ _; first | (refine WC_seq ?_) | (refine WC_region ?_) | (refine WC_true rfl ?_) | (refine WC_false rfl ?_) | ((refine WC_cond rfl (fun hc => ?_) (fun hc => ?_)) <;> (try simp only [nrB] at hc) <;> (try (exfalso; first | omega | exact hc trivial | exact hc rfl))) | (refine WC_skip ?_) | (refine WC_ret ?_) | (refine WC_exit ?_) | (refine WC_block ?_)) | (show WQ _ _ _ _; first | (with_reducible refine WQ_then_normal ?_) | (with_reducible refine WQ_code ?_) | (with_reducible refine WQ_then_ret ?_) | (with_reducible refine WQ_block_ret ?_) | (with_reducible refine WQ_then_exit ?_) | (with_reducible refine WQ_block_hit ?_) | (with_reducible refine WQ_block_miss rfl ?_) | (with_reducible refine WQ_block_normal ?_))))
          refine WQ_round (X := Nat) (μ := fun k => ls.length - k) (x := k) (k + 1) (by omega) (by omega) (by repeat (first | exact Sub.nil | refine Sub.cons rfl ?_ | refine Sub.cons (lk_int rfl (by first | omega | (dsimp only; omega))) ?_)) (fun w h => h)
      · refine WQ_round (X := Nat) (μ := fun i => ls.length - i) (x := i) (i + 1) (by omega) (by omega) (by repeat (first | exact Sub.nil | refine Sub.cons rfl ?_ | refine Sub.cons (lk_int rfl (by first | omega | (dsimp only; omega))) ?_)) (fun w h => h)
    · refine OW_callP rfl rfl rfl (hawake_n _) rfl ?_
      (repeat' (first | (show WL _ _ _ _ _ _ _; first | (refine WL_plain rfl ?_) | (refine WL_nil ?_) | (refine WL_on rfl rfl ?_) | (refine WL_off rfl rfl rfl rfl ?_) | (refine WL_offu rfl rfl rfl rfl ?_) | (refine WL_off' rfl rfl rfl ?_) | ((refine WL_split rfl rfl (fun hc => ?_) (fun hc => ?_)) <;> (rw [hc]; (try simp only [nrB] at hc); (try (exfalso; first | omega | exact hc trivial | exact hc rfl))))) | (show OW _ _ _ _ _ _; refine OW_E ?_) | (show OW _ _ ⟨_, .store .., _, _, _, _⟩ _ _ _; first | (refine OW_store rfl rfl rfl (by repeat (first | exact Upd.here | apply Upd.there)) (by first | (simp; done) | (simp; omega)) ?_) | (refine OW_storeAgg rfl rfl rfl rfl (by repeat (first | exact Upd.here | apply Upd.there)) (by first | (simp [Value.cells]; done) | (simp [Value.cells]; omega)) ?_)) | (show OW _ _ ⟨_, .alloc _, _, _, _, _⟩ _ _ _; first | (refine OW_alloc rfl (fun bk => ?_))) | (show OW _ _ ⟨_, .box .., _, _, _, _⟩ _ _ _; first | (refine OW_box rfl rfl (fun bk => ?_))) | (show WC _ _ _ _ _ _; first | (refine WC_seq ?_) | (refine WC_region ?_) | (refine WC_true rfl ?_) | (refine WC_false rfl ?_) | ((refine WC_cond rfl (fun hc => ?_) (fun hc => ?_)) <;> (try simp only [nrB] at hc) <;> (try (exfalso; first | omega | exact hc trivial | exact hc rfl))) | (refine WC_skip ?_) | (refine WC_ret ?_) | (refine WC_exit ?_) | (refine WC_block ?_)) | (show WQ _ _ _ _; first | (with_reducible refine WQ_then_normal ?_) | (with_reducible refine WQ_code ?_) | (with_reducible refine WQ_then_ret ?_) | (with_reducible refine WQ_block_ret ?_) | (with_reducible refine WQ_then_exit ?_) | (with_reducible refine WQ_block_hit ?_) | (with_reducible refine WQ_block_miss rfl ?_) | (with_reducible refine WQ_block_normal ?_))))
      (first | refine WQ_retI rfl rfl ?_ | refine WQ_endI rfl rfl ?_)
      exact ⟨L, (by repeat (first | exact Inc.refl | exact Inc.nil | refine Inc.cons (by repeat (first | exact Take.here | apply Take.there)) ?_ | refine Inc.skip ?_)), rfl, rfl⟩
end Go.Proofs.Yteebdaoanfnkgaa
