/- Contracts and facts on the way to the top. It proves no statement by itself. No conditions. -/
import Derived.Test.YtmhlmlkndabgmaaPD1
namespace Go.Proofs.Ytmhlmlkndabgmaa
open Go Go.Vx
variable [W0]
set_option maxRecDepth 4000
set_option linter.all false
theorem owf_slc {e k m : Nat} {v : Value} {xs : List Value} {C : Chunk} (h : OwF e k v m xs C) : ∃ b c, v = .slice (some ⟨b, 0, none⟩) m c := by
  obtain ⟨b, cap, rest, fr, rfl, _⟩ := h
  exact ⟨_, _, rfl⟩
theorem blk_get {m : List UInt8} {k j : Nat} (hj : j < 64) : ((m.drop (64 * k)).take 64).getD j 0 = m.getD (64 * k + j) 0 := by
  simp only [List.getD, List.getElem?_take, hj, if_true, List.getElem?_drop]
omit [W0] in
def hcs (h : H5) : List Value := [w32 h.a, w32 h.b, w32 h.c, w32 h.d, w32 h.e]
theorem kind_eq (k : Nat) (a b c d e w : BitVec 32) (f : BitVec 32) (q : BitVec 32) (h : kindF k b c d = f + q) : rol a 5 + f + e + q + w = rol a 5 + kindF k b c d + e + w := by
  rw [h]
  ac_rfl
set_option maxHeartbeats 4000000 in
theorem refsha_n (t : List UInt8) (L : List Chunk) (hlen : t.length ≤ 140737488351232) :
    Gv Try.prog 18 [.string (str t)].toArray L (fun r L' => ∃ C, L' = C :: L ∧ Ow 5 1 r 20 (bsv (shaN t)) C) := by
  refine Gv.of_body Try.func18 rfl rfl ?_
  have hsz : (str t).size = t.length := rfl
  (repeat' first|refine kX ?_|refine kU fun bk=>?_|refine kV fun hc=>?_|refine kZ (fun hc=>?_) fun hc=>?_|fail)
  rw [hsz]
  refine OW_EV (EV_ari rfl rfl rfl) rfl ?_
  rw [wrap_u64 (by omega) (by omega)]
  obtain ⟨n, hn⟩ : ∃ n, n = t.length := ⟨_, rfl⟩
  obtain ⟨z, hz⟩ : ∃ z, z = (119 - n % 64) % 64 := ⟨_, rfl⟩
  rw [← hn] at hlen hsz ⊢
  (repeat' first|refine kX ?_|refine kU fun bk=>?_|refine kV fun hc=>?_|refine kZ (fun hc=>?_) fun hc=>?_|fail)
  refine OW_convBytes rfl (by rw [hsz]; simp [maxLen]; omega) rfl (fun v0 C0 ho0 => ?_)
  rw [str_data, hsz] at ho0
  (repeat' first|refine kX ?_|refine kU fun bk=>?_|refine kV fun hc=>?_|refine kZ (fun hc=>?_) fun hc=>?_|fail)
  refine OW_buildSlice (cs := bsv [128]) rfl (by rfl) (by simp [fillL, patch, Value.cells, zeros]; rfl) (by omega) rfl rfl (fun bk => ?_)
  (repeat' first|refine kX ?_|refine kU fun bk=>?_|refine kV fun hc=>?_|refine kZ (fun hc=>?_) fun hc=>?_|fail)
  refine OW_appendF rfl rfl ho0 (sl_cells (c := (bsv [128]).toArray) (xs := bsv [128]) (m := 1) Fnd.here rfl (by simp)) (by repeat (first | exact Zip.here _ | apply Zip.there)) (by rfl) bsv_ones (by omega) (by simp [maxLen]; omega) rfl (fun v1 C1 ho1 => ?_)
  rw [← bsv_append] at ho1
  (repeat' first|refine kX ?_|refine kU fun bk=>?_|refine kV fun hc=>?_|refine kZ (fun hc=>?_) fun hc=>?_|fail)
  refine WC_loop (X := Nat × Value × Chunk) (fun x => [(0, .string (str t)), (3, .int .u64 ((n : Int) * 8)), (4, x.2.1)])
    (fun x => x.2.2 :: L) (fun x => x.1 ≤ z ∧ OwF 5 1 x.2.1 (n + 1 + x.1) (bsv (t ++ [128] ++ List.replicate x.1 0)) x.2.2) (fun x => z - x.1) (0, v1, C1) ⟨Nat.zero_le _, by simpa using ho1⟩ iS (fun w h => iH h) ?_
  clear ho1 ho0
  intro x ⟨hx1, hx2⟩
  obtain ⟨j, v, C⟩ := x
  simp only at hx1 hx2 ⊢
  obtain ⟨bb, cap, rfl⟩ := owf_slc hx2
  (repeat' first|refine kX ?_|refine kU fun bk=>?_|refine kV fun hc=>?_|refine kZ (fun hc=>?_) fun hc=>?_|fail)
  refine OW_EV (EV_rem rfl rfl (by decide)) rfl ?_
  rw [show ((n + 1 + j : Nat) : Int).tmod 64 = (((n + 1 + j) % 64 : Nat) : Int) from by rw [Int.tmod_eq_emod_of_nonneg (by omega)]; omega]
  (repeat' first|refine kX ?_|refine kU fun bk=>?_|refine kV fun hc=>?_|refine kZ (fun hc=>?_) fun hc=>?_|fail)
  · have hj : j < z := by omega
    refine OW_buildSlice (cs := bsv [0]) rfl (by rfl) (by simp [fillL, patch, Value.cells, zeros]; rfl) (by omega) rfl rfl (fun bk => ?_)
    (repeat' first|refine kX ?_|refine kU fun bk=>?_|refine kV fun hc=>?_|refine kZ (fun hc=>?_) fun hc=>?_|fail)
    refine OW_appendF rfl rfl hx2 (sl_cells (c := (bsv [0]).toArray) (xs := bsv [0]) (m := 1) Fnd.here rfl (by simp)) (by repeat (first | exact Zip.here _ | apply Zip.there)) (by rfl) bsv_ones (by omega) (by simp [maxLen]; omega) rfl (fun v1 C1 ho1 => ?_)
    rw [← bsv_append, List.append_assoc, ← List.replicate_succ' (n := j)] at ho1
    (repeat' first|refine kX ?_|refine kU fun bk=>?_|refine kV fun hc=>?_|refine kZ (fun hc=>?_) fun hc=>?_|fail)
    refine WQ_round (X := Nat × Value × Chunk) (μ := fun x => z - x.1) (x := (j, .slice (some ⟨bb, 0, none⟩) (n + 1 + j) cap, C)) (j + 1, v1, C1) (by simp only; omega) ⟨by simp only; omega, ho1⟩ iS (fun w h => iH h)
  · have hj : j = z := by omega
    subst hj
    have e2 : BitVec.ofInt 32 ((n : Int) * 8 / 4294967296) = hiW n := by
      apply BitVec.eq_of_toNat_eq
      rw [BitVec.toNat_ofInt, hiW, BitVec.toNat_ofNat]
      omega
    have e3 : BitVec.ofInt 32 ((n : Int) * 8) = loW n := by
      apply BitVec.eq_of_toNat_eq
      rw [BitVec.toNat_ofInt, loW, BitVec.toNat_ofNat]
      omega
    rw [e2, e3]
    refine OW_buildSlice (cs := wsv [hiW n, loW n]) rfl (by rfl) (by simp [fillL, patch, Value.cells, zeros]; rfl) (by omega) rfl rfl (fun bk2 => ?_)
    (repeat' first|refine kX ?_|refine kU fun bk=>?_|refine kV fun hc=>?_|refine kZ (fun hc=>?_) fun hc=>?_|fail)
    refine OW_call rfl rfl rfl (words_n [hiW n, loW n] _ _ (by simp) ⟨sl_cells (c := (wsv [hiW n, loW n]).toArray) (m := 2) Fnd.here rfl (by simp), _, _, rfl, Nat.le_refl _⟩) rfl (fun r L' hp => ?_)
    obtain ⟨C2, rfl, ho2⟩ := hp
    (repeat' first|refine kX ?_|refine kU fun bk=>?_|refine kV fun hc=>?_|refine kZ (fun hc=>?_) fun hc=>?_|fail)
    refine OW_appendF rfl rfl hx2 (ow_sl ho2) (by repeat (first | exact Zip.here _ | apply Zip.there)) (by rfl) bsv_ones (by simp; omega) (by simp [maxLen]; omega) rfl (fun vb Cb hob => ?_)
    have hm : t ++ [128] ++ List.replicate j 0 ++ wbs [hiW n, loW n] = t ++ padOf t.length := by
      rw [← hn]
      simp [padOf, wbs, ← hz]
    rw [← bsv_append, hm] at hob
    have hpl := padOf_length n
    have hml : (t ++ padOf t.length).length = n + 1 + j + 4 * [hiW n, loW n].length := by rw [← hn]; simp [hpl]; omega
    rw [← hml] at hob
    have hsh : shaN t = wbs (hbs (chainN (t ++ padOf t.length) ((t ++ padOf t.length).length / 64))) := rfl
    rw [hsh]
    have hm64 : (t ++ padOf t.length).length % 64 = 0 := by rw [hml]; simp; omega
    have hmb : (t ++ padOf t.length).length ≤ 140737488355328 := by rw [hml]; simp; omega
    generalize t ++ padOf t.length = m at hob hm64 hmb ⊢
    clear hm hml hsh hpl e2 e3 hc hx1 hx2 hz hn hlen hsz ho2
    obtain ⟨bb, cap, rest, fr, rfl, rfl, hxl, hrl, hmc, hcm, hfr⟩ := hob
    (repeat' first|refine kX ?_|refine kU fun bk=>?_|refine kV fun hc=>?_|refine kZ (fun hc=>?_) fun hc=>?_|fail)
    refine OW_buildSlice (cs := hcs h50) rfl (by rfl) (by simp [fillL, patch, Value.cells, zeros]; rfl) (by omega) rfl rfl (fun bh => ?_)
    (repeat' first|refine kX ?_|refine kU fun bk=>?_|refine kV fun hc=>?_|refine kZ (fun hc=>?_) fun hc=>?_|fail)
    refine OW_makeSlice (m := 80) (c := 80) rfl rfl (by rfl) (by omega) (by omega) (by omega) rfl (fun bw => ?_)
    (repeat' first|refine kX ?_|refine kU fun bk=>?_|refine kV fun hc=>?_|refine kZ (fun hc=>?_) fun hc=>?_|fail)
    have hbyte : ∀ i, i < m.length → ((bsv m ++ rest).toArray)[i * 1]? = some (.int .u8 ((m.getD i 0).toNat : Int)) := fun i hi => by
      rw [Nat.mul_one, List.getElem?_toArray, List.getElem?_append_left (by simpa [bsv_length] using hi)]
      exact bsv_get (by simp [List.getD, hi])
    refine WC_loop (X := Nat × List Value × Nat) (fun x => [(4, .slice (some ⟨bb, 0, none⟩) m.length cap), (5, .slice (some ⟨x.2.2, 0, none⟩) 5 5), (6, .slice (some ⟨bw, 0, none⟩) 80 80), (7, .int .i64 ((64 * x.1 : Nat) : Int))])
      (fun x => [(x.2.2, cl (hcs (chainN m x.1)) 28)] :: [(bw, cl x.2.1 28)] :: [(bb, .cells (bsv m ++ rest).toArray 5 fr)] :: L)
      (fun x => 64 * x.1 ≤ m.length ∧ x.2.1.length = 80) (fun x => m.length - 64 * x.1) (0, zeros [.int .u32 0] 80, bh) ⟨Nat.zero_le _, by simp [zeros_length]⟩ iS (fun w h => iH h) ?_
    intro x ⟨hx1, hx2⟩
    obtain ⟨k, wl, bh⟩ := x
    simp only at hx1 hx2 ⊢
    (repeat' first|refine kX ?_|refine kU fun bk=>?_|refine kV fun hc=>?_|refine kZ (fun hc=>?_) fun hc=>?_|fail)
    · have hk : 64 * k + 64 ≤ m.length := by omega
      obtain ⟨blk, hblk⟩ : ∃ blk, blk = (m.drop (64 * k)).take 64 := ⟨_, rfl⟩
      have hbg : ∀ j, j < 64 → m.getD (64 * k + j) 0 = blk.getD j 0 := fun j hj => by rw [hblk, blk_get hj]
      refine WC_loop (X := Nat × List Value) (fun x => [(4, .slice (some ⟨bb, 0, none⟩) m.length cap), (5, .slice (some ⟨bh, 0, none⟩) 5 5), (6, .slice (some ⟨bw, 0, none⟩) 80 80), (7, .int .i64 ((64 * k : Nat) : Int)), (8, .int .i64 (x.1 : Int))])
        (fun x => [(bh, cl (hcs (chainN m k)) 28)] :: [(bw, cl (wsv (sched blk x.1) ++ x.2) 28)] :: [(bb, .cells (bsv m ++ rest).toArray 5 fr)] :: L)
        (fun x => x.1 ≤ 80 ∧ x.2.length = 80 - x.1) (fun x => 80 - x.1) (0, wl) ⟨by simp only; omega, hx2⟩ iS (fun w h => h) ?_
      intro y ⟨hy1, hy2⟩
      clear hx2 wl hc
      obtain ⟨t, wr⟩ := y
      simp only at hy1 hy2 ⊢
      (repeat' first|refine kX ?_|refine kU fun bk=>?_|refine kV fun hc=>?_|refine kZ (fun hc=>?_) fun hc=>?_|fail)
      · have hfB : Fnd ([(bh, cl (hcs (chainN m k)) 28)] :: [(bw, cl (wsv (sched blk t) ++ wr) 28)] :: [(bb, .cells (bsv m ++ rest).toArray 5 fr)] :: L) bb (.cells (bsv m ++ rest).toArray 5 fr) := Fnd.there (Fnd.there Fnd.here)
        have hb2 : ∀ j, j < 64 → ((bsv m ++ rest).toArray)[(64 * k + j) * 1]? = some (.int .u8 ((blk.getD j 0).toNat : Int)) := fun j hj => by
          rw [← hbg j hj]; exact hbyte _ (by omega)
        refine WC_drawAll [32] mixed ?_
        (refine WR_w 0 ?_; refine WR_w 1 ?_; refine WR_w 2 ?_; refine WR_w 3 ?_)
        (refine WR_take 4 rfl rfl (by kernel_rfl) iP iC (EV_indexAddr0 (j := 64 * k + (4 * t)) rfl rfl (by omega) (by omega)) (by rfl) ?_)
        (refine WR_take 5 rfl rfl (by kernel_rfl) iP iC (EV_load rfl hfB (hb2 (4 * t) (by omega))) (by rfl) ?_)
        (refine WR_w 6 ?_; refine WR_w 7 ?_; refine WR_w 8 ?_; refine WR_w 9 ?_; refine WR_w 10 ?_)
        (refine WR_take 11 rfl rfl (by kernel_rfl) iP iC (EV_indexAddr0 (j := 64 * k + (4 * t + 1)) rfl rfl (by omega) (by omega)) (by rfl) ?_)
        (refine WR_take 12 rfl rfl (by kernel_rfl) iP iC (EV_load rfl hfB (hb2 (4 * t + 1) (by omega))) (by rfl) ?_)
        (refine WR_w 13 ?_; refine WR_w 14 ?_; refine WR_w 15 ?_; refine WR_w 16 ?_; refine WR_w 17 ?_; refine WR_w 18 ?_)
        (refine WR_take 19 rfl rfl (by kernel_rfl) iP iC (EV_indexAddr0 (j := 64 * k + (4 * t + 2)) rfl rfl (by omega) (by omega)) (by rfl) ?_)
        (refine WR_take 20 rfl rfl (by kernel_rfl) iP iC (EV_load rfl hfB (hb2 (4 * t + 2) (by omega))) (by rfl) ?_)
        (refine WR_w 21 ?_; refine WR_w 22 ?_; refine WR_w 23 ?_; refine WR_w 24 ?_; refine WR_w 25 ?_; refine WR_w 26 ?_)
        (refine WR_take 27 rfl rfl (by kernel_rfl) iP iC (EV_indexAddr0 (j := 64 * k + (4 * t + 3)) rfl rfl (by omega) (by omega)) (by rfl) ?_)
        (refine WR_take 28 rfl rfl (by kernel_rfl) iP iC (EV_load rfl hfB (hb2 (4 * t + 3) (by omega))) (by rfl) ?_)
        (refine WR_w 29 ?_; refine WR_w 30 ?_; refine WR_w 31 ?_)
        (refine WR_last 32 (by kernel_rfl) rfl rfl rfl ?_)
        refine OW_storeTo (wsv (sched blk (t + 1)) ++ wr.tail) rfl rfl rfl ?_ iU (by simp [wsv_length, sched_length]; omega) ?_
        · rw [Nat.mul_one]
          have := wsv_put (sched blk t) (schedNext blk (sched blk t)) wr t (sched_length blk t).symm (by omega)
          rw [sched_lo (by omega)] at this
          rw [sched, sched_lo (by omega)]
          exact this
        (refine WR_done (by kernel_rfl) ?_)
        (repeat' first|refine kX ?_|refine kU fun bk=>?_|refine kV fun hc=>?_|refine kZ (fun hc=>?_) fun hc=>?_|fail)
        refine WQ_round (X := Nat × List Value) (μ := fun x => 80 - x.1) (x := (t, wr)) (t + 1, wr.tail) (by simp only; omega) ⟨by simp only; omega, by simp; omega⟩ iS (fun w h => h)
      · have ld : ∀ j, 0 < j → j ≤ t → nth (wsv (sched blk t) ++ wr) ((t - j) * 1) = some (w32 ((sched blk t).getD (t - j) 0)) := fun j h0 hj => by
          rw [nth_eq, Nat.mul_one]
          exact wsv_app_get _ _ (by rw [sched_length]; omega)
        refine WC_drawAll [27] mixed ?_
        (refine WR_w 0 ?_; refine WR_w 1 ?_; refine WR_w 2 ?_; refine WR_w 3 ?_; refine WR_w 4 ?_)
        (refine WR_take 5 rfl rfl (by kernel_rfl) iP iC (EV_indexAddr0 (j := t - 3) rfl rfl (by omega) (by omega)) (by rfl) ?_)
        (refine WR_take 6 rfl rfl (by kernel_rfl) iP iC (EV_loadc rfl (Fnd.there Fnd.here) (ld 3 (by omega) (by omega))) (by rfl) ?_)
        (refine WR_w 7 ?_; refine WR_w 8 ?_; refine WR_w 9 ?_)
        (refine WR_take 10 rfl rfl (by kernel_rfl) iP iC (EV_indexAddr0 (j := t - 8) rfl rfl (by omega) (by omega)) (by rfl) ?_)
        (refine WR_take 11 rfl rfl (by kernel_rfl) iP iC (EV_loadc rfl (Fnd.there Fnd.here) (ld 8 (by omega) (by omega))) (by rfl) ?_)
        (refine WR_w 12 ?_; refine WR_w 13 ?_; refine WR_w 14 ?_; refine WR_w 15 ?_)
        (refine WR_take 16 rfl rfl (by kernel_rfl) iP iC (EV_indexAddr0 (j := t - 14) rfl rfl (by omega) (by omega)) (by rfl) ?_)
        (refine WR_take 17 rfl rfl (by kernel_rfl) iP iC (EV_loadc rfl (Fnd.there Fnd.here) (ld 14 (by omega) (by omega))) (by rfl) ?_)
        (refine WR_w 18 ?_; refine WR_w 19 ?_; refine WR_w 20 ?_; refine WR_w 21 ?_)
        (refine WR_take 22 rfl rfl (by kernel_rfl) iP iC (EV_indexAddr0 (j := t - 16) rfl rfl (by omega) (by omega)) (by rfl) ?_)
        (refine WR_take 23 rfl rfl (by kernel_rfl) iP iC (EV_loadc rfl (Fnd.there Fnd.here) (ld 16 (by omega) (by omega))) (by rfl) ?_)
        (refine WR_w 24 ?_)
        (refine WR_one 25 (by kernel_rfl) rfl rfl ?_)
        refine OW_callP rfl rfl rfl (rol_n _ 1 _ (by omega)) rfl ?_
        refine ⟨iC, ?_⟩
        (refine WR_w 26 ?_)
        (refine WR_last 27 (by kernel_rfl) rfl rfl rfl ?_)
        refine OW_storeTo (wsv (sched blk (t + 1)) ++ wr.tail) rfl rfl rfl ?_ iU (by simp [wsv_length, sched_length]; omega) ?_
        · rw [Nat.mul_one]
          have := wsv_put (sched blk t) (schedNext blk (sched blk t)) wr t (sched_length blk t).symm (by omega)
          rw [sched_hi (by omega)] at this
          rw [sched, sched_hi (by omega)]
          exact this
        (refine WR_done (by kernel_rfl) ?_)
        (repeat' first|refine kX ?_|refine kU fun bk=>?_|refine kV fun hc=>?_|refine kZ (fun hc=>?_) fun hc=>?_|fail)
        refine WQ_round (X := Nat × List Value) (μ := fun x => 80 - x.1) (x := (t, wr)) (t + 1, wr.tail) (by simp only; omega) ⟨by simp only; omega, by simp; omega⟩ iS (fun w h => h)
      · have ht : t = 80 := by omega
        subst ht
        have hr : wr = [] := List.eq_nil_of_length_eq_zero (by simpa using hy2)
        subst hr
        rw [List.append_nil]
        have hch : chainN m (k + 1) = add5 (chainN m k) (rounds (sched blk 80) (chainN m k) 80) := by rw [hblk]; rfl
        have hwl : (sched blk 80).length = 80 := sched_length blk 80
        generalize sched blk 80 = ws at hch hwl ⊢
        obtain ⟨H, hH⟩ : ∃ H, H = chainN m k := ⟨_, rfl⟩
        rw [← hH] at hch ⊢
        refine WC_loop (X := Nat × H5) (fun x => [(4, .slice (some ⟨bb, 0, none⟩) m.length cap), (5, .slice (some ⟨bh, 0, none⟩) 5 5), (6, .slice (some ⟨bw, 0, none⟩) 80 80), (7, .int .i64 ((64 * k : Nat) : Int)),
            (10, w32 x.2.a), (11, w32 x.2.b), (12, w32 x.2.c), (13, w32 x.2.d), (14, w32 x.2.e), (15, .int .i64 (x.1 : Int))])
          (fun x => [(bh, cl (hcs H) 28)] :: [(bw, cl (wsv ws) 28)] :: [(bb, .cells (bsv m ++ rest).toArray 5 fr)] :: L)
          (fun x => x.1 ≤ 80 ∧ x.2 = rounds ws H x.1) (fun x => 80 - x.1) (0, H) ⟨by simp only; omega, rfl⟩ iS (fun w h => h) ?_
        intro y ⟨hy3, hy4⟩
        clear hy1 hy2 hc hbg
        obtain ⟨t, r⟩ := y
        simp only at hy3 hy4 ⊢
        have hld : t < 80 → nth (wsv ws) (t * 1) = some (w32 (ws.getD t 0)) := fun h => by
          rw [nth_eq, Nat.mul_one]
          exact wsv_get (by simp [List.getD, show t < ws.length from by omega])
        (repeat' first|refine kX ?_|refine kU fun bk=>?_|refine kV fun hc=>?_|refine kZ (fun hc=>?_) fun hc=>?_|fail)
        · have hk5 : t / 20 = 3 := by omega
          refine WC_drawAll [] mixed ?_
          (refine WR_w 0 ?_; refine WR_w 2 ?_; refine WR_w 4 ?_; refine WR_w 6 ?_; refine WR_w 8 ?_; refine WR_w 9 ?_; refine WR_w 10 ?_)
          refine WR_take 11 rfl rfl (by kernel_rfl) iP iC (EV_loadc rfl (Fnd.there Fnd.here) (hld (by omega))) (by rfl) ?_
          (refine WR_one 1 (by kernel_rfl) rfl rfl ?_)
          refine OW_callP rfl rfl rfl (rol_n _ 5 _ (by omega)) rfl ?_
          refine ⟨iC, ?_⟩
          (refine WR_w 3 ?_; refine WR_w 5 ?_; refine WR_w 7 ?_; refine WR_w 12 ?_; refine WR_w 13 ?_)
          (refine WR_done (by kernel_rfl) ?_)
          (repeat' first|refine kX ?_|refine kU fun bk=>?_|refine kV fun hc=>?_|refine kZ (fun hc=>?_) fun hc=>?_|fail)
          refine OW_callP rfl rfl rfl (rol_n _ 30 _ (by omega)) rfl ?_
          (repeat' first|refine kX ?_|refine kU fun bk=>?_|refine kV fun hc=>?_|refine kZ (fun hc=>?_) fun hc=>?_|fail)
          rw [kind_eq 3 r.a r.b r.c r.d r.e (ws.getD t 0) _ 3395469782#32 rfl]
          refine WQ_round (X := Nat × H5) (μ := fun x => 80 - x.1) (x := (t, r)) (t + 1, rnd 3 r (ws.getD t 0)) (by simp only; omega) ⟨by simp only; omega, by simp only [rounds]; rw [hk5, hy4]⟩ iS (fun w h => h)
        · have hk5 : t / 20 = 2 := by omega
          refine WC_drawAll [] mixed ?_
          (refine WR_w 0 ?_; refine WR_w 2 ?_; refine WR_w 4 ?_; refine WR_w 6 ?_; refine WR_w 8 ?_; refine WR_w 9 ?_; refine WR_w 10 ?_)
          refine WR_take 11 rfl rfl (by kernel_rfl) iP iC (EV_loadc rfl (Fnd.there Fnd.here) (hld (by omega))) (by rfl) ?_
          (refine WR_one 1 (by kernel_rfl) rfl rfl ?_)
          refine OW_callP rfl rfl rfl (rol_n _ 5 _ (by omega)) rfl ?_
          refine ⟨iC, ?_⟩
          (refine WR_w 3 ?_; refine WR_w 5 ?_; refine WR_w 7 ?_; refine WR_w 12 ?_; refine WR_w 13 ?_)
          (refine WR_done (by kernel_rfl) ?_)
          (repeat' first|refine kX ?_|refine kU fun bk=>?_|refine kV fun hc=>?_|refine kZ (fun hc=>?_) fun hc=>?_|fail)
          refine OW_callP rfl rfl rfl (rol_n _ 30 _ (by omega)) rfl ?_
          (repeat' first|refine kX ?_|refine kU fun bk=>?_|refine kV fun hc=>?_|refine kZ (fun hc=>?_) fun hc=>?_|fail)
          rw [kind_eq 2 r.a r.b r.c r.d r.e (ws.getD t 0) _ 2400959708#32 rfl]
          refine WQ_round (X := Nat × H5) (μ := fun x => 80 - x.1) (x := (t, r)) (t + 1, rnd 2 r (ws.getD t 0)) (by simp only; omega) ⟨by simp only; omega, by simp only [rounds]; rw [hk5, hy4]⟩ iS (fun w h => h)
        · have hk5 : t / 20 = 1 := by omega
          refine WC_drawAll [] mixed ?_
          (refine WR_w 0 ?_; refine WR_w 2 ?_; refine WR_w 4 ?_; refine WR_w 6 ?_; refine WR_w 8 ?_; refine WR_w 9 ?_; refine WR_w 10 ?_)
          refine WR_take 11 rfl rfl (by kernel_rfl) iP iC (EV_loadc rfl (Fnd.there Fnd.here) (hld (by omega))) (by rfl) ?_
          (refine WR_one 1 (by kernel_rfl) rfl rfl ?_)
          refine OW_callP rfl rfl rfl (rol_n _ 5 _ (by omega)) rfl ?_
          refine ⟨iC, ?_⟩
          (refine WR_w 3 ?_; refine WR_w 5 ?_; refine WR_w 7 ?_; refine WR_w 12 ?_; refine WR_w 13 ?_)
          (refine WR_done (by kernel_rfl) ?_)
          (repeat' first|refine kX ?_|refine kU fun bk=>?_|refine kV fun hc=>?_|refine kZ (fun hc=>?_) fun hc=>?_|fail)
          refine OW_callP rfl rfl rfl (rol_n _ 30 _ (by omega)) rfl ?_
          (repeat' first|refine kX ?_|refine kU fun bk=>?_|refine kV fun hc=>?_|refine kZ (fun hc=>?_) fun hc=>?_|fail)
          rw [kind_eq 1 r.a r.b r.c r.d r.e (ws.getD t 0) _ 1859775393#32 rfl]
          refine WQ_round (X := Nat × H5) (μ := fun x => 80 - x.1) (x := (t, r)) (t + 1, rnd 1 r (ws.getD t 0)) (by simp only; omega) ⟨by simp only; omega, by simp only [rounds]; rw [hk5, hy4]⟩ iS (fun w h => h)
        · have hk5 : t / 20 = 0 := by omega
          refine WC_drawAll [] mixed ?_
          (refine WR_w 0 ?_; refine WR_w 2 ?_; refine WR_w 4 ?_; refine WR_w 6 ?_; refine WR_w 8 ?_; refine WR_w 9 ?_; refine WR_w 10 ?_)
          refine WR_take 11 rfl rfl (by kernel_rfl) iP iC (EV_loadc rfl (Fnd.there Fnd.here) (hld (by omega))) (by rfl) ?_
          (refine WR_one 1 (by kernel_rfl) rfl rfl ?_)
          refine OW_callP rfl rfl rfl (rol_n _ 5 _ (by omega)) rfl ?_
          refine ⟨iC, ?_⟩
          (refine WR_w 3 ?_; refine WR_w 5 ?_; refine WR_w 7 ?_; refine WR_w 12 ?_; refine WR_w 13 ?_)
          (refine WR_done (by kernel_rfl) ?_)
          (repeat' first|refine kX ?_|refine kU fun bk=>?_|refine kV fun hc=>?_|refine kZ (fun hc=>?_) fun hc=>?_|fail)
          refine OW_callP rfl rfl rfl (rol_n _ 30 _ (by omega)) rfl ?_
          (repeat' first|refine kX ?_|refine kU fun bk=>?_|refine kV fun hc=>?_|refine kZ (fun hc=>?_) fun hc=>?_|fail)
          rw [kind_eq 0 r.a r.b r.c r.d r.e (ws.getD t 0) _ 1518500249#32 rfl]
          refine WQ_round (X := Nat × H5) (μ := fun x => 80 - x.1) (x := (t, r)) (t + 1, rnd 0 r (ws.getD t 0)) (by simp only; omega) ⟨by simp only; omega, by simp only [rounds]; rw [hk5, hy4]⟩ iS (fun w h => h)
        · have ht : t = 80 := by omega
          subst ht
          rw [← hy4] at hch
          refine WC_drawAll [] mixed ?_
          (refine WR_w 0 ?_; refine WR_w 1 ?_; refine WR_w 2 ?_; refine WR_w 3 ?_; refine WR_w 4 ?_; refine WR_w 5 ?_; refine WR_w 6 ?_; refine WR_w 7 ?_; refine WR_w 8 ?_; refine WR_w 9 ?_; refine WR_w 10 ?_; refine WR_w 11 ?_; refine WR_w 12 ?_; refine WR_w 13 ?_; refine WR_w 14 ?_; refine WR_w 15 ?_; refine WR_w 16 ?_; refine WR_w 17 ?_; refine WR_w 18 ?_; refine WR_w 19 ?_; refine WR_w 20 ?_; refine WR_w 21 ?_; refine WR_w 22 ?_; refine WR_w 23 ?_; refine WR_w 24 ?_)
          (refine WR_one 25 (by kernel_rfl) rfl rfl ?_)
          refine OW_buildSlice (cs := hcs (add5 H r)) rfl (by rfl) (by simp [fillL, patch, Value.cells, zeros]; rfl) (by omega) rfl rfl (fun bh2 => ?_)
          refine ⟨iC, ?_⟩
          (refine WR_w 26 ?_)
          (refine WR_done (by kernel_rfl) ?_)
          (repeat' first|refine kX ?_|refine kU fun bk=>?_|refine kV fun hc=>?_|refine kZ (fun hc=>?_) fun hc=>?_|fail)
          refine WQ_round (X := Nat × List Value × Nat) (μ := fun x => m.length - 64 * x.1) (x := (k, wsv ws, bh)) (k + 1, wsv ws, bh2) (by simp only; omega) ⟨by simp only; omega, by rw [wsv_length]; exact hwl⟩ iS (fun w h => by simp only; rw [hch]; exact iH h)
    · have hk : k = m.length / 64 := by omega
      rw [← hk]
      refine OW_call rfl rfl rfl (words_n (hbs (chainN m k)) _ _ (by show 5 ≤ 1000; omega) ⟨sl_cells (c := (hcs (chainN m k)).toArray) (m := 5) Fnd.here rfl (by show (hcs (chainN m k)).take 5 = hcs (chainN m k); rfl), _, _, rfl, Nat.le_refl _⟩) rfl (fun r L' hp => ?_)
      obtain ⟨C2, rfl, ho2⟩ := hp
      (repeat' first|refine kX ?_|refine kU fun bk=>?_|refine kV fun hc=>?_|refine kZ (fun hc=>?_) fun hc=>?_|fail)
      refine kR ?_
      exact ⟨C2 :: L, iC, C2, rfl, ho2⟩
end Go.Proofs.Ytmhlmlkndabgmaa
namespace Go.Proofs.Ytmhlmlkndabgmaa
open Go Go.Vx
variable [W0]
set_option maxRecDepth 4000
set_option linter.all false
omit [W0] in
/-- A digit's number; -1: it is none. -/
def dv (d : UInt8) : Int := if 48 ≤ d.toNat ∧ d.toNat ≤ 57 then (d.toNat : Int) - 48 else if 97 ≤ d.toNat ∧ d.toNat ≤ 102 then (d.toNat : Int) - 87 else -1
theorem dv_lt (d : UInt8) : dv d < 16 := by
  unfold dv; split
  · omega
  · split <;> omega
theorem dv_dig {i : Nat} (h : i < 16) : dv (dig i) = (i : Int) := by
  have : ∀ i : Fin 16, dv (dig i.val) = (i.val : Int) := by decide
  exact this ⟨i, h⟩
omit [W0] in
def halfV (d : UInt8) : Value := if 0 ≤ dv d then .tuple #[.int .u8 (dv d), .bool true] else .tuple #[.int .u8 0, .bool false]
theorem half_n (d : UInt8) (L : List Chunk) : GvP Try.prog 63 [.int .u8 (d.toNat : Int)].toArray L (halfV d) := by
  refine Gv.of_body Try.func63 rfl rfl ?_
  have hd := d.toNat_lt
  (repeat' first|refine kX ?_|refine kU fun bk=>?_|refine kV fun hc=>?_|refine kZ (fun hc=>?_) fun hc=>?_|fail)
  · refine OW_EV (EV_ari rfl rfl rfl) rfl ?_
    have e : dv d = (d.toNat : Int) - 48 := by unfold dv; rw [if_pos (by omega)]
    have h0 : halfV d = .tuple #[.int .u8 ((d.toNat : Int) - 48), .bool true] := by unfold halfV; rw [if_pos (by omega), e]
    rw [wrap_u8, show (((d.toNat : Int) - 48) % 256).toNat = (d.toNat - 48 : Nat) from by omega, h0]
    (repeat' first|refine kX ?_|refine kU fun bk=>?_|refine kV fun hc=>?_|refine kZ (fun hc=>?_) fun hc=>?_|fail)
    refine kR ?_
    refine ⟨L, iC, ?_, rfl⟩
    rw [show ((d.toNat - 48 : Nat) : Int) = (d.toNat : Int) - 48 from by omega]
    rfl
  · refine OW_EV (EV_ari rfl rfl rfl) rfl ?_
    have e : dv d = (d.toNat : Int) - 87 := by unfold dv; rw [if_neg (by omega), if_pos (by omega)]
    have h0 : halfV d = .tuple #[.int .u8 ((d.toNat : Int) - 87), .bool true] := by unfold halfV; rw [if_pos (by omega), e]
    rw [wrap_u8, show (((d.toNat : Int) - 97) % 256).toNat = (d.toNat - 97 : Nat) from by omega, h0]
    (repeat' first|refine kX ?_|refine kU fun bk=>?_|refine kV fun hc=>?_|refine kZ (fun hc=>?_) fun hc=>?_|fail)
    refine OW_EV (EV_ari rfl rfl rfl) rfl ?_
    rw [wrap_u8, show ((((d.toNat - 97 : Nat) : Int) + 10) % 256).toNat = (d.toNat - 87 : Nat) from by omega]
    (repeat' first|refine kX ?_|refine kU fun bk=>?_|refine kV fun hc=>?_|refine kZ (fun hc=>?_) fun hc=>?_|fail)
    refine kR ?_
    refine ⟨L, iC, ?_, rfl⟩
    rw [show ((d.toNat - 87 : Nat) : Int) = (d.toNat : Int) - 87 from by omega]
    rfl
  all_goals
    have e : dv d = -1 := by unfold dv; rw [if_neg (by omega), if_neg (by omega)]
    have h0 : halfV d = .tuple #[.int .u8 0, .bool false] := by unfold halfV; rw [if_neg (by omega)]
    rw [h0]
    refine kR ?_
    exact ⟨L, iC, rfl, rfl⟩
end Go.Proofs.Ytmhlmlkndabgmaa
namespace Go.Proofs.Ytmhlmlkndabgmaa
open Go Go.Vx
variable [W0]
set_option maxRecDepth 4000
set_option linter.all false
omit [W0] in
/-- Two digits, and what they are. -/
def okAt (t : List UInt8) (i : Nat) : Bool := decide (0 ≤ dv (t.getD (2 * i) 0)) && decide (0 ≤ dv (t.getD (2 * i + 1) 0))
omit [W0] in
def byAt (t : List UInt8) (i : Nat) : UInt8 := UInt8.ofNat (16 * (dv (t.getD (2 * i) 0)).toNat + (dv (t.getD (2 * i + 1) 0)).toNat)
omit [W0] in
def outN (t : List UInt8) (k : Nat) : List UInt8 := (List.range k).map (byAt t)
theorem outN_length (t : List UInt8) (k : Nat) : (outN t k).length = k := by simp [outN]
theorem outN_succ (t : List UInt8) (k : Nat) : outN t (k + 1) = outN t k ++ [byAt t k] := by simp [outN, List.range_succ]
omit [W0] in
def unB (t : List UInt8) : Bool := decide (t.length % 2 = 0) && (List.range (t.length / 2)).all (okAt t)
omit [W0] in
def unL (t : List UInt8) : List UInt8 := if unB t then outN t (t.length / 2) else []
theorem unB_odd {t : List UInt8} (h : t.length % 2 ≠ 0) : unB t = false := by simp [unB, h]
theorem unB_bad {t : List UInt8} {i : Nat} (h : i < t.length / 2) (hk : okAt t i = false) : unB t = false := by
  simp only [unB, Bool.and_eq_false_iff]
  refine .inr ?_
  rw [List.all_eq_false]
  exact ⟨i, List.mem_range.2 h, by simp [hk]⟩
theorem unB_good {t : List UInt8} (h : t.length % 2 = 0) (hk : ∀ i, i < t.length / 2 → okAt t i = true) : unB t = true := by
  simp only [unB, h, decide_true, Bool.true_and, List.all_eq_true]
  exact fun i hi => hk i (List.mem_range.1 hi)
theorem halfV_yes {d : UInt8} (h : 0 ≤ dv d) : halfV d = .tuple #[.int .u8 (dv d), .bool true] := if_pos h
theorem halfV_no {d : UInt8} (h : ¬ 0 ≤ dv d) : halfV d = .tuple #[.int .u8 0, .bool false] := if_neg h
theorem byAt_val {t : List UInt8} {i : Nat} (h1 : 0 ≤ dv (t.getD (2 * i) 0)) (h2 : 0 ≤ dv (t.getD (2 * i + 1) 0)) : ((byAt t i).toNat : Int) = 16 * dv (t.getD (2 * i) 0) + dv (t.getD (2 * i + 1) 0) := by
  have a1 := dv_lt (t.getD (2 * i) 0)
  have a2 := dv_lt (t.getD (2 * i + 1) 0)
  simp only [byAt, UInt8.toNat_ofNat']
  omega
theorem halves {a b : Nat} (ha : a < 16) (hb : b < 16) : bitI .or .u8 (IntKind.u8.wrap ((a : Int) * 2 ^ (min ((4 : Int)).toNat IntKind.u8.bits))) (b : Int) = some ((16 * a + b : Nat) : Int) := by
  have : ∀ a b : Fin 16, bitI .or .u8 (IntKind.u8.wrap ((a.val : Int) * 2 ^ (min ((4 : Int)).toNat IntKind.u8.bits))) (b.val : Int) = some ((16 * a.val + b.val : Nat) : Int) := by decide +kernel
  exact this ⟨a, ha⟩ ⟨b, hb⟩
set_option maxHeartbeats 2000000 in
theorem unhex_n (t : List UInt8) (L : List Chunk) (hlen : t.length ≤ 70368744177664) :
    Gv Try.prog 30 [.string (str t)].toArray L (fun r L' => ∃ v C, r = .tuple #[v, .bool (unB t)] ∧ L' = C :: L ∧ Ow 5 1 v (unL t).length (bsv (unL t)) C) := by
  refine Gv.of_body Try.func30 rfl rfl ?_
  have hno : unB t = false → Ow 5 1 (.slice none 0 0) (unL t).length (bsv (unL t)) [] := fun h => by
    unfold unL; rw [h]; exact .inl ⟨rfl, rfl, rfl, rfl⟩
  (repeat' first|refine kX ?_|refine kU fun bk=>?_|refine kV fun hc=>?_|refine kZ (fun hc=>?_) fun hc=>?_|fail)
  refine OW_EV (EV_rem rfl rfl (by decide)) rfl ?_
  rw [show (((str t).size : Nat) : Int).tmod 2 = ((t.length % 2 : Nat) : Int) from by rw [str_size, Int.tmod_eq_emod_of_nonneg (by omega)]; omega]
  (repeat' first|refine kX ?_|refine kU fun bk=>?_|refine kV fun hc=>?_|refine kZ (fun hc=>?_) fun hc=>?_|fail)
  · have hb := unB_odd (t := t) (by omega)
    refine WQ_holds (L' := [] :: L) (fun w h => Holds.nil.2 h) ?_
    refine kR ?_
    exact ⟨[] :: L, iC, .slice none 0 0, [], by rw [hb]; rfl, rfl, hno hb⟩
  · have hev : t.length % 2 = 0 := by omega
    refine OW_EV (EV_quo rfl rfl (by decide)) rfl ?_
    rw [show IntKind.i64.wrap ((((str t).size : Nat) : Int).tdiv 2) = ((t.length / 2 : Nat) : Int) from by
      rw [str_size, Int.tdiv_eq_ediv_of_nonneg (by omega), wrap_i64 (by omega) (by omega)]; omega]
    (repeat' first|refine kX ?_|refine kU fun bk=>?_|refine kV fun hc=>?_|refine kZ (fun hc=>?_) fun hc=>?_|fail)
    refine OW_makeSlice (m := 0) rfl rfl (by rfl) (by omega) (by omega) (by omega) rfl (fun bn => ?_)
    (repeat' first|refine kX ?_|refine kU fun bk=>?_|refine kV fun hc=>?_|refine kZ (fun hc=>?_) fun hc=>?_|fail)
    have ho : Ow 5 1 (.slice (some ⟨bn, 0, none⟩) 0 (t.length / 2)) 0 (bsv (outN t 0)) [(bn, cl (zeros [.int .u8 0] (t.length / 2)) 5)] :=
      .inr ⟨bn, t.length / 2, zeros [.int .u8 0] (t.length / 2), rfl, rfl, rfl, by simp [zeros_length], by omega, by simp [maxLen]; omega⟩
    refine WC_loop (X := Nat × Value × Chunk) (fun x => [(0, .string (str t)), (4, x.2.1), (5, .int .i64 ((2 * x.1 : Nat) : Int))])
      (fun x => x.2.2 :: L) (fun x => 2 * x.1 ≤ t.length ∧ (∀ i, i < x.1 → okAt t i = true) ∧ Ow 5 1 x.2.1 x.1 (bsv (outN t x.1)) x.2.2) (fun x => t.length - x.1) (0, _, _) ⟨Nat.zero_le _, fun i h => by omega, ho⟩ iS (fun w h => h) ?_
    intro x ⟨hx1, hx2, hx3⟩
    obtain ⟨k, s, C⟩ := x
    simp only at hx1 hx2 hx3 ⊢
    (repeat' first|refine kX ?_|refine kU fun bk=>?_|refine kV fun hc=>?_|refine kZ (fun hc=>?_) fun hc=>?_|fail)
    · rw [str_size] at hc
      have h0 : 2 * k + 1 < t.length := by omega
      obtain ⟨a, haq⟩ : ∃ a, a = t.getD (2 * k) 0 := ⟨_, rfl⟩
      obtain ⟨b, hbq⟩ : ∃ b, b = t.getD (2 * k + 1) 0 := ⟨_, rfl⟩
      have hal := dv_lt a
      have hbl := dv_lt b
      refine OW_EV (EV_indexStr (s := str t) (j := 2 * k) rfl rfl rfl (str_get (by omega))) rfl ?_
      rw [← haq]
      (repeat' first|refine kX ?_|refine kU fun bk=>?_|refine kV fun hc=>?_|refine kZ (fun hc=>?_) fun hc=>?_|fail)
      refine OW_callP rfl rfl rfl (half_n a _) rfl ?_
      by_cases ha : 0 ≤ dv a
      · rw [halfV_yes ha]
        (repeat' first|refine kX ?_|refine kU fun bk=>?_|refine kV fun hc=>?_|refine kZ (fun hc=>?_) fun hc=>?_|fail)
        refine OW_EV (EV_indexStr (s := str t) (j := 2 * k + 1) rfl rfl (by omega) (str_get h0)) rfl ?_
        rw [← hbq]
        (repeat' first|refine kX ?_|refine kU fun bk=>?_|refine kV fun hc=>?_|refine kZ (fun hc=>?_) fun hc=>?_|fail)
        refine OW_callP rfl rfl rfl (half_n b _) rfl ?_
        by_cases hb : 0 ≤ dv b
        · rw [halfV_yes hb]
          have hok : okAt t k = true := by unfold okAt; rw [← haq, ← hbq]; simp [ha, hb]
          have hby := byAt_val (t := t) (i := k) (by rw [← haq]; exact ha) (by rw [← hbq]; exact hb)
          rw [← haq, ← hbq] at hby
          (repeat' first|refine kX ?_|refine kU fun bk=>?_|refine kV fun hc=>?_|refine kZ (fun hc=>?_) fun hc=>?_|fail)
          refine OW_EV (EV_shl rfl rfl (by omega) rfl) rfl ?_
          (repeat' first|refine kX ?_|refine kU fun bk=>?_|refine kV fun hc=>?_|refine kZ (fun hc=>?_) fun hc=>?_|fail)
          have hh : bitI .or .u8 (IntKind.u8.wrap (dv a * 2 ^ (min ((4 : Int)).toNat IntKind.u8.bits))) (dv b) = some ((byAt t k).toNat : Int) := by
            have := halves (a := (dv a).toNat) (b := (dv b).toNat) (by omega) (by omega)
            rw [Int.toNat_of_nonneg ha, Int.toNat_of_nonneg hb] at this
            rw [this]
            congr 1
            omega
          refine OW_EV (EV_bit rfl rfl hh) rfl ?_
          (repeat' first|refine kX ?_|refine kU fun bk=>?_|refine kV fun hc=>?_|refine kZ (fun hc=>?_) fun hc=>?_|fail)
          refine OW_buildSlice (cs := bsv [byAt t k]) rfl (by rfl) (by simp [fillL, patch, Value.cells, zeros]; rfl) (by omega) rfl rfl (fun bk => ?_)
          (repeat' first|refine kX ?_|refine kU fun bk=>?_|refine kV fun hc=>?_|refine kZ (fun hc=>?_) fun hc=>?_|fail)
          refine OW_append rfl rfl hx3 (sl_cells (c := (bsv [byAt t k]).toArray) (xs := bsv [byAt t k]) (m := 1) Fnd.here rfl (by simp)) (by repeat (first | exact Zip.here _ | apply Zip.there)) (by rfl) bsv_ones (by omega) (by simp [maxLen]; omega) rfl (fun v' C' ho1 h1 h2 => ?_)
          rw [← bsv_append, ← outN_succ] at ho1
          (repeat' first|refine kX ?_|refine kU fun bk=>?_|refine kV fun hc=>?_|refine kZ (fun hc=>?_) fun hc=>?_|fail)
          refine WQ_round (X := Nat × Value × Chunk) (μ := fun x => t.length - x.1) (x := (k, s, C)) (k + 1, v', C') (by simp only; omega)
            ⟨by simp only; omega, fun i hi => ?_, ho1⟩ iS (fun w h => iH h)
          rcases Nat.lt_or_ge i k with h' | h'
          · exact hx2 i h'
          · rw [show i = k from by simp only at hi; omega]; exact hok
        · rw [halfV_no hb]
          have hbad := unB_bad (t := t) (i := k) (by omega) (by unfold okAt; rw [← haq, ← hbq, decide_eq_false hb]; simp)
          (repeat' first|refine kX ?_|refine kU fun bk=>?_|refine kV fun hc=>?_|refine kZ (fun hc=>?_) fun hc=>?_|fail)
          refine WQ_holds (L' := [] :: L) (fun w h => Holds.nil.2 h.drop) ?_
          refine kR ?_
          exact ⟨[] :: L, iC, .slice none 0 0, [], by rw [hbad]; rfl, rfl, hno hbad⟩
      · rw [halfV_no ha]
        (repeat' first|refine kX ?_|refine kU fun bk=>?_|refine kV fun hc=>?_|refine kZ (fun hc=>?_) fun hc=>?_|fail)
        refine OW_EV (EV_indexStr (s := str t) (j := 2 * k + 1) rfl rfl (by omega) (str_get h0)) rfl ?_
        rw [← hbq]
        (repeat' first|refine kX ?_|refine kU fun bk=>?_|refine kV fun hc=>?_|refine kZ (fun hc=>?_) fun hc=>?_|fail)
        refine OW_callP rfl rfl rfl (half_n b _) rfl ?_
        have hx : ∃ x y, halfV b = .tuple #[.int .u8 x, .bool y] := by
          unfold halfV; split <;> exact ⟨_, _, rfl⟩
        obtain ⟨x, y, hxy⟩ := hx
        rw [hxy]
        have hbad := unB_bad (t := t) (i := k) (by omega) (by unfold okAt; rw [← haq, ← hbq, decide_eq_false ha]; simp)
        (repeat' first|refine kX ?_|refine kU fun bk=>?_|refine kV fun hc=>?_|refine kZ (fun hc=>?_) fun hc=>?_|fail)
        refine WQ_holds (L' := [] :: L) (fun w h => Holds.nil.2 h.drop) ?_
        refine kR ?_
        exact ⟨[] :: L, iC, .slice none 0 0, [], by rw [hbad]; rfl, rfl, hno hbad⟩
    · rw [str_size] at hc
      have hk : k = t.length / 2 := by omega
      have hb : unB t = true := unB_good hev fun i hi => hx2 i (by omega)
      have hl : unL t = outN t k := by unfold unL; rw [hb, hk]; rfl
      refine kR ?_
      refine ⟨C :: L, iC, s, C, by rw [hb]; rfl, rfl, ?_⟩
      rw [hl, outN_length]
      exact hx3
end Go.Proofs.Ytmhlmlkndabgmaa
namespace Go.Proofs.Ytmhlmlkndabgmaa
open Go Go.Vx
variable [W0]
set_option maxRecDepth 4000
set_option linter.all false
set_option maxHeartbeats 1000000 in
theorem refhex_n (t : List UInt8) (v : Value) (L : List Chunk) (hlen : t.length ≤ 35184372088832) (hv : SlC L 1 v t.length (bsv t)) :
    GvP Try.prog 17 [v].toArray L (.string ⟨(hexL t).toArray⟩) := by
  refine Gv.of_body Try.func17 rfl rfl ?_
  obtain ⟨a, c, rfl, hmc⟩ := hv.room
  (repeat' first|refine kX ?_|refine kU fun bk=>?_|refine kV fun hc=>?_|refine kZ (fun hc=>?_) fun hc=>?_|fail)
  refine WC_holds' (L' := [] :: L) (fun w h => Holds.nil.2 h) ?_
  refine WC_loop (X := Nat × Value × Chunk) (fun x => [(0, .slice a t.length c), (3, x.2.1), (4, .int .i64 (x.1 : Int))])
    (fun x => x.2.2 :: L) (fun x => x.1 ≤ t.length ∧ Ow 5 1 x.2.1 (2 * x.1) (bsv (hexL (t.take x.1))) x.2.2) (fun x => t.length - x.1) (0, .slice none 0 0, []) ⟨Nat.zero_le _, .inl ⟨rfl, rfl, rfl, rfl⟩⟩ iS (fun w h => h) ?_
  intro x ⟨hx1, hx2⟩
  obtain ⟨k, s, C⟩ := x
  simp only at hx1 hx2 ⊢
  (repeat' first|refine kX ?_|refine kU fun bk=>?_|refine kV fun hc=>?_|refine kZ (fun hc=>?_) fun hc=>?_|fail)
  · have hlt : k < t.length := by omega
    obtain ⟨bb, off, cap, cc, bT, bfr, hve, hfn, hcell⟩ := sl_byte hv.sl hlt
    injection hve with e1 e2 e3
    subst e1 e3
    clear e2
    obtain ⟨x, hx⟩ : ∃ x, x = t.getD k 0 := ⟨_, rfl⟩
    rw [← hx] at hcell
    have hxl := x.toNat_lt
    refine WC_drawAll [14, 15] mixed ?_
    (refine WR_w 0 ?_; refine WR_w 1 ?_; refine WR_w 2 ?_; refine WR_w 3 ?_)
    (refine WR_take 4 rfl rfl (by kernel_rfl) iP iC (EV_load rfl hfn.there hcell) (by rfl) ?_)
    (refine WR_w 5 ?_)
    (refine WR_take 6 rfl rfl (by kernel_rfl) iP iC (EV_indexStr (s := digS) (j := x.toNat / 16) rfl rfl (by omega) (dig_get (by omega))) (by rfl) ?_)
    (refine WR_w 7 ?_; refine WR_w 8 ?_; refine WR_w 9 ?_)
    (refine WR_take 10 rfl rfl (by kernel_rfl) iP iC (EV_load rfl hfn.there hcell) (by rfl) ?_)
    (refine WR_take 11 rfl rfl (by kernel_rfl) iP iC (EV_mask rfl rfl rfl) (by rfl) ?_)
    (refine WR_take 12 rfl rfl (by kernel_rfl) iP iC (EV_indexStr (s := digS) (j := x.toNat % 16) rfl rfl rfl (dig_get (by omega))) (by rfl) ?_)
    (refine WR_one 13 (by kernel_rfl) rfl rfl ?_)
    refine OW_buildSlice (cs := bsv (hexB x)) rfl (by rfl) (by simp [fillL, patch, Value.cells, zeros]; rfl) (by omega) rfl rfl (fun bk => ?_)
    refine ⟨iC, ?_⟩
    (refine WR_last 14 (by kernel_rfl) rfl rfl rfl ?_)
    refine OW_append rfl rfl hx2 (sl_cells (c := (bsv (hexB x)).toArray) (xs := bsv (hexB x)) (m := 2) Fnd.here rfl (by simp)) (by repeat (first | exact Zip.here _ | apply Zip.there)) (by rfl) bsv_ones (by omega) (by simp [maxLen]; omega) rfl (fun v' C' ho1 h1 h2 => ?_)
    (refine WR_last 15 (by kernel_rfl) rfl rfl rfl ?_)
    refine OW_W ?_
    (refine WR_done (by kernel_rfl) ?_)
    (repeat' first|refine kX ?_|refine kU fun bk=>?_|refine kV fun hc=>?_|refine kZ (fun hc=>?_) fun hc=>?_|fail)
    have e : hexL (t.take (k + 1)) = hexL (t.take k) ++ hexB x := by
      rw [take_succ 0 hlt, hexL_append, ← hx]; simp [hexL]
    rw [← bsv_append, ← e] at ho1
    refine WQ_round (X := Nat × Value × Chunk) (μ := fun x => t.length - x.1) (x := (k, s, C)) (k + 1, v', C') (by simp only; omega) ⟨by simp only; omega, ho1⟩ iS (fun w h => iH h)
  · have hk : k = t.length := by omega
    subst hk
    rw [List.take_length] at hx2
    refine OW_EV (EV_convStr (b := hexL t) rfl (ow_sl hx2)) rfl ?_
    (repeat' first|refine kX ?_|refine kU fun bk=>?_|refine kV fun hc=>?_|refine kZ (fun hc=>?_) fun hc=>?_|fail)
    refine kR ?_
    exact ⟨L, iC, rfl, rfl⟩
theorem hexL_get : ∀ (t : List UInt8) (i : Nat), i < t.length → (hexL t).getD (2 * i) 0 = dig ((t.getD i 0).toNat / 16) ∧ (hexL t).getD (2 * i + 1) 0 = dig ((t.getD i 0).toNat % 16)
  | [], i, h => by simp at h
  | x :: t, 0, _ => ⟨rfl, rfl⟩
  | x :: t, i + 1, h => by
    have ih := hexL_get t i (by simpa using h)
    rw [show 2 * (i + 1) = 2 * i + 1 + 1 from by omega]
    exact ih
theorem unB_hex (t : List UInt8) : unB (hexL t) = true := by
  refine unB_good (by rw [hexL_length]; omega) fun i hi => ?_
  rw [hexL_length] at hi
  obtain ⟨h1, h2⟩ := hexL_get t i (by omega)
  have := (t.getD i 0).toNat_lt
  unfold okAt
  rw [h1, h2, dv_dig (by omega), dv_dig (by omega), decide_eq_true (Int.natCast_nonneg _), decide_eq_true (Int.natCast_nonneg _)]
  rfl
end Go.Proofs.Ytmhlmlkndabgmaa
namespace Go.Vx
open Go
set_option linter.all false
variable [W0]
theorem wrap_nat {k : IntKind} (hs : k.signed = false) {m : Nat} (h : m < 2 ^ k.bits) : k.wrap (m : Int) = (m : Int) := by
  unfold IntKind.wrap
  simp only [hs, Bool.false_and, Bool.false_eq_true, if_false]
  have c1 : ((2 : Int) ^ k.bits) = ((2 ^ k.bits : Nat) : Int) := by simp
  rw [c1]
  have h2 : ((m : Nat) : Int) < ((2 ^ k.bits : Nat) : Int) := by exact_mod_cast h
  exact Int.emod_eq_of_lt (Int.natCast_nonneg m) h2
theorem ofInt_toNat {b m : Nat} (h : m < 2 ^ b) : (BitVec.ofInt b (m : Int)).toNat = m := by
  rw [BitVec.toNat_ofInt]
  have h2 : ((m : Nat) : Int) < ((2 ^ b : Nat) : Int) := by exact_mod_cast h
  rw [Int.emod_eq_of_lt (Int.natCast_nonneg m) h2]
  rfl
section
variable {P : Program} {n : Nat} {Q : Exit → Act → World → Prop} {M : List (Nat × Value)} {L : List Chunk} {K : List (Nat × Value) → List Chunk → Prop}
variable {d : Nat} {ty : TypeId} {ps : String} {af : Array Edge} {g : Option (Nat × Bool)} {x y : Operand} {v : Value}
theorem EV_nshl {t u : TypeId} {k k' : IntKind} {i j : Int} (a s : Nat) (hx : ev M x = some (.int k i)) (hy : ev M y = some (.int k' j)) (hi : i = (a : Int)) (hj : j = (s : Int)) (hs : k.signed = false) (hr : a * 2 ^ s < 2 ^ k.bits) :
    EV P n ⟨some d, .binOp .shl t x y u, ty, ps, af, g⟩ M L d (.int k ((a * 2 ^ s : Nat) : Int)) := by
  subst hi hj
  refine EV_shl hx hy (by omega) ?_
  rw [Int.toNat_natCast]
  rcases Nat.lt_or_ge k.bits s with h | h
  · have h0 : a = 0 := by
      rcases Nat.eq_zero_or_pos a with h0 | h0
      · exact h0
      · exfalso
        have h1 : 2 ^ k.bits ≤ 2 ^ s := Nat.pow_le_pow_right (by decide) (Nat.le_of_lt h)
        have h2 : 1 * 2 ^ s ≤ a * 2 ^ s := Nat.mul_le_mul_right _ h0
        omega
    subst h0
    have := wrap_nat hs (m := 0) (Nat.pow_pos (by decide))
    simpa using this
  · rw [Nat.min_eq_left h]
    have c : (a : Int) * 2 ^ s = ((a * 2 ^ s : Nat) : Int) := by simp
    rw [c]
    exact wrap_nat hs hr
theorem EV_nshr {t u : TypeId} {k k' : IntKind} {i j : Int} (a s : Nat) (hx : ev M x = some (.int k i)) (hy : ev M y = some (.int k' j)) (hi : i = (a : Int)) (hj : j = (s : Int)) (hr : a < 2 ^ k.bits) :
    EV P n ⟨some d, .binOp .shr t x y u, ty, ps, af, g⟩ M L d (.int k ((a / 2 ^ s : Nat) : Int)) := by
  subst hi hj
  refine EV_shr hx hy (by omega) ?_
  rw [Int.toNat_natCast]
  have c : ∀ q : Nat, (a : Int).fdiv (2 ^ q) = ((a / 2 ^ q : Nat) : Int) := fun q => by
    have : ((2 : Int) ^ q) = ((2 ^ q : Nat) : Int) := by simp
    rw [this, Int.fdiv_eq_ediv_of_nonneg _ (Int.natCast_nonneg _), ← Int.natCast_ediv]
  rw [c]
  rcases Nat.lt_or_ge k.bits s with h | h
  · rw [Nat.min_eq_right (Nat.le_of_lt h), Nat.div_eq_of_lt hr, Nat.div_eq_of_lt (Nat.lt_of_lt_of_le hr (Nat.pow_le_pow_right (by decide) (Nat.le_of_lt h)))]
  · rw [Nat.min_eq_left h]
theorem or_add {a b s : Nat} (h : a < 2 ^ s) : a ||| b * 2 ^ s = a + b * 2 ^ s := by
  rw [Nat.mul_comm, Nat.or_comm, ← Nat.two_pow_add_eq_or_of_lt h, Nat.add_comm]
theorem EV_nor' {t u : TypeId} {k : IntKind} {i j : Int} (a b s : Nat) (hx : ev M x = some (.int k i)) (hy : ev M y = some (.int k j)) (hi : i = ((b * 2 ^ s : Nat) : Int)) (hj : j = (a : Int)) (hs : k.signed = false) (ha : a < 2 ^ s) (hr : a + b * 2 ^ s < 2 ^ k.bits) :
    EV P n ⟨some d, .binOp .or t x y u, ty, ps, af, g⟩ M L d (.int k ((a + b * 2 ^ s : Nat) : Int)) := by
  subst hi hj
  refine EV_bit (op := .or) hx hy ?_
  show some (k.wrap ((BitVec.ofInt k.bits ((b * 2 ^ s : Nat) : Int) ||| BitVec.ofInt k.bits (a : Int)).toNat : Int)) = _
  rw [BitVec.toNat_or, ofInt_toNat (by omega), ofInt_toNat (by omega), Nat.or_comm, or_add ha, wrap_nat hs hr]
theorem wrap_byte (a : Nat) : IntKind.u8.wrap (a : Int) = ((UInt8.ofNat a).toNat : Int) := by
  rw [wrap_u8, UInt8.toNat_ofNat']
  omega
theorem EV_quoN {t u : TypeId} {i j : Int} (a b : Nat) (hx : ev M x = some (.int .i64 i)) (hy : ev M y = some (.int .i64 j)) (hi : i = (a : Int)) (hj : j = (b : Int)) (hb : b ≠ 0) (ha : a ≤ 9223372036854775807) :
    EV P n ⟨some d, .binOp .quo t x y u, ty, ps, af, g⟩ M L d (.int .i64 ((a / b : Nat) : Int)) := by
  subst hi hj
  have := EV_quo (P := P) (n := n) (L := L) (d := d) (ty := ty) (ps := ps) (af := af) (g := g) (t := t) (u := u) hx hy (by omega)
  have e : IntKind.i64.wrap (((a : Nat) : Int).tdiv (b : Int)) = ((a / b : Nat) : Int) := by
    rw [Int.tdiv_eq_ediv_of_nonneg (by omega), ← Int.natCast_ediv]
    have : a / b ≤ a := Nat.div_le_self _ _
    generalize a / b = q at *
    exact wrap_i64 (by omega) (by omega)
  rwa [e] at this
theorem EV_remN {t u : TypeId} {k : IntKind} {i j : Int} (a b : Nat) (hx : ev M x = some (.int k i)) (hy : ev M y = some (.int k j)) (hi : i = (a : Int)) (hj : j = (b : Int)) (hb : b ≠ 0) :
    EV P n ⟨some d, .binOp .rem t x y u, ty, ps, af, g⟩ M L d (.int k ((a % b : Nat) : Int)) := by
  subst hi hj
  have := EV_rem (P := P) (n := n) (L := L) (d := d) (ty := ty) (ps := ps) (af := af) (g := g) (t := t) (u := u) hx hy (by omega)
  have e : ((a : Nat) : Int).tmod (b : Int) = ((a % b : Nat) : Int) := by
    rw [Int.tmod_eq_emod_of_nonneg (by omega), Int.natCast_emod]
  rwa [e] at this
end
omit [W0] in
def val : List UInt8 → Nat
  | [] => 0
  | b :: r => b.toNat + 256 * val r
end Go.Vx
namespace Go.Vx
open Go
set_option linter.all false
variable [W0]
theorem sl_at {L : List Chunk} {v : Value} {m : Nat} {xs : List Value} (h : Sl L 1 v m xs) {k : Nat} {u : Value} (hk : xs[k]? = some u) :
    ∃ b off cap c T fr, v = .slice (some ⟨b, off, none⟩) m cap ∧ Fnd L b (.cells c T fr) ∧ c[off + k * 1]? = some u := by
  rcases h with ⟨c, rfl, rfl, rfl⟩ | ⟨a, cap, rfl, hr, hl⟩
  · simp at hk
  · rcases hr with h0 | ⟨b, off, c, T, fr, rfl, h1, h2⟩
    · subst h0; simp at hk
    · exact ⟨b, off, cap, c, T, fr, rfl, h1, by rw [Nat.mul_one]; exact h2 _ _ hk⟩
theorem WR_takeOffu {P : Program} {n : Nat} {Q : Exit → Act → World → Prop} {M : List (Nat × Value)} {L S : List Chunk} {ops : List Oper} {T : List Nat} {fuel : Nat} {listed : Array Bool} (i : Nat) {d j : Nat} {b : Bool} {o : Oper} (hi : ops[i]? = some o) (hg : o.guard = some (j, b)) (hy : yl ops M j = some undef) (hd : o.dst = some d) (hb : takeB ops T listed i = true) (hPO : PO Q) (hinc : Inc S L) (hn : Nat.blt d n = true)
    (h : WR P n ops Q S T fuel (listed.setIfInBounds i true) ((d, undef) :: M) L) : WR P n ops Q S T (fuel + 1) listed M L :=
  WR_first hi hd hb hPO hinc hn (fun a ha => .inr ⟨by simp [Region.wanted, hg, yielded_of ha hy, undef], rfl⟩) h
theorem WR_x {P : Program} {n : Nat} {Q : Exit → Act → World → Prop} {M : List (Nat × Value)} {L S : List Chunk} {ops : List Oper} {T : List Nat} {fuel : Nat} {listed : Array Bool} (i : Nat) {d j : Nat} {b : Bool} {o : Oper} (h : WR P n ops Q S T fuel (listed.setIfInBounds i true) ((d, undef) :: M) L)
    (hi : ops[i]? = some o := by exact rfl) (hg : o.guard = some (j, b) := by exact rfl) (hy : yl ops M j = some undef := by exact rfl) (hd : o.dst = some d := by exact rfl) (hb : takeB ops T listed i = true := by kernel_rfl) (hPO : PO Q := by exact iP) (hinc : Inc S L := by exact iC) (hn : Nat.blt d n = true := by exact rfl) :
    WR P n ops Q S T (fuel + 1) listed M L := WR_takeOffu i hi hg hy hd hb hPO hinc hn h
end Go.Vx
namespace Go.Vx
open Go Go.WideMaps
variable [W0]
set_option linter.all false
omit [W0] in
/-- Three bytes as a key. -/
def kv3 (l : List UInt8) : Value := .agg (bsv l).toArray
omit [W0] in
class KA (P : Program) (k : Nat) (e : outParam Nat) : Prop where
  arr : ArrKey P k e 3
  byte : P.underlying e = some (.int .u8)
  pos : ∃ m, P.types.size = m + 1
omit [W0] in
theorem bsv_inj : ∀ {a b : List UInt8}, bsv a = bsv b → a = b
  | [], [], _ => rfl
  | [], _ :: _, h => by simp [bsv] at h
  | _ :: _, [], h => by simp [bsv] at h
  | x :: a, y :: b, h => by
    simp only [bsv, List.map_cons, List.cons.injEq, Value.int.injEq, true_and] at h
    have h1 : x.toNat = y.toNat := by omega
    rw [UInt8.toNat_inj.1 h1, bsv_inj h.2]
omit [W0] in
theorem kv3_inj {a b : List UInt8} (h : kv3 a = kv3 b) : a = b := by
  unfold kv3 at h
  simp only [Value.agg.injEq] at h
  exact bsv_inj (by simpa using congrArg Array.toList h)
omit [W0] in
theorem byte_wf (x : UInt8) : (Lit.int .u8 (x.toNat : Int)).wf = true := by
  have := x.toNat_lt
  simp [Lit.wf, IntKind.wrap, IntKind.bits, IntKind.signed, IntKind.min, IntKind.max]
  omega
omit [W0] in
theorem KA.key {P : Program} {k e : Nat} (h : KA P k e) {l : List UInt8} (hl : l.length = 3) : ∃ q, keyOf P k (kv3 l) = some q := by
  match l, hl with
  | [a, b, c], _ =>
    obtain ⟨m, hm⟩ := h.pos
    have hk := h.arr.keyType ⟨m, hm⟩
    have h1 : ∀ (x : UInt8) (D : Nat), P.keyLits (D + 1) e [.int .u8 (x.toNat : Int)] = some [.int .u8 (x.toNat : Int)] := fun x D => by
      unfold Program.keyLits
      rw [h.byte]
      simp only [byte_wf, and_self, if_true]
    have h2 : P.keyLits (P.types.size + 1) k [.int .u8 (a.toNat : Int), .int .u8 (b.toNat : Int), .int .u8 (c.toNat : Int)] = some [.int .u8 (a.toNat : Int), .int .u8 (b.toNat : Int), .int .u8 (c.toNat : Int)] := by
      rw [hm]
      unfold Program.keyLits
      rw [h.arr.hu]
      simp only [h.arr.size, h.arr.one]
      rw [if_pos (by rfl)]
      simp only [List.range_succ, List.range_zero, List.nil_append, List.cons_append, List.mapM_cons, List.mapM_nil, List.drop, List.take, Nat.zero_mul, Nat.one_mul, Nat.mul_one, h1]
      rfl
    unfold keyOf
    rw [h.arr.hu]
    have hf : (kv3 [a, b, c]).formed P k = true := by
      unfold kv3 Value.formed
      simp only [h.arr.hu, h.arr.size]
      rfl
    have hc : (kv3 [a, b, c]).cells.toList = [.int .u8 (a.toNat : Int), .int .u8 (b.toNat : Int), .int .u8 (c.toNat : Int)] := by simp [kv3, bsv, Value.cells]
    simp only [hk, hf, hc, h2, Bool.and_self, if_true, Option.map_some]
    exact ⟨_, rfl⟩
omit [W0] in
/-- What a map's block holds. -/
structure MpR (es : Array MapEntry) (g : List UInt8 → Option Nat) : Prop where
  ent : ∀ e ∈ es.toList, ∃ l m, l.length = 3 ∧ e.key = kv3 l ∧ e.val = .int .i64 ((m : Nat) : Int) ∧ g l = some m
  has : ∀ l m, l.length = 3 → g l = some m → ∃ e ∈ es.toList, e.key = kv3 l
  one : ∀ (i j : Nat) (e f : MapEntry), es[i]? = some e → es[j]? = some f → e.key = f.key → i = j
omit [W0] in
theorem MpR.nil : MpR #[] (fun _ => none) := ⟨fun e h => by simp at h, fun l m _ h => by simp at h, fun i j e f h => by simp at h⟩
omit [W0] in
def ups (g : List UInt8 → Option Nat) (l : List UInt8) (m : Nat) : List UInt8 → Option Nat := fun q => if q = l then some m else g q
omit [W0] in
theorem MpR.find {P : Program} {k e : Nat} (hk : KA P k e) {es : Array MapEntry} {g : List UInt8 → Option Nat} (h : MpR es g) {l : List UInt8} (hl : l.length = 3) (w : World) :
    (g l = none ∧ (Instr.findKey k (kv3 l) es.toList).run P w = .ok none w ∧ ∀ x ∈ es.toList, x.key ≠ kv3 l) ∨
    ∃ m j x, g l = some m ∧ (Instr.findKey k (kv3 l) es.toList).run P w = .ok (some (j, .int .i64 ((m : Nat) : Int))) w ∧ es[j]? = some x ∧ x.key = kv3 l := by
  obtain ⟨q, hq⟩ := hk.key hl
  have hall : ∀ x ∈ es.toList, ∃ y, keyOf P k x.key = some y := fun x hx => by
    obtain ⟨l', m', h1, h2, _⟩ := h.ent x hx
    rw [h2]
    exact hk.key h1
  rcases hk.arr.law.find w hq es.toList hall with ⟨h1, h2⟩ | ⟨j, x, h1, h2, h3⟩
  · left
    refine ⟨?_, h1, h2⟩
    cases hg : g l with
    | none => rfl
    | some m =>
      obtain ⟨x, hx, hxk⟩ := h.has l m hl hg
      exact absurd hxk (h2 x hx)
  · right
    have hx : x ∈ es.toList := List.mem_of_getElem? h2
    obtain ⟨l', m, g1, g2, g3, g4⟩ := h.ent x hx
    rw [h3] at g2
    have e := kv3_inj g2
    subst e
    exact ⟨m, j, x, g4, by rw [h1, g3], by simpa using h2, h3⟩
section
variable {P : Program} {n : Nat} {Q : Exit → Act → World → Prop} {M : List (Nat × Value)} {L : List Chunk} {K : List (Nat × Value) → List Chunk → Prop}
variable {d : Nat} {ty : TypeId} {ps : String} {af : Array Edge} {g : Option (Nat × Bool)} {x y z : Operand} {v : Value}
omit [W0] in
theorem MpR.push {es : Array MapEntry} {f : List UInt8 → Option Nat} (h : MpR es f) {l : List UInt8} (hl : l.length = 3) (m c : Nat) (hno : ∀ x ∈ es.toList, x.key ≠ kv3 l) :
    MpR (es.push { key := kv3 l, val := .int .i64 ((m : Nat) : Int), born := c }) (ups f l m) := by
  refine ⟨fun e he => ?_, fun q r hq hr => ?_, fun i j e e' hi hj hk => ?_⟩
  · simp only [Array.toList_push, List.mem_append, List.mem_singleton] at he
    rcases he with he | rfl
    · obtain ⟨l', m', h1, h2, h3, h4⟩ := h.ent e he
      refine ⟨l', m', h1, h2, h3, ?_⟩
      unfold ups
      rw [if_neg (fun hh => hno e he (by rw [h2, hh]))]
      exact h4
    · exact ⟨l, m, hl, rfl, rfl, by unfold ups; rw [if_pos rfl]⟩
  · unfold ups at hr
    split at hr
    · rename_i hh
      exact ⟨_, by simp only [Array.toList_push, List.mem_append, List.mem_singleton]; exact .inr rfl, by rw [hh]⟩
    · obtain ⟨e, he, hk⟩ := h.has q r hq hr
      exact ⟨e, by simp only [Array.toList_push, List.mem_append]; exact .inl he, hk⟩
  · rw [Array.getElem?_push] at hi hj
    have hnew : ∀ (i : Nat) (e : MapEntry), es[i]? = some e → e.key ≠ kv3 l := fun i e hi => hno e (List.mem_of_getElem? (by simpa using hi))
    split at hi <;> split at hj
    · omega
    · cases hi
      exact absurd hk.symm (hnew j e' hj)
    · cases hj
      exact absurd hk (hnew i e hi)
    · exact h.one i j e e' hi hj hk
omit [W0] in
/-- A slice that can be read, with its room. -/
structure Rs (L : List Chunk) (k : Nat) (v : Value) (m : Nat) (xs : List Value) : Prop where
  sl : Sl L k v m xs
  room : ∃ a c, v = .slice a m c ∧ m ≤ c
theorem Rs.sub {L L' : List Chunk} (hs : ∀ x ∈ L.flatten, x ∈ L'.flatten) {k m : Nat} {v : Value} {xs : List Value} (h : Rs L k v m xs) : Rs L' k v m xs := ⟨sl_sub hs h.sl, h.room⟩
theorem Rs.there {L : List Chunk} {C : Chunk} {k m : Nat} {v : Value} {xs : List Value} (h : Rs L k v m xs) : Rs (C :: L) k v m xs := ⟨sl_there h.sl, h.room⟩
theorem Rs.ow {e k m : Nat} {v : Value} {xs : List Value} {C : Chunk} {L : List Chunk} (h : Ow e k v m xs C) : Rs (C :: L) k v m xs := by
  refine ⟨ow_sl h, ?_⟩
  rcases h with ⟨rfl, rfl, _⟩ | ⟨b, cap, rest, rfl, _, _, _, hmc, _⟩
  · exact ⟨_, _, rfl, Nat.le_refl _⟩
  · exact ⟨_, _, rfl, hmc⟩
theorem Rs.one {L : List Chunk} {k m : Nat} {v : Value} {xs : List Value} (h : Rs L k v m xs) : v.oneCell' = true := by obtain ⟨a, c, rfl, _⟩ := h.room; rfl
theorem Rs.nil {L : List Chunk} {k : Nat} : Rs L k (.slice none 0 0) 0 [] := ⟨.inl ⟨0, rfl, rfl, rfl⟩, none, 0, rfl, Nat.le_refl _⟩
theorem Rs.len {L : List Chunk} {k m : Nat} {v : Value} {xs : List Value} (h : Rs L k v m xs) : xs.length = m * k := by
  rcases h.sl with ⟨c, rfl, rfl, rfl⟩ | ⟨a, cap, rfl, _, hl⟩
  · simp
  · exact hl
theorem EV_sliceRs {P : Program} {T e k by_ : Nat} [hs : SL P T e k by_] {v : Value} {m : Nat} {xs : List Value} {L0 : List Chunk} (hO : Rs L0 k v m xs) {l h : Nat} (h1 : l ≤ h) (h2 : h ≤ m) :
    ∃ r, Rs L0 k r (h - l) ((xs.drop (l * k)).take ((h - l) * k)) ∧ ∀ {n : Nat} {M : List (Nat × Value)} {L : List Chunk} {d : Nat} {ty : TypeId} {ps : String} {af : Array Edge} {g : Option (Nat × Bool)} {x : Operand} {lo hi : Option Operand},
      ev M x = some v → bnd M lo 0 = some (l : Int) → bnd M hi m = some (h : Int) → EV P n ⟨some d, .slice T x lo hi none, ty, ps, af, g⟩ M L d r := by
  obtain ⟨a, c, rfl, hmc⟩ := hO.room
  have hlen := hO.len
  refine ⟨.slice (if c = l then a else a.map (·.add (l * k))) (h - l) (c - l), ⟨?_, _, _, rfl, by omega⟩, ?_⟩
  · rcases hO.sl with ⟨c', hv, rfl, rfl⟩ | ⟨a', cap, hv, hr, hl⟩
    · cases hv
      refine .inl ⟨c - l, ?_, by omega, by simp⟩
      rw [show h - l = 0 from by omega]
      split <;> rfl
    · cases hv
      refine .inr ⟨if c = l then a' else a'.add (l * k), c - l, by split <;> rfl, ?_, ?_⟩
      · rcases hr with h0 | ⟨b, off, cc, TT, fr, rfl, hf, hc⟩
        · subst h0
          exact .inl (by simp)
        · by_cases hcl : c = l
          · rw [if_pos hcl]
            refine .inl ?_
            rw [show h - l = 0 from by omega, Nat.zero_mul, List.take_zero]
          · rw [if_neg hcl, addr_add]
            refine .inr ⟨b, off + l * k, cc, TT, fr, rfl, hf, fun j u hj => ?_⟩
            rw [List.getElem?_take] at hj
            split at hj
            · rw [List.getElem?_drop] at hj
              rw [Nat.add_assoc]
              exact hc _ _ hj
            · cases hj
      · rw [List.length_take, List.length_drop, hlen]
        have : (h - l) * k ≤ m * k - l * k := by rw [← Nat.sub_mul]; exact Nat.mul_le_mul_right k (by omega)
        omega
  · intro n M L d ty ps af g x lo hi hx hl hh
    exact ⟨rfl, fun a' w ha _ => by
      obtain ⟨hu, i', hi', hk', _, hk0⟩ := hs.parts
      simp [execOp, ha.eval hx, Instr.sliceAt, Instr.slice, underlying, hu, sliceBounds_run ha hl hh h1 (show h ≤ c by omega), sizeOf, typeInfo, hi', hk']⟩
end
end Go.Vx
namespace Go.Vx
theorem Inc.mem [W0] {S L : List Chunk} (h : Inc S L) : ∀ x ∈ S.flatten, x ∈ L.flatten := by
  obtain ⟨R, hp⟩ := h
  intro x hx
  exact hp.flatten.mem_iff.2 (by rw [List.flatten_append]; exact List.mem_append_left _ hx)
theorem iM [W0] {S L : List Chunk} (h : Inc S L := by exact (by repeat (first | exact Inc.refl | exact Inc.nil | (show Inc (_ :: _) _; refine Inc.cons (by repeat (first | exact Take.here | apply Take.there)) ?_) | refine Inc.skip ?_))) : ∀ x ∈ S.flatten, x ∈ L.flatten := h.mem
end Go.Vx
namespace Go.Pk
set_option linter.all false
structure Thg where
  kind : Int
  body : List UInt8
  id : List UInt8
  at_ : Int
  crc : BitVec 32
def Thg.key (o : Thg) : Int × List UInt8 × List UInt8 := (o.kind, o.id, o.body)
end Go.Pk
namespace Go.Proofs.Ytmhlmlkndabgmaa
open Go Go.Vx Go.Pk
set_option linter.all false
set_option maxRecDepth 4000
section
variable [W0]
theorem flat_at {α : Type} (f : α → List Value) (k : Nat) (hk : ∀ x, (f x).length = k) : ∀ (l : List α) (i : Nat) (x : α), l[i]? = some x → ∀ j u, (f x)[j]? = some u → (l.flatMap f)[i * k + j]? = some u
  | [], i, x, h, j, u, hu => by simp at h
  | y :: l, 0, x, h, j, u, hu => by
    simp only [List.getElem?_cons_zero, Option.some.injEq] at h
    subst h
    have : j < (f y).length := (List.getElem?_eq_some_iff.1 hu).1
    rw [Nat.zero_mul, Nat.zero_add, List.flatMap_cons, List.getElem?_append_left this]
    exact hu
  | y :: l, i + 1, x, h, j, u, hu => by
    simp only [List.getElem?_cons_succ] at h
    have := flat_at f k hk l i x h j u hu
    rw [List.flatMap_cons, List.getElem?_append_right (by rw [hk]; rw [Nat.add_mul]; omega), hk]
    rw [show (i + 1) * k + j - k = i * k + j by rw [Nat.add_mul]; omega]
    exact this
theorem flat_len {α : Type} (f : α → List Value) (k : Nat) (hk : ∀ x, (f x).length = k) (l : List α) : (l.flatMap f).length = l.length * k := by
  induction l with
  | nil => simp
  | cons x l ih => rw [List.flatMap_cons, List.length_append, ih, hk, List.length_cons, Nat.add_mul]; omega
theorem sl_row {α : Type} {f : α → List Value} {k : Nat} (hk : ∀ x, (f x).length = k) {L : List Chunk} {v : Value} {l : List α} (h : Sl L k v l.length (l.flatMap f)) {i : Nat} {x : α} (hx : l[i]? = some x) (hp : 0 < k) :
    ∃ b off cap c T fr, v = .slice (some ⟨b, off, none⟩) l.length cap ∧ Fnd L b (.cells c T fr) ∧ ∀ j u, (f x)[j]? = some u → c[off + i * k + j]? = some u := by
  have hi : i < l.length := (List.getElem?_eq_some_iff.1 hx).1
  have h1 := flat_at f k hk l i x hx
  rcases h with ⟨c, rfl, h0, _⟩ | ⟨a, cap, rfl, hr, hl⟩
  · omega
  · rcases hr with hr | ⟨b, off, c, T, fr, rfl, hf, hc⟩
    · obtain ⟨u, hu⟩ : ∃ u, (f x)[0]? = some u := ⟨(f x)[0]'(by rw [hk]; exact hp), by simp⟩
      have := h1 0 u hu
      rw [hr] at this; simp at this
    · exact ⟨b, off, cap, c, T, fr, rfl, hf, fun j u hu => by rw [Nat.add_assoc]; exact hc _ _ (h1 j u hu)⟩
def obr (x : Thg × Value) : List Value := [.int .i64 x.1.kind, x.2, .string (str x.1.id), .int .i64 x.1.at_, w32 x.1.crc]
end
abbrev Obv := {x : Thg × Value // ∃ p n c, x.2 = .slice p n c}
theorem Obv.one (x : Obv) : x.1.2.oneCell' = true := by obtain ⟨p, n, c, h⟩ := x.2; rw [h]; rfl
instance : Inhabited Obv := ⟨⟨(⟨0, [], [], 0, 0⟩, .slice none 0 0), none, 0, 0, rfl⟩⟩
def enO (x : Obv) : List Value := obr x.1
theorem enO_len (x : Obv) : (enO x).length = 5 := rfl
theorem enO_one (x : Obv) : ∀ v ∈ enO x, v.oneCell' = true := by
  intro v hv
  obtain ⟨⟨t, b⟩, p, n, c, hx⟩ := x
  simp only at hx
  subst hx
  simp only [enO, obr, List.mem_cons, List.not_mem_nil, or_false] at hv
  rcases hv with rfl | rfl | rfl | rfl | rfl
  · rfl
  · rfl
  · rfl
  · rfl
  · rfl
section
variable [W0]
theorem RdAt.up {C : Chunk} {L : List Chunk} {a : Addr} {xs : List Value} (h : RdAt L a xs) : RdAt (C :: L) a xs := by
  rcases h with rfl | ⟨b, off, c, T, fr, rfl, hf, hc⟩
  · exact .inl rfl
  · exact .inr ⟨b, off, c, T, fr, rfl, hf.there, hc⟩
theorem row_at {α : Type} {f : α → List Value} {k : Nat} (hk : ∀ x, (f x).length = k) {L : List Chunk} {v : Value} {l : List α} (h : Sl L k v l.length (l.flatMap f)) {i : Nat} {x : α} (hx : l[i]? = some x) (hp : 0 < k) :
    ∃ b off cap, v = .slice (some ⟨b, off, none⟩) l.length cap ∧ RdAt L ⟨b, off + i * k, none⟩ (f x) := by
  obtain ⟨b, off, cap, c, T, fr, hv, hf, hc⟩ := sl_row hk h hx hp
  exact ⟨b, off, cap, hv, .inr ⟨b, _, c, T, fr, rfl, hf, fun j u hj => hc j u hj⟩⟩
theorem RdAt.cellAt {L : List Chunk} {b off : Nat} {xs : List Value} (h : RdAt L ⟨b, off, none⟩ xs) {j : Nat} {u : Value} (hj : xs[j]? = some u) : ∃ c T fr, Fnd L b (.cells c T fr) ∧ c[off + j]? = some u := by
  rcases h with rfl | ⟨b', off', c, T, fr, e, hf, hc⟩
  · simp at hj
  · injection e with e1 e2
    subst e1 e2
    exact ⟨c, T, fr, hf, hc j u hj⟩
theorem enO_lit (x : Obv) : ∃ bp bn bc, x.1.2 = .slice bp bn bc ∧ enO x = [.int .i64 x.1.1.kind, .slice bp bn bc, .string (str x.1.1.id), .int .i64 x.1.1.at_, w32 x.1.1.crc] := by
  obtain ⟨bp, bn, bc, hbs⟩ := x.2
  exact ⟨bp, bn, bc, hbs, by unfold enO obr; rw [hbs]⟩
theorem ones_of {vs : List Value} (h : ∀ v ∈ vs, v.oneCell' = true) : ones vs = true := List.all_eq_true.2 h
end
end Go.Proofs.Ytmhlmlkndabgmaa
namespace Go.Proofs.Ytmhlmlkndabgmaa
open Go
set_option linter.all false
theorem bl_irr : ∀ a : List UInt8, Op.bytesLess a a = false
  | [] => by simp [Op.bytesLess]
  | x :: t => by
    have := bl_irr t
    simp [Op.bytesLess, this, UInt8.lt_irrefl]
theorem bl_cons (x y : UInt8) (a b : List UInt8) : Op.bytesLess (x :: a) (y :: b) = true ↔ x < y ∨ (x = y ∧ Op.bytesLess a b = true) := by
  have : Op.bytesLess (x :: a) (y :: b) = (decide (x < y) || (x == y && Op.bytesLess a b)) := by simp only [Op.bytesLess]
  rw [this]
  simp
theorem bl_trans : ∀ a b c : List UInt8, Op.bytesLess a b = true → Op.bytesLess b c = true → Op.bytesLess a c = true
  | [], b, [], _, h => by cases b <;> simp [Op.bytesLess] at h
  | [], b, z :: c, _, _ => by simp [Op.bytesLess]
  | x :: a, [], c, h, _ => by simp [Op.bytesLess] at h
  | x :: a, y :: b, [], _, h => by simp [Op.bytesLess] at h
  | x :: a, y :: b, z :: c, h1, h2 => by
    rw [bl_cons] at h1 h2 ⊢
    rcases h1 with h1 | ⟨rfl, h1⟩
    · rcases h2 with h2 | ⟨rfl, h2⟩
      · exact .inl (UInt8.lt_trans h1 h2)
      · exact .inl h1
    · rcases h2 with h2 | ⟨rfl, h2⟩
      · exact .inl h2
      · exact .inr ⟨rfl, bl_trans a b c h1 h2⟩
theorem bl_nil_cons (x : UInt8) (a : List UInt8) : Op.bytesLess [] (x :: a) = true := by simp [Op.bytesLess]
theorem bl_tot : ∀ a b : List UInt8, a ≠ b → Op.bytesLess a b = true ∨ Op.bytesLess b a = true
  | [], [], h => absurd rfl h
  | [], y :: b, _ => .inl (bl_nil_cons y b)
  | x :: a, [], _ => .inr (bl_nil_cons x a)
  | x :: a, y :: b, h => by
    rw [bl_cons, bl_cons]
    by_cases h1 : x < y
    · exact .inl (.inl h1)
    · by_cases h2 : y < x
      · exact .inr (.inl h2)
      · have e : x = y := by
          apply UInt8.toNat_inj.1
          have q1 : ¬ x.toNat < y.toNat := fun h => h1 (UInt8.lt_iff_toNat_lt.2 h)
          have q2 : ¬ y.toNat < x.toNat := fun h => h2 (UInt8.lt_iff_toNat_lt.2 h)
          omega
        subst e
        rcases bl_tot a b (fun e => h (by rw [e])) with h3 | h3
        · exact .inl (.inr ⟨rfl, h3⟩)
        · exact .inr (.inr ⟨rfl, h3⟩)
end Go.Proofs.Ytmhlmlkndabgmaa
namespace Go.Ob
open Go Go.Lib Go.Vx
set_option linter.all false
set_option maxRecDepth 4000
def sCommit : List UInt8 := [99, 111, 109, 109, 105, 116]
def sTree : List UInt8 := [116, 114, 101, 101]
def sBlob : List UInt8 := [98, 108, 111, 98]
def sTag : List UInt8 := [116, 97, 103]
open Go.Proofs.Ytmhlmlkndabgmaa
def nmL : Nat → List UInt8
  | 1 => sCommit
  | 2 => sTree
  | 3 => sBlob
  | 4 => sTag
  | _ => []
def nmI (k : Int) : List UInt8 := if 1 ≤ k ∧ k ≤ 4 then nmL k.toNat else []
def dgF : Nat → Nat → List UInt8
  | 0, _ => []
  | f + 1, n => if n < 10 then [UInt8.ofNat (48 + n)] else dgF f (n / 10) ++ [UInt8.ofNat (48 + n % 10)]
def dgL (n : Nat) : List UInt8 := dgF 20 n
def hdL (k size : Int) : List UInt8 := nmI k ++ [32] ++ dgL (max size 0).toNat ++ [0]
def idL (k : Int) (body : List UInt8) : List UInt8 := hexL (shaN (hdL k (body.length : Int) ++ body))
def hshB (s : List UInt8) : Bool := decide (s.length = 40) && unB s
def zrL : List UInt8 := List.replicate 40 48
structure Co where
  t : List UInt8
  ps : List (List UInt8)
  a : List UInt8
  c : List UInt8
  m : List UInt8
end Go.Ob
namespace Go.Vx
open Go Go.Lib Go.RowKit
set_option linter.all false
variable [W0]
omit [W0] in
/-- A slice of bytes of the call's own: none, or a row that may bear a mark. -/
def OwG (e : Nat) (v : Value) (m : Nat) (xs : List Value) (C : Chunk) : Prop := (v = .slice none 0 0 ∧ m = 0 ∧ xs = [] ∧ C = []) ∨ OwF e 1 v m xs C
theorem OwG.nil {e : Nat} : OwG e (.slice none 0 0) 0 [] [] := .inl ⟨rfl, rfl, rfl, rfl⟩
theorem OwG.f {e m : Nat} {v : Value} {xs : List Value} {C : Chunk} (h : OwF e 1 v m xs C) : OwG e v m xs C := .inr h
theorem OwG.ow {e m : Nat} {v : Value} {xs : List Value} {C : Chunk} (h : Ow e 1 v m xs C) : OwG e v m xs C := by
  rcases h with h | ⟨b, cap, rest, rfl, rfl, h1, h2, h3, h4⟩
  · exact .inl h
  · exact .inr ⟨b, cap, rest, (0, 0), rfl, rfl, h1, h2, h3, h4, FrOk.zero _⟩
theorem OwG.sl {e m : Nat} {v : Value} {xs : List Value} {C : Chunk} {L : List Chunk} (h : OwG e v m xs C) : Sl (C :: L) 1 v m xs := by
  rcases h with ⟨rfl, rfl, rfl, rfl⟩ | h
  · exact .inl ⟨0, rfl, rfl, rfl⟩
  · exact owf_sl h
theorem OwG.room {e m : Nat} {v : Value} {xs : List Value} {C : Chunk} (h : OwG e v m xs C) : ∃ a c, v = .slice a m c ∧ m ≤ c := by
  rcases h with ⟨rfl, rfl, rfl, rfl⟩ | ⟨b, cap, rest, fr, rfl, rfl, h1, h2, h3, h4, _⟩
  · exact ⟨_, _, rfl, Nat.le_refl _⟩
  · exact ⟨_, _, rfl, h3⟩
theorem OwG.len {e m : Nat} {v : Value} {xs : List Value} {C : Chunk} (h : OwG e v m xs C) : xs.length = m := by
  rcases h with ⟨rfl, rfl, rfl, rfl⟩ | ⟨b, cap, rest, fr, rfl, rfl, h1, h2, h3, h4, _⟩
  · rfl
  · simpa using h1
end Go.Vx
namespace Go.Ob
open Go Go.Vx Go.Proofs.Ytmhlmlkndabgmaa Go.Lib
set_option linter.all false
variable [W0]
theorem str_app (a b : List UInt8) : str a ++ str b = str (a ++ b) := by
  apply ByteArray.ext
  simp [str]
theorem str_inj {a b : List UInt8} : str a = str b ↔ a = b := by
  constructor
  · intro h
    have := congrArg (fun s => s.data.toList) h
    simpa [str] using this
  · rintro rfl; rfl
section
variable {P : Program} {n : Nat} {M : List (Nat × Value)} {L : List Chunk} {K : List (Nat × Value) → List Chunk → Prop}
variable {d : Nat} {ty : TypeId} {ps : String} {af : Array Edge} {g : Option (Nat × Bool)} {x y : Operand} {v : Value}
theorem EV_catL (a b : List UInt8) {t u : TypeId} (hx : ev M x = some (.string (str a))) (hy : ev M y = some (.string (str b))) (hs : a.length + b.length ≤ 9223372036854775807) :
    EV P n ⟨some d, .binOp .add t x y u, ty, ps, af, g⟩ M L d (.string (str (a ++ b))) := by
  have := EV_strCat (P := P) (n := n) (M := M) (L := L) (d := d) (ty := ty) (ps := ps) (af := af) (g := g) (t := t) (u := u) hx hy (by simpa [str_size] using hs)
  rw [str_app] at this
  exact this
end
omit [W0] in
theorem nmI_no {k : Int} (h : ¬ (1 ≤ k ∧ k ≤ 4)) : nmI k = [] := if_neg h
omit [W0] in
theorem nmI_len (k : Int) : (nmI k).length ≤ 6 := by
  unfold nmI
  split
  · rename_i h
    obtain ⟨n, rfl⟩ : ∃ n : Nat, k = n := ⟨k.toNat, by omega⟩
    match n, h with
    | 1, _ => decide
    | 2, _ => decide
    | 3, _ => decide
    | 4, _ => decide
    | 0, h => exact absurd h.1 (by decide)
    | n + 5, h => omega
  · exact Nat.zero_le _
end Go.Ob
namespace Go.Proofs.Ytmhlmlkndabgmaa
open Go Go.Vx Go.Ob
set_option linter.all false
variable [W0]
set_option maxRecDepth 4000
theorem refname_n (k : Int) (L : List Chunk) : GvP Try.prog 49 [.int .i64 k].toArray L (.string (str (nmI k))) := by
  refine Gv.of_body Try.func49 rfl rfl ?_
  (repeat' first|refine kW ?_|refine kU fun bk=>?_|refine kV fun hc=>?_|refine kZ (fun hc=>?_) fun hc=>?_|fail)
  refine OW_buildSlice (cs := [.string (str (nmL 0)), .string (str (nmL 1)), .string (str (nmL 2)), .string (str (nmL 3)), .string (str (nmL 4))]) rfl (by rfl) (by simp [fillL, patch, Value.cells, zeros]; exact ⟨rfl, rfl, rfl, rfl, rfl⟩) (by omega) rfl rfl (fun bn => ?_)
  (repeat' first|refine kW ?_|refine kU fun bk=>?_|refine kV fun hc=>?_|refine kZ (fun hc=>?_) fun hc=>?_|fail)
  · refine kR ?_
    exact ⟨_, iC, by rw [nmI_no (by omega)]; rfl, rfl⟩
  · refine kR ?_
    exact ⟨_, iC, by rw [nmI_no (by omega)]; rfl, rfl⟩
  · obtain ⟨j, rfl⟩ : ∃ j : Nat, k = j := ⟨k.toNat, by omega⟩
    have hj : j < 5 := by omega
    refine OW_EV (EV_indexAddr0 (j := j) rfl rfl rfl hj) rfl ?_
    (repeat' first|refine kW ?_|refine kU fun bk=>?_|refine kV fun hc=>?_|refine kZ (fun hc=>?_) fun hc=>?_|fail)
    refine OW_EV (v := .string (str (nmI (j : Int)))) (EV_loadc rfl Fnd.here (by
      match j, hj with
      | 0, _ => rfl
      | 1, _ => rfl
      | 2, _ => rfl
      | 3, _ => rfl
      | 4, _ => rfl)) rfl ?_
    (repeat' first|refine kW ?_|refine kU fun bk=>?_|refine kV fun hc=>?_|refine kZ (fun hc=>?_) fun hc=>?_|fail)
    exact kE
end Go.Proofs.Ytmhlmlkndabgmaa
namespace Go.Proofs.Ytmhlmlkndabgmaa
open Go Go.Vx Go.Pk
set_option linter.all false
set_option maxRecDepth 4000
def SrtI (O : List Obv) : Prop := O.Pairwise (fun x y => Op.bytesLess y.1.1.id x.1.1.id = false)
theorem bl_ntrans {x y z : List UInt8} (h1 : Op.bytesLess x y = false) (h2 : Op.bytesLess y z = false) : Op.bytesLess x z = false := by
  by_cases e : x = y
  · rw [e]; exact h2
  · rcases bl_tot x y e with h | h
    · rw [h] at h1; cases h1
    · cases q : Op.bytesLess x z with
      | false => rfl
      | true => rw [bl_trans _ _ _ h q] at h2; cases h2
end Go.Proofs.Ytmhlmlkndabgmaa
namespace Go.Pm
set_option linter.all false
structure It where
  w : Nat
  c : Option Nat
  f : Nat → Nat
def isC (x : It) : Bool := x.c.isSome
def coin (wt : Nat → Nat) (i : Nat) : It := ⟨wt i, some i, fun j => if j = i then 1 else 0⟩
def pack (a b : It) : It := ⟨a.w + b.w, none, fun i => a.f i + b.f i⟩
def pairs : List It → List It
  | a :: b :: r => pack a b :: pairs r
  | _ => []
structure Mg (cs ps A : List It) : Prop where
  up : A.Pairwise fun a b => a.w ≤ b.w
  cs : A.filter isC = cs
  ps : A.filter (fun x => !isC x) = ps
theorem pairs_length : ∀ l : List It, (pairs l).length = l.length / 2
  | [] => rfl
  | [_] => by simp [pairs]
  | a :: b :: r => by
    have := pairs_length r
    simp only [pairs, List.length_cons, this]
    omega
theorem take_filter {α : Type} (q : α → Bool) : ∀ (l : List α) (m : Nat), (l.take m).filter q = (l.filter q).take ((l.take m).filter q).length
  | [], m => by simp
  | x :: r, 0 => by simp
  | x :: r, m + 1 => by
    simp only [List.take_succ_cons, List.filter_cons]
    have ih := take_filter q r m
    split
    · simp only [List.length_cons, List.take_succ_cons]
      rw [← ih]
    · exact ih
theorem filter_perm {α : Type} (q : α → Bool) : ∀ l : List α, l.Perm (l.filter q ++ l.filter fun x => !q x)
  | [] => .refl _
  | x :: r => by
    have ih := filter_perm q r
    cases h : q x with
    | true => simp only [List.filter_cons, h, if_true, Bool.not_true, Bool.false_eq_true, if_false, List.cons_append]; exact ih.cons x
    | false =>
      simp only [List.filter_cons, h, Bool.not_false, if_true, Bool.false_eq_true, if_false]
      exact (ih.cons x).trans List.perm_middle.symm
structure Lv (cs : List It) (lv : Nat → List It) : Prop where
  zero : lv 0 = []
  next : ∀ k, Mg cs (pairs (lv k)) (lv (k + 1))
section
variable {cs : List It} {lv : Nat → List It} (h : Lv cs lv)
def sC (lv : Nat → List It) (k m : Nat) : Nat := (((lv k).take m).filter isC).length
def pC (lv : Nat → List It) (k m : Nat) : Nat := (((lv k).take m).filter fun x => !isC x).length
def sel (lv : Nat → List It) : Nat → Nat → List Nat
  | 0, _ => []
  | k + 1, m => sC lv (k + 1) m :: sel lv k (2 * pC lv (k + 1) m)
theorem sp (lv : Nat → List It) (k m : Nat) (hm : m ≤ (lv k).length) : sC lv k m + pC lv k m = m := by
  have := (filter_perm isC ((lv k).take m)).length_eq
  simp only [List.length_append, List.length_take] at this
  unfold sC pC
  omega
include h in
theorem coins_of (k m : Nat) : ((lv (k + 1)).take m).filter isC = cs.take (sC lv (k + 1) m) := by
  have := take_filter isC (lv (k + 1)) m
  rw [(h.next k).cs] at this
  exact this
include h in
theorem packs_of (k m : Nat) : ((lv (k + 1)).take m).filter (fun x => !isC x) = (pairs (lv k)).take (pC lv (k + 1) m) := by
  have := take_filter (fun x => !isC x) (lv (k + 1)) m
  rw [(h.next k).ps] at this
  exact this
include h in
theorem pC_le (k m : Nat) : pC lv (k + 1) m ≤ (pairs (lv k)).length := by
  rw [← (h.next k).ps]
  unfold pC
  exact ((List.take_sublist m (lv (k + 1))).filter _).length_le
include h in
theorem sC_le (k m : Nat) : sC lv (k + 1) m ≤ cs.length := by
  rw [← (h.next k).cs]
  unfold sC
  exact ((List.take_sublist m (lv (k + 1))).filter _).length_le
include h in
theorem pC_two (k m : Nat) : 2 * pC lv (k + 1) m ≤ (lv k).length := by
  have := pC_le h k m
  rw [pairs_length] at this
  omega
include h in
include h in
def kr : List Nat → Nat
  | [] => 0
  | s :: r => s * 2 ^ r.length + kr r
theorem sel_length (lv : Nat → List It) : ∀ k m, (sel lv k m).length = k
  | 0, _ => rfl
  | k + 1, m => by simp [sel, sel_length lv k]
include h in
theorem kr_sel : ∀ k m, m ≤ (lv (k + 1)).length → kr (sel lv (k + 1) m) = m * 2 ^ k
  | 0, m, hm => by
    have h1 := sp lv 1 m hm
    have h2 := pC_le h 0 m
    rw [h.zero] at h2
    simp [pairs] at h2
    simp only [sel, kr, List.length_nil]
    simp only [Nat.zero_add] at h2 ⊢
    omega
  | k + 1, m, hm => by
    have h1 := sp lv (k + 2) m hm
    have h2 := pC_two h (k + 1) m
    have ih := kr_sel k _ h2
    rw [sel, kr, ih, sel_length, Nat.pow_succ]
    rw [show 2 * pC lv (k + 1 + 1) m * 2 ^ k = pC lv (k + 1 + 1) m * (2 ^ k * 2) from by rw [Nat.mul_comm 2, Nat.mul_assoc, Nat.mul_comm 2], ← Nat.add_mul, h1]
def down : List Nat → Prop
  | [] => True
  | [_] => True
  | a :: b :: r => b ≤ a ∧ down (b :: r)
theorem mem_pairs : ∀ {l : List It} {t : Nat} {x : It}, l[t]? = some x → (h2 : t < 2 * (pairs l).length) → (hp : ∀ y ∈ l, 0 < y.w) → ∃ y, (pairs l)[t / 2]? = some y ∧ x.w < y.w
  | [], t, x, h, _, _ => by simp at h
  | [_], t, x, h, h2, _ => by simp [pairs] at h2
  | a :: b :: r, 0, x, h, _, hp => by
    simp at h; subst h
    have := hp b (by simp)
    exact ⟨pack a b, rfl, by simp only [pack]; omega⟩
  | a :: b :: r, 1, x, h, _, hp => by
    simp at h; subst h
    have := hp a (by simp)
    exact ⟨pack a b, rfl, by simp only [pack]; omega⟩
  | a :: b :: r, t + 2, x, h, h2, hp => by
    have h' : r[t]? = some x := by simpa using h
    obtain ⟨y, hy, hw⟩ := mem_pairs h' (by simp [pairs] at h2; omega) (fun y hy => hp y (by simp [hy]))
    refine ⟨y, ?_, hw⟩
    rw [show (t + 2) / 2 = t / 2 + 1 from by omega]
    simpa [pairs] using hy
include h in
theorem pos (hp : ∀ x ∈ cs, 0 < x.w) : ∀ k, ∀ y ∈ lv k, 0 < y.w
  | 0, y, hy => by rw [h.zero] at hy; simp at hy
  | k + 1, y, hy => by
    cases hc : isC y with
    | true =>
      have : y ∈ (lv (k + 1)).filter isC := List.mem_filter.2 ⟨hy, hc⟩
      rw [(h.next k).cs] at this
      exact hp y this
    | false =>
      have : y ∈ (lv (k + 1)).filter fun x => !isC x := List.mem_filter.2 ⟨hy, by simp [hc]⟩
      rw [(h.next k).ps] at this
      have ih := pos hp k
      have key : ∀ (l : List It), (∀ z ∈ l, 0 < z.w) → ∀ z ∈ pairs l, 0 < z.w := by
        intro l
        induction l using pairs.induct with
        | case1 a b r ihr =>
          intro hl z hz
          simp only [pairs, List.mem_cons] at hz
          rcases hz with rfl | hz
          · have := hl a (by simp); simp only [pack]; omega
          · exact ihr (fun z hz => hl z (by simp [hz])) z hz
        | case2 l hl2 =>
          intro _ z hz
          rw [pairs] at hz
          · simp at hz
          · exact hl2
      exact key _ ih y this
include h in
theorem sel_down2 (hp : ∀ x ∈ cs, 0 < x.w) (k m : Nat) : sC lv (k + 1) (2 * pC lv (k + 2) m) ≤ sC lv (k + 2) m := by
  rcases Nat.lt_or_ge (sC lv (k + 2) m) (sC lv (k + 1) (2 * pC lv (k + 2) m)) with hlt | hle
  · exfalso
    have hn := sC_le h k (2 * pC lv (k + 2) m)
    have hcs : sC lv (k + 2) m < cs.length := by omega
    -- the coin that comes next
    obtain ⟨x, hx⟩ : ∃ x, cs[sC lv (k + 2) m]? = some x := ⟨cs[sC lv (k + 2) m], by simp [hcs]⟩
    have hin : x ∈ ((lv (k + 1)).take (2 * pC lv (k + 2) m)).filter isC := by
      rw [coins_of h]
      refine List.mem_of_getElem? (i := sC lv (k + 2) m) ?_
      rw [List.getElem?_take, if_pos hlt]; exact hx
    obtain ⟨hin1, hxc⟩ := List.mem_filter.1 hin
    obtain ⟨t, ht⟩ := List.getElem?_of_mem hin1
    rw [List.getElem?_take] at ht
    split at ht
    · rename_i htl
      have h2 : pC lv (k + 2) m ≤ (pairs (lv (k + 1))).length := pC_le h (k + 1) m
      have hpk : ((lv (k + 2)).take m).filter (fun x => !isC x) = (pairs (lv (k + 1))).take (pC lv (k + 2) m) := packs_of h (k + 1) m
      obtain ⟨y, hy, hyw⟩ := mem_pairs ht (by omega) (pos h hp (k + 1))
      have hym : y ∈ ((lv (k + 2)).take m).filter fun x => !isC x := by
        rw [hpk]
        refine List.mem_of_getElem? (i := t / 2) ?_
        rw [List.getElem?_take, if_pos (by omega)]; exact hy
      have hy1 := (List.mem_filter.1 hym).1
      -- the coin stands behind
      have hxd : x ∈ (lv (k + 2)).drop m := by
        have e : cs = ((lv (k + 2)).take m).filter isC ++ ((lv (k + 2)).drop m).filter isC := by
          rw [← List.filter_append, List.take_append_drop, (h.next (k + 1)).cs]
        have hl : (((lv (k + 2)).take m).filter isC).length = sC lv (k + 2) m := rfl
        rw [e, List.getElem?_append_right (by omega), hl, Nat.sub_self] at hx
        exact (List.mem_filter.1 (List.mem_of_getElem? hx)).1
      have hup := (h.next (k + 1)).up
      rw [← List.take_append_drop m (lv (k + 1 + 1)), List.pairwise_append] at hup
      have := hup.2.2 y hy1 x hxd
      omega
    · cases ht
  · exact hle
include h in
theorem sel_down (hp : ∀ x ∈ cs, 0 < x.w) : ∀ k m, down (sel lv k m)
  | 0, _ => trivial
  | 1, _ => trivial
  | k + 2, m => ⟨sel_down2 h hp k m, sel_down hp (k + 1) _⟩
end
end Go.Pm
namespace Go.Pm
set_option linter.all false
def ln (S : List Nat) (r : Nat) : Nat := (S.filter fun s => decide (r < s)).length
def sumTo (g : Nat → Nat) : Nat → Nat
  | 0 => 0
  | n + 1 => sumTo g n + g n
theorem sumTo_congr {g h : Nat → Nat} : ∀ {n : Nat}, (∀ i, i < n → g i = h i) → sumTo g n = sumTo h n
  | 0, _ => rfl
  | n + 1, hh => by
    have h1 := sumTo_congr (n := n) (fun i hi => hh i (by omega))
    simp only [sumTo, h1, hh n (by omega)]
theorem sumTo_add (g : Nat → Nat) (a : Nat) : ∀ b, sumTo g (a + b) = sumTo g a + sumTo (fun i => g (a + i)) b
  | 0 => rfl
  | b + 1 => by
    have h1 := sumTo_add g a b
    rw [← Nat.add_assoc]
    simp only [sumTo, h1]
    omega
theorem sumTo_const (c : Nat) : ∀ n, sumTo (fun _ => c) n = n * c
  | 0 => by simp [sumTo]
  | n + 1 => by simp only [sumTo, sumTo_const c n, Nat.add_mul, Nat.one_mul]
theorem sumTo_le (g : Nat → Nat) : ∀ {n i : Nat}, i < n → g i ≤ sumTo g n
  | 0, i, h => by omega
  | n + 1, i, h => by
    simp only [sumTo]
    rcases Nat.lt_or_ge i n with h' | h'
    · have := sumTo_le g h'; omega
    · rw [show i = n from by omega]; omega
theorem sumTo_two (g : Nat → Nat) {n i j : Nat} (hi : i < n) (hj : j < n) (hne : i ≠ j) : g i + g j ≤ sumTo g n := by
  induction n with
  | zero => omega
  | succ n ih =>
    simp only [sumTo]
    by_cases h1 : i = n
    · have := sumTo_le g (show j < n by omega); subst h1; omega
    · by_cases h2 : j = n
      · have := sumTo_le g (show i < n by omega); subst h2; omega
      · have := ih (by omega) (by omega); omega
theorem down_tail {s : Nat} {R : List Nat} (h : down (s :: R)) : down R := by
  cases R with
  | nil => trivial
  | cons b r => exact h.2
theorem down_le : ∀ {R : List Nat} {s : Nat}, down (s :: R) → ∀ x ∈ R, x ≤ s
  | [], s, _, x, hx => by simp at hx
  | b :: r, s, h, x, hx => by
    rcases List.mem_cons.1 hx with rfl | hx
    · exact h.1
    · exact Nat.le_trans (down_le h.2 x hx) h.1
theorem ln_cons (s : Nat) (R : List Nat) (r : Nat) : ln (s :: R) r = (if r < s then 1 else 0) + ln R r := by
  unfold ln
  by_cases h : r < s
  · simp [h]; omega
  · simp [h]
theorem ln_zero {R : List Nat} {r : Nat} (h : ∀ x ∈ R, x ≤ r) : ln R r = 0 := by
  unfold ln
  rw [List.filter_eq_nil_iff.2 (fun x hx => by have := h x hx; simp; omega)]
  rfl
theorem shares : ∀ (S : List Nat) (n : Nat), down S → (∀ s ∈ S, s ≤ n) → sumTo (fun r => 2 ^ (S.length - ln S r)) n + kr S = n * 2 ^ S.length
  | [], n, _, _ => by simp [ln, kr, sumTo_const]
  | s :: R, n, hd, hn => by
    have hs : s ≤ n := hn s (by simp)
    have hR := down_le hd
    have ih := shares R s (down_tail hd) hR
    obtain ⟨j, rfl⟩ := Nat.le.dest hs
    rw [sumTo_add]
    have e1 : sumTo (fun r => 2 ^ ((s :: R).length - ln (s :: R) r)) s = sumTo (fun r => 2 ^ (R.length - ln R r)) s := by
      refine sumTo_congr fun r hr => ?_
      rw [ln_cons, if_pos hr, List.length_cons]
      congr 1
      omega
    have e2 : sumTo (fun i => 2 ^ ((s :: R).length - ln (s :: R) (s + i))) j = j * 2 ^ (R.length + 1) := by
      rw [← sumTo_const]
      refine sumTo_congr fun i hi => ?_
      rw [ln_cons, if_neg (by omega), ln_zero (fun x hx => by have := hR x hx; omega), List.length_cons]
      rfl
    rw [e1, e2, kr, List.length_cons, Nat.pow_succ]
    generalize sumTo (fun r => 2 ^ (R.length - ln R r)) s = x at *
    generalize 2 ^ R.length = y at *
    generalize kr R = z at *
    rw [Nat.add_mul, ← Nat.mul_assoc, ← Nat.mul_assoc]
    omega
section
variable {cs : List It} {lv : Nat → List It} (h : Lv cs lv)
include h in
theorem lv_length (k : Nat) : (lv (k + 1)).length = cs.length + (lv k).length / 2 := by
  have := (filter_perm isC (lv (k + 1))).length_eq
  rw [(h.next k).cs, (h.next k).ps] at this
  simpa [pairs_length] using this
include h in
theorem lv_room (hn : 0 < cs.length) : ∀ k, ∃ c, (lv (k + 1)).length + c = 2 * cs.length ∧ 1 ≤ c ∧ (c - 1) * 2 ^ k < cs.length
  | 0 => ⟨cs.length, by rw [lv_length h, h.zero]; simp; omega, hn, by omega⟩
  | k + 1 => by
    obtain ⟨c, h1, h2, h3⟩ := lv_room hn k
    refine ⟨(c + 1) / 2, by rw [lv_length h (k + 1)]; omega, by omega, ?_⟩
    have h4 : 2 * ((c + 1) / 2 - 1) ≤ c - 1 := by omega
    have h5 := Nat.mul_le_mul_right (2 ^ k) h4
    rw [Nat.pow_succ, Nat.mul_comm (2 ^ k), ← Nat.mul_assoc, Nat.mul_comm _ 2]
    omega
include h in
theorem lv_full (k : Nat) (hn : 0 < cs.length) (hk : cs.length ≤ 2 ^ (k + 1)) : 2 * cs.length - 2 ≤ (lv (k + 1)).length := by
  obtain ⟨c, h1, h2, h3⟩ := lv_room h hn k
  rw [Nat.pow_succ] at hk
  have h4 : c - 1 < 2 := by
    rcases Nat.lt_or_ge (c - 1) 2 with h' | h'
    · exact h'
    · have := Nat.mul_le_mul_right (2 ^ k) h'
      omega
  omega
theorem sel_all (hh : ∀ k m, sC lv (k + 1) m ≤ cs.length) : ∀ k m, ∀ s ∈ sel lv k m, s ≤ cs.length
  | 0, m, s, hs => by simp [sel] at hs
  | k + 1, m, s, hs => by
    simp only [sel, List.mem_cons] at hs
    rcases hs with rfl | hs
    · exact hh k m
    · exact sel_all hh k _ s hs
theorem whole (h : Lv cs lv) (hp : ∀ x ∈ cs, 0 < x.w) (k : Nat) (hn : 1 ≤ cs.length) (hk : cs.length ≤ 2 ^ (k + 1)) :
    sumTo (fun r => 2 ^ (k + 1 - ln (sel lv (k + 1) (2 * cs.length - 2)) r)) cs.length = 2 ^ (k + 1) := by
  have h1 := shares (sel lv (k + 1) (2 * cs.length - 2)) cs.length (sel_down h hp _ _) (sel_all (sC_le h) _ _)
  rw [sel_length, kr_sel h k _ (lv_full h k hn hk)] at h1
  have e : (2 * cs.length - 2) * 2 ^ k + 2 ^ (k + 1) = cs.length * 2 ^ (k + 1) := by
    rw [Nat.pow_succ, show 2 ^ k * 2 = 2 * 2 ^ k from Nat.mul_comm _ _, ← Nat.mul_assoc]
    obtain ⟨j, hj⟩ : ∃ j, cs.length = j + 1 := ⟨cs.length - 1, by omega⟩
    rw [hj, show 2 * (j + 1) - 2 = 2 * j from by omega, show (j + 1) * 2 = 2 * j + 2 from by omega, Nat.add_mul]
  omega
theorem taken (h : Lv cs lv) (hp : ∀ x ∈ cs, 0 < x.w) (k : Nat) (hn : 2 ≤ cs.length) (hk : cs.length ≤ 2 ^ (k + 1)) (r : Nat) (hr : r < cs.length) : 1 ≤ ln (sel lv (k + 1) (2 * cs.length - 2)) r := by
  have h1 := whole h hp k (by omega) hk
  rcases Nat.eq_zero_or_pos (ln (sel lv (k + 1) (2 * cs.length - 2)) r) with h0 | h0
  · exfalso
    obtain ⟨q, hq, hne⟩ : ∃ q, q < cs.length ∧ r ≠ q := by
      rcases Nat.eq_zero_or_pos r with h2 | h2
      · exact ⟨1, by omega, by omega⟩
      · exact ⟨0, by omega, by omega⟩
    have := sumTo_two (fun r => 2 ^ (k + 1 - ln (sel lv (k + 1) (2 * cs.length - 2)) r)) hr hq hne
    simp only [h0, Nat.sub_zero] at this
    have hpos : 0 < 2 ^ (k + 1 - ln (sel lv (k + 1) (2 * cs.length - 2)) q) := Nat.pow_pos (by decide)
    omega
  · exact h0
end
end Go.Pm
namespace Go.Pm
set_option linter.all false
def psum : List Nat → List Nat
  | a :: b :: r => (a + b) :: psum r
  | _ => []
theorem pairs_w : ∀ l : List It, (pairs l).map It.w = psum (l.map It.w)
  | [] => rfl
  | [_] => rfl
  | a :: b :: r => by simp only [pairs, List.map_cons, psum, pairs_w r, pack]
structure Lw (ws : List Nat) (lw : Nat → List Nat) : Prop where
  zero : lw 0 = []
  up : ∀ k, (lw (k + 1)).Pairwise fun a b => a ≤ b
  perm : ∀ k, (lw (k + 1)).Perm (ws ++ psum (lw k))
theorem Lv.lw {cs : List It} {lv : Nat → List It} (h : Lv cs lv) : Lw (cs.map It.w) (fun k => (lv k).map It.w) where
  zero := by rw [h.zero]; rfl
  up k := by
    rw [List.pairwise_map]
    exact (h.next k).up
  perm k := by
    have := (filter_perm isC (lv (k + 1))).map It.w
    rw [(h.next k).cs, (h.next k).ps, List.map_append, pairs_w] at this
    exact this
theorem Lw.same {ws ws' : List Nat} {lw lw' : Nat → List Nat} (h : Lw ws lw) (h' : Lw ws' lw') (hp : ws.Perm ws') : ∀ k, lw k = lw' k
  | 0 => by rw [h.zero, h'.zero]
  | k + 1 => by
    have ih := Lw.same h h' hp k
    have p : (lw (k + 1)).Perm (lw' (k + 1)) := (h.perm k).trans (((hp.append (by rw [ih])).trans (h'.perm k).symm))
    exact List.Perm.eq_of_pairwise (fun a b _ _ h1 h2 => Nat.le_antisymm h1 h2) (h.up k) (h'.up k) p
end Go.Pm
namespace Go.Hf
set_option linter.all false
def cn (l : List Nat) (n : Nat) : Nat := (l.filter fun x => x == n).length
def fs (l : List Nat) : Nat → Nat
  | 0 => 0
  | n + 1 => 2 * (fs l n + if n = 0 then 0 else cn l n)
def cd (l : List Nat) (i : Nat) : Nat := if l.getD i 0 = 0 then 0 else fs l (l.getD i 0) + cn (l.take i) (l.getD i 0)
def ext (l : List Nat) (n v : Nat) : Prop := ∃ (i m : Nat), l[i]? = some m ∧ n < m ∧ cd l i / 2 ^ (m - n) = v
end Go.Hf
namespace Go.Vx
open Go
set_option linter.all false
variable [W0]
theorem ints_get {l : List Int} {i : Nat} (h : i < l.length) : (intsN l)[i]? = some (.int .i64 (l.getD i 0)) := by simp [intsN, List.getD, h]
end Go.Vx
namespace Go.Vx
open Go
set_option linter.all false
variable [W0]
omit [W0] in
def ivn (l : List Nat) : List Value := l.map fun (n : Nat) => Value.int .i64 (n : Int)
end Go.Vx
namespace Go.Ix
open Go
set_option linter.all false
def gv (b : List UInt8) : Nat := b.foldl (fun n x => 256 * n + x.toNat) 0
theorem gv_snoc (b : List UInt8) (x : UInt8) : gv (b ++ [x]) = 256 * gv b + x.toNat := by unfold gv; rw [List.foldl_append]; rfl
theorem gv_lt : ∀ (b : List UInt8), gv b < 256 ^ b.length := by
  intro b
  induction h : b.length generalizing b with
  | zero => rw [List.eq_nil_of_length_eq_zero h]; decide
  | succ n ih =>
    have hne : b ≠ [] := fun w => by rw [w] at h; cases h
    have e := List.dropLast_concat_getLast hne
    have h1 := ih b.dropLast (by rw [List.length_dropLast]; omega)
    have hx := (b.getLast hne).toNat_lt
    rw [← e, gv_snoc, Nat.pow_succ]
    omega
end Go.Ix
namespace Go.Proofs.Ytmhlmlkndabgmaa
open Go Go.Vx Go.Pk Go.Ix
set_option linter.all false
set_option maxRecDepth 4000
section
variable [W0]
def wd (n : Nat) : List UInt8 := wb (BitVec.ofNat 32 n)
def wd8 (n : Nat) : List UInt8 := wd (n / 4294967296) ++ wd n
theorem wd_len (n : Nat) : (wd n).length = 4 := rfl
theorem wd8_len (n : Nat) : (wd8 n).length = 8 := rfl
theorem wrap_w32 (n : Nat) : IntKind.u32.wrap (n : Int) = ((BitVec.ofNat 32 n).toNat : Int) := by
  unfold IntKind.wrap
  simp [IntKind.bits, IntKind.signed, BitVec.toNat_ofNat]
end
end Go.Proofs.Ytmhlmlkndabgmaa
namespace Go.Proofs.Ytmhlmlkndabgmaa
open Go Go.Vx
variable [W0]
set_option maxRecDepth 4000
set_option linter.all false
theorem bsv_snoc (a : List UInt8) (x : UInt8) : bsv (a ++ [x]) = bsv a ++ [Value.int .u8 (x.toNat : Int)] := by simp [bsv]
theorem rs_cut {P : Program} {T e by_ : Nat} [hs : SL P T e 1 by_] {v : Value} {d : List UInt8} {L0 : List Chunk} (hO : Rs L0 1 v d.length (bsv d)) {l h : Nat} (h1 : l ≤ h) (h2 : h ≤ d.length) :
    ∃ r, Rs L0 1 r ((d.drop l).take (h - l)).length (bsv ((d.drop l).take (h - l))) ∧ ∀ {n : Nat} {M : List (Nat × Value)} {L : List Chunk} {dd : Nat} {ty : TypeId} {ps : String} {af : Array Edge} {g : Option (Nat × Bool)} {x : Operand} {lo hi : Option Operand},
      ev M x = some v → bnd M lo 0 = some (l : Int) → bnd M hi d.length = some (h : Int) → EV P n ⟨some dd, .slice T x lo hi none, ty, ps, af, g⟩ M L dd r := by
  obtain ⟨r, h3, h4⟩ := EV_sliceRs (P := P) (T := T) hO h1 h2
  have e1 : ((d.drop l).take (h - l)).length = h - l := by rw [List.length_take, List.length_drop]; omega
  have e2 : bsv ((d.drop l).take (h - l)) = ((bsv d).drop (l * 1)).take ((h - l) * 1) := by simp [bsv, List.map_take, List.map_drop]
  exact ⟨r, by rw [e1, e2]; exact h3, h4⟩
theorem rs_val {L : List Chunk} {k m : Nat} {v : Value} {xs : List Value} (h : Rs L k v m xs) : ∃ a c, v = .slice a m c := by
  obtain ⟨a, c, rfl, _⟩ := h.room
  exact ⟨a, c, rfl⟩
end Go.Proofs.Ytmhlmlkndabgmaa
namespace Go.Proofs.Ytmhlmlkndabgmaa
open Go Go.Vx Go.Pk Go.Ix
set_option linter.all false
set_option maxRecDepth 4000
section
variable [W0]
theorem sb3_run {P : Program} {n : Nat} {M : List (Nat × Value)} {isS : Bool} {len cap : Nat} {hi mx : Operand} {k1 k2 : IntKind} {h : Nat} {a : Act} (ha : St n M a) (hh : ev M hi = some (.int k1 (h : Int))) (hm : ev M mx = some (.int k2 (h : Int))) (h2 : h ≤ cap) (w : World) :
    (Instr.sliceBounds isS len cap none (some (a.eval hi)) (some (a.eval mx))).run P w = .ok (0, h, h) w := by
  simp [Instr.sliceBounds, Instr.sliceBound, ha.eval hh, ha.eval hm, asIntOf, h2]
theorem rs_head3 {P : Program} {T e by_ : Nat} [hs : SL P T e 1 by_] {v : Value} {d : List UInt8} {L0 : List Chunk} (hO : Rs L0 1 v d.length (bsv d)) {h : Nat} (h2 : h ≤ d.length) :
    ∃ r, Rs L0 1 r (d.take h).length (bsv (d.take h)) ∧ ∀ {n : Nat} {M : List (Nat × Value)} {L : List Chunk} {dd : Nat} {ty : TypeId} {ps : String} {af : Array Edge} {g : Option (Nat × Bool)} {x hi mx : Operand} {k1 k2 : IntKind},
      ev M x = some v → ev M hi = some (.int k1 (h : Int)) → ev M mx = some (.int k2 (h : Int)) → EV P n ⟨some dd, .slice T x none (some hi) (some mx), ty, ps, af, g⟩ M L dd r := by
  obtain ⟨a, c, rfl, hmc⟩ := hO.room
  have hl : (d.take h).length = h := by rw [List.length_take]; omega
  refine ⟨.slice a h h, ⟨?_, a, h, by rw [hl], by omega⟩, ?_⟩
  · rw [hl]
    rcases hO.sl with ⟨c', hv, h0, hx⟩ | ⟨a', cap, hv, hr, hlen⟩
    · injection hv with e1 e2 e3
      subst e1
      obtain rfl : h = 0 := by omega
      exact .inl ⟨0, rfl, rfl, rfl⟩
    · injection hv with e1 e2 e3
      subst e1
      refine .inr ⟨a', h, rfl, ?_, by rw [bsv_length, hl]; omega⟩
      rcases hr with h0 | ⟨b, off, cc, TT, fr, rfl, hf, hc⟩
      · have : d = [] := by simpa [bsv] using h0
        subst this
        exact .inl (by simp [bsv])
      · refine .inr ⟨b, off, cc, TT, fr, rfl, hf, fun j u hj => hc j u ?_⟩
        rw [bsv, List.map_take, List.getElem?_take] at hj
        split at hj
        · exact hj
        · cases hj
  · intro n M L dd ty ps af g x hi mx k1 k2 hx hh hm
    exact ⟨rfl, fun a' w ha _ => by
      obtain ⟨hu, i', hi', hk', _, hk0⟩ := hs.parts
      simp [execOp, ha.eval hx, Instr.sliceAt, Instr.slice, underlying, hu, sb3_run ha hh hm (show h ≤ c by omega), sizeOf, typeInfo, hi', hk', addr_add]
      cases a with
      | none => simp
      | some z => simp [Addr.add]⟩
set_option maxHeartbeats 2000000 in
theorem isplit_n (v : Value) (d : List UInt8) (k : Nat) (S L : List Chunk) (h : Rs S 1 v d.length (bsv d)) (hk : k ≤ d.length) :
    Gv Try.prog 58 [v, .int .i64 (k : Int)].toArray L (fun r L' => ∃ v1 v2, r = .tuple #[v1, v2] ∧ Rs S 1 v1 (d.take k).length (bsv (d.take k)) ∧ Rs S 1 v2 (d.drop k).length (bsv (d.drop k)) ∧ L' = L) := by
  refine Gv.of_body (args := [v, .int .i64 (k : Int)]) Try.func58 rfl rfl ?_
  obtain ⟨r1, q1, e1⟩ := rs_head3 (P := Try.prog) (T := 24) h hk
  obtain ⟨r2, q2, e2⟩ := rs_cut (P := Try.prog) (T := 24) h (l := k) (h := d.length) hk (Nat.le_refl _)
  rw [List.take_of_length_le (by rw [List.length_drop]; exact Nat.le_refl _)] at q2
  obtain ⟨va, vc, rfl⟩ := rs_val h
  (repeat' first|refine kW ?_|refine kU fun bk=>?_|refine kV fun hc=>?_|refine kZ (fun hc=>?_) fun hc=>?_|fail)
  refine WC_drawAll [] mixed ?_
  (refine WR_t 0 ?_; refine WR_t 1 ?_; refine WR_t 2 ?_)
  (refine WR_take 3 rfl rfl (by kernel_rfl) iP iC (e1 rfl rfl rfl) (by rfl) ?_)
  (refine WR_t 4 ?_; refine WR_t 5 ?_)
  (refine WR_take 6 rfl rfl (by kernel_rfl) iP iC (e2 rfl rfl rfl) (by rfl) ?_)
  (refine WR_t 7 ?_; refine WR_t 8 ?_)
  (refine WR_done (by kernel_rfl) ?_)
  (repeat' first|refine kW ?_|refine kU fun bk=>?_|refine kV fun hc=>?_|refine kZ (fun hc=>?_) fun hc=>?_|fail)
  refine kR ?_
  exact ⟨_, iC, _, _, rfl, q1, q2, rfl⟩
theorem inum_n (v : Value) (d : List UInt8) (i s : Nat) (L : List Chunk) (h : Sl L 1 v d.length (bsv d)) (hr : ∃ a c, v = .slice a d.length c ∧ d.length ≤ c) (hs : s = 4 ∨ s = 8) (hi : (i + 1) * s ≤ d.length) (hd : d.length ≤ 1000000000) :
    GvP Try.prog 64 [v, .int .i64 (i : Int), .int .i64 (s : Int)].toArray L (.int .u64 (gv ((d.drop (i * s)).take s) : Int)) := by
  have hv : Rs L 1 v d.length (bsv d) := ⟨h, hr⟩
  refine Gv.of_body (args := [v, .int .i64 (i : Int), .int .i64 (s : Int)]) Try.func64 rfl rfl ?_
  have hle : i * s ≤ (i + 1) * s := Nat.mul_le_mul_right s (by omega)
  have hsu : (i + 1) * s - i * s = s := by rw [Nat.add_mul, Nat.one_mul]; omega
  have hs8 : s ≤ 8 := by omega
  have hi9 : i ≤ 1000000000 := by
    have : i * 1 ≤ i * s := Nat.mul_le_mul_left i (by omega)
    omega
  obtain ⟨r1, q1, e1⟩ := rs_cut (P := Try.prog) (T := 24) hv (l := i * s) (h := (i + 1) * s) hle hi
  rw [hsu] at q1
  obtain ⟨b, hb⟩ : ∃ b, b = (d.drop (i * s)).take s := ⟨_, rfl⟩
  rw [← hb] at q1 ⊢
  have hbl : b.length = s := by rw [hb, List.length_take, List.length_drop]; omega
  obtain ⟨ra, rc, rfl⟩ := rs_val q1
  obtain ⟨va, vc, rfl⟩ := rs_val hv
  have m1 : IntKind.i64.wrap ((i : Int) * (s : Int)) = ((i * s : Nat) : Int) := by
    rw [← Int.natCast_mul]; exact wrap_i64 (by omega) (by omega)
  have m2 : IntKind.i64.wrap (((i : Int) + 1) * (s : Int)) = (((i + 1) * s : Nat) : Int) := by
    rw [show ((i : Int) + 1) * (s : Int) = (((i + 1) * s : Nat) : Int) from by rw [Int.natCast_mul]; rfl]; exact wrap_i64 (by omega) (by omega)
  (repeat' first|refine kW ?_|refine kU fun bk=>?_|refine kV fun hc=>?_|refine kZ (fun hc=>?_) fun hc=>?_|fail)
  refine OW_EV (EV_ari64 (r := ((i : Int) + 1) * (s : Int)) rfl rfl rfl (by rw [show ((i : Int) + 1) * (s : Int) = (((i + 1) * s : Nat) : Int) from by rw [Int.natCast_mul]; rfl]; omega)) rfl ?_
  rw [show ((i : Int) + 1) * (s : Int) = (((i + 1) * s : Nat) : Int) from by rw [Int.natCast_mul]; rfl]
  (repeat' first|refine kW ?_|refine kU fun bk=>?_|refine kV fun hc=>?_|refine kZ (fun hc=>?_) fun hc=>?_|fail)
  refine OW_EV (e1 rfl (congrArg some (Int.natCast_mul i s).symm) rfl) rfl ?_
  (repeat' first|refine kW ?_|refine kU fun bk=>?_|refine kV fun hc=>?_|refine kZ (fun hc=>?_) fun hc=>?_|fail)
  refine WC_loop (X := Nat) (fun j => [(7, .int .u64 (gv (b.take j) : Int)), (18, .slice ra b.length rc), (19, .int .i64 (b.length : Int)), (20, .int .i64 (j : Int))]) (fun _ => L) (fun j => j ≤ b.length) (fun j => b.length - j) 0 (Nat.zero_le _) iS (fun w h => h) ?_
  intro j h1
  by_cases hlt : j < b.length
  · obtain ⟨x, hx⟩ : ∃ x, b[j]? = some x := ⟨b[j], by simp [hlt]⟩
    obtain ⟨eb, eo, ec, ecc, eT, ef, e1, e2, e3⟩ := sl_at q1.sl (Go.Vx.bsv_get hx)
    injection e1 with r1 r2 r3
    subst r1 r3
    clear r2
    have htk : gv (b.take (j + 1)) = 256 * gv (b.take j) + x.toNat := by rw [List.take_add_one, hx]; exact gv_snoc _ _
    have hlt2 := gv_lt (b.take (j + 1))
    rw [List.length_take, Nat.min_eq_left (by omega)] at hlt2
    have h8 : 256 ^ (j + 1) ≤ 256 ^ 8 := Nat.pow_le_pow_right (by decide) (by omega)
    have hx8 := x.toNat_lt
    rw [htk] at hlt2
    have hbig : 256 * gv (b.take j) + x.toNat < 18446744073709551616 := Nat.lt_of_lt_of_le hlt2 (Nat.le_trans h8 (by decide))
    obtain ⟨z, hz⟩ : ∃ z, z = gv (b.take j) := ⟨_, rfl⟩
    rw [← hz] at htk hbig ⊢
    (repeat' first|refine kW ?_|refine kU fun bk=>?_|refine kV fun hc=>?_|refine kZ (fun hc=>?_) fun hc=>?_|fail)
    refine OW_EV (EV_indexAddr (j := j) rfl rfl rfl hlt) rfl ?_
    (repeat' first|refine kW ?_|refine kU fun bk=>?_|refine kV fun hc=>?_|refine kZ (fun hc=>?_) fun hc=>?_|fail)
    refine OW_EV (EV_load rfl e2 e3) rfl ?_
    (repeat' first|refine kW ?_|refine kU fun bk=>?_|refine kV fun hc=>?_|refine kZ (fun hc=>?_) fun hc=>?_|fail)
    refine OW_EV (EV_nshl z 8 rfl rfl rfl rfl rfl (by show z * 2 ^ 8 < 2 ^ 64; omega)) rfl ?_
    (repeat' first|refine kW ?_|refine kU fun bk=>?_|refine kV fun hc=>?_|refine kZ (fun hc=>?_) fun hc=>?_|fail)
    refine OW_EV (EV_nor' (k := .u64) x.toNat z 8 rfl rfl rfl rfl rfl (by omega) (by show x.toNat + z * 2 ^ 8 < 2 ^ 64; omega)) rfl ?_
    rw [show x.toNat + z * 2 ^ 8 = gv (b.take (j + 1)) from by rw [htk]; omega]
    (repeat' first|refine kW ?_|refine kU fun bk=>?_|refine kV fun hc=>?_|refine kZ (fun hc=>?_) fun hc=>?_|fail)
    exact WQ_round (X := Nat) (μ := fun j => b.length - j) (x := j) (j + 1) (by omega) (by omega) iS (fun w h => h)
  · obtain rfl : j = b.length := by omega
    (repeat' first|refine kW ?_|refine kU fun bk=>?_|refine kV fun hc=>?_|refine kZ (fun hc=>?_) fun hc=>?_|fail)
    rw [List.take_length]
    exact kE
def beB (n k : Nat) : List UInt8 := (List.range k).map fun j => UInt8.ofNat (n / 2 ^ (8 * (k - 1 - j)))
theorem beB_len (n k : Nat) : (beB n k).length = k := by unfold beB; rw [List.length_map, List.length_range]
theorem ofn_w (n : Nat) (k : Nat) (hk : k ≤ 24) : UInt8.ofNat (n / 2 ^ k) = w2b (BitVec.ofNat 32 n >>> k) := by
  apply UInt8.toNat_inj.1
  unfold w2b
  simp only [UInt8.toNat_ofNat', BitVec.toNat_ushiftRight, BitVec.toNat_ofNat, Nat.shiftRight_eq_div_pow]
  have h1 : (2 : Nat) ^ 32 = 2 ^ k * 2 ^ (32 - k) := by rw [← Nat.pow_add]; congr 1; omega
  have h2 : (2 : Nat) ^ (32 - k) = 2 ^ 8 * 2 ^ (24 - k) := by rw [← Nat.pow_add]; congr 1; omega
  rw [h1, Nat.mod_mul_right_div_self, h2, Nat.mod_mul_right_mod]
theorem beB_4 (n : Nat) : beB n 4 = wd n := by
  show [UInt8.ofNat (n / 2 ^ 24), UInt8.ofNat (n / 2 ^ 16), UInt8.ofNat (n / 2 ^ 8), UInt8.ofNat (n / 2 ^ 0)] = wb (BitVec.ofNat 32 n)
  rw [ofn_w n 24 (by decide), ofn_w n 16 (by decide), ofn_w n 8 (by decide), ofn_w n 0 (by decide)]
  rfl
theorem beB_8 (n : Nat) : beB n 8 = wd8 n := by
  unfold wd8
  rw [← beB_4, ← beB_4]
  have e : ∀ k, n / 4294967296 / 2 ^ k = n / 2 ^ (32 + k) := fun k => by rw [Nat.div_div_eq_div_mul, Nat.pow_add]
  show [UInt8.ofNat (n / 2 ^ 56), UInt8.ofNat (n / 2 ^ 48), UInt8.ofNat (n / 2 ^ 40), UInt8.ofNat (n / 2 ^ 32), UInt8.ofNat (n / 2 ^ 24), UInt8.ofNat (n / 2 ^ 16), UInt8.ofNat (n / 2 ^ 8), UInt8.ofNat (n / 2 ^ 0)] =
    [UInt8.ofNat (n / 4294967296 / 2 ^ 24), UInt8.ofNat (n / 4294967296 / 2 ^ 16), UInt8.ofNat (n / 4294967296 / 2 ^ 8), UInt8.ofNat (n / 4294967296 / 2 ^ 0)] ++ [UInt8.ofNat (n / 2 ^ 24), UInt8.ofNat (n / 2 ^ 16), UInt8.ofNat (n / 2 ^ 8), UInt8.ofNat (n / 2 ^ 0)]
  rw [e, e, e, e]
  rfl
theorem len1 (a : List UInt8) (x : UInt8) : a.length + 1 = (a ++ [x]).length := by rw [List.length_append]; rfl
set_option maxHeartbeats 4000000 in
/-- A number written behind bytes. -/
theorem iadd_n (v : Value) (a : List UInt8) (n s : Nat) (C : Chunk) (L : List Chunk) (h : Ow 5 1 v a.length (bsv a) C) (hs : s ≤ 8) (hn : n < 18446744073709551616) (ha : a.length ≤ 1000000) :
    Gv Try.prog 54 [v, .int .u64 (n : Int), .int .i64 (s : Int)].toArray (C :: L) (fun r L' => ∃ C', Ow 5 1 r (a ++ beB n s).length (bsv (a ++ beB n s)) C' ∧ L' = C' :: L) := by
  obtain ⟨va, vc, rfl⟩ := ow_slc h
  refine Gv.of_body (args := [.slice va a.length vc, .int .u64 (n : Int), .int .i64 (s : Int)]) Try.func54 rfl rfl ?_
  have hbl := beB_len n s
  (repeat' first|refine kW ?_|refine kU fun bk=>?_|refine kV fun hc=>?_|refine kZ (fun hc=>?_) fun hc=>?_|fail)
  refine WC_loop (X := Nat × Value × Chunk) (fun x => [(0, x.2.1), (1, .int .u64 (n : Int)), (7, .int .i64 ((s : Int) - 1 - x.1))]) (fun x => x.2.2 :: L)
    (fun x => x.1 ≤ s ∧ Ow 5 1 x.2.1 (a ++ (beB n s).take x.1).length (bsv (a ++ (beB n s).take x.1)) x.2.2) (fun x => s - x.1) (0, .slice va a.length vc, C)
    ⟨Nat.zero_le _, by rw [List.take_zero, List.append_nil]; exact h⟩ iS (fun w h => h) ?_
  rintro ⟨k, v, Ck⟩ ⟨h1, ho⟩
  simp only at h1 ho ⊢
  obtain ⟨ka, kc, rfl⟩ := ow_slc ho
  by_cases hlt : k < s
  · have hx : (beB n s)[k]? = some (UInt8.ofNat (n / 2 ^ (8 * (s - 1 - k)))) := by unfold beB; rw [List.getElem?_map, List.getElem?_range hlt]; rfl
    have hsn : (a ++ (beB n s).take k) ++ [UInt8.ofNat (n / 2 ^ (8 * (s - 1 - k)))] = a ++ (beB n s).take (k + 1) := by rw [List.take_add_one, hx, List.append_assoc]; rfl
    obtain ⟨q, hq⟩ : ∃ q, q = s - 1 - k := ⟨_, rfl⟩
    rw [← hq] at hsn
    rw [show (s : Int) - 1 - k = (q : Int) from by omega]
    have hal : (a ++ (beB n s).take k).length = a.length + k := by rw [List.length_append, List.length_take]; omega
    (repeat' first|refine kW ?_|refine kU fun bk=>?_|refine kV fun hc=>?_|refine kZ (fun hc=>?_) fun hc=>?_|fail)
    refine OW_EV (EV_nshr n (8 * q) rfl rfl rfl (by omega) (by show n < 2 ^ 64; omega)) rfl ?_
    (repeat' first|refine kW ?_|refine kU fun bk=>?_|refine kV fun hc=>?_|refine kZ (fun hc=>?_) fun hc=>?_|fail)
    rw [wrap_byte]
    refine OW_buildSlice (cs := [.int .u8 ((UInt8.ofNat (n / 2 ^ (8 * q))).toNat : Int)]) rfl (by rfl) (by first | (simp [fillL, patch, Value.cells, zeros]; done) | (simp [fillL, patch, Value.cells, zeros]; rfl)) (by omega) rfl rfl (fun bn => ?_)
    (repeat' first|refine kW ?_|refine kU fun bk=>?_|refine kV fun hc=>?_|refine kZ (fun hc=>?_) fun hc=>?_|fail)
    refine OW_append rfl rfl ho (sl_cells (k := 1) (c := #[.int .u8 ((UInt8.ofNat (n / 2 ^ (8 * q))).toNat : Int)]) (xs := [.int .u8 ((UInt8.ofNat (n / 2 ^ (8 * q))).toNat : Int)]) (m := 1) Fnd.here rfl (by simp)) (by repeat (first | exact Zip.here _ | apply Zip.there)) rfl (by rfl) (by omega) (by simp [maxLen]; omega) rfl (fun v' C' ho' _ _ => ?_)
    rw [← bsv_snoc, hsn, show (a ++ (beB n s).take k).length + 1 = (a ++ (beB n s).take (k + 1)).length from by rw [← hsn]; exact len1 _ _] at ho'
    have hone := ow_one ho'
    (repeat' first|refine kW ?_|refine kU fun bk=>?_|refine kV fun hc=>?_|refine kZ (fun hc=>?_) fun hc=>?_|fail)
    refine WQ_round (X := Nat × Value × Chunk) (μ := fun x => s - x.1) (x := (k, .slice ka (a ++ (beB n s).take k).length kc, Ck)) (k + 1, v', C') (by simp only; omega) ⟨by simp only; omega, ho'⟩ (by rw [show (s : Int) - 1 - ((k + 1 : Nat) : Int) = (q : Int) - 1 from by omega]; exact iS) (fun w h => (iC : Inc (C' :: L) _).holds h)
  · obtain rfl : k = s := by omega
    rw [List.take_of_length_le (by omega)] at ho
    (repeat' first|refine kW ?_|refine kU fun bk=>?_|refine kV fun hc=>?_|refine kZ (fun hc=>?_) fun hc=>?_|fail)
    refine kR ?_
    exact ⟨_, iC, Ck, by rw [List.take_of_length_le (by omega)]; exact ho, rfl⟩
theorem run_ldB {P : Program} (w : World) : ∀ (xs : List UInt8) (a : Addr) (acc : ByteArray), (∀ j u, (bsv xs)[j]? = some u → w.cell? (a.add j) = some u) →
    (Extern.Bytes.loadBytes a xs.length acc).run P w = .ok ⟨acc.data ++ xs.toArray⟩ w
  | [], a, acc, _ => by simp [Extern.Bytes.loadBytes]
  | x :: l, a, acc, h => by
    have h0 : w.cell? a = some (.int .u8 (x.toNat : Int)) := by
      have := h 0 _ rfl
      simpa [Addr.add] using this
    have ih := run_ldB (P := P) w l (a.add 1) (acc.push x) (fun j y hy => by
      have := h (j + 1) y (by simpa [bsv] using hy)
      have e : (a.add 1).add j = a.add (j + 1) := by
        unfold Addr.add
        by_cases hj : j = 0
        · subst hj; simp
        · simp [hj]; omega
      rw [e]; exact this)
    simp only [List.length_cons, Extern.Bytes.loadBytes, Sem.run_bind, run_load, h0, Result.andThen]
    rw [show (x.toNat : Int).toNat.toUInt8 = x from by simp, ih]
    congr 1
    apply ByteArray.ext
    simp [ByteArray.push]
theorem run_bytesOf {P : Program} {w : World} {L : List Chunk} (hw : Holds w L) {v : Value} {a : List UInt8} (h : Sl L 1 v a.length (bsv a)) : (Extern.Bytes.bytesOf v).run P w = .ok ⟨a.toArray⟩ w := by
  rcases h with ⟨c, rfl, h0, _⟩ | ⟨ad, cap, rfl, hr, hl⟩
  · obtain rfl := List.eq_nil_of_length_eq_zero h0
    rfl
  · have := run_ldB (P := P) w a ad .empty (hr.cells hw)
    unfold Extern.Bytes.bytesOf
    rw [this]
    simp
theorem run_bcmp {P : Program} {w : World} {L : List Chunk} (hw : Holds w L) {v1 v2 : Value} {a b : List UInt8} (h1 : Sl L 1 v1 a.length (bsv a)) (h2 : Sl L 1 v2 b.length (bsv b)) :
    (Extern.BytealgCompare.compare [v1, v2].toArray).run P w = .ok (.int .i64 (Lib.compareBytes a b)) w := by
  show Sem.run P (do pure (goInt (Extern.BytealgCompare.cmp (← Extern.Bytes.bytesOf v1) (← Extern.Bytes.bytesOf v2)))) w = _
  simp only [Sem.run_bind, Sem.run_pure, run_bytesOf hw h1, run_bytesOf hw h2, Result.andThen]
  rw [Lib.cmp_eq]
  rfl
theorem bcompare_n (v1 v2 : Value) (a b : List UInt8) (L : List Chunk) (h1 : Sl L 1 v1 a.length (bsv a)) (h2 : Sl L 1 v2 b.length (bsv b)) : GvP Try.prog 34 [v1, v2].toArray L (.int .i64 (Lib.compareBytes a b)) := by
  refine Gv.of_body (args := [v1, v2]) Try.func34 rfl rfl ?_
  (repeat' first|refine kW ?_|refine kU fun bk=>?_|refine kV fun hc=>?_|refine kZ (fun hc=>?_) fun hc=>?_|fail)
  refine OW_EV (OW_extern (f := 65) rfl rfl Try.func65 (by kernel_rfl) (by kernel_rfl) (by kernel_rfl) rfl (fun w hw => run_bcmp hw h1 h2)) rfl ?_
  (repeat' first|refine kW ?_|refine kU fun bk=>?_|refine kV fun hc=>?_|refine kZ (fun hc=>?_) fun hc=>?_|fail)
  exact kE
omit [W0] in
theorem cmpB_lt : ∀ a b : List UInt8, (Lib.compareBytes a b < 0 ↔ Op.bytesLess a b = true)
  | [], [] => by decide
  | [], _ :: _ => by simp [Lib.compareBytes, Op.bytesLess]
  | _ :: _, [] => by simp [Lib.compareBytes, Op.bytesLess]
  | x :: a, y :: b => by
    have ih := cmpB_lt a b
    rw [bl_cons]
    unfold Lib.compareBytes
    by_cases h1 : x < y
    · simp [h1]
    · by_cases h2 : y < x
      · rw [if_neg h1, if_pos h2]
        have : x ≠ y := fun w => by rw [w] at h2; exact absurd h2 (by rw [UInt8.lt_iff_toNat_lt]; omega)
        simp [h1, this]
      · have : x = y := UInt8.toNat_inj.1 (by rw [UInt8.lt_iff_toNat_lt] at h1 h2; omega)
        rw [if_neg h1, if_neg h2, ih]
        simp [h1, this]
omit [W0] in
theorem cmpB_eq : ∀ a b : List UInt8, (Lib.compareBytes a b = 0 ↔ a = b)
  | [], [] => by decide
  | [], _ :: _ => by simp [Lib.compareBytes]
  | _ :: _, [] => by simp [Lib.compareBytes]
  | x :: a, y :: b => by
    have ih := cmpB_eq a b
    unfold Lib.compareBytes
    by_cases h1 : x < y
    · rw [if_pos h1]
      have : x ≠ y := fun w => by rw [w] at h1; exact absurd h1 (by rw [UInt8.lt_iff_toNat_lt]; omega)
      simp [this]
    · by_cases h2 : y < x
      · rw [if_neg h1, if_pos h2]
        have : x ≠ y := fun w => by rw [w] at h2; exact absurd h2 (by rw [UInt8.lt_iff_toNat_lt]; omega)
        simp [this]
      · have : x = y := UInt8.toNat_inj.1 (by rw [UInt8.lt_iff_toNat_lt] at h1 h2; omega)
        rw [if_neg h1, if_neg h2, ih]
        simp [this]
structure Sc where
  a : Option Addr
  n : Nat
  c : Nat
def Sc.v (s : Sc) : Value := .slice s.a s.n s.c
structure IxC where
  c : Sc
  i : Sc
  r : Sc
  o : Sc
  f : Sc
  p : Sc
def IxC.vs (x : IxC) : List Value := [x.c.v, x.i.v, x.r.v, x.o.v, x.f.v, x.p.v]
set_option maxHeartbeats 2000000 in
theorem icount_n (x : IxC) (n : Nat) (L : List Chunk) (h : x.i.n = 20 * n) (hn : n ≤ 1000000) : GvP Try.prog 43 [.agg x.vs.toArray].toArray L (.int .i64 (n : Int)) := by
  obtain ⟨⟨ca, cn, cc⟩, ⟨ia, i_n, ic⟩, ⟨ra, rn, rc⟩, ⟨oa, on, oc⟩, ⟨fa, fn, fc⟩, ⟨pa, pn, pc⟩⟩ := x
  simp only at h
  subst h
  refine Gv.of_body (args := [.agg #[.slice ca cn cc, .slice ia (20 * n) ic, .slice ra rn rc, .slice oa on oc, .slice fa fn fc, .slice pa pn pc]]) Try.func43 rfl rfl ?_
  (repeat' first|refine kW ?_|refine kU fun bk=>?_|refine kV fun hc=>?_|refine kZ (fun hc=>?_) fun hc=>?_|fail)
  refine OW_EV (EV_quoN (20 * n) 20 rfl rfl rfl rfl (by decide) (by omega)) rfl ?_
  rw [show 20 * n / 20 = n from by omega]
  (repeat' first|refine kW ?_|refine kU fun bk=>?_|refine kV fun hc=>?_|refine kZ (fun hc=>?_) fun hc=>?_|fail)
  exact kE
set_option maxHeartbeats 2000000 in
theorem iid_n (x : IxC) (d : List UInt8) (i : Nat) (L : List Chunk) (h : Rs L 1 x.i.v d.length (bsv d)) (hi : 20 * i + 20 ≤ d.length) (hd : d.length ≤ 1000000000) :
    Gv Try.prog 35 [.agg x.vs.toArray, .int .i64 (i : Int)].toArray L (fun r L' => Rs L 1 r ((d.drop (20 * i)).take 20).length (bsv ((d.drop (20 * i)).take 20)) ∧ L' = L) := by
  obtain ⟨⟨ca, cn, cc⟩, ⟨ia, i_n, ic⟩, ⟨ra, rn, rc⟩, ⟨oa, on, oc⟩, ⟨fa, fn, fc⟩, ⟨pa, pn, pc⟩⟩ := x
  simp only [Sc.v] at h
  obtain ⟨r1, q1, e1⟩ := rs_cut (P := Try.prog) (T := 24) h (l := 20 * i) (h := 20 * i + 20) (by omega) hi
  obtain ⟨a', c', hv, hc⟩ := h.room
  injection hv with w1 w2 w3
  subst w1 w2 w3
  rw [show 20 * i + 20 - 20 * i = 20 from by omega] at q1
  refine Gv.of_body (args := [.agg #[.slice ca cn cc, .slice ia d.length ic, .slice ra rn rc, .slice oa on oc, .slice fa fn fc, .slice pa pn pc], .int .i64 (i : Int)]) Try.func35 rfl rfl ?_
  obtain ⟨qa, qc, rfl⟩ := rs_val q1
  (repeat' first|refine kW ?_|refine kU fun bk=>?_|refine kV fun hc=>?_|refine kZ (fun hc=>?_) fun hc=>?_|fail)
  refine OW_EV (e1 rfl (congrArg some (by omega : (i : Int) * 20 = ((20 * i : Nat) : Int))) (congrArg some (by omega : ((i : Int) + 1) * 20 = ((20 * i + 20 : Nat) : Int)))) rfl ?_
  (repeat' first|refine kW ?_|refine kU fun bk=>?_|refine kV fun hc=>?_|refine kZ (fun hc=>?_) fun hc=>?_|fail)
  refine kR ?_
  exact ⟨_, iC, q1, rfl⟩
end
end Go.Proofs.Ytmhlmlkndabgmaa
namespace Go.Proofs.Ytmhlmlkndabgmaa
open Go Go.Vx Go.Ob
set_option linter.all false
variable [W0]
set_option maxRecDepth 4000
omit [W0] in
theorem dgF_eq : ∀ (f n : Nat), n < 10 ^ (f + 1) → dgF (f + 1) n = Lib.decDigits n
  | 0, n, h => by
    unfold dgF
    rw [if_pos (by simpa using h), Lib.decDigits_one (by simpa using h)]
  | f + 1, n, h => by
    rw [Lib.decDigits]
    unfold dgF
    split
    · rfl
    · rw [dgF_eq f (n / 10) (by rw [Nat.pow_succ] at h; omega)]
omit [W0] in
theorem dgL_eq {n : Nat} (h : n < 100000000000000000000) : dgL n = Lib.decDigits n := dgF_eq 19 n h
theorem numdigits_le {u : Nat} (h1 : 1 ≤ u) (h2 : u < 18446744073709551616) : Lib.nDigits u ≤ 20 := by
  have := Lib.numDigits_eq u h1 h2
  split at this <;> omega
theorem numdigits_lt (u : Nat) (h : u < 18446744073709551616) : Lib.nDigits u ≤ 20 := by
  rcases Nat.eq_zero_or_pos u with rfl | h1
  · rw [Lib.nDigits_small (by decide)]; decide
  · exact numdigits_le h1 h
theorem hdL_len (k n : Int) (hn : n ≤ 9223372036854775807) : (hdL k n).length ≤ 28 := by
  have h6 := nmI_len k
  have hd := numdigits_lt (max n 0).toNat (by omega)
  rw [← Lib.decDigits_length] at hd
  unfold hdL
  rw [dgL_eq (by omega)]
  simp only [List.length_append, List.length_cons, List.length_nil]
  omega
theorem digits_n (n : Nat) (L : List Chunk) (hn : n ≤ 9223372036854775807) : GvP Try.prog 8 [.int .i64 (n : Int)].toArray L (.string (str (dgL n))) := by
  refine Gv.of_body Try.func8 rfl rfl ?_
  have hd := numdigits_lt n (by omega)
  rw [← Lib.decDigits_length] at hd
  have hby : ∀ a : Nat, a < 10 → IntKind.u8.wrap (48 + IntKind.u8.wrap (a : Int)) = ((UInt8.ofNat (48 + a)).toNat : Int) := fun a ha => by
    rw [wrap_u8, wrap_u8, UInt8.toNat_ofNat']; omega
  rw [dgL_eq (by omega)]
  (repeat' first|refine kW ?_|refine kU fun bk=>?_|refine kV fun hc=>?_|refine kZ (fun hc=>?_) fun hc=>?_|fail)
  refine WC_loop (X := Nat × List UInt8) (fun x => [(0, .int .i64 (x.1 : Int)), (3, .string (str x.2))]) (fun _ => L) (fun x => x.1 ≤ n ∧ Lib.decDigits x.1 ++ x.2 = Lib.decDigits n) (fun x => x.1) (n, []) ⟨Nat.le_refl _, by simp⟩ iS (fun w h => h) ?_
  intro x ⟨h1, h2⟩
  obtain ⟨k, s⟩ := x
  simp only at h1 h2 ⊢
  have hsl : (Lib.decDigits k).length + s.length ≤ 20 := by rw [← List.length_append, h2]; exact hd
  (repeat' first|refine kW ?_|refine kU fun bk=>?_|refine kV fun hc=>?_|refine kZ (fun hc=>?_) fun hc=>?_|fail)
  · refine OW_EV (EV_remN k 10 rfl rfl rfl rfl (by decide)) rfl ?_
    (repeat' first|refine kW ?_|refine kU fun bk=>?_|refine kV fun hc=>?_|refine kZ (fun hc=>?_) fun hc=>?_|fail)
    refine OW_EV (EV_ari rfl rfl rfl) rfl ?_
    obtain ⟨c, hcq⟩ : ∃ c, c = UInt8.ofNat (48 + k % 10) := ⟨_, rfl⟩
    rw [hby _ (by omega), ← hcq]
    (repeat' first|refine kW ?_|refine kU fun bk=>?_|refine kV fun hc=>?_|refine kZ (fun hc=>?_) fun hc=>?_|fail)
    refine OW_buildSlice (cs := bsv [c]) rfl (by rfl) (by simp [fillL, patch, Value.cells, zeros]; rfl) (by omega) rfl rfl (fun b1 => ?_)
    (repeat' first|refine kW ?_|refine kU fun bk=>?_|refine kV fun hc=>?_|refine kZ (fun hc=>?_) fun hc=>?_|fail)
    refine OW_EV (EV_convStr (b := [c]) (m := 1) rfl (sl_cells Fnd.here rfl (by simp))) rfl ?_
    (repeat' first|refine kW ?_|refine kU fun bk=>?_|refine kV fun hc=>?_|refine kZ (fun hc=>?_) fun hc=>?_|fail)
    refine OW_EV (EV_catL [c] s rfl rfl (by simp; omega)) rfl ?_
    (repeat' first|refine kW ?_|refine kU fun bk=>?_|refine kV fun hc=>?_|refine kZ (fun hc=>?_) fun hc=>?_|fail)
    refine OW_EV (EV_quoN k 10 rfl rfl rfl rfl (by decide) (by omega)) rfl ?_
    (repeat' first|refine kW ?_|refine kU fun bk=>?_|refine kV fun hc=>?_|refine kZ (fun hc=>?_) fun hc=>?_|fail)
    refine WQ_round (X := Nat × List UInt8) (μ := fun x => x.1) (x := (k, s)) (k / 10, [c] ++ s) (by simp only; omega) ⟨by simp only; omega, ?_⟩ iS (fun w h => iH h)
    rw [← h2]
    simp only [hcq]
    conv => rhs; rw [Lib.decDigits, dif_neg (by omega)]
    simp
  · refine OW_EV (EV_ari rfl rfl rfl) rfl ?_
    obtain ⟨c, hcq⟩ : ∃ c, c = UInt8.ofNat (48 + k) := ⟨_, rfl⟩
    rw [hby k (by omega), ← hcq]
    (repeat' first|refine kW ?_|refine kU fun bk=>?_|refine kV fun hc=>?_|refine kZ (fun hc=>?_) fun hc=>?_|fail)
    refine OW_buildSlice (cs := bsv [c]) rfl (by rfl) (by simp [fillL, patch, Value.cells, zeros]; rfl) (by omega) rfl rfl (fun b1 => ?_)
    (repeat' first|refine kW ?_|refine kU fun bk=>?_|refine kV fun hc=>?_|refine kZ (fun hc=>?_) fun hc=>?_|fail)
    refine OW_EV (EV_convStr (b := [c]) (m := 1) rfl (sl_cells Fnd.here rfl (by simp))) rfl ?_
    (repeat' first|refine kW ?_|refine kU fun bk=>?_|refine kV fun hc=>?_|refine kZ (fun hc=>?_) fun hc=>?_|fail)
    refine OW_EV (EV_catL [c] s rfl rfl (by simp; omega)) rfl ?_
    (repeat' first|refine kW ?_|refine kU fun bk=>?_|refine kV fun hc=>?_|refine kZ (fun hc=>?_) fun hc=>?_|fail)
    refine kR ?_
    refine ⟨L, iC, ?_, rfl⟩
    rw [← h2, Lib.decDigits_one (by omega), ← hcq]
    rfl
theorem refheader_n (k n : Int) (L : List Chunk) (hn : n ≤ 9223372036854775807) : GvP Try.prog 19 [.int .i64 k, .int .i64 n].toArray L (.string (str (hdL k n))) := by
  refine Gv.of_body (args := [.int .i64 k, .int .i64 n]) Try.func19 rfl rfl ?_
  (repeat' first|refine kW ?_|refine kU fun bk=>?_|refine kV fun hc=>?_|refine kZ (fun hc=>?_) fun hc=>?_|fail)
  have h6 := nmI_len k
  refine OW_callP rfl rfl rfl (refname_n k _) rfl ?_
  (repeat' first|refine kW ?_|refine kU fun bk=>?_|refine kV fun hc=>?_|refine kZ (fun hc=>?_) fun hc=>?_|fail)
  refine OW_EV (EV_catL (nmI k) [32] rfl rfl (by simp; omega)) rfl ?_
  (repeat' first|refine kW ?_|refine kU fun bk=>?_|refine kV fun hc=>?_|refine kZ (fun hc=>?_) fun hc=>?_|fail)
  obtain ⟨i, hi⟩ : ∃ i : Nat, max n 0 = (i : Int) := ⟨(max n 0).toNat, by omega⟩
  rw [hi]
  have hi2 : i ≤ 9223372036854775807 := by omega
  have hd := numdigits_lt i (by omega)
  rw [← Lib.decDigits_length, ← dgL_eq (by omega)] at hd
  refine OW_callP rfl rfl rfl (digits_n i _ hi2) rfl ?_
  (repeat' first|refine kW ?_|refine kU fun bk=>?_|refine kV fun hc=>?_|refine kZ (fun hc=>?_) fun hc=>?_|fail)
  refine OW_EV (EV_catL (nmI k ++ [32]) (dgL i) rfl rfl (by simp; omega)) rfl ?_
  (repeat' first|refine kW ?_|refine kU fun bk=>?_|refine kV fun hc=>?_|refine kZ (fun hc=>?_) fun hc=>?_|fail)
  refine OW_EV (EV_catL (nmI k ++ [32] ++ dgL i) [0] rfl rfl (by simp; omega)) rfl ?_
  (repeat' first|refine kW ?_|refine kU fun bk=>?_|refine kV fun hc=>?_|refine kZ (fun hc=>?_) fun hc=>?_|fail)
  refine kR ?_
  exact ⟨_, iC, by unfold hdL; rw [hi, Int.toNat_natCast]; rfl, rfl⟩
theorem refid_n (k : Int) (t : List UInt8) (L : List Chunk) (ht : t.length ≤ 140737488350000) : GvP Try.prog 7 [.int .i64 k, .string (str t)].toArray L (.string (str (idL k t))) := by
  refine Gv.of_body (args := [.int .i64 k, .string (str t)]) Try.func7 rfl rfl ?_
  (repeat' first|refine kW ?_|refine kU fun bk=>?_|refine kV fun hc=>?_|refine kZ (fun hc=>?_) fun hc=>?_|fail)
  refine OW_callP rfl rfl rfl (refheader_n k _ _ (by rw [str_size]; omega)) rfl ?_
  rw [str_size]
  have hl := hdL_len k t.length (by omega)
  (repeat' first|refine kW ?_|refine kU fun bk=>?_|refine kV fun hc=>?_|refine kZ (fun hc=>?_) fun hc=>?_|fail)
  refine OW_EV (EV_catL (hdL k t.length) t rfl rfl (by omega)) rfl ?_
  (repeat' first|refine kW ?_|refine kU fun bk=>?_|refine kV fun hc=>?_|refine kZ (fun hc=>?_) fun hc=>?_|fail)
  refine OW_call rfl rfl rfl (refsha_n (hdL k t.length ++ t) _ (by rw [List.length_append]; omega)) rfl (fun r L' hp => ?_)
  obtain ⟨C2, rfl, h2⟩ := hp
  (repeat' first|refine kW ?_|refine kU fun bk=>?_|refine kV fun hc=>?_|refine kZ (fun hc=>?_) fun hc=>?_|fail)
  refine OW_callP rfl rfl rfl (refhex_n (shaN (hdL k t.length ++ t)) _ _ (by rw [shaN_length]; decide) (by rw [shaN_length]; exact SlC.ow h2)) rfl ?_
  (repeat' first|refine kW ?_|refine kU fun bk=>?_|refine kV fun hc=>?_|refine kZ (fun hc=>?_) fun hc=>?_|fail)
  exact kE
end Go.Proofs.Ytmhlmlkndabgmaa
namespace Go.Proofs.Ytmhlmlkndabgmaa
open Go Go.Shelf Go.Proofs
set_option linter.all false
set_option maxRecDepth 100000
abbrev utOk (_ : World) : Prop := True
abbrev mxOk (_ : World) (_ : Int) : Prop := True
end Go.Proofs.Ytmhlmlkndabgmaa
namespace Go.Proofs.Ytmhlmlkndabgmaa
open Go Go.Vx Go.Ob Go.RowKit
set_option linter.all false
set_option maxRecDepth 4000
variable [W0]
structure BsAt (L : List Chunk) : Prop where
  ut : ∀ w, Vx.Holds w L → utOk w
  mx : ∃ m, ∀ w, Vx.Holds w L → mxOk w m
  pw : ∀ w, Vx.Holds w L → Lib.TabIs Try.prog w "internal/strconv.uint64pow10" .u64 Lib.pow10Tab
theorem BsAt.of {S L : List Chunk} (h : BsAt S) (hi : ∀ w, Vx.Holds w L → Vx.Holds w S) : BsAt L :=
  ⟨fun w hw => h.ut w (hi w hw), h.mx.imp fun m hm w hw => hm w (hi w hw), fun w hw => h.pw w (hi w hw)⟩
theorem BsAt.inc {S L : List Chunk} (h : BsAt S) (hi : Inc S L) : BsAt L := h.of fun w hw => hi.holds hw
theorem BsAt.there {L : List Chunk} {C : Chunk} (h : BsAt L) : BsAt (C :: L) := h.of fun w hw => hw.drop
end Go.Proofs.Ytmhlmlkndabgmaa
namespace Go.Proofs.Ytmhlmlkndabgmaa
open Go Go.Vx Go.Ob
set_option linter.all false
variable [W0]
set_option maxRecDepth 4000
theorem hash_n (s : List UInt8) (L : List Chunk) (hs : s.length ≤ 9223372036854775807) : GvP Try.prog 22 [.string (str s)].toArray L (.bool (hshB s)) := by
  refine Gv.of_body Try.func22 rfl rfl ?_
  (repeat' first|refine kW ?_|refine kU fun bk=>?_|refine kV fun hc=>?_|refine kZ (fun hc=>?_) fun hc=>?_|fail)
  · rw [str_size] at hc
    refine kR ?_
    exact ⟨_, iC, by unfold hshB; rw [decide_eq_false (by omega)]; rfl, rfl⟩
  · rw [str_size] at hc
    refine OW_call rfl rfl rfl (unhex_n s L (by omega)) rfl (fun r L' hp => ?_)
    obtain ⟨v, C, rfl, rfl, ho⟩ := hp
    (repeat' first|refine kW ?_|refine kU fun bk=>?_|refine kV fun hc=>?_|refine kZ (fun hc=>?_) fun hc=>?_|fail)
    refine kR ?_
    exact ⟨L, iC, by unfold hshB; rw [decide_eq_true (by omega)]; rfl, rfl⟩
end Go.Proofs.Ytmhlmlkndabgmaa
namespace Go.Proofs.Ytmhlmlkndabgmaa
open Go Go.Vx Go.Pk Go.Ix
open Go.Ob (hshB)
set_option linter.all false
set_option maxRecDepth 4000
section
variable [W0]
def okI (x : Obv) : Prop := hshB x.1.1.id = true ∧ 0 ≤ x.1.1.at_ ∧ x.1.1.at_ ≤ 4611686018427387904
structure IxOk (l : List Obv) (p : List UInt8) : Prop where
  len : l.length ≤ 4096
  pk : hshB p = true
  ok : ∀ x ∈ l, okI x
  one : (l.map fun x => x.1.1.id).Nodup
def fanI (s : List Obv) (c : Nat) : Nat := (s.takeWhile fun x => decide (((unL x.1.1.id).getD 0 0).toNat ≤ c)).length
def ixF (s : List Obv) (c : Nat) : List UInt8 := (List.range c).flatMap fun i => wd (fanI s i)
def ixR (s : List Obv) : List UInt8 := s.flatMap fun x => unL x.1.1.id
def ixC (s : List Obv) : List UInt8 := s.flatMap fun x => wb x.1.1.crc
def farB (x : Obv) : Bool := decide (2147483648 ≤ x.1.1.at_)
def farK (s : List Obv) : Nat := (s.filter farB).length
def ixO : Nat → List Obv → List UInt8
  | _, [] => []
  | k, x :: r => (if farB x then wd (2147483648 + k) else wd x.1.1.at_.toNat) ++ ixO (if farB x then k + 1 else k) r
def ixL (s : List Obv) : List UInt8 := (s.filter farB).flatMap fun x => wd8 x.1.1.at_.toNat
def mgI : List UInt8 := [255, 116, 79, 99, 0, 0, 0, 2]
def ixB (s : List Obv) (p : List UInt8) : List UInt8 := mgI ++ ixF s 256 ++ ixR s ++ ixC s ++ ixO 0 s ++ ixL s ++ unL p
def ixW (s : List Obv) (p : List UInt8) : List UInt8 := ixB s p ++ shaN (ixB s p)
theorem farK_snoc (a : List Obv) (x : Obv) : farK (a ++ [x]) = if farB x then farK a + 1 else farK a := by
  unfold farK
  rw [List.filter_append, List.length_append]
  by_cases h : farB x = true
  · rw [if_pos h, List.filter_cons, if_pos h]; rfl
  · rw [if_neg h, List.filter_cons, if_neg h]; rfl
theorem ixO_snoc : ∀ (a : List Obv) (k : Nat) (x : Obv), ixO k (a ++ [x]) = ixO k a ++ (if farB x then wd (2147483648 + (k + farK a)) else wd x.1.1.at_.toNat)
  | [], k, x => by
    rw [List.nil_append, ixO, ixO, ixO]
    simp [farK]
  | y :: a, k, x => by
    rw [List.cons_append, ixO, ixO, ixO_snoc a, List.append_assoc]
    have e : farK (y :: a) = if farB y then farK a + 1 else farK a := by
      unfold farK
      by_cases h : farB y = true
      · rw [List.filter_cons, if_pos h, if_pos h]; rfl
      · rw [List.filter_cons, if_neg h, if_neg h]
    rw [e]
    by_cases h : farB y = true
    · simp only [if_pos h]
      rw [show k + 1 + farK a = k + (farK a + 1) from by omega]
    · simp only [if_neg h]
theorem adj_nodup : ∀ {s : List Obv}, SrtI s → (∀ (j : Nat) (a b : Obv), s[j]? = some a → s[j + 1]? = some b → b.1.1.id ≠ a.1.1.id) → (s.map fun x => x.1.1.id).Nodup
  | [], _, _ => by simp
  | [x], _, _ => by simp
  | x :: y :: r, h, hn => by
    have h' := h
    rw [SrtI, List.pairwise_cons] at h
    have ih := adj_nodup (s := y :: r) h.2 fun j a b ha hb => hn (j + 1) a b ha hb
    have hxy := hn 0 x y rfl rfl
    rw [List.map_cons, List.nodup_cons]
    refine ⟨fun hm => ?_, ih⟩
    obtain ⟨z, hz, e⟩ := List.mem_map.1 hm
    have h1 := h.1 y (by simp)
    rcases List.mem_cons.1 hz with rfl | hz
    · exact hxy e
    · rw [List.pairwise_cons] at h
      have h2 := h.2.1 z hz
      rw [e] at h2
      rcases bl_tot _ _ hxy with w | w
      · rw [w] at h1; cases h1
      · rw [w] at h2; cases h2
theorem ixL_len (s : List Obv) : (ixL s).length = 8 * farK s := by
  unfold ixL farK
  generalize s.filter farB = l
  induction l with
  | nil => rfl
  | cons x l ih => rw [List.flatMap_cons, List.length_append, ih, wd8_len, List.length_cons]; omega
theorem un_len {s : List UInt8} (h : hshB s = true) : (unL s).length = 20 := by
  unfold Go.Ob.hshB at h
  rw [Bool.and_eq_true, decide_eq_true_iff] at h
  unfold unL
  rw [if_pos h.2, outN_length, h.1]
theorem ixR_len : ∀ {s : List Obv}, (∀ x ∈ s, okI x) → (ixR s).length = 20 * s.length
  | [], _ => rfl
  | x :: s, h => by
    unfold ixR
    rw [List.flatMap_cons, List.length_append, un_len (h x (by simp)).1, List.length_cons]
    have := ixR_len (s := s) fun y hy => h y (List.mem_cons_of_mem _ hy)
    unfold ixR at this
    omega
theorem ixR_snoc (a : List Obv) (x : Obv) : ixR (a ++ [x]) = ixR a ++ unL x.1.1.id := by unfold ixR; rw [List.flatMap_append]; simp
theorem ixC_snoc (a : List Obv) (x : Obv) : ixC (a ++ [x]) = ixC a ++ wb x.1.1.crc := by unfold ixC; rw [List.flatMap_append]; simp
theorem ixF_snoc (s : List Obv) (c : Nat) : ixF s (c + 1) = ixF s c ++ wd (fanI s c) := by unfold ixF; rw [List.range_succ, List.flatMap_append]; simp
theorem ixL_snoc (a : List Obv) (x : Obv) : ixL (a ++ [x]) = if farB x then ixL a ++ wd8 x.1.1.at_.toNat else ixL a := by
  unfold ixL
  rw [List.filter_append, List.flatMap_append]
  by_cases h : farB x = true
  · rw [if_pos h, List.filter_cons, if_pos h]; simp
  · rw [if_neg h, List.filter_cons, if_neg h]; simp
theorem ixF_len (s : List Obv) (c : Nat) : (ixF s c).length = 4 * c := by
  induction c with
  | zero => rfl
  | succ c ih => rw [ixF_snoc, List.length_append, ih, wd_len]; omega
theorem ixC_len (s : List Obv) : (ixC s).length = 4 * s.length := by
  unfold ixC
  induction s with
  | nil => rfl
  | cons x s ih => rw [List.flatMap_cons, List.length_append, ih, List.length_cons]; show 4 + _ = _; omega
theorem ixO_len : ∀ (s : List Obv) (k : Nat), (ixO k s).length = 4 * s.length
  | [], k => rfl
  | x :: s, k => by
    rw [ixO, List.length_append, ixO_len s, List.length_cons]
    by_cases h : farB x = true
    · rw [if_pos h, wd_len]; omega
    · rw [if_neg h, wd_len]; omega
theorem farK_le (s : List Obv) : farK s ≤ s.length := List.length_filter_le _ _
def fanP (s : List Obv) : Nat → Nat
  | 0 => 0
  | c + 1 => fanI s c
theorem tw_le {α : Type} {P Q : α → Bool} (h : ∀ x, P x = true → Q x = true) : ∀ (l : List α), (l.takeWhile P).length ≤ (l.takeWhile Q).length
  | [] => Nat.le_refl _
  | x :: l => by
    rw [List.takeWhile_cons, List.takeWhile_cons]
    by_cases q : P x = true
    · rw [if_pos q, if_pos (h x q), List.length_cons, List.length_cons]
      exact Nat.succ_le_succ (tw_le h l)
    · rw [if_neg q]; exact Nat.zero_le _
theorem tw_at {α : Type} {P : α → Bool} : ∀ {l : List α} {n : Nat} {x : α}, l[n]? = some x → n ≤ (l.takeWhile P).length → (n < (l.takeWhile P).length ↔ P x = true)
  | [], n, x, h, _ => by simp at h
  | y :: l, 0, x, h, _ => by
    simp at h; subst h
    rw [List.takeWhile_cons]
    by_cases q : P y = true
    · rw [if_pos q]; simp [q]
    · rw [if_neg q]; simp [q]
  | y :: l, n + 1, x, h, hn => by
    rw [List.takeWhile_cons] at hn ⊢
    by_cases q : P y = true
    · rw [if_pos q] at hn ⊢
      have := tw_at (P := P) (l := l) (n := n) (x := x) (by simpa using h) (by simpa using hn)
      simpa using this
    · rw [if_neg q] at hn; simp at hn
theorem fanP_le (s : List Obv) : ∀ c, fanP s c ≤ fanI s c
  | 0 => Nat.zero_le _
  | c + 1 => tw_le (fun x h => by have := of_decide_eq_true h; exact decide_eq_true (by omega)) s
theorem fanI_le (s : List Obv) (c : Nat) : fanI s c ≤ s.length := (List.takeWhile_sublist _).length_le
theorem fan_at {s : List Obv} {n c : Nat} {x : Obv} (hx : s[n]? = some x) (hn : n ≤ fanI s c) : (n < fanI s c ↔ ((unL x.1.1.id).getD 0 0).toNat ≤ c) := by
  have := tw_at (P := fun x : Obv => decide (((unL x.1.1.id).getD 0 0).toNat ≤ c)) hx hn
  rw [decide_eq_true_iff] at this
  exact this
end
end Go.Proofs.Ytmhlmlkndabgmaa
namespace Go.Proofs.Ytmhlmlkndabgmaa
open Go Go.Vx Go.Pk Go.Ix
open Go.Ob (hshB)
set_option linter.all false
set_option maxRecDepth 40000
section
variable [W0]
set_option maxHeartbeats 8000000 in
theorem iaddoff_n (p : Nat) (v0 v1 v2 ov fv v5 : Value) (a : Nat) (O F : List UInt8) (Co Cf : Chunk) (L : List Chunk) (h0 : v0.oneCell' = true) (h1 : v1.oneCell' = true) (h2 : v2.oneCell' = true) (h5 : v5.oneCell' = true)
    (ho : Ow 5 1 ov O.length (bsv O) Co) (hf : Ow 5 1 fv F.length (bsv F) Cf) (ha : a ≤ 4611686018427387904) (hO : O.length ≤ 1000000) (hF : F.length ≤ 1000000) (k : Nat) (hk : F.length = 8 * k) :
    Gv Try.prog 55 [.pointer (some ⟨p, 0, none⟩), .int .u64 (a : Int)].toArray ([(p, cl [v0, v1, v2, ov, fv, v5] 61)] :: Co :: Cf :: L) (fun r L' => r = .tuple #[] ∧ ∃ ov' fv' Co' Cf',
      Ow 5 1 ov' (O ++ (if 2147483648 ≤ a then wd (2147483648 + k) else wd a)).length (bsv (O ++ (if 2147483648 ≤ a then wd (2147483648 + k) else wd a))) Co' ∧
      Ow 5 1 fv' (if 2147483648 ≤ a then F ++ wd8 a else F).length (bsv (if 2147483648 ≤ a then F ++ wd8 a else F)) Cf' ∧
      L' = [(p, cl [v0, v1, v2, ov', fv', v5] 61)] :: Co' :: Cf' :: L) := by
  obtain ⟨oa, oc, rfl⟩ := ow_slc ho
  obtain ⟨fa, fc, rfl⟩ := ow_slc hf
  refine Gv.of_body (args := [.pointer (some ⟨p, 0, none⟩), .int .u64 (a : Int)]) Try.func55 rfl rfl ?_
  by_cases hfar : 2147483648 ≤ a
  · rw [if_pos hfar, if_pos hfar]
    (repeat' first|refine kY ?_|refine kU fun bk=>?_|refine kV fun hc=>?_|refine kZ (fun hc=>?_) fun hc=>?_|fail)
    repeat refine WC_seq ?_
    refine WC_region ?_
    refine WL_plain rfl ?_
    refine OW_EV (EV_move rfl) rfl ?_
    refine WL_plain rfl ?_
    refine OW_EV (EV_cmp (b := false) rfl rfl (by show some (decide ((a : Int) < 2147483648)) = some false; rw [decide_eq_false (by omega)])) rfl ?_
    ((repeat' first|refine kW ?_|refine kU fun bk=>?_|refine kV fun hc=>?_|refine kZ (fun hc=>?_) fun hc=>?_|fail) <;> try exact absurd trivial hc)
    refine WC_drawAll [0, 13, 14, 15, 16] mixed ?_
    (refine WR_f 0 ?_)
    (refine WR_t2 1 ?_; refine WR_t2 2 ?_; refine WR_t2 3 ?_; refine WR_t2 4 ?_; refine WR_t2 5 ?_; refine WR_t2 6 ?_; refine WR_t2 7 ?_; refine WR_t2 8 ?_; refine WR_t2 9 ?_)
    (refine WR_take2 10 rfl rfl (by kernel_rfl) iP iC (EV_quoN (8 * k) 8 rfl rfl (by rw [hk]) rfl (by decide) (by omega)) (by rfl) ?_)
    rw [show 8 * k / 8 = k from by omega]
    (refine WR_t2 11 ?_)
    (refine WR_take2 12 rfl rfl (by kernel_rfl) iP iC (EV_nor' (k := .u64) k 1 31 rfl rfl rfl rfl rfl (by omega) (by show k + 1 * 2 ^ 31 < 2 ^ 64; omega)) (by rfl) ?_)
    rw [show k + 1 * 2 ^ 31 = 2147483648 + k from by omega]
    (refine WR_last 13 (by kernel_rfl) rfl rfl rfl ?_)
    refine OW_call rfl rfl rfl (Gv.take (iadd_n _ O (2147483648 + k) 4 Co _ ho (by decide) (by omega) hO) (by repeat (first | exact Take.here | apply Take.there))) rfl (fun r L' hp => ?_)
    obtain ⟨Co', ho', rfl⟩ := hp
    rw [beB_4] at ho'
    have hone := ow_one ho'
    obtain ⟨oa', oc', rfl⟩ := ow_slc ho'
    (refine WR_last 14 (by kernel_rfl) rfl rfl rfl ?_)
    refine OW_EV (EV_nilCheck rfl) rfl ?_
    (refine WR_last 15 (by kernel_rfl) rfl rfl rfl ?_)
    refine OW_EV (EV_fieldAddr rfl) rfl ?_
    (refine WR_last 16 (by kernel_rfl) rfl rfl rfl ?_)
    refine OW_storeTo (l := [v0, v1, v2, .slice oa O.length oc, .slice fa F.length fc, v5]) [v0, v1, v2, .slice oa' (O ++ wd (2147483648 + k)).length oc', .slice fa F.length fc, v5] rfl rfl rfl rfl iU (by simp) ?_
    (refine WR_done (by kernel_rfl) ?_)
    ((repeat' first|refine kW ?_|refine kU fun bk=>?_|refine kV fun hc=>?_|refine kZ (fun hc=>?_) fun hc=>?_|fail) <;> try exact absurd trivial hc)
    refine OW_call rfl rfl rfl (Gv.take (iadd_n _ F a 8 Cf _ hf (by decide) (by omega) hF) (by repeat (first | exact Take.here | apply Take.there))) rfl (fun r L' hp => ?_)
    obtain ⟨Cf', hf', rfl⟩ := hp
    rw [beB_8] at hf'
    have hone2 := ow_one hf'
    obtain ⟨fa', fc', rfl⟩ := ow_slc hf'
    ((repeat' first|refine kW ?_|refine kU fun bk=>?_|refine kV fun hc=>?_|refine kZ (fun hc=>?_) fun hc=>?_|fail) <;> try exact absurd trivial hc)
    refine kR ?_
    exact ⟨[(p, cl [v0, v1, v2, .slice oa' (O ++ wd (2147483648 + k)).length oc', .slice fa' (F ++ wd8 a).length fc', v5] 61)] :: Co' :: Cf' :: L, iC, rfl, _, _, Co', Cf', ho', hf', rfl⟩
  · rw [if_neg hfar, if_neg hfar]
    (repeat' first|refine kY ?_|refine kU fun bk=>?_|refine kV fun hc=>?_|refine kZ (fun hc=>?_) fun hc=>?_|fail)
    repeat refine WC_seq ?_
    refine WC_region ?_
    refine WL_plain rfl ?_
    refine OW_EV (EV_move rfl) rfl ?_
    refine WL_plain rfl ?_
    refine OW_EV (EV_cmp (b := true) rfl rfl (by show some (decide ((a : Int) < 2147483648)) = some true; rw [decide_eq_true (by omega)])) rfl ?_
    ((repeat' first|refine kW ?_|refine kU fun bk=>?_|refine kV fun hc=>?_|refine kZ (fun hc=>?_) fun hc=>?_|fail) <;> try exact absurd trivial hc)
    refine OW_call rfl rfl rfl (Gv.take (iadd_n _ O a 4 Co _ ho (by decide) (by omega) hO) (by repeat (first | exact Take.here | apply Take.there))) rfl (fun r L' hp => ?_)
    obtain ⟨Co', ho', rfl⟩ := hp
    rw [beB_4] at ho'
    have hone := ow_one ho'
    obtain ⟨oa', oc', rfl⟩ := ow_slc ho'
    (repeat' first|refine kW ?_|refine kU fun bk=>?_|refine kV fun hc=>?_|refine kZ (fun hc=>?_) fun hc=>?_|fail)
    refine kR ?_
    exact ⟨[(p, cl [v0, v1, v2, .slice oa' (O ++ wd a).length oc', .slice fa F.length fc, v5] 61)] :: Co' :: Cf :: L, iC, rfl, _, _, Co', Cf, ho', hf, rfl⟩
end
end Go.Proofs.Ytmhlmlkndabgmaa
namespace Go.Ix
open Go
set_option linter.all false
def nmB (b : List UInt8) (at_ n : Nat) : Nat := gv ((b.drop at_).take n)
theorem nmB_lt {b : List UInt8} {at_ n : Nat} (h : at_ + n ≤ b.length) : nmB b at_ n < 256 ^ n := by
  have := gv_lt ((b.drop at_).take n)
  rwa [List.length_take, List.length_drop, Nat.min_eq_left (by omega)] at this
def fnB (b : List UInt8) (c : Nat) : Nat := nmB b (8 + 4 * c) 4
def pxN (b : List UInt8) : Nat := fnB b 255
def pxP (b : List UInt8) (i : Nat) : Nat := nmB b (1032 + 24 * pxN b + 4 * i) 4
def pxF (b : List UInt8) (i : Nat) : Bool := decide (2147483648 ≤ pxP b i)
def pxK (b : List UInt8) (i : Nat) : Nat := ((List.range i).filter (pxF b)).length
def pxId (b : List UInt8) (i : Nat) : List UInt8 := (b.drop (1032 + 20 * i)).take 20
def pxH (b : List UInt8) (i : Nat) : Nat := ((pxId b i).getD 0 0).toNat
def pxLo (b : List UInt8) (i : Nat) : Nat := if pxH b i = 0 then 0 else fnB b (pxH b i - 1)
def pxAt (b : List UInt8) (i : Nat) : Nat := if pxF b i then nmB b (1032 + 28 * pxN b + 8 * pxK b i) 8 else pxP b i
def pxC (b : List UInt8) (i : Nat) : BitVec 32 := BitVec.ofNat 32 (nmB b (1032 + 20 * pxN b + 4 * i) 4)
def pxR (b : List UInt8) (i : Nat) : Prop := (0 < i → Op.bytesLess (pxId b (i - 1)) (pxId b i) = true) ∧ pxLo b i ≤ i ∧ i < fnB b (pxH b i) ∧ (pxF b i = true → pxP b i = 2147483648 + pxK b i ∧ 2147483648 ≤ pxAt b i ∧ pxAt b i ≤ 4611686018427387904)
structure PxOk (b : List UInt8) : Prop where
  mg : b.take 8 = [255, 116, 79, 99, 0, 0, 0, 2]
  fan : ∀ c, c < 255 → fnB b c ≤ fnB b (c + 1)
  most : pxN b ≤ 4096
  len : b.length = 1072 + 28 * pxN b + 8 * pxK b (pxN b)
  rows : ∀ i, i < pxN b → pxR b i
theorem pxK_succ (b : List UInt8) (i : Nat) : pxK b (i + 1) = if pxF b i then pxK b i + 1 else pxK b i := by
  unfold pxK
  rw [List.range_succ, List.filter_append, List.length_append]
  by_cases h : pxF b i = true
  · rw [if_pos h, List.filter_cons, if_pos h]; rfl
  · rw [if_neg h, List.filter_cons, if_neg h]; rfl
theorem pxK_le (b : List UInt8) (i : Nat) : pxK b i ≤ i := by
  unfold pxK
  exact Nat.le_trans (List.length_filter_le _ _) (by rw [List.length_range]; exact Nat.le_refl _)
theorem pxK_mono {b : List UInt8} : ∀ {i j : Nat}, i ≤ j → pxK b i ≤ pxK b j := fun {i j} h => by
  induction h with
  | refl => exact Nat.le_refl _
  | step h ih => rw [pxK_succ]; split <;> omega
end Go.Ix
namespace Go.Proofs.Ytmhlmlkndabgmaa
open Go Go.Vx Go.Pk Go.Ix
set_option linter.all false
set_option maxRecDepth 40000
section
variable [W0]
def pxO (b : List UInt8) (i : Nat) : Obv := ⟨(⟨0, [], hexL (pxId b i), (pxAt b i : Int), pxC b i⟩, .slice none 0 0), none, 0, 0, rfl⟩
def pxL (b : List UInt8) : List Obv := (List.range (pxN b)).map (pxO b)
def pxSum (b : List UInt8) : Prop := shaN (b.take (b.length - 20)) = b.drop (b.length - 20)
instance (b : List UInt8) : Decidable (pxSum b) := by unfold pxSum; exact inferInstance
noncomputable def pxE (b : List UInt8) : Nat := if b.length < 1072 then 4 else @ite Nat (PxOk b) (Classical.propDecidable _) (if pxSum b then 0 else 6) 3
theorem pxE_torn {b : List UInt8} (h : b.length < 1072) : pxE b = 4 := by unfold pxE; rw [if_pos h]
theorem pxE_form {b : List UInt8} (h : ¬ b.length < 1072) (h2 : ¬ PxOk b) : pxE b = 3 := by unfold pxE; rw [if_neg h, if_neg h2]
theorem pxE_sum {b : List UInt8} (h : ¬ b.length < 1072) (h2 : PxOk b) (h3 : ¬ pxSum b) : pxE b = 6 := by unfold pxE; rw [if_neg h, if_pos h2, if_neg h3]
theorem pxE_ok {b : List UInt8} (h : ¬ b.length < 1072) (h2 : PxOk b) (h3 : pxSum b) : pxE b = 0 := by unfold pxE; rw [if_neg h, if_pos h2, if_pos h3]
def pxPk (b : List UInt8) : List UInt8 := hexL ((b.drop (b.length - 40)).take 20)
end
end Go.Proofs.Ytmhlmlkndabgmaa
namespace Go.Proofs.Ytmhlmlkndabgmaa
open Go Go.Vx Go.Pk Go.Ix
open Go.Ob (hshB)
set_option linter.all false
set_option maxRecDepth 4000
section
variable [W0]
theorem gv_app : ∀ (b a : List UInt8), gv (a ++ b) = gv a * 256 ^ b.length + gv b := by
  intro b
  induction h : b.length generalizing b with
  | zero => intro a; rw [List.eq_nil_of_length_eq_zero h]; simp [gv]
  | succ n ih =>
    intro a
    have hne : b ≠ [] := fun w => by rw [w] at h; cases h
    have e := List.dropLast_concat_getLast hne
    rw [← e, ← List.append_assoc, gv_snoc, gv_snoc, ih b.dropLast (by rw [List.length_dropLast]; omega), Nat.pow_succ]
    generalize 256 ^ n = q
    rw [Nat.mul_add, show gv a * (q * 256) = 256 * (gv a * q) from by rw [← Nat.mul_assoc]; exact Nat.mul_comm _ _]
    omega
theorem gv_wb (w : BitVec 32) : gv (wb w) = w.toNat := by
  have h := w.isLt
  unfold gv wb w2b
  simp only [List.foldl_cons, List.foldl_nil, BitVec.toNat_ushiftRight, Nat.shiftRight_eq_div_pow, UInt8.toNat_ofNat']
  omega
theorem gv_wd {n : Nat} (h : n < 4294967296) : gv (wd n) = n := by
  unfold wd
  rw [gv_wb, BitVec.toNat_ofNat, Nat.mod_eq_of_lt (by omega)]
theorem gv_wd8 {n : Nat} (h : n < 18446744073709551616) : gv (wd8 n) = n := by
  unfold wd8
  rw [gv_app, wd_len]
  unfold wd
  rw [gv_wb, gv_wb, BitVec.toNat_ofNat, BitVec.toNat_ofNat]
  omega
theorem pc_in (A B R : List UInt8) {i k : Nat} (h : i + k ≤ B.length) : ((A ++ (B ++ R)).drop (A.length + i)).take k = (B.drop i).take k := by
  rw [List.drop_append, List.drop_eq_nil_of_le (by omega), List.nil_append, Nat.add_sub_cancel_left, List.drop_append_of_le_length (by omega), List.take_append_of_le_length (by rw [List.length_drop]; omega)]
theorem fm_piece {α : Type} {f : α → List UInt8} {k : Nat} : ∀ {l : List α} {i : Nat} {x : α}, (∀ y ∈ l, (f y).length = k) → l[i]? = some x → ((l.flatMap f).drop (k * i)).take k = f x
  | [], i, x, _, h => by simp at h
  | y :: l, 0, x, hk, h => by
    simp at h; subst h
    have := hk y (by simp)
    rw [List.flatMap_cons, Nat.mul_zero, List.drop_zero, List.take_append_of_le_length (by omega), List.take_of_length_le (by omega)]
  | y :: l, i + 1, x, hk, h => by
    have h1 := hk y (by simp)
    have ih := fm_piece (f := f) (k := k) (l := l) (i := i) (x := x) (fun z hz => hk z (List.mem_cons_of_mem _ hz)) (by simpa using h)
    rw [List.flatMap_cons, List.drop_append, List.drop_eq_nil_of_le (by rw [h1, Nat.mul_add]; omega), List.nil_append, h1, show k * (i + 1) - k = k * i from by rw [Nat.mul_add]; omega]
    exact ih
theorem ixO_piece : ∀ {s : List Obv} {k i : Nat} {x : Obv}, s[i]? = some x → ((ixO k s).drop (4 * i)).take 4 = if farB x then wd (2147483648 + (k + farK (s.take i))) else wd x.1.1.at_.toNat
  | [], k, i, x, h => by simp at h
  | y :: s, k, 0, x, h => by
    simp at h; subst h
    rw [ixO, Nat.mul_zero, List.drop_zero, List.take_zero]
    have e : farK [] = 0 := rfl
    rw [e]
    by_cases q : farB y = true
    · simp only [if_pos q, Nat.add_zero]; rw [List.take_append_of_le_length (by rw [wd_len]; exact Nat.le_refl _), List.take_of_length_le (by rw [wd_len]; exact Nat.le_refl _)]
    · simp only [if_neg q]; rw [List.take_append_of_le_length (by rw [wd_len]; exact Nat.le_refl _), List.take_of_length_le (by rw [wd_len]; exact Nat.le_refl _)]
  | y :: s, k, i + 1, x, h => by
    have h1 : (if farB y then wd (2147483648 + k) else wd y.1.1.at_.toNat).length = 4 := by split <;> rfl
    have ih := ixO_piece (s := s) (k := if farB y then k + 1 else k) (i := i) (x := x) (by simpa using h)
    rw [ixO, List.drop_append, List.drop_eq_nil_of_le (by rw [h1]; omega), List.nil_append, h1, show 4 * (i + 1) - 4 = 4 * i from by omega, ih, List.take_succ_cons]
    have e : farK (y :: s.take i) = if farB y then farK (s.take i) + 1 else farK (s.take i) := by
      unfold farK
      by_cases q : farB y = true
      · rw [List.filter_cons, if_pos q, if_pos q]; rfl
      · rw [List.filter_cons, if_neg q, if_neg q]
    rw [e]
    by_cases q : farB y = true
    · simp only [if_pos q]; rw [show k + 1 + farK (s.take i) = k + (farK (s.take i) + 1) from by omega]
    · simp only [if_neg q]
theorem filter_at {α : Type} {p : α → Bool} : ∀ {l : List α} {i : Nat} {x : α}, l[i]? = some x → p x = true → (l.filter p)[((l.take i).filter p).length]? = some x
  | [], i, x, h, _ => by simp at h
  | y :: l, 0, x, h, hp => by simp at h; subst h; rw [List.filter_cons, if_pos hp]; rfl
  | y :: l, i + 1, x, h, hp => by
    have ih := filter_at (l := l) (i := i) (x := x) (by simpa using h) hp
    rw [List.take_succ_cons, List.filter_cons, List.filter_cons]
    by_cases q : p y = true
    · rw [if_pos q, if_pos q, List.length_cons, List.getElem?_cons_succ]; exact ih
    · rw [if_neg q, if_neg q]; exact ih
theorem dig_lt : ∀ i j : Fin 16, (dig i.val < dig j.val ↔ i.val < j.val) ∧ (dig i.val = dig j.val ↔ i.val = j.val) := by decide
theorem bl_hex : ∀ a b : List UInt8, Op.bytesLess (hexL a) (hexL b) = Op.bytesLess a b
  | [], [] => rfl
  | [], y :: b => by
    unfold hexL hexB
    rw [bl_nil_cons]; exact bl_nil_cons _ _
  | x :: a, [] => by
    unfold hexL hexB
    simp [Op.bytesLess]
  | x :: a, y :: b => by
    have ih := bl_hex a b
    have hx := x.toNat_lt
    have hy := y.toNat_lt
    have h1 := dig_lt ⟨x.toNat / 16, by omega⟩ ⟨y.toNat / 16, by omega⟩
    have h2 := dig_lt ⟨x.toNat % 16, by omega⟩ ⟨y.toNat % 16, by omega⟩
    simp only at h1 h2
    rw [Bool.eq_iff_iff]
    show Op.bytesLess (dig (x.toNat / 16) :: dig (x.toNat % 16) :: hexL a) (dig (y.toNat / 16) :: dig (y.toNat % 16) :: hexL b) = true ↔ _
    rw [bl_cons, bl_cons, bl_cons, ih, h1.1, h1.2, h2.1, h2.2, UInt8.lt_iff_toNat_lt]
    constructor
    · rintro (h | ⟨h, h3 | ⟨h3, h4⟩⟩)
      · exact .inl (by omega)
      · exact .inl (by omega)
      · exact .inr ⟨UInt8.toNat_inj.1 (by omega), h4⟩
    · rintro (h | ⟨h, h3⟩)
      · by_cases q : x.toNat / 16 = y.toNat / 16
        · exact .inr ⟨q, .inl (by omega)⟩
        · exact .inl (by omega)
      · subst h; exact .inr ⟨rfl, .inr ⟨rfl, h3⟩⟩
theorem dig_dv : ∀ n : Fin 256, 0 ≤ dv (UInt8.ofNat n.val) → dig (dv (UInt8.ofNat n.val)).toNat = UInt8.ofNat n.val := by decide +kernel
theorem dig_dv' (d : UInt8) (h : 0 ≤ dv d) : dig (dv d).toNat = d := by
  have := dig_dv ⟨d.toNat, d.toNat_lt⟩
  simp only [UInt8.ofNat_toNat] at this
  exact this h
theorem hex_out {t : List UInt8} (k : Nat) (hk : 2 * k ≤ t.length) (h : ∀ i, i < k → okAt t i = true) : hexL (outN t k) = t.take (2 * k) := by
  induction k with
  | zero => rfl
  | succ k ih =>
    have ok := h k (by omega)
    unfold okAt at ok
    rw [Bool.and_eq_true, decide_eq_true_iff, decide_eq_true_iff] at ok
    have l1 := dv_lt (t.getD (2 * k) 0)
    have l2 := dv_lt (t.getD (2 * k + 1) 0)
    have e1 : t[2 * k]? = some (t.getD (2 * k) 0) := by rw [List.getD_eq_getElem?_getD, List.getElem?_eq_getElem (by omega)]; rfl
    have e2 : t[2 * k + 1]? = some (t.getD (2 * k + 1) 0) := by rw [List.getD_eq_getElem?_getD, List.getElem?_eq_getElem (by omega)]; rfl
    rw [outN_succ, hexL_append, ih (by omega) fun i hi => h i (by omega), show 2 * (k + 1) = 2 * k + 1 + 1 from by omega, List.take_add_one, List.take_add_one, e1, e2, List.append_assoc]
    refine congrArg _ ?_
    show hexB (byAt t k) ++ [] = [t.getD (2 * k) 0] ++ [t.getD (2 * k + 1) 0]
    have hb : (byAt t k).toNat = 16 * (dv (t.getD (2 * k) 0)).toNat + (dv (t.getD (2 * k + 1) 0)).toNat := by
      unfold byAt; rw [UInt8.toNat_ofNat']; omega
    unfold hexB
    rw [hb, show (16 * (dv (t.getD (2 * k) 0)).toNat + (dv (t.getD (2 * k + 1) 0)).toNat) / 16 = (dv (t.getD (2 * k) 0)).toNat from by omega, show (16 * (dv (t.getD (2 * k) 0)).toNat + (dv (t.getD (2 * k + 1) 0)).toNat) % 16 = (dv (t.getD (2 * k + 1) 0)).toNat from by omega, dig_dv' _ ok.1, dig_dv' _ ok.2]
    rfl
theorem hex_un {s : List UInt8} (h : hshB s = true) : hexL (unL s) = s := by
  unfold Go.Ob.hshB at h
  rw [Bool.and_eq_true, decide_eq_true_iff] at h
  unfold unL
  rw [if_pos h.2]
  have h2 := h.2
  unfold unB at h2
  rw [Bool.and_eq_true] at h2
  rw [hex_out (s.length / 2) (by omega) fun i hi => List.all_eq_true.1 h2.2 i (List.mem_range.2 hi), List.take_of_length_le (by omega)]
theorem bl_un {a b : List UInt8} (ha : hshB a = true) (hb : hshB b = true) : Op.bytesLess (unL a) (unL b) = Op.bytesLess a b := by
  rw [← bl_hex, hex_un ha, hex_un hb]
end
end Go.Proofs.Ytmhlmlkndabgmaa
namespace Go.Proofs.Ytmhlmlkndabgmaa
open Go Go.Vx Go.Pk Go.Ix
open Go.Ob (hshB)
set_option linter.all false
set_option maxRecDepth 4000
section
variable [W0]
theorem tw_all {α : Type} {P : α → Bool} : ∀ {l : List α}, (∀ x ∈ l, P x = true) → l.takeWhile P = l
  | [], _ => rfl
  | x :: l, h => by rw [List.takeWhile_cons, if_pos (h x (by simp)), tw_all fun y hy => h y (List.mem_cons_of_mem _ hy)]
theorem fan_last (s : List Obv) : fanI s 255 = s.length := by
  unfold fanI
  rw [tw_all fun x _ => decide_eq_true (by have := ((unL x.1.1.id).getD 0 0).toNat_lt; omega)]
structure IxS (s : List Obv) (p : List UInt8) : Prop where
  ok : ∀ x ∈ s, okI x
  len : s.length ≤ 4096
  pk : hshB p = true
  srt : SrtI s
  one : (s.map fun x => x.1.1.id).Nodup
theorem IxS.of {l s : List Obv} {p : List UInt8} (h : IxOk l p) (hp : s.Perm l) (hs : SrtI s) : IxS s p :=
  ⟨fun x hx => h.ok x (hp.mem_iff.1 hx), by rw [hp.length_eq]; exact h.len, h.pk, hs, (hp.map _).nodup_iff.2 h.one⟩
variable {s : List Obv} {p : List UInt8}
theorem ixW_0 : ixW s p = mgI ++ (ixF s 256 ++ (ixR s ++ (ixC s ++ (ixO 0 s ++ (ixL s ++ (unL p ++ shaN (ixB s p))))))) := by unfold ixW ixB; simp only [List.append_assoc]
theorem ixW_R : ixW s p = (mgI ++ ixF s 256) ++ (ixR s ++ (ixC s ++ (ixO 0 s ++ (ixL s ++ (unL p ++ shaN (ixB s p)))))) := by unfold ixW ixB; simp only [List.append_assoc]
theorem ixW_O : ixW s p = (mgI ++ ixF s 256 ++ ixR s ++ ixC s) ++ (ixO 0 s ++ (ixL s ++ (unL p ++ shaN (ixB s p)))) := by unfold ixW ixB; simp only [List.append_assoc]
theorem ixW_L : ixW s p = (mgI ++ ixF s 256 ++ ixR s ++ ixC s ++ ixO 0 s) ++ (ixL s ++ (unL p ++ shaN (ixB s p))) := by unfold ixW ixB; simp only [List.append_assoc]
theorem l_R (s : List Obv) : (mgI ++ ixF s 256).length = 1032 := by rw [List.length_append, ixF_len]; rfl
theorem l_C (h : ∀ x ∈ s, okI x) : (mgI ++ ixF s 256 ++ ixR s).length = 1032 + 20 * s.length := by rw [List.length_append, l_R, ixR_len h]
theorem l_O (h : ∀ x ∈ s, okI x) : (mgI ++ ixF s 256 ++ ixR s ++ ixC s).length = 1032 + 24 * s.length := by rw [List.length_append, l_C h, ixC_len]; omega
theorem l_L (h : ∀ x ∈ s, okI x) : (mgI ++ ixF s 256 ++ ixR s ++ ixC s ++ ixO 0 s).length = 1032 + 28 * s.length := by rw [List.length_append, l_O h, ixO_len]; omega
theorem l_U (h : ∀ x ∈ s, okI x) : (mgI ++ ixF s 256 ++ ixR s ++ ixC s ++ ixO 0 s ++ ixL s).length = 1032 + 28 * s.length + 8 * farK s := by rw [List.length_append, l_L h, ixL_len]
theorem ixB_len (h : IxS s p) : (ixB s p).length = 1052 + 28 * s.length + 8 * farK s := by unfold ixB; rw [List.length_append, l_U h.ok, un_len h.pk]; omega
theorem ixW_len (h : IxS s p) : (ixW s p).length = 1072 + 28 * s.length + 8 * farK s := by unfold ixW; rw [List.length_append, ixB_len h, shaN_length]; omega
theorem px_fan (h : IxS s p) {c : Nat} (hc : c < 256) : fnB (ixW s p) c = fanI s c := by
  have e : ((ixW s p).drop (8 + 4 * c)).take 4 = wd (fanI s c) := by
    rw [ixW_0]
    have := pc_in mgI (ixF s 256) (ixR s ++ (ixC s ++ (ixO 0 s ++ (ixL s ++ (unL p ++ shaN (ixB s p)))))) (i := 4 * c) (k := 4) (by rw [ixF_len]; omega)
    refine Eq.trans this ?_
    exact fm_piece (f := fun i => wd (fanI s i)) (fun y _ => wd_len _) (List.getElem?_range hc)
  unfold fnB nmB
  rw [e, gv_wd]
  have := fanI_le s c
  have := h.len
  omega
theorem px_n (h : IxS s p) : pxN (ixW s p) = s.length := by unfold pxN; rw [px_fan h (by decide), fan_last]
theorem px_id (h : IxS s p) {i : Nat} {x : Obv} (hx : s[i]? = some x) : pxId (ixW s p) i = unL x.1.1.id := by
  have hi := (List.getElem?_eq_some_iff.1 hx).1
  unfold pxId
  rw [ixW_R, ← l_R s, pc_in _ _ _ (by rw [ixR_len h.ok]; omega)]
  exact fm_piece (fun y hy => un_len (h.ok y hy).1) hx
theorem far_nat {x : Obv} (hx : okI x) : farB x = decide (2147483648 ≤ x.1.1.at_.toNat) := by
  unfold farB
  have := hx.2.1
  rw [decide_eq_decide]
  omega
theorem px_p (h : IxS s p) {i : Nat} {x : Obv} (hx : s[i]? = some x) : pxP (ixW s p) i = if farB x then 2147483648 + farK (s.take i) else x.1.1.at_.toNat := by
  have hi := (List.getElem?_eq_some_iff.1 hx).1
  have hxo := h.ok x (List.mem_of_getElem? hx)
  have hl := h.len
  have hk := farK_le (s.take i)
  rw [List.length_take] at hk
  unfold pxP nmB
  rw [px_n h, ixW_O, ← l_O h.ok, pc_in _ _ _ (by rw [ixO_len]; omega), ixO_piece hx, Nat.zero_add]
  by_cases q : farB x = true
  · simp only [if_pos q]; rw [gv_wd (by omega)]
  · simp only [if_neg q]
    rw [far_nat hxo, decide_eq_true_iff] at q
    rw [gv_wd (by omega)]
theorem px_f (h : IxS s p) {i : Nat} {x : Obv} (hx : s[i]? = some x) : pxF (ixW s p) i = farB x := by
  have hxo := h.ok x (List.mem_of_getElem? hx)
  unfold pxF
  rw [px_p h hx]
  by_cases q : farB x = true
  · rw [if_pos q, q]; exact decide_eq_true (by omega)
  · rw [if_neg q]; exact (far_nat hxo).symm
theorem px_k (h : IxS s p) : ∀ {i : Nat}, i ≤ s.length → pxK (ixW s p) i = farK (s.take i)
  | 0, _ => rfl
  | i + 1, hi => by
    have hx : s[i]? = some s[i] := List.getElem?_eq_getElem (by omega)
    rw [pxK_succ, px_f h hx, px_k h (by omega), List.take_add_one, hx]
    exact (farK_snoc _ _).symm
theorem px_at (h : IxS s p) {i : Nat} {x : Obv} (hx : s[i]? = some x) : pxAt (ixW s p) i = x.1.1.at_.toNat := by
  have hi := (List.getElem?_eq_some_iff.1 hx).1
  have hxo := h.ok x (List.mem_of_getElem? hx)
  unfold pxAt
  rw [px_f h hx]
  by_cases q : farB x = true
  · rw [if_pos q, px_k h (by omega), px_n h]
    unfold nmB
    have hf := filter_at hx q
    have hlt : farK (s.take i) < farK s := (List.getElem?_eq_some_iff.1 hf).1
    rw [ixW_L, ← l_L h.ok, pc_in _ _ _ (by rw [ixL_len]; omega)]
    have : ((ixL s).drop (8 * farK (s.take i))).take 8 = wd8 x.1.1.at_.toNat := fm_piece (f := fun x : Obv => wd8 x.1.1.at_.toNat) (fun y _ => rfl) hf
    rw [this, gv_wd8]
    have := hxo.2.2
    omega
  · rw [if_neg q, px_p h hx, if_neg q]
theorem bl_head : ∀ {a b : List UInt8}, 0 < a.length → 0 < b.length → (a.getD 0 0).toNat < (b.getD 0 0).toNat → Op.bytesLess a b = true
  | [], _, h, _, _ => by simp at h
  | _ :: _, [], _, h, _ => by simp at h
  | x :: a, y :: b, _, _, h => by
    rw [bl_cons]
    exact .inl (UInt8.lt_iff_toNat_lt.2 (by simpa using h))
theorem px_ok (h : IxS s p) : PxOk (ixW s p) := by
  refine ⟨?_, fun c hc => ?_, ?_, ?_, fun i hi => ?_⟩
  · rw [ixW_0, List.take_append_of_le_length (by decide)]; rfl
  · rw [px_fan h (by omega), px_fan h (by omega)]
    exact fanP_le s (c + 1)
  · rw [px_n h]; exact h.len
  · rw [px_n h, px_k h (Nat.le_refl _), List.take_length]; exact ixW_len h
  · rw [px_n h] at hi
    have hx : s[i]? = some s[i] := List.getElem?_eq_getElem hi
    have hxo := h.ok s[i] (List.getElem_mem hi)
    have hH : pxH (ixW s p) i = ((unL s[i].1.1.id).getD 0 0).toNat := by unfold pxH; rw [px_id h hx]
    have hH8 := ((unL s[i].1.1.id).getD 0 0).toNat_lt
    refine ⟨fun h0 => ?_, ?_, ?_, fun hf => ⟨?_, ?_, ?_⟩⟩
    · have hy : s[i - 1]? = some (s[i - 1]'(by omega)) := List.getElem?_eq_getElem (by omega)
      have hyo := h.ok (s[i - 1]'(by omega)) (List.getElem_mem _)
      rw [px_id h hx, px_id h hy, bl_un hyo.1 hxo.1]
      have h1 := List.pairwise_iff_getElem.1 h.srt (i - 1) i (by omega) hi (by omega)
      have h2 : (s[i - 1]'(by omega)).1.1.id ≠ s[i].1.1.id := fun e => by
        have := (List.getElem?_inj (i := i - 1) (j := i) (by rw [List.length_map]; omega) h.one).1 (by rw [List.getElem?_map, List.getElem?_map, hy, hx]; exact congrArg some e)
        omega
      rcases bl_tot _ _ h2 with w | w
      · exact w
      · rw [w] at h1; cases h1
    · unfold pxLo
      rw [hH]
      split
      · omega
      · rename_i hz
        rw [px_fan h (by omega)]
        rcases Nat.lt_or_ge i (fanI s (((unL s[i].1.1.id).getD 0 0).toNat - 1)) with w | w
        · have := (fan_at hx (Nat.le_of_lt w)).1 w
          omega
        · exact w
    · rw [hH, px_fan h (by omega)]
      rcases Nat.lt_or_ge i (fanI s ((unL s[i].1.1.id).getD 0 0).toNat) with w | w
      · exact w
      · obtain ⟨m, hm⟩ : ∃ m, m = fanI s ((unL s[i].1.1.id).getD 0 0).toNat := ⟨_, rfl⟩
        rw [← hm] at w
        have hmn : m < s.length := by omega
        have hy : s[m]? = some s[m] := List.getElem?_eq_getElem hmn
        have hyo := h.ok s[m] (List.getElem_mem hmn)
        have h1 := fan_at (c := ((unL s[i].1.1.id).getD 0 0).toNat) hy (by omega)
        rw [← hm] at h1
        have h2 : ¬ ((unL s[m].1.1.id).getD 0 0).toNat ≤ ((unL s[i].1.1.id).getD 0 0).toNat := fun q => by have := h1.2 q; omega
        by_cases e : m = i
        · subst e; omega
        · have h3 := List.pairwise_iff_getElem.1 h.srt m i hmn hi (by omega)
          rw [← bl_un hxo.1 hyo.1, bl_head (by rw [un_len hxo.1]; decide) (by rw [un_len hyo.1]; decide) (by omega)] at h3
          cases h3
    · rw [px_f h hx] at hf; rw [px_p h hx, if_pos hf, px_k h (by omega)]
    · rw [px_f h hx, far_nat hxo] at hf; rw [px_at h hx]; exact of_decide_eq_true hf
    · rw [px_at h hx]; have := hxo.2.2; omega
theorem px_sum (h : IxS s p) : pxSum (ixW s p) := by
  unfold pxSum
  have e : (ixW s p).length - 20 = (ixB s p).length := by unfold ixW; rw [List.length_append, shaN_length]; omega
  rw [e]
  unfold ixW
  rw [List.take_left, List.drop_left]
theorem px_e (h : IxS s p) : pxE (ixW s p) = 0 := pxE_ok (by rw [ixW_len h]; omega) (px_ok h) (px_sum h)
end
end Go.Proofs.Ytmhlmlkndabgmaa
namespace Go.Proofs.Ytmhlmlkndabgmaa
open Go Go.Vx Go.Pk Go.Ix
open Go.Ob (hshB)
set_option linter.all false
set_option maxRecDepth 40000
structure ColS where
  k : Nat
  iv : Value
  rv : Value
  ov : Value
  fv : Value
  Ci : Chunk
  Cr : Chunk
  Co : Chunk
  Cf : Chunk
section
variable [W0]
theorem hd_mono {s : List Obv} {p : List UInt8} (h : IxS s p) {i j : Nat} {x y : Obv} (hx : s[i]? = some x) (hy : s[j]? = some y) (hij : i < j) : ((unL x.1.1.id).getD 0 0).toNat ≤ ((unL y.1.1.id).getD 0 0).toNat := by
  obtain ⟨hi, ex⟩ := List.getElem?_eq_some_iff.1 hx
  obtain ⟨hj, ey⟩ := List.getElem?_eq_some_iff.1 hy
  have hs := List.pairwise_iff_getElem.1 h.srt i j hi hj hij
  rw [ex, ey] at hs
  have hxo := h.ok x (List.mem_of_getElem? hx)
  have hyo := h.ok y (List.mem_of_getElem? hy)
  rcases Nat.lt_or_ge ((unL y.1.1.id).getD 0 0).toNat ((unL x.1.1.id).getD 0 0).toNat with w | w
  · have := bl_head (by rw [un_len hyo.1]; decide) (by rw [un_len hxo.1]; decide) w
    rw [bl_un hyo.1 hxo.1, hs] at this
    cases this
  · exact w
theorem fan_ge {s : List Obv} {p : List UInt8} (h : IxS s p) : ∀ {c n : Nat} {x : Obv}, s[n]? = some x → fanP s c ≤ n → c ≤ ((unL x.1.1.id).getD 0 0).toNat
  | 0, _, _, _, _ => Nat.zero_le _
  | c + 1, n, x, hx, hn => by
    have hn : fanI s c ≤ n := hn
    have hnl := (List.getElem?_eq_some_iff.1 hx).1
    obtain ⟨z, hz⟩ : ∃ z, s[fanI s c]? = some z := ⟨s[fanI s c]'(by omega), List.getElem?_eq_getElem (by omega)⟩
    have h1 := fan_at hz (Nat.le_refl _)
    by_cases e : fanI s c = n
    · rw [e, hx] at hz
      injection hz with hz
      subst hz
      omega
    · have := hd_mono h hz hx (by omega)
      omega
def ColS.ok (z : ColS) (s : List Obv) : Prop := Ow 5 1 z.iv (ixR s).length (bsv (ixR s)) z.Ci ∧ Ow 5 1 z.rv (ixC s).length (bsv (ixC s)) z.Cr ∧ Ow 5 1 z.ov (ixO 0 s).length (bsv (ixO 0 s)) z.Co ∧ Ow 5 1 z.fv (ixL s).length (bsv (ixL s)) z.Cf
def ColS.L (z : ColS) (p r : Nat) (L : List Chunk) : List Chunk := [(p, cl [.slice none 0 0, z.iv, z.rv, z.ov, z.fv, .slice none 0 0] 61)] :: z.Co :: z.Cf :: z.Ci :: z.Cr :: [(r, cl [.slice none 0 0, .slice none 0 0, .slice none 0 0, .slice none 0 0, .slice none 0 0, .slice none 0 0] 61)] :: L
set_option maxHeartbeats 32000000 in
theorem icolumns_n (v : Value) (s : List Obv) (p : List UInt8) (L : List Chunk) (hv : Sl L 5 v s.length (s.flatMap enO)) (h : IxS s p) :
    Gv Try.prog 27 [v, .string (str p)].toArray L (fun r L' => ∃ (x : IxC) (C1 C2 C3 C4 C5 C6 : Chunk), r = .agg x.vs.toArray ∧ Ow 5 1 x.c.v (ixF s 256).length (bsv (ixF s 256)) C1 ∧ Ow 5 1 x.i.v (ixR s).length (bsv (ixR s)) C2 ∧
      Ow 5 1 x.r.v (ixC s).length (bsv (ixC s)) C3 ∧ Ow 5 1 x.o.v (ixO 0 s).length (bsv (ixO 0 s)) C4 ∧ Ow 5 1 x.f.v (ixL s).length (bsv (ixL s)) C5 ∧ Ow 5 1 x.p.v (unL p).length (bsv (unL p)) C6 ∧ L' = C1 :: C2 :: C3 :: C4 :: C5 :: C6 :: L) := by
  obtain ⟨va, vc, rfl⟩ := sl_slice hv
  have hln := h.len
  refine Gv.of_body (args := [.slice va s.length vc, .string (str p)]) Try.func27 rfl rfl ?_
  (repeat' first|refine kY ?_|refine kU fun bk=>?_|refine kV fun hc=>?_|refine kZ (fun hc=>?_) fun hc=>?_|fail)
  refine WC_seq ?_
  (repeat' first|refine kY ?_|refine kU fun bk=>?_|refine kV fun hc=>?_|refine kZ (fun hc=>?_) fun hc=>?_|fail)
  revert bk; intro r
  refine WC_seq ?_
  (repeat' first|refine kY ?_|refine kU fun bk=>?_|refine kV fun hc=>?_|refine kZ (fun hc=>?_) fun hc=>?_|fail)
  revert bk; intro q
  refine WC_cut (X := ColS) (fun z => [(1, .string (str p)), (4, .pointer (some ⟨r, 0, none⟩)), (5, .pointer (some ⟨q, 0, none⟩))]) (fun z => z.L q r L) (fun z => z.ok s) ?_ ?_
  · (repeat' first|refine kW ?_|refine kU fun bk=>?_|refine kV fun hc=>?_|refine kZ (fun hc=>?_) fun hc=>?_|fail)
    refine WC_loop (X := ColS) (fun z => [(1, .string (str p)), (4, .pointer (some ⟨r, 0, none⟩)), (5, .pointer (some ⟨q, 0, none⟩)), (12, .slice va s.length vc), (13, .int .i64 (s.length : Int)), (14, .int .i64 (z.k : Int))]) (fun z => [(q, cl [.slice none 0 0, z.iv, z.rv, z.ov, z.fv, .slice none 0 0] 61)] :: z.Co :: z.Cf :: z.Ci :: z.Cr :: [(r, cl [.slice none 0 0, .slice none 0 0, .slice none 0 0, .slice none 0 0, .slice none 0 0, .slice none 0 0] 61)] :: L)
      (fun z => z.k ≤ s.length ∧ z.ok (s.take z.k)) (fun z => s.length - z.k) ⟨0, .slice none 0 0, .slice none 0 0, .slice none 0 0, .slice none 0 0, [], [], [], []⟩ ⟨Nat.zero_le _, .inl ⟨rfl, rfl, rfl, rfl⟩, .inl ⟨rfl, rfl, rfl, rfl⟩, .inl ⟨rfl, rfl, rfl, rfl⟩, .inl ⟨rfl, rfl, rfl, rfl⟩⟩ iS
      (fun w h => (iC : Inc ([(q, cl [.slice none 0 0, .slice none 0 0, .slice none 0 0, .slice none 0 0, .slice none 0 0, .slice none 0 0] 61)] :: [] :: [] :: [] :: [] :: [(r, cl [.slice none 0 0, .slice none 0 0, .slice none 0 0, .slice none 0 0, .slice none 0 0, .slice none 0 0] 61)] :: L) ([] :: [] :: [] :: [] :: [(q, cl [.slice none 0 0, .slice none 0 0, .slice none 0 0, .slice none 0 0, .slice none 0 0, .slice none 0 0] 61)] :: [(r, cl [.slice none 0 0, .slice none 0 0, .slice none 0 0, .slice none 0 0, .slice none 0 0, .slice none 0 0] 61)] :: L)).holds (Holds.nil.2 (Holds.nil.2 (Holds.nil.2 (Holds.nil.2 h))))) ?_
    rintro ⟨i, iv, rv, ov, fv, Ci, Cr, Co, Cf⟩ ⟨q1, q2, q3, q4, q5⟩
    simp only at q1 q2 q3 q4 q5 ⊢
    obtain ⟨ia, ic, rfl⟩ := ow_slc q2
    obtain ⟨ra, rc, rfl⟩ := ow_slc q3
    obtain ⟨oa, oc, rfl⟩ := ow_slc q4
    obtain ⟨fa, fc, rfl⟩ := ow_slc q5
    by_cases hlt : i < s.length
    · obtain ⟨x, hx⟩ : ∃ x, s[i]? = some x := ⟨s[i], by simp [hlt]⟩
      have hxo := h.ok x (List.mem_of_getElem? hx)
      obtain ⟨b1, o1, c1, hvv, hr⟩ := row_at enO_len hv hx (by decide)
      injection hvv with w1 w2 w3
      subst w1
      obtain ⟨bp, bn, bc, hbs, hcs⟩ := enO_lit x
      obtain ⟨a, ha⟩ : ∃ a : Nat, x.1.1.at_ = (a : Int) := ⟨x.1.1.at_.toNat, by have := hxo.2.1; omega⟩
      have ha62 : a ≤ 4611686018427387904 := by have := hxo.2.2; omega
      rw [hcs, ha] at hr
      have htk : s.take (i + 1) = s.take i ++ [x] := by rw [List.take_add_one, hx]; rfl
      have hul := un_len hxo.1
      have h40 : x.1.1.id.length = 40 := by have := hxo.1; unfold Go.Ob.hshB at this; rw [Bool.and_eq_true, decide_eq_true_iff] at this; exact this.1
      have hRl := ixR_len (s := s.take i) fun y hy => h.ok y (List.mem_of_mem_take hy)
      have hCl := ixC_len (s.take i)
      have hOl := ixO_len (s.take i) 0
      have hLl := ixL_len (s.take i)
      have hkl := farK_le (s.take i)
      rw [List.length_take] at hRl hCl hOl hkl
      (repeat' first|refine kW ?_|refine kU fun bk=>?_|refine kV fun hc=>?_|refine kZ (fun hc=>?_) fun hc=>?_|fail)
      refine OW_EV (EV_indexAddr (j := i) rfl rfl rfl hlt) rfl ?_
      (repeat' first|refine kW ?_|refine kU fun bk=>?_|refine kV fun hc=>?_|refine kZ (fun hc=>?_) fun hc=>?_|fail)
      refine OW_EV (EV_loadAgg rfl (show RdAt _ ⟨b1, o1 + i * 5, none⟩ [.int .i64 x.1.1.kind, .slice bp bn bc, .string (str x.1.1.id), .int .i64 (a : Int), w32 x.1.1.crc] from by repeat (first | exact hr | apply RdAt.up)) rfl) rfl ?_
      (repeat' first|refine kW ?_|refine kU fun bk=>?_|refine kV fun hc=>?_|refine kZ (fun hc=>?_) fun hc=>?_|fail)
      revert bk; intro b7
      refine OW_holds (L' := [(b7, cl [.int .i64 x.1.1.kind, .slice bp bn bc, .string (str x.1.1.id), .int .i64 (a : Int), w32 x.1.1.crc] 30)] :: [(q, cl [.slice none 0 0, .slice ia (ixR (s.take i)).length ic, .slice ra (ixC (s.take i)).length rc, .slice oa (ixO 0 (s.take i)).length oc, .slice fa (ixL (s.take i)).length fc, .slice none 0 0] 61)] :: Co :: Cf :: Ci :: Cr :: [(r, cl [.slice none 0 0, .slice none 0 0, .slice none 0 0, .slice none 0 0, .slice none 0 0, .slice none 0 0] 61)] :: L) (fun w h => h) ?_
      refine OW_call rfl rfl rfl (unhex_n x.1.1.id _ (by omega)) rfl (fun r' L' hp => ?_)
      obtain ⟨hvx, Cx, rfl, rfl, hox⟩ := hp
      obtain ⟨xa, xc, rfl⟩ := ow_slc hox
      (repeat' first|refine kW ?_|refine kU fun bk=>?_|refine kV fun hc=>?_|refine kZ (fun hc=>?_) fun hc=>?_|fail)
      refine OW_append rfl rfl q2 (ow_sl hox) (by repeat (first | exact Zip.here _ | apply Zip.there)) (by rfl) bsv_ones (by omega) (by simp only [maxLen]; omega) rfl (fun v1 Ci' ho1 hn1 hn2 => ?_)
      rw [← bsv_append, ← List.length_append, ← ixR_snoc, ← htk] at ho1
      have hone1 := ow_one ho1
      obtain ⟨ia', ic', rfl⟩ := ow_slc ho1
      clear hn1 hn2
      (repeat' first|refine kW ?_|refine kU fun bk=>?_|refine kV fun hc=>?_|refine kZ (fun hc=>?_) fun hc=>?_|fail)
      refine OW_holds (L' := Cx :: [(b7, cl [.int .i64 x.1.1.kind, .slice bp bn bc, .string (str x.1.1.id), .int .i64 (a : Int), w32 x.1.1.crc] 30)] :: [(q, cl [.slice none 0 0, .slice ia' (ixR (s.take (i + 1))).length ic', .slice ra (ixC (s.take i)).length rc, .slice oa (ixO 0 (s.take i)).length oc, .slice fa (ixL (s.take i)).length fc, .slice none 0 0] 61)] :: Co :: Cf :: Ci' :: Cr :: [(r, cl [.slice none 0 0, .slice none 0 0, .slice none 0 0, .slice none 0 0, .slice none 0 0, .slice none 0 0] 61)] :: L) (fun w h => h) ?_
      have hrl : (wb x.1.1.crc).length = 4 := rfl
      refine OW_call rfl rfl rfl (Gv.take (iadd_n _ (ixC (s.take i)) x.1.1.crc.toNat 4 Cr _ q3 (by decide) (by have := x.1.1.crc.isLt; omega) (by omega)) (by repeat (first | exact Take.here | apply Take.there))) rfl (fun r' L' hp => ?_)
      obtain ⟨Cr', ho2, rfl⟩ := hp
      rw [beB_4, show wd x.1.1.crc.toNat = wb x.1.1.crc from by unfold wd; rw [BitVec.ofNat_toNat, BitVec.setWidth_eq], ← ixC_snoc, ← htk] at ho2
      have hone2 := ow_one ho2
      obtain ⟨ra', rc', rfl⟩ := ow_slc ho2
      (repeat' first|refine kW ?_|refine kU fun bk=>?_|refine kV fun hc=>?_|refine kZ (fun hc=>?_) fun hc=>?_|fail)
      refine OW_call rfl rfl rfl (Gv.holds (L' := [(q, cl [.slice none 0 0, .slice ia' (ixR (s.take (i + 1))).length ic', .slice ra' (ixC (s.take (i + 1))).length rc', .slice oa (ixO 0 (s.take i)).length oc, .slice fa (ixL (s.take i)).length fc, .slice none 0 0] 61)] :: Co :: Cf :: Cr' :: Ci' :: [(r, cl [.slice none 0 0, .slice none 0 0, .slice none 0 0, .slice none 0 0, .slice none 0 0, .slice none 0 0] 61)] :: L) (iaddoff_n q (.slice none 0 0) (.slice ia' (ixR (s.take (i + 1))).length ic') (.slice ra' (ixC (s.take (i + 1))).length rc') (.slice oa (ixO 0 (s.take i)).length oc) (.slice fa (ixL (s.take i)).length fc) (.slice none 0 0) a (ixO 0 (s.take i)) (ixL (s.take i)) Co Cf (Cr' :: Ci' :: [(r, cl [.slice none 0 0, .slice none 0 0, .slice none 0 0, .slice none 0 0, .slice none 0 0, .slice none 0 0] 61)] :: L) rfl rfl rfl rfl q4 q5 ha62 (by omega) (by omega) (farK (s.take i)) (by omega)) (fun w h => iH h)) rfl (fun r' L' hp => ?_)
      obtain ⟨rfl, ov', fv', Co', Cf', ho3, ho4, rfl⟩ := hp
      have hat : x.1.1.at_.toNat = a := by omega
      have hfb : farB x = decide (2147483648 ≤ a) := by unfold farB; rw [ha, decide_eq_decide]; omega
      have hso := ixO_snoc (s.take i) 0 x
      rw [Nat.zero_add, hat, ← htk, hfb] at hso
      have hsL := ixL_snoc (s.take i) x
      rw [hat, ← htk, hfb] at hsL
      simp only [decide_eq_true_eq] at hso hsL
      rw [← hso] at ho3
      rw [← hsL] at ho4
      have hone3 := ow_one ho3
      have hone4 := ow_one ho4
      (repeat' first|refine kW ?_|refine kU fun bk=>?_|refine kV fun hc=>?_|refine kZ (fun hc=>?_) fun hc=>?_|fail)
      exact WQ_round (X := ColS) (μ := fun z => s.length - z.k) (x := ⟨i, .slice ia (ixR (s.take i)).length ic, .slice ra (ixC (s.take i)).length rc, .slice oa (ixO 0 (s.take i)).length oc, .slice fa (ixL (s.take i)).length fc, Ci, Cr, Co, Cf⟩) ⟨i + 1, (.slice ia' (ixR (s.take (i + 1))).length ic'), (.slice ra' (ixC (s.take (i + 1))).length rc'), ov', fv', Ci', Cr', Co', Cf'⟩ (by simp only; omega) ⟨by simp only; omega, ho1, ho2, ho3, ho4⟩ iS (fun w h => (iC : Inc ([(q, cl [.slice none 0 0, .slice ia' (ixR (s.take (i + 1))).length ic', .slice ra' (ixC (s.take (i + 1))).length rc', ov', fv', .slice none 0 0] 61)] :: Co' :: Cf' :: Ci' :: Cr' :: [(r, cl [.slice none 0 0, .slice none 0 0, .slice none 0 0, .slice none 0 0, .slice none 0 0, .slice none 0 0] 61)] :: L) _).holds h)
    · obtain rfl : i = s.length := by omega
      rw [List.take_length] at q2 q3 q4 q5 ⊢
      (repeat' first|refine kW ?_|refine kU fun bk=>?_|refine kV fun hc=>?_|refine kZ (fun hc=>?_) fun hc=>?_|fail)
      exact WQ_cut (⟨s.length, _, _, _, _, Ci, Cr, Co, Cf⟩ : ColS) ⟨q2, q3, q4, q5⟩ iS (fun w h => h)
  rintro ⟨k, iv, rv, ov, fv, Ci, Cr, Co, Cf⟩ ⟨q2, q3, q4, q5⟩
  simp only [ColS.L] at q2 q3 q4 q5 ⊢
  obtain ⟨ia, ic, rfl⟩ := ow_slc q2
  obtain ⟨ra, rc, rfl⟩ := ow_slc q3
  obtain ⟨oa, oc, rfl⟩ := ow_slc q4
  obtain ⟨fa, fc, rfl⟩ := ow_slc q5
  have hRl := ixR_len h.ok
  have hpl : p.length = 40 := by have := h.pk; unfold Go.Ob.hshB at this; rw [Bool.and_eq_true, decide_eq_true_iff] at this; exact this.1
  have hlL := ixL_len s
  have hkl := farK_le s
  refine WC_holds' (L' := [(q, cl [.slice none 0 0, .slice ia (ixR s).length ic, .slice ra (ixC s).length rc, .slice oa (ixO 0 s).length oc, .slice fa (ixL s).length fc, .slice none 0 0] 61)] :: [] :: Ci :: Cr :: Co :: Cf :: [(r, cl [.slice none 0 0, .slice none 0 0, .slice none 0 0, .slice none 0 0, .slice none 0 0, .slice none 0 0] 61)] :: L) (fun w h => (iC : Inc ([(q, cl [.slice none 0 0, .slice ia (ixR s).length ic, .slice ra (ixC s).length rc, .slice oa (ixO 0 s).length oc, .slice fa (ixL s).length fc, .slice none 0 0] 61)] :: [] :: Ci :: Cr :: Co :: Cf :: [(r, cl [.slice none 0 0, .slice none 0 0, .slice none 0 0, .slice none 0 0, .slice none 0 0, .slice none 0 0] 61)] :: L) ([] :: [(q, cl [.slice none 0 0, .slice ia (ixR s).length ic, .slice ra (ixC s).length rc, .slice oa (ixO 0 s).length oc, .slice fa (ixL s).length fc, .slice none 0 0] 61)] :: Co :: Cf :: Ci :: Cr :: [(r, cl [.slice none 0 0, .slice none 0 0, .slice none 0 0, .slice none 0 0, .slice none 0 0, .slice none 0 0] 61)] :: L)).holds (Holds.nil.2 h)) ?_
  (repeat' first|refine kY ?_|refine kU fun bk=>?_|refine kV fun hc=>?_|refine kZ (fun hc=>?_) fun hc=>?_|fail)
  refine WC_seq ?_
  (repeat' first|refine kY ?_|refine kU fun bk=>?_|refine kV fun hc=>?_|refine kZ (fun hc=>?_) fun hc=>?_|fail)
  refine WC_cut (X := Value × Chunk) (fun z => [(1, .string (str p)), (4, .pointer (some ⟨r, 0, none⟩)), (5, .pointer (some ⟨q, 0, none⟩))]) (fun z => [(q, cl [z.1, .slice ia (ixR s).length ic, .slice ra (ixC s).length rc, .slice oa (ixO 0 s).length oc, .slice fa (ixL s).length fc, .slice none 0 0] 61)] :: z.2 :: Ci :: Cr :: Co :: Cf :: [(r, cl [.slice none 0 0, .slice none 0 0, .slice none 0 0, .slice none 0 0, .slice none 0 0, .slice none 0 0] 61)] :: L) (fun z => Ow 5 1 z.1 (ixF s 256).length (bsv (ixF s 256)) z.2) ?_ ?_
  · (repeat' first|refine kW ?_|refine kU fun bk=>?_|refine kV fun hc=>?_|refine kZ (fun hc=>?_) fun hc=>?_|fail)
    refine WC_loop (X := Nat × Value × Chunk) (fun z => [(1, .string (str p)), (4, .pointer (some ⟨r, 0, none⟩)), (5, .pointer (some ⟨q, 0, none⟩)), (10, .int .i64 (fanP s z.1 : Int)), (41, .int .i64 (z.1 : Int))]) (fun z => [(q, cl [z.2.1, .slice ia (ixR s).length ic, .slice ra (ixC s).length rc, .slice oa (ixO 0 s).length oc, .slice fa (ixL s).length fc, .slice none 0 0] 61)] :: z.2.2 :: Ci :: Cr :: Co :: Cf :: [(r, cl [.slice none 0 0, .slice none 0 0, .slice none 0 0, .slice none 0 0, .slice none 0 0, .slice none 0 0] 61)] :: L)
      (fun z => z.1 ≤ 256 ∧ Ow 5 1 z.2.1 (ixF s z.1).length (bsv (ixF s z.1)) z.2.2) (fun z => 256 - z.1) (0, .slice none 0 0, []) ⟨Nat.zero_le _, .inl ⟨rfl, rfl, rfl, rfl⟩⟩ iS (fun w h => h) ?_
    rintro ⟨c, cv, Cc⟩ ⟨q6, q7⟩
    simp only at q6 q7 ⊢
    obtain ⟨ca, cc, rfl⟩ := ow_slc q7
    have hFl := ixF_len s c
    by_cases hlt : c < 256
    · have hcnt := fun L => icount_n ⟨⟨ca, (ixF s c).length, cc⟩, ⟨ia, (ixR s).length, ic⟩, ⟨ra, (ixC s).length, rc⟩, ⟨oa, (ixO 0 s).length, oc⟩, ⟨fa, (ixL s).length, fc⟩, ⟨none, 0, 0⟩⟩ s.length L hRl (by omega)
      have hid := fun n L hr hn => iid_n ⟨⟨ca, (ixF s c).length, cc⟩, ⟨ia, (ixR s).length, ic⟩, ⟨ra, (ixC s).length, rc⟩, ⟨oa, (ixO 0 s).length, oc⟩, ⟨fa, (ixL s).length, fc⟩, ⟨none, 0, 0⟩⟩ (ixR s) n L hr hn (by omega)
      simp only [IxC.vs, Sc.v] at hcnt hid
      have hfi := fanI_le s c
      (repeat' first|refine kY ?_|refine kU fun bk=>?_|refine kV fun hc=>?_|refine kZ (fun hc=>?_) fun hc=>?_|fail)
      refine WC_seq ?_
      (repeat' first|refine kY ?_|refine kU fun bk=>?_|refine kV fun hc=>?_|refine kZ (fun hc=>?_) fun hc=>?_|fail)
      refine WC_seq ?_
      (repeat' first|refine kY ?_|refine kU fun bk=>?_|refine kV fun hc=>?_|refine kZ (fun hc=>?_) fun hc=>?_|fail)
      refine WC_seq ?_
      (repeat' first|refine kY ?_|refine kU fun bk=>?_|refine kV fun hc=>?_|refine kZ (fun hc=>?_) fun hc=>?_|fail)
      refine WC_seq ?_
      (repeat' first|refine kY ?_|refine kU fun bk=>?_|refine kV fun hc=>?_|refine kZ (fun hc=>?_) fun hc=>?_|fail)
      refine WC_cut (X := Unit) (fun _ => [(1, .string (str p)), (4, .pointer (some ⟨r, 0, none⟩)), (5, .pointer (some ⟨q, 0, none⟩)), (10, .int .i64 (fanI s c : Int)), (41, .int .i64 (c : Int))]) (fun _ => [(q, cl [.slice ca (ixF s c).length cc, .slice ia (ixR s).length ic, .slice ra (ixC s).length rc, .slice oa (ixO 0 s).length oc, .slice fa (ixL s).length fc, .slice none 0 0] 61)] :: Cc :: Ci :: Cr :: Co :: Cf :: [(r, cl [.slice none 0 0, .slice none 0 0, .slice none 0 0, .slice none 0 0, .slice none 0 0, .slice none 0 0] 61)] :: L) (fun _ => True) ?_ ?_
      · (repeat' first|refine kW ?_|refine kU fun bk=>?_|refine kV fun hc=>?_|refine kZ (fun hc=>?_) fun hc=>?_|fail)
        refine WC_loop (X := Nat) (fun n => [(1, .string (str p)), (4, .pointer (some ⟨r, 0, none⟩)), (5, .pointer (some ⟨q, 0, none⟩)), (10, .int .i64 (n : Int)), (11, .int .i64 (c : Int)), (41, .int .i64 (c : Int))]) (fun _ => [(q, cl [.slice ca (ixF s c).length cc, .slice ia (ixR s).length ic, .slice ra (ixC s).length rc, .slice oa (ixO 0 s).length oc, .slice fa (ixL s).length fc, .slice none 0 0] 61)] :: Cc :: Ci :: Cr :: Co :: Cf :: [(r, cl [.slice none 0 0, .slice none 0 0, .slice none 0 0, .slice none 0 0, .slice none 0 0, .slice none 0 0] 61)] :: L) (fun n => fanP s c ≤ n ∧ n ≤ fanI s c) (fun n => fanI s c - n) (fanP s c) ⟨Nat.le_refl _, fanP_le s c⟩ iS (fun w h => h) ?_
        rintro n ⟨hn0, hn⟩
        by_cases hns : n < s.length
        · obtain ⟨x, hx⟩ : ∃ x, s[n]? = some x := ⟨s[n], by simp [hns]⟩
          have hxo := h.ok x (List.mem_of_getElem? hx)
          have hul := un_len hxo.1
          have hfa := fan_at hx hn
          have hge := fan_ge h hx hn0
          have hpc : ((ixR s).drop (20 * n)).take 20 = unL x.1.1.id := fm_piece (fun y hy => un_len (h.ok y hy).1) hx
          have hidn := fun L hr => hid n L hr (by omega)
          rw [hpc] at hidn
          obtain ⟨y, hy⟩ : ∃ y, (unL x.1.1.id)[0]? = some y := ⟨(unL x.1.1.id)[0], by simp [hul]⟩
          have hyg : (unL x.1.1.id).getD 0 0 = y := by rw [List.getD_eq_getElem?_getD, hy]; rfl
          rw [hyg] at hfa hge
          have hy8 := y.toNat_lt
          (repeat' first|refine kW ?_|refine kU fun bk=>?_|refine kV fun hc=>?_|refine kZ (fun hc=>?_) fun hc=>?_|fail)
          refine OW_callP rfl rfl rfl (hcnt _) rfl ?_
          (repeat' first|refine kW ?_|refine kU fun bk=>?_|refine kV fun hc=>?_|refine kZ (fun hc=>?_) fun hc=>?_|fail)
          refine OW_call rfl rfl rfl (hidn _ (by repeat (first | exact Rs.ow q2 | apply Rs.there))) rfl (fun r' L' hp => ?_)
          obtain ⟨qi, rfl⟩ := hp
          obtain ⟨eb, eo, ec, ecc, eT, ef, w1, w2, w3⟩ := sl_at qi.sl (Go.Vx.bsv_get hy)
          subst w1
          (repeat' first|refine kW ?_|refine kU fun bk=>?_|refine kV fun hc=>?_|refine kZ (fun hc=>?_) fun hc=>?_|fail)
          refine OW_EV (EV_indexAddr (j := 0) rfl rfl rfl (by omega)) rfl ?_
          (repeat' first|refine kW ?_|refine kU fun bk=>?_|refine kV fun hc=>?_|refine kZ (fun hc=>?_) fun hc=>?_|fail)
          refine OW_EV (EV_load rfl w2 w3) rfl ?_
          by_cases hyc : y.toNat = c
          · have hbq : ((y.toNat : Int) == (c : Int)) = true := by simp; omega
            have hn2 := hfa.2 (by omega)
            (repeat' first|refine kW ?_|refine kU fun bk=>?_|refine kV fun hc=>?_|refine kZ (fun hc=>?_) fun hc=>?_|fail)
            exact WQ_round (X := Nat) (μ := fun n => fanI s c - n) (x := n) (n + 1) (by omega) ⟨by omega, by omega⟩ iS (fun w h => h)
          · have hbq : ((y.toNat : Int) == (c : Int)) = false := by simp; omega
            have hn2 : n = fanI s c := by
              rcases Nat.lt_or_ge n (fanI s c) with w | w
              · exact absurd (hfa.1 w) (by omega)
              · omega
            (repeat' first|refine kW ?_|refine kU fun bk=>?_|refine kV fun hc=>?_|refine kZ (fun hc=>?_) fun hc=>?_|fail)
            exact WQ_cut () trivial (by rw [← hn2]; exact iS) (fun w h => h)
        · obtain rfl : n = fanI s c := by omega
          (repeat' first|refine kW ?_|refine kU fun bk=>?_|refine kV fun hc=>?_|refine kZ (fun hc=>?_) fun hc=>?_|fail)
          refine OW_callP rfl rfl rfl (hcnt _) rfl ?_
          (repeat' first|refine kW ?_|refine kU fun bk=>?_|refine kV fun hc=>?_|refine kZ (fun hc=>?_) fun hc=>?_|fail)
          exact WQ_cut () trivial iS (fun w h => h)
      intro _ _
      (repeat' first|refine kW ?_|refine kU fun bk=>?_|refine kV fun hc=>?_|refine kZ (fun hc=>?_) fun hc=>?_|fail)
      refine OW_call rfl rfl rfl (Gv.take (iadd_n _ (ixF s c) (fanI s c) 4 Cc _ q7 (by decide) (by omega) (by omega)) (by repeat (first | exact Take.here | apply Take.there))) rfl (fun r' L' hp => ?_)
      obtain ⟨Cc', ho2, rfl⟩ := hp
      rw [beB_4, ← ixF_snoc] at ho2
      have hone2 := ow_one ho2
      obtain ⟨ca', cc', rfl⟩ := ow_slc ho2
      (repeat' first|refine kW ?_|refine kU fun bk=>?_|refine kV fun hc=>?_|refine kZ (fun hc=>?_) fun hc=>?_|fail)
      exact WQ_round (X := Nat × Value × Chunk) (μ := fun z => 256 - z.1) (x := (c, .slice ca (ixF s c).length cc, Cc)) (c + 1, .slice ca' (ixF s (c + 1)).length cc', Cc') (by simp only; omega) ⟨by simp only; omega, ho2⟩ iS (fun w h => (iC : Inc ([(q, cl [.slice ca' (ixF s (c + 1)).length cc', .slice ia (ixR s).length ic, .slice ra (ixC s).length rc, .slice oa (ixO 0 s).length oc, .slice fa (ixL s).length fc, .slice none 0 0] 61)] :: Cc' :: Ci :: Cr :: Co :: Cf :: [(r, cl [.slice none 0 0, .slice none 0 0, .slice none 0 0, .slice none 0 0, .slice none 0 0, .slice none 0 0] 61)] :: L) _).holds h)
    · obtain rfl : c = 256 := by omega
      (repeat' first|refine kW ?_|refine kU fun bk=>?_|refine kV fun hc=>?_|refine kZ (fun hc=>?_) fun hc=>?_|fail)
      exact WQ_cut (_, Cc) q7 iS (fun w h => h)
  rintro ⟨cv, Cc⟩ q7
  simp only at q7 ⊢
  obtain ⟨ca, cc, rfl⟩ := ow_slc q7
  (repeat' first|refine kW ?_|refine kU fun bk=>?_|refine kV fun hc=>?_|refine kZ (fun hc=>?_) fun hc=>?_|fail)
  refine OW_call rfl rfl rfl (unhex_n p _ (by omega)) rfl (fun r' L' hp => ?_)
  obtain ⟨hvx, Cp, rfl, rfl, hop⟩ := hp
  obtain ⟨pa, pc, rfl⟩ := ow_slc hop
  (repeat' first|refine kW ?_|refine kU fun bk=>?_|refine kV fun hc=>?_|refine kZ (fun hc=>?_) fun hc=>?_|fail)
  first
    | (refine WQ_retC (vs := [.agg ([.slice ca (ixF s 256).length cc, .slice ia (ixR s).length ic, .slice ra (ixC s).length rc, .slice oa (ixO 0 s).length oc, .slice fa (ixL s).length fc, .slice pa (unL p).length pc] : List Value).toArray]) rfl (.agg ⟨by kernel_rfl, by kernel_rfl⟩ rfl (RdAt.cl' (vs := [.slice ca (ixF s 256).length cc, .slice ia (ixR s).length ic, .slice ra (ixC s).length rc, .slice oa (ixO 0 s).length oc, .slice fa (ixL s).length fc, .slice pa (unL p).length pc]) (by repeat (first | assumption | exact Fnd.here | refine Fnd.there ?_)) rfl) rfl .nil) ?_
       exact ⟨Cc :: Ci :: Cr :: Co :: Cf :: Cp :: L, fun w h => (iC : Inc (Cc :: Ci :: Cr :: Co :: Cf :: Cp :: L) _).holds h, ⟨⟨ca, (ixF s 256).length, cc⟩, ⟨ia, (ixR s).length, ic⟩, ⟨ra, (ixC s).length, rc⟩, ⟨oa, (ixO 0 s).length, oc⟩, ⟨fa, (ixL s).length, fc⟩, ⟨pa, (unL p).length, pc⟩⟩, Cc, Ci, Cr, Co, Cf, Cp, rfl, q7, q2, q3, q4, q5, hop, rfl⟩)
    | (refine WQ_endC (vs := [.agg ([.slice ca (ixF s 256).length cc, .slice ia (ixR s).length ic, .slice ra (ixC s).length rc, .slice oa (ixO 0 s).length oc, .slice fa (ixL s).length fc, .slice pa (unL p).length pc] : List Value).toArray]) rfl (.agg ⟨by kernel_rfl, by kernel_rfl⟩ rfl (RdAt.cl' (vs := [.slice ca (ixF s 256).length cc, .slice ia (ixR s).length ic, .slice ra (ixC s).length rc, .slice oa (ixO 0 s).length oc, .slice fa (ixL s).length fc, .slice pa (unL p).length pc]) (by repeat (first | assumption | exact Fnd.here | refine Fnd.there ?_)) rfl) rfl .nil) ?_
       exact ⟨Cc :: Ci :: Cr :: Co :: Cf :: Cp :: L, fun w h => (iC : Inc (Cc :: Ci :: Cr :: Co :: Cf :: Cp :: L) _).holds h, ⟨⟨ca, (ixF s 256).length, cc⟩, ⟨ia, (ixR s).length, ic⟩, ⟨ra, (ixC s).length, rc⟩, ⟨oa, (ixO 0 s).length, oc⟩, ⟨fa, (ixL s).length, fc⟩, ⟨pa, (unL p).length, pc⟩⟩, Cc, Ci, Cr, Co, Cf, Cp, rfl, q7, q2, q3, q4, q5, hop, rfl⟩)
end
end Go.Proofs.Ytmhlmlkndabgmaa
namespace Go.Proofs.Ytmhlmlkndabgmaa
open Go Go.Vx Go.Pk Go.Ix
open Go.Ob (hshB)
set_option linter.all false
set_option maxRecDepth 40000
def ccB (ss : List (Value × List UInt8)) (i : Nat) : List UInt8 := (ss.take i).flatMap (·.2)
theorem ccB_succ {ss : List (Value × List UInt8)} {i : Nat} {x : Value × List UInt8} (h : ss[i]? = some x) : ccB ss (i + 1) = ccB ss i ++ x.2 := by
  unfold ccB
  rw [List.take_add_one, h]
  simp [List.flatMap_append]
theorem ccB_le (ss : List (Value × List UInt8)) (i : Nat) : (ccB ss i).length ≤ (ccB ss ss.length).length := by
  unfold ccB
  rw [List.take_length]
  conv => rhs; rw [← List.take_append_drop i ss]
  rw [List.flatMap_append, List.length_append]
  omega
section
variable [W0]
set_option maxHeartbeats 4000000 in
theorem bconcat_n (a : Option Addr) (c : Nat) (ss : List (Value × List UInt8)) (L : List Chunk) (h : Sl L 1 (.slice a ss.length c) ss.length (ss.map (·.1))) (hs : ∀ x ∈ ss, Sl L 1 x.1 x.2.length (bsv x.2)) (hl : ss.length ≤ 1000)
    (h1 : 1 ≤ (ccB ss ss.length).length) (hn : (ccB ss ss.length).length ≤ 1000000) :
    Gv Try.prog 56 [.slice a ss.length c].toArray L (fun r L' => ∃ C, L' = C :: L ∧ Ow 5 1 r (ccB ss ss.length).length (bsv (ccB ss ss.length)) C) := by
  refine Gv.of_body (args := [.slice a ss.length c]) Try.func56 rfl rfl ?_
  have hle := ccB_le ss
  (repeat' first|refine kW ?_|refine kU fun bk=>?_|refine kV fun hc=>?_|refine kZ (fun hc=>?_) fun hc=>?_|fail)
  refine WC_loop (X := Nat) (fun i => [(0, .slice a ss.length c), (3, .int .i64 ((ccB ss i).length : Int)), (9, .slice a ss.length c), (10, .int .i64 (ss.length : Int)), (11, .int .i64 (i : Int))]) (fun _ => L)
    (fun i => i ≤ ss.length) (fun i => ss.length - i) 0 (Nat.zero_le _) iS (fun w h => h) ?_
  intro i hi
  (repeat' first|refine kW ?_|refine kU fun bk=>?_|refine kV fun hc=>?_|refine kZ (fun hc=>?_) fun hc=>?_|fail)
  · have hlt : i < ss.length := by omega
    obtain ⟨x, hx⟩ : ∃ x, ss[i]? = some x := ⟨ss[i], List.getElem?_eq_getElem hlt⟩
    have hsx := hs x (List.mem_of_getElem? hx)
    obtain ⟨xv, xl⟩ := x
    simp only at hsx
    have hsu := ccB_succ hx
    have hle1 := hle (i + 1)
    rw [hsu, List.length_append] at hle1
    simp only at hsu hle1
    obtain ⟨xa, xc, rfl⟩ := sl_slice hsx
    obtain ⟨b, off, cap, cc, T, fr, hve, hfn, hcell⟩ := sl_at h (k := i) (u := .slice xa xl.length xc) (by rw [List.getElem?_map, hx]; rfl)
    injection hve with q1 q2 q3
    subst q1 q3
    clear q2
    refine OW_EV (EV_indexAddr (j := i) rfl rfl rfl hlt) rfl ?_
    (repeat' first|refine kW ?_|refine kU fun bk=>?_|refine kV fun hc=>?_|refine kZ (fun hc=>?_) fun hc=>?_|fail)
    refine OW_EV (EV_load rfl hfn hcell) rfl ?_
    (repeat' first|refine kW ?_|refine kU fun bk=>?_|refine kV fun hc=>?_|refine kZ (fun hc=>?_) fun hc=>?_|fail)
    rw [← Int.natCast_add, ← List.length_append, ← hsu]
    refine WQ_round (X := Nat) (μ := fun i => ss.length - i) (x := i) (i + 1) (by omega) (by omega) iS (fun w h => h)
  · obtain rfl : i = ss.length := by omega
    refine OW_call rfl rfl rfl (bgrow_n _ L h1 hn) rfl (fun r L' hp => ?_)
    obtain ⟨C, rfl, ho⟩ := hp
    (repeat' first|refine kW ?_|refine kU fun bk=>?_|refine kV fun hc=>?_|refine kZ (fun hc=>?_) fun hc=>?_|fail)
    refine WC_loop (X := Nat × Value × Chunk) (fun x => [(6, x.2.1), (25, .slice a ss.length c), (26, .int .i64 (ss.length : Int)), (27, .int .i64 (x.1 : Int))]) (fun x => x.2.2 :: L)
      (fun x => x.1 ≤ ss.length ∧ Ow 5 1 x.2.1 (ccB ss x.1).length (bsv (ccB ss x.1)) x.2.2) (fun x => ss.length - x.1) (0, r, C) ⟨Nat.zero_le _, ho⟩ iS (fun w h => h) ?_
    rintro ⟨i, v, C1⟩ ⟨hi, hov⟩
    simp only at hi hov ⊢
    (repeat' first|refine kW ?_|refine kU fun bk=>?_|refine kV fun hc=>?_|refine kZ (fun hc=>?_) fun hc=>?_|fail)
    · have hlt : i < ss.length := by omega
      obtain ⟨x, hx⟩ : ∃ x, ss[i]? = some x := ⟨ss[i], List.getElem?_eq_getElem hlt⟩
      have hsx := hs x (List.mem_of_getElem? hx)
      obtain ⟨xv, xl⟩ := x
      simp only at hsx
      have hsu := ccB_succ hx
      have hle1 := hle (i + 1)
      rw [hsu, List.length_append] at hle1
      simp only at hsu hle1
      obtain ⟨xa, xc, rfl⟩ := sl_slice hsx
      obtain ⟨b, off, cap, cc, T, fr, hve, hfn, hcell⟩ := sl_at h (k := i) (u := .slice xa xl.length xc) (by rw [List.getElem?_map, hx]; rfl)
      injection hve with q1 q2 q3
      subst q1 q3
      clear q2
      refine OW_EV (EV_indexAddr (j := i) rfl rfl rfl hlt) rfl ?_
      (repeat' first|refine kW ?_|refine kU fun bk=>?_|refine kV fun hc=>?_|refine kZ (fun hc=>?_) fun hc=>?_|fail)
      refine OW_EV (EV_load rfl hfn.there hcell) rfl ?_
      (repeat' first|refine kW ?_|refine kU fun bk=>?_|refine kV fun hc=>?_|refine kZ (fun hc=>?_) fun hc=>?_|fail)
      refine OW_append rfl rfl hov (sl_there hsx) (by repeat (first | exact Zip.here _ | apply Zip.there)) rfl bsv_ones (by omega) (by simp [maxLen]; omega) rfl (fun v' C' ho' _ _ => ?_)
      (repeat' first|refine kW ?_|refine kU fun bk=>?_|refine kV fun hc=>?_|refine kZ (fun hc=>?_) fun hc=>?_|fail)
      rw [← List.length_append, ← bsv_append, ← hsu] at ho'
      refine WQ_round (X := Nat × Value × Chunk) (μ := fun x => ss.length - x.1) (x := (i, v, C1)) (i + 1, v', C') (by simp only; omega) ⟨by simp only; omega, ho'⟩ iS (fun w h => h)
    · obtain rfl : i = ss.length := by omega
      refine kR ?_
      exact ⟨_, iC, C1, rfl, hov⟩
structure ColW (L : List Chunk) (s : List Obv) (p : List UInt8) (x : IxC) : Prop where
  c : Sl L 1 x.c.v (ixF s 256).length (bsv (ixF s 256))
  i : Sl L 1 x.i.v (ixR s).length (bsv (ixR s))
  r : Sl L 1 x.r.v (ixC s).length (bsv (ixC s))
  o : Sl L 1 x.o.v (ixO 0 s).length (bsv (ixO 0 s))
  f : Sl L 1 x.f.v (ixL s).length (bsv (ixL s))
  p : Sl L 1 x.p.v (unL p).length (bsv (unL p))
set_option maxHeartbeats 8000000 in
theorem ibytes_n (x : IxC) (s : List Obv) (p : List UInt8) (L : List Chunk) (h : IxS s p) (hx : ColW L s p x) :
    Gv Try.prog 28 [.agg x.vs.toArray].toArray L (fun r L' => ∃ C, Ow 5 1 r (ixW s p).length (bsv (ixW s p)) C ∧ L' = C :: L) := by
  obtain ⟨⟨ca, cn, cc⟩, ⟨ia, i_n, ic⟩, ⟨ra, rn, rc⟩, ⟨oa, on, oc⟩, ⟨fa, fn, fc⟩, ⟨pa, pn, pc⟩⟩ := x
  obtain ⟨h1, h2, h3, h4, h5, h6⟩ := hx
  simp only [Sc.v] at h1 h2 h3 h4 h5 h6
  refine Gv.of_body (args := [.agg #[.slice ca cn cc, .slice ia i_n ic, .slice ra rn rc, .slice oa on oc, .slice fa fn fc, .slice pa pn pc]]) Try.func28 rfl rfl ?_
  have hln := h.len
  have hBl := ixB_len h
  have hkl := farK_le s
  (repeat' first|refine kW ?_|refine kU fun bk=>?_|refine kV fun hc=>?_|refine kZ (fun hc=>?_) fun hc=>?_|fail)
  refine OW_buildSlice (cs := bsv mgI) rfl (by rfl) (by first | rfl | (simp [fillL, patch, Value.cells, zeros]; done) | (simp [fillL, patch, Value.cells, zeros]; rfl)) (by omega) rfl rfl (fun bm => ?_)
  (repeat' first|refine kW ?_|refine kU fun bk=>?_|refine kV fun hc=>?_|refine kZ (fun hc=>?_) fun hc=>?_|fail)
  refine OW_convSame (l := bsv mgI) rfl iU rfl ?_
  (repeat' first|refine kW ?_|refine kU fun bk=>?_|refine kV fun hc=>?_|refine kZ (fun hc=>?_) fun hc=>?_|fail)
  refine OW_buildSlice (cs := [.slice (some ⟨bm, 0, none⟩) 8 8, .slice ca cn cc, .slice ia i_n ic, .slice ra rn rc, .slice oa on oc, .slice fa fn fc, .slice pa pn pc]) rfl (by rfl) (by first | rfl | (simp [fillL, patch, Value.cells, zeros]; done) | (simp [fillL, patch, Value.cells, zeros]; rfl)) (by omega) rfl rfl (fun bl => ?_)
  (repeat' first|refine kW ?_|refine kU fun bk=>?_|refine kV fun hc=>?_|refine kZ (fun hc=>?_) fun hc=>?_|fail)
  obtain ⟨ss, hss⟩ : ∃ ss : List (Value × List UInt8), ss = [(.slice (some ⟨bm, 0, none⟩) 8 8, mgI), (.slice ca cn cc, ixF s 256), (.slice ia i_n ic, ixR s), (.slice ra rn rc, ixC s), (.slice oa on oc, ixO 0 s), (.slice fa fn fc, ixL s), (.slice pa pn pc, unL p)] := ⟨_, rfl⟩
  have hsl : ss.length = 7 := by rw [hss]; rfl
  have hcc : ccB ss ss.length = ixB s p := by
    rw [hss]
    unfold ccB ixB
    simp only [List.take_length, List.flatMap_cons, List.flatMap_nil, List.append_nil, List.append_assoc]
  have hm : ss.map (·.1) = [.slice (some ⟨bm, 0, none⟩) 8 8, .slice ca cn cc, .slice ia i_n ic, .slice ra rn rc, .slice oa on oc, .slice fa fn fc, .slice pa pn pc] := by rw [hss]; rfl
  have hcon : ∀ L, Sl L 1 (.slice (some ⟨bl, 0, none⟩) 7 7) 7 [.slice (some ⟨bm, 0, none⟩) 8 8, .slice ca cn cc, .slice ia i_n ic, .slice ra rn rc, .slice oa on oc, .slice fa fn fc, .slice pa pn pc] → (∀ x ∈ ss, Sl L 1 x.1 x.2.length (bsv x.2)) → Gv Try.prog 56 [.slice (some ⟨bl, 0, none⟩) 7 7].toArray L (fun r L' => ∃ C, L' = C :: L ∧ Ow 5 1 r (ixB s p).length (bsv (ixB s p)) C) := fun L h hs => by
    have := bconcat_n (some ⟨bl, 0, none⟩) 7 ss L (by rw [hm, hsl]; exact h) hs (by omega) (by rw [hcc]; omega) (by rw [hcc]; omega)
    rw [hcc, hsl] at this
    exact this
  refine OW_call rfl rfl rfl (hcon _ (sl_cells (k := 1) (c := ([.slice (some ⟨bm, 0, none⟩) 8 8, .slice ca cn cc, .slice ia i_n ic, .slice ra rn rc, .slice oa on oc, .slice fa fn fc, .slice pa pn pc] : List Value).toArray) (xs := [.slice (some ⟨bm, 0, none⟩) 8 8, .slice ca cn cc, .slice ia i_n ic, .slice ra rn rc, .slice oa on oc, .slice fa fn fc, .slice pa pn pc]) (m := 7) Fnd.here rfl (by simp)) (fun x hx => ?_)) rfl (fun r L' hp => ?_)
  · rw [hss] at hx
    simp only [List.mem_cons, List.not_mem_nil, or_false] at hx
    rcases hx with rfl | rfl | rfl | rfl | rfl | rfl | rfl
    · exact sl_cells (k := 1) (c := (bsv mgI).toArray) (xs := bsv mgI) (m := 8) (Fnd.there Fnd.here) rfl (by simp)
    · exact sl_there (sl_there (sl_there h1))
    · exact sl_there (sl_there (sl_there h2))
    · exact sl_there (sl_there (sl_there h3))
    · exact sl_there (sl_there (sl_there h4))
    · exact sl_there (sl_there (sl_there h5))
    · exact sl_there (sl_there (sl_there h6))
  obtain ⟨Cb, rfl, hob⟩ := hp
  obtain ⟨ba, bc, rfl⟩ := ow_slc hob
  (repeat' first|refine kW ?_|refine kU fun bk=>?_|refine kV fun hc=>?_|refine kZ (fun hc=>?_) fun hc=>?_|fail)
  refine OW_call rfl rfl rfl (sha1_n (ixB s p) _ _ (by omega) ⟨ow_sl hob, (Rs.ow (L := L) hob).room⟩) rfl (fun r L' hp => ?_)
  obtain ⟨Ch, rfl, hoh⟩ := hp
  obtain ⟨ha, hc2, rfl⟩ := ow_slc hoh
  (repeat' first|refine kW ?_|refine kU fun bk=>?_|refine kV fun hc=>?_|refine kZ (fun hc=>?_) fun hc=>?_|fail)
  refine OW_append rfl rfl hob (ow_sl hoh) (by repeat (first | exact Zip.here _ | apply Zip.there)) (by rfl) bsv_ones (by omega) (by simp only [maxLen]; omega) rfl (fun v4 C4 ho4 hn1 hn2 => ?_)
  have hln2 : (ixB s p).length + 20 = (ixW s p).length := by unfold ixW; rw [List.length_append, shaN_length]
  rw [← bsv_append, hln2] at ho4
  have hone := ow_one ho4
  (repeat' first|refine kW ?_|refine kU fun bk=>?_|refine kV fun hc=>?_|refine kZ (fun hc=>?_) fun hc=>?_|fail)
  refine kR ?_
  exact ⟨C4 :: L, iC, C4, ho4, rfl⟩
end
end Go.Proofs.Ytmhlmlkndabgmaa
namespace Go.Proofs.Ytmhlmlkndabgmaa
open Go Go.Vx Go.Pk Go.Ix
open Go.Ob (hshB)
set_option linter.all false
set_option maxRecDepth 40000
section
variable [W0]
instance (x : Obv) : Decidable (okI x) := by unfold okI; exact inferInstance
def okIB (x : Obv) : Bool := decide (okI x)
theorem okIB_t {x : Obv} : okIB x = true ↔ okI x := by unfold okIB; exact decide_eq_true_iff
theorem okIB_f {x : Obv} (h : ¬ okI x) : okIB x = false := by
  cases hb : okIB x with
  | false => rfl
  | true => exact absurd (okIB_t.1 hb) h
set_option maxHeartbeats 4000000 in
theorem iswrong_n (x : Obv) (L : List Chunk) (hl : x.1.1.id.length ≤ 140737488355328) : GvP Try.prog 21 [.agg (enO x).toArray].toArray L (.bool (!okIB x)) := by
  obtain ⟨bp, bn, bc, hbs, hcs⟩ := enO_lit x
  rw [hcs]
  obtain ⟨a, ha⟩ : ∃ a, a = x.1.1.at_ := ⟨_, rfl⟩
  rw [← ha]
  refine Gv.of_body (args := [.agg #[.int .i64 x.1.1.kind, .slice bp bn bc, .string (str x.1.1.id), .int .i64 a, w32 x.1.1.crc]]) Try.func21 rfl rfl ?_
  (repeat' first|refine kW ?_|refine kU fun bk=>?_|refine kV fun hc=>?_|refine kZ (fun hc=>?_) fun hc=>?_|fail)
  refine OW_callP rfl rfl rfl (hash_n x.1.1.id _ (by omega)) rfl ?_
  by_cases hq : hshB x.1.1.id = true
  rotate_left
  · rw [show hshB x.1.1.id = false from by simpa using hq, okIB_f (fun w => hq w.1)]
    (repeat' first|refine kW ?_|refine kU fun bk=>?_|refine kV fun hc=>?_|refine kZ (fun hc=>?_) fun hc=>?_|fail)
    exact kE
  rw [hq]
  by_cases c1 : a < 0
  · rw [okIB_f (fun w => by have := w.2.1; omega)]
    (repeat' first|refine kW ?_|refine kU fun bk=>?_|refine kV fun hc=>?_|refine kZ (fun hc=>?_) fun hc=>?_|fail)
    exact kE
  by_cases c2 : a > 4611686018427387904
  · rw [okIB_f (fun w => by have := w.2.2; omega)]
    (repeat' first|refine kW ?_|refine kU fun bk=>?_|refine kV fun hc=>?_|refine kZ (fun hc=>?_) fun hc=>?_|fail)
    rw [show decide (a > 4611686018427387904) = true from decide_eq_true c2]
    exact kE
  rw [okIB_t.2 ⟨hq, by omega, by omega⟩]
  (repeat' first|refine kW ?_|refine kU fun bk=>?_|refine kV fun hc=>?_|refine kZ (fun hc=>?_) fun hc=>?_|fail)
  rw [show decide (a > 4611686018427387904) = false from decide_eq_false c2]
  exact kE
def iwV : Value := .func (.func 21) #[] #[]
set_option maxHeartbeats 4000000 in
theorem iindexf_n (v : Value) (l : List Obv) (L : List Chunk) (h : Sl L 5 v l.length (l.flatMap enO)) (hl : l.length ≤ 1000000) (hi : ∀ x ∈ l, x.1.1.id.length ≤ 140737488355328) :
    Gv Try.prog 50 [v, iwV].toArray L (fun r L' => ∃ k : Int, r = .int .i64 k ∧ (0 ≤ k ↔ l.all okIB = false) ∧ L' = L) := by
  obtain ⟨va, vc, rfl⟩ := sl_slice h
  refine Gv.of_body (args := [.slice va l.length vc, iwV]) Try.func50 rfl rfl ?_
  (repeat' first|refine kW ?_|refine kU fun bk=>?_|refine kV fun hc=>?_|refine kZ (fun hc=>?_) fun hc=>?_|fail)
  refine WC_loop (X := Nat) (fun i => [(0, .slice va l.length vc), (1, iwV), (7, .int .i64 (l.length : Int)), (8, .int .i64 (i : Int))]) (fun _ => L)
    (fun i => i ≤ l.length ∧ (l.take i).all okIB = true) (fun i => l.length - i) 0 ⟨Nat.zero_le _, rfl⟩ iS (fun w h => h) ?_
  rintro i ⟨q1, q2⟩
  by_cases hlt : i < l.length
  · obtain ⟨x, hx⟩ : ∃ x, l[i]? = some x := ⟨l[i], by simp [hlt]⟩
    obtain ⟨b1, o1, c1, hv, hr⟩ := row_at enO_len h hx (by decide)
    injection hv with w1 w2 w3
    subst w1
    have hxm := List.mem_of_getElem? hx
    have htk : (l.take (i + 1)).all okIB = ((l.take i).all okIB && okIB x) := by rw [List.take_add_one, List.all_append, hx]; simp
    have hiw := fun L => iswrong_n x L (hi x hxm)
    (repeat' first|refine kW ?_|refine kU fun bk=>?_|refine kV fun hc=>?_|refine kZ (fun hc=>?_) fun hc=>?_|fail)
    refine OW_EV (EV_indexAddr (j := i) rfl rfl rfl hlt) rfl ?_
    (repeat' first|refine kW ?_|refine kU fun bk=>?_|refine kV fun hc=>?_|refine kZ (fun hc=>?_) fun hc=>?_|fail)
    refine OW_EV (EV_loadAgg rfl hr rfl) rfl ?_
    (repeat' first|refine kW ?_|refine kU fun bk=>?_|refine kV fun hc=>?_|refine kZ (fun hc=>?_) fun hc=>?_|fail)
    refine OW_callP rfl rfl rfl (hiw _) rfl ?_
    cases hb : okIB x with
    | false =>
      (repeat' first|refine kW ?_|refine kU fun bk=>?_|refine kV fun hc=>?_|refine kZ (fun hc=>?_) fun hc=>?_|fail)
      refine kR ?_
      refine ⟨L, iC, _, rfl, ⟨fun _ => ?_, fun _ => by omega⟩, rfl⟩
      rw [Bool.eq_false_iff]
      intro hh
      have := List.all_eq_true.1 hh x hxm
      rw [hb] at this
      cases this
    | true =>
      (repeat' first|refine kW ?_|refine kU fun bk=>?_|refine kV fun hc=>?_|refine kZ (fun hc=>?_) fun hc=>?_|fail)
      refine WQ_round (X := Nat) (μ := fun i => l.length - i) (x := i) (i + 1) (by omega) ⟨by omega, by rw [htk, q2, hb]; rfl⟩ iS (fun w h => h)
  · obtain rfl : i = l.length := by omega
    rw [List.take_length] at q2
    (repeat' first|refine kW ?_|refine kU fun bk=>?_|refine kV fun hc=>?_|refine kZ (fun hc=>?_) fun hc=>?_|fail)
    refine kR ?_
    refine ⟨L, iC, _, rfl, ⟨fun h => absurd h (by decide), fun hh => ?_⟩, rfl⟩
    rw [q2] at hh
    cases hh
set_option maxHeartbeats 4000000 in
theorem icontains_n (v : Value) (l : List Obv) (L : List Chunk) (h : Sl L 5 v l.length (l.flatMap enO)) (hl : l.length ≤ 1000000) (hi : ∀ x ∈ l, x.1.1.id.length ≤ 140737488355328) :
    GvP Try.prog 20 [v, iwV].toArray L (.bool (!l.all okIB)) := by
  obtain ⟨va, vc, rfl⟩ := sl_slice h
  refine Gv.of_body (args := [.slice va l.length vc, iwV]) Try.func20 rfl rfl ?_
  (repeat' first|refine kW ?_|refine kU fun bk=>?_|refine kV fun hc=>?_|refine kZ (fun hc=>?_) fun hc=>?_|fail)
  refine OW_call rfl rfl rfl (iindexf_n _ l L h hl hi) rfl (fun r L' hp => ?_)
  obtain ⟨k, rfl, hk, rfl⟩ := hp
  (repeat' first|refine kW ?_|refine kU fun bk=>?_|refine kV fun hc=>?_|refine kZ (fun hc=>?_) fun hc=>?_|fail)
  refine kR ?_
  refine ⟨L', iC, congrArg Value.bool ?_, rfl⟩
  rw [Bool.eq_iff_iff]
  simp only [Bool.not_eq_true']
  rw [← hk]
  simp
set_option maxHeartbeats 4000000 in
theorem oclone_n (v : Value) (l : List Obv) (L : List Chunk) (h : Sl L 5 v l.length (l.flatMap enO)) (hl : l.length ≤ 1000000) :
    Gv Try.prog 23 [v].toArray L (fun r L' => ∃ C, Ow 30 5 r l.length (l.flatMap enO) C ∧ L' = C :: L) := by
  have hone : ones (l.flatMap enO) = true := ones_of fun v hv => by obtain ⟨x, _, hx⟩ := List.mem_flatMap.1 hv; exact enO_one x v hx
  refine Gv.of_body (args := [v]) Try.func23 rfl rfl ?_
  rcases h with ⟨c, rfl, h0, hx⟩ | ⟨a, cap, rfl, hr, hll⟩
  · rw [h0, hx]
    (repeat' first|refine kW ?_|refine kU fun bk=>?_|refine kV fun hc=>?_|refine kZ (fun hc=>?_) fun hc=>?_|fail)
    refine WQ_holds (L' := [] :: L) (fun w h => Holds.nil.2 h) ?_
    refine kR ?_
    exact ⟨[] :: L, iC, [], .inl ⟨rfl, rfl, rfl, rfl⟩, rfl⟩
  · (repeat' first|refine kW ?_|refine kU fun bk=>?_|refine kV fun hc=>?_|refine kZ (fun hc=>?_) fun hc=>?_|fail)
    apply OW_buildSlice (parts := []) rfl (by rfl) (by simp [fillL]; rfl) (by omega) rfl rfl (fun b0 => ?_)
    (repeat' first|refine kW ?_|refine kU fun bk=>?_|refine kV fun hc=>?_|refine kZ (fun hc=>?_) fun hc=>?_|fail)
    refine OW_append (m := 0) (c := l.length) (xs := []) (ys := l.flatMap enO) (C := [(b0, cl [] 30)]) rfl rfl (.inr ⟨b0, 0, [], rfl, rfl, rfl, rfl, Nat.le_refl _, by simp [maxLen]⟩) (.inr ⟨a, cap, rfl, RdAt.up hr, hll⟩) (by repeat (first | exact Zip.here _ | apply Zip.there)) rfl hone (by omega) (by unfold maxLen; omega) rfl (fun v1 C1 h1 _ _ => ?_)
    rw [Nat.zero_add] at h1
    have hone1 := ow_one h1
    (repeat' first|refine kW ?_|refine kU fun bk=>?_|refine kV fun hc=>?_|refine kZ (fun hc=>?_) fun hc=>?_|fail)
    refine kR ?_
    exact ⟨C1 :: L, iC, C1, h1, rfl⟩
end
end Go.Proofs.Ytmhlmlkndabgmaa
namespace Go.Proofs.Ytmhlmlkndabgmaa
open Go Go.Shelf Go.Proofs
set_option linter.all false
set_option maxRecDepth 100000
def sh_o_ren : Go.Shelf.Ren :=
  {
    f := fun x =>
      match x with
      | 6 => 24
      | 15 => 52
      | 14 => 51
      | 28 => 75
      | 29 => 76
      | 20 => 67
      | 21 => 68
      | 22 => 69
      | 23 => 70
      | 24 => 71
      | 25 => 72
      | 26 => 73
      | 27 => 74
      | 46 => 83
      | 47 => 84
      | 48 => 85
      | 49 => 86
      | 50 => 87
      | 57 => 91
      | n => n,
    t := fun x =>
      match x with
      | 22 => 23
      | 24 => 30
      | 25 => 59
      | 3 => 3
      | 39 => 27
      | 0 => 0
      | 53 => 28
      | 55 => 78
      | 4 => 4
      | 46 => 102
      | 45 => 101
      | 50 => 34
      | 5 => 5
      | 9 => 9
      | 66 => 116
      | 70 => 120
      | 76 => 127
      | 77 => 68
      | n => n,
    g := fun x =>
      have n := x;
      n }
theorem sh_o : Go.Proofs.SlLaysF0.n6 Go.Proofs.Try.prog sh_o_ren :=
  { mixed := by kernel_rfl,
    f6 :=
      Exists.intro "slices.SortFunc[[]stemma/api.Object,stemma/api.Object]"
        ⟨of_decide_eq_true (id (Eq.refl Bool.true)),
          Eq.trans Go.Proofs.Try.func24
            (by kernel_rfl)⟩,
    f14 :=
      Exists.intro "slices.pdqsortCmpFunc[stemma/api.Object]"
        ⟨of_decide_eq_true (id (Eq.refl Bool.true)),
          Eq.trans Go.Proofs.Try.func51
            (by kernel_rfl)⟩,
    f15 := Eq.trans Go.Proofs.Try.func52 (by kernel_rfl),
    f20 :=
      Exists.intro "slices.insertionSortCmpFunc[stemma/api.Object]"
        ⟨of_decide_eq_true (id (Eq.refl Bool.true)),
          Eq.trans Go.Proofs.Try.func67
            (by kernel_rfl)⟩,
    f21 :=
      Exists.intro "slices.heapSortCmpFunc[stemma/api.Object]"
        ⟨of_decide_eq_true (id (Eq.refl Bool.true)),
          Eq.trans Go.Proofs.Try.func68
            (by kernel_rfl)⟩,
    f22 :=
      Exists.intro "slices.breakPatternsCmpFunc[stemma/api.Object]"
        ⟨of_decide_eq_true (id (Eq.refl Bool.true)),
          Eq.trans Go.Proofs.Try.func69
            (by kernel_rfl)⟩,
    f23 :=
      Exists.intro "slices.choosePivotCmpFunc[stemma/api.Object]"
        ⟨of_decide_eq_true (id (Eq.refl Bool.true)),
          Eq.trans Go.Proofs.Try.func70
            (by kernel_rfl)⟩,
    f24 :=
      Exists.intro "slices.reverseRangeCmpFunc[stemma/api.Object]"
        ⟨of_decide_eq_true (id (Eq.refl Bool.true)),
          Eq.trans Go.Proofs.Try.func71
            (by kernel_rfl)⟩,
    f25 :=
      Exists.intro "slices.partialInsertionSortCmpFunc[stemma/api.Object]"
        ⟨of_decide_eq_true (id (Eq.refl Bool.true)),
          Eq.trans Go.Proofs.Try.func72
            (by kernel_rfl)⟩,
    f26 :=
      Exists.intro "slices.partitionEqualCmpFunc[stemma/api.Object]"
        ⟨of_decide_eq_true (id (Eq.refl Bool.true)),
          Eq.trans Go.Proofs.Try.func73
            (by kernel_rfl)⟩,
    f27 :=
      Exists.intro "slices.partitionCmpFunc[stemma/api.Object]"
        ⟨of_decide_eq_true (id (Eq.refl Bool.true)),
          Eq.trans Go.Proofs.Try.func74
            (by kernel_rfl)⟩,
    f28 := Eq.trans Go.Proofs.Try.func75 (by kernel_rfl),
    f29 := Eq.trans Go.Proofs.Try.func76 (by kernel_rfl),
    f46 :=
      Exists.intro "slices.siftDownCmpFunc[stemma/api.Object]"
        ⟨of_decide_eq_true (id (Eq.refl Bool.true)),
          Eq.trans Go.Proofs.Try.func83
            (by kernel_rfl)⟩,
    f47 := Eq.trans Go.Proofs.Try.func84 (by kernel_rfl),
    f48 := Eq.trans Go.Proofs.Try.func85 (by kernel_rfl),
    f49 :=
      Exists.intro "slices.medianAdjacentCmpFunc[stemma/api.Object]"
        ⟨of_decide_eq_true (id (Eq.refl Bool.true)),
          Eq.trans Go.Proofs.Try.func86
            (by kernel_rfl)⟩,
    f50 :=
      Exists.intro "slices.medianCmpFunc[stemma/api.Object]"
        ⟨of_decide_eq_true (id (Eq.refl Bool.true)),
          Eq.trans Go.Proofs.Try.func87
            (by kernel_rfl)⟩,
    f57 :=
      Exists.intro "slices.order2CmpFunc[stemma/api.Object]"
        ⟨of_decide_eq_true (id (Eq.refl Bool.true)),
          Eq.trans Go.Proofs.Try.func91
            (by kernel_rfl)⟩,
    t0 := Go.Proofs.Try.underlying0, a0 := Go.Proofs.Try.isAgg0, z0 := Go.Proofs.Try.sizeOf0,
    v0 := Go.Proofs.Try.zeroValue0, t3 := Go.Proofs.Try.underlying3, a3 := Go.Proofs.Try.isAgg3,
    z3 := Go.Proofs.Try.sizeOf3, v3 := Go.Proofs.Try.zeroValue3, t4 := Go.Proofs.Try.underlying4,
    a4 := Go.Proofs.Try.isAgg4, z4 := Go.Proofs.Try.sizeOf4, v4 := Go.Proofs.Try.zeroValue4,
    t5 := Go.Proofs.Try.underlying5, a5 := Go.Proofs.Try.isAgg5, z5 := Go.Proofs.Try.sizeOf5,
    v5 := Go.Proofs.Try.zeroValue5, t9 := Go.Proofs.Try.underlying9, a9 := Go.Proofs.Try.isAgg9,
    z9 := Go.Proofs.Try.sizeOf9, v9 := Go.Proofs.Try.zeroValue9, t22 := Go.Proofs.Try.underlying23,
    a22 := Go.Proofs.Try.isAgg23, z22 := Go.Proofs.Try.sizeOf23, v22 := Go.Proofs.Try.zeroValue23,
    t25 := Go.Proofs.Try.underlying59, a25 := Go.Proofs.Try.isAgg59, z25 := Go.Proofs.Try.sizeOf59,
    v25 := Go.Proofs.Try.zeroValue59, t39 := Go.Proofs.Try.underlying27, a39 := Go.Proofs.Try.isAgg27,
    z39 := Go.Proofs.Try.sizeOf27, v39 := Go.Proofs.Try.zeroValue27, t45 := Go.Proofs.Try.underlying101,
    a45 := Go.Proofs.Try.isAgg101, z45 := Go.Proofs.Try.sizeOf101, v45 := Go.Proofs.Try.zeroValue101,
    t46 := Go.Proofs.Try.underlying102, a46 := Go.Proofs.Try.isAgg102, z46 := Go.Proofs.Try.sizeOf102,
    v46 := Go.Proofs.Try.zeroValue102, t50 := Go.Proofs.Try.underlying34, a50 := Go.Proofs.Try.isAgg34,
    z50 := Go.Proofs.Try.sizeOf34, v50 := Go.Proofs.Try.zeroValue34, t53 := Go.Proofs.Try.underlying28,
    a53 := Go.Proofs.Try.isAgg28, z53 := Go.Proofs.Try.sizeOf28, v53 := Go.Proofs.Try.zeroValue28,
    t55 := Go.Proofs.Try.underlying78, a55 := Go.Proofs.Try.isAgg78, z55 := Go.Proofs.Try.sizeOf78,
    v55 := Go.Proofs.Try.zeroValue78, t66 := Go.Proofs.Try.underlying116, a66 := Go.Proofs.Try.isAgg116,
    z66 := Go.Proofs.Try.sizeOf116, v66 := Go.Proofs.Try.zeroValue116, t70 := Go.Proofs.Try.underlying120,
    a70 := Go.Proofs.Try.isAgg120, z70 := Go.Proofs.Try.sizeOf120, v70 := Go.Proofs.Try.zeroValue120,
    t76 := Go.Proofs.Try.underlying127, a76 := Go.Proofs.Try.isAgg127, z76 := Go.Proofs.Try.sizeOf127,
    v76 := Go.Proofs.Try.zeroValue127, t77 := Go.Proofs.Try.underlying68, a77 := Go.Proofs.Try.isAgg68,
    z77 := Go.Proofs.Try.sizeOf68, v77 := Go.Proofs.Try.zeroValue68 }
end Go.Proofs.Ytmhlmlkndabgmaa
namespace Go.Proofs.Ytmhlmlkndabgmaa
open Go Go.Vx Go.Pk Go.Sort Go.Proofs
set_option linter.all false
set_option maxRecDepth 4000
section
variable [W0]
theorem flatK_list {α : Type} [Inhabited α] (enc : α → List Value) (k : Nat) (hp : 0 < k) (hk : ∀ x, (enc x).length = k) (d : Array α) : (flatK enc k d).toList = d.toList.flatMap enc := by
  refine List.ext_getElem (by rw [flat_len enc k hk]; simp) fun t h1 h2 => ?_
  have ht : t < d.size * k := by simpa using h1
  have hd : t / k < d.size := Nat.div_lt_of_lt_mul (by rwa [Nat.mul_comm])
  have hm := Nat.mod_lt t hp
  have e1 : d.toList[t / k]? = some d[t / k] := by simp [hd]
  have e2 : (enc d[t / k])[t % k]? = some ((enc d[t / k])[t % k]'(by rw [hk]; exact hm)) := List.getElem?_eq_getElem _
  have e3 := flat_at enc k hk d.toList (t / k) _ e1 (t % k) _ e2
  rw [Nat.div_add_mod'] at e3
  have e4 := List.getElem?_eq_some_iff.1 e3
  rw [e4.2]
  have e5 := get_flatK enc k d t ht
  rw [getElem!_pos _ _ (by simpa using ht)] at e5
  rw [Array.getElem_toList, e5, getElem!_pos d _ hd, getElem!_pos _ _ (by rw [hk]; exact hm)]
theorem putCells_all (F F0 rest : List Value) (A : Array Value) (hA : A.toList = F) (h : F.length = F0.length) : putCells id 0 A (F0 ++ rest).toArray = (F ++ rest).toArray := by
  apply Array.ext'
  subst hA
  have hs : A.size = F0.length := by simpa using h
  refine List.ext_getElem? fun j => ?_
  unfold putCells
  simp only [Array.getElem?_toList, Array.getElem?_mapIdx, List.getElem?_toArray, List.toList_toArray]
  rcases Nat.lt_or_ge j A.size with hj | hj
  · rw [List.getElem?_append_left (by omega), List.getElem?_append_left (by simpa using hj), List.getElem?_eq_getElem (by omega)]
    simp [hj]
  · rw [List.getElem?_append_right (by omega), List.getElem?_append_right (by simpa using hj)]
    simp only [Array.length_toList, hs]
    cases hr : rest[j - F0.length]? with
    | none => rfl
    | some x => rw [Option.map_some, if_neg (by omega)]
end
end Go.Proofs.Ytmhlmlkndabgmaa
namespace Go.Ix
open Go
set_option linter.all false
def pcB (b : List UInt8) (s k : Nat) : List UInt8 := (b.drop s).take k
theorem pcB_len {b : List UInt8} {s k : Nat} (h : s + k ≤ b.length) : (pcB b s k).length = k := by unfold pcB; rw [List.length_take, List.length_drop]; omega
theorem pcB_pc {b : List UInt8} {s k t m : Nat} (h : t + m ≤ k) : ((pcB b s k).drop t).take m = pcB b (s + t) m := by
  unfold pcB; rw [List.drop_take, List.take_take, List.drop_drop, Nat.min_eq_left (by omega)]
theorem pcB_nm {b : List UInt8} {s k t m : Nat} (h : t + m ≤ k) : gv (((pcB b s k).drop t).take m) = nmB b (s + t) m := by rw [pcB_pc h]; rfl
end Go.Ix
namespace Go.Proofs.Ytmhlmlkndabgmaa
open Go Go.Vx Go.Pk Go.Ix
set_option linter.all false
set_option maxRecDepth 4000
section
variable [W0]
structure IxV (L : List Chunk) (b : List UInt8) (x : IxC) : Prop where
  len : 1072 + 28 * pxN b ≤ b.length
  most : pxN b ≤ 4096
  c : Rs L 1 x.c.v (pcB b 8 1024).length (bsv (pcB b 8 1024))
  i : Rs L 1 x.i.v (pcB b 1032 (20 * pxN b)).length (bsv (pcB b 1032 (20 * pxN b)))
  r : Rs L 1 x.r.v (pcB b (1032 + 20 * pxN b) (4 * pxN b)).length (bsv (pcB b (1032 + 20 * pxN b) (4 * pxN b)))
  o : Rs L 1 x.o.v (pcB b (1032 + 24 * pxN b) (4 * pxN b)).length (bsv (pcB b (1032 + 24 * pxN b) (4 * pxN b)))
  f : Rs L 1 x.f.v (pcB b (1032 + 28 * pxN b) (b.length - 1072 - 28 * pxN b)).length (bsv (pcB b (1032 + 28 * pxN b) (b.length - 1072 - 28 * pxN b)))
  p : Rs L 1 x.p.v (pcB b (b.length - 40) 20).length (bsv (pcB b (b.length - 40) 20))
theorem IxV.up {C : Chunk} {L : List Chunk} {b : List UInt8} {x : IxC} (h : IxV L b x) : IxV (C :: L) b x := ⟨h.len, h.most, h.c.there, h.i.there, h.r.there, h.o.there, h.f.there, h.p.there⟩
theorem sc_rs {L : List Chunk} {s : Sc} {d : List UInt8} (h : Rs L 1 s.v d.length (bsv d)) : s.n = d.length ∧ d.length ≤ s.c := by
  obtain ⟨a, c, hv, hc⟩ := h.room
  unfold Sc.v at hv
  injection hv with w1 w2 w3
  exact ⟨w2, by omega⟩
theorem inum_p (v : Value) (b : List UInt8) (s k i m : Nat) (L : List Chunk) (h : Rs L 1 v (pcB b s k).length (bsv (pcB b s k))) (hm : m = 4 ∨ m = 8) (hk : s + k ≤ b.length) (hi : (i + 1) * m ≤ k) (hb : b.length ≤ 1000000) :
    GvP Try.prog 64 [v, .int .i64 (i : Int), .int .i64 (m : Int)].toArray L (.int .u64 (nmB b (s + m * i) m : Int)) := by
  have hl := pcB_len hk
  have h1 : i * m + m ≤ k := by rw [Nat.add_mul, Nat.one_mul] at hi; exact hi
  have := inum_n v (pcB b s k) i m L h.sl h.room hm (by omega) (by omega)
  rwa [pcB_nm h1, Nat.mul_comm i m] at this
set_option maxHeartbeats 2000000 in
theorem icrc_n (x : IxC) (b : List UInt8) (i : Nat) (L : List Chunk) (h : IxV L b x) (hi : i < pxN b) (hb : b.length ≤ 1000000) : GvP Try.prog 45 [.agg x.vs.toArray, .int .i64 (i : Int)].toArray L (w32 (pxC b i)) := by
  have hln := h.len
  obtain ⟨⟨ca, cn, cc⟩, ⟨ia, i_n, ic⟩, ⟨ra, rn, rc⟩, ⟨oa, on, oc⟩, ⟨fa, fn, fc⟩, ⟨pa, pn, pc⟩⟩ := x
  have hr := h.r
  obtain ⟨hn, _⟩ := sc_rs hr
  simp only at hn
  subst hn
  obtain ⟨y, hy⟩ : ∃ y, y = nmB b (1032 + 20 * pxN b + 4 * i) 4 := ⟨_, rfl⟩
  have hc : BitVec.ofNat 32 y = pxC b i := by rw [hy]; rfl
  refine Gv.of_body (args := [.agg #[.slice ca cn cc, .slice ia i_n ic, .slice ra (pcB b (1032 + 20 * pxN b) (4 * pxN b)).length rc, .slice oa on oc, .slice fa fn fc, .slice pa pn pc], .int .i64 (i : Int)]) Try.func45 rfl rfl ?_
  have hnum := fun C => inum_p (.slice ra (pcB b (1032 + 20 * pxN b) (4 * pxN b)).length rc) b (1032 + 20 * pxN b) (4 * pxN b) i 4 _ (hr.there (C := C)) (.inl rfl) (by omega) (by omega) hb
  rw [← hy] at hnum
  (repeat' first|refine kW ?_|refine kU fun bk=>?_|refine kV fun hc=>?_|refine kZ (fun hc=>?_) fun hc=>?_|fail)
  refine OW_callP rfl rfl rfl (hnum _) rfl ?_
  (repeat' first|refine kW ?_|refine kU fun bk=>?_|refine kV fun hc=>?_|refine kZ (fun hc=>?_) fun hc=>?_|fail)
  rw [wrap_w32 y, hc]
  exact kE
set_option maxHeartbeats 4000000 in
theorem iat_n (x : IxC) (b : List UInt8) (i : Nat) (L : List Chunk) (h : IxV L b x) (hok : PxOk b) (hi : i < pxN b) (hb : b.length ≤ 1000000) : GvP Try.prog 36 [.agg x.vs.toArray, .int .i64 (i : Int)].toArray L (.int .i64 (pxAt b i : Int)) := by
  have hln := h.len
  have hlen := hok.len
  obtain ⟨⟨ca, cn, cc⟩, ⟨ia, i_n, ic⟩, ⟨ra, rn, rc⟩, ⟨oa, on, oc⟩, ⟨fa, fn, fc⟩, ⟨pa, pn, pc⟩⟩ := x
  have ho := h.o
  have hf := h.f
  obtain ⟨hn, _⟩ := sc_rs ho
  simp only at hn
  subst hn
  obtain ⟨hn, _⟩ := sc_rs hf
  simp only at hn
  subst hn
  obtain ⟨y, hy⟩ : ∃ y, y = nmB b (1032 + 24 * pxN b + 4 * i) 4 := ⟨_, rfl⟩
  have hyp : pxP b i = y := hy.symm
  have hy32 : y < 4294967296 := by rw [hy]; exact nmB_lt (n := 4) (by omega)
  have hrow := (hok.rows i hi).2.2.2
  refine Gv.of_body (args := [.agg #[.slice ca cn cc, .slice ia i_n ic, .slice ra rn rc, .slice oa (pcB b (1032 + 24 * pxN b) (4 * pxN b)).length oc, .slice fa (pcB b (1032 + 28 * pxN b) (b.length - 1072 - 28 * pxN b)).length fc, .slice pa pn pc], .int .i64 (i : Int)]) Try.func36 rfl rfl ?_
  have hnum := fun C => inum_p (.slice oa (pcB b (1032 + 24 * pxN b) (4 * pxN b)).length oc) b (1032 + 24 * pxN b) (4 * pxN b) i 4 _ (ho.there (C := C)) (.inl rfl) (by omega) (by omega) hb
  rw [← hy] at hnum
  by_cases hfar : 2147483648 ≤ y
  · have hF : pxF b i = true := by unfold pxF; rw [hyp]; exact decide_eq_true hfar
    obtain ⟨e1, e2, e3⟩ := hrow hF
    rw [hyp] at e1
    have hks : pxK b (i + 1) = pxK b i + 1 := by rw [pxK_succ, if_pos hF]
    have hkm := pxK_mono (b := b) (show i + 1 ≤ pxN b by omega)
    obtain ⟨k, hk⟩ : ∃ k, k = pxK b i := ⟨_, rfl⟩
    rw [← hk] at e1 hks
    obtain ⟨z, hz⟩ : ∃ z, z = pxAt b i := ⟨_, rfl⟩
    have hz2 : nmB b (1032 + 28 * pxN b + 8 * k) 8 = z := by rw [hz]; unfold pxAt; rw [if_pos hF, ← hk]
    rw [← hz] at e2 e3 ⊢
    have hnu2 := fun C => inum_p (.slice fa (pcB b (1032 + 28 * pxN b) (b.length - 1072 - 28 * pxN b)).length fc) b (1032 + 28 * pxN b) (b.length - 1072 - 28 * pxN b) k 8 _ (hf.there (C := C)) (.inr rfl) (by omega) (by omega) hb
    rw [hz2] at hnu2
    (repeat' first|refine kW ?_|refine kU fun bk=>?_|refine kV fun hc=>?_|refine kZ (fun hc=>?_) fun hc=>?_|fail)
    refine OW_callP rfl rfl rfl (hnum _) rfl ?_
    (repeat' first|refine kW ?_|refine kU fun bk=>?_|refine kV fun hc=>?_|refine kZ (fun hc=>?_) fun hc=>?_|fail)
    refine OW_EV (EV_ari rfl rfl rfl) rfl ?_
    rw [show IntKind.u64.wrap ((y : Int) - 2147483648) = (k : Int) from by rw [show (y : Int) - 2147483648 = ((k : Nat) : Int) from by omega]; exact wrap_nat rfl (by show k < 2 ^ 64; omega)]
    (repeat' first|refine kW ?_|refine kU fun bk=>?_|refine kV fun hc=>?_|refine kZ (fun hc=>?_) fun hc=>?_|fail)
    refine OW_callP rfl rfl rfl (hnu2 _) rfl ?_
    (repeat' first|refine kW ?_|refine kU fun bk=>?_|refine kV fun hc=>?_|refine kZ (fun hc=>?_) fun hc=>?_|fail)
    exact kE
  · have hF : pxF b i = false := by unfold pxF; rw [hyp]; exact decide_eq_false hfar
    have hz : pxAt b i = y := by unfold pxAt; rw [if_neg (by rw [hF]; decide)]; exact hyp
    rw [hz]
    (repeat' first|refine kW ?_|refine kU fun bk=>?_|refine kV fun hc=>?_|refine kZ (fun hc=>?_) fun hc=>?_|fail)
    refine OW_callP rfl rfl rfl (hnum _) rfl ?_
    (repeat' first|refine kW ?_|refine kU fun bk=>?_|refine kV fun hc=>?_|refine kZ (fun hc=>?_) fun hc=>?_|fail)
    exact kE
set_option maxHeartbeats 2000000 in
theorem ibetween_n (x : IxC) (b : List UInt8) (c : Nat) (L : List Chunk) (h : IxV L b x) (hc : c < 256) (hb : b.length ≤ 1000000) : GvP Try.prog 31 [.agg x.vs.toArray, .int .u8 (c : Int)].toArray L (.tuple #[.int .i64 ((if c = 0 then 0 else fnB b (c - 1) : Nat) : Int), .int .i64 (fnB b c : Int)]) := by
  have hln := h.len
  obtain ⟨⟨ca, cn, cc⟩, ⟨ia, i_n, ic⟩, ⟨ra, rn, rc⟩, ⟨oa, on, oc⟩, ⟨fa, fn, fc⟩, ⟨pa, pn, pc⟩⟩ := x
  have hr := h.c
  obtain ⟨hn, _⟩ := sc_rs hr
  simp only at hn
  subst hn
  have hf : ∀ c, c < 256 → fnB b c < 4294967296 := fun c hc => nmB_lt (n := 4) (by omega)
  have hnum := fun i (hi : i < 256) C => inum_p (.slice ca (pcB b 8 1024).length cc) b 8 1024 i 4 _ (hr.there (C := C)) (.inl rfl) (by omega) (show (i + 1) * 4 ≤ 1024 by omega) hb
  change ∀ i, i < 256 → ∀ C, GvP _ _ _ _ (.int .u64 (fnB b i : Int)) at hnum
  have h2 := hf c hc
  obtain ⟨z2, hz2⟩ : ∃ z, z = fnB b c := ⟨_, rfl⟩
  have n2 := hnum c hc
  rw [← hz2] at n2 h2 ⊢
  refine Gv.of_body (args := [.agg #[.slice ca (pcB b 8 1024).length cc, .slice ia i_n ic, .slice ra rn rc, .slice oa on oc, .slice fa fn fc, .slice pa pn pc], .int .u8 (c : Int)]) Try.func31 rfl rfl ?_
  by_cases h0 : c = 0
  · rw [if_pos h0]
    subst h0
    (repeat' first|refine kW ?_|refine kU fun bk=>?_|refine kV fun hc=>?_|refine kZ (fun hc=>?_) fun hc=>?_|fail)
    refine OW_callP rfl rfl rfl (n2 _) rfl ?_
    (repeat' first|refine kW ?_|refine kU fun bk=>?_|refine kV fun hc=>?_|refine kZ (fun hc=>?_) fun hc=>?_|fail)
    exact kE
  · rw [if_neg h0]
    have n1 := hnum (c - 1) (by omega)
    have h1 := hf (c - 1) (by omega)
    obtain ⟨z1, hz1⟩ : ∃ z, z = fnB b (c - 1) := ⟨_, rfl⟩
    rw [← hz1, show ((c - 1 : Nat) : Int) = (c : Int) - 1 from by omega] at n1
    rw [← hz1] at h1 ⊢
    (repeat' first|refine kW ?_|refine kU fun bk=>?_|refine kV fun hc=>?_|refine kZ (fun hc=>?_) fun hc=>?_|fail)
    refine OW_callP rfl rfl rfl (n1 _) rfl ?_
    (repeat' first|refine kW ?_|refine kU fun bk=>?_|refine kV fun hc=>?_|refine kZ (fun hc=>?_) fun hc=>?_|fail)
    refine OW_callP rfl rfl rfl (n2 _) rfl ?_
    (repeat' first|refine kW ?_|refine kU fun bk=>?_|refine kV fun hc=>?_|refine kZ (fun hc=>?_) fun hc=>?_|fail)
    exact kE
set_option maxHeartbeats 4000000 in
theorem itotal_n (v : Value) (b : List UInt8) (L : List Chunk) (h : Rs L 1 v (pcB b 8 1024).length (bsv (pcB b 8 1024))) (h1 : 1032 ≤ b.length) (hb : b.length ≤ 1000000) :
    Gv Try.prog 82 [v].toArray L (fun r L' => L' = L ∧
      ((((∀ c, c < 255 → fnB b c ≤ fnB b (c + 1)) ∧ pxN b ≤ 4096) ∧ r = .tuple #[.int .i64 (pxN b : Int), .bool true]) ∨
       (¬ ((∀ c, c < 255 → fnB b c ≤ fnB b (c + 1)) ∧ pxN b ≤ 4096) ∧ r = .tuple #[.int .i64 0, .bool false]))) := by
  obtain ⟨va, vc, rfl⟩ := rs_val h
  have hf : ∀ c, c < 256 → fnB b c < 4294967296 := fun c hc => nmB_lt (n := 4) (by omega)
  have hnum := fun i (hi : i < 256) => inum_p (.slice va (pcB b 8 1024).length vc) b 8 1024 i 4 L h (.inl rfl) (by omega) (show (i + 1) * 4 ≤ 1024 by omega) hb
  change ∀ i, i < 256 → GvP _ _ _ _ (.int .u64 (fnB b i : Int)) at hnum
  refine Gv.of_body (args := [.slice va (pcB b 8 1024).length vc]) Try.func82 rfl rfl ?_
  (repeat' first|refine kW ?_|refine kU fun bk=>?_|refine kV fun hc=>?_|refine kZ (fun hc=>?_) fun hc=>?_|fail)
  refine WC_loop (X := Nat) (fun i => [(0, .slice va (pcB b 8 1024).length vc), (4, .int .u64 ((if i = 0 then 0 else fnB b (i - 1) : Nat) : Int)), (7, .int .i64 (i : Int))]) (fun _ => L) (fun i => i ≤ 256 ∧ (∀ c, c + 1 < i → fnB b c ≤ fnB b (c + 1)) ∧ ∀ c, c < i → fnB b c ≤ 4096) (fun i => 256 - i) 0 ⟨Nat.zero_le _, fun c hc => by omega, fun c hc => by omega⟩ iS (fun w h => h) ?_
  rintro i ⟨q1, q2, q3⟩
  by_cases hlt : i < 256
  · have hni := hnum i hlt
    have hfi := hf i hlt
    obtain ⟨z, hz⟩ : ∃ z, z = fnB b i := ⟨_, rfl⟩
    obtain ⟨y, hy⟩ : ∃ y, y = if i = 0 then 0 else fnB b (i - 1) := ⟨_, rfl⟩
    rw [← hz] at hni hfi
    rw [← hy]
    have hall : (∀ c, c < 255 → fnB b c ≤ fnB b (c + 1)) ∧ pxN b ≤ 4096 → y ≤ z ∧ z ≤ 4096 := by
      rintro ⟨w1, w2⟩
      have mono : ∀ k c, c + k < 256 → fnB b c ≤ fnB b (c + k) := by
        intro k
        induction k with
        | zero => intro c _; exact Nat.le_refl _
        | succ k ih => intro c hc; exact Nat.le_trans (ih c (by omega)) (w1 (c + k) (by omega))
      refine ⟨?_, ?_⟩
      · rw [hy, hz]
        by_cases h0 : i = 0
        · rw [if_pos h0]; exact Nat.zero_le _
        · rw [if_neg h0]
          have := w1 (i - 1) (by omega)
          rwa [show i - 1 + 1 = i from by omega] at this
      · have := mono (255 - i) i (by omega)
        rw [show i + (255 - i) = 255 from by omega] at this
        rw [hz]
        exact Nat.le_trans this w2
    by_cases hyz : z < y
    · (repeat' first|refine kW ?_|refine kU fun bk=>?_|refine kV fun hc=>?_|refine kZ (fun hc=>?_) fun hc=>?_|fail)
      refine OW_callP rfl rfl rfl hni rfl ?_
      (repeat' first|refine kW ?_|refine kU fun bk=>?_|refine kV fun hc=>?_|refine kZ (fun hc=>?_) fun hc=>?_|fail)
      refine kR ?_
      exact ⟨L, iC, rfl, .inr ⟨fun w => by have := hall w; omega, rfl⟩⟩
    · by_cases hbig : z > 4096
      · (repeat' first|refine kW ?_|refine kU fun bk=>?_|refine kV fun hc=>?_|refine kZ (fun hc=>?_) fun hc=>?_|fail)
        refine OW_callP rfl rfl rfl hni rfl ?_
        (repeat' first|refine kW ?_|refine kU fun bk=>?_|refine kV fun hc=>?_|refine kZ (fun hc=>?_) fun hc=>?_|fail)
        refine kR ?_
        exact ⟨L, iC, rfl, .inr ⟨fun w => by have := hall w; omega, rfl⟩⟩
      · (repeat' first|refine kW ?_|refine kU fun bk=>?_|refine kV fun hc=>?_|refine kZ (fun hc=>?_) fun hc=>?_|fail)
        refine OW_callP rfl rfl rfl hni rfl ?_
        (repeat' first|refine kW ?_|refine kU fun bk=>?_|refine kV fun hc=>?_|refine kZ (fun hc=>?_) fun hc=>?_|fail)
        refine WQ_round (X := Nat) (μ := fun i => 256 - i) (x := i) (i + 1) (by omega) ⟨by omega, fun c hc => ?_, fun c hc => ?_⟩ (by rw [if_neg (by omega), Nat.add_sub_cancel, ← hz]; exact iS) (fun w h => h)
        · by_cases he : c + 1 = i
          · have e1 : y = fnB b c := by rw [hy, if_neg (by omega), show i - 1 = c from by omega]
            rw [← e1, he, ← hz]; omega
          · exact q2 c (by omega)
        · by_cases he : c = i
          · rw [he, ← hz]; omega
          · exact q3 c (by omega)
  · obtain rfl : i = 256 := by omega
    have hfi := hf 255 (by decide)
    rw [if_neg (by decide), show fnB b (256 - 1) = pxN b from rfl]
    obtain ⟨z, hz⟩ : ∃ z, z = pxN b := ⟨_, rfl⟩
    have hq : z ≤ 4096 := by rw [hz]; exact q3 255 (by decide)
    rw [← hz]
    (repeat' first|refine kW ?_|refine kU fun bk=>?_|refine kV fun hc=>?_|refine kZ (fun hc=>?_) fun hc=>?_|fail)
    refine kR ?_
    exact ⟨L, iC, rfl, .inl ⟨⟨fun c hc => q2 c (by omega), hq⟩, rfl⟩⟩
end
end Go.Proofs.Ytmhlmlkndabgmaa
namespace Go.Proofs.Ytmhlmlkndabgmaa
open Go Go.Vx Go.Pk Go.Ix
set_option linter.all false
set_option maxRecDepth 40000
section
variable [W0]
theorem iid_p (x : IxC) (b : List UInt8) (i : Nat) (L : List Chunk) (h : IxV L b x) (hi : i < pxN b) (hb : b.length ≤ 1000000) :
    Gv Try.prog 35 [.agg x.vs.toArray, .int .i64 (i : Int)].toArray L (fun r L' => Rs L 1 r (pxId b i).length (bsv (pxId b i)) ∧ L' = L) := by
  have hln := h.len
  have hl := pcB_len (b := b) (s := 1032) (k := 20 * pxN b) (by omega)
  have := iid_n x (pcB b 1032 (20 * pxN b)) i L h.i (by omega) (by omega)
  rwa [pcB_pc (by omega)] at this
theorem pxId_len {b : List UInt8} {i : Nat} (h : 1072 + 28 * pxN b ≤ b.length) (hi : i < pxN b) : (pxId b i).length = 20 := by unfold pxId; rw [List.length_take, List.length_drop]; omega
def IdF (b : List UInt8) : Prop := ∀ i, i < pxN b → (0 < i → Op.bytesLess (pxId b (i - 1)) (pxId b i) = true) ∧ pxLo b i ≤ i ∧ i < fnB b (pxH b i)
set_option maxHeartbeats 16000000 in
theorem iids_n (x : IxC) (b : List UInt8) (L : List Chunk) (h : IxV L b x) (hb : b.length ≤ 1000000) :
    Gv Try.prog 60 [.agg x.vs.toArray].toArray L (fun r L' => L' = L ∧ ((IdF b ∧ r = .bool true) ∨ (¬ IdF b ∧ r = .bool false))) := by
  have hln := h.len
  have hmo := h.most
  have hli := pcB_len (b := b) (s := 1032) (k := 20 * pxN b) (by omega)
  have hin : x.i.n = 20 * pxN b := by have := (sc_rs h.i).1; omega
  obtain ⟨⟨ca, cn, cc⟩, ⟨ia, i_n, ic⟩, ⟨ra, rn, rc⟩, ⟨oa, on, oc⟩, ⟨fa, fn, fc⟩, ⟨pa, pn, pc⟩⟩ := x
  obtain ⟨n, hn⟩ : ∃ n, n = pxN b := ⟨_, rfl⟩
  have hcnt := fun C => icount_n ⟨⟨ca, cn, cc⟩, ⟨ia, i_n, ic⟩, ⟨ra, rn, rc⟩, ⟨oa, on, oc⟩, ⟨fa, fn, fc⟩, ⟨pa, pn, pc⟩⟩ n (C :: L) (by rw [hn]; exact hin) (by omega)
  have hid := fun i hi C => iid_p ⟨⟨ca, cn, cc⟩, ⟨ia, i_n, ic⟩, ⟨ra, rn, rc⟩, ⟨oa, on, oc⟩, ⟨fa, fn, fc⟩, ⟨pa, pn, pc⟩⟩ b i (C :: L) h.up hi hb
  have hbt := fun c hc C => ibetween_n ⟨⟨ca, cn, cc⟩, ⟨ia, i_n, ic⟩, ⟨ra, rn, rc⟩, ⟨oa, on, oc⟩, ⟨fa, fn, fc⟩, ⟨pa, pn, pc⟩⟩ b c (C :: L) h.up hc hb
  have hfl : ∀ c, c < 256 → fnB b c < 4294967296 := fun c hc => nmB_lt (n := 4) (by omega)
  refine Gv.of_body (args := [.agg #[.slice ca cn cc, .slice ia i_n ic, .slice ra rn rc, .slice oa on oc, .slice fa fn fc, .slice pa pn pc]]) Try.func60 rfl rfl ?_
  (repeat' first|refine kW ?_|refine kU fun bk=>?_|refine kV fun hc=>?_|refine kZ (fun hc=>?_) fun hc=>?_|fail)
  revert bk; intro q
  refine OW_callP rfl rfl rfl (hcnt _) rfl ?_
  (repeat' first|refine kW ?_|refine kU fun bk=>?_|refine kV fun hc=>?_|refine kZ (fun hc=>?_) fun hc=>?_|fail)
  refine WC_loop (X := Nat) (fun i => [(1, .pointer (some ⟨q, 0, none⟩)), (7, .int .i64 (n : Int)), (8, .int .i64 (i : Int))]) (fun _ => [(q, cl [.slice ca cn cc, .slice ia i_n ic, .slice ra rn rc, .slice oa on oc, .slice fa fn fc, .slice pa pn pc] 61)] :: L)
    (fun i => i ≤ n ∧ ∀ j, j < i → (0 < j → Op.bytesLess (pxId b (j - 1)) (pxId b j) = true) ∧ pxLo b j ≤ j ∧ j < fnB b (pxH b j)) (fun i => n - i) 0 ⟨Nat.zero_le _, fun j hj => by omega⟩ iS (fun w h => h) ?_
  rintro i ⟨q1, q2⟩
  by_cases hlt : i < n
  · have hii : i < pxN b := by omega
    have hx20 := pxId_len (by omega : 1072 + 28 * pxN b ≤ b.length) hii
    obtain ⟨y, hy⟩ : ∃ y, (pxId b i)[0]? = some y := ⟨(pxId b i)[0], by simp [hx20]⟩
    have hH : pxH b i = y.toNat := by unfold pxH; rw [List.getD_eq_getElem?_getD, hy]; rfl
    have hy8 := y.toNat_lt
    have hbi := hbt y.toNat (by omega)
    obtain ⟨lo, hlo⟩ : ∃ lo, lo = pxLo b i := ⟨_, rfl⟩
    obtain ⟨hg, hhg⟩ : ∃ hg, hg = fnB b y.toNat := ⟨_, rfl⟩
    have hhg9 : hg < 4294967296 := by rw [hhg]; exact hfl _ (by omega)
    have hlo9 : lo < 4294967296 := by
      rw [hlo]; unfold pxLo; split
      · decide
      · exact hfl _ (by omega)
    have e0 : (if y.toNat = 0 then 0 else fnB b (y.toNat - 1)) = lo := by rw [hlo]; unfold pxLo; rw [hH]
    rw [e0, ← hhg] at hbi
    (repeat' first|refine kW ?_|refine kU fun bk=>?_|refine kV fun hc=>?_|refine kZ (fun hc=>?_) fun hc=>?_|fail)
    refine WC_drawAll [] mixed ?_
    (refine WR_t 0 ?_; refine WR_t 1 ?_; refine WR_t 2 ?_)
    (refine WR_one 3 (by kernel_rfl) rfl rfl ?_)
    refine OW_call rfl rfl rfl (hid i hii _) rfl (fun r L' hp => ?_)
    obtain ⟨qi, rfl⟩ := hp
    refine ⟨iC, ?_⟩
    obtain ⟨eb, eo, ec, ecc, eT, ef, w1, w2, w3⟩ := sl_at qi.sl (Go.Vx.bsv_get hy)
    subst w1
    (refine WR_take 4 rfl rfl (by kernel_rfl) iP iC (EV_indexAddr (j := 0) rfl rfl rfl (by omega)) (by rfl) ?_)
    (refine WR_take 5 rfl rfl (by kernel_rfl) iP iC (EV_load rfl w2 w3) (by rfl) ?_)
    (refine WR_one 6 (by kernel_rfl) rfl rfl ?_)
    refine OW_callP rfl rfl rfl (hbi _) rfl ?_
    refine ⟨iC, ?_⟩
    (refine WR_t 7 ?_; refine WR_t 8 ?_; refine WR_t 9 ?_; refine WR_t 10 ?_; refine WR_t 11 ?_)
    (refine WR_done (by kernel_rfl) ?_)
    have hrow : IdF b → (0 < i → Op.bytesLess (pxId b (i - 1)) (pxId b i) = true) ∧ lo ≤ i ∧ i < hg := fun w => by
      have := w i hii
      rw [hH, ← hhg, ← hlo] at this
      exact this
    by_cases c1 : i < lo
    · (repeat' first|refine kW ?_|refine kU fun bk=>?_|refine kV fun hc=>?_|refine kZ (fun hc=>?_) fun hc=>?_|fail)
      refine WC_drawAll [] mixed ?_
      (refine WR_t 0 ?_; refine WR_t 1 ?_)
      (refine WR_take 2 rfl rfl (by kernel_rfl) iP iC (EV_cmp (b := true) rfl rfl (congrArg some (decide_eq_true (by omega)))) (by rfl) ?_)
      (refine WR_t 3 ?_)
      (refine WR_v 4 ?_; refine WR_v 5 ?_; refine WR_v 6 ?_)
      (refine WR_t 7 ?_; refine WR_t 8 ?_)
      (refine WR_v 9 ?_; refine WR_v 10 ?_; refine WR_v 11 ?_)
      (refine WR_x 12 ?_; refine WR_x 13 ?_; refine WR_x 14 ?_; refine WR_x 15 ?_; refine WR_x 16 ?_; refine WR_x 17 ?_; refine WR_x 18 ?_; refine WR_x 19 ?_; refine WR_x 20 ?_)
      (refine WR_v 21 ?_)
      (refine WR_t 22 ?_)
      (refine WR_done (by kernel_rfl) ?_)
      (repeat' first|refine kW ?_|refine kU fun bk=>?_|refine kV fun hc=>?_|refine kZ (fun hc=>?_) fun hc=>?_|fail)
      refine kR ?_
      exact ⟨L, iC, rfl, .inr ⟨fun w => by have := hrow w; omega, rfl⟩⟩
    by_cases c2 : hg ≤ i
    · (repeat' first|refine kW ?_|refine kU fun bk=>?_|refine kV fun hc=>?_|refine kZ (fun hc=>?_) fun hc=>?_|fail)
      refine WC_drawAll [] mixed ?_
      (refine WR_t 0 ?_; refine WR_t 1 ?_)
      (refine WR_take 2 rfl rfl (by kernel_rfl) iP iC (EV_cmp (b := false) rfl rfl (congrArg some (decide_eq_false (by omega)))) (by rfl) ?_)
      (refine WR_t 3 ?_)
      (refine WR_u 4 ?_; refine WR_u 5 ?_)
      (refine WR_takeOn 6 rfl rfl rfl (by kernel_rfl) iP iC (EV_cmp (b := true) rfl rfl (congrArg some (decide_eq_true (by omega)))) (by rfl) ?_)
      (refine WR_t 7 ?_; refine WR_t 8 ?_)
      (refine WR_v 9 ?_; refine WR_v 10 ?_; refine WR_v 11 ?_)
      (refine WR_x 12 ?_; refine WR_x 13 ?_; refine WR_x 14 ?_; refine WR_x 15 ?_; refine WR_x 16 ?_; refine WR_x 17 ?_; refine WR_x 18 ?_; refine WR_x 19 ?_; refine WR_x 20 ?_)
      (refine WR_v 21 ?_)
      (refine WR_t 22 ?_)
      (refine WR_done (by kernel_rfl) ?_)
      (repeat' first|refine kW ?_|refine kU fun bk=>?_|refine kV fun hc=>?_|refine kZ (fun hc=>?_) fun hc=>?_|fail)
      refine kR ?_
      exact ⟨L, iC, rfl, .inr ⟨fun w => by have := hrow w; omega, rfl⟩⟩
    by_cases c3 : i = 0
    · (repeat' first|refine kW ?_|refine kU fun bk=>?_|refine kV fun hc=>?_|refine kZ (fun hc=>?_) fun hc=>?_|fail)
      refine WC_drawAll [] mixed ?_
      (refine WR_t 0 ?_; refine WR_t 1 ?_)
      (refine WR_take 2 rfl rfl (by kernel_rfl) iP iC (EV_cmp (b := false) rfl rfl (congrArg some (decide_eq_false (by omega)))) (by rfl) ?_)
      (refine WR_t 3 ?_)
      (refine WR_u 4 ?_; refine WR_u 5 ?_)
      (refine WR_takeOn 6 rfl rfl rfl (by kernel_rfl) iP iC (EV_cmp (b := false) rfl rfl (congrArg some (decide_eq_false (by omega)))) (by rfl) ?_)
      (refine WR_t 7 ?_; refine WR_t 8 ?_)
      (refine WR_u 9 ?_)
      (refine WR_takeOn 10 rfl rfl rfl (by kernel_rfl) iP iC (EV_cmp (b := false) rfl rfl (congrArg some (decide_eq_false (by omega)))) (by rfl) ?_)
      (refine WR_u 11 ?_)
      (refine WR_v 12 ?_; refine WR_v 13 ?_; refine WR_v 14 ?_; refine WR_v 15 ?_; refine WR_v 16 ?_; refine WR_v 17 ?_; refine WR_v 18 ?_; refine WR_v 19 ?_; refine WR_v 20 ?_)
      (refine WR_u 21 ?_)
      (refine WR_t 22 ?_)
      (refine WR_done (by kernel_rfl) ?_)
      (repeat' first|refine kW ?_|refine kU fun bk=>?_|refine kV fun hc=>?_|refine kZ (fun hc=>?_) fun hc=>?_|fail)
      refine WQ_round (X := Nat) (μ := fun i => n - i) (x := i) (i + 1) (by omega) ⟨by omega, fun j hj => ?_⟩ iS (fun w h => h)
      obtain rfl : j = i := by omega
      rw [hH, ← hhg, ← hlo]
      exact ⟨fun w => by omega, by omega, by omega⟩
    have hi1 : i - 1 < pxN b := by omega
    have hidp := hid (i - 1) hi1
    rw [show ((i - 1 : Nat) : Int) = (i : Int) - 1 from by omega] at hidp
    obtain ⟨cm, hcm⟩ : ∃ cm, cm = Lib.compareBytes (pxId b (i - 1)) (pxId b i) := ⟨_, rfl⟩
    have hcl : cm < 0 ↔ Op.bytesLess (pxId b (i - 1)) (pxId b i) = true := by rw [hcm]; exact cmpB_lt _ _
    by_cases c4 : cm < 0
    · (repeat' first|refine kW ?_|refine kU fun bk=>?_|refine kV fun hc=>?_|refine kZ (fun hc=>?_) fun hc=>?_|fail)
      refine WC_drawAll [] mixed ?_
      (refine WR_t 0 ?_; refine WR_t 1 ?_)
      (refine WR_take 2 rfl rfl (by kernel_rfl) iP iC (EV_cmp (b := false) rfl rfl (congrArg some (decide_eq_false (by omega)))) (by rfl) ?_)
      (refine WR_t 3 ?_)
      (refine WR_u 4 ?_; refine WR_u 5 ?_)
      (refine WR_takeOn 6 rfl rfl rfl (by kernel_rfl) iP iC (EV_cmp (b := false) rfl rfl (congrArg some (decide_eq_false (by omega)))) (by rfl) ?_)
      (refine WR_t 7 ?_; refine WR_t 8 ?_)
      (refine WR_u 9 ?_)
      (refine WR_takeOn 10 rfl rfl rfl (by kernel_rfl) iP iC (EV_cmp (b := true) rfl rfl (congrArg some (decide_eq_true (by omega)))) (by rfl) ?_)
      (refine WR_u 11 ?_; refine WR_u 12 ?_; refine WR_u 13 ?_; refine WR_u 14 ?_; refine WR_u 16 ?_; refine WR_u 17 ?_)
      (refine WR_oneOn 15 (by kernel_rfl) rfl rfl rfl ?_)
      refine OW_call rfl rfl rfl (hidp _) rfl (fun r L' hp => ?_)
      obtain ⟨qj, rfl⟩ := hp
      refine ⟨iC, ?_⟩
      (refine WR_oneOn 18 (by kernel_rfl) rfl rfl rfl ?_)
      refine OW_call rfl rfl rfl (hid i hii _) rfl (fun r L' hp => ?_)
      obtain ⟨qk, rfl⟩ := hp
      refine ⟨iC, ?_⟩
      have hbc := bcompare_n _ _ _ _ _ qj.sl qk.sl
      rw [← hcm] at hbc
      (refine WR_oneOn 19 (by kernel_rfl) rfl rfl rfl ?_)
      refine OW_callP rfl rfl rfl hbc rfl ?_
      refine ⟨iC, ?_⟩
      (refine WR_takeOn 20 rfl rfl rfl (by kernel_rfl) iP iC (EV_cmp (b := false) rfl rfl (congrArg some (decide_eq_false (by omega)))) (by rfl) ?_)
      (refine WR_u 21 ?_)
      (refine WR_t 22 ?_)
      (refine WR_done (by kernel_rfl) ?_)
      (repeat' first|refine kW ?_|refine kU fun bk=>?_|refine kV fun hc=>?_|refine kZ (fun hc=>?_) fun hc=>?_|fail)
      refine WQ_round (X := Nat) (μ := fun i => n - i) (x := i) (i + 1) (by omega) ⟨by omega, fun j hj => ?_⟩ iS (fun w h => h)
      by_cases hji : j = i
      · subst hji
        rw [hH, ← hhg, ← hlo]
        exact ⟨fun _ => hcl.1 c4, by omega, by omega⟩
      · exact q2 j (by omega)
    · (repeat' first|refine kW ?_|refine kU fun bk=>?_|refine kV fun hc=>?_|refine kZ (fun hc=>?_) fun hc=>?_|fail)
      refine WC_drawAll [] mixed ?_
      (refine WR_t 0 ?_; refine WR_t 1 ?_)
      (refine WR_take 2 rfl rfl (by kernel_rfl) iP iC (EV_cmp (b := false) rfl rfl (congrArg some (decide_eq_false (by omega)))) (by rfl) ?_)
      (refine WR_t 3 ?_)
      (refine WR_u 4 ?_; refine WR_u 5 ?_)
      (refine WR_takeOn 6 rfl rfl rfl (by kernel_rfl) iP iC (EV_cmp (b := false) rfl rfl (congrArg some (decide_eq_false (by omega)))) (by rfl) ?_)
      (refine WR_t 7 ?_; refine WR_t 8 ?_)
      (refine WR_u 9 ?_)
      (refine WR_takeOn 10 rfl rfl rfl (by kernel_rfl) iP iC (EV_cmp (b := true) rfl rfl (congrArg some (decide_eq_true (by omega)))) (by rfl) ?_)
      (refine WR_u 11 ?_; refine WR_u 12 ?_; refine WR_u 13 ?_; refine WR_u 14 ?_; refine WR_u 16 ?_; refine WR_u 17 ?_)
      (refine WR_oneOn 15 (by kernel_rfl) rfl rfl rfl ?_)
      refine OW_call rfl rfl rfl (hidp _) rfl (fun r L' hp => ?_)
      obtain ⟨qj, rfl⟩ := hp
      refine ⟨iC, ?_⟩
      (refine WR_oneOn 18 (by kernel_rfl) rfl rfl rfl ?_)
      refine OW_call rfl rfl rfl (hid i hii _) rfl (fun r L' hp => ?_)
      obtain ⟨qk, rfl⟩ := hp
      refine ⟨iC, ?_⟩
      have hbc := bcompare_n _ _ _ _ _ qj.sl qk.sl
      rw [← hcm] at hbc
      (refine WR_oneOn 19 (by kernel_rfl) rfl rfl rfl ?_)
      refine OW_callP rfl rfl rfl hbc rfl ?_
      refine ⟨iC, ?_⟩
      (refine WR_takeOn 20 rfl rfl rfl (by kernel_rfl) iP iC (EV_cmp (b := true) rfl rfl (congrArg some (decide_eq_true (by omega)))) (by rfl) ?_)
      (refine WR_u 21 ?_)
      (refine WR_t 22 ?_)
      (refine WR_done (by kernel_rfl) ?_)
      (repeat' first|refine kW ?_|refine kU fun bk=>?_|refine kV fun hc=>?_|refine kZ (fun hc=>?_) fun hc=>?_|fail)
      refine kR ?_
      exact ⟨L, iC, rfl, .inr ⟨fun w => by have := hcl.2 ((hrow w).1 (by omega)); omega, rfl⟩⟩
  · obtain rfl : i = n := by omega
    (repeat' first|refine kW ?_|refine kU fun bk=>?_|refine kV fun hc=>?_|refine kZ (fun hc=>?_) fun hc=>?_|fail)
    refine kR ?_
    exact ⟨L, iC, rfl, .inl ⟨fun j hj => q2 j (by omega), rfl⟩⟩
def OfF (b : List UInt8) : Prop := (∀ i, i < pxN b → pxF b i = true → pxP b i = 2147483648 + pxK b i ∧ 2147483648 ≤ pxAt b i ∧ pxAt b i ≤ 4611686018427387904) ∧ b.length = 1072 + 28 * pxN b + 8 * pxK b (pxN b)
set_option maxHeartbeats 16000000 in
theorem ioffs_n (x : IxC) (b : List UInt8) (L : List Chunk) (h : IxV L b x) (hb : b.length ≤ 1000000) :
    Gv Try.prog 61 [.agg x.vs.toArray].toArray L (fun r L' => L' = L ∧ ((OfF b ∧ r = .bool true) ∨ (¬ OfF b ∧ r = .bool false))) := by
  have hln := h.len
  have hmo := h.most
  have hli := pcB_len (b := b) (s := 1032) (k := 20 * pxN b) (by omega)
  have hin : x.i.n = 20 * pxN b := by have := (sc_rs h.i).1; omega
  obtain ⟨⟨ca, cn, cc⟩, ⟨ia, i_n, ic⟩, ⟨ra, rn, rc⟩, ⟨oa, on, oc⟩, ⟨fa, fn, fc⟩, ⟨pa, pn, pc⟩⟩ := x
  have ho := h.o
  have hf := h.f
  obtain ⟨hn, _⟩ := sc_rs ho
  simp only at hn
  subst hn
  obtain ⟨hn, _⟩ := sc_rs hf
  simp only at hn
  subst hn
  obtain ⟨n, hn⟩ : ∃ n, n = pxN b := ⟨_, rfl⟩
  have hcnt := fun C => icount_n ⟨⟨ca, cn, cc⟩, ⟨ia, i_n, ic⟩, ⟨ra, rn, rc⟩, ⟨oa, _, oc⟩, ⟨fa, _, fc⟩, ⟨pa, pn, pc⟩⟩ n (C :: L) (by rw [hn]; exact hin) (by omega)
  have hword := fun i (hi : i < pxN b) C => inum_p (.slice oa (pcB b (1032 + 24 * pxN b) (4 * pxN b)).length oc) b (1032 + 24 * pxN b) (4 * pxN b) i 4 _ (ho.there (C := C)) (.inl rfl) (by omega) (by omega) hb
  have hfar := fun k (hk : 8 * k + 8 ≤ b.length - 1072 - 28 * pxN b) C => inum_p (.slice fa (pcB b (1032 + 28 * pxN b) (b.length - 1072 - 28 * pxN b)).length fc) b (1032 + 28 * pxN b) (b.length - 1072 - 28 * pxN b) k 8 _ (hf.there (C := C)) (.inr rfl) (by omega) (by omega) hb
  change ∀ i, i < pxN b → ∀ C, GvP _ _ _ _ (.int .u64 (pxP b i : Int)) at hword
  have hlf := pcB_len (b := b) (s := 1032 + 28 * pxN b) (k := b.length - 1072 - 28 * pxN b) (by omega)
  have hlo := pcB_len (b := b) (s := 1032 + 24 * pxN b) (k := 4 * pxN b) (by omega)
  obtain ⟨m, hm⟩ : ∃ m, m = b.length - 1072 - 28 * pxN b := ⟨_, rfl⟩
  rw [← hm] at hlf hfar
  rw [hlo] at hword
  rw [hlf] at hfar
  refine Gv.of_body (args := [.agg #[.slice ca cn cc, .slice ia i_n ic, .slice ra rn rc, .slice oa (pcB b (1032 + 24 * pxN b) (4 * pxN b)).length oc, .slice fa (pcB b (1032 + 28 * pxN b) (b.length - 1072 - 28 * pxN b)).length fc, .slice pa pn pc]]) Try.func61 rfl rfl ?_
  rw [← hm, hlf, hlo]
  rw [← hm, hlf, hlo] at hcnt
  (repeat' first|refine kW ?_|refine kU fun bk=>?_|refine kV fun hc=>?_|refine kZ (fun hc=>?_) fun hc=>?_|fail)
  revert bk; intro q
  refine OW_callP rfl rfl rfl (hcnt _) rfl ?_
  (repeat' first|refine kW ?_|refine kU fun bk=>?_|refine kV fun hc=>?_|refine kZ (fun hc=>?_) fun hc=>?_|fail)
  have hkn := pxK_le b n
  refine WC_loop (X := Nat) (fun i => [(1, .pointer (some ⟨q, 0, none⟩)), (3, .int .i64 (pxK b i : Int)), (8, .int .i64 (n : Int)), (9, .int .i64 (i : Int))]) (fun _ => [(q, cl [.slice ca cn cc, .slice ia i_n ic, .slice ra rn rc, .slice oa (4 * pxN b) oc, .slice fa m fc, .slice pa pn pc] 61)] :: L)
    (fun i => i ≤ n ∧ ∀ j, j < i → pxF b j = true → pxP b j = 2147483648 + pxK b j ∧ 2147483648 ≤ pxAt b j ∧ pxAt b j ≤ 4611686018427387904) (fun i => n - i) 0 ⟨Nat.zero_le _, fun j hj => by omega⟩ iS (fun w h => h) ?_
  rintro i ⟨q1, q2⟩
  have hki := pxK_le b i
  by_cases hlt : i < n
  · have hii : i < pxN b := by omega
    have hwi := hword i hii
    have hP32 : pxP b i < 4294967296 := nmB_lt (n := 4) (by omega)
    have hrow : OfF b → pxF b i = true → pxP b i = 2147483648 + pxK b i ∧ 2147483648 ≤ pxAt b i ∧ pxAt b i ≤ 4611686018427387904 := fun w => w.1 i hii
    have hks := pxK_succ b i
    have hkm := pxK_mono (b := b) (show i + 1 ≤ pxN b by omega)
    obtain ⟨k, hk⟩ : ∃ k, k = pxK b i := ⟨_, rfl⟩
    obtain ⟨y, hy⟩ : ∃ y, y = pxP b i := ⟨_, rfl⟩
    rw [← hk] at hrow hks hki ⊢
    rw [← hy] at hwi hP32 hrow
    by_cases hF : 2147483648 ≤ y
    · have hFb : pxF b i = true := by unfold pxF; rw [← hy]; exact decide_eq_true hF
      rw [if_pos hFb] at hks
      have hA : pxAt b i = nmB b (1032 + 28 * pxN b + 8 * k) 8 := by unfold pxAt; rw [if_pos hFb, ← hk]
      by_cases c1 : y = 2147483648 + k
      · by_cases c2 : 8 * k + 8 ≤ m
        · have hfk := hfar k c2
          rw [← hA] at hfk
          obtain ⟨z, hz⟩ : ∃ z, z = pxAt b i := ⟨_, rfl⟩
          rw [← hz] at hfk hrow
          (repeat' first|refine kW ?_|refine kU fun bk=>?_|refine kV fun hc=>?_|refine kZ (fun hc=>?_) fun hc=>?_|fail)
          refine OW_callP rfl rfl rfl (hwi _) rfl ?_
          (repeat' first|refine kY ?_|refine kU fun bk=>?_|refine kV fun hc=>?_|refine kZ (fun hc=>?_) fun hc=>?_|fail)
          repeat refine WC_seq ?_
          refine WC_region ?_
          refine WL_plain rfl ?_
          refine OW_EV (EV_move rfl) rfl ?_
          refine WL_plain rfl ?_
          refine OW_EV (EV_cmp (b := false) rfl rfl (by show some (decide ((y : Int) < 2147483648)) = some false; rw [decide_eq_false (by omega)])) rfl ?_
          ((repeat' first|refine kW ?_|refine kU fun bk=>?_|refine kV fun hc=>?_|refine kZ (fun hc=>?_) fun hc=>?_|fail) <;> try exact absurd trivial hc)
          refine OW_EV (EV_nor' (k := .u64) k 1 31 rfl rfl rfl rfl rfl (by omega) (by show k + 1 * 2 ^ 31 < 2 ^ 64; omega)) rfl ?_
          refine WL_plain rfl ?_
          refine OW_EV (EV_cmp (b := false) rfl rfl (by show some ((y : Int) != ((k + 1 * 2 ^ 31 : Nat) : Int)) = some false; congr 1; simp; omega)) rfl ?_
          ((repeat' first|refine kW ?_|refine kU fun bk=>?_|refine kV fun hc=>?_|refine kZ (fun hc=>?_) fun hc=>?_|fail) <;> try exact absurd trivial hc)
          refine OW_EV (EV_quoN m 8 rfl rfl rfl rfl (by decide) (by omega)) rfl ?_
          ((repeat' first|refine kW ?_|refine kU fun bk=>?_|refine kV fun hc=>?_|refine kZ (fun hc=>?_) fun hc=>?_|fail) <;> try exact absurd trivial hc)
          refine OW_callP rfl rfl rfl (hfk _) rfl ?_
          by_cases c3 : z < 2147483648
          · (repeat' first|refine kY ?_|refine kU fun bk=>?_|refine kV fun hc=>?_|refine kZ (fun hc=>?_) fun hc=>?_|fail)
            repeat refine WC_seq ?_
            refine WC_region ?_
            refine WL_plain rfl ?_
            refine OW_EV (EV_move rfl) rfl ?_
            refine WL_plain rfl ?_
            refine OW_EV (EV_cmp (b := true) rfl rfl (by show some (decide ((z : Int) < 2147483648)) = some true; rw [decide_eq_true (by omega)])) rfl ?_
            ((repeat' first|refine kW ?_|refine kU fun bk=>?_|refine kV fun hc=>?_|refine kZ (fun hc=>?_) fun hc=>?_|fail) <;> try exact absurd trivial hc)
            refine kR ?_
            exact ⟨L, iC, rfl, .inr ⟨fun w => by have := hrow w hFb; omega, rfl⟩⟩
          by_cases c4 : z > 4611686018427387904
          · (repeat' first|refine kY ?_|refine kU fun bk=>?_|refine kV fun hc=>?_|refine kZ (fun hc=>?_) fun hc=>?_|fail)
            repeat refine WC_seq ?_
            refine WC_region ?_
            refine WL_plain rfl ?_
            refine OW_EV (EV_move rfl) rfl ?_
            refine WL_plain rfl ?_
            refine OW_EV (EV_cmp (b := false) rfl rfl (by show some (decide ((z : Int) < 2147483648)) = some false; rw [decide_eq_false (by omega)])) rfl ?_
            ((repeat' first|refine kW ?_|refine kU fun bk=>?_|refine kV fun hc=>?_|refine kZ (fun hc=>?_) fun hc=>?_|fail) <;> try exact absurd trivial hc)
            refine kR ?_
            exact ⟨L, iC, rfl, .inr ⟨fun w => by have := hrow w hFb; omega, rfl⟩⟩
          (repeat' first|refine kY ?_|refine kU fun bk=>?_|refine kV fun hc=>?_|refine kZ (fun hc=>?_) fun hc=>?_|fail)
          repeat refine WC_seq ?_
          refine WC_region ?_
          refine WL_plain rfl ?_
          refine OW_EV (EV_move rfl) rfl ?_
          refine WL_plain rfl ?_
          refine OW_EV (EV_cmp (b := false) rfl rfl (by show some (decide ((z : Int) < 2147483648)) = some false; rw [decide_eq_false (by omega)])) rfl ?_
          ((repeat' first|refine kW ?_|refine kU fun bk=>?_|refine kV fun hc=>?_|refine kZ (fun hc=>?_) fun hc=>?_|fail) <;> try exact absurd trivial hc)
          refine WQ_round (X := Nat) (μ := fun i => n - i) (x := i) (i + 1) (by omega) ⟨by omega, fun j hj hjF => ?_⟩ (by rw [hks]; exact iS) (fun w h => h)
          by_cases hji : j = i
          · subst hji; rw [← hy, ← hk, ← hz]; omega
          · exact q2 j (by omega) hjF
        · (repeat' first|refine kW ?_|refine kU fun bk=>?_|refine kV fun hc=>?_|refine kZ (fun hc=>?_) fun hc=>?_|fail)
          refine OW_callP rfl rfl rfl (hwi _) rfl ?_
          (repeat' first|refine kY ?_|refine kU fun bk=>?_|refine kV fun hc=>?_|refine kZ (fun hc=>?_) fun hc=>?_|fail)
          repeat refine WC_seq ?_
          refine WC_region ?_
          refine WL_plain rfl ?_
          refine OW_EV (EV_move rfl) rfl ?_
          refine WL_plain rfl ?_
          refine OW_EV (EV_cmp (b := false) rfl rfl (by show some (decide ((y : Int) < 2147483648)) = some false; rw [decide_eq_false (by omega)])) rfl ?_
          ((repeat' first|refine kW ?_|refine kU fun bk=>?_|refine kV fun hc=>?_|refine kZ (fun hc=>?_) fun hc=>?_|fail) <;> try exact absurd trivial hc)
          refine OW_EV (EV_nor' (k := .u64) k 1 31 rfl rfl rfl rfl rfl (by omega) (by show k + 1 * 2 ^ 31 < 2 ^ 64; omega)) rfl ?_
          refine WL_plain rfl ?_
          refine OW_EV (EV_cmp (b := false) rfl rfl (by show some ((y : Int) != ((k + 1 * 2 ^ 31 : Nat) : Int)) = some false; congr 1; simp; omega)) rfl ?_
          ((repeat' first|refine kW ?_|refine kU fun bk=>?_|refine kV fun hc=>?_|refine kZ (fun hc=>?_) fun hc=>?_|fail) <;> try exact absurd trivial hc)
          refine OW_EV (EV_quoN m 8 rfl rfl rfl rfl (by decide) (by omega)) rfl ?_
          ((repeat' first|refine kW ?_|refine kU fun bk=>?_|refine kV fun hc=>?_|refine kZ (fun hc=>?_) fun hc=>?_|fail) <;> try exact absurd trivial hc)
          refine kR ?_
          refine ⟨L, iC, rfl, .inr ⟨fun w => ?_, rfl⟩⟩
          have := w.2
          omega
      · (repeat' first|refine kW ?_|refine kU fun bk=>?_|refine kV fun hc=>?_|refine kZ (fun hc=>?_) fun hc=>?_|fail)
        refine OW_callP rfl rfl rfl (hwi _) rfl ?_
        (repeat' first|refine kY ?_|refine kU fun bk=>?_|refine kV fun hc=>?_|refine kZ (fun hc=>?_) fun hc=>?_|fail)
        repeat refine WC_seq ?_
        refine WC_region ?_
        refine WL_plain rfl ?_
        refine OW_EV (EV_move rfl) rfl ?_
        refine WL_plain rfl ?_
        refine OW_EV (EV_cmp (b := false) rfl rfl (by show some (decide ((y : Int) < 2147483648)) = some false; rw [decide_eq_false (by omega)])) rfl ?_
        ((repeat' first|refine kW ?_|refine kU fun bk=>?_|refine kV fun hc=>?_|refine kZ (fun hc=>?_) fun hc=>?_|fail) <;> try exact absurd trivial hc)
        refine OW_EV (EV_nor' (k := .u64) k 1 31 rfl rfl rfl rfl rfl (by omega) (by show k + 1 * 2 ^ 31 < 2 ^ 64; omega)) rfl ?_
        refine WL_plain rfl ?_
        refine OW_EV (EV_cmp (b := true) rfl rfl (by show some ((y : Int) != ((k + 1 * 2 ^ 31 : Nat) : Int)) = some true; congr 1; simp; omega)) rfl ?_
        ((repeat' first|refine kW ?_|refine kU fun bk=>?_|refine kV fun hc=>?_|refine kZ (fun hc=>?_) fun hc=>?_|fail) <;> try exact absurd trivial hc)
        refine kR ?_
        exact ⟨L, iC, rfl, .inr ⟨fun w => c1 (by have := (hrow w hFb).1; omega), rfl⟩⟩
    · have hFb : pxF b i = false := by unfold pxF; rw [← hy]; exact decide_eq_false hF
      rw [if_neg (by rw [hFb]; decide)] at hks
      (repeat' first|refine kW ?_|refine kU fun bk=>?_|refine kV fun hc=>?_|refine kZ (fun hc=>?_) fun hc=>?_|fail)
      refine OW_callP rfl rfl rfl (hwi _) rfl ?_
      (repeat' first|refine kY ?_|refine kU fun bk=>?_|refine kV fun hc=>?_|refine kZ (fun hc=>?_) fun hc=>?_|fail)
      repeat refine WC_seq ?_
      refine WC_region ?_
      refine WL_plain rfl ?_
      refine OW_EV (EV_move rfl) rfl ?_
      refine WL_plain rfl ?_
      refine OW_EV (EV_cmp (b := true) rfl rfl (by show some (decide ((y : Int) < 2147483648)) = some true; rw [decide_eq_true (by omega)])) rfl ?_
      ((repeat' first|refine kW ?_|refine kU fun bk=>?_|refine kV fun hc=>?_|refine kZ (fun hc=>?_) fun hc=>?_|fail) <;> try exact absurd trivial hc)
      refine WQ_round (X := Nat) (μ := fun i => n - i) (x := i) (i + 1) (by omega) ⟨by omega, fun j hj hjF => ?_⟩ (by rw [hks]; exact iS) (fun w h => h)
      by_cases hji : j = i
      · subst hji; rw [hFb] at hjF; cases hjF
      · exact q2 j (by omega) hjF
  · obtain rfl : i = n := by omega
    by_cases c : m = 8 * pxK b i
    · have hbq : ((m : Int) == (pxK b i : Int) * 8) = true := by simp; omega
      (repeat' first|refine kW ?_|refine kU fun bk=>?_|refine kV fun hc=>?_|refine kZ (fun hc=>?_) fun hc=>?_|fail)
      rw [hbq]
      refine kR ?_
      exact ⟨L, iC, rfl, .inl ⟨⟨fun j hj => q2 j (by omega), by rw [← hn]; omega⟩, rfl⟩⟩
    · have hbq : ((m : Int) == (pxK b i : Int) * 8) = false := by simp; omega
      (repeat' first|refine kW ?_|refine kU fun bk=>?_|refine kV fun hc=>?_|refine kZ (fun hc=>?_) fun hc=>?_|fail)
      rw [hbq]
      refine kR ?_
      exact ⟨L, iC, rfl, .inr ⟨fun w => by have := w.2; rw [← hn] at this; omega, rfl⟩⟩
end
end Go.Proofs.Ytmhlmlkndabgmaa
namespace Go.Proofs.Ytmhlmlkndabgmaa
open Go Go.Vx Go.Ob
variable [W0]
set_option linter.all false
set_option maxRecDepth 4000
theorem bytesequal_n (v1 v2 : Value) (a b : List UInt8) (L : List Chunk) (h1 : Sl L 1 v1 a.length (bsv a)) (h2 : Sl L 1 v2 b.length (bsv b)) : GvP Try.prog 62 [v1, v2].toArray L (.bool (decide (a = b))) := by
  refine Gv.of_body (args := [v1, v2]) Try.func62 rfl rfl ?_
  (repeat' first|refine kW ?_|refine kU fun bk=>?_|refine kV fun hc=>?_|refine kZ (fun hc=>?_) fun hc=>?_|fail)
  refine OW_EV (EV_convStr (b := a) rfl h1) rfl ?_
  (repeat' first|refine kW ?_|refine kU fun bk=>?_|refine kV fun hc=>?_|refine kZ (fun hc=>?_) fun hc=>?_|fail)
  refine OW_EV (EV_convStr (b := b) rfl h2) rfl ?_
  (repeat' first|refine kW ?_|refine kU fun bk=>?_|refine kV fun hc=>?_|refine kZ (fun hc=>?_) fun hc=>?_|fail)
  refine kR ?_
  refine ⟨_, iC, ?_, rfl⟩
  show Value.bool _ = Value.bool _
  congr 1
  rw [Bool.eq_iff_iff, decide_eq_true_eq, decide_eq_true_eq]
  exact str_inj
end Go.Proofs.Ytmhlmlkndabgmaa
namespace Go.Proofs.Ytmhlmlkndabgmaa
open Go Go.Vx Go.Pk Go.Ix
set_option linter.all false
set_option maxRecDepth 40000
section
variable [W0]
def CvOk (b : List UInt8) : Prop := b.take 8 = [255, 116, 79, 99, 0, 0, 0, 2] ∧ ((∀ c, c < 255 → fnB b c ≤ fnB b (c + 1)) ∧ pxN b ≤ 4096) ∧ 1072 + 28 * pxN b ≤ b.length
def nilS : Value := .slice none 0 0
theorem pcT {b : List UInt8} {m s k : Nat} (h : s + k ≤ m) : ((b.take m).drop s).take k = pcB b s k := by
  unfold pcB; rw [List.drop_take, List.take_take, Nat.min_eq_left (by omega)]
set_option maxHeartbeats 16000000 in
theorem icut_n (v : Value) (b : List UInt8) (S L : List Chunk) (hs : ∀ x ∈ S.flatten, x ∈ L.flatten) (h : Rs S 1 v (b.take (b.length - 20)).length (bsv (b.take (b.length - 20)))) (h1 : 1072 ≤ b.length) (hb : b.length ≤ 1000000) :
    Gv Try.prog 59 [v].toArray L (fun r L' => L' = L ∧ ((CvOk b ∧ ∃ x : IxC, IxV S b x ∧ r = .tuple #[.agg x.vs.toArray, .bool true]) ∨ (¬ CvOk b ∧ r = .tuple #[.agg #[nilS, nilS, nilS, nilS, nilS, nilS], .bool false]))) := by
  obtain ⟨va, vc, rfl⟩ := rs_val h
  obtain ⟨d, hd⟩ : ∃ d, d = b.take (b.length - 20) := ⟨_, rfl⟩
  rw [← hd] at h ⊢
  have hdl : d.length = b.length - 20 := by rw [hd, List.length_take]; omega
  refine Gv.of_body (args := [.slice va d.length vc]) Try.func59 rfl rfl ?_
  (repeat' first|refine kW ?_|refine kU fun bk=>?_|refine kV fun hc=>?_|refine kZ (fun hc=>?_) fun hc=>?_|fail)
  rename_i r2
  revert bk; intro r4
  refine OW_holds (L' := [(r4, cl [.slice none 0 0, .slice none 0 0, .slice none 0 0, .slice none 0 0, .slice none 0 0, .slice none 0 0] 61)] :: [(r2, cl [.slice none 0 0, .slice none 0 0, .slice none 0 0, .slice none 0 0, .slice none 0 0, .slice none 0 0] 61)] :: L) (fun w h => h) ?_
  refine OW_call rfl rfl rfl (isplit_n _ d 8 S _ h (by omega)) rfl (fun r L' hp => ?_)
  obtain ⟨v1, v2, rfl, q1, q2, rfl⟩ := hp
  obtain ⟨a1, c1, rfl⟩ := rs_val q1
  obtain ⟨a2, c2, rfl⟩ := rs_val q2
  (repeat' first|refine kW ?_|refine kU fun bk=>?_|refine kV fun hc=>?_|refine kZ (fun hc=>?_) fun hc=>?_|fail)
  refine OW_call rfl rfl rfl (isplit_n _ (d.drop 8) 1024 S _ q2 (by rw [List.length_drop]; omega)) rfl (fun r L' hp => ?_)
  obtain ⟨v3, v4, rfl, q3, q4, rfl⟩ := hp
  rw [hd, pcT (by omega)] at q3
  rw [List.drop_drop] at q4
  obtain ⟨a3, c3, rfl⟩ := rs_val q3
  obtain ⟨a4, c4, rfl⟩ := rs_val q4
  (repeat' first|refine kW ?_|refine kU fun bk=>?_|refine kV fun hc=>?_|refine kZ (fun hc=>?_) fun hc=>?_|fail)
  refine OW_call rfl rfl rfl (itotal_n (.slice a3 (pcB b 8 1024).length c3) b _ (by repeat (first | exact Rs.sub hs q3 | apply Rs.there)) (by omega) hb) rfl (fun r L' hp => ?_)
  obtain ⟨rfl, hp⟩ := hp
  rcases hp with ⟨ht, rfl⟩ | ⟨ht, rfl⟩
  rotate_left
  · (repeat' first|refine kW ?_|refine kU fun bk=>?_|refine kV fun hc=>?_|refine kZ (fun hc=>?_) fun hc=>?_|fail)
    first
      | (refine WQ_retC (vs := [.agg #[nilS, nilS, nilS, nilS, nilS, nilS], .bool false]) rfl (.agg ⟨by kernel_rfl, by kernel_rfl⟩ rfl (RdAt.cl' (vs := [nilS, nilS, nilS, nilS, nilS, nilS]) (by repeat (first | assumption | exact Fnd.here | refine Fnd.there ?_)) rfl) rfl (.tmp rfl .nil)) ?_
         exact ⟨L, fun w h => (iC : Inc L _).holds h, rfl, .inr ⟨fun w => ht w.2.1, rfl⟩⟩)
      | (refine WQ_endC (vs := [.agg #[nilS, nilS, nilS, nilS, nilS, nilS], .bool false]) rfl (.agg ⟨by kernel_rfl, by kernel_rfl⟩ rfl (RdAt.cl' (vs := [nilS, nilS, nilS, nilS, nilS, nilS]) (by repeat (first | assumption | exact Fnd.here | refine Fnd.there ?_)) rfl) rfl (.tmp rfl .nil)) ?_
         exact ⟨L, fun w h => (iC : Inc L _).holds h, rfl, .inr ⟨fun w => ht w.2.1, rfl⟩⟩)
  have ht8 : d.take 8 = b.take 8 := by rw [hd, List.take_take, Nat.min_eq_left (by omega)]
  have h4l : (d.drop (8 + 1024)).length = b.length - 1052 := by rw [List.length_drop, hdl]; omega
  have hmo := ht.2
  obtain ⟨n, hn⟩ : ∃ n, n = pxN b := ⟨_, rfl⟩
  rw [← hn] at hmo ⊢
  (repeat' first|refine kW ?_|refine kU fun bk=>?_|refine kV fun hc=>?_|refine kZ (fun hc=>?_) fun hc=>?_|fail)
  refine OW_EV (EV_convStr (b := d.take 8) (m := (d.take 8).length) rfl (by repeat (first | exact sl_sub hs q1.sl | apply sl_there))) rfl ?_
  (repeat' first|refine kW ?_|refine kU fun bk=>?_|refine kV fun hc=>?_|refine kZ (fun hc=>?_) fun hc=>?_|fail)
  · first
      | (refine WQ_retC (vs := [.agg #[nilS, nilS, nilS, nilS, nilS, nilS], .bool false]) rfl (.agg ⟨by kernel_rfl, by kernel_rfl⟩ rfl (RdAt.cl' (vs := [nilS, nilS, nilS, nilS, nilS, nilS]) (by repeat (first | assumption | exact Fnd.here | refine Fnd.there ?_)) rfl) rfl (.tmp rfl .nil)) ?_
         exact ⟨L, fun w h => (iC : Inc L _).holds h, rfl, .inr ⟨fun w => hc (by rw [ht8, w.1]), rfl⟩⟩)
      | (refine WQ_endC (vs := [.agg #[nilS, nilS, nilS, nilS, nilS, nilS], .bool false]) rfl (.agg ⟨by kernel_rfl, by kernel_rfl⟩ rfl (RdAt.cl' (vs := [nilS, nilS, nilS, nilS, nilS, nilS]) (by repeat (first | assumption | exact Fnd.here | refine Fnd.there ?_)) rfl) rfl (.tmp rfl .nil)) ?_
         exact ⟨L, fun w h => (iC : Inc L _).holds h, rfl, .inr ⟨fun w => hc (by rw [ht8, w.1]), rfl⟩⟩)
  · first
      | (refine WQ_retC (vs := [.agg #[nilS, nilS, nilS, nilS, nilS, nilS], .bool false]) rfl (.agg ⟨by kernel_rfl, by kernel_rfl⟩ rfl (RdAt.cl' (vs := [nilS, nilS, nilS, nilS, nilS, nilS]) (by repeat (first | assumption | exact Fnd.here | refine Fnd.there ?_)) rfl) rfl (.tmp rfl .nil)) ?_
         exact ⟨L, fun w h => (iC : Inc L _).holds h, rfl, .inr ⟨fun w => by have := w.2.2; rw [← hn] at this; omega, rfl⟩⟩)
      | (refine WQ_endC (vs := [.agg #[nilS, nilS, nilS, nilS, nilS, nilS], .bool false]) rfl (.agg ⟨by kernel_rfl, by kernel_rfl⟩ rfl (RdAt.cl' (vs := [nilS, nilS, nilS, nilS, nilS, nilS]) (by repeat (first | assumption | exact Fnd.here | refine Fnd.there ?_)) rfl) rfl (.tmp rfl .nil)) ?_
         exact ⟨L, fun w h => (iC : Inc L _).holds h, rfl, .inr ⟨fun w => by have := w.2.2; rw [← hn] at this; omega, rfl⟩⟩)
  rename_i hmg
  have hmg2 : b.take 8 = [255, 116, 79, 99, 0, 0, 0, 2] := by rw [← ht8]; exact congrArg (fun s : ByteArray => s.data.toList) hmg
  have hlen : 1072 + 28 * n ≤ b.length := by omega
  rw [show (n : Int) * 20 = ((n * 20 : Nat) : Int) from by omega]
  refine OW_call rfl rfl rfl (isplit_n _ (d.drop (8 + 1024)) (n * 20) S _ q4 (by omega)) rfl (fun r L' hp => ?_)
  obtain ⟨v5, v6, rfl, q5, q6, rfl⟩ := hp
  rw [hd, pcT (by omega), Nat.mul_comm n 20, show 8 + 1024 = 1032 from rfl] at q5
  rw [List.drop_drop] at q6
  obtain ⟨a5, c5, rfl⟩ := rs_val q5
  obtain ⟨a6, c6, rfl⟩ := rs_val q6
  (repeat' first|refine kW ?_|refine kU fun bk=>?_|refine kV fun hc=>?_|refine kZ (fun hc=>?_) fun hc=>?_|fail)
  rw [show (n : Int) * 4 = ((n * 4 : Nat) : Int) from by omega]
  refine OW_call rfl rfl rfl (isplit_n _ (d.drop (8 + 1024 + n * 20)) (n * 4) S _ q6 (by rw [List.length_drop]; omega)) rfl (fun r L' hp => ?_)
  obtain ⟨v7, v8, rfl, q7, q8, rfl⟩ := hp
  rw [hd, pcT (by omega), show 8 + 1024 + n * 20 = 1032 + 20 * n from by omega, Nat.mul_comm n 4] at q7
  rw [List.drop_drop] at q8
  obtain ⟨a7, c7, rfl⟩ := rs_val q7
  obtain ⟨a8, c8, rfl⟩ := rs_val q8
  (repeat' first|refine kW ?_|refine kU fun bk=>?_|refine kV fun hc=>?_|refine kZ (fun hc=>?_) fun hc=>?_|fail)
  rw [show (n : Int) * 4 = ((n * 4 : Nat) : Int) from by omega]
  refine OW_call rfl rfl rfl (isplit_n _ (d.drop (8 + 1024 + n * 20 + n * 4)) (n * 4) S _ q8 (by rw [List.length_drop]; omega)) rfl (fun r L' hp => ?_)
  obtain ⟨v9, v10, rfl, q9, q10, rfl⟩ := hp
  rw [hd, pcT (by omega), show 8 + 1024 + n * 20 + n * 4 = 1032 + 24 * n from by omega, Nat.mul_comm n 4] at q9
  rw [List.drop_drop] at q10
  obtain ⟨a9, c9, rfl⟩ := rs_val q9
  obtain ⟨a10, c10, rfl⟩ := rs_val q10
  have h10 : (d.drop (8 + 1024 + n * 20 + n * 4 + n * 4)).length = b.length - 1052 - 28 * n := by rw [List.length_drop]; omega
  (repeat' first|refine kW ?_|refine kU fun bk=>?_|refine kV fun hc=>?_|refine kZ (fun hc=>?_) fun hc=>?_|fail)
  rw [h10, show ((b.length - 1052 - 28 * n : Nat) : Int) - 20 = ((b.length - 1072 - 28 * n : Nat) : Int) from by omega, ← h10]
  refine OW_call rfl rfl rfl (isplit_n _ (d.drop (8 + 1024 + n * 20 + n * 4 + n * 4)) (b.length - 1072 - 28 * n) S _ q10 (by omega)) rfl (fun r L' hp => ?_)
  obtain ⟨v11, v12, rfl, q11, q12, rfl⟩ := hp
  rw [hd, pcT (by omega), show 8 + 1024 + n * 20 + n * 4 + n * 4 = 1032 + 28 * n from by omega] at q11
  have e12 : (d.drop (8 + 1024 + n * 20 + n * 4 + n * 4)).drop (b.length - 1072 - 28 * n) = pcB b (b.length - 40) 20 := by
    rw [List.drop_drop, hd]
    unfold pcB
    rw [List.drop_take]
    congr 1
    · omega
    · congr 1; omega
  rw [e12] at q12
  obtain ⟨a11, c11, rfl⟩ := rs_val q11
  obtain ⟨a12, c12, rfl⟩ := rs_val q12
  (repeat' first|refine kW ?_|refine kU fun bk=>?_|refine kV fun hc=>?_|refine kZ (fun hc=>?_) fun hc=>?_|fail)
  have hX : IxV S b ⟨⟨a3, (pcB b 8 1024).length, c3⟩, ⟨a5, (pcB b 1032 (20 * n)).length, c5⟩, ⟨a7, (pcB b (1032 + 20 * n) (4 * n)).length, c7⟩, ⟨a9, (pcB b (1032 + 24 * n) (4 * n)).length, c9⟩, ⟨a11, (pcB b (1032 + 28 * n) (b.length - 1072 - 28 * n)).length, c11⟩, ⟨a12, (pcB b (b.length - 40) 20).length, c12⟩⟩ :=
    ⟨by rw [← hn]; exact hlen, by rw [← hn]; exact hmo, q3, by rw [← hn]; exact q5, by rw [← hn]; exact q7, by rw [← hn]; exact q9, by rw [← hn]; exact q11, q12⟩
  have hC : CvOk b := ⟨hmg2, ht, by rw [← hn]; exact hlen⟩
  first
    | (refine WQ_retC (vs := [.agg ([.slice a3 (pcB b 8 1024).length c3, .slice a5 (pcB b 1032 (20 * n)).length c5, .slice a7 (pcB b (1032 + 20 * n) (4 * n)).length c7, .slice a9 (pcB b (1032 + 24 * n) (4 * n)).length c9, .slice a11 (pcB b (1032 + 28 * n) (b.length - 1072 - 28 * n)).length c11, .slice a12 (pcB b (b.length - 40) 20).length c12] : List Value).toArray, .bool true]) rfl (.agg ⟨by kernel_rfl, by kernel_rfl⟩ rfl (RdAt.cl' (vs := [.slice a3 (pcB b 8 1024).length c3, .slice a5 (pcB b 1032 (20 * n)).length c5, .slice a7 (pcB b (1032 + 20 * n) (4 * n)).length c7, .slice a9 (pcB b (1032 + 24 * n) (4 * n)).length c9, .slice a11 (pcB b (1032 + 28 * n) (b.length - 1072 - 28 * n)).length c11, .slice a12 (pcB b (b.length - 40) 20).length c12]) (by repeat (first | assumption | exact Fnd.here | refine Fnd.there ?_)) rfl) rfl (.tmp rfl .nil)) ?_
       exact ⟨L, fun w h => (iC : Inc L _).holds h, rfl, .inl ⟨hC, _, hX, rfl⟩⟩)
    | (refine WQ_endC (vs := [.agg ([.slice a3 (pcB b 8 1024).length c3, .slice a5 (pcB b 1032 (20 * n)).length c5, .slice a7 (pcB b (1032 + 20 * n) (4 * n)).length c7, .slice a9 (pcB b (1032 + 24 * n) (4 * n)).length c9, .slice a11 (pcB b (1032 + 28 * n) (b.length - 1072 - 28 * n)).length c11, .slice a12 (pcB b (b.length - 40) 20).length c12] : List Value).toArray, .bool true]) rfl (.agg ⟨by kernel_rfl, by kernel_rfl⟩ rfl (RdAt.cl' (vs := [.slice a3 (pcB b 8 1024).length c3, .slice a5 (pcB b 1032 (20 * n)).length c5, .slice a7 (pcB b (1032 + 20 * n) (4 * n)).length c7, .slice a9 (pcB b (1032 + 24 * n) (4 * n)).length c9, .slice a11 (pcB b (1032 + 28 * n) (b.length - 1072 - 28 * n)).length c11, .slice a12 (pcB b (b.length - 40) 20).length c12]) (by repeat (first | assumption | exact Fnd.here | refine Fnd.there ?_)) rfl) rfl (.tmp rfl .nil)) ?_
       exact ⟨L, fun w h => (iC : Inc L _).holds h, rfl, .inl ⟨hC, _, hX, rfl⟩⟩)
set_option maxHeartbeats 16000000 in
/-- An index opened: what it holds, or the error. -/
theorem iopen_n (v : Value) (b : List UInt8) (L : List Chunk) (h : Rs L 1 v b.length (bsv b)) (hb : b.length ≤ 1000000) :
    Gv Try.prog 29 [v].toArray L (fun r L' => L' = L ∧ ((pxE b = 0 ∧ PxOk b ∧ ∃ x : IxC, IxV L b x ∧ r = .tuple #[.agg x.vs.toArray, .int .i64 0]) ∨ (pxE b ≠ 0 ∧ r = .tuple #[.agg #[nilS, nilS, nilS, nilS, nilS, nilS], .int .i64 (pxE b : Int)]))) := by
  obtain ⟨va, vc, rfl⟩ := rs_val h
  refine Gv.of_body (args := [.slice va b.length vc]) Try.func29 rfl rfl ?_
  by_cases h1 : b.length < 1072
  · have he := pxE_torn h1
    (repeat' first|refine kW ?_|refine kU fun bk=>?_|refine kV fun hc=>?_|refine kZ (fun hc=>?_) fun hc=>?_|fail)
    first
      | (refine WQ_retC (vs := [.agg ([nilS, nilS, nilS, nilS, nilS, nilS] : List Value).toArray, .int .i64 4]) rfl (.agg ⟨by kernel_rfl, by kernel_rfl⟩ rfl (RdAt.cl' (vs := [nilS, nilS, nilS, nilS, nilS, nilS]) (by repeat (first | assumption | exact Fnd.here | refine Fnd.there ?_)) rfl) rfl (.tmp rfl .nil)) ?_
         exact ⟨L, fun w h => (iC : Inc L _).holds h, rfl, .inr ⟨by rw [he]; decide, by rw [he]; rfl⟩⟩)
      | (refine WQ_endC (vs := [.agg ([nilS, nilS, nilS, nilS, nilS, nilS] : List Value).toArray, .int .i64 4]) rfl (.agg ⟨by kernel_rfl, by kernel_rfl⟩ rfl (RdAt.cl' (vs := [nilS, nilS, nilS, nilS, nilS, nilS]) (by repeat (first | assumption | exact Fnd.here | refine Fnd.there ?_)) rfl) rfl (.tmp rfl .nil)) ?_
         exact ⟨L, fun w h => (iC : Inc L _).holds h, rfl, .inr ⟨by rw [he]; decide, by rw [he]; rfl⟩⟩)
  have hform : ¬ PxOk b → pxE b = 3 := pxE_form h1
  (repeat' first|refine kW ?_|refine kU fun bk=>?_|refine kV fun hc=>?_|refine kZ (fun hc=>?_) fun hc=>?_|fail)
  rename_i r2
  rw [show (b.length : Int) - 20 = ((b.length - 20 : Nat) : Int) from by omega]
  refine OW_call rfl rfl rfl (isplit_n _ b (b.length - 20) L _ h (by omega)) rfl (fun r L' hp => ?_)
  obtain ⟨v1, v2, rfl, q1, q2, rfl⟩ := hp
  obtain ⟨a1, c1, rfl⟩ := rs_val q1
  obtain ⟨a2, c2, rfl⟩ := rs_val q2
  (repeat' first|refine kW ?_|refine kU fun bk=>?_|refine kV fun hc=>?_|refine kZ (fun hc=>?_) fun hc=>?_|fail)
  refine OW_call rfl rfl rfl (icut_n (.slice a1 (b.take (b.length - 20)).length c1) b L _ iM q1 (by omega) hb) rfl (fun r L' hp => ?_)
  obtain ⟨rfl, hp⟩ := hp
  have hcv : PxOk b → CvOk b := fun w => ⟨w.mg, ⟨w.fan, w.most⟩, by have := w.len; omega⟩
  rcases hp with ⟨hC, x, hx, rfl⟩ | ⟨hC, rfl⟩
  rotate_left
  · have he := hform fun w => hC (hcv w)
    (repeat' first|refine kW ?_|refine kU fun bk=>?_|refine kV fun hc=>?_|refine kZ (fun hc=>?_) fun hc=>?_|fail)
    first
      | (refine WQ_retC (vs := [.agg ([nilS, nilS, nilS, nilS, nilS, nilS] : List Value).toArray, .int .i64 3]) rfl (.agg ⟨by kernel_rfl, by kernel_rfl⟩ rfl (RdAt.cl' (vs := [nilS, nilS, nilS, nilS, nilS, nilS]) (by repeat (first | assumption | exact Fnd.here | refine Fnd.there ?_)) rfl) rfl (.tmp rfl .nil)) ?_
         exact ⟨L, fun w h => (iC : Inc L _).holds h, rfl, .inr ⟨by rw [he]; decide, by rw [he]; rfl⟩⟩)
      | (refine WQ_endC (vs := [.agg ([nilS, nilS, nilS, nilS, nilS, nilS] : List Value).toArray, .int .i64 3]) rfl (.agg ⟨by kernel_rfl, by kernel_rfl⟩ rfl (RdAt.cl' (vs := [nilS, nilS, nilS, nilS, nilS, nilS]) (by repeat (first | assumption | exact Fnd.here | refine Fnd.there ?_)) rfl) rfl (.tmp rfl .nil)) ?_
         exact ⟨L, fun w h => (iC : Inc L _).holds h, rfl, .inr ⟨by rw [he]; decide, by rw [he]; rfl⟩⟩)
  obtain ⟨⟨ca, cn, cc⟩, ⟨ia, i_n, ic⟩, ⟨ra, rn, rc⟩, ⟨oa, on, oc⟩, ⟨fa, fn, fc⟩, ⟨pa, pn, pc⟩⟩ := x
  have hids := fun C D => iids_n _ b (C :: D :: L) hx.up.up hb
  have hofs := fun C D => ioffs_n _ b (C :: D :: L) hx.up.up hb
  simp only [IxC.vs, Sc.v] at hids hofs ⊢
  (repeat' first|refine kW ?_|refine kU fun bk=>?_|refine kV fun hc=>?_|refine kZ (fun hc=>?_) fun hc=>?_|fail)
  refine OW_call rfl rfl rfl (hids _ _) rfl (fun r L' hp => ?_)
  obtain ⟨rfl, hp⟩ := hp
  rcases hp with ⟨hI, rfl⟩ | ⟨hI, rfl⟩
  rotate_left
  · have he := hform fun w => hI fun i hi => ⟨(w.rows i hi).1, (w.rows i hi).2.1, (w.rows i hi).2.2.1⟩
    (repeat' first|refine kW ?_|refine kU fun bk=>?_|refine kV fun hc=>?_|refine kZ (fun hc=>?_) fun hc=>?_|fail)
    first
      | (refine WQ_retC (vs := [.agg ([nilS, nilS, nilS, nilS, nilS, nilS] : List Value).toArray, .int .i64 3]) rfl (.agg ⟨by kernel_rfl, by kernel_rfl⟩ rfl (RdAt.cl' (vs := [nilS, nilS, nilS, nilS, nilS, nilS]) (by repeat (first | assumption | exact Fnd.here | refine Fnd.there ?_)) rfl) rfl (.tmp rfl .nil)) ?_
         exact ⟨L, fun w h => (iC : Inc L _).holds h, rfl, .inr ⟨by rw [he]; decide, by rw [he]; rfl⟩⟩)
      | (refine WQ_endC (vs := [.agg ([nilS, nilS, nilS, nilS, nilS, nilS] : List Value).toArray, .int .i64 3]) rfl (.agg ⟨by kernel_rfl, by kernel_rfl⟩ rfl (RdAt.cl' (vs := [nilS, nilS, nilS, nilS, nilS, nilS]) (by repeat (first | assumption | exact Fnd.here | refine Fnd.there ?_)) rfl) rfl (.tmp rfl .nil)) ?_
         exact ⟨L, fun w h => (iC : Inc L _).holds h, rfl, .inr ⟨by rw [he]; decide, by rw [he]; rfl⟩⟩)
  (repeat' first|refine kW ?_|refine kU fun bk=>?_|refine kV fun hc=>?_|refine kZ (fun hc=>?_) fun hc=>?_|fail)
  refine OW_call rfl rfl rfl (hofs _ _) rfl (fun r L' hp => ?_)
  obtain ⟨rfl, hp⟩ := hp
  rcases hp with ⟨hF, rfl⟩ | ⟨hF, rfl⟩
  rotate_left
  · have he := hform fun w => hF ⟨fun i hi => (w.rows i hi).2.2.2, w.len⟩
    (repeat' first|refine kW ?_|refine kU fun bk=>?_|refine kV fun hc=>?_|refine kZ (fun hc=>?_) fun hc=>?_|fail)
    first
      | (refine WQ_retC (vs := [.agg ([nilS, nilS, nilS, nilS, nilS, nilS] : List Value).toArray, .int .i64 3]) rfl (.agg ⟨by kernel_rfl, by kernel_rfl⟩ rfl (RdAt.cl' (vs := [nilS, nilS, nilS, nilS, nilS, nilS]) (by repeat (first | assumption | exact Fnd.here | refine Fnd.there ?_)) rfl) rfl (.tmp rfl .nil)) ?_
         exact ⟨L, fun w h => (iC : Inc L _).holds h, rfl, .inr ⟨by rw [he]; decide, by rw [he]; rfl⟩⟩)
      | (refine WQ_endC (vs := [.agg ([nilS, nilS, nilS, nilS, nilS, nilS] : List Value).toArray, .int .i64 3]) rfl (.agg ⟨by kernel_rfl, by kernel_rfl⟩ rfl (RdAt.cl' (vs := [nilS, nilS, nilS, nilS, nilS, nilS]) (by repeat (first | assumption | exact Fnd.here | refine Fnd.there ?_)) rfl) rfl (.tmp rfl .nil)) ?_
         exact ⟨L, fun w h => (iC : Inc L _).holds h, rfl, .inr ⟨by rw [he]; decide, by rw [he]; rfl⟩⟩)
  have hok : PxOk b := ⟨hC.1, hC.2.1.1, hC.2.1.2, hF.2, fun i hi => ⟨(hI i hi).1, (hI i hi).2.1, (hI i hi).2.2, hF.1 i hi⟩⟩
  (repeat' first|refine kW ?_|refine kU fun bk=>?_|refine kV fun hc=>?_|refine kZ (fun hc=>?_) fun hc=>?_|fail)
  refine OW_call rfl rfl rfl (sha1_n (b.take (b.length - 20)) _ _ (by rw [List.length_take]; omega) ⟨by repeat (first | exact q1.sl | apply sl_there), q1.room⟩) rfl (fun r L' hp => ?_)
  obtain ⟨Ch, rfl, hoh⟩ := hp
  obtain ⟨ha, hca, rfl⟩ := ow_slc hoh
  (repeat' first|refine kW ?_|refine kU fun bk=>?_|refine kV fun hc=>?_|refine kZ (fun hc=>?_) fun hc=>?_|fail)
  refine OW_callP rfl rfl rfl (bytesequal_n _ _ (b.drop (b.length - 20)) (shaN (b.take (b.length - 20))) _ (by repeat (first | exact q2.sl | apply sl_there)) (by rw [shaN_length]; exact ow_sl hoh)) rfl ?_
  by_cases hs : pxSum b
  · have he := pxE_ok h1 hok hs
    rw [show decide (b.drop (b.length - 20) = shaN (b.take (b.length - 20))) = true from decide_eq_true hs.symm]
    (repeat' first|refine kW ?_|refine kU fun bk=>?_|refine kV fun hc=>?_|refine kZ (fun hc=>?_) fun hc=>?_|fail)
    first
      | (refine WQ_retC (vs := [.agg ([.slice ca cn cc, .slice ia i_n ic, .slice ra rn rc, .slice oa on oc, .slice fa fn fc, .slice pa pn pc] : List Value).toArray, .int .i64 0]) rfl (.agg ⟨by kernel_rfl, by kernel_rfl⟩ rfl (RdAt.cl' (vs := [.slice ca cn cc, .slice ia i_n ic, .slice ra rn rc, .slice oa on oc, .slice fa fn fc, .slice pa pn pc]) (by repeat (first | assumption | exact Fnd.here | refine Fnd.there ?_)) rfl) rfl (.tmp rfl .nil)) ?_
         exact ⟨L, fun w h => (iC : Inc L _).holds h, rfl, .inl ⟨he, hok, _, hx, rfl⟩⟩)
      | (refine WQ_endC (vs := [.agg ([.slice ca cn cc, .slice ia i_n ic, .slice ra rn rc, .slice oa on oc, .slice fa fn fc, .slice pa pn pc] : List Value).toArray, .int .i64 0]) rfl (.agg ⟨by kernel_rfl, by kernel_rfl⟩ rfl (RdAt.cl' (vs := [.slice ca cn cc, .slice ia i_n ic, .slice ra rn rc, .slice oa on oc, .slice fa fn fc, .slice pa pn pc]) (by repeat (first | assumption | exact Fnd.here | refine Fnd.there ?_)) rfl) rfl (.tmp rfl .nil)) ?_
         exact ⟨L, fun w h => (iC : Inc L _).holds h, rfl, .inl ⟨he, hok, _, hx, rfl⟩⟩)
  · have he := pxE_sum h1 hok hs
    rw [show decide (b.drop (b.length - 20) = shaN (b.take (b.length - 20))) = false from decide_eq_false fun w => hs w.symm]
    (repeat' first|refine kW ?_|refine kU fun bk=>?_|refine kV fun hc=>?_|refine kZ (fun hc=>?_) fun hc=>?_|fail)
    first
      | (refine WQ_retC (vs := [.agg ([nilS, nilS, nilS, nilS, nilS, nilS] : List Value).toArray, .int .i64 6]) rfl (.agg ⟨by kernel_rfl, by kernel_rfl⟩ rfl (RdAt.cl' (vs := [nilS, nilS, nilS, nilS, nilS, nilS]) (by repeat (first | assumption | exact Fnd.here | refine Fnd.there ?_)) rfl) rfl (.tmp rfl .nil)) ?_
         exact ⟨L, fun w h => (iC : Inc L _).holds h, rfl, .inr ⟨by rw [he]; decide, by rw [he]; rfl⟩⟩)
      | (refine WQ_endC (vs := [.agg ([nilS, nilS, nilS, nilS, nilS, nilS] : List Value).toArray, .int .i64 6]) rfl (.agg ⟨by kernel_rfl, by kernel_rfl⟩ rfl (RdAt.cl' (vs := [nilS, nilS, nilS, nilS, nilS, nilS]) (by repeat (first | assumption | exact Fnd.here | refine Fnd.there ?_)) rfl) rfl (.tmp rfl .nil)) ?_
         exact ⟨L, fun w h => (iC : Inc L _).holds h, rfl, .inr ⟨by rw [he]; decide, by rw [he]; rfl⟩⟩)
end
end Go.Proofs.Ytmhlmlkndabgmaa
namespace Go.Vx
open Go
set_option linter.all false
variable [W0]
theorem WR_any {P : Program} {n : Nat} {ops : List Oper} {Q : Exit → Act → World → Prop} {S : List Chunk} {T : List Nat} {fuel : Nat} {listed : Array Bool} {M : List (Nat × Value)} {L : List Chunk} (js : List Nat) (hr : Region.ready .any ops.toArray listed = js) (hne : js ≠ [])
    (h : ∀ j, j ∈ js → ∃ o, ops[j]? = some o ∧ o.guard = none ∧ OW P n o (WRk P n ops Q S T fuel (listed.setIfInBounds j true)) M L) : WR P n ops Q S T (fuel + 1) listed M L := ⟨fun a w ha hw => by
  refine ⟨fun h0 => absurd (hr ▸ h0) hne, fun j hj => ?_⟩
  rw [hr] at hj
  obtain ⟨o, hi, hg, ho⟩ := h j hj
  unfold wpOp
  simp only [List.getElem?_toArray, hi]
  rw [if_pos (by simp [Region.wanted, hg])]
  exact .inl (ho.out a w _ Q ha hw fun M' L' hk => ⟨fun a' w' ha' hw' => ⟨fun _ => hk.inc.holds hw', hk.out.out a' w' ha' hw'⟩⟩)⟩
end Go.Vx
