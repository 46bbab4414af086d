/- ObjectGit returns true and leaves its arguments as they were, for every argument; the table that the program reads is tied to its text (the card). No conditions beyond the row's. -/
import Derived.Test.YtlomjmdgcpjepaaGreatDoorGa1
namespace Go.Proofs.YtlomjmdgcpjepaaGreatDoor
open Go Go.Vx
variable [W0]
set_option maxRecDepth 4000
set_option linter.all false
theorem owf_slc {e k m : Nat} {v : Value} {xs : List Value} {C : Chunk} (h : OwF e k v m xs C) : ∃ b c, v = .slice (some ⟨b, 0, none⟩) m c := by
  obtain ⟨b, cap, rest, fr, rfl, _⟩ := h
  exact ⟨_, _, rfl⟩
theorem blk_get {m : List UInt8} {k j : Nat} (hj : j < 64) : ((m.drop (64 * k)).take 64).getD j 0 = m.getD (64 * k + j) 0 := by
  simp only [List.getD, List.getElem?_take, hj, if_true, List.getElem?_drop]
omit [W0] in
def hcs (h : H5) : List Value := [w32 h.a, w32 h.b, w32 h.c, w32 h.d, w32 h.e]
theorem kind_eq (k : Nat) (a b c d e w : BitVec 32) (f : BitVec 32) (q : BitVec 32) (h : kindF k b c d = f + q) : rol a 5 + f + e + q + w = rol a 5 + kindF k b c d + e + w := by
  rw [h]
  ac_rfl
set_option maxHeartbeats 4000000 in
theorem refsha_n (t : List UInt8) (L : List Chunk) (hlen : t.length ≤ 140737488351232) :
    Gv Tryz.prog 30 [.string (str t)].toArray L (fun r L' => ∃ C, L' = C :: L ∧ Ow 5 1 r 20 (bsv (shaN t)) C) := by
  refine Gv.of_body Tryz.func30 rfl rfl ?_
  have hsz : (str t).size = t.length := rfl
  (repeat' first|refine kX ?_|refine kU fun bk=>?_|refine kV fun hc=>?_|refine kZ (fun hc=>?_) fun hc=>?_|fail)
  rw [hsz]
  refine OW_EV (EV_ari rfl rfl rfl) rfl ?_
  rw [wrap_u64 (by omega) (by omega)]
  obtain ⟨n, hn⟩ : ∃ n, n = t.length := ⟨_, rfl⟩
  obtain ⟨z, hz⟩ : ∃ z, z = (119 - n % 64) % 64 := ⟨_, rfl⟩
  rw [← hn] at hlen hsz ⊢
  (repeat' first|refine kX ?_|refine kU fun bk=>?_|refine kV fun hc=>?_|refine kZ (fun hc=>?_) fun hc=>?_|fail)
  refine OW_convBytes rfl (by rw [hsz]; simp [maxLen]; omega) rfl (fun v0 C0 ho0 => ?_)
  rw [str_data, hsz] at ho0
  (repeat' first|refine kX ?_|refine kU fun bk=>?_|refine kV fun hc=>?_|refine kZ (fun hc=>?_) fun hc=>?_|fail)
  refine OW_buildSlice (cs := bsv [128]) rfl (by rfl) (by simp [fillL, patch, Value.cells, zeros]; rfl) (by omega) rfl rfl (fun bk => ?_)
  (repeat' first|refine kX ?_|refine kU fun bk=>?_|refine kV fun hc=>?_|refine kZ (fun hc=>?_) fun hc=>?_|fail)
  refine OW_appendF rfl rfl ho0 (sl_cells (c := (bsv [128]).toArray) (xs := bsv [128]) (m := 1) Fnd.here rfl (by simp)) (by repeat (first | exact Zip.here _ | apply Zip.there)) (by rfl) bsv_ones (by omega) (by simp [maxLen]; omega) rfl (fun v1 C1 ho1 => ?_)
  rw [← bsv_append] at ho1
  (repeat' first|refine kX ?_|refine kU fun bk=>?_|refine kV fun hc=>?_|refine kZ (fun hc=>?_) fun hc=>?_|fail)
  refine WC_loop (X := Nat × Value × Chunk) (fun x => [(0, .string (str t)), (3, .int .u64 ((n : Int) * 8)), (4, x.2.1)])
    (fun x => x.2.2 :: L) (fun x => x.1 ≤ z ∧ OwF 5 1 x.2.1 (n + 1 + x.1) (bsv (t ++ [128] ++ List.replicate x.1 0)) x.2.2) (fun x => z - x.1) (0, v1, C1) ⟨Nat.zero_le _, by simpa using ho1⟩ iS (fun w h => iH h) ?_
  clear ho1 ho0
  intro x ⟨hx1, hx2⟩
  obtain ⟨j, v, C⟩ := x
  simp only at hx1 hx2 ⊢
  obtain ⟨bb, cap, rfl⟩ := owf_slc hx2
  (repeat' first|refine kX ?_|refine kU fun bk=>?_|refine kV fun hc=>?_|refine kZ (fun hc=>?_) fun hc=>?_|fail)
  refine OW_EV (EV_rem rfl rfl (by decide)) rfl ?_
  rw [show ((n + 1 + j : Nat) : Int).tmod 64 = (((n + 1 + j) % 64 : Nat) : Int) from by rw [Int.tmod_eq_emod_of_nonneg (by omega)]; omega]
  (repeat' first|refine kX ?_|refine kU fun bk=>?_|refine kV fun hc=>?_|refine kZ (fun hc=>?_) fun hc=>?_|fail)
  · have hj : j < z := by omega
    refine OW_buildSlice (cs := bsv [0]) rfl (by rfl) (by simp [fillL, patch, Value.cells, zeros]; rfl) (by omega) rfl rfl (fun bk => ?_)
    (repeat' first|refine kX ?_|refine kU fun bk=>?_|refine kV fun hc=>?_|refine kZ (fun hc=>?_) fun hc=>?_|fail)
    refine OW_appendF rfl rfl hx2 (sl_cells (c := (bsv [0]).toArray) (xs := bsv [0]) (m := 1) Fnd.here rfl (by simp)) (by repeat (first | exact Zip.here _ | apply Zip.there)) (by rfl) bsv_ones (by omega) (by simp [maxLen]; omega) rfl (fun v1 C1 ho1 => ?_)
    rw [← bsv_append, List.append_assoc, ← List.replicate_succ' (n := j)] at ho1
    (repeat' first|refine kX ?_|refine kU fun bk=>?_|refine kV fun hc=>?_|refine kZ (fun hc=>?_) fun hc=>?_|fail)
    refine WQ_round (X := Nat × Value × Chunk) (μ := fun x => z - x.1) (x := (j, .slice (some ⟨bb, 0, none⟩) (n + 1 + j) cap, C)) (j + 1, v1, C1) (by simp only; omega) ⟨by simp only; omega, ho1⟩ iS (fun w h => iH h)
  · have hj : j = z := by omega
    subst hj
    have e2 : BitVec.ofInt 32 ((n : Int) * 8 / 4294967296) = hiW n := by
      apply BitVec.eq_of_toNat_eq
      rw [BitVec.toNat_ofInt, hiW, BitVec.toNat_ofNat]
      omega
    have e3 : BitVec.ofInt 32 ((n : Int) * 8) = loW n := by
      apply BitVec.eq_of_toNat_eq
      rw [BitVec.toNat_ofInt, loW, BitVec.toNat_ofNat]
      omega
    rw [e2, e3]
    refine OW_buildSlice (cs := wsv [hiW n, loW n]) rfl (by rfl) (by simp [fillL, patch, Value.cells, zeros]; rfl) (by omega) rfl rfl (fun bk2 => ?_)
    (repeat' first|refine kX ?_|refine kU fun bk=>?_|refine kV fun hc=>?_|refine kZ (fun hc=>?_) fun hc=>?_|fail)
    refine OW_call rfl rfl rfl (words_n [hiW n, loW n] _ _ (by simp) ⟨sl_cells (c := (wsv [hiW n, loW n]).toArray) (m := 2) Fnd.here rfl (by simp), _, _, rfl, Nat.le_refl _⟩) rfl (fun r L' hp => ?_)
    obtain ⟨C2, rfl, ho2⟩ := hp
    (repeat' first|refine kX ?_|refine kU fun bk=>?_|refine kV fun hc=>?_|refine kZ (fun hc=>?_) fun hc=>?_|fail)
    refine OW_appendF rfl rfl hx2 (ow_sl ho2) (by repeat (first | exact Zip.here _ | apply Zip.there)) (by rfl) bsv_ones (by simp; omega) (by simp [maxLen]; omega) rfl (fun vb Cb hob => ?_)
    have hm : t ++ [128] ++ List.replicate j 0 ++ wbs [hiW n, loW n] = t ++ padOf t.length := by
      rw [← hn]
      simp [padOf, wbs, ← hz]
    rw [← bsv_append, hm] at hob
    have hpl := padOf_length n
    have hml : (t ++ padOf t.length).length = n + 1 + j + 4 * [hiW n, loW n].length := by rw [← hn]; simp [hpl]; omega
    rw [← hml] at hob
    have hsh : shaN t = wbs (hbs (chainN (t ++ padOf t.length) ((t ++ padOf t.length).length / 64))) := rfl
    rw [hsh]
    have hm64 : (t ++ padOf t.length).length % 64 = 0 := by rw [hml]; simp; omega
    have hmb : (t ++ padOf t.length).length ≤ 140737488355328 := by rw [hml]; simp; omega
    generalize t ++ padOf t.length = m at hob hm64 hmb ⊢
    clear hm hml hsh hpl e2 e3 hc hx1 hx2 hz hn hlen hsz ho2
    obtain ⟨bb, cap, rest, fr, rfl, rfl, hxl, hrl, hmc, hcm, hfr⟩ := hob
    (repeat' first|refine kX ?_|refine kU fun bk=>?_|refine kV fun hc=>?_|refine kZ (fun hc=>?_) fun hc=>?_|fail)
    refine OW_buildSlice (cs := hcs h50) rfl (by rfl) (by simp [fillL, patch, Value.cells, zeros]; rfl) (by omega) rfl rfl (fun bh => ?_)
    (repeat' first|refine kX ?_|refine kU fun bk=>?_|refine kV fun hc=>?_|refine kZ (fun hc=>?_) fun hc=>?_|fail)
    refine OW_makeSlice (m := 80) (c := 80) rfl rfl (by rfl) (by omega) (by omega) (by omega) rfl (fun bw => ?_)
    (repeat' first|refine kX ?_|refine kU fun bk=>?_|refine kV fun hc=>?_|refine kZ (fun hc=>?_) fun hc=>?_|fail)
    have hbyte : ∀ i, i < m.length → ((bsv m ++ rest).toArray)[i * 1]? = some (.int .u8 ((m.getD i 0).toNat : Int)) := fun i hi => by
      rw [Nat.mul_one, List.getElem?_toArray, List.getElem?_append_left (by simpa [bsv_length] using hi)]
      exact bsv_get (by simp [List.getD, hi])
    refine WC_loop (X := Nat × List Value × Nat) (fun x => [(4, .slice (some ⟨bb, 0, none⟩) m.length cap), (5, .slice (some ⟨x.2.2, 0, none⟩) 5 5), (6, .slice (some ⟨bw, 0, none⟩) 80 80), (7, .int .i64 ((64 * x.1 : Nat) : Int))])
      (fun x => [(x.2.2, cl (hcs (chainN m x.1)) 102)] :: [(bw, cl x.2.1 102)] :: [(bb, .cells (bsv m ++ rest).toArray 5 fr)] :: L)
      (fun x => 64 * x.1 ≤ m.length ∧ x.2.1.length = 80) (fun x => m.length - 64 * x.1) (0, zeros [.int .u32 0] 80, bh) ⟨Nat.zero_le _, by simp [zeros_length]⟩ iS (fun w h => iH h) ?_
    intro x ⟨hx1, hx2⟩
    obtain ⟨k, wl, bh⟩ := x
    simp only at hx1 hx2 ⊢
    (repeat' first|refine kX ?_|refine kU fun bk=>?_|refine kV fun hc=>?_|refine kZ (fun hc=>?_) fun hc=>?_|fail)
    · have hk : 64 * k + 64 ≤ m.length := by omega
      obtain ⟨blk, hblk⟩ : ∃ blk, blk = (m.drop (64 * k)).take 64 := ⟨_, rfl⟩
      have hbg : ∀ j, j < 64 → m.getD (64 * k + j) 0 = blk.getD j 0 := fun j hj => by rw [hblk, blk_get hj]
      refine WC_loop (X := Nat × List Value) (fun x => [(4, .slice (some ⟨bb, 0, none⟩) m.length cap), (5, .slice (some ⟨bh, 0, none⟩) 5 5), (6, .slice (some ⟨bw, 0, none⟩) 80 80), (7, .int .i64 ((64 * k : Nat) : Int)), (8, .int .i64 (x.1 : Int))])
        (fun x => [(bh, cl (hcs (chainN m k)) 102)] :: [(bw, cl (wsv (sched blk x.1) ++ x.2) 102)] :: [(bb, .cells (bsv m ++ rest).toArray 5 fr)] :: L)
        (fun x => x.1 ≤ 80 ∧ x.2.length = 80 - x.1) (fun x => 80 - x.1) (0, wl) ⟨by simp only; omega, hx2⟩ iS (fun w h => h) ?_
      intro y ⟨hy1, hy2⟩
      clear hx2 wl hc
      obtain ⟨t, wr⟩ := y
      simp only at hy1 hy2 ⊢
      (repeat' first|refine kX ?_|refine kU fun bk=>?_|refine kV fun hc=>?_|refine kZ (fun hc=>?_) fun hc=>?_|fail)
      · have hfB : Fnd ([(bh, cl (hcs (chainN m k)) 102)] :: [(bw, cl (wsv (sched blk t) ++ wr) 102)] :: [(bb, .cells (bsv m ++ rest).toArray 5 fr)] :: L) bb (.cells (bsv m ++ rest).toArray 5 fr) := Fnd.there (Fnd.there Fnd.here)
        have hb2 : ∀ j, j < 64 → ((bsv m ++ rest).toArray)[(64 * k + j) * 1]? = some (.int .u8 ((blk.getD j 0).toNat : Int)) := fun j hj => by
          rw [← hbg j hj]; exact hbyte _ (by omega)
        refine WC_drawAll [32] mixed ?_
        (refine WR_w 0 ?_; refine WR_w 1 ?_; refine WR_w 2 ?_; refine WR_w 3 ?_)
        (refine WR_take 4 rfl rfl (by kernel_rfl) iP iC (EV_indexAddr0 (j := 64 * k + (4 * t)) rfl rfl (by omega) (by omega)) (by rfl) ?_)
        (refine WR_take 5 rfl rfl (by kernel_rfl) iP iC (EV_load rfl hfB (hb2 (4 * t) (by omega))) (by rfl) ?_)
        (refine WR_w 6 ?_; refine WR_w 7 ?_; refine WR_w 8 ?_; refine WR_w 9 ?_; refine WR_w 10 ?_)
        (refine WR_take 11 rfl rfl (by kernel_rfl) iP iC (EV_indexAddr0 (j := 64 * k + (4 * t + 1)) rfl rfl (by omega) (by omega)) (by rfl) ?_)
        (refine WR_take 12 rfl rfl (by kernel_rfl) iP iC (EV_load rfl hfB (hb2 (4 * t + 1) (by omega))) (by rfl) ?_)
        (refine WR_w 13 ?_; refine WR_w 14 ?_; refine WR_w 15 ?_; refine WR_w 16 ?_; refine WR_w 17 ?_; refine WR_w 18 ?_)
        (refine WR_take 19 rfl rfl (by kernel_rfl) iP iC (EV_indexAddr0 (j := 64 * k + (4 * t + 2)) rfl rfl (by omega) (by omega)) (by rfl) ?_)
        (refine WR_take 20 rfl rfl (by kernel_rfl) iP iC (EV_load rfl hfB (hb2 (4 * t + 2) (by omega))) (by rfl) ?_)
        (refine WR_w 21 ?_; refine WR_w 22 ?_; refine WR_w 23 ?_; refine WR_w 24 ?_; refine WR_w 25 ?_; refine WR_w 26 ?_)
        (refine WR_take 27 rfl rfl (by kernel_rfl) iP iC (EV_indexAddr0 (j := 64 * k + (4 * t + 3)) rfl rfl (by omega) (by omega)) (by rfl) ?_)
        (refine WR_take 28 rfl rfl (by kernel_rfl) iP iC (EV_load rfl hfB (hb2 (4 * t + 3) (by omega))) (by rfl) ?_)
        (refine WR_w 29 ?_; refine WR_w 30 ?_; refine WR_w 31 ?_)
        (refine WR_last 32 (by kernel_rfl) rfl rfl rfl ?_)
        refine OW_storeTo (wsv (sched blk (t + 1)) ++ wr.tail) rfl rfl rfl ?_ iU (by simp [wsv_length, sched_length]; omega) ?_
        · rw [Nat.mul_one]
          have := wsv_put (sched blk t) (schedNext blk (sched blk t)) wr t (sched_length blk t).symm (by omega)
          rw [sched_lo (by omega)] at this
          rw [sched, sched_lo (by omega)]
          exact this
        (refine WR_done (by kernel_rfl) ?_)
        (repeat' first|refine kX ?_|refine kU fun bk=>?_|refine kV fun hc=>?_|refine kZ (fun hc=>?_) fun hc=>?_|fail)
        refine WQ_round (X := Nat × List Value) (μ := fun x => 80 - x.1) (x := (t, wr)) (t + 1, wr.tail) (by simp only; omega) ⟨by simp only; omega, by simp; omega⟩ iS (fun w h => h)
      · have ld : ∀ j, 0 < j → j ≤ t → nth (wsv (sched blk t) ++ wr) ((t - j) * 1) = some (w32 ((sched blk t).getD (t - j) 0)) := fun j h0 hj => by
          rw [nth_eq, Nat.mul_one]
          exact wsv_app_get _ _ (by rw [sched_length]; omega)
        refine WC_drawAll [27] mixed ?_
        (refine WR_w 0 ?_; refine WR_w 1 ?_; refine WR_w 2 ?_; refine WR_w 3 ?_; refine WR_w 4 ?_)
        (refine WR_take 5 rfl rfl (by kernel_rfl) iP iC (EV_indexAddr0 (j := t - 3) rfl rfl (by omega) (by omega)) (by rfl) ?_)
        (refine WR_take 6 rfl rfl (by kernel_rfl) iP iC (EV_loadc rfl (Fnd.there Fnd.here) (ld 3 (by omega) (by omega))) (by rfl) ?_)
        (refine WR_w 7 ?_; refine WR_w 8 ?_; refine WR_w 9 ?_)
        (refine WR_take 10 rfl rfl (by kernel_rfl) iP iC (EV_indexAddr0 (j := t - 8) rfl rfl (by omega) (by omega)) (by rfl) ?_)
        (refine WR_take 11 rfl rfl (by kernel_rfl) iP iC (EV_loadc rfl (Fnd.there Fnd.here) (ld 8 (by omega) (by omega))) (by rfl) ?_)
        (refine WR_w 12 ?_; refine WR_w 13 ?_; refine WR_w 14 ?_; refine WR_w 15 ?_)
        (refine WR_take 16 rfl rfl (by kernel_rfl) iP iC (EV_indexAddr0 (j := t - 14) rfl rfl (by omega) (by omega)) (by rfl) ?_)
        (refine WR_take 17 rfl rfl (by kernel_rfl) iP iC (EV_loadc rfl (Fnd.there Fnd.here) (ld 14 (by omega) (by omega))) (by rfl) ?_)
        (refine WR_w 18 ?_; refine WR_w 19 ?_; refine WR_w 20 ?_; refine WR_w 21 ?_)
        (refine WR_take 22 rfl rfl (by kernel_rfl) iP iC (EV_indexAddr0 (j := t - 16) rfl rfl (by omega) (by omega)) (by rfl) ?_)
        (refine WR_take 23 rfl rfl (by kernel_rfl) iP iC (EV_loadc rfl (Fnd.there Fnd.here) (ld 16 (by omega) (by omega))) (by rfl) ?_)
        (refine WR_w 24 ?_)
        (refine WR_one 25 (by kernel_rfl) rfl rfl ?_)
        refine OW_callP rfl rfl rfl (rol_n _ 1 _ (by omega)) rfl ?_
        refine ⟨iC, ?_⟩
        (refine WR_w 26 ?_)
        (refine WR_last 27 (by kernel_rfl) rfl rfl rfl ?_)
        refine OW_storeTo (wsv (sched blk (t + 1)) ++ wr.tail) rfl rfl rfl ?_ iU (by simp [wsv_length, sched_length]; omega) ?_
        · rw [Nat.mul_one]
          have := wsv_put (sched blk t) (schedNext blk (sched blk t)) wr t (sched_length blk t).symm (by omega)
          rw [sched_hi (by omega)] at this
          rw [sched, sched_hi (by omega)]
          exact this
        (refine WR_done (by kernel_rfl) ?_)
        (repeat' first|refine kX ?_|refine kU fun bk=>?_|refine kV fun hc=>?_|refine kZ (fun hc=>?_) fun hc=>?_|fail)
        refine WQ_round (X := Nat × List Value) (μ := fun x => 80 - x.1) (x := (t, wr)) (t + 1, wr.tail) (by simp only; omega) ⟨by simp only; omega, by simp; omega⟩ iS (fun w h => h)
      · have ht : t = 80 := by omega
        subst ht
        have hr : wr = [] := List.eq_nil_of_length_eq_zero (by simpa using hy2)
        subst hr
        rw [List.append_nil]
        have hch : chainN m (k + 1) = add5 (chainN m k) (rounds (sched blk 80) (chainN m k) 80) := by rw [hblk]; rfl
        have hwl : (sched blk 80).length = 80 := sched_length blk 80
        generalize sched blk 80 = ws at hch hwl ⊢
        obtain ⟨H, hH⟩ : ∃ H, H = chainN m k := ⟨_, rfl⟩
        rw [← hH] at hch ⊢
        refine WC_loop (X := Nat × H5) (fun x => [(4, .slice (some ⟨bb, 0, none⟩) m.length cap), (5, .slice (some ⟨bh, 0, none⟩) 5 5), (6, .slice (some ⟨bw, 0, none⟩) 80 80), (7, .int .i64 ((64 * k : Nat) : Int)),
            (10, w32 x.2.a), (11, w32 x.2.b), (12, w32 x.2.c), (13, w32 x.2.d), (14, w32 x.2.e), (15, .int .i64 (x.1 : Int))])
          (fun x => [(bh, cl (hcs H) 102)] :: [(bw, cl (wsv ws) 102)] :: [(bb, .cells (bsv m ++ rest).toArray 5 fr)] :: L)
          (fun x => x.1 ≤ 80 ∧ x.2 = rounds ws H x.1) (fun x => 80 - x.1) (0, H) ⟨by simp only; omega, rfl⟩ iS (fun w h => h) ?_
        intro y ⟨hy3, hy4⟩
        clear hy1 hy2 hc hbg
        obtain ⟨t, r⟩ := y
        simp only at hy3 hy4 ⊢
        have hld : t < 80 → nth (wsv ws) (t * 1) = some (w32 (ws.getD t 0)) := fun h => by
          rw [nth_eq, Nat.mul_one]
          exact wsv_get (by simp [List.getD, show t < ws.length from by omega])
        (repeat' first|refine kX ?_|refine kU fun bk=>?_|refine kV fun hc=>?_|refine kZ (fun hc=>?_) fun hc=>?_|fail)
        · have hk5 : t / 20 = 3 := by omega
          refine WC_drawAll [] mixed ?_
          (refine WR_w 0 ?_; refine WR_w 2 ?_; refine WR_w 4 ?_; refine WR_w 6 ?_; refine WR_w 8 ?_; refine WR_w 9 ?_; refine WR_w 10 ?_)
          refine WR_take 11 rfl rfl (by kernel_rfl) iP iC (EV_loadc rfl (Fnd.there Fnd.here) (hld (by omega))) (by rfl) ?_
          (refine WR_one 1 (by kernel_rfl) rfl rfl ?_)
          refine OW_callP rfl rfl rfl (rol_n _ 5 _ (by omega)) rfl ?_
          refine ⟨iC, ?_⟩
          (refine WR_w 3 ?_; refine WR_w 5 ?_; refine WR_w 7 ?_; refine WR_w 12 ?_; refine WR_w 13 ?_)
          (refine WR_done (by kernel_rfl) ?_)
          (repeat' first|refine kX ?_|refine kU fun bk=>?_|refine kV fun hc=>?_|refine kZ (fun hc=>?_) fun hc=>?_|fail)
          refine OW_callP rfl rfl rfl (rol_n _ 30 _ (by omega)) rfl ?_
          (repeat' first|refine kX ?_|refine kU fun bk=>?_|refine kV fun hc=>?_|refine kZ (fun hc=>?_) fun hc=>?_|fail)
          rw [kind_eq 3 r.a r.b r.c r.d r.e (ws.getD t 0) _ 3395469782#32 rfl]
          refine WQ_round (X := Nat × H5) (μ := fun x => 80 - x.1) (x := (t, r)) (t + 1, rnd 3 r (ws.getD t 0)) (by simp only; omega) ⟨by simp only; omega, by simp only [rounds]; rw [hk5, hy4]⟩ iS (fun w h => h)
        · have hk5 : t / 20 = 2 := by omega
          refine WC_drawAll [] mixed ?_
          (refine WR_w 0 ?_; refine WR_w 2 ?_; refine WR_w 4 ?_; refine WR_w 6 ?_; refine WR_w 8 ?_; refine WR_w 9 ?_; refine WR_w 10 ?_)
          refine WR_take 11 rfl rfl (by kernel_rfl) iP iC (EV_loadc rfl (Fnd.there Fnd.here) (hld (by omega))) (by rfl) ?_
          (refine WR_one 1 (by kernel_rfl) rfl rfl ?_)
          refine OW_callP rfl rfl rfl (rol_n _ 5 _ (by omega)) rfl ?_
          refine ⟨iC, ?_⟩
          (refine WR_w 3 ?_; refine WR_w 5 ?_; refine WR_w 7 ?_; refine WR_w 12 ?_; refine WR_w 13 ?_)
          (refine WR_done (by kernel_rfl) ?_)
          (repeat' first|refine kX ?_|refine kU fun bk=>?_|refine kV fun hc=>?_|refine kZ (fun hc=>?_) fun hc=>?_|fail)
          refine OW_callP rfl rfl rfl (rol_n _ 30 _ (by omega)) rfl ?_
          (repeat' first|refine kX ?_|refine kU fun bk=>?_|refine kV fun hc=>?_|refine kZ (fun hc=>?_) fun hc=>?_|fail)
          rw [kind_eq 2 r.a r.b r.c r.d r.e (ws.getD t 0) _ 2400959708#32 rfl]
          refine WQ_round (X := Nat × H5) (μ := fun x => 80 - x.1) (x := (t, r)) (t + 1, rnd 2 r (ws.getD t 0)) (by simp only; omega) ⟨by simp only; omega, by simp only [rounds]; rw [hk5, hy4]⟩ iS (fun w h => h)
        · have hk5 : t / 20 = 1 := by omega
          refine WC_drawAll [] mixed ?_
          (refine WR_w 0 ?_; refine WR_w 2 ?_; refine WR_w 4 ?_; refine WR_w 6 ?_; refine WR_w 8 ?_; refine WR_w 9 ?_; refine WR_w 10 ?_)
          refine WR_take 11 rfl rfl (by kernel_rfl) iP iC (EV_loadc rfl (Fnd.there Fnd.here) (hld (by omega))) (by rfl) ?_
          (refine WR_one 1 (by kernel_rfl) rfl rfl ?_)
          refine OW_callP rfl rfl rfl (rol_n _ 5 _ (by omega)) rfl ?_
          refine ⟨iC, ?_⟩
          (refine WR_w 3 ?_; refine WR_w 5 ?_; refine WR_w 7 ?_; refine WR_w 12 ?_; refine WR_w 13 ?_)
          (refine WR_done (by kernel_rfl) ?_)
          (repeat' first|refine kX ?_|refine kU fun bk=>?_|refine kV fun hc=>?_|refine kZ (fun hc=>?_) fun hc=>?_|fail)
          refine OW_callP rfl rfl rfl (rol_n _ 30 _ (by omega)) rfl ?_
          (repeat' first|refine kX ?_|refine kU fun bk=>?_|refine kV fun hc=>?_|refine kZ (fun hc=>?_) fun hc=>?_|fail)
          rw [kind_eq 1 r.a r.b r.c r.d r.e (ws.getD t 0) _ 1859775393#32 rfl]
          refine WQ_round (X := Nat × H5) (μ := fun x => 80 - x.1) (x := (t, r)) (t + 1, rnd 1 r (ws.getD t 0)) (by simp only; omega) ⟨by simp only; omega, by simp only [rounds]; rw [hk5, hy4]⟩ iS (fun w h => h)
        · have hk5 : t / 20 = 0 := by omega
          refine WC_drawAll [] mixed ?_
          (refine WR_w 0 ?_; refine WR_w 2 ?_; refine WR_w 4 ?_; refine WR_w 6 ?_; refine WR_w 8 ?_; refine WR_w 9 ?_; refine WR_w 10 ?_)
          refine WR_take 11 rfl rfl (by kernel_rfl) iP iC (EV_loadc rfl (Fnd.there Fnd.here) (hld (by omega))) (by rfl) ?_
          (refine WR_one 1 (by kernel_rfl) rfl rfl ?_)
          refine OW_callP rfl rfl rfl (rol_n _ 5 _ (by omega)) rfl ?_
          refine ⟨iC, ?_⟩
          (refine WR_w 3 ?_; refine WR_w 5 ?_; refine WR_w 7 ?_; refine WR_w 12 ?_; refine WR_w 13 ?_)
          (refine WR_done (by kernel_rfl) ?_)
          (repeat' first|refine kX ?_|refine kU fun bk=>?_|refine kV fun hc=>?_|refine kZ (fun hc=>?_) fun hc=>?_|fail)
          refine OW_callP rfl rfl rfl (rol_n _ 30 _ (by omega)) rfl ?_
          (repeat' first|refine kX ?_|refine kU fun bk=>?_|refine kV fun hc=>?_|refine kZ (fun hc=>?_) fun hc=>?_|fail)
          rw [kind_eq 0 r.a r.b r.c r.d r.e (ws.getD t 0) _ 1518500249#32 rfl]
          refine WQ_round (X := Nat × H5) (μ := fun x => 80 - x.1) (x := (t, r)) (t + 1, rnd 0 r (ws.getD t 0)) (by simp only; omega) ⟨by simp only; omega, by simp only [rounds]; rw [hk5, hy4]⟩ iS (fun w h => h)
        · have ht : t = 80 := by omega
          subst ht
          rw [← hy4] at hch
          refine WC_drawAll [] mixed ?_
          (refine WR_w 0 ?_; refine WR_w 1 ?_; refine WR_w 2 ?_; refine WR_w 3 ?_; refine WR_w 4 ?_; refine WR_w 5 ?_; refine WR_w 6 ?_; refine WR_w 7 ?_; refine WR_w 8 ?_; refine WR_w 9 ?_; refine WR_w 10 ?_; refine WR_w 11 ?_; refine WR_w 12 ?_; refine WR_w 13 ?_; refine WR_w 14 ?_; refine WR_w 15 ?_; refine WR_w 16 ?_; refine WR_w 17 ?_; refine WR_w 18 ?_; refine WR_w 19 ?_; refine WR_w 20 ?_; refine WR_w 21 ?_; refine WR_w 22 ?_; refine WR_w 23 ?_; refine WR_w 24 ?_)
          (refine WR_one 25 (by kernel_rfl) rfl rfl ?_)
          refine OW_buildSlice (cs := hcs (add5 H r)) rfl (by rfl) (by simp [fillL, patch, Value.cells, zeros]; rfl) (by omega) rfl rfl (fun bh2 => ?_)
          refine ⟨iC, ?_⟩
          (refine WR_w 26 ?_)
          (refine WR_done (by kernel_rfl) ?_)
          (repeat' first|refine kX ?_|refine kU fun bk=>?_|refine kV fun hc=>?_|refine kZ (fun hc=>?_) fun hc=>?_|fail)
          refine WQ_round (X := Nat × List Value × Nat) (μ := fun x => m.length - 64 * x.1) (x := (k, wsv ws, bh)) (k + 1, wsv ws, bh2) (by simp only; omega) ⟨by simp only; omega, by rw [wsv_length]; exact hwl⟩ iS (fun w h => by simp only; rw [hch]; exact iH h)
    · have hk : k = m.length / 64 := by omega
      rw [← hk]
      refine OW_call rfl rfl rfl (words_n (hbs (chainN m k)) _ _ (by show 5 ≤ 1000; omega) ⟨sl_cells (c := (hcs (chainN m k)).toArray) (m := 5) Fnd.here rfl (by show (hcs (chainN m k)).take 5 = hcs (chainN m k); rfl), _, _, rfl, Nat.le_refl _⟩) rfl (fun r L' hp => ?_)
      obtain ⟨C2, rfl, ho2⟩ := hp
      (repeat' first|refine kX ?_|refine kU fun bk=>?_|refine kV fun hc=>?_|refine kZ (fun hc=>?_) fun hc=>?_|fail)
      refine kR ?_
      exact ⟨C2 :: L, iC, C2, rfl, ho2⟩
end Go.Proofs.YtlomjmdgcpjepaaGreatDoor
namespace Go.Proofs.YtlomjmdgcpjepaaGreatDoor
open Go Go.Vx
variable [W0]
set_option maxRecDepth 4000
set_option linter.all false
omit [W0] in
/-- A digit's number; -1: it is none. -/
def dv (d : UInt8) : Int := if 48 ≤ d.toNat ∧ d.toNat ≤ 57 then (d.toNat : Int) - 48 else if 97 ≤ d.toNat ∧ d.toNat ≤ 102 then (d.toNat : Int) - 87 else -1
theorem dv_lt (d : UInt8) : dv d < 16 := by
  unfold dv; split
  · omega
  · split <;> omega
theorem dv_dig {i : Nat} (h : i < 16) : dv (dig i) = (i : Int) := by
  have : ∀ i : Fin 16, dv (dig i.val) = (i.val : Int) := by decide
  exact this ⟨i, h⟩
omit [W0] in
def halfV (d : UInt8) : Value := if 0 ≤ dv d then .tuple #[.int .u8 (dv d), .bool true] else .tuple #[.int .u8 0, .bool false]
theorem half_n (d : UInt8) (L : List Chunk) : GvP Tryz.prog 84 [.int .u8 (d.toNat : Int)].toArray L (halfV d) := by
  refine Gv.of_body Tryz.func84 rfl rfl ?_
  have hd := d.toNat_lt
  (repeat' first|refine kX ?_|refine kU fun bk=>?_|refine kV fun hc=>?_|refine kZ (fun hc=>?_) fun hc=>?_|fail)
  · refine OW_EV (EV_ari rfl rfl rfl) rfl ?_
    have e : dv d = (d.toNat : Int) - 48 := by unfold dv; rw [if_pos (by omega)]
    have h0 : halfV d = .tuple #[.int .u8 ((d.toNat : Int) - 48), .bool true] := by unfold halfV; rw [if_pos (by omega), e]
    rw [wrap_u8, show (((d.toNat : Int) - 48) % 256).toNat = (d.toNat - 48 : Nat) from by omega, h0]
    (repeat' first|refine kX ?_|refine kU fun bk=>?_|refine kV fun hc=>?_|refine kZ (fun hc=>?_) fun hc=>?_|fail)
    refine kR ?_
    refine ⟨L, iC, ?_, rfl⟩
    rw [show ((d.toNat - 48 : Nat) : Int) = (d.toNat : Int) - 48 from by omega]
    rfl
  · refine OW_EV (EV_ari rfl rfl rfl) rfl ?_
    have e : dv d = (d.toNat : Int) - 87 := by unfold dv; rw [if_neg (by omega), if_pos (by omega)]
    have h0 : halfV d = .tuple #[.int .u8 ((d.toNat : Int) - 87), .bool true] := by unfold halfV; rw [if_pos (by omega), e]
    rw [wrap_u8, show (((d.toNat : Int) - 97) % 256).toNat = (d.toNat - 97 : Nat) from by omega, h0]
    (repeat' first|refine kX ?_|refine kU fun bk=>?_|refine kV fun hc=>?_|refine kZ (fun hc=>?_) fun hc=>?_|fail)
    refine OW_EV (EV_ari rfl rfl rfl) rfl ?_
    rw [wrap_u8, show ((((d.toNat - 97 : Nat) : Int) + 10) % 256).toNat = (d.toNat - 87 : Nat) from by omega]
    (repeat' first|refine kX ?_|refine kU fun bk=>?_|refine kV fun hc=>?_|refine kZ (fun hc=>?_) fun hc=>?_|fail)
    refine kR ?_
    refine ⟨L, iC, ?_, rfl⟩
    rw [show ((d.toNat - 87 : Nat) : Int) = (d.toNat : Int) - 87 from by omega]
    rfl
  all_goals
    have e : dv d = -1 := by unfold dv; rw [if_neg (by omega), if_neg (by omega)]
    have h0 : halfV d = .tuple #[.int .u8 0, .bool false] := by unfold halfV; rw [if_neg (by omega)]
    rw [h0]
    refine kR ?_
    exact ⟨L, iC, rfl, rfl⟩
end Go.Proofs.YtlomjmdgcpjepaaGreatDoor
namespace Go.Proofs.YtlomjmdgcpjepaaGreatDoor
open Go Go.Vx
variable [W0]
set_option maxRecDepth 4000
set_option linter.all false
omit [W0] in
/-- Two digits, and what they are. -/
def okAt (t : List UInt8) (i : Nat) : Bool := decide (0 ≤ dv (t.getD (2 * i) 0)) && decide (0 ≤ dv (t.getD (2 * i + 1) 0))
omit [W0] in
def byAt (t : List UInt8) (i : Nat) : UInt8 := UInt8.ofNat (16 * (dv (t.getD (2 * i) 0)).toNat + (dv (t.getD (2 * i + 1) 0)).toNat)
omit [W0] in
def outN (t : List UInt8) (k : Nat) : List UInt8 := (List.range k).map (byAt t)
theorem outN_length (t : List UInt8) (k : Nat) : (outN t k).length = k := by simp [outN]
theorem outN_succ (t : List UInt8) (k : Nat) : outN t (k + 1) = outN t k ++ [byAt t k] := by simp [outN, List.range_succ]
omit [W0] in
def unB (t : List UInt8) : Bool := decide (t.length % 2 = 0) && (List.range (t.length / 2)).all (okAt t)
omit [W0] in
def unL (t : List UInt8) : List UInt8 := if unB t then outN t (t.length / 2) else []
theorem unB_odd {t : List UInt8} (h : t.length % 2 ≠ 0) : unB t = false := by simp [unB, h]
theorem unB_bad {t : List UInt8} {i : Nat} (h : i < t.length / 2) (hk : okAt t i = false) : unB t = false := by
  simp only [unB, Bool.and_eq_false_iff]
  refine .inr ?_
  rw [List.all_eq_false]
  exact ⟨i, List.mem_range.2 h, by simp [hk]⟩
theorem unB_good {t : List UInt8} (h : t.length % 2 = 0) (hk : ∀ i, i < t.length / 2 → okAt t i = true) : unB t = true := by
  simp only [unB, h, decide_true, Bool.true_and, List.all_eq_true]
  exact fun i hi => hk i (List.mem_range.1 hi)
theorem halfV_yes {d : UInt8} (h : 0 ≤ dv d) : halfV d = .tuple #[.int .u8 (dv d), .bool true] := if_pos h
theorem halfV_no {d : UInt8} (h : ¬ 0 ≤ dv d) : halfV d = .tuple #[.int .u8 0, .bool false] := if_neg h
theorem byAt_val {t : List UInt8} {i : Nat} (h1 : 0 ≤ dv (t.getD (2 * i) 0)) (h2 : 0 ≤ dv (t.getD (2 * i + 1) 0)) : ((byAt t i).toNat : Int) = 16 * dv (t.getD (2 * i) 0) + dv (t.getD (2 * i + 1) 0) := by
  have a1 := dv_lt (t.getD (2 * i) 0)
  have a2 := dv_lt (t.getD (2 * i + 1) 0)
  simp only [byAt, UInt8.toNat_ofNat']
  omega
theorem halves {a b : Nat} (ha : a < 16) (hb : b < 16) : bitI .or .u8 (IntKind.u8.wrap ((a : Int) * 2 ^ (min ((4 : Int)).toNat IntKind.u8.bits))) (b : Int) = some ((16 * a + b : Nat) : Int) := by
  have : ∀ a b : Fin 16, bitI .or .u8 (IntKind.u8.wrap ((a.val : Int) * 2 ^ (min ((4 : Int)).toNat IntKind.u8.bits))) (b.val : Int) = some ((16 * a.val + b.val : Nat) : Int) := by decide +kernel
  exact this ⟨a, ha⟩ ⟨b, hb⟩
set_option maxHeartbeats 2000000 in
theorem unhex_n (t : List UInt8) (L : List Chunk) (hlen : t.length ≤ 70368744177664) :
    Gv Tryz.prog 59 [.string (str t)].toArray L (fun r L' => ∃ v C, r = .tuple #[v, .bool (unB t)] ∧ L' = C :: L ∧ Ow 5 1 v (unL t).length (bsv (unL t)) C) := by
  refine Gv.of_body Tryz.func59 rfl rfl ?_
  have hno : unB t = false → Ow 5 1 (.slice none 0 0) (unL t).length (bsv (unL t)) [] := fun h => by
    unfold unL; rw [h]; exact .inl ⟨rfl, rfl, rfl, rfl⟩
  (repeat' first|refine kX ?_|refine kU fun bk=>?_|refine kV fun hc=>?_|refine kZ (fun hc=>?_) fun hc=>?_|fail)
  refine OW_EV (EV_rem rfl rfl (by decide)) rfl ?_
  rw [show (((str t).size : Nat) : Int).tmod 2 = ((t.length % 2 : Nat) : Int) from by rw [str_size, Int.tmod_eq_emod_of_nonneg (by omega)]; omega]
  (repeat' first|refine kX ?_|refine kU fun bk=>?_|refine kV fun hc=>?_|refine kZ (fun hc=>?_) fun hc=>?_|fail)
  · have hb := unB_odd (t := t) (by omega)
    refine WQ_holds (L' := [] :: L) (fun w h => Holds.nil.2 h) ?_
    refine kR ?_
    exact ⟨[] :: L, iC, .slice none 0 0, [], by rw [hb]; rfl, rfl, hno hb⟩
  · have hev : t.length % 2 = 0 := by omega
    refine OW_EV (EV_quo rfl rfl (by decide)) rfl ?_
    rw [show IntKind.i64.wrap ((((str t).size : Nat) : Int).tdiv 2) = ((t.length / 2 : Nat) : Int) from by
      rw [str_size, Int.tdiv_eq_ediv_of_nonneg (by omega), wrap_i64 (by omega) (by omega)]; omega]
    (repeat' first|refine kX ?_|refine kU fun bk=>?_|refine kV fun hc=>?_|refine kZ (fun hc=>?_) fun hc=>?_|fail)
    refine OW_makeSlice (m := 0) rfl rfl (by rfl) (by omega) (by omega) (by omega) rfl (fun bn => ?_)
    (repeat' first|refine kX ?_|refine kU fun bk=>?_|refine kV fun hc=>?_|refine kZ (fun hc=>?_) fun hc=>?_|fail)
    have ho : Ow 5 1 (.slice (some ⟨bn, 0, none⟩) 0 (t.length / 2)) 0 (bsv (outN t 0)) [(bn, cl (zeros [.int .u8 0] (t.length / 2)) 5)] :=
      .inr ⟨bn, t.length / 2, zeros [.int .u8 0] (t.length / 2), rfl, rfl, rfl, by simp [zeros_length], by omega, by simp [maxLen]; omega⟩
    refine WC_loop (X := Nat × Value × Chunk) (fun x => [(0, .string (str t)), (4, x.2.1), (5, .int .i64 ((2 * x.1 : Nat) : Int))])
      (fun x => x.2.2 :: L) (fun x => 2 * x.1 ≤ t.length ∧ (∀ i, i < x.1 → okAt t i = true) ∧ Ow 5 1 x.2.1 x.1 (bsv (outN t x.1)) x.2.2) (fun x => t.length - x.1) (0, _, _) ⟨Nat.zero_le _, fun i h => by omega, ho⟩ iS (fun w h => h) ?_
    intro x ⟨hx1, hx2, hx3⟩
    obtain ⟨k, s, C⟩ := x
    simp only at hx1 hx2 hx3 ⊢
    (repeat' first|refine kX ?_|refine kU fun bk=>?_|refine kV fun hc=>?_|refine kZ (fun hc=>?_) fun hc=>?_|fail)
    · rw [str_size] at hc
      have h0 : 2 * k + 1 < t.length := by omega
      obtain ⟨a, haq⟩ : ∃ a, a = t.getD (2 * k) 0 := ⟨_, rfl⟩
      obtain ⟨b, hbq⟩ : ∃ b, b = t.getD (2 * k + 1) 0 := ⟨_, rfl⟩
      have hal := dv_lt a
      have hbl := dv_lt b
      refine OW_EV (EV_indexStr (s := str t) (j := 2 * k) rfl rfl rfl (str_get (by omega))) rfl ?_
      rw [← haq]
      (repeat' first|refine kX ?_|refine kU fun bk=>?_|refine kV fun hc=>?_|refine kZ (fun hc=>?_) fun hc=>?_|fail)
      refine OW_callP rfl rfl rfl (half_n a _) rfl ?_
      by_cases ha : 0 ≤ dv a
      · rw [halfV_yes ha]
        (repeat' first|refine kX ?_|refine kU fun bk=>?_|refine kV fun hc=>?_|refine kZ (fun hc=>?_) fun hc=>?_|fail)
        refine OW_EV (EV_indexStr (s := str t) (j := 2 * k + 1) rfl rfl (by omega) (str_get h0)) rfl ?_
        rw [← hbq]
        (repeat' first|refine kX ?_|refine kU fun bk=>?_|refine kV fun hc=>?_|refine kZ (fun hc=>?_) fun hc=>?_|fail)
        refine OW_callP rfl rfl rfl (half_n b _) rfl ?_
        by_cases hb : 0 ≤ dv b
        · rw [halfV_yes hb]
          have hok : okAt t k = true := by unfold okAt; rw [← haq, ← hbq]; simp [ha, hb]
          have hby := byAt_val (t := t) (i := k) (by rw [← haq]; exact ha) (by rw [← hbq]; exact hb)
          rw [← haq, ← hbq] at hby
          (repeat' first|refine kX ?_|refine kU fun bk=>?_|refine kV fun hc=>?_|refine kZ (fun hc=>?_) fun hc=>?_|fail)
          refine OW_EV (EV_shl rfl rfl (by omega) rfl) rfl ?_
          (repeat' first|refine kX ?_|refine kU fun bk=>?_|refine kV fun hc=>?_|refine kZ (fun hc=>?_) fun hc=>?_|fail)
          have hh : bitI .or .u8 (IntKind.u8.wrap (dv a * 2 ^ (min ((4 : Int)).toNat IntKind.u8.bits))) (dv b) = some ((byAt t k).toNat : Int) := by
            have := halves (a := (dv a).toNat) (b := (dv b).toNat) (by omega) (by omega)
            rw [Int.toNat_of_nonneg ha, Int.toNat_of_nonneg hb] at this
            rw [this]
            congr 1
            omega
          refine OW_EV (EV_bit rfl rfl hh) rfl ?_
          (repeat' first|refine kX ?_|refine kU fun bk=>?_|refine kV fun hc=>?_|refine kZ (fun hc=>?_) fun hc=>?_|fail)
          refine OW_buildSlice (cs := bsv [byAt t k]) rfl (by rfl) (by simp [fillL, patch, Value.cells, zeros]; rfl) (by omega) rfl rfl (fun bk => ?_)
          (repeat' first|refine kX ?_|refine kU fun bk=>?_|refine kV fun hc=>?_|refine kZ (fun hc=>?_) fun hc=>?_|fail)
          refine OW_append rfl rfl hx3 (sl_cells (c := (bsv [byAt t k]).toArray) (xs := bsv [byAt t k]) (m := 1) Fnd.here rfl (by simp)) (by repeat (first | exact Zip.here _ | apply Zip.there)) (by rfl) bsv_ones (by omega) (by simp [maxLen]; omega) rfl (fun v' C' ho1 h1 h2 => ?_)
          rw [← bsv_append, ← outN_succ] at ho1
          (repeat' first|refine kX ?_|refine kU fun bk=>?_|refine kV fun hc=>?_|refine kZ (fun hc=>?_) fun hc=>?_|fail)
          refine WQ_round (X := Nat × Value × Chunk) (μ := fun x => t.length - x.1) (x := (k, s, C)) (k + 1, v', C') (by simp only; omega)
            ⟨by simp only; omega, fun i hi => ?_, ho1⟩ iS (fun w h => iH h)
          rcases Nat.lt_or_ge i k with h' | h'
          · exact hx2 i h'
          · rw [show i = k from by simp only at hi; omega]; exact hok
        · rw [halfV_no hb]
          have hbad := unB_bad (t := t) (i := k) (by omega) (by unfold okAt; rw [← haq, ← hbq, decide_eq_false hb]; simp)
          (repeat' first|refine kX ?_|refine kU fun bk=>?_|refine kV fun hc=>?_|refine kZ (fun hc=>?_) fun hc=>?_|fail)
          refine WQ_holds (L' := [] :: L) (fun w h => Holds.nil.2 h.drop) ?_
          refine kR ?_
          exact ⟨[] :: L, iC, .slice none 0 0, [], by rw [hbad]; rfl, rfl, hno hbad⟩
      · rw [halfV_no ha]
        (repeat' first|refine kX ?_|refine kU fun bk=>?_|refine kV fun hc=>?_|refine kZ (fun hc=>?_) fun hc=>?_|fail)
        refine OW_EV (EV_indexStr (s := str t) (j := 2 * k + 1) rfl rfl (by omega) (str_get h0)) rfl ?_
        rw [← hbq]
        (repeat' first|refine kX ?_|refine kU fun bk=>?_|refine kV fun hc=>?_|refine kZ (fun hc=>?_) fun hc=>?_|fail)
        refine OW_callP rfl rfl rfl (half_n b _) rfl ?_
        have hx : ∃ x y, halfV b = .tuple #[.int .u8 x, .bool y] := by
          unfold halfV; split <;> exact ⟨_, _, rfl⟩
        obtain ⟨x, y, hxy⟩ := hx
        rw [hxy]
        have hbad := unB_bad (t := t) (i := k) (by omega) (by unfold okAt; rw [← haq, ← hbq, decide_eq_false ha]; simp)
        (repeat' first|refine kX ?_|refine kU fun bk=>?_|refine kV fun hc=>?_|refine kZ (fun hc=>?_) fun hc=>?_|fail)
        refine WQ_holds (L' := [] :: L) (fun w h => Holds.nil.2 h.drop) ?_
        refine kR ?_
        exact ⟨[] :: L, iC, .slice none 0 0, [], by rw [hbad]; rfl, rfl, hno hbad⟩
    · rw [str_size] at hc
      have hk : k = t.length / 2 := by omega
      have hb : unB t = true := unB_good hev fun i hi => hx2 i (by omega)
      have hl : unL t = outN t k := by unfold unL; rw [hb, hk]; rfl
      refine kR ?_
      refine ⟨C :: L, iC, s, C, by rw [hb]; rfl, rfl, ?_⟩
      rw [hl, outN_length]
      exact hx3
end Go.Proofs.YtlomjmdgcpjepaaGreatDoor
namespace Go.Proofs.YtlomjmdgcpjepaaGreatDoor
open Go Go.Vx
variable [W0]
set_option maxRecDepth 4000
set_option linter.all false
set_option maxHeartbeats 1000000 in
theorem refhex_n (t : List UInt8) (v : Value) (L : List Chunk) (hlen : t.length ≤ 35184372088832) (hv : SlC L 1 v t.length (bsv t)) :
    GvP Tryz.prog 29 [v].toArray L (.string ⟨(hexL t).toArray⟩) := by
  refine Gv.of_body Tryz.func29 rfl rfl ?_
  obtain ⟨a, c, rfl, hmc⟩ := hv.room
  (repeat' first|refine kX ?_|refine kU fun bk=>?_|refine kV fun hc=>?_|refine kZ (fun hc=>?_) fun hc=>?_|fail)
  refine WC_holds' (L' := [] :: L) (fun w h => Holds.nil.2 h) ?_
  refine WC_loop (X := Nat × Value × Chunk) (fun x => [(0, .slice a t.length c), (3, x.2.1), (4, .int .i64 (x.1 : Int))])
    (fun x => x.2.2 :: L) (fun x => x.1 ≤ t.length ∧ Ow 5 1 x.2.1 (2 * x.1) (bsv (hexL (t.take x.1))) x.2.2) (fun x => t.length - x.1) (0, .slice none 0 0, []) ⟨Nat.zero_le _, .inl ⟨rfl, rfl, rfl, rfl⟩⟩ iS (fun w h => h) ?_
  intro x ⟨hx1, hx2⟩
  obtain ⟨k, s, C⟩ := x
  simp only at hx1 hx2 ⊢
  (repeat' first|refine kX ?_|refine kU fun bk=>?_|refine kV fun hc=>?_|refine kZ (fun hc=>?_) fun hc=>?_|fail)
  · have hlt : k < t.length := by omega
    obtain ⟨bb, off, cap, cc, bT, bfr, hve, hfn, hcell⟩ := sl_byte hv.sl hlt
    injection hve with e1 e2 e3
    subst e1 e3
    clear e2
    obtain ⟨x, hx⟩ : ∃ x, x = t.getD k 0 := ⟨_, rfl⟩
    rw [← hx] at hcell
    have hxl := x.toNat_lt
    refine WC_drawAll [14, 15] mixed ?_
    (refine WR_w 0 ?_; refine WR_w 1 ?_; refine WR_w 2 ?_; refine WR_w 3 ?_)
    (refine WR_take 4 rfl rfl (by kernel_rfl) iP iC (EV_load rfl hfn.there hcell) (by rfl) ?_)
    (refine WR_w 5 ?_)
    (refine WR_take 6 rfl rfl (by kernel_rfl) iP iC (EV_indexStr (s := digS) (j := x.toNat / 16) rfl rfl (by omega) (dig_get (by omega))) (by rfl) ?_)
    (refine WR_w 7 ?_; refine WR_w 8 ?_; refine WR_w 9 ?_)
    (refine WR_take 10 rfl rfl (by kernel_rfl) iP iC (EV_load rfl hfn.there hcell) (by rfl) ?_)
    (refine WR_take 11 rfl rfl (by kernel_rfl) iP iC (EV_mask rfl rfl rfl) (by rfl) ?_)
    (refine WR_take 12 rfl rfl (by kernel_rfl) iP iC (EV_indexStr (s := digS) (j := x.toNat % 16) rfl rfl rfl (dig_get (by omega))) (by rfl) ?_)
    (refine WR_one 13 (by kernel_rfl) rfl rfl ?_)
    refine OW_buildSlice (cs := bsv (hexB x)) rfl (by rfl) (by simp [fillL, patch, Value.cells, zeros]; rfl) (by omega) rfl rfl (fun bk => ?_)
    refine ⟨iC, ?_⟩
    (refine WR_last 14 (by kernel_rfl) rfl rfl rfl ?_)
    refine OW_append rfl rfl hx2 (sl_cells (c := (bsv (hexB x)).toArray) (xs := bsv (hexB x)) (m := 2) Fnd.here rfl (by simp)) (by repeat (first | exact Zip.here _ | apply Zip.there)) (by rfl) bsv_ones (by omega) (by simp [maxLen]; omega) rfl (fun v' C' ho1 h1 h2 => ?_)
    (refine WR_last 15 (by kernel_rfl) rfl rfl rfl ?_)
    refine OW_W ?_
    (refine WR_done (by kernel_rfl) ?_)
    (repeat' first|refine kX ?_|refine kU fun bk=>?_|refine kV fun hc=>?_|refine kZ (fun hc=>?_) fun hc=>?_|fail)
    have e : hexL (t.take (k + 1)) = hexL (t.take k) ++ hexB x := by
      rw [take_succ 0 hlt, hexL_append, ← hx]; simp [hexL]
    rw [← bsv_append, ← e] at ho1
    refine WQ_round (X := Nat × Value × Chunk) (μ := fun x => t.length - x.1) (x := (k, s, C)) (k + 1, v', C') (by simp only; omega) ⟨by simp only; omega, ho1⟩ iS (fun w h => iH h)
  · have hk : k = t.length := by omega
    subst hk
    rw [List.take_length] at hx2
    refine OW_EV (EV_convStr (b := hexL t) rfl (ow_sl hx2)) rfl ?_
    (repeat' first|refine kX ?_|refine kU fun bk=>?_|refine kV fun hc=>?_|refine kZ (fun hc=>?_) fun hc=>?_|fail)
    refine kR ?_
    exact ⟨L, iC, rfl, rfl⟩
theorem hexL_get : ∀ (t : List UInt8) (i : Nat), i < t.length → (hexL t).getD (2 * i) 0 = dig ((t.getD i 0).toNat / 16) ∧ (hexL t).getD (2 * i + 1) 0 = dig ((t.getD i 0).toNat % 16)
  | [], i, h => by simp at h
  | x :: t, 0, _ => ⟨rfl, rfl⟩
  | x :: t, i + 1, h => by
    have ih := hexL_get t i (by simpa using h)
    rw [show 2 * (i + 1) = 2 * i + 1 + 1 from by omega]
    exact ih
theorem unB_hex (t : List UInt8) : unB (hexL t) = true := by
  refine unB_good (by rw [hexL_length]; omega) fun i hi => ?_
  rw [hexL_length] at hi
  obtain ⟨h1, h2⟩ := hexL_get t i (by omega)
  have := (t.getD i 0).toNat_lt
  unfold okAt
  rw [h1, h2, dv_dig (by omega), dv_dig (by omega), decide_eq_true (Int.natCast_nonneg _), decide_eq_true (Int.natCast_nonneg _)]
  rfl
theorem unL_hex (t : List UInt8) : unL (hexL t) = t := by
  unfold unL
  rw [unB_hex, if_pos rfl, hexL_length, show 2 * t.length / 2 = t.length from by omega]
  refine List.ext_getElem (by simp [outN]) fun i h1 h2 => ?_
  simp only [outN, List.getElem_map, List.getElem_range]
  obtain ⟨g1, g2⟩ := hexL_get t i h2
  have hx : t.getD i 0 = t[i] := by simp [List.getD, h2]
  rw [hx] at g1 g2
  have := (t[i]).toNat_lt
  apply UInt8.toNat_inj.1
  unfold byAt
  rw [g1, g2, dv_dig (by omega), dv_dig (by omega)]
  simp only [Int.toNat_natCast, UInt8.toNat_ofNat']
  omega
end Go.Proofs.YtlomjmdgcpjepaaGreatDoor
namespace Go.Vx
open Go
set_option linter.all false
variable [W0]
section
variable {P : Program} {n : Nat} {M : List (Nat × Value)} {L : List Chunk} {K : List (Nat × Value) → List Chunk → Prop}
variable {d : Nat} {ty : TypeId} {ps : String} {af : Array Edge} {g : Option (Nat × Bool)} {x y : Operand} {v : Value}
theorem OW_rangeS {t : TypeId} [hst : ST P t] {s : ByteArray} (hx : ev M x = some (.string s)) (hn : Nat.blt d n = true) (h : ∀ b, K ((d, .pointer (some ⟨b, 0, none⟩)) :: M) ([(b, .stringIter s 0)] :: L)) :
    OW P n ⟨some d, .range t x, ty, ps, af, g⟩ K M L :=
  OW_newval (f := fun b => .pointer (some ⟨b, 0, none⟩)) rfl hn (fun a w ha hw => by
    simp [execOp, Instr.range, ha.eval hx, underlying, hst.out, newObj, Sem.run, Result.andThen]) h
theorem OW_nextS {b pos : Nat} {s : ByteArray} {L' : List Chunk} (hx : ev M x = some (.pointer (some ⟨b, 0, none⟩))) (hp : pos < s.size) (hu : Upd L b (.stringIter s pos) (.stringIter s (pos + (Utf8.decode s pos).2)) L') (hn : Nat.blt d n = true)
    (h : K ((d, .tuple #[.bool true, .int .i64 (pos : Int), .int .i32 ((Utf8.decode s pos).1 : Int)]) :: M) L') :
    OW P n ⟨some d, .next x true, ty, ps, af, g⟩ K M L := ⟨fun a w nx Q ha hw hk => by
  have hb := hu.fnd.get hw
  have hlt : b < w.heap.size := (Array.getElem?_eq_some_iff.1 hb).1
  have hrun : (execOp a.eval ⟨some d, .next x true, ty, ps, af, g⟩).run P w = .ok (.value (.tuple #[.bool true, .int .i64 (pos : Int), .int .i32 ((Utf8.decode s pos).1 : Int)])) { w with heap := w.heap.setIfInBounds b (.stringIter s (pos + (Utf8.decode s pos).2)) } := by
    simp [execOp, ha.eval hx, Instr.next, getObj, setObj, Sem.run, hb, hp, goInt]
  unfold Oper.wp
  rw [hrun, Oper.upon_value]
  refine (hk _ _ h).out _ _ (ha.put _ hn) (hw.upd hu ?_ ?_ rfl rfl)
  · simp [hlt]
  · intro c hc; simp [Ne.symm hc]⟩
theorem EV_endS {b pos : Nat} {s : ByteArray} (hx : ev M x = some (.pointer (some ⟨b, 0, none⟩))) (hf : Fnd L b (.stringIter s pos)) (hp : ¬ pos < s.size) :
    EV P n ⟨some d, .next x true, ty, ps, af, g⟩ M L d (.tuple #[.bool false]) :=
  ⟨rfl, fun a w ha hw => by
    have hb := hf.get hw
    simp [execOp, ha.eval hx, Instr.next, getObj, Sem.run, hb, hp]⟩
end
end Go.Vx
namespace Go.Ob
open Go Go.Lib Go.Vx
set_option linter.all false
set_option maxRecDepth 4000
def sCommit : List UInt8 := [99, 111, 109, 109, 105, 116]
def sTree : List UInt8 := [116, 114, 101, 101]
def sBlob : List UInt8 := [98, 108, 111, 98]
def sTag : List UInt8 := [116, 97, 103]
def wTree : List UInt8 := [116, 114, 101, 101, 32]
def wParent : List UInt8 := [112, 97, 114, 101, 110, 116, 32]
def wAuthor : List UInt8 := [97, 117, 116, 104, 111, 114, 32]
def wCommitter : List UInt8 := [99, 111, 109, 109, 105, 116, 116, 101, 114, 32]
def mFile : List UInt8 := [49, 48, 48, 54, 52, 52]
open Go.Proofs.YtlomjmdgcpjepaaGreatDoor
def nmL : Nat → List UInt8
  | 1 => sCommit
  | 2 => sTree
  | 3 => sBlob
  | 4 => sTag
  | _ => []
def nmI (k : Int) : List UInt8 := if 1 ≤ k ∧ k ≤ 4 then nmL k.toNat else []
def kdL (s : List UInt8) : Nat := if s = sCommit then 1 else if s = sTree then 2 else if s = sBlob then 3 else if s = sTag then 4 else 0
def dgF : Nat → Nat → List UInt8
  | 0, _ => []
  | f + 1, n => if n < 10 then [UInt8.ofNat (48 + n)] else dgF f (n / 10) ++ [UInt8.ofNat (48 + n % 10)]
def dgL (n : Nat) : List UInt8 := dgF 20 n
def hdL (k size : Int) : List UInt8 := nmI k ++ [32] ++ dgL (max size 0).toNat ++ [0]
def idL (k : Int) (body : List UInt8) : List UInt8 := hexL (shaN (hdL k (body.length : Int) ++ body))
def hshB (s : List UInt8) : Bool := decide (s.length = 40) && unB s
def zrL : List UInt8 := List.replicate 40 48
def rawL (s : List UInt8) : List UInt8 := if hshB s then unL s else List.replicate 20 0
def inP (c : Nat) : Bool := decide (c ≠ 60) && decide (c ≠ 62) && decide (c ≠ 10) && decide (c ≠ 0)
def inM (c : Nat) : Bool := decide (c ≠ 0)
def inD (c : Nat) : Bool := decide (48 ≤ c) && decide (c ≤ 57)
def msgB (s : List UInt8) : Bool := consB inM s
def cutN (c : UInt8) : List UInt8 → List UInt8 × List UInt8
  | [] => ([], [])
  | x :: t => if x = c then ([], t) else (x :: (cutN c t).1, (cutN c t).2)
def cutT (a b : UInt8) : List UInt8 → List UInt8 × List UInt8
  | [] => ([], [])
  | x :: t => if x = a ∧ t.head? = some b then ([], t.tail) else (x :: (cutT a b t).1, (cutT a b t).2)
def timB (s : List UInt8) : Bool := decide (s ≠ []) && decide (s.length ≤ 12) && (decide (s.length ≤ 1) || decide (s.getD 0 0 ≠ 48)) && s.all (fun b => inD b.toNat)
def zonB (s : List UInt8) : Bool := decide (s.length = 5) && (decide (s.getD 0 0 = 43) || decide (s.getD 0 0 = 45)) && (s.drop 1).all (fun b => inD b.toNat)
def perB (s : List UInt8) : Bool :=
  let p1 := cutT 32 60 s
  let p2 := cutT 62 32 p1.2
  let p3 := cutN 32 p2.2
  consB inP p1.1 && consB inP p2.1 && timB p3.1 && zonB p3.2
structure Et where
  m : List UInt8
  n : List UInt8
  i : List UInt8
def prE (x : Et) : List UInt8 := x.m ++ [32] ++ x.n ++ [0] ++ rawL x.i
def prT : List Et → List UInt8
  | [] => []
  | x :: r => prE x ++ prT r
theorem prT_app : ∀ a b : List Et, prT (a ++ b) = prT a ++ prT b
  | [], b => rfl
  | x :: r, b => by simp [prT, prT_app r b]
structure Co where
  t : List UInt8
  ps : List (List UInt8)
  a : List UInt8
  c : List UInt8
  m : List UInt8
def lnL (w x : List UInt8) : List UInt8 := w ++ x ++ [10]
def prP : List (List UInt8) → List UInt8
  | [] => []
  | p :: r => lnL wParent p ++ prP r
theorem prP_app : ∀ a b : List (List UInt8), prP (a ++ b) = prP a ++ prP b
  | [], b => rfl
  | x :: r, b => by simp [prP, prP_app r b]
def prC (o : Co) : List UInt8 := lnL wTree o.t ++ prP o.ps ++ lnL wAuthor o.a ++ lnL wCommitter o.c ++ [10] ++ o.m
def vlC (o : Co) : Bool := o.ps.all hshB && hshB o.t && decide o.ps.Nodup && perB o.a && perB o.c && msgB o.m
def trP (w s : List UInt8) : List UInt8 := if w.isPrefixOf s then s.drop w.length else s
def clL (w s : List UInt8) : List UInt8 × List UInt8 := (trP w (cutN 10 s).1, (cutN 10 s).2)
def rdP : Nat → List UInt8 → List (List UInt8) × List UInt8
  | 0, s => ([], s)
  | f + 1, s => if wParent.isPrefixOf s then ((clL wParent s).1 :: (rdP f (clL wParent s).2).1, (rdP f (clL wParent s).2).2) else ([], s)
def rdC (s : List UInt8) : Co :=
  let s1 := clL wTree s
  let s2 := rdP s1.2.length s1.2
  let s3 := clL wAuthor s2.2
  let s4 := clL wCommitter s3.2
  ⟨s1.1, s2.1, s3.1, s4.1, trP [10] s4.2⟩
end Go.Ob
namespace Go.Ob
open Go Go.Lib Go.Vx
set_option linter.all false
set_option maxRecDepth 4000
theorem cutN_spec (c : UInt8) : ∀ s : List UInt8, (c ∉ s ∧ cutN c s = (s, [])) ∨ ∃ a t, c ∉ a ∧ s = a ++ c :: t ∧ cutN c s = (a, t)
  | [] => .inl ⟨by simp, rfl⟩
  | x :: s => by
    unfold cutN
    by_cases hx : x = c
    · subst hx
      exact .inr ⟨[], s, by simp, rfl, by rw [if_pos rfl]⟩
    · rw [if_neg hx]
      rcases cutN_spec c s with ⟨h1, h2⟩ | ⟨a, t, h1, h2, h3⟩
      · exact .inl ⟨by simp [h1, Ne.symm hx], by rw [h2]⟩
      · exact .inr ⟨x :: a, t, by simp [h1, Ne.symm hx], by rw [h2]; rfl, by rw [h3]⟩
theorem cutN_app (c : UInt8) (t : List UInt8) : ∀ a : List UInt8, c ∉ a → cutN c (a ++ c :: t) = (a, t)
  | [], _ => by simp [cutN]
  | x :: a, h => by
    simp only [List.mem_cons, not_or] at h
    simp only [List.cons_append, cutN]
    rw [if_neg (Ne.symm h.1), cutN_app c t a h.2]
theorem cutN_len (c : UInt8) (s : List UInt8) : (cutN c s).2.length ≤ s.length - 1 := by
  rcases cutN_spec c s with ⟨h1, h2⟩ | ⟨a, t, h1, h2, h3⟩
  · rw [h2]; simp
  · rw [h3, h2]; simp only [List.length_append, List.length_cons]; omega
theorem cutT_spec (a b : UInt8) : ∀ s : List UInt8, cutT a b s = (s, []) ∨ ∃ x t, s = x ++ a :: b :: t ∧ cutT a b s = (x, t)
  | [] => .inl rfl
  | x :: s => by
    unfold cutT
    by_cases hx : x = a ∧ s.head? = some b
    · rw [if_pos hx]
      obtain ⟨rfl, hx⟩ := hx
      cases s with
      | nil => simp at hx
      | cons y s =>
        simp only [List.head?_cons, Option.some.injEq] at hx
        subst hx
        exact .inr ⟨[], s, rfl, rfl⟩
    · rw [if_neg hx]
      rcases cutT_spec a b s with h | ⟨y, t, h1, h2⟩
      · left; rw [h]
      · exact .inr ⟨x :: y, t, by rw [h1]; rfl, by rw [h2]⟩
theorem cutT_app (a b : UInt8) (hab : a ≠ b) (t : List UInt8) : ∀ x : List UInt8, b ∉ x → cutT a b (x ++ a :: b :: t) = (x, t)
  | [], _ => by simp [cutT]
  | y :: x, h => by
    simp only [List.mem_cons, not_or] at h
    simp only [List.cons_append, cutT]
    rw [if_neg ?_, cutT_app a b hab t x h.2]
    rintro ⟨_, h2⟩
    cases x with
    | nil => simp at h2; exact hab h2
    | cons z x =>
      simp at h2
      exact h.2 (by rw [h2]; simp)
theorem inP_hi (c : Nat) (h : 128 ≤ c) : inP c = true := by unfold inP; simp; omega
theorem inD_lo (c : Nat) (h : 128 ≤ c) : inD c = false := by unfold inD; simp; omega
theorem consP (l : List UInt8) : consB inP l = (l.all (fun b => inP b.toNat) && validD l) := by unfold consB; rw [rall_hi _ inP_hi]
theorem notin {p : Nat → Bool} {l : List UInt8} (h : l.all (fun b => p b.toNat) = true) (c : UInt8) (hc : p c.toNat = false) : c ∉ l := by
  intro hm
  have := List.all_eq_true.1 h c hm
  rw [hc] at this
  exact absurd this (by decide)
theorem zon_len {z : List UInt8} (h : zonB z = true) : z.length = 5 := by
  unfold zonB at h
  simp only [Bool.and_eq_true, decide_eq_true_eq] at h
  exact h.1.1
theorem tim_dig {q : List UInt8} (h : timB q = true) : q.all (fun b => inD b.toNat) = true := by
  unfold timB at h
  simp only [Bool.and_eq_true] at h
  exact h.2
def PerR (s : List UInt8) : Prop := ∃ n m q z, s = n ++ 32 :: 60 :: (m ++ 62 :: 32 :: (q ++ 32 :: z)) ∧ consB inP n = true ∧ consB inP m = true ∧ timB q = true ∧ zonB z = true
theorem perB_iff (s : List UInt8) : perB s = true ↔ PerR s := by
  unfold perB
  simp only [Bool.and_eq_true]
  constructor
  · rintro ⟨⟨⟨h1, h2⟩, h3⟩, h4⟩
    have hz := zon_len h4
    rcases cutT_spec 32 60 s with e | ⟨n, r, rfl, e⟩
    · rw [e] at hz; simp [cutT, cutN] at hz
    · rw [e] at h1 h2 h3 h4 hz
      simp only at h1 h2 h3 h4 hz
      rcases cutT_spec 62 32 r with e2 | ⟨m, r2, rfl, e2⟩
      · rw [e2] at hz; simp [cutN] at hz
      · rw [e2] at h2 h3 h4 hz
        simp only at h2 h3 h4 hz
        rcases cutN_spec 32 r2 with ⟨_, e3⟩ | ⟨q, z, _, rfl, e3⟩
        · rw [e3] at hz; simp at hz
        · rw [e3] at h3 h4
          exact ⟨n, m, q, z, rfl, h1, h2, h3, h4⟩
  · rintro ⟨n, m, q, z, rfl, h1, h2, h3, h4⟩
    have hn : (60 : UInt8) ∉ n := by rw [consP] at h1; simp only [Bool.and_eq_true] at h1; exact notin h1.1 60 (by decide)
    have hm : (32 : UInt8) ∉ q := notin (tim_dig h3) 32 (by decide)
    rw [cutT_app 32 60 (by decide) _ n hn]
    have hm2 : (62 : UInt8) ∉ m := by rw [consP] at h2; simp only [Bool.and_eq_true] at h2; exact notin h2.1 62 (by decide)
    have : ∀ x : List UInt8, (62 : UInt8) ∉ x → cutT 62 32 (x ++ 62 :: 32 :: (q ++ 32 :: z)) = (x, q ++ 32 :: z) := by
      intro x
      induction x with
      | nil => intro _; simp [cutT]
      | cons y x ih =>
        intro hx
        simp only [List.mem_cons, not_or] at hx
        simp only [List.cons_append, cutT]
        rw [if_neg (fun hh => hx.1 hh.1.symm), ih hx.2]
    simp only [this m hm2, cutN_app 32 z q hm]
    exact ⟨⟨⟨h1, h2⟩, h3⟩, h4⟩
theorem consP_iff (l : List UInt8) : consB inP l = true ↔ (∀ b ∈ l, b ≠ 60 ∧ b ≠ 62 ∧ b ≠ 10 ∧ b ≠ 0) ∧ validD l = true := by
  rw [consP]
  simp only [Bool.and_eq_true, List.all_eq_true]
  refine and_congr_left fun _ => forall_congr' fun b => forall_congr' fun _ => ?_
  unfold inP
  simp only [Bool.and_eq_true, decide_eq_true_eq, and_assoc]
  have q : ∀ y : UInt8, b.toNat ≠ y.toNat ↔ b ≠ y := fun y => not_congr UInt8.toNat_inj
  exact and_congr (q 60) (and_congr (q 62) (and_congr (q 10) (q 0)))
theorem per_nl {s : List UInt8} (h : perB s = true) : (10 : UInt8) ∉ s := by
  obtain ⟨n, m, q, z, rfl, h1, h2, h3, h4⟩ := (perB_iff s).1 h
  rw [consP_iff] at h1 h2
  have hz : (10 : UInt8) ∉ z := by
    unfold zonB at h4
    simp only [Bool.and_eq_true, Bool.or_eq_true, decide_eq_true_eq] at h4
    obtain ⟨⟨h5, h6⟩, h7⟩ := h4
    cases z with
    | nil => simp
    | cons y z =>
      simp only [List.mem_cons, not_or]
      refine ⟨?_, notin h7 10 (by decide)⟩
      rintro rfl
      have h6' : (10 : UInt8) = 43 ∨ (10 : UInt8) = 45 := h6
      revert h6'; decide
  simp only [List.mem_append, List.mem_cons, not_or]
  exact ⟨fun hh => (h1.1 _ hh).2.2.1 rfl, by decide, by decide, fun hh => (h2.1 _ hh).2.2.1 rfl, by decide, by decide, notin (tim_dig h3) 10 (by decide), by decide, hz⟩
end Go.Ob
namespace Go.Vx
open Go Go.Lib Go.RowKit
set_option linter.all false
variable [W0]
omit [W0] in
/-- A slice of bytes of the call's own: none, or a row that may bear a mark. -/
def OwG (e : Nat) (v : Value) (m : Nat) (xs : List Value) (C : Chunk) : Prop := (v = .slice none 0 0 ∧ m = 0 ∧ xs = [] ∧ C = []) ∨ OwF e 1 v m xs C
theorem OwG.nil {e : Nat} : OwG e (.slice none 0 0) 0 [] [] := .inl ⟨rfl, rfl, rfl, rfl⟩
theorem OwG.f {e m : Nat} {v : Value} {xs : List Value} {C : Chunk} (h : OwF e 1 v m xs C) : OwG e v m xs C := .inr h
theorem OwG.ow {e m : Nat} {v : Value} {xs : List Value} {C : Chunk} (h : Ow e 1 v m xs C) : OwG e v m xs C := by
  rcases h with h | ⟨b, cap, rest, rfl, rfl, h1, h2, h3, h4⟩
  · exact .inl h
  · exact .inr ⟨b, cap, rest, (0, 0), rfl, rfl, h1, h2, h3, h4, FrOk.zero _⟩
theorem OwG.sl {e m : Nat} {v : Value} {xs : List Value} {C : Chunk} {L : List Chunk} (h : OwG e v m xs C) : Sl (C :: L) 1 v m xs := by
  rcases h with ⟨rfl, rfl, rfl, rfl⟩ | h
  · exact .inl ⟨0, rfl, rfl, rfl⟩
  · exact owf_sl h
theorem OwG.room {e m : Nat} {v : Value} {xs : List Value} {C : Chunk} (h : OwG e v m xs C) : ∃ a c, v = .slice a m c ∧ m ≤ c := by
  rcases h with ⟨rfl, rfl, rfl, rfl⟩ | ⟨b, cap, rest, fr, rfl, rfl, h1, h2, h3, h4, _⟩
  · exact ⟨_, _, rfl, Nat.le_refl _⟩
  · exact ⟨_, _, rfl, h3⟩
theorem OwG.len {e m : Nat} {v : Value} {xs : List Value} {C : Chunk} (h : OwG e v m xs C) : xs.length = m := by
  rcases h with ⟨rfl, rfl, rfl, rfl⟩ | ⟨b, cap, rest, fr, rfl, rfl, h1, h2, h3, h4, _⟩
  · rfl
  · simpa using h1
section
variable {P : Program} {n : Nat} {M : List (Nat × Value)} {L : List Chunk} {K : List (Nat × Value) → List Chunk → Prop}
variable {d : Nat} {ty : TypeId} {ps : String} {af : Array Edge} {g : Option (Nat × Bool)} {x y : Operand} {v : Value}
theorem OW_appG {t e by_ : Nat} [hs : SL P t e 1 by_] {z : Value} [hz : ZV P e z] {v r : Value} {m c : Nat} {xs ys : List Value} {C : Chunk} {A B : List Chunk} (hx : ev M x = some v) (hy : ev M y = some r) (hown : OwG e v m xs C)
    (hsl : Sl L 1 r c ys) (hzip : Zip C L A B) (hzk : z.cells.size = 1) (h1 : ones ys = true) (hb : (m + c) * by_ ≤ 140737488355328) (h63 : m + c ≤ maxLen)
    (hn : Nat.blt d n = true) (h : ∀ v' C', OwG e v' (m + c) (xs ++ ys) C' → K ((d, v') :: M) (A ++ C' :: B)) :
    OW P n ⟨some d, .call ⟨.builtin .append, #[x, y], #[t, t]⟩, ty, ps, af, g⟩ K M L := by
  rcases hown with ⟨rfl, rfl, rfl, rfl⟩ | hown
  · exact OW_append hx hy (.inl ⟨rfl, rfl, rfl, rfl⟩) hsl hzip hzk h1 hb h63 hn (fun v' C' ho _ _ => h v' C' (OwG.ow ho))
  · exact OW_appendF hx hy hown hsl hzip hzk h1 hb h63 hn (fun v' C' ho => h v' C' (.inr ho))
omit [W0] in
theorem strCells_bsv (q : ByteArray) : strCells q = bsv q.data.toList := rfl
theorem OW_appGS {t s e by_ : Nat} [hs : SL P t e 1 by_] [hst : ST P s] [hz : ZV P e (.int .u8 0)] {v : Value} {m : Nat} {xs : List Value} {C : Chunk} {A B : List Chunk} {q : ByteArray} (hx : ev M x = some v) (hy : ev M y = some (.string q)) (hown : OwG e v m xs C)
    (hzip : Zip C L A B) (hb : (m + q.size) * by_ ≤ 140737488355328) (h63 : m + q.size ≤ maxLen)
    (hn : Nat.blt d n = true) (h : ∀ v' C', OwG e v' (m + q.size) (xs ++ bsv q.data.toList) C' → K ((d, v') :: M) (A ++ C' :: B)) :
    OW P n ⟨some d, .call ⟨.builtin .append, #[x, y], #[t, s]⟩, ty, ps, af, g⟩ K M L := ⟨fun a w next Q ha hw0 hk => by
  have hL := hzip.eq
  subst hL
  have hw := hw0.perm List.perm_middle
  obtain ⟨ht, i, hi, hik, hib, hk0⟩ := hs.parts
  have hu := hst.out
  have hzz : i.zero = some (.int .u8 0) := by have := hz.out; rw [hi] at this; simpa using this
  subst hib
  have hsmall : m + q.size ≤ 9223372036854775807 := by simpa [maxLen] using h63
  have main : ∃ v' C' w', (Builtin.append_ #[t, s] ty #[v, .string q]).run P w = .ok v' w' ∧ OwG e v' (m + q.size) (xs ++ bsv q.data.toList) C' ∧ Holds w' (C' :: (A ++ B)) := by
    rcases hown with ⟨rfl, rfl, rfl, rfl⟩ | ⟨b, cap, rest, fr, rfl, rfl, hxl, hrl, hmc, hcm, hfr⟩
    · by_cases hm : q.size = 0
      · have hn : strCells q = [] := List.eq_nil_of_length_eq_zero (by rw [strCells_length]; exact hm)
        refine ⟨.slice none 0 0, [], w, ?_, ?_, hw⟩
        · have hf := run_firstCells_string (P := P) w 1 q
          rw [hm] at hf
          simp [Builtin.append_, run_underlying ht, run_underlying hu, sizeOf, typeInfo, hi, hik, Builtin.lenOf, hm, hf]
        · rw [← strCells_bsv, hn, hm]; exact OwG.nil
      · have hr := run_append_nil_string (P := P) w t s ty e i (.int .u8 0) ht hu hi hzz q (by omega) (by omega) (by have h2 := hb; simp only [Nat.zero_add] at h2; omega)
        have e0 : (q.data.map fun b => Value.int .u8 b.toNat) = (strCells q).toArray := by
          apply Array.ext'
          simp [strCells]
        rw [e0] at hr
        refine ⟨_, [(w.heap.size, .cells (bsv q.data.toList ++ (Builtin.zeroCells (Value.int .u8 0).cells (grownCap w q.size 0 e - q.size)).toList).toArray e (0, 0))], _, hr, .inr ⟨w.heap.size, grownCap w q.size 0 e, (Builtin.zeroCells (Value.int .u8 0).cells (grownCap w q.size 0 e - q.size)).toList, (0, 0), by rw [Nat.zero_add], rfl, ?_, ?_, ?_, grownCap_le_maxLen w q.size 0 e (by omega), FrOk.zero _⟩, ?_⟩
        · rw [List.nil_append, ← strCells_bsv, strCells_length]; omega
        · simp [size_zeroCells, Value.cells]
        · rw [Nat.zero_add]; exact grownCap_ge w q.size 0 e
        · have h0 := (hw.drop.same (w' := w.drew) rfl rfl rfl).alloc (.cells ((strCells q).toArray ++ Builtin.zeroCells (Value.int .u8 0).cells (grownCap w q.size 0 e - q.size)) e)
          have e1 : (bsv q.data.toList ++ (Builtin.zeroCells (Value.int .u8 0).cells (grownCap w q.size 0 e - q.size)).toList).toArray = (strCells q).toArray ++ Builtin.zeroCells (Value.int .u8 0).cells (grownCap w q.size 0 e - q.size) := by
            apply Array.ext'; simp [strCells_bsv]
          rw [e1]; exact h0
    · have hfnd : w.heap[b]? = some (.cells (xs ++ rest).toArray e fr) := (Fnd.here : Fnd ([(b, .cells (xs ++ rest).toArray e fr)] :: (A ++ B)) b _).get hw
      by_cases hroom : m + q.size ≤ cap
      · have hxl' : xs.length = m := by simpa using hxl
        have hrl' : rest.length = cap - m := by simpa using hrl
        have hlen : m + (strCells q).length ≤ (xs ++ rest).length := by
          simp only [List.length_append, hxl', hrl', strCells_length]; omega
        have hf := run_firstCells_string (P := P) w 1 q
        have hst := run_storeCells_cells (P := P) b m (strCells q) 0 w
          (fun j hj => by rw [cell_of hfnd]; simp; simp at hlen; omega)
          (fun j hj => by
            have := hfr (m + 0 + j) (by omega)
            simp only [World.frozen?, hfnd]
            cases hd : (decide (fr.1 ≤ m + 0 + j) && decide (m + 0 + j < fr.2)) with
            | false => simpa using hd
            | true => simp at hd; exact absurd (by simpa using hd) this)
          (strCells_oneCell q)
        simp only [Nat.add_zero] at hst
        have hr : (Builtin.append_ #[t, s] ty #[.slice (some ⟨b, 0, none⟩) m cap, .string q]).run P w = .ok (.slice (some ⟨b, 0, none⟩) (m + q.size) cap) (w.setCells b m (strCells q)) := by
          simp [Builtin.append_, run_underlying ht, run_underlying hu, sizeOf, typeInfo, hi, hik, Builtin.lenOf, hroom, hf, Addr.add_lit, hst]
        have hx1 : patch (xs ++ rest).toArray.toList m (strCells q) = (xs ++ bsv q.data.toList) ++ rest.drop (strCells q).length := by
          simp only [List.toList_toArray, patch]
          rw [← hxl', List.take_left]
          congr 1
          rw [List.drop_append]
          simp
        have hat := setCells_at (T := e) (fr := fr) (strCells q) m _ w hfnd (by simpa using hlen)
        rw [hx1] at hat
        refine ⟨_, [(b, .cells ((xs ++ bsv q.data.toList) ++ rest.drop (strCells q).length).toArray e fr)], _, hr, .inr ⟨b, cap, rest.drop (strCells q).length, fr, rfl, rfl, ?_, ?_, hroom, hcm, ?_⟩, ?_⟩
        · rw [List.length_append, hxl', ← strCells_bsv, strCells_length]; omega
        · rw [List.length_drop, hrl', strCells_length]; omega
        · intro j hj
          refine hfr j ?_
          simp only [List.length_append, List.length_drop, ← strCells_bsv] at hj hlen ⊢
          omega
        · exact hw.upd .here hat (fun q hq => setCells_ne _ _ _ _ hq) (setCells_out _ _ _).1 (setCells_out _ _ _).2
      · have hrd0 : RdAt ([(b, .cells (xs ++ rest).toArray e fr)] :: (A ++ B)) ⟨b, 0, none⟩ xs := .inr ⟨b, 0, _, _, _, rfl, .here, fun j u hj => by rw [Nat.zero_add]; simpa using getE_app hj⟩
        have hr := run_append_grow_string (P := P) w t s ty e i (.int .u8 0) ht hu hi hzz ⟨b, 0, none⟩ m cap xs (by rw [hik]; exact hxl) (hrd0.cells hw) q (by omega) (by omega) (growslice_fits (by omega) hb)
        refine ⟨_, [(w.heap.size, .cells ((xs ++ bsv q.data.toList) ++ (Builtin.zeroCells (Value.int .u8 0).cells (grownCap w (m + q.size) cap e - (m + q.size))).toList).toArray e (0, 0))], _, hr, .inr ⟨w.heap.size, _, _, (0, 0), rfl, rfl, ?_, ?_, grownCap_ge w (m + q.size) cap e, grownCap_le_maxLen w (m + q.size) cap e h63, FrOk.zero _⟩, ?_⟩
        · have hxl' : xs.length = m := by simpa using hxl
          rw [List.length_append, hxl', ← strCells_bsv, strCells_length]; omega
        · simp [size_zeroCells, Value.cells]
        · have h0 := (hw.drop.same (w' := w.drew) rfl rfl rfl).alloc (.cells (xs.toArray ++ (strCells q).toArray ++ Builtin.zeroCells (Value.int .u8 0).cells (grownCap w (m + q.size) cap e - (m + q.size))) e)
          have e1 : (xs ++ bsv q.data.toList ++ (Builtin.zeroCells (Value.int .u8 0).cells (grownCap w (m + q.size) cap e - (m + q.size))).toList).toArray = xs.toArray ++ (strCells q).toArray ++ Builtin.zeroCells (Value.int .u8 0).cells (grownCap w (m + q.size) cap e - (m + q.size)) := by
            apply Array.ext'; simp [strCells_bsv]
          rw [e1]; exact h0
  obtain ⟨v', C', w', hr, ho, hw'⟩ := main
  unfold Oper.wp
  have hrun : (execOp a.eval ⟨some d, .call ⟨.builtin .append, #[x, y], #[t, s]⟩, ty, ps, af, g⟩).run P w = .ok (.value v') w' := by
    simp only [execOp, resolve, invoke, builtin, Sem.run_bind, Sem.run_pure, Result.andThen_ok, List.map_toArray, List.map_cons, List.map_nil, ha.eval hx, ha.eval hy, hr]
  rw [hrun, Oper.upon_value]
  exact (hk _ _ (h v' C' ho)).out _ _ (ha.put v' hn) (hw'.perm List.perm_middle.symm)⟩
end
end Go.Vx
namespace Go.Ob
open Go Go.Vx Go.Proofs.YtlomjmdgcpjepaaGreatDoor Go.Lib
set_option linter.all false
variable [W0]
theorem str_app (a b : List UInt8) : str a ++ str b = str (a ++ b) := by
  apply ByteArray.ext
  simp [str]
theorem str_inj {a b : List UInt8} : str a = str b ↔ a = b := by
  constructor
  · intro h
    have := congrArg (fun s => s.data.toList) h
    simpa [str] using this
  · rintro rfl; rfl
theorem str_ext (t : List UInt8) (l h : Nat) : (str t).extract l h = str ((t.drop l).take (h - l)) := by
  apply ByteArray.ext
  apply Array.ext'
  simp [str, List.drop_take]
theorem str_dec (t : List UInt8) (pos : Nat) : Utf8.decode (str t) pos = decodeL (t.drop pos) := (decodeL_drop (str t) pos).symm
section
variable {P : Program} {n : Nat} {M : List (Nat × Value)} {L : List Chunk} {K : List (Nat × Value) → List Chunk → Prop}
variable {d : Nat} {ty : TypeId} {ps : String} {af : Array Edge} {g : Option (Nat × Bool)} {x y : Operand} {v : Value}
theorem EV_catL (a b : List UInt8) {t u : TypeId} (hx : ev M x = some (.string (str a))) (hy : ev M y = some (.string (str b))) (hs : a.length + b.length ≤ 9223372036854775807) :
    EV P n ⟨some d, .binOp .add t x y u, ty, ps, af, g⟩ M L d (.string (str (a ++ b))) := by
  have := EV_strCat (P := P) (n := n) (M := M) (L := L) (d := d) (ty := ty) (ps := ps) (af := af) (g := g) (t := t) (u := u) hx hy (by simpa [str_size] using hs)
  rw [str_app] at this
  exact this
theorem EV_cutL (t : List UInt8) (l h : Nat) {T : Nat} [hs : ST P T] {lo hi : Option Operand} (hx : ev M x = some (.string (str t))) (hl : bnd M lo 0 = some (l : Int)) (hh : bnd M hi t.length = some (h : Int))
    (h1 : l ≤ h) (h2 : h ≤ t.length) : EV P n ⟨some d, .slice T x lo hi none, ty, ps, af, g⟩ M L d (.string (str ((t.drop l).take (h - l)))) := by
  have := EV_sliceStr (P := P) (n := n) (M := M) (L := L) (d := d) (ty := ty) (ps := ps) (af := af) (g := g) (T := T) hx hl hh h1 h2
  rw [str_ext] at this
  exact this
end
omit [W0] in
theorem kdL_hit {k : Nat} (h1 : 1 ≤ k) (h2 : k ≤ 4) : kdL (nmL k) = k := by
  match k, h1, h2 with
  | 1, _, _ => decide
  | 2, _, _ => decide
  | 3, _, _ => decide
  | 4, _, _ => decide
omit [W0] in
theorem kdL_miss {s : List UInt8} (h : ∀ j, 1 ≤ j → j ≤ 4 → nmL j ≠ s) : kdL s = 0 := by
  have h1 := h 1 (by decide) (by decide)
  have h2 := h 2 (by decide) (by decide)
  have h3 := h 3 (by decide) (by decide)
  have h4 := h 4 (by decide) (by decide)
  unfold kdL
  exact (if_neg (Ne.symm h1)).trans ((if_neg (Ne.symm h2)).trans ((if_neg (Ne.symm h3)).trans (if_neg (Ne.symm h4))))
omit [W0] in
theorem nmI_nat {k : Nat} (h1 : 1 ≤ k) (h2 : k ≤ 4) : nmI (k : Int) = nmL k := by
  unfold nmI
  rw [if_pos (by omega)]
  rfl
omit [W0] in
theorem nmI_no {k : Int} (h : ¬ (1 ≤ k ∧ k ≤ 4)) : nmI k = [] := if_neg h
omit [W0] in
theorem nmI_len (k : Int) : (nmI k).length ≤ 6 := by
  unfold nmI
  split
  · rename_i h
    obtain ⟨n, rfl⟩ : ∃ n : Nat, k = n := ⟨k.toNat, by omega⟩
    match n, h with
    | 1, _ => decide
    | 2, _ => decide
    | 3, _ => decide
    | 4, _ => decide
    | 0, h => exact absurd h.1 (by decide)
    | n + 5, h => omega
  · exact Nat.zero_le _
end Go.Ob
namespace Go.Proofs.YtlomjmdgcpjepaaGreatDoor
open Go Go.Vx Go.Ob
set_option linter.all false
variable [W0]
set_option maxRecDepth 4000
theorem obname_n (k : Int) (L : List Chunk) : GvP Tryz.prog 56 [.int .i64 k].toArray L (.string (str (nmI k))) := by
  refine Gv.of_body Tryz.func56 rfl rfl ?_
  (repeat' first|refine kW ?_|refine kU fun bk=>?_|refine kV fun hc=>?_|refine kZ (fun hc=>?_) fun hc=>?_|fail)
  · subst hc; exact kE
  · subst hc; exact kE
  · subst hc; exact kE
  · subst hc; exact kE
  · refine kR ?_
    exact ⟨_, iC, by rw [nmI_no (by omega)]; rfl, rfl⟩
theorem obkind_n (s : List UInt8) (L : List Chunk) : GvP Tryz.prog 44 [.string (str s)].toArray L (.tuple #[.int .i64 (kdL s : Int), .bool (decide (kdL s ≠ 0))]) := by
  refine Gv.of_body Tryz.func44 rfl rfl ?_
  (repeat' first|refine kW ?_|refine kU fun bk=>?_|refine kV fun hc=>?_|refine kZ (fun hc=>?_) fun hc=>?_|fail)
  refine WC_loop (X := Nat) (fun k => [(0, .string (str s)), (4, .int .i64 (k : Int))]) (fun _ => L) (fun k => 1 ≤ k ∧ k ≤ 5 ∧ ∀ j, 1 ≤ j → j < k → nmL j ≠ s) (fun k => 5 - k) 1 ⟨by omega, by omega, fun j h1 h2 => by omega⟩ iS (fun w h => h) ?_
  intro k ⟨h1, h2, h3⟩
  (repeat' first|refine kW ?_|refine kU fun bk=>?_|refine kV fun hc=>?_|refine kZ (fun hc=>?_) fun hc=>?_|fail)
  · refine OW_callP rfl rfl rfl (obname_n _ _) rfl ?_
    rw [nmI_nat h1 (by omega)]
    (repeat' first|refine kW ?_|refine kU fun bk=>?_|refine kV fun hc=>?_|refine kZ (fun hc=>?_) fun hc=>?_|fail)
    (repeat' first|refine kW ?_|refine kU fun bk=>?_|refine kV fun hc=>?_|refine kZ (fun hc=>?_) fun hc=>?_|fail)
    · have hc := str_inj.1 hc
      refine kR ?_
      refine ⟨_, iC, ?_, rfl⟩
      rw [← hc, kdL_hit h1 (by omega), decide_eq_true (by omega)]
      rfl
    · refine WQ_round (X := Nat) (μ := fun k => 5 - k) (x := k) (k + 1) (by omega) ⟨by omega, by omega, fun j g1 g2 => ?_⟩ iS (fun w h => h)
      rcases Nat.lt_or_ge j k with h | h
      · exact h3 j g1 h
      · rw [show j = k from by omega]; exact fun hh => hc (str_inj.2 hh)
  · refine kR ?_
    refine ⟨_, iC, ?_, rfl⟩
    rw [kdL_miss (fun j g1 g2 => h3 j g1 (by omega))]
    rfl
theorem refname_n (k : Int) (L : List Chunk) : GvP Tryz.prog 62 [.int .i64 k].toArray L (.string (str (nmI k))) := by
  refine Gv.of_body Tryz.func62 rfl rfl ?_
  (repeat' first|refine kW ?_|refine kU fun bk=>?_|refine kV fun hc=>?_|refine kZ (fun hc=>?_) fun hc=>?_|fail)
  refine OW_buildSlice (cs := [.string (str (nmL 0)), .string (str (nmL 1)), .string (str (nmL 2)), .string (str (nmL 3)), .string (str (nmL 4))]) rfl (by rfl) (by simp [fillL, patch, Value.cells, zeros]; exact ⟨rfl, rfl, rfl, rfl, rfl⟩) (by omega) rfl rfl (fun bn => ?_)
  (repeat' first|refine kW ?_|refine kU fun bk=>?_|refine kV fun hc=>?_|refine kZ (fun hc=>?_) fun hc=>?_|fail)
  · refine kR ?_
    exact ⟨_, iC, by rw [nmI_no (by omega)]; rfl, rfl⟩
  · refine kR ?_
    exact ⟨_, iC, by rw [nmI_no (by omega)]; rfl, rfl⟩
  · obtain ⟨j, rfl⟩ : ∃ j : Nat, k = j := ⟨k.toNat, by omega⟩
    have hj : j < 5 := by omega
    refine OW_EV (EV_indexAddr0 (j := j) rfl rfl rfl hj) rfl ?_
    (repeat' first|refine kW ?_|refine kU fun bk=>?_|refine kV fun hc=>?_|refine kZ (fun hc=>?_) fun hc=>?_|fail)
    refine OW_EV (v := .string (str (nmI (j : Int)))) (EV_loadc rfl Fnd.here (by
      match j, hj with
      | 0, _ => rfl
      | 1, _ => rfl
      | 2, _ => rfl
      | 3, _ => rfl
      | 4, _ => rfl)) rfl ?_
    (repeat' first|refine kW ?_|refine kU fun bk=>?_|refine kV fun hc=>?_|refine kZ (fun hc=>?_) fun hc=>?_|fail)
    exact kE
end Go.Proofs.YtlomjmdgcpjepaaGreatDoor
namespace Go.Proofs.YtlomjmdgcpjepaaGreatDoor
open Go Go.Shelf Go.Proofs
set_option linter.all false
set_option maxRecDepth 100000
def sh_v_ren : Go.Shelf.Ren :=
  {
    f := fun x =>
      match x with
      | 196 => 67
      | 259 => 88
      | n => n,
    t := fun x =>
      match x with
      | 9 => 9
      | 4 => 4
      | 3 => 3
      | 5 => 5
      | 12 => 12
      | 119 => 121
      | 0 => 0
      | 46 => 93
      | 139 => 124
      | 138 => 123
      | 53 => 100
      | n => n,
    g := fun x =>
      match x with
      | 3 => 0
      | 4 => 1
      | n => n }
theorem sh_v : Go.Proofs.Lays.n196 Go.Proofs.Tryz.prog sh_v_ren :=
  { mixed := by kernel_rfl,
    f196 := Eq.trans Go.Proofs.Tryz.func67 (congrArg Option.some (Eq.refl (Go.Proofs.Body.n196 sh_v_ren))),
    f259 := Eq.trans Go.Proofs.Tryz.func88 (congrArg Option.some (Eq.refl (Go.Proofs.Body.n259 sh_v_ren))),
    t0 := Go.Proofs.Tryz.underlying0, a0 := Go.Proofs.Tryz.isAgg0, z0 := Go.Proofs.Tryz.sizeOf0,
    v0 := Go.Proofs.Tryz.zeroValue0, t3 := Go.Proofs.Tryz.underlying3, a3 := Go.Proofs.Tryz.isAgg3,
    z3 := Go.Proofs.Tryz.sizeOf3, v3 := Go.Proofs.Tryz.zeroValue3, t4 := Go.Proofs.Tryz.underlying4,
    a4 := Go.Proofs.Tryz.isAgg4, z4 := Go.Proofs.Tryz.sizeOf4, v4 := Go.Proofs.Tryz.zeroValue4,
    t5 := Go.Proofs.Tryz.underlying5, a5 := Go.Proofs.Tryz.isAgg5, z5 := Go.Proofs.Tryz.sizeOf5,
    v5 := Go.Proofs.Tryz.zeroValue5, t9 := Go.Proofs.Tryz.underlying9, a9 := Go.Proofs.Tryz.isAgg9,
    z9 := Go.Proofs.Tryz.sizeOf9, v9 := Go.Proofs.Tryz.zeroValue9, t12 := Go.Proofs.Tryz.underlying12,
    a12 := Go.Proofs.Tryz.isAgg12, z12 := Go.Proofs.Tryz.sizeOf12, v12 := Go.Proofs.Tryz.zeroValue12,
    t46 := Go.Proofs.Tryz.underlying93, a46 := Go.Proofs.Tryz.isAgg93, z46 := Go.Proofs.Tryz.sizeOf93,
    v46 := Go.Proofs.Tryz.zeroValue93, t53 := Go.Proofs.Tryz.underlying100, a53 := Go.Proofs.Tryz.isAgg100,
    z53 := Go.Proofs.Tryz.sizeOf100, v53 := Go.Proofs.Tryz.zeroValue100, t119 := Go.Proofs.Tryz.underlying121,
    a119 := Go.Proofs.Tryz.isAgg121, z119 := Go.Proofs.Tryz.sizeOf121, t138 := Go.Proofs.Tryz.underlying123,
    a138 := Go.Proofs.Tryz.isAgg123, z138 := Go.Proofs.Tryz.sizeOf123, v138 := Go.Proofs.Tryz.zeroValue123,
    t139 := Go.Proofs.Tryz.underlying124, a139 := Go.Proofs.Tryz.isAgg124, z139 := Go.Proofs.Tryz.sizeOf124,
    v139 := Go.Proofs.Tryz.zeroValue124, g3 := by kernel_rfl,
    g4 := by kernel_rfl }
def sh_c_ren : Go.Shelf.Ren :=
  {
    f := fun x =>
      match x with
      | 145 => 39
      | 220 => 66
      | 219 => 87
      | 217 => 99
      | 225 => 100
      | 224 => 101
      | 267 => 102
      | 266 => 112
      | 314 => 113
      | n => n,
    t := fun x =>
      match x with
      | 9 => 9
      | 4 => 4
      | 59 => 78
      | 3 => 3
      | 5 => 5
      | 46 => 93
      | 146 => 141
      | 51 => 102
      | n => n,
    g := fun x =>
      match x with
      | 1 => 2
      | n => n }
theorem sh_c : Go.Proofs.Lays.n145 Go.Proofs.Tryz.prog sh_c_ren :=
  { mixed := by kernel_rfl,
    f145 := Eq.trans Go.Proofs.Tryz.func39 (congrArg Option.some (Eq.refl (Go.Proofs.Body.n145 sh_c_ren))),
    f217 := Eq.trans Go.Proofs.Tryz.func99 (congrArg Option.some (Eq.refl (Go.Proofs.Body.n217 sh_c_ren))),
    f219 := Eq.trans Go.Proofs.Tryz.func87 (congrArg Option.some (Eq.refl (Go.Proofs.Body.n219 sh_c_ren))),
    f220 := Eq.trans Go.Proofs.Tryz.func66 (congrArg Option.some (Eq.refl (Go.Proofs.Body.n220 sh_c_ren))),
    f224 :=
      Eq.trans Go.Proofs.Tryz.func101 (congrArg Option.some (Eq.refl (Go.Proofs.Body.n224 sh_c_ren))),
    f225 :=
      Eq.trans Go.Proofs.Tryz.func100 (congrArg Option.some (Eq.refl (Go.Proofs.Body.n225 sh_c_ren))),
    f266 :=
      Eq.trans Go.Proofs.Tryz.func112 (congrArg Option.some (Eq.refl (Go.Proofs.Body.n266 sh_c_ren))),
    f267 :=
      Eq.trans Go.Proofs.Tryz.func102 (congrArg Option.some (Eq.refl (Go.Proofs.Body.n267 sh_c_ren))),
    f314 :=
      Eq.trans Go.Proofs.Tryz.func113 (congrArg Option.some (Eq.refl (Go.Proofs.Body.n314 sh_c_ren))),
    t3 := Go.Proofs.Tryz.underlying3, a3 := Go.Proofs.Tryz.isAgg3, z3 := Go.Proofs.Tryz.sizeOf3,
    v3 := Go.Proofs.Tryz.zeroValue3, t4 := Go.Proofs.Tryz.underlying4, a4 := Go.Proofs.Tryz.isAgg4,
    z4 := Go.Proofs.Tryz.sizeOf4, v4 := Go.Proofs.Tryz.zeroValue4, t5 := Go.Proofs.Tryz.underlying5,
    a5 := Go.Proofs.Tryz.isAgg5, z5 := Go.Proofs.Tryz.sizeOf5, v5 := Go.Proofs.Tryz.zeroValue5,
    t9 := Go.Proofs.Tryz.underlying9, a9 := Go.Proofs.Tryz.isAgg9, z9 := Go.Proofs.Tryz.sizeOf9,
    v9 := Go.Proofs.Tryz.zeroValue9, t46 := Go.Proofs.Tryz.underlying93, a46 := Go.Proofs.Tryz.isAgg93,
    z46 := Go.Proofs.Tryz.sizeOf93, v46 := Go.Proofs.Tryz.zeroValue93, t51 := Go.Proofs.Tryz.underlying102,
    a51 := Go.Proofs.Tryz.isAgg102, z51 := Go.Proofs.Tryz.sizeOf102, v51 := Go.Proofs.Tryz.zeroValue102,
    t59 := Go.Proofs.Tryz.underlying78, a59 := Go.Proofs.Tryz.isAgg78, z59 := Go.Proofs.Tryz.sizeOf78,
    v59 := Go.Proofs.Tryz.zeroValue78, t146 := Go.Proofs.Tryz.underlying141, a146 := Go.Proofs.Tryz.isAgg141,
    z146 := Go.Proofs.Tryz.sizeOf141, v146 := Go.Proofs.Tryz.zeroValue141,
    g1 := by kernel_rfl }
def sh_s_ren : Go.Shelf.Ren :=
  {
    f := fun x =>
      match x with
      | 283 => 108
      | n => n,
    t := fun x =>
      match x with
      | 3 => 3
      | 9 => 9
      | 4 => 4
      | n => n,
    g := fun x =>
      have n := x;
      n }
theorem sh_s : Go.Proofs.Lays.n283 Go.Proofs.Tryz.prog sh_s_ren :=
  { mixed := by kernel_rfl,
    f283 :=
      Eq.trans Go.Proofs.Tryz.func108 (congrArg Option.some (Eq.refl (Go.Proofs.Body.n283 sh_s_ren))),
    t3 := Go.Proofs.Tryz.underlying3, a3 := Go.Proofs.Tryz.isAgg3, z3 := Go.Proofs.Tryz.sizeOf3,
    v3 := Go.Proofs.Tryz.zeroValue3, t4 := Go.Proofs.Tryz.underlying4, a4 := Go.Proofs.Tryz.isAgg4,
    z4 := Go.Proofs.Tryz.sizeOf4, v4 := Go.Proofs.Tryz.zeroValue4, t9 := Go.Proofs.Tryz.underlying9,
    a9 := Go.Proofs.Tryz.isAgg9, z9 := Go.Proofs.Tryz.sizeOf9, v9 := Go.Proofs.Tryz.zeroValue9 }
def sh_d_ren : Go.Shelf.Ren :=
  {
    f := fun x =>
      match x with
      | 284 => 109
      | 129 => 115
      | 317 => 114
      | 318 => 116
      | n => n,
    t := fun x =>
      match x with
      | 53 => 100
      | 3 => 3
      | 212 => 144
      | 0 => 0
      | 4 => 4
      | 46 => 93
      | 5 => 5
      | 9 => 9
      | n => n,
    g := fun x =>
      match x with
      | 17 => 3
      | n => n }
theorem sh_d : Go.Proofs.LaysM.n284 Go.Proofs.Tryz.prog sh_d_ren :=
  { mixed := by kernel_rfl,
    f129 :=
      Eq.trans Go.Proofs.Tryz.func115 (congrArg Option.some (Eq.refl (Go.Proofs.Body.n129 sh_d_ren))),
    f284 :=
      Eq.trans Go.Proofs.Tryz.func109 (congrArg Option.some (Eq.refl (Go.Proofs.Body.n284 sh_d_ren))),
    f317 :=
      Eq.trans Go.Proofs.Tryz.func114 (congrArg Option.some (Eq.refl (Go.Proofs.Body.n317 sh_d_ren))),
    f318 :=
      Eq.trans Go.Proofs.Tryz.func116 (congrArg Option.some (Eq.refl (Go.Proofs.Body.n318 sh_d_ren))),
    t0 := Go.Proofs.Tryz.underlying0, a0 := Go.Proofs.Tryz.isAgg0, z0 := Go.Proofs.Tryz.sizeOf0,
    v0 := Go.Proofs.Tryz.zeroValue0, t3 := Go.Proofs.Tryz.underlying3, a3 := Go.Proofs.Tryz.isAgg3,
    z3 := Go.Proofs.Tryz.sizeOf3, v3 := Go.Proofs.Tryz.zeroValue3, t4 := Go.Proofs.Tryz.underlying4,
    a4 := Go.Proofs.Tryz.isAgg4, z4 := Go.Proofs.Tryz.sizeOf4, v4 := Go.Proofs.Tryz.zeroValue4,
    t5 := Go.Proofs.Tryz.underlying5, a5 := Go.Proofs.Tryz.isAgg5, z5 := Go.Proofs.Tryz.sizeOf5,
    v5 := Go.Proofs.Tryz.zeroValue5, t9 := Go.Proofs.Tryz.underlying9, a9 := Go.Proofs.Tryz.isAgg9,
    z9 := Go.Proofs.Tryz.sizeOf9, v9 := Go.Proofs.Tryz.zeroValue9, t46 := Go.Proofs.Tryz.underlying93,
    a46 := Go.Proofs.Tryz.isAgg93, z46 := Go.Proofs.Tryz.sizeOf93, v46 := Go.Proofs.Tryz.zeroValue93,
    t53 := Go.Proofs.Tryz.underlying100, a53 := Go.Proofs.Tryz.isAgg100, z53 := Go.Proofs.Tryz.sizeOf100,
    v53 := Go.Proofs.Tryz.zeroValue100, t212 := Go.Proofs.Tryz.underlying144, a212 := Go.Proofs.Tryz.isAgg144,
    z212 := Go.Proofs.Tryz.sizeOf144, v212 := Go.Proofs.Tryz.zeroValue144,
    g17 := by kernel_rfl,
    i0 := Eq.refl (Option.some (Option.some (Go.Value.tuple #[]), 1, 0)),
    i3 := Eq.refl (Option.some (Option.some (Go.Value.int Go.IntKind.i64 0), 1, 8)),
    i4 := Eq.refl (Option.some (Option.some (Go.Value.bool Bool.false), 1, 1)),
    i5 := Eq.refl (Option.some (Option.some (Go.Value.int Go.IntKind.u8 0), 1, 1)),
    i9 := Eq.refl (Option.some (Option.some (Go.Value.string { data := #[] }), 1, 16)),
    i46 := Eq.refl (Option.some (Option.some (Go.Value.int Go.IntKind.u64 0), 1, 8)),
    i53 := Eq.refl (Option.some (Option.some (Go.Value.int Go.IntKind.u64 0), 1, 8)),
    i212 :=
      Eq.refl
        (Option.some
          (Option.some
              (Go.Value.agg
                #[Go.Value.int Go.IntKind.u64 0, Go.Value.int Go.IntKind.u64 0, Go.Value.int Go.IntKind.u64 0,
                  Go.Value.int Go.IntKind.u64 0, Go.Value.int Go.IntKind.u64 0, Go.Value.int Go.IntKind.u64 0,
                  Go.Value.int Go.IntKind.u64 0, Go.Value.int Go.IntKind.u64 0, Go.Value.int Go.IntKind.u64 0,
                  Go.Value.int Go.IntKind.u64 0, Go.Value.int Go.IntKind.u64 0, Go.Value.int Go.IntKind.u64 0,
                  Go.Value.int Go.IntKind.u64 0, Go.Value.int Go.IntKind.u64 0, Go.Value.int Go.IntKind.u64 0,
                  Go.Value.int Go.IntKind.u64 0, Go.Value.int Go.IntKind.u64 0, Go.Value.int Go.IntKind.u64 0,
                  Go.Value.int Go.IntKind.u64 0, Go.Value.int Go.IntKind.u64 0]),
            20, 160)),
    m17 := by kernel_rfl }
def sh_b_ren : Go.Shelf.Ren :=
  {
    f := fun x =>
      match x with
      | 285 => 110
      | n => n,
    t := fun x =>
      match x with
      | 37 => 24
      | 53 => 100
      | 3 => 3
      | 4 => 4
      | 51 => 102
      | 9 => 9
      | 5 => 5
      | 0 => 0
      | n => n,
    g := fun x =>
      have n := x;
      n }
theorem sh_b : Go.Proofs.Lays.n285 Go.Proofs.Tryz.prog sh_b_ren :=
  { mixed := by kernel_rfl,
    f285 :=
      Eq.trans Go.Proofs.Tryz.func110 (congrArg Option.some (Eq.refl (Go.Proofs.Body.n285 sh_b_ren))),
    t0 := Go.Proofs.Tryz.underlying0, a0 := Go.Proofs.Tryz.isAgg0, z0 := Go.Proofs.Tryz.sizeOf0,
    v0 := Go.Proofs.Tryz.zeroValue0, t3 := Go.Proofs.Tryz.underlying3, a3 := Go.Proofs.Tryz.isAgg3,
    z3 := Go.Proofs.Tryz.sizeOf3, v3 := Go.Proofs.Tryz.zeroValue3, t4 := Go.Proofs.Tryz.underlying4,
    a4 := Go.Proofs.Tryz.isAgg4, z4 := Go.Proofs.Tryz.sizeOf4, v4 := Go.Proofs.Tryz.zeroValue4,
    t5 := Go.Proofs.Tryz.underlying5, a5 := Go.Proofs.Tryz.isAgg5, z5 := Go.Proofs.Tryz.sizeOf5,
    v5 := Go.Proofs.Tryz.zeroValue5, t9 := Go.Proofs.Tryz.underlying9, a9 := Go.Proofs.Tryz.isAgg9,
    z9 := Go.Proofs.Tryz.sizeOf9, v9 := Go.Proofs.Tryz.zeroValue9, t37 := Go.Proofs.Tryz.underlying24,
    a37 := Go.Proofs.Tryz.isAgg24, z37 := Go.Proofs.Tryz.sizeOf24, v37 := Go.Proofs.Tryz.zeroValue24,
    t51 := Go.Proofs.Tryz.underlying102, a51 := Go.Proofs.Tryz.isAgg102, z51 := Go.Proofs.Tryz.sizeOf102,
    v51 := Go.Proofs.Tryz.zeroValue102, t53 := Go.Proofs.Tryz.underlying100, a53 := Go.Proofs.Tryz.isAgg100,
    z53 := Go.Proofs.Tryz.sizeOf100, v53 := Go.Proofs.Tryz.zeroValue100 }
end Go.Proofs.YtlomjmdgcpjepaaGreatDoor
namespace Go.Proofs.YtlomjmdgcpjepaaGreatDoor
open Go Go.Vx Go.Ob Go.RowKit
set_option linter.all false
set_option maxRecDepth 4000
theorem zz (n j : Nat) : (bsv (List.replicate n 0))[j]? = if j < n then some (.int .u8 0) else none := by
  unfold bsv
  rw [List.map_replicate, List.getElem?_replicate]
  rfl
variable [W0]
structure BsAt (L : List Chunk) : Prop where
  ut : ∀ w, Vx.Holds w L → Lib.Utf8Tabs (sh_v_ren.g 3) (sh_v_ren.g 4) w
  mx : ∃ m, ∀ w, Vx.Holds w L → w.cell? ⟨(sh_c_ren.g 1), 0, none⟩ = some (.int .i64 m)
  pw : ∀ w, Vx.Holds w L → Lib.TabIs Tryz.prog w "internal/strconv.uint64pow10" .u64 Lib.pow10Tab
theorem BsAt.of {S L : List Chunk} (h : BsAt S) (hi : ∀ w, Vx.Holds w L → Vx.Holds w S) : BsAt L :=
  ⟨fun w hw => h.ut w (hi w hw), h.mx.imp fun m hm w hw => hm w (hi w hw), fun w hw => h.pw w (hi w hw)⟩
theorem BsAt.inc {S L : List Chunk} (h : BsAt S) (hi : Inc S L) : BsAt L := h.of fun w hw => hi.holds hw
theorem BsAt.there {L : List Chunk} {C : Chunk} (h : BsAt L) : BsAt (C :: L) := h.of fun w hw => hw.drop
theorem GvP.of_below {P : Program} {f : FuncId} {args : Array Value} {L : List Chunk} {v : Value} (h : ∀ w, Vx.Holds w L → Calls P f args w fun e w' => e = .returned v ∧ Below w.heap.size w w') : GvP P f args L v :=
  ⟨fun w hw => (h w hw).mono fun e w' he => ⟨v, L, he.1, ⟨rfl, rfl⟩, hw.1, fun x hx => by rw [he.2.block _ (hw.lt hx)]; exact hw.2.1 x hx, he.2.os.trans hw.2.2.1, he.2.output.trans hw.2.2.2⟩⟩
theorem below_drewN (w : World) (n : Nat) : Below w.heap.size w (w.drewN n) := ⟨rfl, rfl, rfl, Nat.le_refl _, fun _ _ => rfl⟩
theorem valid_n (t : List UInt8) (L : List Chunk) (hb : BsAt L) (hl : t.length ≤ 9223372036854775807) : GvP Tryz.prog 67 [.string (str t)].toArray L (.bool (Lib.validD t)) :=
  GvP.of_below fun w hw => Any.utf8_ValidString sh_v (str t) w hl (hb.ut w hw)
theorem cut_n (s sep : List UInt8) (L : List Chunk) (hb : BsAt L) (hl : s.length < 4294967281) :
    GvP Tryz.prog 39 [.string (str s), .string (str sep)].toArray L (.tuple #[.string (str (Lib.cut s sep).1), .string (str (Lib.cut s sep).2.1), .bool (Lib.cut s sep).2.2]) := by
  obtain ⟨m, hm⟩ := hb.mx
  refine GvP.of_below fun w hw => (Any.strings_Cut sh_c (str s) (str sep) m w hl (hm w hw)).mono ?_
  rintro e w' ⟨rfl, n, rfl⟩
  exact ⟨rfl, below_drewN w n⟩
theorem small_n (i : Nat) (L : List Chunk) (h : i < 100) : GvP Tryz.prog 108 [.int .i64 (i : Int)].toArray L (.string (str (Lib.decDigits i))) :=
  GvP.of_below fun w hw => (Any.internal_strconv_small sh_s i h w).mono (by rintro e w' ⟨rfl, rfl⟩; exact ⟨rfl, Below.refl _ _⟩)
theorem numdigits_n (u : Nat) (L : List Chunk) (hb : BsAt L) (h1 : 1 ≤ u) (h2 : u < 18446744073709551616) : GvP Tryz.prog 109 [.int .u64 (u : Int)].toArray L (.int .i64 (Lib.nDigits u : Int)) :=
  GvP.of_below fun w hw => (Any.internal_strconv_numDigits sh_d u h1 h2 w (hb.pw w hw)).mono (by rintro e w' ⟨rfl, rfl⟩; exact ⟨rfl, Below.refl _ _⟩)
theorem numdigits_le {u : Nat} (h1 : 1 ≤ u) (h2 : u < 18446744073709551616) : Lib.nDigits u ≤ 20 := by
  have := Lib.numDigits_eq u h1 h2
  split at this <;> omega
theorem fmt_n (b T u : Nat) (L : List Chunk) (h1 : 1 ≤ u) (h2 : u < 18446744073709551616) :
    Gv Tryz.prog 110 [.slice (some ⟨b, 0, none⟩) (Lib.nDigits u) 24, .int .u64 (u : Int)].toArray ([(b, cl (bsv (List.replicate 24 0)) T)] :: L)
      (fun r L' => r = .tuple #[] ∧ ∃ rest, rest.length = 24 - Lib.nDigits u ∧ L' = [(b, cl (bsv (Lib.decDigits u) ++ rest) T)] :: L) := ⟨fun w hw => by
  have hnd := numdigits_le h1 h2
  have hf : w.heap[b]? = some (cl (bsv (List.replicate 24 0)) T) := (Fnd.here : Fnd ([(b, _)] :: L) b _).get hw
  have hH : Sort.Holds (fun (b : UInt8) => Value.int .u8 (b.toNat : Int)) w b 0 (Array.replicate (Lib.nDigits u) (0 : UInt8)) := fun j hj => by
    have hj' : j < Lib.nDigits u := by simpa using hj
    constructor
    · rw [Nat.zero_add, cell_of hf, getElem!_pos _ j hj, List.getElem?_toArray, zz, if_pos (by omega), Array.getElem_replicate]
      rfl
    · simp [World.frozen?, hf, cl]
  have hc := Any.internal_strconv_formatBase10 sh_b b 0 24 u (Array.replicate (Lib.nDigits u) 0) w hH (by rw [Array.size_replicate]; exact Lib.lt_pow_nDigits u) h2 (by rw [Array.size_replicate]; omega)
  rw [Array.size_replicate] at hc
  refine hc.mono ?_
  rintro e w' ⟨rfl, n, v', dk, rfl, hF⟩
  have hsz : dk.size = Lib.nDigits u := hF.size
  have hdk : dk.toList = Lib.decDigits u := by
    refine List.ext_getElem (by rw [Array.length_toList, hsz, Lib.decDigits_length]) fun j hj1 hj2 => ?_
    rw [Lib.row_is_numeral hF j hj2, getElem!_pos _ j (by simpa using hj1)]
    rfl
  have hrow : Sort.putCells (fun (b : UInt8) => Value.int .u8 (b.toNat : Int)) 0 dk (bsv (List.replicate 24 0)).toArray = (bsv (Lib.decDigits u) ++ bsv (List.replicate (24 - Lib.nDigits u) 0)).toArray := by
    apply Array.ext'
    rw [← hdk]
    refine List.ext_getElem? fun j => ?_
    unfold Sort.putCells
    simp only [Array.getElem?_toList, Array.getElem?_mapIdx, List.getElem?_toArray, List.toList_toArray]
    rw [zz]
    rcases Nat.lt_or_ge j dk.size with h | h
    · rw [List.getElem?_append_left (by simpa [bsv] using h), if_pos (by omega)]
      simp [bsv, h, Array.getElem?_eq_getElem h]
    · rw [List.getElem?_append_right (by simpa [bsv] using h), zz]
      have hl : (bsv dk.toList).length = dk.size := by simp [bsv]
      rw [hl]
      rcases Nat.lt_or_ge j 24 with h' | h'
      · rw [if_pos h', if_pos (by omega), Option.map_some, if_neg (by omega)]
      · rw [if_neg (by omega), if_neg (by omega)]
        rfl
  refine ⟨.tuple #[], _, rfl, ⟨rfl, bsv (List.replicate (24 - Lib.nDigits u) 0), by simp [bsv], rfl⟩, hw.upd .here ?_ ?_ rfl rfl⟩
  · show (w.heap.modify b _)[b]? = _
    rw [Array.getElem?_modify, if_pos rfl, hf]
    show some (Obj.cells _ _ _) = _
    rw [hrow]
    rfl
  · intro c hc
    show (w.heap.modify b _)[c]? = _
    rw [Array.getElem?_modify, if_neg (Ne.symm hc)]⟩
end Go.Proofs.YtlomjmdgcpjepaaGreatDoor
namespace Go.Vx
open Go
set_option linter.all false
variable [W0]
section
variable {P : Program} {n : Nat} {Q : Exit → Act → World → Prop} {M : List (Nat × Value)} {L : List Chunk} {K : List (Nat × Value) → List Chunk → Prop}
variable {d : Nat} {ty : TypeId} {ps : String} {af : Array Edge} {g : Option (Nat × Bool)} {x y : Operand} {v : Value}
theorem EV_quoN {t u : TypeId} {i j : Int} (a b : Nat) (hx : ev M x = some (.int .i64 i)) (hy : ev M y = some (.int .i64 j)) (hi : i = (a : Int)) (hj : j = (b : Int)) (hb : b ≠ 0) (ha : a ≤ 9223372036854775807) :
    EV P n ⟨some d, .binOp .quo t x y u, ty, ps, af, g⟩ M L d (.int .i64 ((a / b : Nat) : Int)) := by
  subst hi hj
  have := EV_quo (P := P) (n := n) (L := L) (d := d) (ty := ty) (ps := ps) (af := af) (g := g) (t := t) (u := u) hx hy (by omega)
  have e : IntKind.i64.wrap (((a : Nat) : Int).tdiv (b : Int)) = ((a / b : Nat) : Int) := by
    rw [Int.tdiv_eq_ediv_of_nonneg (by omega), ← Int.natCast_ediv]
    have : a / b ≤ a := Nat.div_le_self _ _
    generalize a / b = q at *
    exact wrap_i64 (by omega) (by omega)
  rwa [e] at this
theorem EV_remN {t u : TypeId} {k : IntKind} {i j : Int} (a b : Nat) (hx : ev M x = some (.int k i)) (hy : ev M y = some (.int k j)) (hi : i = (a : Int)) (hj : j = (b : Int)) (hb : b ≠ 0) :
    EV P n ⟨some d, .binOp .rem t x y u, ty, ps, af, g⟩ M L d (.int k ((a % b : Nat) : Int)) := by
  subst hi hj
  have := EV_rem (P := P) (n := n) (L := L) (d := d) (ty := ty) (ps := ps) (af := af) (g := g) (t := t) (u := u) hx hy (by omega)
  have e : ((a : Nat) : Int).tmod (b : Int) = ((a % b : Nat) : Int) := by
    rw [Int.tmod_eq_emod_of_nonneg (by omega), Int.natCast_emod]
  rwa [e] at this
end
omit [W0] in
def val : List UInt8 → Nat
  | [] => 0
  | b :: r => b.toNat + 256 * val r
end Go.Vx
namespace Go.Proofs.YtlomjmdgcpjepaaGreatDoor
open Go Go.Vx Go.Ob
set_option linter.all false
variable [W0]
set_option maxRecDepth 4000
omit [W0] in
theorem dgF_eq : ∀ (f n : Nat), n < 10 ^ (f + 1) → dgF (f + 1) n = Lib.decDigits n
  | 0, n, h => by
    unfold dgF
    rw [if_pos (by simpa using h), Lib.decDigits_one (by simpa using h)]
  | f + 1, n, h => by
    rw [Lib.decDigits]
    unfold dgF
    split
    · rfl
    · rw [dgF_eq f (n / 10) (by rw [Nat.pow_succ] at h; omega)]
omit [W0] in
theorem dgL_eq {n : Nat} (h : n < 100000000000000000000) : dgL n = Lib.decDigits n := dgF_eq 19 n h
theorem numdigits_lt (u : Nat) (h : u < 18446744073709551616) : Lib.nDigits u ≤ 20 := by
  rcases Nat.eq_zero_or_pos u with rfl | h1
  · rw [Lib.nDigits_small (by decide)]; decide
  · exact numdigits_le h1 h
theorem appenduint_n (u m : Nat) (v : Value) (xs : List Value) (C : Chunk) (L : List Chunk) (hb : BsAt L) (h : OwG 5 v m xs C) (hm : m ≤ 1000000) (hu : u < 18446744073709551616) :
    Gv Tryz.prog 97 [v, .int .u64 (u : Int), .int .i64 10].toArray (C :: L) (fun r L' => ∃ C', OwG 5 r (m + (Lib.decDigits u).length) (xs ++ bsv (Lib.decDigits u)) C' ∧ L' = C' :: L) := by
  refine Gv.of_body (args := [v, .int .u64 (u : Int), .int .i64 10]) Tryz.func97 rfl rfl ?_
  (repeat' first|refine kW ?_|refine kU fun bk=>?_|refine kV fun hc=>?_|refine kZ (fun hc=>?_) fun hc=>?_|fail)
  · refine OW_callP rfl rfl rfl (small_n u _ (by omega)) rfl ?_
    (repeat' first|refine kW ?_|refine kU fun bk=>?_|refine kV fun hc=>?_|refine kZ (fun hc=>?_) fun hc=>?_|fail)
    refine OW_appGS rfl rfl h (by repeat (first | exact Zip.here _ | apply Zip.there)) (by rw [str_size, Lib.decDigits_length]; have := numdigits_lt u hu; omega) (by rw [str_size, Lib.decDigits_length]; have := numdigits_lt u hu; unfold maxLen; omega) rfl (fun v' C' ho => ?_)
    (repeat' first|refine kW ?_|refine kU fun bk=>?_|refine kV fun hc=>?_|refine kZ (fun hc=>?_) fun hc=>?_|fail)
    refine kR ?_
    exact ⟨_, iC, C', ho, rfl⟩
  · refine OW_callP rfl rfl rfl (numdigits_n u _ hb.there.there (by omega) hu) rfl ?_
    (repeat' first|refine kW ?_|refine kU fun bk=>?_|refine kV fun hc=>?_|refine kZ (fun hc=>?_) fun hc=>?_|fail)
    have hnd := numdigits_le (by omega : 1 ≤ u) hu
    refine OW_EV (EV_sliceArr (l := 0) (h := Lib.nDigits u) rfl rfl rfl (Nat.zero_le _) (by omega) (by omega)) rfl ?_
    (repeat' first|refine kW ?_|refine kU fun bk=>?_|refine kV fun hc=>?_|refine kZ (fun hc=>?_) fun hc=>?_|fail)
    refine OW_call rfl rfl rfl (fmt_n _ _ u (C :: L) (by omega) hu) rfl (fun r L' hp => ?_)
    obtain ⟨rfl, rest, hrl, rfl⟩ := hp
    (repeat' first|refine kW ?_|refine kU fun bk=>?_|refine kV fun hc=>?_|refine kZ (fun hc=>?_) fun hc=>?_|fail)
    refine OW_EV (EV_sliceArr (l := 0) (h := Lib.nDigits u) rfl rfl rfl (Nat.zero_le _) (by omega) (by omega)) rfl ?_
    (repeat' first|refine kW ?_|refine kU fun bk=>?_|refine kV fun hc=>?_|refine kZ (fun hc=>?_) fun hc=>?_|fail)
    have hdl := Lib.decDigits_length u
    refine OW_appG rfl rfl h (sl_cells (xs := bsv (Lib.decDigits u)) (m := Lib.nDigits u) Fnd.here (by rw [bsv_length, hdl]; omega) (by simp)) (by repeat (first | exact Zip.here _ | apply Zip.there)) (by rfl) bsv_ones (by omega) (by unfold maxLen; omega) rfl (fun v' C' ho => ?_)
    (repeat' first|refine kW ?_|refine kU fun bk=>?_|refine kV fun hc=>?_|refine kZ (fun hc=>?_) fun hc=>?_|fail)
    refine kR ?_
    rw [← hdl] at ho
    exact ⟨_, iC, C', ho, rfl⟩
theorem appendint_n (i m : Nat) (v : Value) (xs : List Value) (C : Chunk) (L : List Chunk) (hb : BsAt L) (h : OwG 5 v m xs C) (hm : m ≤ 1000000) (hu : i ≤ 9223372036854775807) :
    Gv Tryz.prog 57 [v, .int .i64 (i : Int), .int .i64 10].toArray (C :: L) (fun r L' => ∃ C', OwG 5 r (m + (Lib.decDigits i).length) (xs ++ bsv (Lib.decDigits i)) C' ∧ L' = C' :: L) := by
  refine Gv.of_body (args := [v, .int .i64 (i : Int), .int .i64 10]) Tryz.func57 rfl rfl ?_
  (repeat' first|refine kW ?_|refine kU fun bk=>?_|refine kV fun hc=>?_|refine kZ (fun hc=>?_) fun hc=>?_|fail)
  have hin : Gv Tryz.prog 83 [v, .int .i64 (i : Int), .int .i64 10].toArray (C :: L) (fun r L' => ∃ C', OwG 5 r (m + (Lib.decDigits i).length) (xs ++ bsv (Lib.decDigits i)) C' ∧ L' = C' :: L) := by
    refine Gv.of_body (args := [v, .int .i64 (i : Int), .int .i64 10]) Tryz.func83 rfl rfl ?_
    (repeat' first|refine kW ?_|refine kU fun bk=>?_|refine kV fun hc=>?_|refine kZ (fun hc=>?_) fun hc=>?_|fail)
    refine OW_call rfl rfl rfl (appenduint_n i m v xs C L hb h hm (by omega)) rfl (fun r L' hp => ?_)
    obtain ⟨C', ho, rfl⟩ := hp
    (repeat' first|refine kW ?_|refine kU fun bk=>?_|refine kV fun hc=>?_|refine kZ (fun hc=>?_) fun hc=>?_|fail)
    refine kR ?_
    exact ⟨_, iC, C', ho, rfl⟩
  refine OW_call rfl rfl rfl hin rfl (fun r L' hp => ?_)
  obtain ⟨C', ho, rfl⟩ := hp
  (repeat' first|refine kW ?_|refine kU fun bk=>?_|refine kV fun hc=>?_|refine kZ (fun hc=>?_) fun hc=>?_|fail)
  refine kR ?_
  exact ⟨_, iC, C', ho, rfl⟩
theorem header_n (k n : Int) (L : List Chunk) (hb : BsAt L) (hn : n ≤ 9223372036854775807) :
    Gv Tryz.prog 27 [.int .i64 k, .int .i64 n].toArray L (fun r L' => ∃ C, OwG 5 r (hdL k n).length (bsv (hdL k n)) C ∧ L' = C :: L) := by
  refine Gv.of_body (args := [.int .i64 k, .int .i64 n]) Tryz.func27 rfl rfl ?_
  (repeat' first|refine kW ?_|refine kU fun bk=>?_|refine kV fun hc=>?_|refine kZ (fun hc=>?_) fun hc=>?_|fail)
  refine OW_callP rfl rfl rfl (obname_n k _) rfl ?_
  (repeat' first|refine kW ?_|refine kU fun bk=>?_|refine kV fun hc=>?_|refine kZ (fun hc=>?_) fun hc=>?_|fail)
  have h6 := nmI_len k
  refine OW_convBytes rfl (by rw [str_size]; unfold maxLen; omega) rfl (fun v C ho => ?_)
  rw [str_size, str_data] at ho
  (repeat' first|refine kW ?_|refine kU fun bk=>?_|refine kV fun hc=>?_|refine kZ (fun hc=>?_) fun hc=>?_|fail)
  refine OW_buildSlice (cs := bsv [32]) rfl (by rfl) (by simp [fillL, patch, Value.cells, zeros]; rfl) (by omega) rfl rfl (fun b1 => ?_)
  (repeat' first|refine kW ?_|refine kU fun bk=>?_|refine kV fun hc=>?_|refine kZ (fun hc=>?_) fun hc=>?_|fail)
  refine OW_appG rfl rfl (OwG.f ho) (sl_cells (xs := bsv [32]) (m := 1) Fnd.here rfl (by simp)) (by repeat (first | exact Zip.here _ | apply Zip.there)) (by rfl) bsv_ones (by omega) (by unfold maxLen; omega) rfl (fun v1 C1 h1 => ?_)
  (repeat' first|refine kW ?_|refine kU fun bk=>?_|refine kV fun hc=>?_|refine kZ (fun hc=>?_) fun hc=>?_|fail)
  obtain ⟨i, hi⟩ : ∃ i : Nat, max n 0 = (i : Int) := ⟨(max n 0).toNat, by omega⟩
  rw [hi]
  have hi2 : i ≤ 9223372036854775807 := by omega
  refine OW_call rfl rfl rfl (Gv.take (appendint_n i _ v1 _ C1 _ (hb.there) h1 (by omega) hi2) (by repeat (first | exact Take.here | apply Take.there))) rfl (fun r L' hp => ?_)
  obtain ⟨C2, h2, rfl⟩ := hp
  (repeat' first|refine kW ?_|refine kU fun bk=>?_|refine kV fun hc=>?_|refine kZ (fun hc=>?_) fun hc=>?_|fail)
  refine OW_buildSlice (cs := bsv [0]) rfl (by rfl) (by simp [fillL, patch, Value.cells, zeros]; rfl) (by omega) rfl rfl (fun b2 => ?_)
  (repeat' first|refine kW ?_|refine kU fun bk=>?_|refine kV fun hc=>?_|refine kZ (fun hc=>?_) fun hc=>?_|fail)
  have hd := numdigits_lt i (by omega)
  rw [← Lib.decDigits_length] at hd
  refine OW_appG rfl rfl h2 (sl_cells (xs := bsv [0]) (m := 1) Fnd.here rfl (by simp)) (by repeat (first | exact Zip.here _ | apply Zip.there)) (by rfl) bsv_ones (by omega) (by unfold maxLen; omega) rfl (fun v3 C3 h3 => ?_)
  (repeat' first|refine kW ?_|refine kU fun bk=>?_|refine kV fun hc=>?_|refine kZ (fun hc=>?_) fun hc=>?_|fail)
  refine kR ?_
  have e : hdL k n = nmI k ++ [32] ++ Lib.decDigits i ++ [0] := by
    unfold hdL
    rw [hi, Int.toNat_natCast, dgL_eq (by omega)]
  refine ⟨C3 :: L, iC, C3, ?_, rfl⟩
  have e2 : (nmI k ++ [32] ++ Lib.decDigits i ++ [0]).length = (nmI k).length + 1 + (Lib.decDigits i).length + 1 := by simp only [List.length_append, List.length_cons, List.length_nil]
  rw [e, e2, bsv_append, bsv_append, bsv_append]
  exact h3
theorem hdL_len (k n : Int) (hn : n ≤ 9223372036854775807) : (hdL k n).length ≤ 28 := by
  have h6 := nmI_len k
  have hd := numdigits_lt (max n 0).toNat (by omega)
  rw [← Lib.decDigits_length] at hd
  unfold hdL
  rw [dgL_eq (by omega)]
  simp only [List.length_append, List.length_cons, List.length_nil]
  omega
theorem OwG.slc {e m : Nat} {v : Value} {xs : List Value} {C : Chunk} {L : List Chunk} (h : OwG e v m xs C) : SlC (C :: L) 1 v m xs := ⟨h.sl, h.room⟩
theorem id_n (k : Int) (v : Value) (t : List UInt8) (L : List Chunk) (hb : BsAt L) (ht : t.length ≤ 140737488351232) (hv : SlC L 1 v t.length (bsv t)) :
    GvP Tryz.prog 9 [.int .i64 k, v].toArray L (.string (str (idL k t))) := by
  obtain ⟨a, c, rfl, hac⟩ := hv.room
  refine Gv.of_body (args := [.int .i64 k, .slice a t.length c]) Tryz.func9 rfl rfl ?_
  (repeat' first|refine kW ?_|refine kU fun bk=>?_|refine kV fun hc=>?_|refine kZ (fun hc=>?_) fun hc=>?_|fail)
  refine OW_call rfl rfl rfl (header_n k t.length L hb (by omega)) rfl (fun r L' hp => ?_)
  obtain ⟨C, ho, rfl⟩ := hp
  have hl := hdL_len k t.length (by omega)
  (repeat' first|refine kW ?_|refine kU fun bk=>?_|refine kV fun hc=>?_|refine kZ (fun hc=>?_) fun hc=>?_|fail)
  refine OW_appG rfl rfl ho hv.there.sl (by repeat (first | exact Zip.here _ | apply Zip.there)) (by rfl) bsv_ones (by omega) (by unfold maxLen; omega) rfl (fun v1 C1 h1 => ?_)
  rw [← bsv_append, ← List.length_append] at h1
  (repeat' first|refine kW ?_|refine kU fun bk=>?_|refine kV fun hc=>?_|refine kZ (fun hc=>?_) fun hc=>?_|fail)
  refine OW_call rfl rfl rfl (sha1_n (hdL k t.length ++ t) v1 _ (by rw [List.length_append]; omega) (OwG.slc h1)) rfl (fun r L' hp => ?_)
  obtain ⟨C2, rfl, h2⟩ := hp
  (repeat' first|refine kW ?_|refine kU fun bk=>?_|refine kV fun hc=>?_|refine kZ (fun hc=>?_) fun hc=>?_|fail)
  refine OW_callP rfl rfl rfl (hex_n (shaN (hdL k t.length ++ t)) _ _ (by rw [shaN_length]; decide) (by rw [shaN_length]; exact SlC.ow h2)) rfl ?_
  (repeat' first|refine kW ?_|refine kU fun bk=>?_|refine kV fun hc=>?_|refine kZ (fun hc=>?_) fun hc=>?_|fail)
  exact kE
theorem hash_n (s : List UInt8) (L : List Chunk) (hs : s.length ≤ 9223372036854775807) : GvP Tryz.prog 58 [.string (str s)].toArray L (.bool (hshB s)) := by
  refine Gv.of_body Tryz.func58 rfl rfl ?_
  (repeat' first|refine kW ?_|refine kU fun bk=>?_|refine kV fun hc=>?_|refine kZ (fun hc=>?_) fun hc=>?_|fail)
  · rw [str_size] at hc
    refine kR ?_
    exact ⟨_, iC, by unfold hshB; rw [decide_eq_false (by omega)]; rfl, rfl⟩
  · rw [str_size] at hc
    refine OW_call rfl rfl rfl (unhex_n s L (by omega)) rfl (fun r L' hp => ?_)
    obtain ⟨v, C, rfl, rfl, ho⟩ := hp
    (repeat' first|refine kW ?_|refine kU fun bk=>?_|refine kV fun hc=>?_|refine kZ (fun hc=>?_) fun hc=>?_|fail)
    refine kR ?_
    exact ⟨L, iC, by unfold hshB; rw [decide_eq_true (by omega)]; rfl, rfl⟩
omit [W0] in
theorem zr_ul : unL zrL = List.replicate 20 0 := by kernel_rfl
theorem unL_len {s : List UInt8} (h : hshB s = true) : (unL s).length = 20 := by
  unfold hshB at h
  simp only [Bool.and_eq_true, decide_eq_true_eq] at h
  unfold unL
  rw [if_pos h.2, outN_length, h.1]
theorem rawL_len (s : List UInt8) : (rawL s).length = 20 := by
  unfold rawL
  split
  · rename_i h; exact unL_len h
  · simp
theorem idbytes_n (s : List UInt8) (L : List Chunk) (hs : s.length ≤ 9223372036854775807) :
    Gv Tryz.prog 28 [.string (str s)].toArray L (fun r L' => ∃ C, Ow 5 1 r 20 (bsv (rawL s)) C ∧ L' = C :: L) := by
  refine Gv.of_body Tryz.func28 rfl rfl ?_
  (repeat' first|refine kW ?_|refine kU fun bk=>?_|refine kV fun hc=>?_|refine kZ (fun hc=>?_) fun hc=>?_|fail)
  refine OW_callP rfl rfl rfl (hash_n s L hs) rfl ?_
  cases hh : hshB s with
  | true =>
    have hl : s.length = 40 := by
      unfold hshB at hh
      simp only [Bool.and_eq_true, decide_eq_true_eq] at hh
      exact hh.1
    (repeat' first|refine kW ?_|refine kU fun bk=>?_|refine kV fun hc=>?_|refine kZ (fun hc=>?_) fun hc=>?_|fail)
    refine OW_call rfl rfl rfl (unhex_n s L (by omega)) rfl (fun r L' hp => ?_)
    obtain ⟨v, C, rfl, rfl, ho⟩ := hp
    rw [unL_len hh] at ho
    (repeat' first|refine kW ?_|refine kU fun bk=>?_|refine kV fun hc=>?_|refine kZ (fun hc=>?_) fun hc=>?_|fail)
    refine kR ?_
    exact ⟨_, iC, C, by rw [rawL, if_pos hh]; exact ho, rfl⟩
  | false =>
    (repeat' first|refine kW ?_|refine kU fun bk=>?_|refine kV fun hc=>?_|refine kZ (fun hc=>?_) fun hc=>?_|fail)
    refine OW_call rfl rfl rfl (unhex_n zrL L (by decide)) rfl (fun r L' hp => ?_)
    obtain ⟨v, C, rfl, rfl, ho⟩ := hp
    rw [zr_ul] at ho
    (repeat' first|refine kW ?_|refine kU fun bk=>?_|refine kV fun hc=>?_|refine kZ (fun hc=>?_) fun hc=>?_|fail)
    refine kR ?_
    exact ⟨_, iC, C, by rw [rawL, hh]; exact ho, rfl⟩
theorem digits_n (n : Nat) (L : List Chunk) (hn : n ≤ 9223372036854775807) : GvP Tryz.prog 8 [.int .i64 (n : Int)].toArray L (.string (str (dgL n))) := by
  refine Gv.of_body Tryz.func8 rfl rfl ?_
  have hd := numdigits_lt n (by omega)
  rw [← Lib.decDigits_length] at hd
  have hby : ∀ a : Nat, a < 10 → IntKind.u8.wrap (48 + IntKind.u8.wrap (a : Int)) = ((UInt8.ofNat (48 + a)).toNat : Int) := fun a ha => by
    rw [wrap_u8, wrap_u8, UInt8.toNat_ofNat']; omega
  rw [dgL_eq (by omega)]
  (repeat' first|refine kW ?_|refine kU fun bk=>?_|refine kV fun hc=>?_|refine kZ (fun hc=>?_) fun hc=>?_|fail)
  refine WC_loop (X := Nat × List UInt8) (fun x => [(0, .int .i64 (x.1 : Int)), (3, .string (str x.2))]) (fun _ => L) (fun x => x.1 ≤ n ∧ Lib.decDigits x.1 ++ x.2 = Lib.decDigits n) (fun x => x.1) (n, []) ⟨Nat.le_refl _, by simp⟩ iS (fun w h => h) ?_
  intro x ⟨h1, h2⟩
  obtain ⟨k, s⟩ := x
  simp only at h1 h2 ⊢
  have hsl : (Lib.decDigits k).length + s.length ≤ 20 := by rw [← List.length_append, h2]; exact hd
  (repeat' first|refine kW ?_|refine kU fun bk=>?_|refine kV fun hc=>?_|refine kZ (fun hc=>?_) fun hc=>?_|fail)
  · refine OW_EV (EV_remN k 10 rfl rfl rfl rfl (by decide)) rfl ?_
    (repeat' first|refine kW ?_|refine kU fun bk=>?_|refine kV fun hc=>?_|refine kZ (fun hc=>?_) fun hc=>?_|fail)
    refine OW_EV (EV_ari rfl rfl rfl) rfl ?_
    obtain ⟨c, hcq⟩ : ∃ c, c = UInt8.ofNat (48 + k % 10) := ⟨_, rfl⟩
    rw [hby _ (by omega), ← hcq]
    (repeat' first|refine kW ?_|refine kU fun bk=>?_|refine kV fun hc=>?_|refine kZ (fun hc=>?_) fun hc=>?_|fail)
    refine OW_buildSlice (cs := bsv [c]) rfl (by rfl) (by simp [fillL, patch, Value.cells, zeros]; rfl) (by omega) rfl rfl (fun b1 => ?_)
    (repeat' first|refine kW ?_|refine kU fun bk=>?_|refine kV fun hc=>?_|refine kZ (fun hc=>?_) fun hc=>?_|fail)
    refine OW_EV (EV_convStr (b := [c]) (m := 1) rfl (sl_cells Fnd.here rfl (by simp))) rfl ?_
    (repeat' first|refine kW ?_|refine kU fun bk=>?_|refine kV fun hc=>?_|refine kZ (fun hc=>?_) fun hc=>?_|fail)
    refine OW_EV (EV_catL [c] s rfl rfl (by simp; omega)) rfl ?_
    (repeat' first|refine kW ?_|refine kU fun bk=>?_|refine kV fun hc=>?_|refine kZ (fun hc=>?_) fun hc=>?_|fail)
    refine OW_EV (EV_quoN k 10 rfl rfl rfl rfl (by decide) (by omega)) rfl ?_
    (repeat' first|refine kW ?_|refine kU fun bk=>?_|refine kV fun hc=>?_|refine kZ (fun hc=>?_) fun hc=>?_|fail)
    refine WQ_round (X := Nat × List UInt8) (μ := fun x => x.1) (x := (k, s)) (k / 10, [c] ++ s) (by simp only; omega) ⟨by simp only; omega, ?_⟩ iS (fun w h => iH h)
    rw [← h2]
    simp only [hcq]
    conv => rhs; rw [Lib.decDigits, dif_neg (by omega)]
    simp
  · refine OW_EV (EV_ari rfl rfl rfl) rfl ?_
    obtain ⟨c, hcq⟩ : ∃ c, c = UInt8.ofNat (48 + k) := ⟨_, rfl⟩
    rw [hby k (by omega), ← hcq]
    (repeat' first|refine kW ?_|refine kU fun bk=>?_|refine kV fun hc=>?_|refine kZ (fun hc=>?_) fun hc=>?_|fail)
    refine OW_buildSlice (cs := bsv [c]) rfl (by rfl) (by simp [fillL, patch, Value.cells, zeros]; rfl) (by omega) rfl rfl (fun b1 => ?_)
    (repeat' first|refine kW ?_|refine kU fun bk=>?_|refine kV fun hc=>?_|refine kZ (fun hc=>?_) fun hc=>?_|fail)
    refine OW_EV (EV_convStr (b := [c]) (m := 1) rfl (sl_cells Fnd.here rfl (by simp))) rfl ?_
    (repeat' first|refine kW ?_|refine kU fun bk=>?_|refine kV fun hc=>?_|refine kZ (fun hc=>?_) fun hc=>?_|fail)
    refine OW_EV (EV_catL [c] s rfl rfl (by simp; omega)) rfl ?_
    (repeat' first|refine kW ?_|refine kU fun bk=>?_|refine kV fun hc=>?_|refine kZ (fun hc=>?_) fun hc=>?_|fail)
    refine kR ?_
    refine ⟨L, iC, ?_, rfl⟩
    rw [← h2, Lib.decDigits_one (by omega), ← hcq]
    rfl
theorem refheader_n (k n : Int) (L : List Chunk) (hn : n ≤ 9223372036854775807) : GvP Tryz.prog 31 [.int .i64 k, .int .i64 n].toArray L (.string (str (hdL k n))) := by
  refine Gv.of_body (args := [.int .i64 k, .int .i64 n]) Tryz.func31 rfl rfl ?_
  (repeat' first|refine kW ?_|refine kU fun bk=>?_|refine kV fun hc=>?_|refine kZ (fun hc=>?_) fun hc=>?_|fail)
  have h6 := nmI_len k
  refine OW_callP rfl rfl rfl (refname_n k _) rfl ?_
  (repeat' first|refine kW ?_|refine kU fun bk=>?_|refine kV fun hc=>?_|refine kZ (fun hc=>?_) fun hc=>?_|fail)
  refine OW_EV (EV_catL (nmI k) [32] rfl rfl (by simp; omega)) rfl ?_
  (repeat' first|refine kW ?_|refine kU fun bk=>?_|refine kV fun hc=>?_|refine kZ (fun hc=>?_) fun hc=>?_|fail)
  obtain ⟨i, hi⟩ : ∃ i : Nat, max n 0 = (i : Int) := ⟨(max n 0).toNat, by omega⟩
  rw [hi]
  have hi2 : i ≤ 9223372036854775807 := by omega
  have hd := numdigits_lt i (by omega)
  rw [← Lib.decDigits_length, ← dgL_eq (by omega)] at hd
  refine OW_callP rfl rfl rfl (digits_n i _ hi2) rfl ?_
  (repeat' first|refine kW ?_|refine kU fun bk=>?_|refine kV fun hc=>?_|refine kZ (fun hc=>?_) fun hc=>?_|fail)
  refine OW_EV (EV_catL (nmI k ++ [32]) (dgL i) rfl rfl (by simp; omega)) rfl ?_
  (repeat' first|refine kW ?_|refine kU fun bk=>?_|refine kV fun hc=>?_|refine kZ (fun hc=>?_) fun hc=>?_|fail)
  refine OW_EV (EV_catL (nmI k ++ [32] ++ dgL i) [0] rfl rfl (by simp; omega)) rfl ?_
  (repeat' first|refine kW ?_|refine kU fun bk=>?_|refine kV fun hc=>?_|refine kZ (fun hc=>?_) fun hc=>?_|fail)
  refine kR ?_
  exact ⟨_, iC, by unfold hdL; rw [hi, Int.toNat_natCast]; rfl, rfl⟩
theorem refid_n (k : Int) (t : List UInt8) (L : List Chunk) (ht : t.length ≤ 140737488350000) : GvP Tryz.prog 11 [.int .i64 k, .string (str t)].toArray L (.string (str (idL k t))) := by
  refine Gv.of_body (args := [.int .i64 k, .string (str t)]) Tryz.func11 rfl rfl ?_
  (repeat' first|refine kW ?_|refine kU fun bk=>?_|refine kV fun hc=>?_|refine kZ (fun hc=>?_) fun hc=>?_|fail)
  refine OW_callP rfl rfl rfl (refheader_n k _ _ (by rw [str_size]; omega)) rfl ?_
  rw [str_size]
  have hl := hdL_len k t.length (by omega)
  (repeat' first|refine kW ?_|refine kU fun bk=>?_|refine kV fun hc=>?_|refine kZ (fun hc=>?_) fun hc=>?_|fail)
  refine OW_EV (EV_catL (hdL k t.length) t rfl rfl (by omega)) rfl ?_
  (repeat' first|refine kW ?_|refine kU fun bk=>?_|refine kV fun hc=>?_|refine kZ (fun hc=>?_) fun hc=>?_|fail)
  refine OW_call rfl rfl rfl (refsha_n (hdL k t.length ++ t) _ (by rw [List.length_append]; omega)) rfl (fun r L' hp => ?_)
  obtain ⟨C2, rfl, h2⟩ := hp
  (repeat' first|refine kW ?_|refine kU fun bk=>?_|refine kV fun hc=>?_|refine kZ (fun hc=>?_) fun hc=>?_|fail)
  refine OW_callP rfl rfl rfl (refhex_n (shaN (hdL k t.length ++ t)) _ _ (by rw [shaN_length]; decide) (by rw [shaN_length]; exact SlC.ow h2)) rfl ?_
  (repeat' first|refine kW ?_|refine kU fun bk=>?_|refine kV fun hc=>?_|refine kZ (fun hc=>?_) fun hc=>?_|fail)
  exact kE
end Go.Proofs.YtlomjmdgcpjepaaGreatDoor
namespace Go.Proofs.YtlomjmdgcpjepaaGreatDoor
open Go Go.Vx Go.Ob Go.Lib
set_option linter.all false
variable [W0]
set_option maxRecDepth 4000
theorem consists_n (p : Nat → Bool) (f : FuncId) [hbd : BD Tryz.prog f] (hp : ∀ (c : Nat) (L : List Chunk), GvP Tryz.prog f [.int .i32 (c : Int)].toArray L (.bool (p c))) (s : List UInt8) (L : List Chunk) (hb : BsAt L) (hs : s.length ≤ 9223372036854775807) :
    GvP Tryz.prog 40 [.string (str s), .func (.func f) #[] #[]].toArray L (.bool (consB p s)) := by
  refine Gv.of_body (args := [.string (str s), .func (.func f) #[] #[]]) Tryz.func40 rfl rfl ?_
  (repeat' first|refine kW ?_|refine kU fun bk=>?_|refine kV fun hc=>?_|refine kZ (fun hc=>?_) fun hc=>?_|fail)
  refine OW_rangeS rfl rfl (fun b => ?_)
  (repeat' first|refine kW ?_|refine kU fun bk=>?_|refine kV fun hc=>?_|refine kZ (fun hc=>?_) fun hc=>?_|fail)
  refine WC_loop (X := Nat) (fun x => [(0, .string (str s)), (1, .func (.func f) #[] #[]), (8, .pointer (some ⟨b, 0, none⟩))]) (fun x => [(b, .stringIter (str s) x)] :: L) (fun x => x ≤ s.length ∧ rall p (s.drop x) = rall p s) (fun x => s.length - x) 0 ⟨Nat.zero_le _, rfl⟩ iS (fun w h => h) ?_
  intro k ⟨h1, h2⟩
  by_cases hk : k < s.length
  · have hne : s.drop k ≠ [] := fun h => by have := congrArg List.length h; simp at this; omega
    have hst := rall_step p _ hne
    have hle := decodeL_le _ hne
    have hwd := decodeL_width (s.drop k)
    rw [List.length_drop] at hle
    rw [h2] at hst
    (repeat' first|refine kW ?_|refine kU fun bk=>?_|refine kV fun hc=>?_|refine kZ (fun hc=>?_) fun hc=>?_|fail)
    refine OW_nextS rfl (by rw [str_size]; exact hk) .here rfl ?_
    rw [str_dec]
    generalize (decodeL (s.drop k)).1 = c at *
    generalize (decodeL (s.drop k)).2 = wd at *
    (repeat' first|refine kW ?_|refine kU fun bk=>?_|refine kV fun hc=>?_|refine kZ (fun hc=>?_) fun hc=>?_|fail)
    refine OW_callP rfl rfl rfl (hp c _) rfl ?_
    cases hc : p c with
    | true =>
      rw [hc, Bool.true_and, List.drop_drop] at hst
      (repeat' first|refine kW ?_|refine kU fun bk=>?_|refine kV fun hc=>?_|refine kZ (fun hc=>?_) fun hc=>?_|fail)
      refine WQ_round (X := Nat) (μ := fun x => s.length - x) (x := k) (k + wd) (by omega) ⟨by omega, hst.symm⟩ iS (fun w h => h)
    | false =>
      rw [hc, Bool.false_and] at hst
      (repeat' first|refine kW ?_|refine kU fun bk=>?_|refine kV fun hc=>?_|refine kZ (fun hc=>?_) fun hc=>?_|fail)
      refine kR ?_
      exact ⟨L, iC, by unfold consB; rw [hst]; rfl, rfl⟩
  · (repeat' first|refine kW ?_|refine kU fun bk=>?_|refine kV fun hc=>?_|refine kZ (fun hc=>?_) fun hc=>?_|fail)
    refine OW_EV (EV_endS rfl Fnd.here (by rw [str_size]; exact hk)) rfl ?_
    (repeat' first|refine kW ?_|refine kU fun bk=>?_|refine kV fun hc=>?_|refine kZ (fun hc=>?_) fun hc=>?_|fail)
    refine OW_callP rfl rfl rfl (valid_n s _ hb.there hs) rfl ?_
    (repeat' first|refine kW ?_|refine kU fun bk=>?_|refine kV fun hc=>?_|refine kZ (fun hc=>?_) fun hc=>?_|fail)
    refine kR ?_
    rw [List.drop_eq_nil_of_le (by omega)] at h2
    exact ⟨L, iC, by unfold consB; rw [← h2]; rfl, rfl⟩
theorem inperson_n (c : Nat) (L : List Chunk) : GvP Tryz.prog 41 [.int .i32 (c : Int)].toArray L (.bool (inP c)) := by
  refine Gv.of_body Tryz.func41 rfl rfl ?_
  (repeat' first|refine kW ?_|refine kU fun bk=>?_|refine kV fun hc=>?_|refine kZ (fun hc=>?_) fun hc=>?_|fail)
  all_goals (refine kR ?_; refine ⟨L, iC, ?_, rfl⟩; unfold inP; show Value.bool _ = Value.bool _; congr 1; rw [Bool.eq_iff_iff]; simp; omega)
theorem isdigit_n (c : Nat) (L : List Chunk) : GvP Tryz.prog 68 [.int .i32 (c : Int)].toArray L (.bool (inD c)) := by
  refine Gv.of_body Tryz.func68 rfl rfl ?_
  (repeat' first|refine kW ?_|refine kU fun bk=>?_|refine kV fun hc=>?_|refine kZ (fun hc=>?_) fun hc=>?_|fail)
  all_goals (refine kR ?_; refine ⟨L, iC, ?_, rfl⟩; unfold inD; show Value.bool _ = Value.bool _; congr 1; rw [Bool.eq_iff_iff]; simp; omega)
omit [W0] in
theorem timB_cons (a : UInt8) (t : List UInt8) : timB (a :: t) = (decide (t.length ≤ 11) && (decide (t.length = 0) || decide (a.toNat ≠ 48)) && (a :: t).all (fun b => inD b.toNat)) := by
  unfold timB
  have q : a ≠ 48 ↔ a.toNat ≠ 48 := not_congr (UInt8.toNat_inj (a := a) (b := 48)).symm
  rw [decide_eq_true (show a :: t ≠ [] by simp), Bool.true_and]
  congr 2
  · rw [Bool.eq_iff_iff]; simp
  · congr 1
    · rw [Bool.eq_iff_iff]; simp
    · exact decide_eq_decide.2 q
theorem istime_n (s : List UInt8) (L : List Chunk) (hb : BsAt L) (hs : s.length ≤ 9223372036854775807) : GvP Tryz.prog 42 [.string (str s)].toArray L (.bool (timB s)) := by
  refine Gv.of_body Tryz.func42 rfl rfl ?_
  have hcs := consists_n inD _ isdigit_n s L hb hs
  rw [cons_lo inD inD_lo] at hcs
  cases s with
  | nil =>
    (repeat' first|refine kW ?_|refine kU fun bk=>?_|refine kV fun hc=>?_|refine kZ (fun hc=>?_) fun hc=>?_|fail)
    exact kE
  | cons a t =>
    have he : ¬ str (a :: t) = str [] := fun h => by have := str_inj.1 h; simp at this
    have hl : (str (a :: t)).size = t.length + 1 := by rw [str_size]; rfl
    rw [timB_cons]
    (repeat' first|refine kW ?_|refine kU fun bk=>?_|refine kV fun hc=>?_|refine kZ (fun hc=>?_) fun hc=>?_|fail)
    · rw [hl] at hc
      refine kR ?_
      exact ⟨L, iC, by rw [decide_eq_false (by omega)]; rfl, rfl⟩
    · refine OW_EV (EV_indexStr (j := 0) (u := a) rfl rfl rfl (str_get (t := a :: t) (by simp))) rfl ?_
      have h1 := hc
      rename_i h12
      rw [hl] at h12 h1
      (repeat' first|refine kW ?_|refine kU fun bk=>?_|refine kV fun hc=>?_|refine kZ (fun hc=>?_) fun hc=>?_|fail)
      · refine kR ?_
        exact ⟨L, iC, by rw [decide_eq_false (p := t.length = 0) (by omega), decide_eq_false (p := a.toNat ≠ 48) (by omega), Bool.or_self, Bool.and_false, Bool.false_and]; rfl, rfl⟩
      · refine OW_callP rfl rfl rfl hcs rfl ?_
        (repeat' first|refine kW ?_|refine kU fun bk=>?_|refine kV fun hc=>?_|refine kZ (fun hc=>?_) fun hc=>?_|fail)
        refine kR ?_
        exact ⟨L, iC, by rw [decide_eq_true (p := t.length ≤ 11) (by omega), decide_eq_true (p := a.toNat ≠ 48) (by omega), Bool.or_true]; rfl, rfl⟩
    · rename_i h12 
      rw [hl] at h12 hc
      refine OW_callP rfl rfl rfl hcs rfl ?_
      (repeat' first|refine kW ?_|refine kU fun bk=>?_|refine kV fun hc=>?_|refine kZ (fun hc=>?_) fun hc=>?_|fail)
      refine kR ?_
      exact ⟨L, iC, by rw [decide_eq_true (p := t.length ≤ 11) (by omega), decide_eq_true (p := t.length = 0) (by omega)]; rfl, rfl⟩
theorem iszone_n (s : List UInt8) (L : List Chunk) (hb : BsAt L) (hs : s.length ≤ 9223372036854775807) : GvP Tryz.prog 43 [.string (str s)].toArray L (.bool (zonB s)) := by
  refine Gv.of_body Tryz.func43 rfl rfl ?_
  by_cases h5 : s.length = 5
  · match s, h5 with
    | [c0, c1, c2, c3, c4], _ =>
      have hcs := consists_n inD _ isdigit_n [c1, c2, c3, c4] L hb (by simp)
      rw [cons_lo inD inD_lo] at hcs
      have q43 : c0 = 43 ↔ c0.toNat = 43 := (UInt8.toNat_inj (a := c0) (b := 43)).symm
      have q45 : c0 = 45 ↔ c0.toNat = 45 := (UInt8.toNat_inj (a := c0) (b := 45)).symm
      have hz : zonB [c0, c1, c2, c3, c4] = ((decide (c0.toNat = 43) || decide (c0.toNat = 45)) && [c1, c2, c3, c4].all (fun b => inD b.toNat)) := by
        unfold zonB
        rw [decide_eq_true (show [c0, c1, c2, c3, c4].length = 5 from rfl), Bool.true_and]
        show ((decide (c0 = 43) || decide (c0 = 45)) && _) = _
        rw [decide_eq_decide.2 q43, decide_eq_decide.2 q45]
        rfl
      have hl : (str [c0, c1, c2, c3, c4]).size = 5 := rfl
      rw [hz]
      (repeat' first|refine kW ?_|refine kU fun bk=>?_|refine kV fun hc=>?_|refine kZ (fun hc=>?_) fun hc=>?_|fail)
      refine OW_EV (EV_indexStr (j := 0) (u := c0) rfl rfl rfl (str_get (t := [c0, c1, c2, c3, c4]) (by simp))) rfl ?_
      (repeat' first|refine kW ?_|refine kU fun bk=>?_|refine kV fun hc=>?_|refine kZ (fun hc=>?_) fun hc=>?_|fail)
      · refine OW_EV (EV_cutL [c0, c1, c2, c3, c4] 1 5 rfl rfl rfl (by decide) (Nat.le_refl 5)) rfl ?_
        (repeat' first|refine kW ?_|refine kU fun bk=>?_|refine kV fun hc=>?_|refine kZ (fun hc=>?_) fun hc=>?_|fail)
        refine OW_callP rfl rfl rfl hcs rfl ?_
        (repeat' first|refine kW ?_|refine kU fun bk=>?_|refine kV fun hc=>?_|refine kZ (fun hc=>?_) fun hc=>?_|fail)
        refine kR ?_
        exact ⟨L, iC, by rw [decide_eq_true (p := c0.toNat = 43) (by omega)]; rfl, rfl⟩
      · refine OW_EV (EV_indexStr (j := 0) (u := c0) rfl rfl rfl (str_get (t := [c0, c1, c2, c3, c4]) (by simp))) rfl ?_
        (repeat' first|refine kW ?_|refine kU fun bk=>?_|refine kV fun hc=>?_|refine kZ (fun hc=>?_) fun hc=>?_|fail)
        · refine OW_EV (EV_cutL [c0, c1, c2, c3, c4] 1 5 rfl rfl rfl (by decide) (Nat.le_refl 5)) rfl ?_
          (repeat' first|refine kW ?_|refine kU fun bk=>?_|refine kV fun hc=>?_|refine kZ (fun hc=>?_) fun hc=>?_|fail)
          refine OW_callP rfl rfl rfl hcs rfl ?_
          (repeat' first|refine kW ?_|refine kU fun bk=>?_|refine kV fun hc=>?_|refine kZ (fun hc=>?_) fun hc=>?_|fail)
          refine kR ?_
          exact ⟨L, iC, by rw [decide_eq_true (p := c0.toNat = 45) (by omega), Bool.or_true]; rfl, rfl⟩
        · rename_i h43
          refine kR ?_
          exact ⟨L, iC, by rw [decide_eq_false (p := c0.toNat = 43) (by omega), decide_eq_false (p := c0.toNat = 45) (by omega)]; rfl, rfl⟩
  · have h6 : ¬ ((str s).size : Int) = 5 := by rw [str_size]; omega
    (repeat' first|refine kW ?_|refine kU fun bk=>?_|refine kV fun hc=>?_|refine kZ (fun hc=>?_) fun hc=>?_|fail)
    refine kR ?_
    exact ⟨L, iC, by unfold zonB; rw [decide_eq_false h5]; rfl, rfl⟩
omit [W0] in
theorem index_ge : ∀ s sub : List UInt8, -1 ≤ Lib.index s sub
  | [], sub => by unfold Lib.index; split <;> decide
  | x :: t, sub => by
    have := index_ge t sub
    unfold Lib.index
    split
    · decide
    · split <;> omega
omit [W0] in
theorem cut_cons (x : UInt8) (t sep : List UInt8) : Lib.cut (x :: t) sep = if sep.isPrefixOf (x :: t) then ([], (x :: t).drop sep.length, true) else (x :: (Lib.cut t sep).1, (Lib.cut t sep).2.1, (Lib.cut t sep).2.2) := by
  have hge := index_ge t sep
  by_cases hp : sep.isPrefixOf (x :: t) = true
  · rw [if_pos hp]
    unfold Lib.cut
    rw [show Lib.index (x :: t) sep = 0 from by rw [Lib.index, if_pos hp]]
    rw [if_pos (by decide)]
    simp
  · rw [if_neg hp]
    rcases Int.lt_or_le (Lib.index t sep) 0 with h | h
    · have h1 : Lib.index t sep = -1 := by omega
      unfold Lib.cut
      rw [show Lib.index (x :: t) sep = -1 from by rw [Lib.index, if_neg hp, h1]; rfl, h1]
      simp
    · unfold Lib.cut
      rw [show Lib.index (x :: t) sep = Lib.index t sep + 1 from by rw [Lib.index, if_neg hp, if_neg (by simp; omega)]]
      obtain ⟨k, hk⟩ : ∃ k : Nat, Lib.index t sep = k := ⟨(Lib.index t sep).toNat, by omega⟩
      rw [hk, if_pos (by omega), if_pos (by omega)]
      simp [show ((k : Int) + 1).toNat = k + 1 from by omega, show k + 1 + sep.length = (k + sep.length) + 1 from by omega]
omit [W0] in
theorem cut_one (c : UInt8) : ∀ s : List UInt8, (Lib.cut s [c]).1 = (cutN c s).1 ∧ (Lib.cut s [c]).2.1 = (cutN c s).2
  | [] => by simp [Lib.cut, Lib.index, cutN]
  | x :: t => by
    obtain ⟨h1, h2⟩ := cut_one c t
    rw [cut_cons]
    unfold cutN
    by_cases h : x = c
    · subst h
      simp
    · rw [if_neg h, if_neg (by simp [List.isPrefixOf, Ne.symm h])]
      exact ⟨by rw [h1], h2⟩
omit [W0] in
theorem cut_two (a b : UInt8) : ∀ s : List UInt8, (Lib.cut s [a, b]).1 = (cutT a b s).1 ∧ (Lib.cut s [a, b]).2.1 = (cutT a b s).2
  | [] => by simp [Lib.cut, Lib.index, cutT]
  | x :: t => by
    obtain ⟨h1, h2⟩ := cut_two a b t
    rw [cut_cons]
    unfold cutT
    by_cases h : x = a ∧ t.head? = some b
    · obtain ⟨rfl, h⟩ := h
      cases t with
      | nil => simp at h
      | cons y t =>
        simp only [List.head?_cons, Option.some.injEq] at h
        subst h
        simp
    · rw [if_neg h, if_neg ?_]
      · exact ⟨by rw [h1], h2⟩
      · intro hh
        cases t with
        | nil => simp [List.isPrefixOf] at hh
        | cons y t =>
          simp only [List.isPrefixOf, Bool.and_eq_true, beq_iff_eq, Bool.and_true] at hh
          exact h ⟨hh.1.symm, by simp [hh.2]⟩
omit [W0] in
theorem cutT_len (a b : UInt8) (s : List UInt8) : (cutT a b s).1.length ≤ s.length ∧ (cutT a b s).2.length ≤ s.length := by
  rcases cutT_spec a b s with h | ⟨x, t, h1, h2⟩
  · rw [h]; simp
  · rw [h2, h1]; simp; omega
omit [W0] in
theorem cutN_len2 (c : UInt8) (s : List UInt8) : (cutN c s).1.length ≤ s.length ∧ (cutN c s).2.length ≤ s.length := by
  rcases cutN_spec c s with ⟨_, h⟩ | ⟨x, t, _, h1, h2⟩
  · rw [h]; simp
  · rw [h2, h1]; simp; omega
theorem person_n (s : List UInt8) (L : List Chunk) (hb : BsAt L) (hs : s.length < 4294967281) : GvP Tryz.prog 15 [.string (str s)].toArray L (.bool (perB s)) := by
  refine Gv.of_body Tryz.func15 rfl rfl ?_
  unfold perB
  simp only
  have l1 := cutT_len 32 60 s
  have l2 := cutT_len 62 32 (cutT 32 60 s).2
  have l3 := cutN_len2 32 (cutT 62 32 (cutT 32 60 s).2).2
  have c1 := cut_n s [32, 60] L hb hs
  rw [(cut_two 32 60 s).1, (cut_two 32 60 s).2] at c1
  have c2 := cut_n (cutT 32 60 s).2 [62, 32] L hb (by omega)
  rw [(cut_two 62 32 _).1, (cut_two 62 32 _).2] at c2
  have c3 := cut_n (cutT 62 32 (cutT 32 60 s).2).2 [32] L hb (by omega)
  rw [(cut_one 32 _).1, (cut_one 32 _).2] at c3
  have k1 := consists_n inP _ inperson_n (cutT 32 60 s).1 L hb (by omega)
  have k2 := consists_n inP _ inperson_n (cutT 62 32 (cutT 32 60 s).2).1 L hb (by omega)
  have k3 := istime_n (cutN 32 (cutT 62 32 (cutT 32 60 s).2).2).1 L hb (by omega)
  have k4 := iszone_n (cutN 32 (cutT 62 32 (cutT 32 60 s).2).2).2 L hb (by omega)
  generalize (Lib.cut s [32, 60]).2.2 = f1 at c1
  generalize (Lib.cut (cutT 32 60 s).2 [62, 32]).2.2 = f2 at c2
  generalize (Lib.cut (cutT 62 32 (cutT 32 60 s).2).2 [32]).2.2 = f3 at c3
  generalize (cutN 32 (cutT 62 32 (cutT 32 60 s).2).2).1 = q at *
  generalize (cutN 32 (cutT 62 32 (cutT 32 60 s).2).2).2 = z at *
  generalize (cutT 62 32 (cutT 32 60 s).2).1 = m at *
  generalize (cutT 62 32 (cutT 32 60 s).2).2 = r2 at *
  generalize (cutT 32 60 s).1 = n at *
  generalize (cutT 32 60 s).2 = r1 at *
  (repeat' first|refine kW ?_|refine kU fun bk=>?_|refine kV fun hc=>?_|refine kZ (fun hc=>?_) fun hc=>?_|fail)
  refine OW_callP rfl rfl rfl c1 rfl ?_
  (repeat' first|refine kW ?_|refine kU fun bk=>?_|refine kV fun hc=>?_|refine kZ (fun hc=>?_) fun hc=>?_|fail)
  refine OW_callP rfl rfl rfl c2 rfl ?_
  (repeat' first|refine kW ?_|refine kU fun bk=>?_|refine kV fun hc=>?_|refine kZ (fun hc=>?_) fun hc=>?_|fail)
  refine OW_callP rfl rfl rfl c3 rfl ?_
  (repeat' first|refine kW ?_|refine kU fun bk=>?_|refine kV fun hc=>?_|refine kZ (fun hc=>?_) fun hc=>?_|fail)
  refine OW_callP rfl rfl rfl k1 rfl ?_
  cases consB inP n with
  | false =>
    (repeat' first|refine kW ?_|refine kU fun bk=>?_|refine kV fun hc=>?_|refine kZ (fun hc=>?_) fun hc=>?_|fail)
    exact kE
  | true =>
    (repeat' first|refine kW ?_|refine kU fun bk=>?_|refine kV fun hc=>?_|refine kZ (fun hc=>?_) fun hc=>?_|fail)
    refine OW_callP rfl rfl rfl k2 rfl ?_
    cases consB inP m with
    | false =>
      (repeat' first|refine kW ?_|refine kU fun bk=>?_|refine kV fun hc=>?_|refine kZ (fun hc=>?_) fun hc=>?_|fail)
      exact kE
    | true =>
      (repeat' first|refine kW ?_|refine kU fun bk=>?_|refine kV fun hc=>?_|refine kZ (fun hc=>?_) fun hc=>?_|fail)
      refine OW_callP rfl rfl rfl k3 rfl ?_
      cases timB q with
      | false =>
        (repeat' first|refine kW ?_|refine kU fun bk=>?_|refine kV fun hc=>?_|refine kZ (fun hc=>?_) fun hc=>?_|fail)
        exact kE
      | true =>
        (repeat' first|refine kW ?_|refine kU fun bk=>?_|refine kV fun hc=>?_|refine kZ (fun hc=>?_) fun hc=>?_|fail)
        refine OW_callP rfl rfl rfl k4 rfl ?_
        cases zonB z with
        | false =>
          (repeat' first|refine kW ?_|refine kU fun bk=>?_|refine kV fun hc=>?_|refine kZ (fun hc=>?_) fun hc=>?_|fail)
          exact kE
        | true =>
          (repeat' first|refine kW ?_|refine kU fun bk=>?_|refine kV fun hc=>?_|refine kZ (fun hc=>?_) fun hc=>?_|fail)
          exact kE
end Go.Proofs.YtlomjmdgcpjepaaGreatDoor
namespace Go.Proofs.YtlomjmdgcpjepaaGreatDoor
open Go Go.Vx Go.Ob Go.Lib
set_option linter.all false
set_option maxRecDepth 4000
theorem idBlob : idL 3 [] = [101, 54, 57, 100, 101, 50, 57, 98, 98, 50, 100, 49, 100, 54, 52, 51, 52, 98, 56, 98, 50, 57, 97, 101, 55, 55, 53, 97, 100, 56, 99, 50, 101, 52, 56, 99, 53, 51, 57, 49] := by kernel_rfl
theorem idTree : idL 2 [] = [52, 98, 56, 50, 53, 100, 99, 54, 52, 50, 99, 98, 54, 101, 98, 57, 97, 48, 54, 48, 101, 53, 52, 98, 102, 56, 100, 54, 57, 50, 56, 56, 102, 98, 101, 101, 52, 57, 48, 52] := by kernel_rfl
theorem perYes : perB [65, 32, 60, 97, 62, 32, 49, 32, 43, 48, 48, 48, 48] = true := by kernel_rfl
theorem perNo : perB [65, 32, 60, 97, 62, 32, 48, 49, 32, 43, 48, 48, 48, 48] = false := by kernel_rfl
theorem hdTag : hdL 4 7 = [116, 97, 103, 32, 55, 0] := by kernel_rfl
variable [W0]
theorem slcNil (L : List Chunk) : SlC L 1 (.slice none 0 0) 0 [] := ⟨.inl ⟨0, rfl, rfl, rfl⟩, _, _, rfl, Nat.le_refl _⟩
set_option maxHeartbeats 1000000 in
theorem awake8_n (L : List Chunk) (hb : BsAt L) : GvP Tryz.prog 16 [].toArray L (.bool true) := by
  refine Gv.of_body Tryz.func16 rfl rfl ?_
  (repeat' first|refine kW ?_|refine kU fun bk=>?_|refine kV fun hc=>?_|refine kZ (fun hc=>?_) fun hc=>?_|fail)
  refine OW_callP rfl rfl rfl (obkind_n sTree L) rfl ?_
  rw [show kdL sTree = 2 from rfl]
  (repeat' first|refine kW ?_|refine kU fun bk=>?_|refine kV fun hc=>?_|refine kZ (fun hc=>?_) fun hc=>?_|fail)
  refine OW_callP rfl rfl rfl (id_n 3 (.slice none 0 0) [] L hb (by decide) (slcNil L)) rfl ?_
  rw [idBlob]
  (repeat' first|refine kW ?_|refine kU fun bk=>?_|refine kV fun hc=>?_|refine kZ (fun hc=>?_) fun hc=>?_|fail)
  all_goals (try exact absurd rfl hc)
  refine OW_callP rfl rfl rfl (id_n 2 (.slice none 0 0) [] L hb (by decide) (slcNil L)) rfl ?_
  rw [idTree]
  (repeat' first|refine kW ?_|refine kU fun bk=>?_|refine kV fun hc=>?_|refine kZ (fun hc=>?_) fun hc=>?_|fail)
  all_goals (try exact absurd rfl hc)
  refine OW_callP rfl rfl rfl (person_n [65, 32, 60, 97, 62, 32, 49, 32, 43, 48, 48, 48, 48] L hb (by decide)) rfl ?_
  rw [perYes]
  (repeat' first|refine kW ?_|refine kU fun bk=>?_|refine kV fun hc=>?_|refine kZ (fun hc=>?_) fun hc=>?_|fail)
  refine OW_callP rfl rfl rfl (person_n [65, 32, 60, 97, 62, 32, 48, 49, 32, 43, 48, 48, 48, 48] L hb (by decide)) rfl ?_
  rw [perNo]
  (repeat' first|refine kW ?_|refine kU fun bk=>?_|refine kV fun hc=>?_|refine kZ (fun hc=>?_) fun hc=>?_|fail)
  refine OW_call rfl rfl rfl (header_n 4 7 L hb (by decide)) rfl (fun r L' hp => ?_)
  obtain ⟨C, ho, rfl⟩ := hp
  rw [hdTag] at ho
  (repeat' first|refine kW ?_|refine kU fun bk=>?_|refine kV fun hc=>?_|refine kZ (fun hc=>?_) fun hc=>?_|fail)
  refine OW_EV (EV_convStr (b := [116, 97, 103, 32, 55, 0]) rfl ho.sl) rfl ?_
  (repeat' first|refine kW ?_|refine kU fun bk=>?_|refine kV fun hc=>?_|refine kZ (fun hc=>?_) fun hc=>?_|fail)
  refine kR ?_
  exact ⟨L, iC, by rw [decide_eq_true rfl]; rfl, rfl⟩
end Go.Proofs.YtlomjmdgcpjepaaGreatDoor
namespace Go.Proofs.YtlomjmdgcpjepaaGreatDoor
open Go Go.Vx Go.Ob Go.Lib
set_option linter.all false
set_option maxRecDepth 4000
def etc : List Et → List Value
  | [] => []
  | x :: r => .string (str x.m) :: .string (str x.n) :: .string (str x.i) :: etc r
theorem etc_at : ∀ {l : List Et} {k : Nat} {x : Et}, l[k]? = some x → (etc l)[k * 3]? = some (.string (str x.m)) ∧ (etc l)[k * 3 + 1]? = some (.string (str x.n)) ∧ (etc l)[k * 3 + 2]? = some (.string (str x.i))
  | [], _, _, h => by simp at h
  | x :: r, 0, e, h => by simp at h; subst h; simp [etc]
  | x :: r, k + 1, e, h => by
    have := etc_at (l := r) (k := k) (by simpa using h)
    simpa [etc, Nat.add_mul, Nat.add_assoc] using this
def ssv (l : List (List UInt8)) : List Value := l.map fun s => .string (str s)
theorem ssv_one (l : List (List UInt8)) : ones (ssv l) = true := by simp [ssv, ones, Value.oneCell']
theorem prT_take {l : List Et} {k : Nat} {x : Et} (h : l[k]? = some x) : prT (l.take (k + 1)) = prT (l.take k) ++ prE x := by
  rw [List.take_add_one, h, prT_app]
  simp [prT]
theorem prT_le (l : List Et) (k : Nat) : (prT (l.take k)).length ≤ (prT l).length := by
  conv => rhs; rw [← List.take_append_drop k l, prT_app]
  simp
theorem prP_take {l : List (List UInt8)} {k : Nat} {x : List UInt8} (h : l[k]? = some x) : prP (l.take (k + 1)) = prP (l.take k) ++ lnL wParent x := by
  rw [List.take_add_one, h, prP_app]
  simp [prP]
theorem prP_le (l : List (List UInt8)) (k : Nat) : (prP (l.take k)).length ≤ (prP l).length := by
  conv => rhs; rw [← List.take_append_drop k l, prP_app]
  simp
section
variable [W0]
theorem sl_shape {L : List Chunk} {k m : Nat} {v : Value} {xs : List Value} (h : Sl L k v m xs) : ∃ a c, v = .slice a m c := by
  rcases h with ⟨c, rfl, rfl, _⟩ | ⟨a, c, rfl, _⟩
  · exact ⟨_, _, rfl⟩
  · exact ⟨_, _, rfl⟩
theorem sl_at3 {L : List Chunk} {v : Value} {l : List Et} {k : Nat} {x : Et} (h : Sl L 3 v l.length (etc l)) (hx : l[k]? = some x) :
    ∃ b off cap c T fr, v = .slice (some ⟨b, off, none⟩) l.length cap ∧ Fnd L b (.cells c T fr) ∧ c[off + k * 3]? = some (.string (str x.m)) ∧ c[off + k * 3 + 1]? = some (.string (str x.n)) ∧ c[off + k * 3 + 2]? = some (.string (str x.i)) := by
  have hk : k < l.length := (List.getElem?_eq_some_iff.1 hx).1
  obtain ⟨h1, h2, h3⟩ := etc_at hx
  rcases h with ⟨c, rfl, h0, _⟩ | ⟨a, cap, rfl, hr, hl⟩
  · omega
  · rcases hr with hr | ⟨b, off, c, T, fr, rfl, hf, hc⟩
    · rw [hr] at h1; simp at h1
    · exact ⟨b, off, cap, c, T, fr, rfl, hf, hc _ _ h1, by rw [Nat.add_assoc]; exact hc _ _ h2, by rw [Nat.add_assoc]; exact hc _ _ h3⟩
theorem sl_at1 {L : List Chunk} {v : Value} {l : List (List UInt8)} {k : Nat} {x : List UInt8} (h : Sl L 1 v l.length (ssv l)) (hx : l[k]? = some x) :
    ∃ b off cap c T fr, v = .slice (some ⟨b, off, none⟩) l.length cap ∧ Fnd L b (.cells c T fr) ∧ c[off + k * 1]? = some (.string (str x)) := by
  have hk : k < l.length := (List.getElem?_eq_some_iff.1 hx).1
  have h1 : (ssv l)[k]? = some (.string (str x)) := by simp [ssv, hx]
  rcases h with ⟨c, rfl, h0, _⟩ | ⟨a, cap, rfl, hr, hl⟩
  · omega
  · rcases hr with hr | ⟨b, off, c, T, fr, rfl, hf, hc⟩
    · rw [hr] at h1; simp at h1
    · exact ⟨b, off, cap, c, T, fr, rfl, hf, by rw [Nat.mul_one]; exact hc _ _ h1⟩
theorem addline_n (v : Value) (b w s : List UInt8) (C : Chunk) (L : List Chunk) (h : OwG 5 v b.length (bsv b) C) (hl : b.length + w.length + s.length ≤ 100000000000) :
    Gv Tryz.prog 37 [v, .string (str w), .string (str s)].toArray (C :: L) (fun r L' => ∃ C', OwG 5 r (b ++ lnL w s).length (bsv (b ++ lnL w s)) C' ∧ L' = C' :: L) := by
  refine Gv.of_body (args := [v, .string (str w), .string (str s)]) Tryz.func37 rfl rfl ?_
  have e1 : (b ++ w).length = b.length + (str w).size := by rw [str_size, List.length_append]
  have e2 : (b ++ w ++ s).length = b.length + (str w).size + (str s).size := by rw [str_size, str_size, List.length_append, List.length_append]
  have z1 := str_size w
  have z2 := str_size s
  (repeat' first|refine kW ?_|refine kU fun bk=>?_|refine kV fun hc=>?_|refine kZ (fun hc=>?_) fun hc=>?_|fail)
  refine OW_appGS rfl rfl h (by repeat (first | exact Zip.here _ | apply Zip.there)) (by omega) (by unfold maxLen; omega) rfl (fun v1 C1 h1 => ?_)
  rw [str_data, ← bsv_append, ← e1] at h1
  (repeat' first|refine kW ?_|refine kU fun bk=>?_|refine kV fun hc=>?_|refine kZ (fun hc=>?_) fun hc=>?_|fail)
  refine OW_appGS rfl rfl h1 (by repeat (first | exact Zip.here _ | apply Zip.there)) (by omega) (by unfold maxLen; omega) rfl (fun v2 C2 h2 => ?_)
  rw [str_data, ← bsv_append, e1, ← e2] at h2
  (repeat' first|refine kW ?_|refine kU fun bk=>?_|refine kV fun hc=>?_|refine kZ (fun hc=>?_) fun hc=>?_|fail)
  refine OW_buildSlice (cs := bsv [10]) rfl (by rfl) (by simp [fillL, patch, Value.cells, zeros]; rfl) (by omega) rfl rfl (fun b1 => ?_)
  (repeat' first|refine kW ?_|refine kU fun bk=>?_|refine kV fun hc=>?_|refine kZ (fun hc=>?_) fun hc=>?_|fail)
  refine OW_appG rfl rfl h2 (sl_cells (xs := bsv [10]) (m := 1) Fnd.here rfl (by simp)) (by repeat (first | exact Zip.here _ | apply Zip.there)) (by rfl) bsv_ones (by omega) (by unfold maxLen; omega) rfl (fun v3 C3 h3 => ?_)
  rw [← bsv_append] at h3
  (repeat' first|refine kW ?_|refine kU fun bk=>?_|refine kV fun hc=>?_|refine kZ (fun hc=>?_) fun hc=>?_|fail)
  refine kR ?_
  refine ⟨C3 :: L, iC, C3, ?_, rfl⟩
  have e3 : b ++ lnL w s = b ++ w ++ s ++ [10] := by simp [lnL]
  rw [e3]
  have e4 : (b ++ w ++ s ++ [10]).length = (b ++ w ++ s).length + 1 := List.length_append
  rw [e4]
  exact h3
theorem addmessage_n (v : Value) (b s : List UInt8) (C : Chunk) (L : List Chunk) (h : OwG 5 v b.length (bsv b) C) (hl : b.length + s.length ≤ 100000000000) :
    Gv Tryz.prog 38 [v, .string (str s)].toArray (C :: L) (fun r L' => ∃ C', OwG 5 r (b ++ [10] ++ s).length (bsv (b ++ [10] ++ s)) C' ∧ L' = C' :: L) := by
  refine Gv.of_body (args := [v, .string (str s)]) Tryz.func38 rfl rfl ?_
  have e1 : (b ++ [10]).length = b.length + 1 := by simp
  have e2 : (b ++ [10] ++ s).length = b.length + 1 + (str s).size := by rw [str_size, List.length_append, List.length_append]; rfl
  have z2 := str_size s
  (repeat' first|refine kW ?_|refine kU fun bk=>?_|refine kV fun hc=>?_|refine kZ (fun hc=>?_) fun hc=>?_|fail)
  refine OW_buildSlice (cs := bsv [10]) rfl (by rfl) (by simp [fillL, patch, Value.cells, zeros]; rfl) (by omega) rfl rfl (fun b1 => ?_)
  (repeat' first|refine kW ?_|refine kU fun bk=>?_|refine kV fun hc=>?_|refine kZ (fun hc=>?_) fun hc=>?_|fail)
  refine OW_appG rfl rfl h (sl_cells (xs := bsv [10]) (m := 1) Fnd.here rfl (by simp)) (by repeat (first | exact Zip.here _ | apply Zip.there)) (by rfl) bsv_ones (by omega) (by unfold maxLen; omega) rfl (fun v3 C3 h3 => ?_)
  rw [← bsv_append, ← e1] at h3
  (repeat' first|refine kW ?_|refine kU fun bk=>?_|refine kV fun hc=>?_|refine kZ (fun hc=>?_) fun hc=>?_|fail)
  refine OW_appGS rfl rfl h3 (by repeat (first | exact Zip.here _ | apply Zip.there)) (by omega) (by unfold maxLen; omega) rfl (fun v2 C2 h2 => ?_)
  rw [str_data, ← bsv_append, e1, ← e2] at h2
  (repeat' first|refine kW ?_|refine kU fun bk=>?_|refine kV fun hc=>?_|refine kZ (fun hc=>?_) fun hc=>?_|fail)
  refine kR ?_
  exact ⟨C2 :: L, iC, C2, h2, rfl⟩
set_option maxHeartbeats 1000000 in
theorem treebytes_n (vl : Value) (l : List Et) (L : List Chunk) (h : Sl L 3 vl l.length (etc l)) (hl : (prT l).length ≤ 100000000000) (hi : ∀ x ∈ l, x.i.length ≤ 9223372036854775807) (hll : l.length ≤ 100000000000) :
    Gv Tryz.prog 10 [.agg #[vl]].toArray L (fun r L' => ∃ C, OwG 5 r (prT l).length (bsv (prT l)) C ∧ L' = C :: L) := by
  obtain ⟨a0, c0, rfl⟩ := sl_shape h
  refine Gv.of_body (args := [.agg #[.slice a0 l.length c0]]) Tryz.func10 rfl rfl ?_
  (repeat' first|refine kW ?_|refine kU fun bk=>?_|refine kV fun hc=>?_|refine kZ (fun hc=>?_) fun hc=>?_|fail)
  revert bk; intro q
  refine WC_loop (X := Nat × Value × Chunk) (fun x => [(7, .slice a0 l.length c0), (8, .int .i64 (l.length : Int)), (9, .int .i64 (x.1 : Int)), (3, x.2.1)]) (fun x => x.2.2 :: L)
    (fun x => x.1 ≤ l.length ∧ OwG 5 x.2.1 (prT (l.take x.1)).length (bsv (prT (l.take x.1))) x.2.2) (fun x => l.length - x.1) (0, .slice none 0 0, []) ⟨Nat.zero_le _, OwG.nil⟩ iS (fun w h => Holds.nil.2 h.drop) ?_
  intro x ⟨h1, h2⟩
  obtain ⟨k, v, C⟩ := x
  simp only at h1 h2 ⊢
  (repeat' first|refine kW ?_|refine kU fun bk=>?_|refine kV fun hc=>?_|refine kZ (fun hc=>?_) fun hc=>?_|fail)
  · have hk : k < l.length := by omega
    obtain ⟨e, he⟩ : ∃ e, l[k]? = some e := ⟨l[k], by simp [hk]⟩
    have htk := prT_take he
    have hle := prT_le l (k + 1)
    have him := hi e (List.mem_of_getElem? he)
    obtain ⟨b, off, cap, c, T, fr, hv, hfn, g0, g1, g2⟩ := sl_at3 h he
    injection hv with e1 _ e3
    subst e1 e3
    have hlp : (prE e).length = e.m.length + 1 + e.n.length + 1 + 20 := by simp only [prE, List.length_append, List.length_cons, List.length_nil, rawL_len]
    rw [htk, List.length_append, hlp] at hle
    refine OW_EV (EV_indexAddr (j := k) rfl rfl rfl hk) rfl ?_
    (repeat' first|refine kW ?_|refine kU fun bk=>?_|refine kV fun hc=>?_|refine kZ (fun hc=>?_) fun hc=>?_|fail)
    have hrd : RdAt (C :: L) ⟨b, off + k * 3, none⟩ [.string (str e.m), .string (str e.n), .string (str e.i)] := .inr ⟨b, off + k * 3, c, T, fr, rfl, hfn.there, fun j u hj => by
      match j, hj with
      | 0, hj => simp at hj; subst hj; exact g0
      | 1, hj => simp at hj; subst hj; exact g1
      | 2, hj => simp at hj; subst hj; exact g2
      | j + 3, hj => simp at hj⟩
    refine OW_EV (EV_loadAgg rfl hrd rfl) rfl ?_
    (repeat' first|refine kW ?_|refine kU fun bk=>?_|refine kV fun hc=>?_|refine kZ (fun hc=>?_) fun hc=>?_|fail)
    refine OW_appGS rfl rfl h2 (by repeat (first | exact Zip.here _ | apply Zip.there)) (by rw [str_size]; omega) (by rw [str_size]; unfold maxLen; omega) rfl (fun v1 C1 p1 => ?_)
    rw [str_size, str_data, ← bsv_append, ← List.length_append] at p1
    (repeat' first|refine kW ?_|refine kU fun bk=>?_|refine kV fun hc=>?_|refine kZ (fun hc=>?_) fun hc=>?_|fail)
    refine OW_buildSlice (cs := bsv [32]) rfl (by rfl) (by simp [fillL, patch, Value.cells, zeros]; rfl) (by omega) rfl rfl (fun b1 => ?_)
    (repeat' first|refine kW ?_|refine kU fun bk=>?_|refine kV fun hc=>?_|refine kZ (fun hc=>?_) fun hc=>?_|fail)
    refine OW_appG rfl rfl p1 (sl_cells (xs := bsv [32]) (m := 1) Fnd.here rfl (by simp)) (by repeat (first | exact Zip.here _ | apply Zip.there)) (by rfl) bsv_ones (by rw [List.length_append]; omega) (by rw [List.length_append]; unfold maxLen; omega) rfl (fun v2 C2 p2 => ?_)
    rw [← bsv_append] at p2
    (repeat' first|refine kW ?_|refine kU fun bk=>?_|refine kV fun hc=>?_|refine kZ (fun hc=>?_) fun hc=>?_|fail)
    refine OW_appGS rfl rfl p2 (by repeat (first | exact Zip.here _ | apply Zip.there)) (by rw [str_size, List.length_append]; omega) (by rw [str_size, List.length_append]; unfold maxLen; omega) rfl (fun v3 C3 p3 => ?_)
    rw [str_size, str_data, ← bsv_append] at p3
    (repeat' first|refine kW ?_|refine kU fun bk=>?_|refine kV fun hc=>?_|refine kZ (fun hc=>?_) fun hc=>?_|fail)
    refine OW_buildSlice (cs := bsv [0]) rfl (by rfl) (by simp [fillL, patch, Value.cells, zeros]; rfl) (by omega) rfl rfl (fun b2 => ?_)
    (repeat' first|refine kW ?_|refine kU fun bk=>?_|refine kV fun hc=>?_|refine kZ (fun hc=>?_) fun hc=>?_|fail)
    refine OW_appG rfl rfl p3 (sl_cells (xs := bsv [0]) (m := 1) Fnd.here rfl (by simp)) (by repeat (first | exact Zip.here _ | apply Zip.there)) (by rfl) bsv_ones (by rw [List.length_append]; omega) (by rw [List.length_append]; unfold maxLen; omega) rfl (fun v4 C4 p4 => ?_)
    rw [← bsv_append] at p4
    (repeat' first|refine kW ?_|refine kU fun bk=>?_|refine kV fun hc=>?_|refine kZ (fun hc=>?_) fun hc=>?_|fail)
    refine OW_call rfl rfl rfl (idbytes_n e.i _ him) rfl (fun r L' hp => ?_)
    obtain ⟨C5, ho, rfl⟩ := hp
    (repeat' first|refine kW ?_|refine kU fun bk=>?_|refine kV fun hc=>?_|refine kZ (fun hc=>?_) fun hc=>?_|fail)
    refine OW_appG rfl rfl p4 (ow_sl ho) (by repeat (first | exact Zip.here _ | apply Zip.there)) (by rfl) bsv_ones (by rw [List.length_append]; omega) (by rw [List.length_append]; unfold maxLen; omega) rfl (fun v5 C6 p5 => ?_)
    rw [← bsv_append] at p5
    (repeat' first|refine kW ?_|refine kU fun bk=>?_|refine kV fun hc=>?_|refine kZ (fun hc=>?_) fun hc=>?_|fail)
    refine WQ_round (X := Nat × Value × Chunk) (μ := fun x => l.length - x.1) (x := (k, v, C)) (k + 1, v5, C6) (by simp only; omega) ⟨by simp only; omega, ?_⟩ iS (fun w h => iH h)
    simp only
    have e6 : prT (l.take (k + 1)) = prT (l.take k) ++ e.m ++ [32] ++ e.n ++ [0] ++ rawL e.i := by rw [htk]; simp [prE]
    have e7 : (prT (l.take (k + 1))).length = (prT (l.take k) ++ e.m).length + 1 + e.n.length + 1 + 20 := by rw [e6]; simp only [List.length_append, List.length_cons, List.length_nil, rawL_len]
    rw [e7, e6]
    exact p5
  · rw [List.take_of_length_le (by omega)] at h2
    refine kR ?_
    exact ⟨_, iC, C, h2, rfl⟩
end
end Go.Proofs.YtlomjmdgcpjepaaGreatDoor
namespace Go.Vx
open Go Go.Ob Go.MapKept Go.Proofs.YtlomjmdgcpjepaaGreatDoor
set_option linter.all false
def insS (ks : List (List UInt8)) (s : List UInt8) : List (List UInt8) := if s ∈ ks then ks else ks ++ [s]
structure MsR (es : Array MapEntry) (ks : List (List UInt8)) : Prop where
  keys : es.toList.map (·.key) = ks.map fun s => Value.string (str s)
  one : ks.Nodup
theorem MsR.nil : MsR #[] [] := ⟨rfl, List.nodup_nil⟩
theorem MsR.len {es : Array MapEntry} {ks : List (List UInt8)} (h : MsR es ks) : es.size = ks.length := by
  have := congrArg List.length h.keys
  simpa using this
theorem MsR.isKey {es : Array MapEntry} {ks : List (List UInt8)} (h : MsR es ks) : ∀ x ∈ es.toList, IsKey .string x.key := fun x hx => by
  have : x.key ∈ es.toList.map (·.key) := List.mem_map_of_mem hx
  rw [h.keys] at this
  obtain ⟨s, _, hs⟩ := List.mem_map.1 this
  rw [← hs]
  trivial
section
variable [W0]
variable {P : Program} {n : Nat} {M : List (Nat × Value)} {L : List Chunk} {K : List (Nat × Value) → List Chunk → Prop}
variable {d : Nat} {ty : TypeId} {ps : String} {af : Array Edge} {g : Option (Nat × Bool)} {x y z : Operand} {v : Value}
def MsD (b : Nat) (ks : List (List UInt8)) (C : Chunk) : Prop := ∃ es c, C = [(b, .map es c)] ∧ MsR es ks
theorem OW_makeMapH {t kt et : Nat} {kk : IntKind} {i : Int} (hm : P.underlying t = some (.map kt et)) (hx : ev M x = some (.int kk i)) (hn : Nat.blt d n = true) (h : ∀ b C, MsD b [] C → K ((d, .map (some b)) :: M) (C :: L)) : OW P n ⟨some d, .makeMap t (some x), ty, ps, af, g⟩ K M L :=
  OW_newval (ob := .map #[] 0) (f := fun b => .map (some b)) rfl hn (fun a w ha hw => by
    have e : (Instr.makeMap t (some (.int kk i))).run P w = .ok (.map (some w.heap.size)) (w.alloc (.map #[] 0)) := by
      simp only [Instr.makeMap, Sem.run_bind, run_underlying hm, Result.andThen_ok]
      rfl
    simp only [execOp, Option.map_some, ha.eval hx, Sem.run_bind, e, Result.andThen_ok, Sem.run_pure]) (fun b => h b _ ⟨#[], 0, rfl, MsR.nil⟩)
theorem OW_mapUpS {mt kt et b : Nat} {ks : List (List UInt8)} {s : List UInt8} {C : Chunk} {A B : List Chunk} (hm : P.underlying mt = some (.map kt et)) (hkt : P.underlying kt = some .string) (hx : ev M x = some (.map (some b))) (hy : ev M y = some (.string (str s))) (hz : ev M z = some v)
    (hr : MsD b ks C) (hzip : Zip C L A B) (h : ∀ C', MsD b (insS ks s) C' → K M (A ++ C' :: B)) : OW P n ⟨none, .mapUpdate mt x y z, ty, ps, af, g⟩ K M L := ⟨fun a w next Q ha hw hk' => by
  obtain ⟨es, c, rfl, hr⟩ := hr
  have hL := hzip.eq
  subst hL
  have hw' := hw.perm List.perm_middle
  have hb : w.heap[b]? = some (.map es c) := (Fnd.here (L := A ++ B)).get hw'
  have hlt : b < w.heap.size := by
    rcases Nat.lt_or_ge b w.heap.size with h' | h'
    · exact h'
    · simp [Array.getElem?_eq_none h'] at hb
  have hik : IsKey .string (Value.string (str s)) := trivial
  have hc := run_checkKey (P := P) (w := w) hkt hik false 9999
  have hst := run_keyThatStays (P := P) (w := w) hik
  obtain ⟨es', c', hr', hrun⟩ : ∃ es' c', MsR es' (insS ks s) ∧ (execOp a.eval ⟨none, .mapUpdate mt x y z, ty, ps, af, g⟩).run P w = .ok .skip { w with heap := w.heap.setIfInBounds b (.map es' c') } := by
    rcases findNow_spec hik es.toList 0 hr.isKey with ⟨h1, h2⟩ | ⟨j, e0, h1, h3, h4⟩
    · have hno : s ∉ ks := fun hin => by
        have : Value.string (str s) ∈ es.toList.map (·.key) := by rw [hr.keys]; exact List.mem_map_of_mem hin
        obtain ⟨e, he, hek⟩ := List.mem_map.1 this
        exact h2 e he hek
      have hf := run_findKey (P := P) (w := w) hkt h1
      refine ⟨es.push { key := .string (str s), val := v, born := c }, c + 1, ?_, ?_⟩
      · unfold insS
        rw [if_neg hno]
        refine ⟨by simp [hr.keys], ?_⟩
        rw [List.nodup_append]
        exact ⟨hr.one, by simp, fun a ha b hb => by simp only [List.mem_singleton] at hb; subst hb; exact fun h => hno (h ▸ ha)⟩
      · simp only [execOp, ha.eval hx, ha.eval hy, ha.eval hz, Instr.mapUpdate, Sem.run_bind, run_underlying hm, Go.MapKept.run_getObj_map hb, Result.andThen_ok, Sem.run_pure, hc, hf, Go.MapKept.run_setObj_map _ hb]
    · have hin : s ∈ ks := by
        have : e0.key ∈ es.toList.map (·.key) := List.mem_map_of_mem (List.mem_of_getElem? h3)
        rw [hr.keys, h4] at this
        obtain ⟨q, hq, hqs⟩ := List.mem_map.1 this
        simp only [Value.string.injEq] at hqs
        rw [← str_inj.1 hqs]
        exact hq
      have h5 : es[j]? = some e0 := by simpa using h3
      have hf := run_findKey (P := P) (w := w) hkt h1
      refine ⟨es.modify j fun e => { e with key := .string (str s), val := v }, c, ?_, ?_⟩
      · unfold insS
        rw [if_pos hin]
        refine ⟨?_, hr.one⟩
        rw [← hr.keys]
        refine List.ext_getElem? fun i => ?_
        simp only [List.getElem?_map, Array.getElem?_toList, Array.getElem?_modify]
        by_cases hij : j = i
        · subst hij
          rw [if_pos rfl, h5]
          simp [h4]
        · rw [if_neg hij]
      · simp only [execOp, ha.eval hx, ha.eval hy, ha.eval hz, Instr.mapUpdate, Sem.run_bind, run_underlying hm, Go.MapKept.run_getObj_map hb, Result.andThen_ok, Sem.run_pure, hc, hf, Nat.zero_add, h5, Option.map_some, Option.getD_some, h4, hst, Go.MapKept.run_setObj_map _ hb]
  unfold Oper.wp
  rw [hrun, Oper.upon_skip]
  refine (hk' _ _ (h [(b, .map es' c')] ⟨es', c', rfl, hr'⟩)).out _ _ ha (Holds.perm (L := [(b, .map es' c')] :: (A ++ B)) ?_ List.perm_middle.symm)
  refine hw'.upd Upd.front ?_ (fun c2 hc2 => ?_) rfl rfl
  · show (w.heap.setIfInBounds b _)[b]? = _
    rw [Array.getElem?_setIfInBounds_self_of_lt hlt]
  · show (w.heap.setIfInBounds b _)[c2]? = _
    rw [Array.getElem?_setIfInBounds_ne (fun hh => hc2 hh.symm)]⟩
theorem EV_lenMap {t kt et b : Nat} {ks : List (List UInt8)} {C : Chunk} (hm : P.underlying t = some (.map kt et)) (hx : ev M x = some (.map (some b))) (hr : MsD b ks C) (hi : Inc [C] L) :
    EV P n ⟨some d, .call ⟨.builtin .len, #[x], #[t]⟩, ty, ps, af, g⟩ M L d (.int .i64 (ks.length : Int)) :=
  ⟨rfl, fun a w ha hw => by
    obtain ⟨es, c, rfl, hr⟩ := hr
    have hb : w.heap[b]? = some (.map es c) := (Fnd.here (L := [])).get (hi.holds hw)
    simp [execOp, resolve, invoke, builtin, ha.eval hx, Builtin.len_, run_underlying hm, getObj, Sem.run, hb, goInt, hr.len]⟩
end
end Go.Vx
namespace Go.Proofs.YtlomjmdgcpjepaaGreatDoor
open Go Go.Vx Go.Ob Go.Lib
set_option linter.all false
set_option maxRecDepth 4000
def ddS (l : List (List UInt8)) : List (List UInt8) := l.foldl insS []
theorem ddS_snoc (l : List (List UInt8)) (x : List UInt8) : ddS (l ++ [x]) = insS (ddS l) x := by simp [ddS]
theorem rev_ind {α : Type} {q : List α → Prop} (h0 : q []) (hs : ∀ l x, q l → q (l ++ [x])) (l : List α) : q l := by
  have : ∀ (n : Nat) (l : List α), l.length = n → q l := by
    intro n
    induction n with
    | zero => intro l hl; rw [List.eq_nil_of_length_eq_zero hl]; exact h0
    | succ n ih =>
      intro l hl
      rcases List.eq_nil_or_concat l with rfl | ⟨m, x, rfl⟩
      · exact h0
      · rw [List.concat_eq_append] at hl ⊢
        exact hs m x (ih m (by simp at hl; omega))
  exact this _ l rfl
theorem ddS_mem (l : List (List UInt8)) : ∀ x, x ∈ ddS l ↔ x ∈ l := by
  refine rev_ind (q := fun l => ∀ x, x ∈ ddS l ↔ x ∈ l) (fun x => by simp [ddS]) (fun l y ih x => ?_) l
  rw [ddS_snoc]
  unfold insS
  split
  · rename_i h
    rw [ih, List.mem_append, List.mem_singleton]
    rw [ih] at h
    exact ⟨.inl, fun hh => hh.elim id (fun e => e ▸ h)⟩
  · rw [List.mem_append, List.mem_append, ih]
theorem ddS_len (l : List (List UInt8)) : (ddS l).length ≤ l.length ∧ ((ddS l).length = l.length ↔ l.Nodup) := by
  refine rev_ind (q := fun l => (ddS l).length ≤ l.length ∧ ((ddS l).length = l.length ↔ l.Nodup)) ⟨Nat.le_refl _, by simp [ddS]⟩ (fun l y ih => ?_) l
  obtain ⟨h1, h2⟩ := ih
  rw [ddS_snoc]
  have hm := ddS_mem l y
  unfold insS
  by_cases h : y ∈ ddS l
  · rw [if_pos h]
    refine ⟨by simp; omega, ?_⟩
    constructor
    · intro e; simp at e; omega
    · intro hn
      rw [List.nodup_append] at hn
      exact absurd rfl (hn.2.2 y (hm.1 h) y (by simp))
  · rw [if_neg h]
    refine ⟨by simp; omega, ?_⟩
    have e : (ddS l ++ [y]).length = (l ++ [y]).length ↔ (ddS l).length = l.length := by simp
    rw [e, h2, List.nodup_append]
    exact ⟨fun hn => ⟨hn, by simp, fun a ha b hb => by simp only [List.mem_singleton] at hb; subst hb; exact fun hh => h (hm.2 (hh ▸ ha))⟩, fun hn => hn.1⟩
section
variable [W0]
omit [W0] in
theorem pre_iff (w s : List UInt8) : w.isPrefixOf s = decide (w.length ≤ s.length ∧ s.take w.length = w) := by
  rw [Bool.eq_iff_iff, List.isPrefixOf_iff_prefix, decide_eq_true_eq]
  constructor
  · rintro ⟨t, rfl⟩; simp
  · rintro ⟨_, h⟩; rw [← h]; exact List.take_prefix _ _
theorem hasprefix0_n (s w : List UInt8) (L : List Chunk) (hs : s.length ≤ 9223372036854775000) (hw : w.length ≤ 9223372036854775000) : GvP Tryz.prog 86 [.string (str s), .string (str w)].toArray L (.bool (w.isPrefixOf s)) := by
  refine Gv.of_body (args := [.string (str s), .string (str w)]) Tryz.func86 rfl rfl ?_
  have z1 : (str s).size = s.length := str_size s
  have z2 : (str w).size = w.length := str_size w
  rw [pre_iff]
  (repeat' first|refine kW ?_|refine kU fun bk=>?_|refine kV fun hc=>?_|refine kZ (fun hc=>?_) fun hc=>?_|fail)
  · have h1 := hc
    rw [z1, z2] at h1
    refine OW_EV (EV_cutL s 0 w.length rfl rfl (bnd_int rfl (by omega)) (Nat.zero_le _) (by omega)) rfl ?_
    (repeat' first|refine kW ?_|refine kU fun bk=>?_|refine kV fun hc=>?_|refine kZ (fun hc=>?_) fun hc=>?_|fail)
    refine kR ?_
    refine ⟨_, iC, ?_, rfl⟩
    show Value.bool _ = Value.bool _
    congr 1
    rw [Bool.eq_iff_iff, decide_eq_true_eq, decide_eq_true_eq, str_inj, List.drop_zero, Nat.sub_zero]
    exact ⟨fun h => ⟨by omega, h⟩, fun h => h.2⟩
  · rw [z1, z2] at hc
    refine kR ?_
    exact ⟨_, iC, by rw [decide_eq_false (by omega)]; rfl, rfl⟩
theorem hasprefix_n (s w : List UInt8) (L : List Chunk) (hs : s.length ≤ 9223372036854775000) (hw : w.length ≤ 9223372036854775000) : GvP Tryz.prog 64 [.string (str s), .string (str w)].toArray L (.bool (w.isPrefixOf s)) := by
  refine Gv.of_body (args := [.string (str s), .string (str w)]) Tryz.func64 rfl rfl ?_
  (repeat' first|refine kW ?_|refine kU fun bk=>?_|refine kV fun hc=>?_|refine kZ (fun hc=>?_) fun hc=>?_|fail)
  refine OW_callP rfl rfl rfl (hasprefix0_n s w _ hs hw) rfl ?_
  (repeat' first|refine kW ?_|refine kU fun bk=>?_|refine kV fun hc=>?_|refine kZ (fun hc=>?_) fun hc=>?_|fail)
  exact kE
theorem trimprefix0_n (s w : List UInt8) (L : List Chunk) (hs : s.length ≤ 9223372036854775000) (hw : w.length ≤ 9223372036854775000) : GvP Tryz.prog 98 [.string (str s), .string (str w)].toArray L (.string (str (trP w s))) := by
  refine Gv.of_body (args := [.string (str s), .string (str w)]) Tryz.func98 rfl rfl ?_
  have z1 : (str s).size = s.length := str_size s
  have z2 : (str w).size = w.length := str_size w
  (repeat' first|refine kW ?_|refine kU fun bk=>?_|refine kV fun hc=>?_|refine kZ (fun hc=>?_) fun hc=>?_|fail)
  refine OW_callP rfl rfl rfl (hasprefix0_n s w _ hs hw) rfl ?_
  unfold trP
  cases h : w.isPrefixOf s with
  | true =>
    have hl : w.length ≤ s.length := (List.isPrefixOf_iff_prefix.1 h).length_le
    (repeat' first|refine kW ?_|refine kU fun bk=>?_|refine kV fun hc=>?_|refine kZ (fun hc=>?_) fun hc=>?_|fail)
    refine OW_EV (EV_cutL s w.length s.length rfl (bnd_int rfl (by omega)) rfl hl (Nat.le_refl _)) rfl ?_
    (repeat' first|refine kW ?_|refine kU fun bk=>?_|refine kV fun hc=>?_|refine kZ (fun hc=>?_) fun hc=>?_|fail)
    refine kR ?_
    refine ⟨_, iC, ?_, rfl⟩
    rw [if_pos rfl, List.take_of_length_le (by simp)]
    rfl
  | false =>
    (repeat' first|refine kW ?_|refine kU fun bk=>?_|refine kV fun hc=>?_|refine kZ (fun hc=>?_) fun hc=>?_|fail)
    rw [if_neg (by simp)]
    exact kE
theorem trimprefix_n (s w : List UInt8) (L : List Chunk) (hs : s.length ≤ 9223372036854775000) (hw : w.length ≤ 9223372036854775000) : GvP Tryz.prog 85 [.string (str s), .string (str w)].toArray L (.string (str (trP w s))) := by
  refine Gv.of_body (args := [.string (str s), .string (str w)]) Tryz.func85 rfl rfl ?_
  (repeat' first|refine kW ?_|refine kU fun bk=>?_|refine kV fun hc=>?_|refine kZ (fun hc=>?_) fun hc=>?_|fail)
  refine OW_callP rfl rfl rfl (trimprefix0_n s w _ hs hw) rfl ?_
  (repeat' first|refine kW ?_|refine kU fun bk=>?_|refine kV fun hc=>?_|refine kZ (fun hc=>?_) fun hc=>?_|fail)
  exact kE
theorem cutline_n (s w : List UInt8) (L : List Chunk) (hb : BsAt L) (hs : s.length < 4294967281) (hw : w.length ≤ 1000) : GvP Tryz.prog 63 [.string (str s), .string (str w)].toArray L (.tuple #[.string (str (clL w s).1), .string (str (clL w s).2)]) := by
  refine Gv.of_body (args := [.string (str s), .string (str w)]) Tryz.func63 rfl rfl ?_
  have c1 := cut_n s [10] L hb hs
  rw [(cut_one 10 s).1, (cut_one 10 s).2] at c1
  have l1 := cutN_len2 10 s
  generalize (Lib.cut s [10]).2.2 = f1 at c1
  unfold clL
  (repeat' first|refine kW ?_|refine kU fun bk=>?_|refine kV fun hc=>?_|refine kZ (fun hc=>?_) fun hc=>?_|fail)
  refine OW_callP rfl rfl rfl c1 rfl ?_
  (repeat' first|refine kW ?_|refine kU fun bk=>?_|refine kV fun hc=>?_|refine kZ (fun hc=>?_) fun hc=>?_|fail)
  refine OW_callP rfl rfl rfl (trimprefix_n (cutN 10 s).1 w _ (by omega) (by omega)) rfl ?_
  (repeat' first|refine kW ?_|refine kU fun bk=>?_|refine kV fun hc=>?_|refine kZ (fun hc=>?_) fun hc=>?_|fail)
  exact kE
theorem cutmessage_n (s : List UInt8) (L : List Chunk) (hs : s.length ≤ 9223372036854775000) : GvP Tryz.prog 65 [.string (str s)].toArray L (.string (str (trP [10] s))) := by
  refine Gv.of_body (args := [.string (str s)]) Tryz.func65 rfl rfl ?_
  (repeat' first|refine kW ?_|refine kU fun bk=>?_|refine kV fun hc=>?_|refine kZ (fun hc=>?_) fun hc=>?_|fail)
  refine OW_callP rfl rfl rfl (trimprefix_n s [10] _ hs (by simp)) rfl ?_
  (repeat' first|refine kW ?_|refine kU fun bk=>?_|refine kV fun hc=>?_|refine kZ (fun hc=>?_) fun hc=>?_|fail)
  exact kE
theorem inmessage_n (c : Nat) (L : List Chunk) : GvP Tryz.prog 154 [.int .i32 (c : Int)].toArray L (.bool (inM c)) := by
  refine Gv.of_body (args := [.int .i32 (c : Int)]) Tryz.func154 rfl rfl ?_
  unfold inM
  (repeat' first|refine kW ?_|refine kU fun bk=>?_|refine kV fun hc=>?_|refine kZ (fun hc=>?_) fun hc=>?_|fail)
  refine kR ?_
  refine ⟨_, iC, ?_, rfl⟩
  show Value.bool _ = Value.bool _
  congr 1
  rw [Bool.eq_iff_iff]
  simp
theorem ismessage_n (s : List UInt8) (L : List Chunk) (hb : BsAt L) (hs : s.length < 4294967281) : GvP Tryz.prog 153 [.string (str s)].toArray L (.bool (msgB s)) := by
  refine Gv.of_body (args := [.string (str s)]) Tryz.func153 rfl rfl ?_
  (repeat' first|refine kW ?_|refine kU fun bk=>?_|refine kV fun hc=>?_|refine kZ (fun hc=>?_) fun hc=>?_|fail)
  refine OW_callP rfl rfl rfl (consists_n inM _ inmessage_n s _ hb (by omega)) rfl ?_
  (repeat' first|refine kW ?_|refine kU fun bk=>?_|refine kV fun hc=>?_|refine kZ (fun hc=>?_) fun hc=>?_|fail)
  exact kE
theorem bytesequal_n (v1 v2 : Value) (a b : List UInt8) (L : List Chunk) (h1 : Sl L 1 v1 a.length (bsv a)) (h2 : Sl L 1 v2 b.length (bsv b)) : GvP Tryz.prog 36 [v1, v2].toArray L (.bool (decide (a = b))) := by
  refine Gv.of_body (args := [v1, v2]) Tryz.func36 rfl rfl ?_
  (repeat' first|refine kW ?_|refine kU fun bk=>?_|refine kV fun hc=>?_|refine kZ (fun hc=>?_) fun hc=>?_|fail)
  refine OW_EV (EV_convStr (b := a) rfl h1) rfl ?_
  (repeat' first|refine kW ?_|refine kU fun bk=>?_|refine kV fun hc=>?_|refine kZ (fun hc=>?_) fun hc=>?_|fail)
  refine OW_EV (EV_convStr (b := b) rfl h2) rfl ?_
  (repeat' first|refine kW ?_|refine kU fun bk=>?_|refine kV fun hc=>?_|refine kZ (fun hc=>?_) fun hc=>?_|fail)
  refine kR ?_
  refine ⟨_, iC, ?_, rfl⟩
  show Value.bool _ = Value.bool _
  congr 1
  rw [Bool.eq_iff_iff, decide_eq_true_eq, decide_eq_true_eq]
  exact str_inj
theorem differ_n (v : Value) (l : List (List UInt8)) (L : List Chunk) (h : Sl L 1 v l.length (ssv l)) (hl : l.length ≤ 100000000000) : GvP Tryz.prog 142 [v].toArray L (.bool (decide l.Nodup)) := by
  obtain ⟨a0, c0, rfl⟩ := sl_shape h
  refine Gv.of_body (args := [.slice a0 l.length c0]) Tryz.func142 rfl rfl ?_
  (repeat' first|refine kW ?_|refine kU fun bk=>?_|refine kV fun hc=>?_|refine kZ (fun hc=>?_) fun hc=>?_|fail)
  refine OW_makeMapH rfl rfl rfl (fun b C hC => ?_)
  (repeat' first|refine kW ?_|refine kU fun bk=>?_|refine kV fun hc=>?_|refine kZ (fun hc=>?_) fun hc=>?_|fail)
  refine WC_loop (X := Nat × Chunk) (fun x => [(0, .slice a0 l.length c0), (3, .map (some b)), (9, .slice a0 l.length c0), (10, .int .i64 (l.length : Int)), (11, .int .i64 (x.1 : Int))]) (fun x => x.2 :: L)
    (fun x => x.1 ≤ l.length ∧ MsD b (ddS (l.take x.1)) x.2) (fun x => l.length - x.1) (0, C) ⟨Nat.zero_le _, hC⟩ iS (fun w h => h) ?_
  intro x ⟨h1, h2⟩
  obtain ⟨k, C⟩ := x
  simp only at h1 h2 ⊢
  (repeat' first|refine kW ?_|refine kU fun bk=>?_|refine kV fun hc=>?_|refine kZ (fun hc=>?_) fun hc=>?_|fail)
  · have hk : k < l.length := by omega
    obtain ⟨e, he⟩ : ∃ e, l[k]? = some e := ⟨l[k], by simp [hk]⟩
    obtain ⟨b1, off, cap, c, T, fr, hv, hfn, g0⟩ := sl_at1 h he
    injection hv with e1 _ e3
    subst e1 e3
    refine OW_EV (EV_indexAddr (j := k) rfl rfl rfl hk) rfl ?_
    (repeat' first|refine kW ?_|refine kU fun bk=>?_|refine kV fun hc=>?_|refine kZ (fun hc=>?_) fun hc=>?_|fail)
    refine OW_EV (EV_load rfl hfn.there g0) rfl ?_
    (repeat' first|refine kW ?_|refine kU fun bk=>?_|refine kV fun hc=>?_|refine kZ (fun hc=>?_) fun hc=>?_|fail)
    refine OW_mapUpS rfl rfl rfl rfl rfl h2 (by repeat (first | exact Zip.here _ | apply Zip.there)) (fun C' hC' => ?_)
    (repeat' first|refine kW ?_|refine kU fun bk=>?_|refine kV fun hc=>?_|refine kZ (fun hc=>?_) fun hc=>?_|fail)
    refine WQ_round (X := Nat × Chunk) (μ := fun x => l.length - x.1) (x := (k, C)) (k + 1, C') (by simp only; omega) ⟨by simp only; omega, ?_⟩ iS (fun w h => h)
    simp only
    rw [List.take_add_one, he]
    show MsD b (ddS (l.take k ++ [e])) C'
    rw [ddS_snoc]
    exact hC'
  · have hk : k = l.length := by omega
    rw [List.take_of_length_le (by omega)] at h2
    refine OW_EV (EV_lenMap rfl rfl h2 iC) rfl ?_
    (repeat' first|refine kW ?_|refine kU fun bk=>?_|refine kV fun hc=>?_|refine kZ (fun hc=>?_) fun hc=>?_|fail)
    refine kR ?_
    refine ⟨_, iC, ?_, rfl⟩
    show Value.bool _ = Value.bool _
    congr 1
    have := (ddS_len l).2
    rw [Bool.eq_iff_iff, decide_eq_true_eq, beq_iff_eq, ← this]
    omega
end
end Go.Proofs.YtlomjmdgcpjepaaGreatDoor
namespace Go.Ob
open Go Go.Lib Go.Vx Go.Proofs.YtlomjmdgcpjepaaGreatDoor
set_option linter.all false
set_option maxRecDepth 4000
theorem pre_self (w s : List UInt8) : w.isPrefixOf (w ++ s) = true := List.isPrefixOf_iff_prefix.2 (List.prefix_append _ _)
theorem trP_app (w s : List UInt8) : trP w (w ++ s) = s := by unfold trP; rw [if_pos (pre_self w s)]; simp
theorem clL_ln (w x r : List UInt8) (hw : (10 : UInt8) ∉ w) (hx : (10 : UInt8) ∉ x) : clL w (lnL w x ++ r) = (x, r) := by
  have e : lnL w x ++ r = (w ++ x) ++ 10 :: r := by simp [lnL]
  have hn : (10 : UInt8) ∉ w ++ x := by simp [hw, hx]
  unfold clL
  rw [e, cutN_app 10 r (w ++ x) hn]
  show (trP w (w ++ x), r) = (x, r)
  rw [trP_app]
theorem rdP_pr : ∀ (ps : List (List UInt8)) (f : Nat) (r : List UInt8), (∀ p ∈ ps, (10 : UInt8) ∉ p) → ps.length ≤ f → wParent.isPrefixOf r = false → rdP f (prP ps ++ r) = (ps, r)
  | [], 0, r, _, _, _ => rfl
  | [], f + 1, r, _, _, h => by
    show (if wParent.isPrefixOf r then _ else _) = _
    rw [if_neg (by rw [h]; decide)]
    rfl
  | p :: ps, 0, r, _, hf, _ => by simp at hf
  | p :: ps, f + 1, r, hp, hf, h => by
    have ih := rdP_pr ps f r (fun q hq => hp q (List.mem_cons_of_mem _ hq)) (by simpa using hf) h
    have e : prP (p :: ps) ++ r = lnL wParent p ++ (prP ps ++ r) := by simp [prP]
    have hpre : wParent.isPrefixOf (lnL wParent p ++ (prP ps ++ r)) = true := by
      have : lnL wParent p ++ (prP ps ++ r) = wParent ++ (p ++ [10] ++ (prP ps ++ r)) := by simp [lnL]
      rw [this]; exact pre_self _ _
    rw [e]
    unfold rdP
    rw [if_pos hpre, clL_ln wParent p _ (by decide) (hp p (by simp)), ih]
theorem prP_length (ps : List (List UInt8)) : ps.length ≤ (prP ps).length := by
  induction ps with
  | nil => exact Nat.le_refl _
  | cons p r ih => simp only [prP, List.length_append, List.length_cons, lnL]; omega
theorem rdC_pr (o : Co) (ht : (10 : UInt8) ∉ o.t) (hp : ∀ p ∈ o.ps, (10 : UInt8) ∉ p) (ha : (10 : UInt8) ∉ o.a) (hc : (10 : UInt8) ∉ o.c) : rdC (prC o) = o := by
  obtain ⟨t, ps, a, c, m⟩ := o
  simp only at ht hp ha hc
  have e : prC ⟨t, ps, a, c, m⟩ = lnL wTree t ++ (prP ps ++ (lnL wAuthor a ++ (lnL wCommitter c ++ (10 :: m)))) := by simp [prC]
  have h2 : rdP (prP ps ++ (lnL wAuthor a ++ (lnL wCommitter c ++ (10 :: m)))).length (prP ps ++ (lnL wAuthor a ++ (lnL wCommitter c ++ (10 :: m)))) = (ps, lnL wAuthor a ++ (lnL wCommitter c ++ (10 :: m))) :=
    rdP_pr ps _ _ hp (by have := prP_length ps; simp only [List.length_append]; omega) (by simp [lnL, wAuthor, wParent, List.isPrefixOf])
  have h5 : trP [10] (10 :: m) = m := trP_app [10] m
  rw [e]
  unfold rdC
  simp only [clL_ln wTree t _ (by decide) ht, h2, clL_ln wAuthor a _ (by decide) ha, clL_ln wCommitter c _ (by decide) hc, h5]
variable [W0]
theorem hsh_nl {s : List UInt8} (h : hshB s = true) : ∀ c : UInt8, dv c = -1 → c ∉ s := by
  intro c hc hm
  unfold hshB unB at h
  simp only [Bool.and_eq_true, decide_eq_true_eq, List.all_eq_true, List.mem_range] at h
  obtain ⟨hl, _, ha⟩ := h
  obtain ⟨j, hj, he⟩ := List.getElem_of_mem hm
  have hk := ha (j / 2) (by omega)
  unfold okAt at hk
  simp only [Bool.and_eq_true, decide_eq_true_eq] at hk
  have hg : s.getD j 0 = c := by simp [List.getD, hj, he]
  rcases (by omega : j = 2 * (j / 2) ∨ j = 2 * (j / 2) + 1) with e | e
  · have h1 := hk.1; rw [← e, hg, hc] at h1; omega
  · have h1 := hk.2; rw [← e, hg, hc] at h1; omega
theorem hsh_10 {s : List UInt8} (h : hshB s = true) : (10 : UInt8) ∉ s := hsh_nl h 10 (by decide)
theorem rdC_ok {o : Co} (h : vlC o = true) : rdC (prC o) = o := by
  unfold vlC at h
  simp only [Bool.and_eq_true, decide_eq_true_eq, List.all_eq_true] at h
  obtain ⟨⟨⟨⟨⟨h1, h2⟩, _⟩, h4⟩, h5⟩, _⟩ := h
  exact rdC_pr o (hsh_10 h2) (fun p hp => hsh_10 (h1 p hp)) (per_nl h4) (per_nl h5)
end Go.Ob
namespace Go.Proofs.YtlomjmdgcpjepaaGreatDoor
open Go Go.Vx Go.Ob Go.Lib
set_option linter.all false
set_option maxRecDepth 4000
def coV (vp : Value) (o : Co) : List Value := [.string (str o.t), vp, .string (str o.a), .string (str o.c), .string (str o.m)]
theorem prC_len (o : Co) : (prC o).length = (5 + o.t.length + 1) + (prP o.ps).length + (7 + o.a.length + 1) + (10 + o.c.length + 1) + 1 + o.m.length := by
  simp only [prC, lnL, List.length_append, List.length_cons, List.length_nil]
  rfl
theorem lnL_len (w x : List UInt8) : (lnL w x).length = w.length + x.length + 1 := by simp only [lnL, List.length_append, List.length_cons, List.length_nil]
section
variable [W0]
set_option maxHeartbeats 1000000 in
theorem commitbytes_n (vp : Value) (o : Co) (L : List Chunk) (h : Sl L 1 vp o.ps.length (ssv o.ps)) (hl : (prC o).length ≤ 100000000000) (hll : o.ps.length ≤ 100000000000) :
    Gv Tryz.prog 14 [.agg (coV vp o).toArray].toArray L (fun r L' => ∃ C, OwG 5 r (prC o).length (bsv (prC o)) C ∧ L' = C :: L) := by
  obtain ⟨a0, c0, rfl⟩ := sl_shape h
  rw [prC_len] at hl
  have w1 : wTree.length = 5 := rfl
  have w2 : wParent.length = 7 := rfl
  have w3 : wAuthor.length = 7 := rfl
  have w4 : wCommitter.length = 10 := rfl
  refine Gv.of_body (args := [.agg (coV (.slice a0 o.ps.length c0) o).toArray]) Tryz.func14 rfl rfl ?_
  unfold coV
  (repeat' first|refine kW ?_|refine kU fun bk=>?_|refine kV fun hc=>?_|refine kZ (fun hc=>?_) fun hc=>?_|fail)
  revert bk; intro q
  refine OW_call rfl rfl rfl ((addline_n (.slice none 0 0) [] wTree o.t [] _ OwG.nil (by rw [w1]; simp only [List.length_nil]; omega)).holds (fun w h => Holds.nil.2 h)) rfl (fun r L' hp => ?_)
  obtain ⟨C1, p1, rfl⟩ := hp
  rw [List.nil_append] at p1
  (repeat' first|refine kW ?_|refine kU fun bk=>?_|refine kV fun hc=>?_|refine kZ (fun hc=>?_) fun hc=>?_|fail)
  refine WC_loop (X := Nat × Value × Chunk) (fun x => [(1, .pointer (some ⟨q, 0, none⟩)), (10, .slice a0 o.ps.length c0), (11, .int .i64 (o.ps.length : Int)), (12, .int .i64 (x.1 : Int)), (3, x.2.1)])
    (fun x => x.2.2 :: [(q, cl [.string (str o.t), .slice a0 o.ps.length c0, .string (str o.a), .string (str o.c), .string (str o.m)] 33)] :: L)
    (fun x => x.1 ≤ o.ps.length ∧ OwG 5 x.2.1 (lnL wTree o.t ++ prP (o.ps.take x.1)).length (bsv (lnL wTree o.t ++ prP (o.ps.take x.1))) x.2.2) (fun x => o.ps.length - x.1) (0, r, C1) ⟨Nat.zero_le _, by simp only [List.take_zero, prP, List.append_nil]; exact p1⟩ iS (fun w h => h) ?_
  intro x ⟨h1, h2⟩
  obtain ⟨k, v, C⟩ := x
  simp only at h1 h2 ⊢
  (repeat' first|refine kW ?_|refine kU fun bk=>?_|refine kV fun hc=>?_|refine kZ (fun hc=>?_) fun hc=>?_|fail)
  · have hk : k < o.ps.length := by omega
    obtain ⟨e, he⟩ : ∃ e, o.ps[k]? = some e := ⟨o.ps[k], by simp [hk]⟩
    have htk := prP_take he
    have hle := prP_le o.ps (k + 1)
    obtain ⟨b, off, cap, c, T, fr, hv, hfn, g0⟩ := sl_at1 h he
    injection hv with e1 _ e3
    subst e1 e3
    rw [htk, List.length_append, lnL_len, w2] at hle
    refine OW_EV (EV_indexAddr (j := k) rfl rfl rfl hk) rfl ?_
    (repeat' first|refine kW ?_|refine kU fun bk=>?_|refine kV fun hc=>?_|refine kZ (fun hc=>?_) fun hc=>?_|fail)
    refine OW_EV (EV_load rfl hfn.there.there g0) rfl ?_
    (repeat' first|refine kW ?_|refine kU fun bk=>?_|refine kV fun hc=>?_|refine kZ (fun hc=>?_) fun hc=>?_|fail)
    refine OW_call rfl rfl rfl (addline_n v (lnL wTree o.t ++ prP (o.ps.take k)) wParent e C _ h2 (by rw [List.length_append, lnL_len, w1, w2]; omega)) rfl (fun r L' hp => ?_)
    obtain ⟨C2, p2, rfl⟩ := hp
    (repeat' first|refine kW ?_|refine kU fun bk=>?_|refine kV fun hc=>?_|refine kZ (fun hc=>?_) fun hc=>?_|fail)
    refine WQ_round (X := Nat × Value × Chunk) (μ := fun x => o.ps.length - x.1) (x := (k, v, C)) (k + 1, r, C2) (by simp only; omega) ⟨by simp only; omega, ?_⟩ iS (fun w h => iH h)
    simp only
    rw [htk, ← List.append_assoc]
    exact p2
  · rw [List.take_of_length_le (by omega)] at h2
    refine OW_call rfl rfl rfl (addline_n v (lnL wTree o.t ++ prP o.ps) wAuthor o.a C _ h2 (by rw [List.length_append, lnL_len, w1, w3]; omega)) rfl (fun r2 L' hp => ?_)
    obtain ⟨C2, p2, rfl⟩ := hp
    (repeat' first|refine kW ?_|refine kU fun bk=>?_|refine kV fun hc=>?_|refine kZ (fun hc=>?_) fun hc=>?_|fail)
    refine OW_call rfl rfl rfl (addline_n r2 (lnL wTree o.t ++ prP o.ps ++ lnL wAuthor o.a) wCommitter o.c C2 _ p2 (by simp only [List.length_append, lnL_len, w1, w3, w4]; omega)) rfl (fun r3 L' hp => ?_)
    obtain ⟨C3, p3, rfl⟩ := hp
    (repeat' first|refine kW ?_|refine kU fun bk=>?_|refine kV fun hc=>?_|refine kZ (fun hc=>?_) fun hc=>?_|fail)
    refine OW_call rfl rfl rfl (addmessage_n r3 (lnL wTree o.t ++ prP o.ps ++ lnL wAuthor o.a ++ lnL wCommitter o.c) o.m C3 _ p3 (by simp only [List.length_append, lnL_len, w1, w3, w4]; omega)) rfl (fun r4 L' hp => ?_)
    obtain ⟨C4, p4, rfl⟩ := hp
    (repeat' first|refine kW ?_|refine kU fun bk=>?_|refine kV fun hc=>?_|refine kZ (fun hc=>?_) fun hc=>?_|fail)
    refine kR ?_
    exact ⟨C4 :: L, iC, C4, p4, rfl⟩
end
end Go.Proofs.YtlomjmdgcpjepaaGreatDoor
namespace Go.Proofs.YtlomjmdgcpjepaaGreatDoor
open Go Go.Vx Go.Ob Go.Lib
set_option linter.all false
set_option maxRecDepth 4000
theorem clL_len (w s : List UInt8) : (clL w s).1.length ≤ s.length ∧ (clL w s).2.length ≤ s.length := by
  have h := cutN_len2 10 s
  unfold clL trP
  refine ⟨?_, h.2⟩
  show (if _ then _ else _ : List UInt8).length ≤ _
  split
  · rw [List.length_drop]; omega
  · exact h.1
theorem clL_lt (w s : List UInt8) (hs : s ≠ []) : (clL w s).2.length < s.length := by
  have h := cutN_len 10 s
  have l0 : 0 < s.length := List.length_pos_iff.2 hs
  show (cutN 10 s).2.length < _
  omega
theorem par_ne {s : List UInt8} (h : wParent.isPrefixOf s = true) : s ≠ [] := by rintro rfl; simp [wParent] at h
theorem clL_sum (w s : List UInt8) : (clL w s).1.length + (clL w s).2.length ≤ s.length := by
  have h : (cutN 10 s).1.length + (cutN 10 s).2.length ≤ s.length := by
    rcases cutN_spec 10 s with ⟨_, e⟩ | ⟨a, t, _, e1, e2⟩
    · rw [e]; simp
    · rw [e2]; conv => rhs; rw [e1]
      simp
  unfold clL trP
  show (if _ then _ else _ : List UInt8).length + _ ≤ _
  split
  · rw [List.length_drop]; simp only; omega
  · exact h
theorem rdP_fuel : ∀ (f g : Nat) (s : List UInt8), s.length ≤ f → s.length ≤ g → rdP f s = rdP g s
  | 0, 0, s, _, _ => rfl
  | 0, g + 1, s, h, _ => by
    have : s = [] := List.eq_nil_of_length_eq_zero (by omega)
    subst this; rfl
  | f + 1, 0, s, _, h => by
    have : s = [] := List.eq_nil_of_length_eq_zero (by omega)
    subst this; rfl
  | f + 1, g + 1, s, h1, h2 => by
    unfold rdP
    cases hp : wParent.isPrefixOf s with
    | false => rfl
    | true =>
      have := clL_lt wParent s (par_ne hp)
      rw [rdP_fuel f g (clL wParent s).2 (by omega) (by omega)]
def rdPs (s : List UInt8) : List (List UInt8) × List UInt8 := rdP s.length s
theorem rdPs_yes {s : List UInt8} (h : wParent.isPrefixOf s = true) : rdPs s = ((clL wParent s).1 :: (rdPs (clL wParent s).2).1, (rdPs (clL wParent s).2).2) := by
  have l0 : 0 < s.length := List.length_pos_iff.2 (par_ne h)
  have := clL_lt wParent s (par_ne h)
  unfold rdPs
  obtain ⟨n, hn⟩ : ∃ n, s.length = n + 1 := ⟨s.length - 1, by omega⟩
  rw [hn]
  conv => lhs; unfold rdP
  rw [if_pos h, rdP_fuel n _ _ (by omega) (Nat.le_refl _)]
theorem rdPs_no {s : List UInt8} (h : wParent.isPrefixOf s = false) : rdPs s = ([], s) := by
  unfold rdPs
  cases hl : s.length with
  | zero => rfl
  | succ n => unfold rdP; rw [h]; rfl
theorem ssv_app (a b : List (List UInt8)) : ssv (a ++ b) = ssv a ++ ssv b := by simp [ssv]
variable [W0]
set_option maxHeartbeats 2000000 in
theorem readcommit_n (s : List UInt8) (L : List Chunk) (hb : BsAt L) (hs : s.length < 4294967281) :
    Gv Tryz.prog 32 [.string (str s)].toArray L (fun r L' => ∃ v C, r = .agg (coV v (rdC s)).toArray ∧ OwG 9 v (rdC s).ps.length (ssv (rdC s).ps) C ∧ L' = C :: L) := by
  refine Gv.of_body (args := [.string (str s)]) Tryz.func32 rfl rfl ?_
  obtain ⟨s1, hs1⟩ : ∃ x, x = clL wTree s := ⟨_, rfl⟩
  have l1 := clL_len wTree s
  rw [← hs1] at l1
  have c1 := fun L hb => cutline_n s wTree L hb hs (by decide)
  rw [← hs1] at c1
  (repeat' first|refine kW ?_|refine kU fun bk=>?_|refine kV fun hc=>?_|refine kZ (fun hc=>?_) fun hc=>?_|fail)
  revert bk; intro q3
  revert bk; intro q2
  refine OW_callP rfl rfl rfl (c1 _ hb.there.there) rfl ?_
  (repeat' first|refine kW ?_|refine kU fun bk=>?_|refine kV fun hc=>?_|refine kZ (fun hc=>?_) fun hc=>?_|fail)
  refine OW_holds (L' := [(q3, cl [.string .empty, .slice none 0 0, .string .empty, .string .empty, .string .empty] 33)] :: [(q2, cl [.string .empty, .slice none 0 0, .string .empty, .string .empty, .string .empty] 33)] :: L) (fun w h => h) ?_
  (repeat' first|refine kW ?_|refine kU fun bk=>?_|refine kV fun hc=>?_|refine kZ (fun hc=>?_) fun hc=>?_|fail)
  refine WC_loop (X := List (List UInt8) × List UInt8 × Value × Chunk) (fun x => [(0, .string (str x.2.1)), (2, .pointer (some ⟨q2, 0, none⟩)), (3, .pointer (some ⟨q3, 0, none⟩))])
    (fun x => x.2.2.2 :: [(q3, cl [.string (str s1.1), x.2.2.1, .string .empty, .string .empty, .string .empty] 33)] :: [(q2, cl [.string .empty, .slice none 0 0, .string .empty, .string .empty, .string .empty] 33)] :: L)
    (fun x => x.1 ++ (rdPs x.2.1).1 = (rdPs s1.2).1 ∧ (rdPs x.2.1).2 = (rdPs s1.2).2 ∧ x.1.length + x.2.1.length ≤ s1.2.length ∧ OwG 9 x.2.2.1 x.1.length (ssv x.1) x.2.2.2) (fun x => x.2.1.length) ([], s1.2, .slice none 0 0, [])
    ⟨rfl, rfl, by simp, OwG.nil⟩ iS (fun w h => Holds.nil.2 h) ?_
  intro x ⟨i1, i2, i3, i4⟩
  obtain ⟨ps, t, v, C⟩ := x
  simp only at i1 i2 i3 i4 ⊢
  have cp := cutline_n t wParent (C :: [(q3, cl [.string (str s1.1), v, .string .empty, .string .empty, .string .empty] 33)] :: [(q2, cl [.string .empty, .slice none 0 0, .string .empty, .string .empty, .string .empty] 33)] :: L) hb.there.there.there (by omega) (by decide)
  (repeat' first|refine kW ?_|refine kU fun bk=>?_|refine kV fun hc=>?_|refine kZ (fun hc=>?_) fun hc=>?_|fail)
  refine OW_callP rfl rfl rfl (hasprefix_n t wParent _ (by omega) (by decide)) rfl ?_
  cases hp : wParent.isPrefixOf t with
  | true =>
    have hlt := clL_lt wParent t (par_ne hp)
    rw [rdPs_yes hp] at i1 i2
    simp only at i1 i2
    have hsum := clL_sum wParent t
    have hne := List.length_pos_iff.2 (par_ne hp)
    (repeat' first|refine kW ?_|refine kU fun bk=>?_|refine kV fun hc=>?_|refine kZ (fun hc=>?_) fun hc=>?_|fail)
    refine OW_callP rfl rfl rfl cp rfl ?_
    (repeat' first|refine kW ?_|refine kU fun bk=>?_|refine kV fun hc=>?_|refine kZ (fun hc=>?_) fun hc=>?_|fail)
    refine OW_buildSlice (cs := ssv [(clL wParent t).1]) rfl (by rfl) (by simp [fillL, patch, Value.cells, zeros]; rfl) (by omega) rfl rfl (fun b1 => ?_)
    (repeat' first|refine kW ?_|refine kU fun bk=>?_|refine kV fun hc=>?_|refine kZ (fun hc=>?_) fun hc=>?_|fail)
    refine OW_appG rfl rfl i4 (sl_cells (xs := ssv [(clL wParent t).1]) (m := 1) Fnd.here rfl (by simp)) (by repeat (first | exact Zip.here _ | apply Zip.there)) (by rfl) (ssv_one _) (by omega) (by unfold maxLen; omega) rfl (fun v1 C1 h1 => ?_)
    rw [← ssv_app] at h1
    obtain ⟨va, vc, rfl, _⟩ := h1.room
    (repeat' first|refine kW ?_|refine kU fun bk=>?_|refine kV fun hc=>?_|refine kZ (fun hc=>?_) fun hc=>?_|fail)
    refine WQ_round (X := List (List UInt8) × List UInt8 × Value × Chunk) (μ := fun x => x.2.1.length) (x := (ps, t, v, C)) (ps ++ [(clL wParent t).1], (clL wParent t).2, .slice va (ps.length + 1) vc, C1) (by simp only; exact hlt) ⟨?_, i2, ?_, ?_⟩ iS (fun w h => iH h)
    · simp only [List.append_assoc]; exact i1
    · simp only [List.length_append, List.length_cons, List.length_nil]; omega
    · simp only [List.length_append, List.length_cons, List.length_nil]; exact h1
  | false =>
    rw [rdPs_no hp] at i1 i2
    simp only [List.append_nil] at i1 i2
    have l3 := clL_len wAuthor t
    have l4 := clL_len wCommitter (clL wAuthor t).2
    have e : rdC s = ⟨s1.1, ps, (clL wAuthor t).1, (clL wCommitter (clL wAuthor t).2).1, trP [10] (clL wCommitter (clL wAuthor t).2).2⟩ := by
      subst hs1
      unfold rdC
      have ea : (rdP (clL wTree s).2.length (clL wTree s).2).1 = ps := i1.symm
      have eb : (rdP (clL wTree s).2.length (clL wTree s).2).2 = t := i2.symm
      simp only [ea, eb]
    rw [e]
    have ca := fun L hb => cutline_n t wAuthor L hb (by omega) (by decide)
    have cc := fun L hb => cutline_n (clL wAuthor t).2 wCommitter L hb (by omega) (by decide)
    have cm := fun L => cutmessage_n (clL wCommitter (clL wAuthor t).2).2 L (by omega)
    clear e i2
    generalize clL wAuthor t = s3 at *
    generalize clL wCommitter s3.2 = s4 at *
    obtain ⟨va, vc, rfl, _⟩ := i4.room
    (repeat' first|refine kW ?_|refine kU fun bk=>?_|refine kV fun hc=>?_|refine kZ (fun hc=>?_) fun hc=>?_|fail)
    refine OW_callP rfl rfl rfl (ca _ hb.there.there.there) rfl ?_
    (repeat' first|refine kW ?_|refine kU fun bk=>?_|refine kV fun hc=>?_|refine kZ (fun hc=>?_) fun hc=>?_|fail)
    refine OW_callP rfl rfl rfl (cc _ hb.there.there.there) rfl ?_
    (repeat' first|refine kW ?_|refine kU fun bk=>?_|refine kV fun hc=>?_|refine kZ (fun hc=>?_) fun hc=>?_|fail)
    refine OW_callP rfl rfl rfl (cm _) rfl ?_
    (repeat' first|refine kW ?_|refine kU fun bk=>?_|refine kV fun hc=>?_|refine kZ (fun hc=>?_) fun hc=>?_|fail)
    (first | refine WQ_retC (vs := [.agg ([.string (str s1.1), .slice va ps.length vc, .string (str s3.1), .string (str s4.1), .string (str (trP [10] s4.2))]).toArray]) rfl (.agg ⟨by kernel_rfl, by kernel_rfl⟩ rfl (RdAt.cl' (vs := [.string (str s1.1), .slice va ps.length vc, .string (str s3.1), .string (str s4.1), .string (str (trP [10] s4.2))]) (by repeat (first | assumption | exact Fnd.here | refine Fnd.there ?_)) rfl) rfl .nil) ?_ | refine WQ_endC (vs := [.agg ([.string (str s1.1), .slice va ps.length vc, .string (str s3.1), .string (str s4.1), .string (str (trP [10] s4.2))]).toArray]) rfl (.agg ⟨by kernel_rfl, by kernel_rfl⟩ rfl (RdAt.cl' (vs := [.string (str s1.1), .slice va ps.length vc, .string (str s3.1), .string (str s4.1), .string (str (trP [10] s4.2))]) (by repeat (first | assumption | exact Fnd.here | refine Fnd.there ?_)) rfl) rfl .nil) ?_)
    exact ⟨C :: L, fun w h => iH h, _, C, rfl, i4, rfl⟩
theorem commitvalid_n (v : Value) (o : Co) (L : List Chunk) (hb : BsAt L) (h : Sl L 1 v o.ps.length (ssv o.ps)) (hps : ∀ p ∈ o.ps, p.length ≤ 4294967280) (hll : o.ps.length ≤ 100000000000) (ht : o.t.length ≤ 4294967280) (ha : o.a.length < 4294967281) (hc : o.c.length < 4294967281) (hm : o.m.length < 4294967281) :
    GvP Tryz.prog 152 [.agg (coV v o).toArray].toArray L (.bool (vlC o)) := by
  obtain ⟨a0, c0, rfl⟩ := sl_shape h
  refine Gv.of_body (args := [.agg (coV (.slice a0 o.ps.length c0) o).toArray]) Tryz.func152 rfl rfl ?_
  unfold coV
  have hm2 : o.m.length < 4294967281 := hm
  have hc2 : o.c.length < 4294967281 := hc
  clear hm hc
  (repeat' first|refine kW ?_|refine kU fun bk=>?_|refine kV fun hc=>?_|refine kZ (fun hc=>?_) fun hc=>?_|fail)
  revert bk; intro q
  refine WC_loop (X := Nat) (fun x => [(1, .pointer (some ⟨q, 0, none⟩)), (6, .slice a0 o.ps.length c0), (7, .int .i64 (o.ps.length : Int)), (8, .int .i64 (x : Int))])
    (fun x => [(q, cl [.string (str o.t), .slice a0 o.ps.length c0, .string (str o.a), .string (str o.c), .string (str o.m)] 33)] :: L)
    (fun x => x ≤ o.ps.length ∧ (o.ps.take x).all hshB = true) (fun x => o.ps.length - x) 0 ⟨Nat.zero_le _, rfl⟩ iS (fun w h => h) ?_
  intro k ⟨h1, h2⟩
  have hb1 := hb.there (C := [(q, cl [.string (str o.t), .slice a0 o.ps.length c0, .string (str o.a), .string (str o.c), .string (str o.m)] 33)])
  (repeat' first|refine kW ?_|refine kU fun bk=>?_|refine kV fun hc=>?_|refine kZ (fun hc=>?_) fun hc=>?_|fail)
  · have hk : k < o.ps.length := by omega
    obtain ⟨e, he⟩ : ∃ e, o.ps[k]? = some e := ⟨o.ps[k], by simp [hk]⟩
    obtain ⟨b, off, cap, c, T, fr, hv, hfn, g0⟩ := sl_at1 h he
    injection hv with e1 _ e3
    subst e1 e3
    have hmem := List.mem_of_getElem? he
    have hlen := hps e hmem
    refine OW_EV (EV_indexAddr (j := k) rfl rfl rfl hk) rfl ?_
    (repeat' first|refine kW ?_|refine kU fun bk=>?_|refine kV fun hc=>?_|refine kZ (fun hc=>?_) fun hc=>?_|fail)
    refine OW_EV (EV_load rfl hfn.there g0) rfl ?_
    (repeat' first|refine kW ?_|refine kU fun bk=>?_|refine kV fun hc=>?_|refine kZ (fun hc=>?_) fun hc=>?_|fail)
    refine OW_callP rfl rfl rfl (hash_n e _ (by omega)) rfl ?_
    cases hh : hshB e with
    | true =>
      (repeat' first|refine kW ?_|refine kU fun bk=>?_|refine kV fun hc=>?_|refine kZ (fun hc=>?_) fun hc=>?_|fail)
      refine WQ_round (X := Nat) (μ := fun x => o.ps.length - x) (x := k) (k + 1) (by omega) ⟨by omega, ?_⟩ iS (fun w h => h)
      rw [List.take_add_one, he]
      simp [h2, hh]
    | false =>
      (repeat' first|refine kW ?_|refine kU fun bk=>?_|refine kV fun hc=>?_|refine kZ (fun hc=>?_) fun hc=>?_|fail)
      refine kR ?_
      refine ⟨L, iC, ?_, rfl⟩
      have : o.ps.all hshB = false := by rw [List.all_eq_false]; exact ⟨e, hmem, by rw [hh]; decide⟩
      unfold vlC
      rw [this]
      rfl
  · rw [List.take_of_length_le (by omega)] at h2
    refine OW_callP rfl rfl rfl (hash_n o.t _ (by omega)) rfl ?_
    have k2 := differ_n (.slice a0 o.ps.length c0) o.ps _ (sl_there (C := [(q, cl [.string (str o.t), .slice a0 o.ps.length c0, .string (str o.a), .string (str o.c), .string (str o.m)] 33)]) h) hll
    have k3 := person_n o.a _ hb1 ha
    have k4 := person_n o.c _ hb1 hc2
    have k5 := ismessage_n o.m _ hb1 hm2
    unfold vlC
    rw [h2]
    generalize decide o.ps.Nodup = nd at *
    generalize hshB o.t = ht' at *
    generalize perB o.a = pa at *
    generalize perB o.c = pc at *
    generalize msgB o.m = pm at *
    cases ht' with
    | false =>
      (repeat' first|refine kW ?_|refine kU fun bk=>?_|refine kV fun hc=>?_|refine kZ (fun hc=>?_) fun hc=>?_|fail)
      exact kE
    | true =>
      (repeat' first|refine kW ?_|refine kU fun bk=>?_|refine kV fun hc=>?_|refine kZ (fun hc=>?_) fun hc=>?_|fail)
      refine OW_callP rfl rfl rfl k2 rfl ?_
      cases nd with
      | false =>
        (repeat' first|refine kW ?_|refine kU fun bk=>?_|refine kV fun hc=>?_|refine kZ (fun hc=>?_) fun hc=>?_|fail)
        exact kE
      | true =>
        (repeat' first|refine kW ?_|refine kU fun bk=>?_|refine kV fun hc=>?_|refine kZ (fun hc=>?_) fun hc=>?_|fail)
        refine OW_callP rfl rfl rfl k3 rfl ?_
        cases pa with
        | false =>
          (repeat' first|refine kW ?_|refine kU fun bk=>?_|refine kV fun hc=>?_|refine kZ (fun hc=>?_) fun hc=>?_|fail)
          exact kE
        | true =>
          (repeat' first|refine kW ?_|refine kU fun bk=>?_|refine kV fun hc=>?_|refine kZ (fun hc=>?_) fun hc=>?_|fail)
          refine OW_callP rfl rfl rfl k4 rfl ?_
          cases pc with
          | false =>
            (repeat' first|refine kW ?_|refine kU fun bk=>?_|refine kV fun hc=>?_|refine kZ (fun hc=>?_) fun hc=>?_|fail)
            exact kE
          | true =>
            (repeat' first|refine kW ?_|refine kU fun bk=>?_|refine kV fun hc=>?_|refine kZ (fun hc=>?_) fun hc=>?_|fail)
            refine OW_callP rfl rfl rfl k5 rfl ?_
            cases pm with
            | false =>
              (repeat' first|refine kW ?_|refine kU fun bk=>?_|refine kV fun hc=>?_|refine kZ (fun hc=>?_) fun hc=>?_|fail)
              exact kE
            | true =>
              (repeat' first|refine kW ?_|refine kU fun bk=>?_|refine kV fun hc=>?_|refine kZ (fun hc=>?_) fun hc=>?_|fail)
              exact kE
end Go.Proofs.YtlomjmdgcpjepaaGreatDoor
namespace Go.So
set_option linter.all false
variable {α : Type}
def swp (f : Nat → α) (i j : Nat) : Nat → α := fun k => if k = i then f j else if k = j then f i else f k
def upd (f : Nat → α) (i : Nat) (y : α) : Nat → α := fun k => if k = i then y else f k
inductive Mv (a b : Nat) : (Nat → α) → (Nat → α) → Prop
  | refl (f) : Mv a b f f
  | step {f g i j} : Mv a b f g → a ≤ i → i < b → a ≤ j → j < b → Mv a b f (swp g i j)
theorem Mv.one {a b i j : Nat} (f : Nat → α) (h1 : a ≤ i) (h2 : i < b) (h3 : a ≤ j) (h4 : j < b) : Mv a b f (swp f i j) := .step (.refl f) h1 h2 h3 h4
theorem Mv.trans {a b : Nat} {f g h : Nat → α} (h1 : Mv a b f g) (h2 : Mv a b g h) : Mv a b f h := by
  induction h2 with
  | refl => exact h1
  | step _ p q r s ih => exact ih.step p q r s
theorem Mv.mono {a b c d : Nat} {f g : Nat → α} (h : Mv a b f g) (h1 : c ≤ a) (h2 : b ≤ d) : Mv c d f g := by
  induction h with
  | refl => exact .refl _
  | step _ p q r s ih => exact ih.step (by omega) (by omega) (by omega) (by omega)
theorem Mv.out {a b : Nat} {f g : Nat → α} (h : Mv a b f g) {k : Nat} (hk : k < a ∨ b ≤ k) : g k = f k := by
  induction h with
  | refl => rfl
  | step _ p q r s ih =>
    simp only [swp]
    rw [if_neg (by omega), if_neg (by omega)]
    exact ih
theorem Mv.all {a b : Nat} {f g : Nat → α} (h : Mv a b f g) {p : α → Prop} (hp : ∀ k, a ≤ k → k < b → p (f k)) : ∀ k, a ≤ k → k < b → p (g k) := by
  induction h with
  | refl => exact hp
  | @step g i j _ h1 h2 h3 h4 ih =>
    intro k hk1 hk2
    simp only [swp]
    split
    · exact ih j h3 h4
    · split
      · exact ih i h1 h2
      · exact ih k hk1 hk2
theorem swp_perm (f : Nat → α) {i j n : Nat} (hi : i < n) (hj : j < n) : ((List.range n).map (swp f i j)).Perm ((List.range n).map f) := by
  have e : swp f i j = fun k => f (swp id i j k) := by
    funext k
    simp only [swp, id]
    split
    · rfl
    · split <;> rfl
  have hs : ((List.range n).map (swp id i j)).Perm (List.range n) := by
    refine (List.perm_ext_iff_of_nodup ?_ List.nodup_range).2 fun x => ?_
    · refine List.Pairwise.map _ (fun a b hab => ?_) List.nodup_range
      intro he
      apply hab
      simp only [swp, id] at he
      split at he <;> split at he <;> (try split at he) <;> (try split at he) <;> omega
    · simp only [List.mem_map, List.mem_range]
      constructor
      · rintro ⟨k, hk, rfl⟩
        simp only [swp, id]
        split
        · exact hj
        · split
          · exact hi
          · exact hk
      · intro hx
        refine ⟨swp id i j x, ?_, ?_⟩
        · simp only [swp, id]
          split
          · exact hj
          · split
            · exact hi
            · exact hx
        · simp only [swp, id]
          split <;> (try split) <;> (try split) <;> (try split) <;> omega
  have e2 : (List.range n).map (fun k => f (swp id i j k)) = ((List.range n).map (swp id i j)).map f := by rw [List.map_map]; rfl
  rw [e, e2]
  exact hs.map f
theorem Mv.perm {a b n : Nat} {f g : Nat → α} (h : Mv a b f g) (hb : b ≤ n) : ((List.range n).map g).Perm ((List.range n).map f) := by
  induction h with
  | refl => exact .refl _
  | step _ p q r s ih => exact (swp_perm _ (by omega) (by omega)).trans ih
def Srt (key : α → Nat) (a b : Nat) (f : Nat → α) : Prop := ∀ i j, a ≤ i → i ≤ j → j < b → key (f i) ≤ key (f j)
theorem Srt.sub {key : α → Nat} {a b c d : Nat} {f : Nat → α} (h : Srt key a b f) (h1 : a ≤ c) (h2 : d ≤ b) : Srt key c d f := fun i j p q r => h i j (by omega) q (by omega)
theorem Srt.congr {key : α → Nat} {a b : Nat} {f g : Nat → α} (h : Srt key a b f) (he : ∀ k, a ≤ k → k < b → g k = f k) : Srt key a b g := fun i j p q r => by
  rw [he i p (by omega), he j (by omega) r]; exact h i j p q r
end Go.So
namespace Go.Ob
open Go Go.Vx
set_option linter.all false
def mthV (P : Program) (t : Nat) (name : String) : Option FuncId := match P.info? t with
  | some i => match i.methods.find? (·.name == name) with
    | some m => match m.path.toList, m.func, P.underlying t with
      | [], some (f, false), some (.struct _) => some f
      | _, _, _ => none
    | none => none
  | none => none
theorem methodV_run {P : Program} {t : Nat} {name : String} {f : FuncId} (h : mthV P t name = some f) (fuel : Nat) (v : Value) [W0] (w : World) : (method (fuel + 1) t v name).run P w = .ok (f, v) w := by
  unfold mthV at h
  split at h
  · rename_i i hi
    split at h
    · rename_i m hm
      split at h
      · rename_i f' e h1 h2 h3
        simp at h
        subst h
        unfold method
        simp [typeInfo, hi, hm, h1, follow, h2, receiverAt, run_underlying h3, Place.get]
      · simp at h
    · simp at h
  · simp at h
section
variable [W0]
variable {P : Program} {n : Nat} {M : List (Nat × Value)} {L : List Chunk} {K : List (Nat × Value) → List Chunk → Prop}
variable {d : Nat} {ty : TypeId} {ps : String} {af : Array Edge} {g : Option (Nat × Bool)} {x : Operand} {v : Value}
theorem OW_invokeV {t : Nat} {f : FuncId} {name : String} (hm : mthV P t name = some f) [hb : BD P f] {xs : List Operand} {ats : Array TypeId} {vs : List Value} {post : Value → List Chunk → Prop}
    (hx : ev M x = some (.iface t v)) (hvs : evs M xs = some vs) (hspec : Gv P f (v :: vs).toArray L post)
    (hn : Nat.blt d n = true) (h : ∀ v L', post v L' → K ((d, v) :: M) L') : OW P n ⟨some d, .call ⟨.invoke x name, xs.toArray, ats⟩, ty, ps, af, g⟩ K M L := ⟨fun a w next Q ha hw hk => by
  have hrun : (execOp a.eval ⟨some d, .call ⟨.invoke x name, xs.toArray, ats⟩, ty, ps, af, g⟩).run P w = .ok (.enter f (v :: vs).toArray) w := by
    have e1 : Array.map a.eval xs.toArray = vs.toArray := by rw [← ha.evals hvs]; simp
    have e2 : (#[Value.iface t v] ++ vs.toArray)[0]? = some (.iface t v) := by simp
    have e3 : (#[Value.iface t v] ++ vs.toArray).extract 1 (#[Value.iface t v] ++ vs.toArray).size = vs.toArray := by
      apply Array.ext'; simp
    have e4 : #[v] ++ vs.toArray = (v :: vs).toArray := by apply Array.ext'; simp
    have hfuel : P.types.size + Made.depth = (P.types.size + Made.depth - 1) + 1 := by
      have : 0 < Made.depth := by decide
      omega
    have hmr := methodV_run hm (P.types.size + Made.depth - 1) v w
    rw [← hfuel] at hmr
    simp only [execOp, resolve, ha.eval hx, e1, Sem.run_bind, Sem.run_pure, Result.andThen_ok, invoke, e2, e3, callMethod, run_program, hmr, e4, callFunc_run hb.out]
  unfold Oper.wp
  rw [hrun, Oper.upon_enter]
  refine (hspec.out w hw).mono fun e w' he => ?_
  obtain ⟨v, L', rfl, hp, hw'⟩ := he
  exact (hk _ _ (h v L' hp)).out _ _ (ha.put v hn) hw'⟩
end
end Go.Ob
namespace Go.Proofs.YtlomjmdgcpjepaaGreatDoor
open Go Go.Vx Go.Ob Go.Lib
set_option linter.all false
set_option maxRecDepth 4000
theorem mth_bc : mthV Tryz.prog 33 "Bytes" = some 14 := by kernel_rfl
end Go.Proofs.YtlomjmdgcpjepaaGreatDoor
namespace Go.Proofs.YtlomjmdgcpjepaaGreatDoor
open Go Go.Vx Go.Ob Go.Lib
set_option linter.all false
set_option maxRecDepth 4000
theorem mth_vc : mthV Tryz.prog 33 "stemma/object.valid" = some 152 := by kernel_rfl
variable [W0]
set_option maxHeartbeats 4000000 in
theorem parsecommit_n (v : Value) (o : Co) (L : List Chunk) (hb : BsAt L) (hv : Sl L 1 v (prC o).length (bsv (prC o))) (hvl : vlC o = true) (hl : (prC o).length ≤ 1000000) :
    Gv Tryz.prog 13 [.int .i64 1, v].toArray L (fun r L' => ∃ x, r = .tuple #[x, .int .i64 0] ∧ L' = L) := by
  have hlen := prC_len o
  have hps : ∀ p ∈ o.ps, p.length ≤ (prP o.ps).length := fun p hp => by
    have : ∀ l : List (List UInt8), ∀ p ∈ l, p.length ≤ (prP l).length := by
      intro l
      induction l with
      | nil => intro p hp; simp at hp
      | cons q r ih =>
        intro p hp
        simp only [prP, List.length_append, lnL_len]
        rcases List.mem_cons.1 hp with rfl | hp
        · omega
        · have := ih p hp; omega
    exact this _ p hp
  have hpl := prP_length o.ps
  refine Gv.of_body (args := [.int .i64 1, v]) Tryz.func13 rfl rfl ?_
  (repeat' first|refine kW ?_|refine kU fun bk=>?_|refine kV fun hc=>?_|refine kZ (fun hc=>?_) fun hc=>?_|fail)
  refine OW_EV (EV_convStr (b := prC o) rfl hv) rfl ?_
  (repeat' first|refine kW ?_|refine kU fun bk=>?_|refine kV fun hc=>?_|refine kZ (fun hc=>?_) fun hc=>?_|fail)
  refine OW_call rfl rfl rfl (readcommit_n (prC o) _ hb (by omega)) rfl (fun r L' hp => ?_)
  obtain ⟨v1, C, rfl, ho, rfl⟩ := hp
  rw [rdC_ok hvl] at ho ⊢
  (repeat' first|refine kW ?_|refine kU fun bk=>?_|refine kV fun hc=>?_|refine kZ (fun hc=>?_) fun hc=>?_|fail)
  refine OW_invokeV mth_vc rfl rfl (commitvalid_n v1 o _ hb.there ho.sl (fun p hp => by have := hps p hp; omega) (by omega) (by omega) (by omega) (by omega) (by omega)) rfl (fun r L' hp => ?_)
  obtain ⟨rfl, rfl⟩ := hp
  rw [hvl]
  (repeat' first|refine kW ?_|refine kU fun bk=>?_|refine kV fun hc=>?_|refine kZ (fun hc=>?_) fun hc=>?_|fail)
  refine OW_invokeV mth_bc rfl rfl (commitbytes_n v1 o _ ho.sl (by omega) (by omega)) rfl (fun r L' hp => ?_)
  obtain ⟨C2, h2, rfl⟩ := hp
  (repeat' first|refine kW ?_|refine kU fun bk=>?_|refine kV fun hc=>?_|refine kZ (fun hc=>?_) fun hc=>?_|fail)
  refine OW_callP rfl rfl rfl (bytesequal_n r v (prC o) (prC o) _ h2.sl (sl_there (sl_there hv))) rfl ?_
  rw [decide_eq_true rfl]
  (repeat' first|refine kW ?_|refine kU fun bk=>?_|refine kV fun hc=>?_|refine kZ (fun hc=>?_) fun hc=>?_|fail)
  refine kR ?_
  exact ⟨L, iC, ⟨_, rfl, rfl⟩⟩
end Go.Proofs.YtlomjmdgcpjepaaGreatDoor
namespace Go.Proofs.YtlomjmdgcpjepaaGreatDoor
open Go Go.Vx Go.Ob Go.Lib
set_option linter.all false
set_option maxRecDepth 4000
theorem dig_nat : ∀ d, d < 16 → (dig d).toNat = if d < 10 then 48 + d else 87 + d := by decide
def inn (b : UInt8) (j : Nat) : Nat := if j = 0 then 0 else if j = 1 then b.toNat / 16 else b.toNat
def dgt (b : UInt8) (j : Nat) : Nat := if j = 0 then b.toNat / 16 else b.toNat % 16
theorem dgt_lt (b : UInt8) (j : Nat) : dgt b j < 16 := by
  have := b.toNat_lt
  unfold dgt; split <;> omega
theorem inn_step (b : UInt8) {j : Nat} (h : j < 2) : inn b (j + 1) = 16 * inn b j + dgt b j := by
  have := b.toNat_lt
  rcases (by omega : j = 0 ∨ j = 1) with rfl | rfl
  · simp [inn, dgt]
  · simp [inn, dgt]; omega
theorem inn_le (b : UInt8) (j : Nat) : inn b j ≤ 255 := by
  have := b.toNat_lt
  unfold inn; split; omega; split <;> omega
section
variable [W0]
theorem EV_ari8 {P : Program} {n d : Nat} {M : List (Nat × Value)} {L : List Chunk} {ty : TypeId} {ps : String} {af : Array Edge} {g : Option (Nat × Bool)} {x y : Operand} {op : BinOp} {t u : TypeId} {i j r : Int} (s : Int) (hx : ev M x = some (.int .u8 i)) (hy : ev M y = some (.int .u8 j)) (hb : ariI op i j = some r) (hs : r % 256 = s) :
    EV P n ⟨some d, .binOp op t x y u, ty, ps, af, g⟩ M L d (.int .u8 s) := by
  have := EV_ari (P := P) (n := n) (L := L) (d := d) (ty := ty) (ps := ps) (af := af) (g := g) (op := op) (t := t) (u := u) hx hy hb
  rw [wrap_u8] at this
  rw [← hs]
  have e : ((r % 256).toNat : Int) = r % 256 := by omega
  rwa [e] at this
theorem hex_at {t : List UInt8} {k j : Nat} (hk : k < t.length) (hj : j < 2) : ((hexL t).getD (2 * k + j) 0).toNat = if dgt (t.getD k 0) j < 10 then 48 + dgt (t.getD k 0) j else 87 + dgt (t.getD k 0) j := by
  obtain ⟨g1, g2⟩ := hexL_get t k hk
  rcases (by omega : j = 0 ∨ j = 1) with rfl | rfl
  · rw [Nat.add_zero, g1]
    exact dig_nat _ (dgt_lt (t.getD k 0) 0)
  · rw [g2]
    exact dig_nat _ (dgt_lt (t.getD k 0) 1)
set_option maxHeartbeats 2000000 in
theorem lawraw_n (t : List UInt8) (L : List Chunk) (ht : t.length ≤ 1000) :
    Gv Tryz.prog 12 [.string (str (hexL t))].toArray L (fun r L' => ∃ C, OwG 5 r t.length (bsv t) C ∧ L' = C :: L) := by
  have hh := hexL_length t
  refine Gv.of_body (args := [.string (str (hexL t))]) Tryz.func12 rfl rfl ?_
  (repeat' first|refine kW ?_|refine kU fun bk=>?_|refine kV fun hc=>?_|refine kZ (fun hc=>?_) fun hc=>?_|fail)
  refine WC_loop (X := Nat × Value × Chunk) (fun x => [(0, .string (str (hexL t))), (3, x.2.1), (4, .int .i64 ((2 * x.1 : Nat) : Int))]) (fun x => x.2.2 :: L)
    (fun x => x.1 ≤ t.length ∧ OwG 5 x.2.1 x.1 (bsv (t.take x.1)) x.2.2) (fun x => t.length - x.1) (0, .slice none 0 0, []) ⟨Nat.zero_le _, OwG.nil⟩ iS (fun w h => Holds.nil.2 h) ?_
  intro x ⟨h1, h2⟩
  obtain ⟨k, v, C⟩ := x
  simp only at h1 h2 ⊢
  (repeat' first|refine kW ?_|refine kU fun bk=>?_|refine kV fun hc=>?_|refine kZ (fun hc=>?_) fun hc=>?_|fail)
  · rw [str_size, hh] at hc
    have hk : k < t.length := by omega
    refine WC_loop (X := Nat) (fun j => [(0, .string (str (hexL t))), (3, v), (4, .int .i64 ((2 * k : Nat) : Int)), (5, .int .u8 (inn (t.getD k 0) j : Int)), (6, .int .i64 (j : Int))]) (fun j => C :: L)
      (fun j => j ≤ 2) (fun j => 2 - j) 0 (Nat.zero_le _) iS (fun w h => h) ?_
    intro j hj
    (repeat' first|refine kW ?_|refine kU fun bk=>?_|refine kV fun hc=>?_|refine kZ (fun hc=>?_) fun hc=>?_|fail)
    · have hj2 : j < 2 := by omega
      have hat := hex_at hk hj2
      have hd := dgt_lt (t.getD k 0) j
      have hs := inn_step (t.getD k 0) hj2
      have hi := inn_le (t.getD k 0) (j + 1)
      refine OW_EV (EV_indexStr (s := str (hexL t)) (j := 2 * k + j) rfl rfl (by omega) (str_get (by omega))) rfl ?_
      generalize (hexL t).getD (2 * k + j) 0 = ch at *
      rw [hs] at hi
      have hin : inn (t.getD k 0) j ≤ 15 := by omega
      (repeat' first|refine kW ?_|refine kU fun bk=>?_|refine kV fun hc=>?_|refine kZ (fun hc=>?_) fun hc=>?_|fail)
      · have hc2 : (ch.toNat : Int) = 87 + dgt (t.getD k 0) j := by
          split at hat <;> omega
        rw [hc2]
        refine OW_EV (EV_ari8 (dgt (t.getD k 0) j - 10) rfl rfl rfl (by split at hat <;> omega)) rfl ?_
        (repeat' first|refine kW ?_|refine kU fun bk=>?_|refine kV fun hc=>?_|refine kZ (fun hc=>?_) fun hc=>?_|fail)
        refine OW_EV (EV_ari8 (dgt (t.getD k 0) j) rfl rfl rfl (by omega)) rfl ?_
        (repeat' first|refine kW ?_|refine kU fun bk=>?_|refine kV fun hc=>?_|refine kZ (fun hc=>?_) fun hc=>?_|fail)
        refine OW_EV (EV_ari8 (48 + dgt (t.getD k 0) j) rfl rfl rfl (by omega)) rfl ?_
        (repeat' first|refine kW ?_|refine kU fun bk=>?_|refine kV fun hc=>?_|refine kZ (fun hc=>?_) fun hc=>?_|fail)
        refine OW_EV (EV_ari8 (16 * inn (t.getD k 0) j) rfl rfl rfl (by omega)) rfl ?_
        (repeat' first|refine kW ?_|refine kU fun bk=>?_|refine kV fun hc=>?_|refine kZ (fun hc=>?_) fun hc=>?_|fail)
        refine OW_EV (EV_ari8 ((16 * inn (t.getD k 0) j + (48 + dgt (t.getD k 0) j)) % 256) rfl rfl rfl (by omega)) rfl ?_
        (repeat' first|refine kW ?_|refine kU fun bk=>?_|refine kV fun hc=>?_|refine kZ (fun hc=>?_) fun hc=>?_|fail)
        refine OW_EV (EV_ari8 (inn (t.getD k 0) (j + 1)) rfl rfl rfl (by omega)) rfl ?_
        (repeat' first|refine kW ?_|refine kU fun bk=>?_|refine kV fun hc=>?_|refine kZ (fun hc=>?_) fun hc=>?_|fail)
        refine WQ_round (X := Nat) (μ := fun j => 2 - j) (x := j) (j + 1) (by omega) (by omega) iS (fun w h => iH h)
      · have hc2 : (ch.toNat : Int) = 48 + dgt (t.getD k 0) j := by
          split at hat <;> omega
        rw [hc2]
        refine OW_EV (EV_ari8 (16 * inn (t.getD k 0) j) rfl rfl rfl (by omega)) rfl ?_
        (repeat' first|refine kW ?_|refine kU fun bk=>?_|refine kV fun hc=>?_|refine kZ (fun hc=>?_) fun hc=>?_|fail)
        refine OW_EV (EV_ari8 ((16 * inn (t.getD k 0) j + (48 + dgt (t.getD k 0) j)) % 256) rfl rfl rfl (by omega)) rfl ?_
        (repeat' first|refine kW ?_|refine kU fun bk=>?_|refine kV fun hc=>?_|refine kZ (fun hc=>?_) fun hc=>?_|fail)
        refine OW_EV (EV_ari8 (inn (t.getD k 0) (j + 1)) rfl rfl rfl (by omega)) rfl ?_
        (repeat' first|refine kW ?_|refine kU fun bk=>?_|refine kV fun hc=>?_|refine kZ (fun hc=>?_) fun hc=>?_|fail)
        refine WQ_round (X := Nat) (μ := fun j => 2 - j) (x := j) (j + 1) (by omega) (by omega) iS (fun w h => iH h)
    · have hj2 : j = 2 := by omega
      subst hj2
      have e2 : inn (t.getD k 0) 2 = (t.getD k 0).toNat := rfl
      rw [e2]
      refine OW_buildSlice (cs := bsv [t.getD k 0]) rfl (by rfl) (by simp [fillL, patch, Value.cells, zeros]; rfl) (by omega) rfl rfl (fun b1 => ?_)
      (repeat' first|refine kW ?_|refine kU fun bk=>?_|refine kV fun hc=>?_|refine kZ (fun hc=>?_) fun hc=>?_|fail)
      refine OW_appG rfl rfl h2 (sl_cells (xs := bsv [t.getD k 0]) (m := 1) Fnd.here rfl (by simp)) (by repeat (first | exact Zip.here _ | apply Zip.there)) (by rfl) bsv_ones (by omega) (by unfold maxLen; omega) rfl (fun v1 C1 h4 => ?_)
      rw [← bsv_append, show t.take k ++ [t.getD k 0] = t.take (k + 1) from (take_succ 0 hk).symm] at h4
      (repeat' first|refine kW ?_|refine kU fun bk=>?_|refine kV fun hc=>?_|refine kZ (fun hc=>?_) fun hc=>?_|fail)
      refine WQ_round (X := Nat × Value × Chunk) (μ := fun x => t.length - x.1) (x := (k, v, C)) (k + 1, v1, C1) (by simp only; omega) ⟨by simp only; omega, h4⟩ iS (fun w h => iH h)
  · rw [str_size, hh] at hc
    have hk : k = t.length := by omega
    subst hk
    rw [List.take_length] at h2
    refine kR ?_
    exact ⟨C :: L, iC, C, h2, rfl⟩
end
end Go.Proofs.YtlomjmdgcpjepaaGreatDoor
namespace Go.Proofs.YtlomjmdgcpjepaaGreatDoor
open Go Go.Vx Go.Ob Go.Lib
set_option linter.all false
set_option maxRecDepth 4000
theorem dgF_all : ∀ (f n : Nat), (dgF f n).all (fun b => inD b.toNat) = true
  | 0, _ => rfl
  | f + 1, n => by
    have hd : ∀ j, j < 10 → inD (UInt8.ofNat (48 + j)).toNat = true := by decide
    unfold dgF
    split
    · rw [List.all_cons, hd n (by omega)]; rfl
    · rw [List.all_append, dgF_all f, Bool.true_and]
      rw [List.all_cons, hd (n % 10) (by omega)]; rfl
theorem dgF_ne (f n : Nat) : dgF (f + 1) n ≠ [] := by
  unfold dgF
  split <;> simp
theorem dgF_head : ∀ (f n : Nat), 0 < n → n < 10 ^ (f + 1) → (dgF (f + 1) n).getD 0 0 ≠ 48
  | 0, n, h, hn => by
    have hd : ∀ j, j < 10 → 0 < j → UInt8.ofNat (48 + j) ≠ 48 := by decide
    unfold dgF
    rw [if_pos (by simpa using hn)]
    exact hd n (by simpa using hn) h
  | f + 1, n, h, hn => by
    have hd : ∀ j, j < 10 → 0 < j → UInt8.ofNat (48 + j) ≠ 48 := by decide
    unfold dgF
    split
    · exact hd n (by omega) h
    · have ih := dgF_head f (n / 10) (by omega) (by rw [Nat.pow_succ] at hn; omega)
      have hne := dgF_ne f (n / 10)
      obtain ⟨c, r, hcr⟩ := List.exists_cons_of_ne_nil hne
      rw [hcr] at ih ⊢
      exact ih
theorem dgF_len : ∀ (f j n : Nat), n < 10 ^ (j + 1) → (dgF f n).length ≤ j + 1
  | 0, _, _, _ => Nat.zero_le _
  | f + 1, 0, n, h => by
    unfold dgF
    rw [if_pos (by simpa using h)]
    exact Nat.le_refl _
  | f + 1, j + 1, n, h => by
    unfold dgF
    split
    · simp
    · have := dgF_len f j (n / 10) (by rw [Nat.pow_succ] at h; omega)
      rw [List.length_append]
      simp only [List.length_cons, List.length_nil]
      omega
theorem dgL_tim {n : Nat} (h : n < 16777216) : timB (dgL n) = true ∧ (dgL n).length ≤ 8 := by
  have hl : (dgL n).length ≤ 8 := dgF_len 20 7 n (by omega)
  refine ⟨?_, hl⟩
  have h1 : decide (dgL n ≠ []) = true := decide_eq_true (dgF_ne 19 n)
  have h2 : decide ((dgL n).length ≤ 12) = true := decide_eq_true (by omega)
  have h3 : (dgL n).all (fun b => inD b.toNat) = true := dgF_all 20 n
  have h4 : (decide ((dgL n).length ≤ 1) || decide ((dgL n).getD 0 0 ≠ 48)) = true := by
    rcases Nat.eq_zero_or_pos n with rfl | h0
    · rfl
    · rw [decide_eq_true (p := (dgL n).getD 0 0 ≠ 48) (dgF_head 19 n h0 (by omega)), Bool.or_true]
  unfold timB
  rw [h1, h2, h3, h4]
  rfl
def whoA : List UInt8 := [65, 32, 85, 32, 84, 104, 111, 114, 32, 60, 97, 117, 116, 104, 111, 114, 64, 101, 120, 97, 109, 112, 108, 101, 46, 99, 111, 109, 62, 32]
def whoZ : List UInt8 := [32, 43, 48, 48, 48, 48]
def whoL (k : Nat) : List UInt8 := whoA ++ dgL k ++ whoZ
theorem who_per {k : Nat} (h : k < 16777216) : perB (whoL k) = true := by
  rw [perB_iff]
  refine ⟨[65, 32, 85, 32, 84, 104, 111, 114], [97, 117, 116, 104, 111, 114, 64, 101, 120, 97, 109, 112, 108, 101, 46, 99, 111, 109], dgL k, [43, 48, 48, 48, 48], ?_, by kernel_rfl, by kernel_rfl, (dgL_tim h).1, by kernel_rfl⟩
  simp [whoL, whoA, whoZ]
theorem who_len {k : Nat} (h : k < 16777216) : (whoL k).length ≤ 44 := by
  have := (dgL_tim h).2
  unfold whoL
  rw [List.length_append, List.length_append]
  have e1 : whoA.length = 30 := rfl
  have e2 : whoZ.length = 6 := rfl
  omega
def lnsT : Nat → List UInt8
  | 0 => []
  | i + 1 => lnsT i ++ [108, 105, 110, 101, 32] ++ dgL i ++ [10]
theorem lns_len : ∀ i, i ≤ 16 → (lnsT i).length ≤ i * 14
  | 0, _ => Nat.zero_le _
  | i + 1, h => by
    have h1 := lns_len i (by omega)
    have h2 := (dgL_tim (n := i) (by omega)).2
    simp only [lnsT, List.length_append, List.length_cons, List.length_nil]
    omega
def sFile : List UInt8 := [102, 105, 108, 101]
def sFirst : List UInt8 := [102, 105, 114, 115, 116, 10]
def gitE (s : List UInt8) : Et := ⟨mFile, sFile, idL 3 s⟩
def gitC (s : List UInt8) (k : Nat) : Co := ⟨idL 2 (prT [gitE s]), [], whoL k, whoL k, sFirst⟩
theorem git_first : msgB sFirst = true := by kernel_rfl
theorem idT : idL 3 [116, 101, 115, 116, 32, 99, 111, 110, 116, 101, 110, 116, 10] = [100, 54, 55, 48, 52, 54, 48, 98, 52, 98, 52, 97, 101, 99, 101, 53, 57, 49, 53, 99, 97, 102, 53, 99, 54, 56, 100, 49, 50, 102, 53, 54, 48, 97, 57, 102, 101, 51, 101, 52] := by kernel_rfl
section
variable [W0]
theorem id_len (k : Int) (s : List UInt8) : (idL k s).length = 40 := by unfold idL; rw [hexL_length, shaN_length]
theorem id_hsh (k : Int) (s : List UInt8) : hshB (idL k s) = true := by
  unfold hshB
  rw [id_len]
  unfold idL
  rw [unB_hex]
  rfl
theorem id_raw (k : Int) (s : List UInt8) : rawL (idL k s) = shaN (hdL k (s.length : Int) ++ s) := by
  unfold rawL
  rw [id_hsh, if_pos rfl]
  exact unL_hex _
theorem git_prT (s : List UInt8) : prT [gitE s] = [49, 48, 48, 54, 52, 52, 32, 102, 105, 108, 101, 0] ++ shaN (hdL 3 (s.length : Int) ++ s) := by
  show mFile ++ [32] ++ sFile ++ [0] ++ rawL (idL 3 s) ++ [] = _
  rw [id_raw, List.append_nil]
  rfl
theorem git_prT_len (s : List UInt8) : (prT [gitE s]).length = 32 := by
  rw [git_prT, List.length_append, shaN_length]
  rfl
theorem git_prC (s : List UInt8) (k : Nat) : prC (gitC s k) = wTree ++ idL 2 (prT [gitE s]) ++ (10 :: wAuthor) ++ whoL k ++ (10 :: wCommitter) ++ whoL k ++ [10, 10, 102, 105, 114, 115, 116, 10] := by
  simp [prC, gitC, lnL, prP, sFirst]
theorem git_prC_len (s : List UInt8) {k : Nat} (h : k < 16777216) : (prC (gitC s k)).length ≤ 300 := by
  have := who_len h
  rw [git_prC]
  simp only [List.length_append, id_len, List.length_cons, List.length_nil]
  have e1 : wTree.length = 5 := rfl
  have e2 : wAuthor.length = 7 := rfl
  have e3 : wCommitter.length = 10 := rfl
  omega
theorem git_vl (s : List UInt8) {k : Nat} (h : k < 16777216) : vlC (gitC s k) = true := by
  show (([] : List (List UInt8)).all hshB && hshB (idL 2 (prT [gitE s])) && decide ([] : List (List UInt8)).Nodup && perB (whoL k) && perB (whoL k) && msgB sFirst) = true
  rw [id_hsh, who_per h, git_first]
  rfl
end
end Go.Proofs.YtlomjmdgcpjepaaGreatDoor
namespace Go.Proofs.YtlomjmdgcpjepaaGreatDoor
open Go Go.Vx Go.Ob Go.Lib
set_option linter.all false
set_option maxRecDepth 4000
variable [W0]
set_option maxHeartbeats 8000000 in
theorem objectgit_n (n now : Int) (L : List Chunk) (hb : BsAt L) (h1 : -9223372036854775808 ≤ n) (h2 : n ≤ 9223372036854775807) (h3 : -9223372036854775808 ≤ now) (h4 : now ≤ 9223372036854775807) :
    GvP Tryz.prog 3 [.int .i64 n, .int .i64 now].toArray L (.bool true) := by
  obtain ⟨m, hm, hm16⟩ : ∃ m : Nat, n % 16 = (m : Int) ∧ m < 16 := ⟨(n % 16).toNat, by omega, by omega⟩
  obtain ⟨k, hk, hk24⟩ : ∃ k : Nat, now % 16777216 = (k : Int) ∧ k < 16777216 := ⟨(now % 16777216).toNat, by omega, by omega⟩
  refine Gv.of_body (args := [.int .i64 n, .int .i64 now]) Tryz.func3 rfl rfl ?_
  have hW := who_len hk24
  have hWa : whoA.length = 30 := rfl
  have hWz : whoZ.length = 6 := rfl
  have hdk := (dgL_tim hk24).2
  (repeat' first|refine kW ?_|refine kU fun bk=>?_|refine kV fun hc=>?_|refine kZ (fun hc=>?_) fun hc=>?_|fail)
  refine OW_EV (EV_mask (p := 16) rfl rfl (by rfl)) rfl ?_
  rw [hm]
  (repeat' first|refine kW ?_|refine kU fun bk=>?_|refine kV fun hc=>?_|refine kZ (fun hc=>?_) fun hc=>?_|fail)
  refine OW_EV (EV_mask (p := 16777216) rfl rfl (by rfl)) rfl ?_
  rw [hk]
  (repeat' first|refine kW ?_|refine kU fun bk=>?_|refine kV fun hc=>?_|refine kZ (fun hc=>?_) fun hc=>?_|fail)
  refine WC_loop (X := Nat) (fun i => [(0, .int .i64 (m : Int)), (1, .int .i64 (k : Int)), (5, .string (str (lnsT i))), (6, .int .i64 (i : Int))]) (fun _ => L)
    (fun i => i ≤ m) (fun i => m - i) 0 (Nat.zero_le _) iS (fun w h => h) ?_
  intro i hi
  have hli := lns_len i (by omega)
  (repeat' first|refine kW ?_|refine kU fun bk=>?_|refine kV fun hc=>?_|refine kZ (fun hc=>?_) fun hc=>?_|fail)
  · have hdi := (dgL_tim (n := i) (by omega)).2
    refine OW_EV (EV_catL (lnsT i) [108, 105, 110, 101, 32] rfl rfl (by simp only [List.length_cons, List.length_nil]; omega)) rfl ?_
    (repeat' first|refine kW ?_|refine kU fun bk=>?_|refine kV fun hc=>?_|refine kZ (fun hc=>?_) fun hc=>?_|fail)
    refine OW_callP rfl rfl rfl (digits_n i _ (by omega)) rfl ?_
    (repeat' first|refine kW ?_|refine kU fun bk=>?_|refine kV fun hc=>?_|refine kZ (fun hc=>?_) fun hc=>?_|fail)
    refine OW_EV (EV_catL (lnsT i ++ [108, 105, 110, 101, 32]) (dgL i) rfl rfl (by simp only [List.length_append, List.length_cons, List.length_nil]; omega)) rfl ?_
    (repeat' first|refine kW ?_|refine kU fun bk=>?_|refine kV fun hc=>?_|refine kZ (fun hc=>?_) fun hc=>?_|fail)
    refine OW_EV (EV_catL (lnsT i ++ [108, 105, 110, 101, 32] ++ dgL i) [10] rfl rfl (by simp only [List.length_append, List.length_cons, List.length_nil]; omega)) rfl ?_
    (repeat' first|refine kW ?_|refine kU fun bk=>?_|refine kV fun hc=>?_|refine kZ (fun hc=>?_) fun hc=>?_|fail)
    refine WQ_round (X := Nat) (μ := fun i => m - i) (x := i) (i + 1) (by omega) (by omega) iS (fun w h => h)
  · have him : i = m := by omega
    subst him
    clear hi hm16
    obtain ⟨S, hS⟩ : ∃ S, S = lnsT i := ⟨_, rfl⟩
    rw [← hS] at hli ⊢
    have hSl : S.length ≤ 10000 := by
      have : i ≤ 15 := by omega
      omega
    clear hS hli
    have hgl := git_prT_len S
    have hgc := git_prC_len S hk24
    have hvl := git_vl S hk24
    refine OW_convBytes rfl (by rw [str_size]; unfold maxLen; omega) rfl (fun v C ho => ?_)
    rw [str_size, str_data] at ho
    (repeat' first|refine kW ?_|refine kU fun bk=>?_|refine kV fun hc=>?_|refine kZ (fun hc=>?_) fun hc=>?_|fail)
    refine OW_callP rfl rfl rfl (id_n 3 v S _ hb.there (by omega) (OwG.slc (OwG.f ho))) rfl ?_
    (repeat' first|refine kW ?_|refine kU fun bk=>?_|refine kV fun hc=>?_|refine kZ (fun hc=>?_) fun hc=>?_|fail)
    refine OW_buildSlice (cs := etc [gitE S]) rfl (by rfl) (by simp [fillL, patch, Value.cells, zeros, etc]; exact ⟨rfl, rfl, rfl⟩) (by omega) rfl rfl (fun b1 => ?_)
    (repeat' first|refine kW ?_|refine kU fun bk=>?_|refine kV fun hc=>?_|refine kZ (fun hc=>?_) fun hc=>?_|fail)
    revert bk; intro q1
    refine OW_call rfl rfl rfl (treebytes_n (.slice (some ⟨b1, 0, none⟩) 1 1) [gitE S] _ (sl_there (sl_cells (k := 3) (c := (etc [gitE S]).toArray) (xs := etc [gitE S]) (m := 1) Fnd.here rfl (by simp [etc]))) (by omega) (fun x hx => by
      rw [List.mem_singleton] at hx
      rw [hx]
      show (idL 3 S).length ≤ _
      rw [id_len]; decide) (by simp)) rfl (fun r L' hp => ?_)
    obtain ⟨C1, p1, rfl⟩ := hp
    (repeat' first|refine kW ?_|refine kU fun bk=>?_|refine kV fun hc=>?_|refine kZ (fun hc=>?_) fun hc=>?_|fail)
    refine OW_callP rfl rfl rfl (id_n 2 r (prT [gitE S]) _ hb.there.there.there.there (by omega) (OwG.slc p1)) rfl ?_
    (repeat' first|refine kW ?_|refine kU fun bk=>?_|refine kV fun hc=>?_|refine kZ (fun hc=>?_) fun hc=>?_|fail)
    refine OW_callP rfl rfl rfl (digits_n k _ (by omega)) rfl ?_
    (repeat' first|refine kW ?_|refine kU fun bk=>?_|refine kV fun hc=>?_|refine kZ (fun hc=>?_) fun hc=>?_|fail)
    refine OW_EV (EV_catL whoA (dgL k) rfl rfl (by omega)) rfl ?_
    (repeat' first|refine kW ?_|refine kU fun bk=>?_|refine kV fun hc=>?_|refine kZ (fun hc=>?_) fun hc=>?_|fail)
    refine OW_EV (EV_catL (whoA ++ dgL k) whoZ rfl rfl (by rw [List.length_append]; omega)) rfl ?_
    rw [show whoA ++ dgL k ++ whoZ = whoL k from rfl]
    (repeat' first|refine kW ?_|refine kU fun bk=>?_|refine kV fun hc=>?_|refine kZ (fun hc=>?_) fun hc=>?_|fail)
    revert bk; intro q2
    refine OW_callP rfl rfl rfl (refid_n 3 S _ (by omega)) rfl ?_
    (repeat' first|refine kW ?_|refine kU fun bk=>?_|refine kV fun hc=>?_|refine kZ (fun hc=>?_) fun hc=>?_|fail)
    refine OW_call rfl rfl rfl (lawraw_n (shaN (hdL 3 (S.length : Int) ++ S)) _ (by rw [shaN_length]; decide)) rfl (fun r2 L' hp => ?_)
    obtain ⟨C2, p2, rfl⟩ := hp
    (repeat' first|refine kW ?_|refine kU fun bk=>?_|refine kV fun hc=>?_|refine kZ (fun hc=>?_) fun hc=>?_|fail)
    refine OW_EV (EV_convStr (b := shaN (hdL 3 (S.length : Int) ++ S)) rfl p2.sl) rfl ?_
    (repeat' first|refine kW ?_|refine kU fun bk=>?_|refine kV fun hc=>?_|refine kZ (fun hc=>?_) fun hc=>?_|fail)
    refine OW_EV (EV_catL [49, 48, 48, 54, 52, 52, 32, 102, 105, 108, 101, 0] (shaN (hdL 3 (S.length : Int) ++ S)) rfl rfl (by rw [shaN_length]; decide)) rfl ?_
    rw [← git_prT]
    (repeat' first|refine kW ?_|refine kU fun bk=>?_|refine kV fun hc=>?_|refine kZ (fun hc=>?_) fun hc=>?_|fail)
    refine OW_callP rfl rfl rfl (refid_n 2 (prT [gitE S]) _ (by omega)) rfl ?_
    have hil := id_len 2 (prT [gitE S])
    (repeat' first|refine kW ?_|refine kU fun bk=>?_|refine kV fun hc=>?_|refine kZ (fun hc=>?_) fun hc=>?_|fail)
    refine OW_EV (EV_catL wTree (idL 2 (prT [gitE S])) rfl rfl (by rw [hil]; decide)) rfl ?_
    (repeat' first|refine kW ?_|refine kU fun bk=>?_|refine kV fun hc=>?_|refine kZ (fun hc=>?_) fun hc=>?_|fail)
    refine OW_EV (EV_catL (wTree ++ idL 2 (prT [gitE S])) (10 :: wAuthor) rfl rfl (by rw [List.length_append, hil]; decide)) rfl ?_
    (repeat' first|refine kW ?_|refine kU fun bk=>?_|refine kV fun hc=>?_|refine kZ (fun hc=>?_) fun hc=>?_|fail)
    refine OW_EV (EV_catL (wTree ++ idL 2 (prT [gitE S]) ++ (10 :: wAuthor)) (whoL k) rfl rfl (by rw [List.length_append, List.length_append, hil, show wTree.length = 5 from rfl, show (10 :: wAuthor).length = 8 from rfl]; omega)) rfl ?_
    (repeat' first|refine kW ?_|refine kU fun bk=>?_|refine kV fun hc=>?_|refine kZ (fun hc=>?_) fun hc=>?_|fail)
    refine OW_EV (EV_catL (wTree ++ idL 2 (prT [gitE S]) ++ (10 :: wAuthor) ++ whoL k) (10 :: wCommitter) rfl rfl (by rw [List.length_append, List.length_append, List.length_append, hil, show wTree.length = 5 from rfl, show (10 :: wAuthor).length = 8 from rfl, show (10 :: wCommitter).length = 11 from rfl]; omega)) rfl ?_
    (repeat' first|refine kW ?_|refine kU fun bk=>?_|refine kV fun hc=>?_|refine kZ (fun hc=>?_) fun hc=>?_|fail)
    refine OW_EV (EV_catL (wTree ++ idL 2 (prT [gitE S]) ++ (10 :: wAuthor) ++ whoL k ++ (10 :: wCommitter)) (whoL k) rfl rfl (by rw [List.length_append, List.length_append, List.length_append, List.length_append, hil, show wTree.length = 5 from rfl, show (10 :: wAuthor).length = 8 from rfl, show (10 :: wCommitter).length = 11 from rfl]; omega)) rfl ?_
    (repeat' first|refine kW ?_|refine kU fun bk=>?_|refine kV fun hc=>?_|refine kZ (fun hc=>?_) fun hc=>?_|fail)
    refine OW_EV (EV_catL (wTree ++ idL 2 (prT [gitE S]) ++ (10 :: wAuthor) ++ whoL k ++ (10 :: wCommitter) ++ whoL k) [10, 10, 102, 105, 114, 115, 116, 10] rfl rfl (by rw [List.length_append, List.length_append, List.length_append, List.length_append, List.length_append, hil, show wTree.length = 5 from rfl, show (10 :: wAuthor).length = 8 from rfl, show (10 :: wCommitter).length = 11 from rfl, show [(10 : UInt8), 10, 102, 105, 114, 115, 116, 10].length = 8 from rfl]; omega)) rfl ?_
    rw [← git_prC]
    (repeat' first|refine kW ?_|refine kU fun bk=>?_|refine kV fun hc=>?_|refine kZ (fun hc=>?_) fun hc=>?_|fail)
    refine OW_callP rfl rfl rfl (refid_n 1 (prC (gitC S k)) _ (by omega)) rfl ?_
    have hcb := fun L => commitbytes_n (.slice none 0 0) (gitC S k) L (.inl ⟨0, rfl, rfl, rfl⟩) (by omega) (by simp [gitC])
    (repeat' first|refine kW ?_|refine kU fun bk=>?_|refine kV fun hc=>?_|refine kZ (fun hc=>?_) fun hc=>?_|fail)
    refine OW_call rfl rfl rfl (hcb _) rfl (fun r3 L' hp => ?_)
    obtain ⟨C3, p3, rfl⟩ := hp
    (repeat' first|refine kW ?_|refine kU fun bk=>?_|refine kV fun hc=>?_|refine kZ (fun hc=>?_) fun hc=>?_|fail)
    refine OW_call rfl rfl rfl (parsecommit_n r3 (gitC S k) _ (hb.of fun w h => iH h) p3.sl hvl (by omega)) rfl (fun r4 L' hp => ?_)
    obtain ⟨x4, rfl, rfl⟩ := hp
    (repeat' first|refine kW ?_|refine kU fun bk=>?_|refine kV fun hc=>?_|refine kZ (fun hc=>?_) fun hc=>?_|fail)
    refine OW_call rfl rfl rfl (hcb _) rfl (fun r5 L' hp => ?_)
    obtain ⟨C5, p5, rfl⟩ := hp
    (repeat' first|refine kW ?_|refine kU fun bk=>?_|refine kV fun hc=>?_|refine kZ (fun hc=>?_) fun hc=>?_|fail)
    refine OW_callP rfl rfl rfl (id_n 1 r5 (prC (gitC S k)) _ (hb.of fun w h => iH h) (by omega) (OwG.slc p5)) rfl ?_
    (repeat' first|refine kW ?_|refine kU fun bk=>?_|refine kV fun hc=>?_|refine kZ (fun hc=>?_) fun hc=>?_|fail)
    all_goals (try exact absurd rfl hc)
    all_goals (try exact absurd trivial hc)
    refine OW_callP rfl rfl rfl (person_n (whoL k) _ (hb.of fun w h => iH h) (by omega)) rfl ?_
    rw [who_per hk24]
    (repeat' first|refine kW ?_|refine kU fun bk=>?_|refine kV fun hc=>?_|refine kZ (fun hc=>?_) fun hc=>?_|fail)
    refine OW_buildSlice (cs := bsv [116, 101, 115, 116, 32, 99, 111, 110, 116, 101, 110, 116, 10]) rfl (by rfl) (by simp [fillL, patch, Value.cells, zeros]; rfl) (by omega) rfl rfl (fun b2 => ?_)
    (repeat' first|refine kW ?_|refine kU fun bk=>?_|refine kV fun hc=>?_|refine kZ (fun hc=>?_) fun hc=>?_|fail)
    refine OW_convSame rfl iU rfl ?_
    (repeat' first|refine kW ?_|refine kU fun bk=>?_|refine kV fun hc=>?_|refine kZ (fun hc=>?_) fun hc=>?_|fail)
    refine OW_callP rfl rfl rfl (id_n 3 (.slice (some ⟨b2, 0, none⟩) 13 13) [116, 101, 115, 116, 32, 99, 111, 110, 116, 101, 110, 116, 10] _ (hb.of fun w h => iH h) (by decide) ⟨sl_cells (c := (bsv [116, 101, 115, 116, 32, 99, 111, 110, 116, 101, 110, 116, 10]).toArray) Fnd.here rfl (by rfl), _, _, rfl, Nat.le_refl _⟩) rfl ?_
    rw [idT]
    (repeat' first|refine kW ?_|refine kU fun bk=>?_|refine kV fun hc=>?_|refine kZ (fun hc=>?_) fun hc=>?_|fail)
    all_goals (try exact absurd rfl hc)
    refine OW_callP rfl rfl rfl (awake8_n _ (hb.of fun w h => iH h)) rfl ?_
    (repeat' first|refine kW ?_|refine kU fun bk=>?_|refine kV fun hc=>?_|refine kZ (fun hc=>?_) fun hc=>?_|fail)
    exact kE
end Go.Proofs.YtlomjmdgcpjepaaGreatDoor
namespace Go.Proofs.YtlomjmdgcpjepaaGreatDoor
open Go Go.Vx Go.ChangeShapes Go.WideShapes Go.ChangeAt Go.RowKit Go.Lib
set_option maxRecDepth 100000
set_option linter.all false
def laid8 : List (String × DataW Unit) := [("math/bits.deBruijn32tab", Rows.laid_math_bits_deBruijn32tab), ("math/bits.deBruijn64tab", Rows.laid_math_bits_deBruijn64tab), ("internal/strconv.uint64pow10", Rows.laid_internal_strconv_uint64pow10), ("unicode/utf8.acceptRanges", Rows.laid_unicode_utf8_acceptRanges), ("unicode/utf8.first", Rows.laid_unicode_utf8_first)]
def nums (k : IntKind) : List (DataW Unit) → List Value
  | [] => []
  | .lit (.int _ z) :: r => .int k z :: nums k r
  | .agg [.lit (.int _ z), .lit (.int _ y)] :: r => .int k z :: .int k y :: nums k r
  | _ :: r => nums k r
def parts : DataW Unit → List (DataW Unit)
  | .agg l => l
  | _ => []
def tab32 : List Value := nums .u8 (parts Rows.laid_math_bits_deBruijn32tab)
def tab64 : List Value := nums .u8 (parts Rows.laid_math_bits_deBruijn64tab)
def tab10 : List Value := nums .u64 (parts Rows.laid_internal_strconv_uint64pow10)
def tabAc : List Value := nums .u8 (parts Rows.laid_unicode_utf8_acceptRanges)
def tabFi : List Value := nums .u8 (parts Rows.laid_unicode_utf8_first)
theorem first_eq : Rows.laid_unicode_utf8_first = firstData := by kernel_rfl
theorem accept_eq : Rows.laid_unicode_utf8_acceptRanges (H := Unit) = acceptData := by kernel_rfl
theorem pow_eq : Rows.laid_internal_strconv_uint64pow10 (H := Unit) = tabData .u64 pow10Tab := by kernel_rfl
theorem met_plain {W : World} (h : laidMetH Tryz.prog laid8 W) : laidMet Tryz.prog laid8 W := by
  have e : laid8.filter (fun x => x.2.handleName?.isSome) = [] := by kernel_rfl
  unfold laidMetH at h
  rw [e] at h
  exact h
theorem u8extra : U8Extra Tryz.prog sh_v_ren := ⟨by kernel_rfl, by kernel_rfl, by kernel_rfl, by kernel_rfl, by kernel_rfl, by kernel_rfl, by kernel_rfl⟩
theorem bs_met {W : World} (hL : laidMetH Tryz.prog laid8 W) (hsh : W.ShapedOpen Tryz.prog) [W0] : BsAt [blks W] := by
  obtain ⟨ps, hv, _⟩ := met_plain hL
  have r3 := LaidVars_reads hv "unicode/utf8.first" Rows.laid_unicode_utf8_first (by simp [laid8])
  have r4 := LaidVars_reads hv "unicode/utf8.acceptRanges" Rows.laid_unicode_utf8_acceptRanges (by simp [laid8])
  have r5 := LaidVars_reads hv "internal/strconv.uint64pow10" Rows.laid_internal_strconv_uint64pow10 (by simp [laid8])
  rw [first_eq] at r3
  rw [accept_eq] at r4
  rw [pow_eq] at r5
  have hut := utf8Tabs_of_readsT (U8Types.of196 sh_v) u8extra r3 r4
  have hmx : ∃ m, W.cell? ⟨2, 0, none⟩ = some (.int .i64 m) :=
    cell_of_shapedOpen_int (t := 3) (zero := #[.int .i64 0]) hsh (of_decide_eq_true (by kernel_rfl)) (by kernel_rfl) (by kernel_rfl) (by kernel_rfl) (by kernel_rfl) Tryz.underlying3
  have hpw : TabIs Tryz.prog W "internal/strconv.uint64pow10" .u64 pow10Tab := by
    obtain ⟨g', t', cs, fuel, p, hg', ht', hvar, hd⟩ := r5
    obtain rfl := Option.some.inj ((show Tryz.prog.globalNamed "internal/strconv.uint64pow10" = some 3 by kernel_rfl).symm.trans hg')
    obtain rfl := Option.some.inj ((show (Tryz.prog.globals[3]?).map (·.type) = some 144 by kernel_rfl).symm.trans ht')
    unfold TabIs
    rw [hvar, ← cells_of_tab Tryz.underlying144 Tryz.underlying100 (by kernel_rfl) (by kernel_rfl) hd]
  have hkeep : ∀ w, Vx.Holds w [blks W] → ∀ k, k < W.heap.size → w.heap[k]? = W.heap[k]? := fun w hw k hk => by
    have hm : W.heap[k]? = some W.heap[k] := by simp [hk]
    rw [hm]
    exact hw.2.1 (k, W.heap[k]) (by simpa using blks_mem.2 hm)
  have hlt : ∀ {a : Addr} {v : Value}, W.cell? a = some v → a.block < W.heap.size := fun {a} {v} h => by
    rcases Nat.lt_or_ge a.block W.heap.size with h' | h'
    · exact h'
    · have : W.heap[a.block]? = none := by simp; omega
      simp [World.cell?, this] at h
  have hcell : ∀ w, Vx.Holds w [blks W] → ∀ {a : Addr} {v : Value}, W.cell? a = some v → w.cell? a = some v := fun w hw {a} {v} h => by
    have hb := hkeep w hw a.block (hlt h)
    rw [← h]
    unfold World.cell?
    rw [hb]
  refine ⟨fun w hw => ⟨fun c hc => hcell w hw (hut.1 c hc), fun i hi => ⟨hcell w hw (hut.2 i hi).1, hcell w hw (hut.2 i hi).2⟩⟩, hmx.imp fun m hm w hw => hcell w hw hm, fun w hw => ?_⟩
  have h0 := hpw.cell (g := 3) (by kernel_rfl) 0 (by decide)
  have hb := hkeep w hw _ (hlt h0)
  unfold TabIs World.var? at hpw ⊢
  rw [show Tryz.prog.globalNamed "internal/strconv.uint64pow10" = some 3 from by kernel_rfl] at hpw ⊢
  simp only [Option.bind_some] at hpw ⊢
  rw [hb]
  exact hpw
end Go.Proofs.YtlomjmdgcpjepaaGreatDoor
namespace Go.Proofs.YtlomjmdgcpjepaaGreatDoor
open Go Go.Vx Go.Ob Go.ChangeShapes Go.WideShapes Go.ChangeAt Go.RowKit
set_option linter.all false
set_option maxRecDepth 4000
theorem i64_of_wf {n : Int} (h : (Lit.int .i64 n).wf = true) : -9223372036854775808 ≤ n ∧ n ≤ 9223372036854775807 := by
  simp [Lit.wf, IntKind.min, IntKind.max, IntKind.signed, IntKind.bits] at h
  omega
theorem top_row (H : Type) (enc : TypeId × Value → H) (W : World) (base : Nat) (args : Array Value) (ds gs : List (DataW H)) (before : List MemPlace)
    (hval : ∀ (j : Nat) t v, Tryz.f3.params[j]? = some t → args[j]? = some v → Value.okWide Tryz.prog W .any base t v)
    (hW : DataW.Whole enc Tryz.prog Tryz.f3.params.toList Rows.objectGitSpec.vars false W args.toList ds gs before)
    (hz : (DataW.weightsEach Tryz.prog (Tryz.f3.params.toList ++ Rows.objectGitSpec.plain.varTypes Tryz.prog) (ds ++ gs)).all (· ≤ reachBytes) = true) (hL : laidMetH Tryz.prog laid8 W) (hsh : W.ShapedOpen Tryz.prog) :
    Calls Tryz.prog 3 args W fun e W' => ∃ v, e = .returned v ∧ Rows.objectGitSpec.post enc Tryz.prog Tryz.f3 false true false false W args v W' := by
  have hW' := hW
  obtain ⟨p, q, hA0, hV, rfl, hfz, hnd⟩ := hW
  have hA : DataW.TrodAll enc Tryz.prog W 0 (fun _ => true) true Tryz.f3.params.toList args.toList ds p := hA0
  rw [Tryz.params3] at hA hval hz
  obtain ⟨v0, vs0, d0, ds0, p0, q0, hargs, rfl, rfl, h0, r0⟩ := trodAll_cons hA
  obtain ⟨v1, vs1, d1, ds1, p1, q1, rfl, rfl, rfl, h1, r1⟩ := trodAll_cons r0
  obtain ⟨rfl, rfl, rfl⟩ := trodAll_nil r1
  obtain rfl : args = #[v0, v1] := by cases args; simp_all
  obtain ⟨rfl, rfl⟩ := trodVars_none hV
  obtain ⟨n0, rfl, rfl, rfl, w0⟩ := open_int Tryz.underlying3 (hval 0 _ v0 rfl rfl) h0
  obtain ⟨n1, rfl, rfl, rfl, w1⟩ := open_int Tryz.underlying3 (hval 1 _ v1 rfl rfl) h1
  clear hA0
  have hc : Calls Tryz.prog 3 #[.int .i64 n0, .int .i64 n1] W fun e W' => e = .returned (.bool true) ∧ Kept W W' := by
    refine bridge (fun {i} => ?_)
    have ht := bs_met hL hsh
    exact objectgit_n n0 n1 _ ht (i64_of_wf w0).1 (i64_of_wf w0).2 (i64_of_wf w1).1 (i64_of_wf w1).2
  refine hc.mono fun e W' ⟨he, bel⟩ => ?_
  subst he
  exact ⟨_, rfl, _, _, _, [], _, [], hW', trodAll_mk1 (shut_bool Tryz.underlying4 _), (trodAll_cons_mk (shut_int Tryz.underlying3 w0) (trodAll_cons_mk (shut_int Tryz.underlying3 w1) trodAll_mk0)), rfl, bel.frame _, fun h => by cases h⟩
def putT (w : World) (g : Nat) (zs : List Value) : World := { w with heap := w.heap.modify g fun
      | .cells _ t frozen => .cells zs.toArray t frozen
      | o => o }
noncomputable def laidWorld (os : Os) : World :=
  putT (putT (putT (putT (putT (World.holding Tryz.prog os ⟨#[], #[], []⟩) 4 tab32) 5 tab64) 3 tab10) 1 tabAc) 0 tabFi
theorem laid_met (os : Os) : laidMet Tryz.prog Rows.objectGitRow.laid ((laidWorld os).forCall (fun _ _ => 0) ⟨#[], #[.int .i64 0, .int .i64 0], []⟩).memory :=
  laidMet_of_run' 8 (by kernel_rfl) (by kernel_rfl)
theorem reads (os : Os) {H : Type} (enc : TypeId × Value → H) : ∃ places, DataW.whole enc Tryz.prog ((laidWorld os).forCall (fun _ _ => 0) ⟨#[], #[.int .i64 0, .int .i64 0], []⟩).memory Tryz.f3.params.toList Rows.objectGitSpec.vars false #[.int .i64 0, .int .i64 0].toList 8 = some ([.lit (.int .i64 0), .lit (.int .i64 0)], [], places) :=
  ⟨[], by kernel_rfl⟩
set_option maxRecDepth 100000 in
theorem top_lifted (os : Os) (started : os.Started) (H : Type) (enc : TypeId × Value → H) (F : Stop.Interp) :
    ReturnsInHanded {} Tryz.checked os 3 .any ((OpenSpec.ofChange Rows.objectGitSpec).preRow enc Tryz.prog Tryz.f3 Rows.objectGitRow.domain false Rows.objectGitRow.laid) (((OpenSpec.ofChange Rows.objectGitSpec).at F).post enc Tryz.prog Tryz.f3 false true false false) := by
  obtain ⟨places, hx⟩ := reads os enc
  refine returnsInHanded_of_row (C := Tryz.checked) (s := (OpenSpec.ofChange Rows.objectGitSpec)) Tryz.own started (by kernel_rfl) Tryz.func3
    (witness_row_at (enc := enc) (C := Tryz.checked) false (laidWorld os) #[.int .i64 0, .int .i64 0] rfl (by kernel_rfl) (by kernel_rfl) (by kernel_rfl)
      (OpenSpec.preRow_of_cond 8 hx (by kernel_rfl) (fun k hk => by cases hk) (by kernel_rfl) (laid_met os))) ?_
  intro W base args ds gs before hval hW _ hcond hz hL hsh _
  exact top_row H enc W base args ds gs before hval hW hz hL hsh
theorem top_over : Rows.ObjectGitSaid :=
  OpenClaim.holds_of_cond 3 Tryz.f3 rfl rfl rfl rfl rfl rfl rfl ⟨rfl, rfl, rfl, rfl, rfl⟩ rfl rfl rfl rfl rfl (by kernel_rfl) Tryz.func3 (by kernel_rfl)
    (of_decide_eq_true (by kernel_rfl)) (by unfold Func.isWrapper; first | (rw [if_pos (by decide +kernel)]; kernel_rfl) | (rw [if_neg (by decide +kernel)]; exact ⟨rfl, rfl⟩))
    (fun os started H enc _ F => by rw [OpenClaim.pre_eq_preRow]; exact top_lifted os started H enc F)
theorem top_plain (f : FuncId) (fn : Func) (hf : Tryz.pinned.checked.prog.funcNamed "stemma/stemmalaw8.ObjectGit" = some f) (hfn : Tryz.pinned.checked.prog.funcs[f]? = some fn) :
    true = Tryz.pinned.checked.prog.looks [] ∧ ∀ (j : Nat) t, fn.params[j]? = some t → Tryz.pinned.checked.prog.wantsStandIn t = false := by
  obtain rfl : f = 3 := Option.some.inj ((show Tryz.prog.funcNamed "stemma/stemmalaw8.ObjectGit" = some 3 by kernel_rfl).symm.trans hf) |>.symm
  obtain rfl : fn = Tryz.f3 := (Option.some.inj (Tryz.func3.symm.trans hfn)).symm
  have all : (Tryz.f3.params.toList.all fun t => !Tryz.prog.wantsStandIn t) = true := by kernel_rfl
  refine ⟨by kernel_rfl, fun j t ht => ?_⟩
  have hm : t ∈ Tryz.f3.params.toList := by
    have := Array.mem_of_getElem? ht
    simpa using this
  have := List.all_eq_true.1 all t hm
  show Tryz.prog.wantsStandIn t = false
  simpa using this
theorem top_holds : Rows.ObjectGitCardSaid :=
  Claim7.holds_tied_plain_at .later [] _ _ _ _ top_over (fun _ h => by cases h) (by kernel_rfl) (fun _ h => by cases h) objectGit_row_tie rfl ⟨rfl, rfl⟩ (by kernel_rfl) rfl top_plain (by kernel_rfl)
end Go.Proofs.YtlomjmdgcpjepaaGreatDoor
