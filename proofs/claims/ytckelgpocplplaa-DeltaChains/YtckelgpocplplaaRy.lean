/- Package delta: insertions appended. It proves no statement by itself. No conditions. -/
import Derived.Test.YtckelgpocplplaaRx
namespace Go.Proofs.Ytckelgpocplplaa
open Go Go.Vx Go.Dl
variable [W0]
set_option maxRecDepth 4000
set_option linter.all false
theorem hdb_rs {L : List Chunk} {a : Option Addr} {c : Nat} {t : List UInt8} (h : Rs L 1 (.slice a t.length c) t.length (bsv t)) : HdB a t.length c := by
  obtain ⟨x, y, hv, hmc⟩ := h.room
  injection hv with e1 e2 e3
  subst e3
  refine ⟨hmc, ?_⟩
  rcases Nat.eq_zero_or_pos t.length with h0 | h0
  · exact .inl h0
  · obtain ⟨b, off, cap, cc, T, fr, hve, _, _⟩ := sl_at h.sl (bsv_get h0)
    injection hve with e4 e5 e6
    exact .inr ⟨b, off, e4⟩
theorem ckb_sl {L : List Chunk} {a : Option Addr} {c k : Nat} {t : List UInt8} (h : Rs L 1 (.slice a t.length c) t.length (bsv t)) (hk : 127 * k < t.length) :
    Sl L 1 (ckB a t.length k) ((t.drop (127 * k)).take 127).length (bsv ((t.drop (127 * k)).take 127)) := by
  have hl : ((t.drop (127 * k)).take 127).length = min 127 (t.length - 127 * k) := by rw [List.length_take, List.length_drop]
  rcases h.sl with ⟨c', hv, h0, _⟩ | ⟨x, cap, hv, hr, _⟩
  · omega
  · injection hv with e1 e2 e3
    subst e1 e3
    rcases hr with h0 | ⟨b, off, cc, T, fr, rfl, hf, hc⟩
    · have := congrArg List.length h0
      rw [bsv_length] at this
      simp at this
      rw [this] at hk
      simp at hk
    · rw [hl]
      refine .inr ⟨_, _, rfl, .inr ⟨b, off + 127 * k * 1, cc, T, fr, rfl, hf, fun j u hj => ?_⟩, by rw [bsv_length, hl, Nat.mul_one]⟩
      have hj2 : (bsv t)[127 * k + j]? = some u := by
        have e : bsv ((t.drop (127 * k)).take 127) = ((bsv t).drop (127 * k)).take 127 := by simp [bsv, List.map_take, List.map_drop]
        rw [e, List.getElem?_take] at hj
        split at hj
        · rwa [List.getElem?_drop] at hj
        · cases hj
      have := hc _ _ hj2
      rw [Nat.mul_one, Nat.add_assoc]
      exact this
set_option maxHeartbeats 16000000 in
theorem appendins_n (v : Value) (pre : List UInt8) (vb : Value) (t : List UInt8) (C : Chunk) (L0 L : List Chunk) (ho : Ow 5 1 v pre.length (bsv pre) C) (hb : Rs L0 1 vb t.length (bsv t)) (hi : ∀ x ∈ L0.flatten, x ∈ L.flatten) (hpl : pre.length ≤ 100000000) (htl : t.length ≤ 16777216) :
    Gv Try.prog 29 [v, vb].toArray (C :: L) (fun r L' => ∃ D C', (∀ base, Mk base D t) ∧ D.length ≤ t.length + (t.length + 126) / 127 ∧ Ow 5 1 r (pre ++ D).length (bsv (pre ++ D)) C' ∧ L' = C' :: L) := by
  obtain ⟨va, vc, rfl⟩ := ow_slc ho
  obtain ⟨a, c, rfl⟩ := rs_val hb
  have hh := hdb_rs hb
  refine Gv.of_bodyM (args := [.slice va pre.length vc, .slice a t.length c]) Try.func29 rfl rfl ?_
  (repeat' first|refine kW ?_|refine kU fun bk=>?_|refine kV fun hc=>?_|refine kZ (fun hc=>?_) fun hc=>?_|fail)
  obtain ⟨b3, hb3⟩ : ∃ b3, b3 = bk := ⟨_, rfl⟩
  rw [← hb3]
  clear hb3
  refine OW_call rfl rfl rfl (bchunk_c a t.length c _) rfl (fun r L' hp => ?_)
  obtain ⟨p, q, rfl, rfl⟩ := hp
  (repeat' first|refine kW ?_|refine kU fun bk=>?_|refine kV fun hc=>?_|refine kZ (fun hc=>?_) fun hc=>?_|fail)
  obtain ⟨J, hJ⟩ : ∃ J : Nat → List Chunk → Prop, ∀ k L', J k L' ↔ ∃ v D C, (∀ base, Mk base D (t.take (127 * k))) ∧ D.length ≤ min (127 * k) t.length + k ∧ Ow 5 1 v (pre ++ D).length (bsv (pre ++ D)) C ∧ L' = [(b3, cl [v] 23)] :: C :: L := ⟨fun k L' => ∃ v D C, (∀ base, Mk base D (t.take (127 * k))) ∧ D.length ≤ min (127 * k) t.length + k ∧ Ow 5 1 v (pre ++ D).length (bsv (pre ++ D)) C ∧ L' = [(b3, cl [v] 23)] :: C :: L, fun _ _ => Iff.rfl⟩
  refine WC_range (ps := [8]) rfl (bchunk_it a t.length c p q (by omega) hh) J ([(b3, cl [.slice va pre.length vc] 23)] :: C :: L) ((hJ _ _).2 ⟨_, [], C, fun base => Mk.nil base, Nat.zero_le _, by simpa using ho, rfl⟩) (fun w h => ?_) (fun k hk => by rw [ckL_length] at hk; rw [ckL_get _ _ hk]; rfl) rfl
    (fun k _ => [(2, .pointer (some ⟨b3, 0, none⟩)), (5, ckB a t.length k)]) (fun lp k L' R hk hj => ?_) (fun lp k L' R hk hj => ?_) (fun D a' w L3 hst hd hj hw' => ?_)
  · exact h.perm (List.perm_append_comm (l₁ := [[(q, cl [.int .i64 127] 3)], [(p, cl [.slice a t.length c] 23)]]) (l₂ := [(b3, cl [.slice va pre.length vc] 23)] :: C :: L))
  · rw [ckL_length] at hk
    rw [ckL_get _ _ hk]
    show Wic _ _ _ _ _ ((8, ckB a t.length k) :: _) _
    (repeat' first|refine kI ?_|refine kU fun bk=>?_|refine kJ fun hc=>?_|refine kK (fun hc=>?_) fun hc=>?_|fail)
    exact WQ_AP iS (fun w h => h)
  · rw [ckL_length] at hk
    obtain ⟨v, D, C, hmk, hdl, ho1, rfl⟩ := (hJ _ _).1 hj
    show Wic _ _ _ _ _ _ ([(b3, cl [v] 23)] :: C :: (L ++ R))
    have hk2 : 127 * k < t.length := by omega
    obtain ⟨xs, hxs⟩ : ∃ xs, xs = (t.drop (127 * k)).take 127 := ⟨_, rfl⟩
    have hsl : Sl L0 1 (ckB a t.length k) xs.length (bsv xs) := by rw [hxs]; exact ckb_sl hb hk2
    have hxl : xs.length = min 127 (t.length - 127 * k) := by rw [hxs, List.length_take, List.length_drop]
    have hx0 : xs ≠ [] := by intro e; rw [e] at hxl; simp at hxl; omega
    have htk : t.take (127 * (k + 1)) = t.take (127 * k) ++ xs := by rw [hxs, show 127 * (k + 1) = 127 * k + 127 from by omega]; exact take_piece _ _ _
    obtain ⟨ca, cc, hcv⟩ := sl_slice hsl
    rw [hcv] at hsl ⊢
    have hu : ((UInt8.ofNat xs.length).toNat : Int) = (xs.length : Int) := u8_nat (by omega)
    have hol : (pre ++ D).length ≤ 200000000 := by rw [List.length_append]; omega
    have hsub : ∀ x ∈ L0.flatten, x ∈ (L ++ R).flatten := fun x hx => by rw [List.flatten_append, List.mem_append]; exact .inl (hi x hx)
    have hone1 := ow_one ho1
    (repeat' first|refine kI ?_|refine kU fun bk=>?_|refine kJ fun hc=>?_|refine kK (fun hc=>?_) fun hc=>?_|fail)
    rw [wrap_byte]
    refine OW_buildSlice (cs := [.int .u8 ((UInt8.ofNat xs.length).toNat : Int)]) rfl (by rfl) (by first | (simp [fillL, patch, Value.cells, zeros]; done) | (simp [fillL, patch, Value.cells, zeros]; rfl)) (by omega) rfl rfl (fun bn => ?_)
    (repeat' first|refine kI ?_|refine kU fun bk=>?_|refine kJ fun hc=>?_|refine kK (fun hc=>?_) fun hc=>?_|fail)
    refine OW_append rfl rfl ho1 (sl_cells (k := 1) (c := #[.int .u8 ((UInt8.ofNat xs.length).toNat : Int)]) (xs := [.int .u8 ((UInt8.ofNat xs.length).toNat : Int)]) (m := 1) Fnd.here rfl (by simp)) (by repeat (first | exact Zip.here _ | apply Zip.there)) rfl (by rfl) (by omega) (by simp [maxLen]; omega) rfl (fun v1 C1 h1 _ _ => ?_)
    rw [← bsv_one, ← bsv_append] at h1
    (repeat' first|refine kI ?_|refine kU fun bk=>?_|refine kJ fun hc=>?_|refine kK (fun hc=>?_) fun hc=>?_|fail)
    refine OW_storeTo [v1] rfl rfl (ow_one h1) rfl iU (by simp) ?_
    have hone2 := ow_one h1
    (repeat' first|refine kI ?_|refine kU fun bk=>?_|refine kJ fun hc=>?_|refine kK (fun hc=>?_) fun hc=>?_|fail)
    refine OW_append rfl rfl h1 (sl_sub (mem_tail (C := [(bn, cl [Value.int .u8 ((UInt8.ofNat xs.length).toNat : Int)] 5)]) (mem_tail (C := [(b3, cl [v1] 23)]) (mem_tail (C := C1) hsub))) hsl) (by repeat (first | exact Zip.here _ | apply Zip.there)) rfl bsv_ones (by omega) (by simp [maxLen]; omega) rfl (fun v2 C2 h2 _ _ => ?_)
    rw [← bsv_append] at h2
    (repeat' first|refine kI ?_|refine kU fun bk=>?_|refine kJ fun hc=>?_|refine kK (fun hc=>?_) fun hc=>?_|fail)
    refine OW_storeTo [v2] rfl rfl (ow_one h2) rfl iU (by simp) ?_
    (repeat' first|refine kI ?_|refine kU fun bk=>?_|refine kJ fun hc=>?_|refine kK (fun hc=>?_) fun hc=>?_|fail)
    refine WQ_RP ([(b3, cl [v2] 23)] :: C2 :: L) ((hJ _ _).2 ⟨v2, D ++ inB xs, C2, fun base => ?_, ?_, ?_, rfl⟩) (fun w h => (iC : Inc ([(b3, cl [v2] 23)] :: C2 :: (L ++ R)) _).holds h)
    · exact (hmk base).more (Mk.ins hx0 (by omega)) htk
    · show (D ++ (UInt8.ofNat xs.length :: xs)).length ≤ _
      rw [List.length_append, List.length_cons]
      omega
    · have e : pre ++ (D ++ inB xs) = pre ++ D ++ [UInt8.ofNat xs.length] ++ xs := by
        show pre ++ (D ++ (UInt8.ofNat xs.length :: xs)) = _
        simp [List.append_assoc]
      have e2 : (pre ++ D ++ [UInt8.ofNat xs.length] ++ xs).length = (pre ++ D).length + 1 + xs.length := by rw [List.length_append, List.length_append]; rfl
      rw [e, e2]
      exact h2
  · obtain ⟨v, Dd, C, hmk, hdl, ho1, rfl⟩ := (hJ _ _).1 hj
    rw [ckL_length] at hmk hdl
    have e0 : t.take (127 * ((t.length + 126) / 127)) = t := List.take_of_length_le (by omega)
    rw [e0] at hmk
    have hw2 : Holds w (([(D, .deferred (some []))] :: [(b3, cl [v] 23)] :: C :: L) ++ [[(q, cl [.int .i64 127] 3)], [(p, cl [.slice a t.length c] 23)]]) := hw'
    have hw3 := hw2.front
    have hone := ow_one ho1
    change Code.wp _ _ _ a' w
    refine Wmc.out (M := [(2, .pointer (some ⟨b3, 0, none⟩))]) (L := [(D, .deferred (some []))] :: [(b3, cl [v] 23)] :: C :: L) ?_ a' w (hst.sub iS) hd hw3
    refine WM_seq (WM_region (WN_ev rfl (EV_loadc rfl (Fnd.there Fnd.here) rfl) rfl (WN_ev rfl (EV_assign rfl) rfl (WN_nil (WP_code rfl (WM_ret ?_))))))
    exact WP_end (.inl rfl) rfl rfl (L1 := C :: L) (fun w h => (iC : Inc ([(D, .deferred (some []))] :: C :: L) _).holds h) ⟨Dd, C, hmk, by omega, ho1, rfl⟩
end Go.Proofs.Ytckelgpocplplaa
