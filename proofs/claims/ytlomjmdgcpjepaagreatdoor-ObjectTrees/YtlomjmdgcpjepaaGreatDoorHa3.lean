/- ObjectTrees returns true and leaves its arguments as they were, for every argument; the table that the program reads is tied to its text (the card). No conditions beyond the row's. -/
import Derived.Test.YtlomjmdgcpjepaaGreatDoorHa2
namespace Go.Proofs.YtlomjmdgcpjepaaGreatDoor
open Go Go.Vx Go.Ob Go.Lib Go.So
set_option linter.all false
set_option maxRecDepth 4000
def sfC : List Value := ssv [[], [46], [48]]
def F6 (i : Nat) : Nat → Fk
  | 0 | 8 | 13 => .pure (.int .i64 (i : Int))
  | 1 => .pure (.int .i64 ((i / 2 : Nat) : Int))
  | 2 => .pure (.int .u8 ((i / 2 : Nat) : Int))
  | 3 => .pure (.int .u8 ((UInt8.ofNat (97 + i / 2)).toNat : Int))
  | 4 => .mem (fun q => .slice (some ⟨q, 0, none⟩) 1 1) (cl (bsv [UInt8.ofNat (97 + i / 2)]) 5)
  | 5 => .pure (.string (str [UInt8.ofNat (97 + i / 2)]))
  | 6 => .pure (.string (str ([110] ++ [UInt8.ofNat (97 + i / 2)])))
  | 7 => .mem (fun q => .slice (some ⟨q, 0, none⟩) 3 3) (cl sfC 9)
  | 9 => .pure (.int .i64 ((i % 3 : Nat) : Int))
  | 10 => .mem (fun q => .pointer (some ⟨q, i % 3 * 1, none⟩)) (cl sfC 9)
  | 11 => .pure (.string (str (sfT (i % 3))))
  | 12 => .pure (.string (str (nmT i)))
  | 14 => .pure (.int .u8 ((UInt8.ofNat i).toNat : Int))
  | 15 => .mem (fun q => .slice (some ⟨q, 0, none⟩) 1 1) (cl (bsv [UInt8.ofNat i]) 5)
  | 16 => .pure (.string (str (idL 3 [UInt8.ofNat i])))
  | 17 => .pure (.agg (etc [⟨mFile, nmT i, idL 3 [UInt8.ofNat i]⟩]).toArray)
  | _ => .own (fun q => .pointer (some ⟨q, 0, none⟩)) (cl [.string .empty, .string .empty, .string .empty] 26)
theorem sfC_at {i : Nat} (h : i < 3) : sfC.toArray[i]? = some (.string (str (sfT i))) := by
  rcases (by omega : i = 0 ∨ i = 1 ∨ i = 2) with rfl | rfl | rfl <;> rfl
variable [W0]
set_option maxHeartbeats 8000000 in
theorem objecttrees_n (n swap : Int) (v1 : Value) (tr : List Bool) (L : List Chunk) (hb : BsAt L) (hv : Sl L 1 v1 tr.length (tr.map Value.bool)) (h1 : -9223372036854775808 ≤ n) (h2 : n ≤ 9223372036854775807) (h3 : -9223372036854775808 ≤ swap) (h4 : swap ≤ 9223372036854775807) :
    GvP Tryz.prog 4 [.int .i64 n, v1, .int .i64 swap].toArray L (.bool true) := by
  obtain ⟨m, hm, hm8⟩ : ∃ m : Nat, n % 8 = (m : Int) ∧ m < 8 := ⟨(n % 8).toNat, by omega, by omega⟩
  obtain ⟨a1, c1, rfl⟩ := sl_shape hv
  obtain ⟨fl, hfl⟩ : ∃ fl : Nat → Bool, fl = fun i => tr.getD i false := ⟨_, rfl⟩
  refine Gv.of_body (args := [.int .i64 n, .slice a1 tr.length c1, .int .i64 swap]) Tryz.func4 rfl rfl ?_
  (repeat' first|refine kW ?_|refine kU fun bk=>?_|refine kV fun hc=>?_|refine kZ (fun hc=>?_) fun hc=>?_|fail)
  refine OW_EV (EV_mask (p := 8) rfl rfl (by rfl)) rfl ?_
  rw [hm]
  (repeat' first|refine kW ?_|refine kU fun bk=>?_|refine kV fun hc=>?_|refine kZ (fun hc=>?_) fun hc=>?_|fail)
  refine WC_loop (X := Nat × Value × Chunk) (fun x => [(0, .int .i64 ((m : Int) + 1)), (1, .slice a1 tr.length c1), (2, .int .i64 swap), (7, x.2.1), (8, .int .i64 (x.1 : Int))]) (fun x => x.2.2 :: L)
    (fun x => x.1 ≤ m + 1 ∧ Ow 26 3 x.2.1 x.1 (etc (lf (eT fl) x.1)) x.2.2) (fun x => m + 1 - x.1) (0, .slice none 0 0, []) ⟨Nat.zero_le _, .inl ⟨rfl, rfl, rfl, rfl⟩⟩ iS (fun w h => Holds.nil.2 h) ?_
  intro x ⟨i1, i2⟩
  obtain ⟨i, v, C⟩ := x
  simp only at i1 i2 ⊢
  obtain ⟨va, vc, rfl⟩ : ∃ a c, v = .slice a i c := by
    rcases i2 with ⟨rfl, h, _, _⟩ | ⟨b, cap, rest, rfl, _⟩
    · exact ⟨none, 0, by rw [h]⟩
    · exact ⟨_, _, rfl⟩
  (repeat' first|refine kW ?_|refine kU fun bk=>?_|refine kV fun hc=>?_|refine kZ (fun hc=>?_) fun hc=>?_|fail)
  · have hi8 : i < 8 := by omega
    have hu8 : ∀ a : Nat, a < 256 → ((UInt8.ofNat a).toNat : Int) = (a : Int) := fun a ha => by rw [UInt8.toNat_ofNat']; omega
    refine WC_drawAll [19] mixed ?_
    refine WR_flowK [(0, .int .i64 ((m : Int) + 1)), (1, .slice a1 tr.length c1), (2, .int .i64 swap), (7, .slice va i vc), (8, .int .i64 (i : Int))] 19 [27, 28, 29, 30, 31, 32, 33, 34, 35, 36, 37, 38, 39, 40, 41, 42, 43, 44, 9] (F6 i) (by kernel_rfl) rfl (by decide) (by rfl) ?_ ?_ iS
    · intro j o hj ho
      match j, hj, ho with
      | 0, _, ho => 
        obtain rfl := Option.some.inj ho
        refine ⟨rfl, fun M L hM hR hd => ?_⟩
        exact OW_EV (EV_move (hM 8 _ rfl)) rfl ⟨_, [], rfl, rfl, rfl⟩
      | 1, _, ho =>
        obtain rfl := Option.some.inj ho
        refine ⟨rfl, fun M L hM hR hd => ?_⟩
        obtain ⟨_, e0, rfl⟩ := hd 0 rfl
        exact OW_EV (EV_quoN i 2 e0 rfl rfl rfl (by decide) (by omega)) rfl ⟨_, [], rfl, rfl, rfl⟩
      | 2, _, ho =>
        obtain rfl := Option.some.inj ho
        refine ⟨rfl, fun M L hM hR hd => ?_⟩
        obtain ⟨_, e0, rfl⟩ := hd 1 rfl
        exact OW_EV (EV_convII (r := ((i / 2 : Nat) : Int)) e0 (by rw [wrap_u8]; omega)) rfl ⟨_, [], rfl, rfl, rfl⟩
      | 3, _, ho =>
        obtain rfl := Option.some.inj ho
        refine ⟨rfl, fun M L hM hR hd => ?_⟩
        obtain ⟨_, e0, rfl⟩ := hd 2 rfl
        exact OW_EV (EV_ari8 ((UInt8.ofNat (97 + i / 2)).toNat : Int) rfl e0 rfl (by rw [hu8 _ (by omega)]; omega)) rfl ⟨_, [], rfl, rfl, rfl⟩
      | 4, _, ho =>
        obtain rfl := Option.some.inj ho
        refine ⟨rfl, fun M L hM hR hd => ?_⟩
        obtain ⟨_, e0, rfl⟩ := hd 3 rfl
        refine OW_buildSlice (pvs := [(0, .int .u8 ((UInt8.ofNat (97 + i / 2)).toNat : Int))]) (cs := bsv [UInt8.ofNat (97 + i / 2)]) (by show evp M [(0, .tmp 30)] = _; simp only [evp, ev]; rw [show lk M 30 = _ from e0]) (by rfl) (by rfl) (by omega) rfl rfl (fun q => ?_)
        exact ⟨_, [_], rfl, rfl, q, rfl, Fnd.here⟩
      | 5, _, ho =>
        obtain rfl := Option.some.inj ho
        refine ⟨rfl, fun M L hM hR hd => ?_⟩
        obtain ⟨_, e0, q, rfl, hq⟩ := hd 4 rfl
        exact OW_EV (EV_convStr (b := [UInt8.ofNat (97 + i / 2)]) (m := 1) e0 (sl_cells hq rfl (by simp))) rfl ⟨_, [], rfl, rfl, rfl⟩
      | 6, _, ho =>
        obtain rfl := Option.some.inj ho
        refine ⟨rfl, fun M L hM hR hd => ?_⟩
        obtain ⟨_, e0, rfl⟩ := hd 5 rfl
        exact OW_EV (EV_catL [110] [UInt8.ofNat (97 + i / 2)] rfl e0 (by simp)) rfl ⟨_, [], rfl, rfl, rfl⟩
      | 7, _, ho =>
        obtain rfl := Option.some.inj ho
        refine ⟨rfl, fun M L hM hR hd => ?_⟩
        refine OW_buildSlice (cs := sfC) rfl (by rfl) (by simp [fillL, patch, Value.cells, zeros]; rfl) (by omega) rfl rfl (fun q => ?_)
        exact ⟨_, [_], rfl, rfl, q, rfl, Fnd.here⟩
      | 8, _, ho =>
        obtain rfl := Option.some.inj ho
        refine ⟨rfl, fun M L hM hR hd => ?_⟩
        exact OW_EV (EV_move (hM 8 _ rfl)) rfl ⟨_, [], rfl, rfl, rfl⟩
      | 9, _, ho =>
        obtain rfl := Option.some.inj ho
        refine ⟨rfl, fun M L hM hR hd => ?_⟩
        obtain ⟨_, e0, rfl⟩ := hd 8 rfl
        exact OW_EV (EV_remN i 3 e0 rfl rfl rfl (by decide)) rfl ⟨_, [], rfl, rfl, rfl⟩
      | 10, _, ho =>
        obtain rfl := Option.some.inj ho
        refine ⟨rfl, fun M L hM hR hd => ?_⟩
        obtain ⟨_, e0, rfl⟩ := hd 9 rfl
        obtain ⟨_, e1, q, rfl, hq⟩ := hd 7 rfl
        exact OW_EV (EV_indexAddr0 (x := .tmp 34) (y := .tmp 36) (j := i % 3) (len := 3) (show ev M (.tmp 34) = some (.slice (some ⟨q, 0, none⟩) 3 3) from e1) e0 rfl (by omega)) rfl ⟨_, [], rfl, rfl, q, rfl, hq⟩
      | 11, _, ho =>
        obtain rfl := Option.some.inj ho
        refine ⟨rfl, fun M L hM hR hd => ?_⟩
        obtain ⟨_, e0, q, rfl, hq⟩ := hd 10 rfl
        exact OW_EV (EV_load e0 hq (by rw [Nat.mul_one]; exact sfC_at (by omega))) rfl ⟨_, [], rfl, rfl, rfl⟩
      | 12, _, ho =>
        obtain rfl := Option.some.inj ho
        refine ⟨rfl, fun M L hM hR hd => ?_⟩
        obtain ⟨_, e0, rfl⟩ := hd 6 rfl
        obtain ⟨_, e1, rfl⟩ := hd 11 rfl
        refine OW_EV (EV_catL ([110] ++ [UInt8.ofNat (97 + i / 2)]) (sfT (i % 3)) e0 e1 ?_) rfl ⟨_, [], rfl, rfl, rfl⟩
        have : ∀ r, (sfT r).length ≤ 1 := fun r => by unfold sfT; split <;> decide
        have := this (i % 3)
        simp only [List.length_append, List.length_cons, List.length_nil]
        omega
      | 13, _, ho =>
        obtain rfl := Option.some.inj ho
        refine ⟨rfl, fun M L hM hR hd => ?_⟩
        exact OW_EV (EV_move (hM 8 _ rfl)) rfl ⟨_, [], rfl, rfl, rfl⟩
      | 14, _, ho =>
        obtain rfl := Option.some.inj ho
        refine ⟨rfl, fun M L hM hR hd => ?_⟩
        obtain ⟨_, e0, rfl⟩ := hd 13 rfl
        exact OW_EV (EV_convII (r := ((UInt8.ofNat i).toNat : Int)) e0 (by rw [wrap_u8, hu8 _ (by omega)]; omega)) rfl ⟨_, [], rfl, rfl, rfl⟩
      | 15, _, ho =>
        obtain rfl := Option.some.inj ho
        refine ⟨rfl, fun M L hM hR hd => ?_⟩
        obtain ⟨_, e0, rfl⟩ := hd 14 rfl
        refine OW_buildSlice (pvs := [(0, .int .u8 ((UInt8.ofNat i).toNat : Int))]) (cs := bsv [UInt8.ofNat i]) (by show evp M [(0, .tmp 41)] = _; simp only [evp, ev]; rw [show lk M 41 = _ from e0]) (by rfl) (by rfl) (by omega) rfl rfl (fun q => ?_)
        exact ⟨_, [_], rfl, rfl, q, rfl, Fnd.here⟩
      | 16, _, ho =>
        obtain rfl := Option.some.inj ho
        refine ⟨rfl, fun M L' hM hR hd => ?_⟩
        obtain ⟨_, e0, q, rfl, hq⟩ := hd 15 rfl
        obtain ⟨R, rfl⟩ := hR
        refine OW_callP (vs := [.int .i64 3, .slice (some ⟨q, 0, none⟩) 1 1]) rfl (by show evs M [.const (.int .i64 3), .tmp 42] = some [.int .i64 3, .slice (some ⟨q, 0, none⟩) 1 1]; simp only [evs, ev]; rw [show lk M 42 = _ from e0]) rfl (id_n 3 (.slice (some ⟨q, 0, none⟩) 1 1) [UInt8.ofNat i] _ ((hb.there (C := C)).inc inc_app) (by simp) ⟨sl_cells hq rfl (by simp), _, _, rfl, Nat.le_refl _⟩) rfl ?_
        exact ⟨_, [], rfl, rfl, rfl⟩
      | 17, _, ho =>
        obtain rfl := Option.some.inj ho
        refine ⟨rfl, fun M L hM hR hd => ?_⟩
        obtain ⟨_, e0, rfl⟩ := hd 12 rfl
        obtain ⟨_, e1, rfl⟩ := hd 16 rfl
        refine OW_EV (EV_build (pvs := [(0, .string (str mFile)), (1, .string (str (nmT i))), (2, .string (str (idL 3 [UInt8.ofNat i])))]) (cs := etc [⟨mFile, nmT i, idL 3 [UInt8.ofNat i]⟩]) (by show evp M [(0, .const (.string (str mFile))), (1, .tmp 39), (2, .tmp 43)] = _; simp only [evp, ev]; rw [show lk M 39 = _ from e0, show lk M 43 = _ from e1]) (by simp [fillL, patch, Value.cells, zeros, etc])) rfl ⟨_, [], rfl, rfl, rfl⟩
      | 18, _, ho =>
        obtain rfl := Option.some.inj ho
        refine ⟨rfl, fun M L hM hR hd => ?_⟩
        obtain ⟨R, rfl⟩ := hR
        exact OW_alloc rfl fun q => ⟨_, [_], rfl, rfl, q, [], R, rfl, rfl⟩
      | j + 19, hj, _ => omega
    · intro o ho
      obtain rfl := Option.some.inj ho
      refine ⟨rfl, fun M L' hM hR hd => ?_⟩
      obtain ⟨_, e0, rfl⟩ := hd 17 (by omega)
      obtain ⟨_, e1, q9, R1, R3, rfl, rfl⟩ := hd 18 (by omega)
      refine OW.restate (fun w h => inc_mid.holds h) ?_
      refine OW_storeAggTo (l := [.string .empty, .string .empty, .string .empty]) (vs := etc [⟨mFile, nmT i, idL 3 [UInt8.ofNat i]⟩]) (etc [⟨mFile, nmT i, idL 3 [UInt8.ofNat i]⟩]) e1 e0 rfl (by rfl) (by rfl) iU (by simp [etc]) ?_
      refine ⟨inc_app (R := [_]), ?_⟩
      refine WQ.restate (Sub.cons (t := 9) e1 hM) (fun w h => h) ?_
      clear hd hM e0 e1
      (repeat' first|refine kW ?_|refine kU fun bk=>?_|refine kV fun hc=>?_|refine kZ (fun hc=>?_) fun hc=>?_|fail)
      · have hit : i < tr.length := by omega
        have hte : (tr.map Value.bool)[i]? = some (.bool (fl i)) := by rw [hfl]; simp [hit]
        obtain ⟨b, off, c, T, fr, ha1, hfn, hc2⟩ : ∃ b off c T fr, a1 = some ⟨b, off, none⟩ ∧ Fnd L b (.cells c T fr) ∧ c[off + i]? = some (.bool (fl i)) := by
          rcases hv with ⟨_, _, h0, _⟩ | ⟨ad, cap, he, hr, hl⟩
          · omega
          injection he with he1 _ he3
          rcases hr with hr | ⟨b, off, c, T, fr, rfl, hfn, hc2⟩
          · rw [hr] at hte; simp at hte
          · exact ⟨b, off, c, T, fr, he1, hfn, hc2 _ _ hte⟩
        refine OW_EV (EV_indexAddr (b := b) (off := off) (j := i) (by rw [← ha1]; rfl) rfl rfl hit) rfl ?_
        (repeat' first|refine kW ?_|refine kU fun bk=>?_|refine kV fun hc=>?_|refine kZ (fun hc=>?_) fun hc=>?_|fail)
        refine OW_EV (EV_load rfl hfn.there.there (by rw [Nat.mul_one]; exact hc2)) rfl ?_
        cases hq : fl i with
        | false =>
          (repeat' first|refine kW ?_|refine kU fun bk=>?_|refine kV fun hc=>?_|refine kZ (fun hc=>?_) fun hc=>?_|fail)
          refine WC_holds' (L' := [(q9, cl (etc [eT fl i]) 26)] :: C :: L) (fun w h => by
            have hE : eT fl i = ⟨mFile, nmT i, idL 3 [UInt8.ofNat i]⟩ := by unfold eT; rw [hq]; rfl
            rw [hE]; exact h) ?_
          refine WC_loop (X := Nat) (fun k => [(0, .int .i64 ((m : Int) + 1)), (1, .slice a1 tr.length c1), (2, .int .i64 swap), (7, .slice va i vc), (8, .int .i64 (i : Int)), (9, .pointer (some ⟨q9, 0, none⟩)), (10, .bool false), (11, .int .i64 (k : Int))]) (fun _ => [(q9, cl (etc [eT fl i]) 26)] :: C :: L)
            (fun k => k ≤ i) (fun k => i - k) 0 (Nat.zero_le _) iS (fun w h => h) ?_
          intro k hk
          (repeat' first|refine kW ?_|refine kU fun bk=>?_|refine kV fun hc=>?_|refine kZ (fun hc=>?_) fun hc=>?_|fail)
          · have hki : k < i := by omega
            rcases i2 with ⟨_, h0, _, _⟩ | ⟨b0, cap0, rest, he0, rfl, hx1, hx2, hx3, hx4⟩
            · omega
            injection he0 with he1 _ he3
            subst he1 he3
            have hat := etc_at (lf_at (eT fl) hki)
            have hxl : k * 3 + 1 < (etc (lf (eT fl) i)).length := by rw [etc_len, lf_len]; omega
            refine WC_drawAll [] mixed ?_
            (refine WR_t 0 ?_; refine WR_t 1 ?_)
            (refine WR_u 2 ?_; refine WR_u 3 ?_)
            (refine WR_takeOn 4 rfl rfl rfl (by kernel_rfl) iP iC (EV_indexAddr (j := k) rfl rfl rfl hki) (by rfl) ?_)
            (refine WR_u 5 ?_)
            (refine WR_takeOn 6 rfl rfl rfl (by kernel_rfl) iP iC (EV_load rfl (.there .here) (by rw [List.getElem?_toArray, Nat.zero_add, List.getElem?_append_left hxl]; exact hat.2.1)) (by rfl) ?_)
            (refine WR_u 7 ?_; refine WR_u 8 ?_)
            (refine WR_takeOn 9 rfl rfl rfl (by kernel_rfl) iP iC (EV_eqL (nmT k) (nmT i) rfl rfl) (by rfl) ?_)
            rw [decide_eq_false (p := nmT k = nmT i) (fun h => by have := nmT_inj k (by omega) i hi8 h; omega)]
            (refine WR_t 10 ?_; refine WR_t 11 ?_)
            (refine WR_done (by kernel_rfl) ?_)
            (repeat' first|refine kW ?_|refine kU fun bk=>?_|refine kV fun hc=>?_|refine kZ (fun hc=>?_) fun hc=>?_|fail)
            refine WQ_round (X := Nat) (μ := fun k => i - k) (x := k) (k + 1) (by omega) (by omega) iS (fun w h => h)
          · refine OW_buildSlice (cs := etc [eT fl i]) rfl (by rfl) (by rfl) (by omega) rfl rfl (fun b1 => ?_)
            (repeat' first|refine kW ?_|refine kU fun bk=>?_|refine kV fun hc=>?_|refine kZ (fun hc=>?_) fun hc=>?_|fail)
            refine OW_append rfl rfl i2 (sl_cells (k := 3) (c := (etc [eT fl i]).toArray) (xs := etc [eT fl i]) (m := 1) Fnd.here rfl (by simp [etc])) (by repeat (first | exact Zip.here _ | apply Zip.there)) rfl (by rfl) (by omega) (by unfold maxLen; omega) rfl (fun v1 C1 g1 _ _ => ?_)
            rw [← etc_app, ← lf_snoc] at g1
            (repeat' first|refine kW ?_|refine kU fun bk=>?_|refine kV fun hc=>?_|refine kZ (fun hc=>?_) fun hc=>?_|fail)
            refine WQ_round (X := Nat × Value × Chunk) (μ := fun x => m + 1 - x.1) (x := (i, .slice va i vc, C)) (i + 1, v1, C1) (by simp only; omega) ⟨by simp only; omega, g1⟩ iS (fun w h => iH h)
        | true =>
          (repeat' first|refine kW ?_|refine kU fun bk=>?_|refine kV fun hc=>?_|refine kZ (fun hc=>?_) fun hc=>?_|fail)
          refine OW_storeTo (l := etc [⟨mFile, nmT i, idL 3 [UInt8.ofNat i]⟩]) (etc [⟨mDir, nmT i, idL 3 [UInt8.ofNat i]⟩]) rfl rfl rfl rfl iU (by simp [etc]) ?_
          (repeat' first|refine kW ?_|refine kU fun bk=>?_|refine kV fun hc=>?_|refine kZ (fun hc=>?_) fun hc=>?_|fail)
          refine WC_holds' (L' := [(q9, cl (etc [eT fl i]) 26)] :: C :: L) (fun w h => by
            have hE : eT fl i = ⟨mDir, nmT i, idL 3 [UInt8.ofNat i]⟩ := by unfold eT; rw [hq]; rfl
            rw [hE]; exact h) ?_
          refine WC_loop (X := Nat) (fun k => [(0, .int .i64 ((m : Int) + 1)), (1, .slice a1 tr.length c1), (2, .int .i64 swap), (7, .slice va i vc), (8, .int .i64 (i : Int)), (9, .pointer (some ⟨q9, 0, none⟩)), (10, .bool false), (11, .int .i64 (k : Int))]) (fun _ => [(q9, cl (etc [eT fl i]) 26)] :: C :: L)
            (fun k => k ≤ i) (fun k => i - k) 0 (Nat.zero_le _) iS (fun w h => h) ?_
          intro k hk
          (repeat' first|refine kW ?_|refine kU fun bk=>?_|refine kV fun hc=>?_|refine kZ (fun hc=>?_) fun hc=>?_|fail)
          · have hki : k < i := by omega
            rcases i2 with ⟨_, h0, _, _⟩ | ⟨b0, cap0, rest, he0, rfl, hx1, hx2, hx3, hx4⟩
            · omega
            injection he0 with he1 _ he3
            subst he1 he3
            have hat := etc_at (lf_at (eT fl) hki)
            have hxl : k * 3 + 1 < (etc (lf (eT fl) i)).length := by rw [etc_len, lf_len]; omega
            refine WC_drawAll [] mixed ?_
            (refine WR_t 0 ?_; refine WR_t 1 ?_)
            (refine WR_u 2 ?_; refine WR_u 3 ?_)
            (refine WR_takeOn 4 rfl rfl rfl (by kernel_rfl) iP iC (EV_indexAddr (j := k) rfl rfl rfl hki) (by rfl) ?_)
            (refine WR_u 5 ?_)
            (refine WR_takeOn 6 rfl rfl rfl (by kernel_rfl) iP iC (EV_load rfl (.there .here) (by rw [List.getElem?_toArray, Nat.zero_add, List.getElem?_append_left hxl]; exact hat.2.1)) (by rfl) ?_)
            (refine WR_u 7 ?_; refine WR_u 8 ?_)
            (refine WR_takeOn 9 rfl rfl rfl (by kernel_rfl) iP iC (EV_eqL (nmT k) (nmT i) rfl rfl) (by rfl) ?_)
            rw [decide_eq_false (p := nmT k = nmT i) (fun h => by have := nmT_inj k (by omega) i hi8 h; omega)]
            (refine WR_t 10 ?_; refine WR_t 11 ?_)
            (refine WR_done (by kernel_rfl) ?_)
            (repeat' first|refine kW ?_|refine kU fun bk=>?_|refine kV fun hc=>?_|refine kZ (fun hc=>?_) fun hc=>?_|fail)
            refine WQ_round (X := Nat) (μ := fun k => i - k) (x := k) (k + 1) (by omega) (by omega) iS (fun w h => h)
          · refine OW_buildSlice (cs := etc [eT fl i]) rfl (by rfl) (by rfl) (by omega) rfl rfl (fun b1 => ?_)
            (repeat' first|refine kW ?_|refine kU fun bk=>?_|refine kV fun hc=>?_|refine kZ (fun hc=>?_) fun hc=>?_|fail)
            refine OW_append rfl rfl i2 (sl_cells (k := 3) (c := (etc [eT fl i]).toArray) (xs := etc [eT fl i]) (m := 1) Fnd.here rfl (by simp [etc])) (by repeat (first | exact Zip.here _ | apply Zip.there)) rfl (by rfl) (by omega) (by unfold maxLen; omega) rfl (fun v1 C1 g1 _ _ => ?_)
            rw [← etc_app, ← lf_snoc] at g1
            (repeat' first|refine kW ?_|refine kU fun bk=>?_|refine kV fun hc=>?_|refine kZ (fun hc=>?_) fun hc=>?_|fail)
            refine WQ_round (X := Nat × Value × Chunk) (μ := fun x => m + 1 - x.1) (x := (i, .slice va i vc, C)) (i + 1, v1, C1) (by simp only; omega) ⟨by simp only; omega, g1⟩ iS (fun w h => iH h)
      · refine WC_holds' (L' := [(q9, cl (etc [eT fl i]) 26)] :: C :: L) (fun w h => by
            have hq : fl i = false := by rw [hfl]; show tr.getD i false = false; rw [List.getD_eq_getElem?_getD, List.getElem?_eq_none (by omega)]; rfl
            have hE : eT fl i = ⟨mFile, nmT i, idL 3 [UInt8.ofNat i]⟩ := by unfold eT; rw [hq]; rfl
            rw [hE]; exact h) ?_
        refine WC_loop (X := Nat) (fun k => [(0, .int .i64 ((m : Int) + 1)), (1, .slice a1 tr.length c1), (2, .int .i64 swap), (7, .slice va i vc), (8, .int .i64 (i : Int)), (9, .pointer (some ⟨q9, 0, none⟩)), (10, .bool false), (11, .int .i64 (k : Int))]) (fun _ => [(q9, cl (etc [eT fl i]) 26)] :: C :: L)
          (fun k => k ≤ i) (fun k => i - k) 0 (Nat.zero_le _) iS (fun w h => h) ?_
        intro k hk
        (repeat' first|refine kW ?_|refine kU fun bk=>?_|refine kV fun hc=>?_|refine kZ (fun hc=>?_) fun hc=>?_|fail)
        · have hki : k < i := by omega
          rcases i2 with ⟨_, h0, _, _⟩ | ⟨b0, cap0, rest, he0, rfl, hx1, hx2, hx3, hx4⟩
          · omega
          injection he0 with he1 _ he3
          subst he1 he3
          have hat := etc_at (lf_at (eT fl) hki)
          have hxl : k * 3 + 1 < (etc (lf (eT fl) i)).length := by rw [etc_len, lf_len]; omega
          refine WC_drawAll [] mixed ?_
          (refine WR_t 0 ?_; refine WR_t 1 ?_)
          (refine WR_u 2 ?_; refine WR_u 3 ?_)
          (refine WR_takeOn 4 rfl rfl rfl (by kernel_rfl) iP iC (EV_indexAddr (j := k) rfl rfl rfl hki) (by rfl) ?_)
          (refine WR_u 5 ?_)
          (refine WR_takeOn 6 rfl rfl rfl (by kernel_rfl) iP iC (EV_load rfl (.there .here) (by rw [List.getElem?_toArray, Nat.zero_add, List.getElem?_append_left hxl]; exact hat.2.1)) (by rfl) ?_)
          (refine WR_u 7 ?_; refine WR_u 8 ?_)
          (refine WR_takeOn 9 rfl rfl rfl (by kernel_rfl) iP iC (EV_eqL (nmT k) (nmT i) rfl rfl) (by rfl) ?_)
          rw [decide_eq_false (p := nmT k = nmT i) (fun h => by have := nmT_inj k (by omega) i hi8 h; omega)]
          (refine WR_t 10 ?_; refine WR_t 11 ?_)
          (refine WR_done (by kernel_rfl) ?_)
          (repeat' first|refine kW ?_|refine kU fun bk=>?_|refine kV fun hc=>?_|refine kZ (fun hc=>?_) fun hc=>?_|fail)
          refine WQ_round (X := Nat) (μ := fun k => i - k) (x := k) (k + 1) (by omega) (by omega) iS (fun w h => h)
        · refine OW_buildSlice (cs := etc [eT fl i]) rfl (by rfl) (by rfl) (by omega) rfl rfl (fun b1 => ?_)
          (repeat' first|refine kW ?_|refine kU fun bk=>?_|refine kV fun hc=>?_|refine kZ (fun hc=>?_) fun hc=>?_|fail)
          refine OW_append rfl rfl i2 (sl_cells (k := 3) (c := (etc [eT fl i]).toArray) (xs := etc [eT fl i]) (m := 1) Fnd.here rfl (by simp [etc])) (by repeat (first | exact Zip.here _ | apply Zip.there)) rfl (by rfl) (by omega) (by unfold maxLen; omega) rfl (fun v1 C1 g1 _ _ => ?_)
          rw [← etc_app, ← lf_snoc] at g1
          (repeat' first|refine kW ?_|refine kU fun bk=>?_|refine kV fun hc=>?_|refine kZ (fun hc=>?_) fun hc=>?_|fail)
          refine WQ_round (X := Nat × Value × Chunk) (μ := fun x => m + 1 - x.1) (x := (i, .slice va i vc, C)) (i + 1, v1, C1) (by simp only; omega) ⟨by simp only; omega, g1⟩ iS (fun w h => iH h)
  · have hN : i = m + 1 := by omega
    have hN8 : i ≤ 8 := by omega
    have hN1 : 1 ≤ i := by omega
    rcases i2 with ⟨_, h0, _, _⟩ | ⟨b0, cap0, rest, he0, rfl, hx1, hx2, hx3, hx4⟩
    · omega
    injection he0 with he1 _ he3
    subst he1 he3
    clear hx1
    have hnd0 := eT_nodup fl hN8
    refine WC_loop (X := Nat × (Nat → Et)) (fun x => [(2, .int .i64 swap), (7, .slice (some ⟨b0, 0, none⟩) i vc), (12, .int .i64 (x.1 : Int))]) (fun x => [(b0, cl (etc (lf x.2 i) ++ rest) 26)] :: L)
      (fun x => 1 ≤ x.1 ∧ x.1 ≤ i ∧ Mv 0 i (eT fl) x.2 ∧ SrE 0 x.1 x.2) (fun x => i - x.1) (1, eT fl) ⟨Nat.le_refl _, hN1, .refl _, fun a b _ h1 h2 => by simp only at h2; omega⟩ iS (fun w h => h) ?_
    rintro ⟨p, g⟩ ⟨q1, q2, q3, q4⟩
    simp only at q1 q2 q3 q4 ⊢
    (repeat' first|refine kW ?_|refine kU fun bk=>?_|refine kV fun hc=>?_|refine kZ (fun hc=>?_) fun hc=>?_|fail)
    · have hpi : p < i := by omega
      refine WC_loop (X := Nat × (Nat → Et)) (fun x => [(2, .int .i64 swap), (7, .slice (some ⟨b0, 0, none⟩) i vc), (12, .int .i64 (p : Int)), (13, .int .i64 (x.1 : Int))]) (fun x => [(b0, cl (etc (lf x.2 i) ++ rest) 26)] :: L)
        (fun x => x.1 ≤ p ∧ Mv 0 i (eT fl) x.2 ∧ (∀ a b, a < b → b ≤ p → a ≠ x.1 → b ≠ x.1 → lesE (x.2 a) (x.2 b) = true) ∧ ∀ b, x.1 < b → b ≤ p → lesE (x.2 x.1) (x.2 b) = true) (fun x => x.1) (p, g)
        ⟨Nat.le_refl _, q3, fun a b h1 h2 h3 h4 => q4 a b (Nat.zero_le _) h1 (by simp only at h4; omega), fun b h1 h2 => by simp only at h1; omega⟩ iS (fun w h => h) ?_
      clear q3 q4 g
      rintro ⟨j, g⟩ ⟨r1, r2, r3, r4⟩
      simp only at r1 r2 r3 r4 ⊢
      have hgd : ∀ k, k < i → GdE (g k) := fun k hk => r2.all (p := GdE) (fun k _ hk => eT_gd fl (by omega)) k (Nat.zero_le _) hk
      have hend : (j = 0 ∨ lesE (g j) (g (j - 1)) = false) → SrE 0 (p + 1) g := by
        intro hend a b _ hab hb
        by_cases e1 : a = j
        · subst e1; exact r4 b hab (by omega)
        · by_cases e2 : b = j
          · subst e2
            rcases hend with h | h
            · omega
            · have hne := nd_at (mv_ne r2 hnd0) (i := b) (j := b - 1) (by omega) (by omega) (by omega)
              have ht := les_tot (hgd b (by omega)).n47 (hgd (b - 1) (by omega)).n47 hne h
              by_cases e3 : a = b - 1
              · rw [e3]; exact ht
              · exact les_trans (r3 a (b - 1) (by omega) (by omega) e1 (by omega)) ht
          · exact r3 a b hab (by omega) e1 e2
      (repeat' first|refine kW ?_|refine kU fun bk=>?_|refine kV fun hc=>?_|refine kZ (fun hc=>?_) fun hc=>?_|fail)
      by_cases hj0 : j = 0
      · have hse := hend (.inl hj0)
        subst hj0
        refine WC_drawAll [] mixed ?_
        (refine WR_t 0 ?_; refine WR_t 1 ?_; refine WR_t 2 ?_)
        rw [show decide (((0 : Nat) : Int) > 0) = false from rfl]
        (refine WR_v 3 ?_; refine WR_v 4 ?_; refine WR_v 5 ?_; refine WR_v 6 ?_; refine WR_v 7 ?_; refine WR_v 8 ?_; refine WR_v 9 ?_; refine WR_v 10 ?_; refine WR_v 11 ?_; refine WR_v 12 ?_)
        (refine WR_t 13 ?_)
        (refine WR_done (by kernel_rfl) ?_)
        (repeat' first|refine kW ?_|refine kU fun bk=>?_|refine kV fun hc=>?_|refine kZ (fun hc=>?_) fun hc=>?_|fail)
        refine WQ_round (X := Nat × (Nat → Et)) (μ := fun x => i - x.1) (x := (p, g)) (p + 1, g) (by simp only; omega) ⟨by simp only; omega, by simp only; omega, r2, hse⟩ iS (fun w h => h)
      · have hji : j < i := by omega
        have hj1 : j - 1 < i := by omega
        refine WC_drawAll [] mixed ?_
        (refine WR_t 0 ?_; refine WR_t 1 ?_; refine WR_t 2 ?_)
        rw [show decide ((j : Int) > 0) = true from by simp; omega]
        (refine WR_u 3 ?_; refine WR_u 4 ?_)
        (refine WR_takeOn 5 rfl rfl rfl (by kernel_rfl) iP iC (EV_indexAddr0 (j := j) (len := i) rfl rfl rfl hji) (by rfl) ?_)
        (refine WR_takeOn 6 rfl rfl rfl (by kernel_rfl) iP iC (EV_loadAgg rfl (et_rd (rest := rest) (lf_at g hji) (by repeat (first | assumption | exact Fnd.here | refine Fnd.there ?_))) rfl) (by rfl) ?_)
        (refine WR_u 7 ?_; refine WR_u 8 ?_; refine WR_u 9 ?_)
        (refine WR_takeOn 10 rfl rfl rfl (by kernel_rfl) iP iC (EV_indexAddr0 (j := j - 1) (len := i) rfl rfl (by omega) hj1) (by rfl) ?_)
        (refine WR_takeOn 11 rfl rfl rfl (by kernel_rfl) iP iC (EV_loadAgg rfl (et_rd (rest := rest) (lf_at g hj1) (by repeat (first | assumption | exact Fnd.here | refine Fnd.there ?_))) rfl) (by rfl) ?_)
        (refine WR_oneOn 12 (by kernel_rfl) rfl rfl rfl ?_)
        refine OW_callP rfl rfl rfl (less_n (g j) (g (j - 1)) _ (by have := (hgd j hji).nl; omega) (by have := (hgd (j - 1) hj1).nl; omega)) rfl ?_
        refine ⟨iC, ?_⟩
        (refine WR_t 13 ?_)
        (refine WR_done (by kernel_rfl) ?_)
        cases hls : lesE (g j) (g (j - 1)) with
        | false =>
          (repeat' first|refine kW ?_|refine kU fun bk=>?_|refine kV fun hc=>?_|refine kZ (fun hc=>?_) fun hc=>?_|fail)
          refine WQ_round (X := Nat × (Nat → Et)) (μ := fun x => i - x.1) (x := (p, g)) (p + 1, g) (by simp only; omega) ⟨by simp only; omega, by simp only; omega, r2, hend (.inr hls)⟩ iS (fun w h => h)
        | true =>
          (repeat' first|refine kW ?_|refine kU fun bk=>?_|refine kV fun hc=>?_|refine kZ (fun hc=>?_) fun hc=>?_|fail)
          refine WC_drawAll [2, 3, 4, 15, 16, 17] mixed ?_
          (refine WR_f 2 ?_; refine WR_f 3 ?_; refine WR_f 4 ?_)
          (refine WR_t2 0 ?_; refine WR_t2 1 ?_; refine WR_t2 5 ?_; refine WR_t2 6 ?_; refine WR_t2 7 ?_)
          (refine WR_take2 8 rfl rfl (by kernel_rfl) iP iC (EV_indexAddr0 (j := j - 1) (len := i) rfl rfl (by omega) hj1) (by rfl) ?_)
          (refine WR_take2 9 rfl rfl (by kernel_rfl) iP iC (EV_loadAgg rfl (et_rd (rest := rest) (lf_at g hj1) (by repeat (first | assumption | exact Fnd.here | refine Fnd.there ?_))) rfl) (by rfl) ?_)
          (refine WR_t2 10 ?_; refine WR_t2 11 ?_)
          (refine WR_take2 12 rfl rfl (by kernel_rfl) iP iC (EV_indexAddr0 (j := j) (len := i) rfl rfl rfl hji) (by rfl) ?_)
          (refine WR_take2 13 rfl rfl (by kernel_rfl) iP iC (EV_loadAgg rfl (et_rd (rest := rest) (lf_at g hji) (by repeat (first | assumption | exact Fnd.here | refine Fnd.there ?_))) rfl) (by rfl) ?_)
          (refine WR_take2 14 rfl rfl (by kernel_rfl) iP iC (EV_indexAddr0 (j := j) (len := i) rfl rfl rfl hji) (by rfl) ?_)
          (refine WR_last 15 (by kernel_rfl) rfl rfl rfl ?_)
          refine OW_storeAggTo (vs := etc [g (j - 1)]) (etc (lf (upd g j (g (j - 1))) i) ++ rest) rfl rfl rfl rfl (by rw [lf_upd]; exact et_patch (lf_at g hji)) iU (by simp only [List.length_append, etc_len, lf_len, List.length_cons, List.length_nil]; omega) ?_
          (refine WR_last 16 (by kernel_rfl) rfl rfl rfl ?_)
          refine OW_EV (EV_indexAddr0 (j := j - 1) (len := i) rfl rfl (by omega) hj1) rfl ?_
          (refine WR_last 17 (by kernel_rfl) rfl rfl rfl ?_)
          refine OW_storeAggTo (l := etc (lf (upd g j (g (j - 1))) i) ++ rest) (vs := etc [g j]) (etc (lf (swp g j (j - 1)) i) ++ rest) rfl rfl rfl rfl (by rw [← upd_swp, lf_upd (upd g j (g (j - 1)))]; exact et_patch (lf_at _ hj1)) iU (by simp only [List.length_append, etc_len, lf_len, List.length_cons, List.length_nil]; omega) ?_
          (refine WR_done (by kernel_rfl) ?_)
          (repeat' first|refine kW ?_|refine kU fun bk=>?_|refine kV fun hc=>?_|refine kZ (fun hc=>?_) fun hc=>?_|fail)
          have ea : swp g j (j - 1) j = g (j - 1) := by simp [swp]
          have eb : swp g j (j - 1) (j - 1) = g j := by unfold swp; rw [if_neg (by omega), if_pos rfl]
          have ec : ∀ k, k ≠ j → k ≠ j - 1 → swp g j (j - 1) k = g k := fun k k1 k2 => by simp only [swp]; rw [if_neg k1, if_neg k2]
          refine WQ_round (X := Nat × (Nat → Et)) (μ := fun x => x.1) (x := (j, g)) (j - 1, swp g j (j - 1)) (by simp only; omega) ⟨by simp only; omega, r2.step (Nat.zero_le _) hji (Nat.zero_le _) hj1, ?_, ?_⟩ iS (fun w h => h)
          · intro a b hab hb haj hbj
            simp only at haj hbj ⊢
            by_cases e1 : a = j
            · subst e1
              rw [ea, ec b (by omega) hbj]; exact r3 (a - 1) b (by omega) hb (by omega) (by omega)
            · rw [ec a e1 haj]
              by_cases e2 : b = j
              · subst e2
                rw [ea]
                exact r3 a (b - 1) (by omega) (by omega) e1 (by omega)
              · rw [ec b e2 hbj]; exact r3 a b hab hb e1 e2
          · intro b hb1 hb2
            simp only at hb1 ⊢
            rw [eb]
            by_cases e2 : b = j
            · subst e2; rw [ea]; exact hls
            · rw [ec b e2 (by omega)]; exact r4 b (by omega) hb2
    · have hpi : p = i := by omega
      subst hpi
      have hgd : ∀ k, k < p → GdE (g k) := fun k hk => q3.all (p := GdE) (fun k _ hk => eT_gd fl (by omega)) k (Nat.zero_le _) hk
      have hgl : ∀ x ∈ lf g p, GdE x := fun x hx => by obtain ⟨k, hk, rfl⟩ := lf_mem hx; exact hgd k hk
      have hln := lf_len g p
      have hpl := prT_gd hgl
      have hyes := vlQ_yes hgd q4 (mv_ne q3 hnd0)
      refine OW_call rfl rfl rfl (treebytes_n (.slice (some ⟨b0, 0, none⟩) p vc) (lf g p) _ (by rw [hln]; exact sl_cells (k := 3) (c := (etc (lf g p) ++ rest).toArray) (xs := etc (lf g p)) (m := p) Fnd.here (by rw [etc_len, hln]) (by simp)) (by omega) (fun x hx => by rw [(hgl x hx).il]; decide) (by omega)) rfl (fun r L' hp => ?_)
      obtain ⟨C1, p1, rfl⟩ := hp
      (repeat' first|refine kW ?_|refine kU fun bk=>?_|refine kV fun hc=>?_|refine kZ (fun hc=>?_) fun hc=>?_|fail)
      refine OW_call rfl rfl rfl (parsetree_n r (lf g p) _ (hb.of fun w h => iH h) p1.sl hgl (by omega)) rfl (fun r2 L' hp => ?_)
      rcases hp with ⟨_, a2, c2, C2, rfl, h2, rfl⟩ | ⟨hno, _⟩
      rotate_left
      · rw [hyes] at hno; exact absurd hno (by decide)
      (repeat' first|refine kW ?_|refine kU fun bk=>?_|refine kV fun hc=>?_|refine kZ (fun hc=>?_) fun hc=>?_|fail)
      refine OW_call rfl rfl rfl (links_n a2 c2 (lf g p) _ (ow_sl h2) (fun x hx => (hgl x hx).m) (by omega)) rfl (fun r3 L' hp => ?_)
      obtain ⟨a3, c3, rfl, rfl⟩ := hp
      rw [hln]
      (repeat' first|refine kW ?_|refine kU fun bk=>?_|refine kV fun hc=>?_|refine kZ (fun hc=>?_) fun hc=>?_|fail)
      · refine OW_callP rfl rfl rfl (awake8_n _ (hb.of fun w h => iH h)) rfl ?_
        (repeat' first|refine kW ?_|refine kU fun bk=>?_|refine kV fun hc=>?_|refine kZ (fun hc=>?_) fun hc=>?_|fail)
        exact kE
      · refine OW_EV (EV_rem rfl rfl (by omega)) rfl ?_
        obtain ⟨z, hz⟩ : ∃ z, z = swap.tmod ((p : Int) - 1) := ⟨_, rfl⟩
        have hz1 : z < (p : Int) - 1 := by rw [hz]; exact Int.tmod_lt_of_pos _ (by omega)
        have hz2 : -((p : Int) - 1) < z := by rw [hz]; exact Int.lt_tmod_of_pos _ (by omega)
        rw [← hz]
        (repeat' first|refine kW ?_|refine kU fun bk=>?_|refine kV fun hc=>?_|refine kZ (fun hc=>?_) fun hc=>?_|fail)
        refine OW_EV (EV_rem rfl rfl (by omega)) rfl ?_
        obtain ⟨k, hk⟩ : ∃ k : Nat, (k : Int) = (z + (p : Int) - 1).tmod ((p : Int) - 1) := ⟨((z + (p : Int) - 1).tmod ((p : Int) - 1)).toNat, Int.toNat_of_nonneg (Int.tmod_nonneg _ (by omega))⟩
        have hk1 : (k : Int) < (p : Int) - 1 := by rw [hk]; exact Int.tmod_lt_of_pos _ (by omega)
        rw [← hk]
        have hkp : k + 1 < p := by omega
        have hkq : k < p := by omega
        (repeat' first|refine kW ?_|refine kU fun bk=>?_|refine kV fun hc=>?_|refine kZ (fun hc=>?_) fun hc=>?_|fail)
        refine WC_holds' (L' := [(b0, cl (etc (lf g p) ++ rest) 26)] :: L) (fun w h => iH h) ?_
        refine WC_drawAll [2, 3, 4, 15, 16, 17] mixed ?_
        (refine WR_f 2 ?_; refine WR_f 3 ?_; refine WR_f 4 ?_)
        (refine WR_t2 0 ?_; refine WR_t2 1 ?_; refine WR_t2 5 ?_; refine WR_t2 6 ?_; refine WR_t2 7 ?_)
        (refine WR_take2 8 rfl rfl (by kernel_rfl) iP iC (EV_indexAddr0 (j := k + 1) (len := p) rfl rfl (by omega) hkp) (by rfl) ?_)
        (refine WR_take2 9 rfl rfl (by kernel_rfl) iP iC (EV_loadAgg rfl (et_rd (rest := rest) (lf_at g hkp) (by repeat (first | assumption | exact Fnd.here | refine Fnd.there ?_))) rfl) (by rfl) ?_)
        (refine WR_t2 10 ?_; refine WR_t2 11 ?_)
        (refine WR_take2 12 rfl rfl (by kernel_rfl) iP iC (EV_indexAddr0 (j := k) (len := p) rfl rfl rfl hkq) (by rfl) ?_)
        (refine WR_take2 13 rfl rfl (by kernel_rfl) iP iC (EV_loadAgg rfl (et_rd (rest := rest) (lf_at g hkq) (by repeat (first | assumption | exact Fnd.here | refine Fnd.there ?_))) rfl) (by rfl) ?_)
        (refine WR_take2 14 rfl rfl (by kernel_rfl) iP iC (EV_indexAddr0 (j := k) (len := p) rfl rfl rfl hkq) (by rfl) ?_)
        (refine WR_last 15 (by kernel_rfl) rfl rfl rfl ?_)
        refine OW_storeAggTo (vs := etc [g (k + 1)]) (etc (lf (upd g k (g (k + 1))) p) ++ rest) rfl rfl rfl rfl (by rw [lf_upd]; exact et_patch (lf_at g hkq)) iU (by simp only [List.length_append, etc_len, lf_len, List.length_cons, List.length_nil]; omega) ?_
        (refine WR_last 16 (by kernel_rfl) rfl rfl rfl ?_)
        refine OW_EV (EV_indexAddr0 (j := k + 1) (len := p) rfl rfl (by omega) hkp) rfl ?_
        (refine WR_last 17 (by kernel_rfl) rfl rfl rfl ?_)
        refine OW_storeAggTo (l := etc (lf (upd g k (g (k + 1))) p) ++ rest) (vs := etc [g k]) (etc (lf (swp g k (k + 1)) p) ++ rest) rfl rfl rfl rfl (by rw [← upd_swp, lf_upd (upd g k (g (k + 1)))]; exact et_patch (lf_at _ hkp)) iU (by simp only [List.length_append, etc_len, lf_len, List.length_cons, List.length_nil]; omega) ?_
        (refine WR_done (by kernel_rfl) ?_)
        (repeat' first|refine kW ?_|refine kU fun bk=>?_|refine kV fun hc=>?_|refine kZ (fun hc=>?_) fun hc=>?_|fail)
        have hgd2 : ∀ q, q < p → GdE (swp g k (k + 1) q) := fun q hq => (q3.step (Nat.zero_le _) hkq (Nat.zero_le _) hkp).all (p := GdE) (fun k _ hk => eT_gd fl (by omega)) q (Nat.zero_le _) hq
        have hgl2 : ∀ x ∈ lf (swp g k (k + 1)) p, GdE x := fun x hx => by obtain ⟨q, hq, rfl⟩ := lf_mem hx; exact hgd2 q hq
        have hln2 := lf_len (swp g k (k + 1)) p
        have hpl2 := prT_gd hgl2
        have hno := vlQ_no q4 hkp
        refine OW_call rfl rfl rfl (treebytes_n (.slice (some ⟨b0, 0, none⟩) p vc) (lf (swp g k (k + 1)) p) _ (by rw [hln2]; exact sl_cells (k := 3) (c := (etc (lf (swp g k (k + 1)) p) ++ rest).toArray) (xs := etc (lf (swp g k (k + 1)) p)) (m := p) Fnd.here (by rw [etc_len, hln2]) (by simp)) (by omega) (fun x hx => by rw [(hgl2 x hx).il]; decide) (by omega)) rfl (fun r5 L' hp => ?_)
        obtain ⟨C5, p5, rfl⟩ := hp
        (repeat' first|refine kW ?_|refine kU fun bk=>?_|refine kV fun hc=>?_|refine kZ (fun hc=>?_) fun hc=>?_|fail)
        refine OW_call rfl rfl rfl (parsetree_n r5 (lf (swp g k (k + 1)) p) _ (hb.of fun w h => iH h) p5.sl hgl2 (by omega)) rfl (fun r6 L' hp => ?_)
        rcases hp with ⟨hyes2, _⟩ | ⟨_, rfl, rfl⟩
        · rw [hno] at hyes2; exact absurd hyes2 (by decide)
        (repeat' first|refine kW ?_|refine kU fun bk=>?_|refine kV fun hc=>?_|refine kZ (fun hc=>?_) fun hc=>?_|fail)
        refine OW_callP rfl rfl rfl (awake8_n _ (hb.of fun w h => iH h)) rfl ?_
        (repeat' first|refine kW ?_|refine kU fun bk=>?_|refine kV fun hc=>?_|refine kZ (fun hc=>?_) fun hc=>?_|fail)
        exact kE
end Go.Proofs.YtlomjmdgcpjepaaGreatDoor
namespace Go.Proofs.YtlomjmdgcpjepaaGreatDoor
open Go Go.Vx Go.ChangeShapes Go.WideShapes Go.ChangeAt Go.RowKit Go.Lib
set_option maxRecDepth 100000
set_option linter.all false
def laid8 : List (String × DataW Unit) := [("math/bits.deBruijn32tab", Rows.laid_math_bits_deBruijn32tab), ("math/bits.deBruijn64tab", Rows.laid_math_bits_deBruijn64tab), ("internal/strconv.uint64pow10", Rows.laid_internal_strconv_uint64pow10), ("unicode/utf8.acceptRanges", Rows.laid_unicode_utf8_acceptRanges), ("unicode/utf8.first", Rows.laid_unicode_utf8_first)]
def nums (k : IntKind) : List (DataW Unit) → List Value
  | [] => []
  | .lit (.int _ z) :: r => .int k z :: nums k r
  | .agg [.lit (.int _ z), .lit (.int _ y)] :: r => .int k z :: .int k y :: nums k r
  | _ :: r => nums k r
def parts : DataW Unit → List (DataW Unit)
  | .agg l => l
  | _ => []
def tab32 : List Value := nums .u8 (parts Rows.laid_math_bits_deBruijn32tab)
def tab64 : List Value := nums .u8 (parts Rows.laid_math_bits_deBruijn64tab)
def tab10 : List Value := nums .u64 (parts Rows.laid_internal_strconv_uint64pow10)
def tabAc : List Value := nums .u8 (parts Rows.laid_unicode_utf8_acceptRanges)
def tabFi : List Value := nums .u8 (parts Rows.laid_unicode_utf8_first)
theorem first_eq : Rows.laid_unicode_utf8_first = firstData := by kernel_rfl
theorem accept_eq : Rows.laid_unicode_utf8_acceptRanges (H := Unit) = acceptData := by kernel_rfl
theorem pow_eq : Rows.laid_internal_strconv_uint64pow10 (H := Unit) = tabData .u64 pow10Tab := by kernel_rfl
theorem met_plain {W : World} (h : laidMetH Tryz.prog laid8 W) : laidMet Tryz.prog laid8 W := by
  have e : laid8.filter (fun x => x.2.handleName?.isSome) = [] := by kernel_rfl
  unfold laidMetH at h
  rw [e] at h
  exact h
theorem u8extra : U8Extra Tryz.prog sh_v_ren := ⟨by kernel_rfl, by kernel_rfl, by kernel_rfl, by kernel_rfl, by kernel_rfl, by kernel_rfl, by kernel_rfl⟩
theorem bs_met {W : World} (hL : laidMetH Tryz.prog laid8 W) (hsh : W.ShapedOpen Tryz.prog) [W0] : BsAt [blks W] := by
  obtain ⟨ps, hv, _⟩ := met_plain hL
  have r3 := LaidVars_reads hv "unicode/utf8.first" Rows.laid_unicode_utf8_first (by simp [laid8])
  have r4 := LaidVars_reads hv "unicode/utf8.acceptRanges" Rows.laid_unicode_utf8_acceptRanges (by simp [laid8])
  have r5 := LaidVars_reads hv "internal/strconv.uint64pow10" Rows.laid_internal_strconv_uint64pow10 (by simp [laid8])
  rw [first_eq] at r3
  rw [accept_eq] at r4
  rw [pow_eq] at r5
  have hut := utf8Tabs_of_readsT (U8Types.of196 sh_v) u8extra r3 r4
  have hmx : ∃ m, W.cell? ⟨2, 0, none⟩ = some (.int .i64 m) :=
    cell_of_shapedOpen_int (t := 3) (zero := #[.int .i64 0]) hsh (of_decide_eq_true (by kernel_rfl)) (by kernel_rfl) (by kernel_rfl) (by kernel_rfl) (by kernel_rfl) Tryz.underlying3
  have hpw : TabIs Tryz.prog W "internal/strconv.uint64pow10" .u64 pow10Tab := by
    obtain ⟨g', t', cs, fuel, p, hg', ht', hvar, hd⟩ := r5
    obtain rfl := Option.some.inj ((show Tryz.prog.globalNamed "internal/strconv.uint64pow10" = some 3 by kernel_rfl).symm.trans hg')
    obtain rfl := Option.some.inj ((show (Tryz.prog.globals[3]?).map (·.type) = some 144 by kernel_rfl).symm.trans ht')
    unfold TabIs
    rw [hvar, ← cells_of_tab Tryz.underlying144 Tryz.underlying100 (by kernel_rfl) (by kernel_rfl) hd]
  have hkeep : ∀ w, Vx.Holds w [blks W] → ∀ k, k < W.heap.size → w.heap[k]? = W.heap[k]? := fun w hw k hk => by
    have hm : W.heap[k]? = some W.heap[k] := by simp [hk]
    rw [hm]
    exact hw.2.1 (k, W.heap[k]) (by simpa using blks_mem.2 hm)
  have hlt : ∀ {a : Addr} {v : Value}, W.cell? a = some v → a.block < W.heap.size := fun {a} {v} h => by
    rcases Nat.lt_or_ge a.block W.heap.size with h' | h'
    · exact h'
    · have : W.heap[a.block]? = none := by simp; omega
      simp [World.cell?, this] at h
  have hcell : ∀ w, Vx.Holds w [blks W] → ∀ {a : Addr} {v : Value}, W.cell? a = some v → w.cell? a = some v := fun w hw {a} {v} h => by
    have hb := hkeep w hw a.block (hlt h)
    rw [← h]
    unfold World.cell?
    rw [hb]
  refine ⟨fun w hw => ⟨fun c hc => hcell w hw (hut.1 c hc), fun i hi => ⟨hcell w hw (hut.2 i hi).1, hcell w hw (hut.2 i hi).2⟩⟩, hmx.imp fun m hm w hw => hcell w hw hm, fun w hw => ?_⟩
  have h0 := hpw.cell (g := 3) (by kernel_rfl) 0 (by decide)
  have hb := hkeep w hw _ (hlt h0)
  unfold TabIs World.var? at hpw ⊢
  rw [show Tryz.prog.globalNamed "internal/strconv.uint64pow10" = some 3 from by kernel_rfl] at hpw ⊢
  simp only [Option.bind_some] at hpw ⊢
  rw [hb]
  exact hpw
end Go.Proofs.YtlomjmdgcpjepaaGreatDoor
namespace Go.Proofs.YtlomjmdgcpjepaaGreatDoor
open Go Go.Vx Go.Ob Go.ChangeShapes Go.WideShapes Go.ChangeAt Go.RowKit
set_option linter.all false
set_option maxRecDepth 4000
theorem open_bl {H : Type} {enc : TypeId × Value → H} {P : Program} {W : World} {t e : TypeId} {a : Option Addr} {len cap : Nat} {d : DataW H} {ps : List MemPlace} (ht : P.underlying t = some (.slice e)) (he : P.underlying e = some .bool) (hc : P.cellsOf e = 1)
    (h : DataW.Trod enc P W 0 (fun _ => true) true t (.slice a len cap) d ps) :
    ∃ xs : List Bool, Sl [blks W] 1 (.slice a len cap) len (xs.map Value.bool) ∧ xs.length = len ∧ True := by
  letI : W0 := ⟨W.os, W.output⟩
  obtain ⟨fuel, hf⟩ := h
  rcases Go.Deep.open_bools ht he hc hf with ⟨hcs, _⟩ | ⟨x, l, c, B, hcs, _, hl, hm, hx, hcell⟩
  · simp [Value.cells] at hcs
    obtain ⟨rfl, rfl, rfl⟩ := hcs
    exact ⟨[], .inl ⟨0, rfl, rfl, rfl⟩, rfl, trivial⟩
  · simp [Value.cells] at hcs
    obtain ⟨rfl, rfl, rfl⟩ := hcs
    refine ⟨(List.range len).map B, ?_, by simp, trivial⟩
    refine .inr ⟨x, cap, rfl, ?_, by simp⟩
    rcases Nat.eq_zero_or_pos len with h0 | h0
    · subst h0; exact .inl (by simp)
    · have hc0 := hcell 0 (by omega)
      obtain ⟨b, off, spot⟩ := x
      have hspot : spot = none := by simpa [Addr.add] using World.cell?_spot hc0
      subst hspot
      have hblk : ∃ C T fr, W.heap[b]? = some (.cells C T fr) := by
        have : (⟨b, off, none⟩ : Addr).add 0 = ⟨b, off, none⟩ := by simp [Addr.add]
        rw [this] at hc0
        unfold World.cell? at hc0
        split at hc0
        · rename_i C T fr hb; exact ⟨C, T, fr, hb⟩
        · cases hc0
      obtain ⟨C, T, fr, hb⟩ := hblk
      refine .inr ⟨b, off, C, T, fr, rfl, by simpa [Fnd] using blks_mem.2 hb, fun j u hj => ?_⟩
      have hjl : j < len := by
        rcases Nat.lt_or_ge j len with h' | h'
        · exact h'
        · rw [List.getElem?_eq_none (by simp; omega)] at hj; simp at hj
      have hcj := hcell j (by omega)
      rw [addr_add, cell_of hb] at hcj
      rw [hcj, ← hj]
      simp [List.getElem?_range hjl]
theorem i64_of_wf {n : Int} (h : (Lit.int .i64 n).wf = true) : -9223372036854775808 ≤ n ∧ n ≤ 9223372036854775807 := by
  simp [Lit.wf, IntKind.min, IntKind.max, IntKind.signed, IntKind.bits] at h
  omega
theorem top_row (H : Type) (enc : TypeId × Value → H) (W : World) (base : Nat) (args : Array Value) (ds gs : List (DataW H)) (before : List MemPlace)
    (hval : ∀ (j : Nat) t v, Tryz.f4.params[j]? = some t → args[j]? = some v → Value.okWide Tryz.prog W .any base t v)
    (hW : DataW.Whole enc Tryz.prog Tryz.f4.params.toList Rows.objectTreesSpec.vars false W args.toList ds gs before)
    (hz : (DataW.weightsEach Tryz.prog (Tryz.f4.params.toList ++ Rows.objectTreesSpec.plain.varTypes Tryz.prog) (ds ++ gs)).all (· ≤ reachBytes) = true) (hL : laidMetH Tryz.prog laid8 W) (hsh : W.ShapedOpen Tryz.prog) :
    Calls Tryz.prog 4 args W fun e W' => ∃ v, e = .returned v ∧ Rows.objectTreesSpec.post enc Tryz.prog Tryz.f4 false true false false W args v W' := by
  have hW' := hW
  obtain ⟨p, q, hA0, hV, rfl, hfz, hnd⟩ := hW
  have hA : DataW.TrodAll enc Tryz.prog W 0 (fun _ => true) true Tryz.f4.params.toList args.toList ds p := hA0
  rw [Tryz.params4] at hA hval hz
  obtain ⟨v0, vs0, d0, ds0, p0, q0, hargs, rfl, rfl, h0, r0⟩ := trodAll_cons hA
  obtain ⟨v1, vs1, d1, ds1, p1, q1, rfl, rfl, rfl, h1, r1⟩ := trodAll_cons r0
  obtain ⟨v2, vs2, d2, ds2, p2, q2, rfl, rfl, rfl, h2, r2⟩ := trodAll_cons r1
  obtain ⟨rfl, rfl, rfl⟩ := trodAll_nil r2
  obtain rfl : args = #[v0, v1, v2] := by cases args; simp_all
  obtain ⟨rfl, rfl⟩ := trodVars_none hV
  obtain ⟨n0, rfl, rfl, rfl, w0⟩ := open_int Tryz.underlying3 (hval 0 _ v0 rfl rfl) h0
  obtain ⟨a1, l1, c1, rfl⟩ := okWide_slice Tryz.underlying44 (hval 1 _ v1 rfl rfl)
  obtain ⟨x1, s1, e1, b1⟩ := open_bl Tryz.underlying44 Tryz.underlying4 (by kernel_rfl) h1
  obtain ⟨n2, rfl, rfl, rfl, w2⟩ := open_int Tryz.underlying3 (hval 2 _ v2 rfl rfl) h2
  clear hA0
  have lt1 : ∀ x ∈ p1, x.block < W.heap.size := by obtain ⟨m, hm⟩ := h1; exact DataW.trod_lt m _ _ _ hm
  have hc : Calls Tryz.prog 4 #[.int .i64 n0, .slice a1 l1 c1, .int .i64 n2] W fun e W' => e = .returned (.bool true) ∧ Kept W W' := by
    refine bridge (fun {i} => ?_)
    have ht := bs_met hL hsh
    have hs := s1
    subst e1
    exact objecttrees_n n0 n2 _ x1 _ ht hs (i64_of_wf w0).1 (i64_of_wf w0).2 (i64_of_wf w2).1 (i64_of_wf w2).2
  refine hc.mono fun e W' ⟨he, bel⟩ => ?_
  subst he
  exact ⟨_, rfl, _, _, _, [], _, [], hW', trodAll_mk1 (shut_bool Tryz.underlying4 _), (trodAll_cons_mk (shut_int Tryz.underlying3 w0) (trodAll_cons_mk (Kept.trod Tryz.laidOut (by kernel_rfl) (of_decide_eq_true (by kernel_rfl)) h1 bel lt1) (trodAll_cons_mk (shut_int Tryz.underlying3 w2) trodAll_mk0))), rfl, bel.frame _, fun h => by cases h⟩
def putT (w : World) (g : Nat) (zs : List Value) : World := { w with heap := w.heap.modify g fun
      | .cells _ t frozen => .cells zs.toArray t frozen
      | o => o }
noncomputable def laidWorld (os : Os) : World :=
  putT (putT (putT (putT (putT (World.holding Tryz.prog os ⟨#[], #[], []⟩) 4 tab32) 5 tab64) 3 tab10) 1 tabAc) 0 tabFi
theorem laid_met (os : Os) : laidMet Tryz.prog Rows.objectTreesRow.laid ((laidWorld os).forCall (fun _ _ => 0) ⟨#[], #[.int .i64 0, .slice none 0 0, .int .i64 0], []⟩).memory :=
  laidMet_of_run' 8 (by kernel_rfl) (by kernel_rfl)
theorem reads (os : Os) {H : Type} (enc : TypeId × Value → H) : ∃ places, DataW.whole enc Tryz.prog ((laidWorld os).forCall (fun _ _ => 0) ⟨#[], #[.int .i64 0, .slice none 0 0, .int .i64 0], []⟩).memory Tryz.f4.params.toList Rows.objectTreesSpec.vars false #[.int .i64 0, .slice none 0 0, .int .i64 0].toList 8 = some ([.lit (.int .i64 0), .nil, .lit (.int .i64 0)], [], places) :=
  ⟨[], by kernel_rfl⟩
set_option maxRecDepth 100000 in
theorem top_lifted (os : Os) (started : os.Started) (H : Type) (enc : TypeId × Value → H) (F : Stop.Interp) :
    ReturnsInHanded {} Tryz.checked os 4 .any ((OpenSpec.ofChange Rows.objectTreesSpec).preRow enc Tryz.prog Tryz.f4 Rows.objectTreesRow.domain false Rows.objectTreesRow.laid) (((OpenSpec.ofChange Rows.objectTreesSpec).at F).post enc Tryz.prog Tryz.f4 false true false false) := by
  obtain ⟨places, hx⟩ := reads os enc
  refine returnsInHanded_of_row (C := Tryz.checked) (s := (OpenSpec.ofChange Rows.objectTreesSpec)) Tryz.own started (by kernel_rfl) Tryz.func4
    (witness_row_at (enc := enc) (C := Tryz.checked) false (laidWorld os) #[.int .i64 0, .slice none 0 0, .int .i64 0] rfl (by kernel_rfl) (by kernel_rfl) (by kernel_rfl)
      (OpenSpec.preRow_of_cond 8 hx (by kernel_rfl) (fun k hk => by cases hk) (by kernel_rfl) (laid_met os))) ?_
  intro W base args ds gs before hval hW _ hcond hz hL hsh _
  exact top_row H enc W base args ds gs before hval hW hz hL hsh
theorem top_over : Rows.ObjectTreesSaid :=
  OpenClaim.holds_of_cond 4 Tryz.f4 rfl rfl rfl rfl rfl rfl rfl ⟨rfl, rfl, rfl, rfl, rfl⟩ rfl rfl rfl rfl rfl (by kernel_rfl) Tryz.func4 (by kernel_rfl)
    (of_decide_eq_true (by kernel_rfl)) (by unfold Func.isWrapper; first | (rw [if_pos (by decide +kernel)]; kernel_rfl) | (rw [if_neg (by decide +kernel)]; exact ⟨rfl, rfl⟩))
    (fun os started H enc _ F => by rw [OpenClaim.pre_eq_preRow]; exact top_lifted os started H enc F)
theorem top_plain (f : FuncId) (fn : Func) (hf : Tryz.pinned.checked.prog.funcNamed "stemma/stemmalaw8.ObjectTrees" = some f) (hfn : Tryz.pinned.checked.prog.funcs[f]? = some fn) :
    true = Tryz.pinned.checked.prog.looks [] ∧ ∀ (j : Nat) t, fn.params[j]? = some t → Tryz.pinned.checked.prog.wantsStandIn t = false := by
  obtain rfl : f = 4 := Option.some.inj ((show Tryz.prog.funcNamed "stemma/stemmalaw8.ObjectTrees" = some 4 by kernel_rfl).symm.trans hf) |>.symm
  obtain rfl : fn = Tryz.f4 := (Option.some.inj (Tryz.func4.symm.trans hfn)).symm
  have all : (Tryz.f4.params.toList.all fun t => !Tryz.prog.wantsStandIn t) = true := by kernel_rfl
  refine ⟨by kernel_rfl, fun j t ht => ?_⟩
  have hm : t ∈ Tryz.f4.params.toList := by
    have := Array.mem_of_getElem? ht
    simpa using this
  have := List.all_eq_true.1 all t hm
  show Tryz.prog.wantsStandIn t = false
  simpa using this
theorem top_holds : Rows.ObjectTreesCardSaid :=
  Claim7.holds_tied_plain_at .later [] _ _ _ _ top_over (fun _ h => by cases h) (by kernel_rfl) (fun _ h => by cases h) objectTrees_row_tie rfl ⟨rfl, rfl⟩ (by kernel_rfl) rfl top_plain (by kernel_rfl)
end Go.Proofs.YtlomjmdgcpjepaaGreatDoor
