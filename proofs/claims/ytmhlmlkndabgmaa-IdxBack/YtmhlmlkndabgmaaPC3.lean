/- IdxBack returns true and leaves its arguments as they were, for every argument that the row takes. No conditions beyond the row's. -/
import Derived.Test.YtmhlmlkndabgmaaPC2
namespace Go.Proofs.Ytmhlmlkndabgmaa
open Go Go.Vx Go.Pk Go.Ix
open Go.Ob (hshB)
set_option linter.all false
set_option maxRecDepth 40000
section
variable [W0]
theorem EV_leL {P : Program} {n d : Nat} {M : List (Nat × Value)} {L : List Chunk} {x y : Operand} {ty : TypeId} {ps : String} {af : Array Edge} {g : Option (Nat × Bool)} (s r : List UInt8) {t u : TypeId} (h : Op.bytesLess r s = true) (hx : ev M x = some (.string (str s))) (hy : ev M y = some (.string (str r))) :
    EV P n ⟨some d, .binOp .leq t x y u, ty, ps, af, g⟩ M L d (.bool false) :=
  ⟨rfl, fun a w ha _ => by
    have h2 : Op.bytesLess s r = false := by
      rw [Bool.eq_false_iff]
      intro w
      have := bl_trans _ _ _ h w
      rw [bl_irr] at this
      cases this
    have h3 : ¬ s = r := fun w => by rw [w, bl_irr] at h; cases h
    simp [execOp, ha.eval hx, ha.eval hy, eqGuard, binOp, Op.stringOp, str_l, h2, h3]⟩
theorem un_inj {a b : List UInt8} (ha : hshB a = true) (hb : hshB b = true) (h : unL a = unL b) : a = b := by
  rw [← hex_un ha, ← hex_un hb, h]
theorem back_find {s l : List Obv} {p id : List UInt8} {r : Value} (hS : IxS s p) (hsp : s.Perm l) (hF : FdR (ixW s p) id r) :
    (∃ x ∈ l, x.1.1.id = id ∧ r = .tuple #[.int .i64 x.1.1.at_, .bool true]) ∨ ((∀ x ∈ l, x.1.1.id ≠ id) ∧ r = .tuple #[.int .i64 0, .bool false]) := by
  rcases hF with ⟨i, hi, he, hh, hid, rfl⟩ | ⟨hno, rfl⟩
  · rw [px_n hS] at hi
    have hy : s[i]? = some s[i] := List.getElem?_eq_getElem hi
    obtain ⟨y, hyy⟩ : ∃ y, y = s[i] := ⟨_, rfl⟩
    rw [← hyy] at hy
    have hym := List.mem_of_getElem? hy
    have hyo := hS.ok y hym
    rw [px_id hS hy] at hid
    refine .inl ⟨y, hsp.mem_iff.1 hym, un_inj hyo.1 hh hid, ?_⟩
    rw [px_at hS hy, Int.toNat_of_nonneg hyo.2.1]
  · refine .inr ⟨fun x hx hid => hno ⟨px_e hS, ?_, ?_⟩, rfl⟩
    · rw [← hid]; exact (hS.ok x (hsp.mem_iff.2 hx)).1
    · obtain ⟨i, hi, hxi⟩ := List.getElem_of_mem (hsp.mem_iff.2 hx)
      refine ⟨i, by rw [px_n hS]; exact hi, ?_⟩
      rw [px_id hS (by rw [List.getElem?_eq_getElem hi, hxi]), hid]
theorem back_list {s : List Obv} {p : List UInt8} (hS : IxS s p) : IxOk (pxL (ixW s p)) p ∧ SrtI (pxL (ixW s p)) ∧ (pxL (ixW s p)).map ixK = s.map ixK ∧ (pxL (ixW s p)).length = s.length := by
  have hm := px_l hS
  have hids : (pxL (ixW s p)).map (fun x => x.1.1.id) = s.map (fun x => x.1.1.id) := by
    have := congrArg (List.map Thg.id) hm
    rwa [List.map_map, List.map_map] at this
  have hl : (pxL (ixW s p)).length = s.length := by
    have := congrArg List.length hm
    rwa [List.length_map, List.length_map] at this
  refine ⟨⟨by rw [hl]; exact hS.len, hS.pk, fun x hx => ?_, by rw [hids]; exact hS.one⟩, ?_, ?_, hl⟩
  · have : x.1.1 ∈ (pxL (ixW s p)).map (fun o => o.1.1) := List.mem_map_of_mem (f := fun o : Obv => o.1.1) hx
    rw [hm] at this
    obtain ⟨y, hy, e⟩ := List.mem_map.1 this
    have hyo := hS.ok y hy
    unfold okI at hyo ⊢
    rw [← e]
    exact hyo
  · have h1 : (s.map (fun x => x.1.1.id)).Pairwise (fun a b => Op.bytesLess b a = false) := List.pairwise_map.2 hS.srt
    rw [← hids] at h1
    exact List.pairwise_map.1 h1
  · have := congrArg (List.map fun o : Thg => (o.id, o.crc, o.at_)) hm
    rwa [List.map_map, List.map_map] at this
theorem pxL_at {b : List UInt8} {i : Nat} (hi : i < pxN b) : (pxL b)[i]? = some (pxO b i) := by
  unfold pxL
  rw [List.getElem?_map, List.getElem?_range hi]
  rfl
def hasB (m : List Obv) (o : List UInt8) : Bool := m.any fun x => decide (str x.1.1.id = str o)
theorem hasB_snoc {l : List Obv} {i : Nat} {x : Obv} (hx : l[i]? = some x) (o : List UInt8) : hasB (l.take (i + 1)) o = (hasB (l.take i) o || decide (str x.1.1.id = str o)) := by
  unfold hasB
  rw [List.take_add_one, hx, List.any_append]
  simp
theorem hasB_t {l : List Obv} {x : Obv} (hx : x ∈ l) : hasB l x.1.1.id = true := List.any_eq_true.2 ⟨x, hx, decide_eq_true rfl⟩
theorem hasB_f {l : List Obv} {o : List UInt8} (h : ∀ x ∈ l, x.1.1.id ≠ o) : hasB l o = false := by
  rw [Bool.eq_false_iff]
  intro w
  obtain ⟨x, hx, e⟩ := List.any_eq_true.1 w
  exact h x hx (Go.Ob.str_inj.1 (of_decide_eq_true e))
theorem nodup_at {l : List Obv} (h : (l.map fun x => x.1.1.id).Nodup) {x y : Obv} (hx : x ∈ l) (hy : y ∈ l) (e : x.1.1.id = y.1.1.id) : x = y := by
  obtain ⟨i, hi, rfl⟩ := List.getElem_of_mem hx
  obtain ⟨j, hj, rfl⟩ := List.getElem_of_mem hy
  have e1 : (l.map fun x => x.1.1.id)[i]? = some l[i].1.1.id := by rw [List.getElem?_map, List.getElem?_eq_getElem hi]; rfl
  have e2 : (l.map fun x => x.1.1.id)[j]? = some l[i].1.1.id := by rw [List.getElem?_map, List.getElem?_eq_getElem hj, e]; rfl
  have := (List.getElem?_inj (by rw [List.length_map]; exact hi) h).1 (e1.trans e2.symm)
  subst this
  rfl
set_option maxHeartbeats 8000000 in
theorem idxback_n (v : Value) (l : List Obv) (p o : List UInt8) (L : List Chunk) (hv : Sl L 5 v l.length (l.flatMap enO)) (hl : l.length ≤ 140737488355328) (hp0 : p.length ≤ 140737488355328) (ho0 : o.length ≤ 140737488355328) (hi0 : ∀ x ∈ l, x.1.1.id.length ≤ 140737488355328) :
    GvP Try.prog 6 [v, .string (str p), .string (str o)].toArray L (.bool true) := by
  obtain ⟨va, vc, rfl⟩ := sl_slice hv
  refine Gv.of_body (args := [.slice va l.length vc, .string (str p), .string (str o)]) Try.func6 rfl rfl ?_
  by_cases h1 : 100 < l.length
  · (repeat' first|refine kW ?_|refine kU fun bk=>?_|refine kV fun hc=>?_|refine kZ (fun hc=>?_) fun hc=>?_|fail)
    refine OW_callP rfl rfl rfl (awake12_n _) rfl ?_
    (repeat' first|refine kW ?_|refine kU fun bk=>?_|refine kV fun hc=>?_|refine kZ (fun hc=>?_) fun hc=>?_|fail)
    exact kE
  have hb := ibuild_n _ l p L hv (by omega) hp0 hi0
  (repeat' first|refine kW ?_|refine kU fun bk=>?_|refine kV fun hc=>?_|refine kZ (fun hc=>?_) fun hc=>?_|fail)
  refine OW_call rfl rfl rfl hb rfl (fun r L' hp => ?_)
  rcases hp with ⟨hno, rfl, rfl⟩ | ⟨hix, s, bv, C, hsp, hss, rfl, how, rfl⟩
  · (repeat' first|refine kW ?_|refine kU fun bk=>?_|refine kV fun hc=>?_|refine kZ (fun hc=>?_) fun hc=>?_|fail)
    refine OW_callP rfl rfl rfl (awake12_n _) rfl ?_
    (repeat' first|refine kW ?_|refine kU fun bk=>?_|refine kV fun hc=>?_|refine kZ (fun hc=>?_) fun hc=>?_|fail)
    exact kE
  have hS := IxS.of hix hsp hss
  have hsl := hsp.length_eq
  have hWl := ixW_len hS
  have hkl := farK_le s
  have hpe := px_e hS
  have hpp := px_pk hS
  have hpn := px_n hS
  have hpo := px_ok hS
  have hfd := fun id r h => back_find (id := id) (r := r) hS hsp h
  obtain ⟨hbl1, hbl2, hbl3, hbl4⟩ := back_list hS
  obtain ⟨W, hW⟩ : ∃ W, W = ixW s p := ⟨_, rfl⟩
  rw [← hW] at how hWl hpe hpp hpn hpo hfd hbl1 hbl2 hbl3 hbl4
  obtain ⟨ba, bc, rfl⟩ := ow_slc how
  have hWm : W.length ≤ 1000000 := by omega
  (repeat' first|refine kW ?_|refine kU fun bk=>?_|refine kV fun hc=>?_|refine kZ (fun hc=>?_) fun hc=>?_|fail)
  refine OW_call rfl rfl rfl (iparse_n _ W _ (Rs.ow how) hWm) rfl (fun r L' hp => ?_)
  obtain ⟨D, hp, rfl⟩ := hp
  rcases hp with ⟨h, _⟩ | ⟨_, lv, rfl, hlo⟩
  · exact absurd hpe h
  rw [hpp]
  obtain ⟨X, hX⟩ : ∃ X, X = pxL W := ⟨_, rfl⟩
  rw [← hX] at hlo hbl1 hbl2 hbl3 hbl4
  obtain ⟨xa, xc, rfl⟩ := ow_slc hlo
  have hXl : X.length = l.length := by omega
  have hX100 : X.length ≤ 1000000 := by omega
  ((repeat' first|refine kW ?_|refine kU fun bk=>?_|refine kV fun hc=>?_|refine kZ (fun hc=>?_) fun hc=>?_|fail) <;> try exact absurd trivial hc)
  refine WC_loop (X := Nat) (fun i => [(0, .slice va l.length vc), (1, .string (str p)), (2, .string (str o)), (7, .slice ba W.length bc), (9, .slice xa X.length xc), (10, .string (str p)), (12, .bool (hasB (l.take i) o)), (13, .int .i64 (i : Int))]) (fun _ => D :: C :: L) (fun i => i ≤ l.length) (fun i => l.length - i) 0 (Nat.zero_le _) iS (fun w h => h) ?_
  intro i hi
  by_cases hlt : i < l.length
  · obtain ⟨x, hx⟩ : ∃ x, l[i]? = some x := ⟨l[i], by simp [hlt]⟩
    have hxm := List.mem_of_getElem? hx
    have hlX : i < X.length := by omega
    have hiN : i < pxN W := by omega
    obtain ⟨b1, o1, c1, hvv, hr⟩ := row_at enO_len hv hx (by decide)
    injection hvv with w1 w2 w3
    subst w1
    obtain ⟨bp, bn, bc', hbs, hcs⟩ := enO_lit x
    rw [hcs] at hr
    obtain ⟨ca2, Ta2, fa2, ga2, ha2⟩ := RdAt.cellAt hr (j := 2) (u := .string (str x.1.1.id)) rfl
    obtain ⟨ca3, Ta3, fa3, ga3, ha3⟩ := RdAt.cellAt hr (j := 3) (u := .int .i64 x.1.1.at_) rfl
    have hxy : X[i]? = some (pxO W i) := by rw [hX]; exact pxL_at hiN
    have hsl2 := ow_sl (L := C :: L) hlo
    obtain ⟨b2, o2, c2, hvx, hrx⟩ := row_at enO_len hsl2 hxy (by decide)
    injection hvx with w4 w5 w6
    subst w4
    obtain ⟨cb3, Tb3, fb3, gb3, hb3⟩ := RdAt.cellAt hrx (j := 3) (u := .int .i64 (pxAt W i : Int)) rfl
    obtain ⟨cb2, Tb2, fb2, gb2, hb2⟩ := RdAt.cellAt hrx (j := 2) (u := .string (str (hexL (pxId W i)))) rfl
    obtain ⟨za, hza⟩ : ∃ za, za = pxAt W i := ⟨_, rfl⟩
    rw [← hza] at hb3
    obtain ⟨ta, hta⟩ : ∃ ta, ta = hexL (pxId W i) := ⟨_, rfl⟩
    rw [← hta] at hb2
    have hxi := hi0 x hxm
    obtain ⟨qb, hqb⟩ : ∃ qb, qb = hasB (l.take i) o := ⟨_, rfl⟩
    have hsn := hasB_snoc hx o
    rw [← hqb] at hsn ⊢
    ((repeat' first|refine kW ?_|refine kU fun bk=>?_|refine kV fun hc=>?_|refine kZ (fun hc=>?_) fun hc=>?_|fail) <;> try exact absurd trivial hc)
    refine OW_EV (EV_indexAddr (j := i) rfl rfl rfl hlt) rfl ?_
    ((repeat' first|refine kW ?_|refine kU fun bk=>?_|refine kV fun hc=>?_|refine kZ (fun hc=>?_) fun hc=>?_|fail) <;> try exact absurd trivial hc)
    refine OW_EV (EV_load rfl (.there (.there ga2)) ha2) rfl ?_
    ((repeat' first|refine kW ?_|refine kU fun bk=>?_|refine kV fun hc=>?_|refine kZ (fun hc=>?_) fun hc=>?_|fail) <;> try exact absurd trivial hc)
    refine OW_call rfl rfl rfl (ifind_n _ W x.1.1.id _ (by repeat (first | exact Rs.ow how | apply Rs.there)) hWm hxi) rfl (fun r L' hp => ?_)
    obtain ⟨rfl, hp⟩ := hp
    rcases hfd _ _ hp with ⟨x', hx', hid', rfl⟩ | ⟨hno, _⟩
    rotate_left
    · exact absurd rfl (hno x hxm)
    obtain rfl : x' = x := nodup_at hix.one hx' hxm hid'
    (repeat' first|refine kY ?_|refine kU fun bk=>?_|refine kV fun hc=>?_|refine kZ (fun hc=>?_) fun hc=>?_|((fail_if_success (show WC _ _ (Code.seq (Code.region _ _ true) _) _ _ _)); refine WC_seq ?_)|fail)
    refine WC_cut (X := Unit) (fun _ => [(0, .slice (some ⟨b1, o1, none⟩) l.length vc), (1, .string (str p)), (2, .string (str o)), (7, .slice ba W.length bc), (9, .slice (some ⟨b2, o2, none⟩) X.length xc), (10, .string (str p)), (12, .bool qb), (13, .int .i64 (i : Int)), (114, .bool false)]) (fun _ => D :: C :: L) (fun _ => True) ?_ ?_
    · by_cases h0 : i = 0
      · refine WC_drawAll [] mixed ?_
        (refine WR_t 0 ?_; refine WR_t 1 ?_; refine WR_t 2 ?_)
        (refine WR_u 3 ?_; refine WR_u 4 ?_; refine WR_u 5 ?_)
        (refine WR_takeOn 6 rfl rfl rfl (by kernel_rfl) iP iC (EV_indexAddr (j := i) rfl rfl rfl hlt) (by rfl) ?_)
        (refine WR_u 7 ?_)
        (refine WR_takeOn 8 rfl rfl rfl (by kernel_rfl) iP iC (EV_load rfl (.there (.there ga3)) ha3) (by rfl) ?_)
        (refine WR_takeOn 9 rfl rfl rfl (by kernel_rfl) iP iC (EV_intNsame rfl rfl rfl) (by rfl) ?_)
        (refine WR_t 10 ?_; refine WR_t 11 ?_)
        (refine WR_u 12 ?_; refine WR_u 13 ?_)
        (refine WR_takeOn 14 rfl rfl rfl (by kernel_rfl) iP iC (EV_indexAddr (j := i) rfl rfl rfl hlX) (by rfl) ?_)
        (refine WR_u 15 ?_)
        (refine WR_takeOn 16 rfl rfl rfl (by kernel_rfl) iP iC (EV_load rfl gb3 hb3) (by rfl) ?_)
        (refine WR_takeOn 17 rfl rfl rfl (by kernel_rfl) iP iC (EV_cmp (b := false) rfl rfl (congrArg some (decide_eq_false (by omega)))) (by rfl) ?_)
        (refine WR_t 18 ?_; refine WR_t 19 ?_)
        (refine WR_u 20 ?_)
        (refine WR_takeOn 21 rfl rfl rfl (by kernel_rfl) iP iC (EV_cmp (b := false) rfl rfl (congrArg some (decide_eq_false (by omega)))) (by rfl) ?_)
        (refine WR_u 22 ?_)
        (refine WR_v 23 ?_; refine WR_v 24 ?_; refine WR_v 25 ?_; refine WR_v 26 ?_; refine WR_v 27 ?_; refine WR_v 28 ?_; refine WR_v 29 ?_; refine WR_v 30 ?_; refine WR_v 31 ?_; refine WR_v 32 ?_; refine WR_v 33 ?_; refine WR_v 34 ?_)
        (refine WR_u 35 ?_)
        (refine WR_t 36 ?_)
        (refine WR_done (by kernel_rfl) ?_)
        ((repeat' first|refine kW ?_|refine kU fun bk=>?_|refine kV fun hc=>?_|refine kZ (fun hc=>?_) fun hc=>?_|fail) <;> try exact absurd trivial hc)
        exact WQ_cut () trivial iS (fun w h => h)
      · have hx1 : X[i - 1]? = some (pxO W (i - 1)) := by rw [hX]; exact pxL_at (by omega)
        obtain ⟨b3, o3, c3, hv3, hr3⟩ := row_at enO_len hsl2 hx1 (by decide)
        injection hv3 with w7 w8 w9
        injection w7 with w7
        injection w7 with w10 w11 w12
        subst w10 w11
        obtain ⟨cc2, Tc2, fc2, gc2, hc2⟩ := RdAt.cellAt hr3 (j := 2) (u := .string (str (hexL (pxId W (i - 1))))) rfl
        have hle : Op.bytesLess (hexL (pxId W (i - 1))) ta = true := by rw [hta, bl_hex]; exact pxId_lt hpo (by omega) hiN
        obtain ⟨tb, htb⟩ : ∃ tb, tb = hexL (pxId W (i - 1)) := ⟨_, rfl⟩
        rw [← htb] at hc2 hle
        refine WC_drawAll [] mixed ?_
        (refine WR_t 0 ?_; refine WR_t 1 ?_; refine WR_t 2 ?_)
        (refine WR_u 3 ?_; refine WR_u 4 ?_; refine WR_u 5 ?_)
        (refine WR_takeOn 6 rfl rfl rfl (by kernel_rfl) iP iC (EV_indexAddr (j := i) rfl rfl rfl hlt) (by rfl) ?_)
        (refine WR_u 7 ?_)
        (refine WR_takeOn 8 rfl rfl rfl (by kernel_rfl) iP iC (EV_load rfl (.there (.there ga3)) ha3) (by rfl) ?_)
        (refine WR_takeOn 9 rfl rfl rfl (by kernel_rfl) iP iC (EV_intNsame rfl rfl rfl) (by rfl) ?_)
        (refine WR_t 10 ?_; refine WR_t 11 ?_)
        (refine WR_u 12 ?_; refine WR_u 13 ?_)
        (refine WR_takeOn 14 rfl rfl rfl (by kernel_rfl) iP iC (EV_indexAddr (j := i) rfl rfl rfl hlX) (by rfl) ?_)
        (refine WR_u 15 ?_)
        (refine WR_takeOn 16 rfl rfl rfl (by kernel_rfl) iP iC (EV_load rfl gb3 hb3) (by rfl) ?_)
        (refine WR_takeOn 17 rfl rfl rfl (by kernel_rfl) iP iC (EV_cmp (b := false) rfl rfl (congrArg some (decide_eq_false (by omega)))) (by rfl) ?_)
        (refine WR_t 18 ?_; refine WR_t 19 ?_)
        (refine WR_u 20 ?_)
        (refine WR_takeOn 21 rfl rfl rfl (by kernel_rfl) iP iC (EV_cmp (b := true) rfl rfl (congrArg some (decide_eq_true (by omega)))) (by rfl) ?_)
        (refine WR_u 22 ?_)
        (refine WR_u 23 ?_; refine WR_u 24 ?_)
        (refine WR_takeOn 25 rfl rfl rfl (by kernel_rfl) iP iC (EV_indexAddr (j := i) rfl rfl rfl hlX) (by rfl) ?_)
        (refine WR_u 26 ?_)
        (refine WR_takeOn 27 rfl rfl rfl (by kernel_rfl) iP iC (EV_load rfl gb2 hb2) (by rfl) ?_)
        (refine WR_u 28 ?_; refine WR_u 29 ?_; refine WR_u 30 ?_)
        (refine WR_takeOn 31 rfl rfl rfl (by kernel_rfl) iP iC (EV_indexAddr (j := i - 1) rfl rfl (by omega) (by omega)) (by rfl) ?_)
        (refine WR_u 32 ?_)
        (refine WR_takeOn 33 rfl rfl rfl (by kernel_rfl) iP iC (EV_load rfl gc2 hc2) (by rfl) ?_)
        (refine WR_takeOn 34 rfl rfl rfl (by kernel_rfl) iP iC (EV_leL ta tb hle rfl rfl) (by rfl) ?_)
        (refine WR_u 35 ?_)
        (refine WR_t 36 ?_)
        (refine WR_done (by kernel_rfl) ?_)
        ((repeat' first|refine kW ?_|refine kU fun bk=>?_|refine kV fun hc=>?_|refine kZ (fun hc=>?_) fun hc=>?_|fail) <;> try exact absurd trivial hc)
        exact WQ_cut () trivial iS (fun w h => h)
    intro _ _
    cases qb with
    | true =>
      ((repeat' first|refine kW ?_|refine kU fun bk=>?_|refine kV fun hc=>?_|refine kZ (fun hc=>?_) fun hc=>?_|fail) <;> try exact absurd trivial hc)
      exact WQ_round (X := Nat) (μ := fun i => l.length - i) (x := i) (i + 1) (by omega) (by omega) (by rw [hsn]; exact iS) (fun w h => h)
    | false =>
      ((repeat' first|refine kW ?_|refine kU fun bk=>?_|refine kV fun hc=>?_|refine kZ (fun hc=>?_) fun hc=>?_|fail) <;> try exact absurd trivial hc)
      refine OW_EV (EV_indexAddr (j := i) rfl rfl rfl hlt) rfl ?_
      ((repeat' first|refine kW ?_|refine kU fun bk=>?_|refine kV fun hc=>?_|refine kZ (fun hc=>?_) fun hc=>?_|fail) <;> try exact absurd trivial hc)
      refine OW_EV (EV_load rfl (.there (.there ga2)) ha2) rfl ?_
      ((repeat' first|refine kW ?_|refine kU fun bk=>?_|refine kV fun hc=>?_|refine kZ (fun hc=>?_) fun hc=>?_|fail) <;> try exact absurd trivial hc)
      exact WQ_round (X := Nat) (μ := fun i => l.length - i) (x := i) (i + 1) (by omega) (by omega) (by rw [hsn]; exact iS) (fun w h => h)
  obtain rfl : i = l.length := by omega
  rw [List.take_length]
  ((repeat' first|refine kW ?_|refine kU fun bk=>?_|refine kV fun hc=>?_|refine kZ (fun hc=>?_) fun hc=>?_|fail) <;> try exact absurd trivial hc)
  refine OW_call rfl rfl rfl (ifind_n _ W o _ (by repeat (first | exact Rs.ow how | apply Rs.there)) hWm ho0) rfl (fun r L' hp => ?_)
  obtain ⟨rfl, hp⟩ := hp
  have hbx := ibuild_n (.slice xa X.length xc) X p (D :: C :: L) (ow_sl hlo) (by omega) hp0 (fun x hx => by have := (hbl1.ok x hx).1; unfold Go.Ob.hshB at this; rw [Bool.and_eq_true, decide_eq_true_iff] at this; omega)
  rcases hfd _ _ hp with ⟨x', hx', rfl, rfl⟩ | ⟨hno, rfl⟩
  · rw [hasB_t hx']
    ((repeat' first|refine kW ?_|refine kU fun bk=>?_|refine kV fun hc=>?_|refine kZ (fun hc=>?_) fun hc=>?_|fail) <;> try exact absurd trivial hc)
    refine OW_call rfl rfl rfl hbx rfl (fun r L' hp => ?_)
    rcases hp with ⟨hno2, _⟩ | ⟨_, s2, b2, C2, hsp2, hss2, rfl, how2, rfl⟩
    · exact absurd hbl1 hno2
    have hse : s2 = X := srt_uniq hss2 hbl2 hsp2 (by have := (IxS.of hbl1 hsp2 hss2).one; exact this)
    subst hse
    rw [ixW_same hbl3 p, ← hW] at how2
    obtain ⟨b2a, b2c, rfl⟩ := ow_slc how2
    ((repeat' first|refine kW ?_|refine kU fun bk=>?_|refine kV fun hc=>?_|refine kZ (fun hc=>?_) fun hc=>?_|fail) <;> try exact absurd trivial hc)
    refine OW_EV (EV_convStr (b := W) (m := W.length) rfl (by repeat (first | exact ow_sl how2 | apply sl_there))) rfl ?_
    ((repeat' first|refine kW ?_|refine kU fun bk=>?_|refine kV fun hc=>?_|refine kZ (fun hc=>?_) fun hc=>?_|fail) <;> try exact absurd trivial hc)
    refine OW_EV (EV_convStr (b := W) (m := W.length) rfl (by repeat (first | exact ow_sl how | apply sl_there))) rfl ?_
    refine WL_on rfl rfl ?_
    refine OW_EV (EV_strSame rfl rfl rfl) rfl ?_
    ((repeat' first|refine kW ?_|refine kU fun bk=>?_|refine kV fun hc=>?_|refine kZ (fun hc=>?_) fun hc=>?_|fail) <;> try exact absurd trivial hc)
    refine OW_callP rfl rfl rfl (awake12_n _) rfl ?_
    ((repeat' first|refine kW ?_|refine kU fun bk=>?_|refine kV fun hc=>?_|refine kZ (fun hc=>?_) fun hc=>?_|fail) <;> try exact absurd trivial hc)
    exact kE
  · rw [hasB_f hno]
    ((repeat' first|refine kW ?_|refine kU fun bk=>?_|refine kV fun hc=>?_|refine kZ (fun hc=>?_) fun hc=>?_|fail) <;> try exact absurd trivial hc)
    refine OW_call rfl rfl rfl hbx rfl (fun r L' hp => ?_)
    rcases hp with ⟨hno2, _⟩ | ⟨_, s2, b2, C2, hsp2, hss2, rfl, how2, rfl⟩
    · exact absurd hbl1 hno2
    have hse : s2 = X := srt_uniq hss2 hbl2 hsp2 (by have := (IxS.of hbl1 hsp2 hss2).one; exact this)
    subst hse
    rw [ixW_same hbl3 p, ← hW] at how2
    obtain ⟨b2a, b2c, rfl⟩ := ow_slc how2
    ((repeat' first|refine kW ?_|refine kU fun bk=>?_|refine kV fun hc=>?_|refine kZ (fun hc=>?_) fun hc=>?_|fail) <;> try exact absurd trivial hc)
    refine OW_EV (EV_convStr (b := W) (m := W.length) rfl (by repeat (first | exact ow_sl how2 | apply sl_there))) rfl ?_
    ((repeat' first|refine kW ?_|refine kU fun bk=>?_|refine kV fun hc=>?_|refine kZ (fun hc=>?_) fun hc=>?_|fail) <;> try exact absurd trivial hc)
    refine OW_EV (EV_convStr (b := W) (m := W.length) rfl (by repeat (first | exact ow_sl how | apply sl_there))) rfl ?_
    refine WL_on rfl rfl ?_
    refine OW_EV (EV_strSame rfl rfl rfl) rfl ?_
    ((repeat' first|refine kW ?_|refine kU fun bk=>?_|refine kV fun hc=>?_|refine kZ (fun hc=>?_) fun hc=>?_|fail) <;> try exact absurd trivial hc)
    refine OW_callP rfl rfl rfl (awake12_n _) rfl ?_
    ((repeat' first|refine kW ?_|refine kU fun bk=>?_|refine kV fun hc=>?_|refine kZ (fun hc=>?_) fun hc=>?_|fail) <;> try exact absurd trivial hc)
    exact kE
end
end Go.Proofs.Ytmhlmlkndabgmaa
namespace Go.Proofs.Ytmhlmlkndabgmaa
open Go Go.Vx Go.ChangeShapes Go.WideShapes Go.ChangeAt Go.RowKit
set_option maxRecDepth 4000
set_option linter.all false
theorem flat_atK {α β : Type} {f : α → List β} {K : Nat} (hK : 0 < K) (hf : ∀ x, (f x).length = K) : ∀ (l : List α) (j : Nat), (l.flatMap f)[j]? = (l[j / K]?).bind fun x => (f x)[j % K]?
  | [], j => by simp
  | x :: l, j => by
    rw [List.flatMap_cons]
    rcases Nat.lt_or_ge j K with h | h
    · rw [List.getElem?_append_left (by rw [hf]; exact h), Nat.div_eq_of_lt h, Nat.mod_eq_of_lt h]
      rfl
    · rw [List.getElem?_append_right (by rw [hf]; exact h), hf, flat_atK hK hf l (j - K)]
      have e2 : j % K = (j - K) % K := by
        conv => lhs; rw [← Nat.sub_add_cancel h]
        simp
      rw [e2]
      have e3 : j / K = (j - K) / K + 1 := by
        conv => lhs; rw [← Nat.sub_add_cancel h]
        exact Nat.add_div_right _ hK
      rw [e3, List.getElem?_cons_succ]
theorem add_two (x : Addr) (a b : Nat) : (x.add a).add b = x.add (a + b) := by
  unfold Addr.add
  by_cases hb : b = 0
  · subst hb; simp
  · by_cases ha : a = 0
    · subst ha; simp [hb]
    · simp [ha, hb, Nat.add_assoc]
theorem open_slK {H : Type} {enc : TypeId × Value → H} {W : World} {t e fuel K : Nat} {cs : List Value} {y : DataW H × List MemPlace} {α : Type} (f : α → List Value) (dat : α → DataW H) (ht : Try.prog.underlying t = some (.slice e)) (hK : Try.prog.cellsOf e = K) (hK0 : 0 < K)
    (hf : ∀ x, (f x).length = K) (hel : ∀ n cs y, DataW.trod enc Try.prog W 0 (fun _ => true) true n e cs = some y → ∃ x, cs = f x ∧ y.1 = dat x)
    (h : DataW.trod enc Try.prog W 0 (fun _ => true) true fuel t cs = some y) :
    ∃ (v : Value) (l : List α), cs = [v] ∧ v.oneCell' = true ∧ Sl [blks W] K v l.length (l.flatMap f) ∧ ((y.1 = .nil ∧ l = []) ∨ ∃ sp, y.1 = .slice (l.map dat) sp) := by
  letI : W0 := ⟨W.os, W.output⟩
  rcases DataW.trod_slice ht h with ⟨rfl, rfl⟩ | ⟨x, len, cap, elems, rest, n, _, rfl, rfl, _, hl, _, hle, hat, _, _⟩
  · exact ⟨_, [], rfl, rfl, .inl ⟨_, rfl, rfl, rfl⟩, .inl ⟨rfl, rfl⟩⟩
  · rw [hK] at hat
    have key : ∀ i, i < len → ∃ q : α, (elems[i]?).map (·.1) = some (dat q) ∧ ∀ j, j < K → W.cell? (x.add (i * K + j)) = (f q)[j]? := by
      intro i hi
      have h1 := hat i hi
      rw [List.getElem?_eq_getElem (by omega)] at h1
      obtain ⟨cs, h2, h3⟩ := Option.bind_eq_some_iff.1 h1
      obtain ⟨_, h4, h5⟩ := World.cells?_some h2
      obtain ⟨q, rfl, hq⟩ := hel _ _ _ h3
      refine ⟨q, by rw [List.getElem?_eq_getElem (by omega), Option.map_some, hq], fun j hj => ?_⟩
      have h6 := h5 j hj
      rw [← h6, add_two]
    have hex : ∀ m, m ≤ len → ∃ l : List α, l.length = m ∧ ∀ i q, l[i]? = some q → (elems[i]?).map (·.1) = some (dat q) ∧ ∀ j, j < K → W.cell? (x.add (i * K + j)) = (f q)[j]? := by
      intro m
      induction m with
      | zero => intro _; exact ⟨[], rfl, fun i o h => by simp at h⟩
      | succ m ih =>
        intro hm
        obtain ⟨l, g1, g2⟩ := ih (by omega)
        obtain ⟨b, r1⟩ := key m (by omega)
        refine ⟨l ++ [b], by simp [g1], fun i o ho => ?_⟩
        rcases Nat.lt_or_ge i l.length with h' | h'
        · rw [List.getElem?_append_left h'] at ho; exact g2 i o ho
        · rw [List.getElem?_append_right h'] at ho
          have hi0 : i = m := by
            rcases Nat.eq_zero_or_pos (i - l.length) with h3 | h3
            · omega
            · rw [List.getElem?_eq_none (by simp; omega)] at ho; simp at ho
          subst hi0
          rw [g1] at ho
          simp at ho
          subst ho
          exact r1
    obtain ⟨l, g1, g2⟩ := hex len (Nat.le_refl _)
    refine ⟨_, l, rfl, rfl, ?_, .inr ⟨rest.map (·.1), ?_⟩⟩
    · rw [g1]
      refine .inr ⟨x, cap, rfl, ?_, ?_⟩
      · rcases Nat.eq_zero_or_pos len with h0 | h0
        · left
          rw [List.eq_nil_of_length_eq_zero (g1.trans h0)]
          rfl
        · right
          have hq0 : ∃ u, W.cell? (x.add 0) = some u := by
            obtain ⟨q, _, r⟩ := key 0 h0
            have := r 0 hK0
            rw [List.getElem?_eq_getElem (by rw [hf]; exact hK0)] at this
            exact ⟨_, by simpa using this⟩
          obtain ⟨u0, hu0⟩ := hq0
          obtain ⟨b, off, spot⟩ := x
          have hspot : spot = none := by simpa [Addr.add] using World.cell?_spot hu0
          subst hspot
          have hblk : ∃ C T fr, W.heap[b]? = some (.cells C T fr) := by
            have : (⟨b, off, none⟩ : Addr).add 0 = ⟨b, off, none⟩ := by simp [Addr.add]
            rw [this] at hu0
            unfold World.cell? at hu0
            split at hu0
            · rename_i C T fr hb; exact ⟨C, T, fr, hb⟩
            · cases hu0
          obtain ⟨C, T, fr, hb⟩ := hblk
          refine ⟨b, off, C, T, fr, rfl, by simpa [Fnd] using blks_mem.2 hb, fun j u hj => ?_⟩
          rw [flat_atK hK0 hf] at hj
          obtain ⟨q, hq, hu⟩ := Option.bind_eq_some_iff.1 hj
          obtain ⟨_, r⟩ := g2 _ _ hq
          have := r (j % K) (Nat.mod_lt _ hK0)
          rw [hu, Nat.mul_comm, Nat.div_add_mod, addr_add, cell_of hb] at this
          exact this
      · have : ∀ l : List α, (l.flatMap f).length = l.length * K := fun l => by
          induction l with
          | nil => simp
          | cons a l ih => rw [List.flatMap_cons, List.length_append, hf, ih, List.length_cons, Nat.add_mul, Nat.one_mul, Nat.add_comm]
        rw [this, g1]
    · have : elems.map (·.1) = l.map dat := by
        refine List.ext_getElem? fun i => ?_
        rw [List.getElem?_map, List.getElem?_map]
        rcases Nat.lt_or_ge i len with hi | hi
        · obtain ⟨q, hq⟩ : ∃ q, l[i]? = some q := ⟨l[i], by simp [show i < l.length by omega]⟩
          rw [(g2 i q hq).1, hq]
          rfl
        · rw [List.getElem?_eq_none (by omega), List.getElem?_eq_none (by omega)]
          rfl
      rw [← this]
end Go.Proofs.Ytmhlmlkndabgmaa
namespace Go.Proofs.Ytmhlmlkndabgmaa
open Go Go.Vx Go.ChangeShapes Go.WideShapes Go.ChangeAt Go.RowKit Go.Pk
set_option maxRecDepth 4000
set_option linter.all false
theorem take_oneI {cs : List Value} {i : Nat} {v : Value} (h : (cs.drop i).take 1 = [v]) : cs[i]? = some v := by
  have : ((cs.drop i).take 1)[0]? = some v := by rw [h]; rfl
  simpa using this
theorem open_cellI {H : Type} {enc : TypeId × Value → H} {P : Program} {W : World} {t e fuel : Nat} {cs : List Value} {x : DataW H × List MemPlace} (ht : P.underlying t = some (.slice e)) (he : P.underlying e = some (.int .u8)) (hc : P.cellsOf e = 1)
    (h : DataW.trod enc P W 0 (fun _ => true) true fuel t cs = some x) : ∃ a len cap, cs = [.slice a len cap] := by
  rcases open_ints ht he hc h with ⟨h1, _⟩ | ⟨y, l, c, zs, h1, _⟩
  · exact ⟨_, _, _, h1⟩
  · exact ⟨_, _, _, h1⟩
theorem open_objI {H : Type} {enc : TypeId × Value → H} {W : World} {fuel : Nat} {cs : List Value} {x : DataW H × List MemPlace} (h : DataW.trod enc Try.prog W 0 (fun _ => true) true fuel 30 cs = some x) :
    ∃ o : Obv, cs = enO o ∧ o.1.1.id.length ∈ DataW.weights Try.prog 30 x.1 := by
  obtain ⟨xs, n, rfl, rfl, hl, hxl, hf⟩ := DataW.trod_struct Try.underlying30 h
  have hxl : xs.length = 5 := hxl
  have hl : cs.length = 5 := by rw [hl]; kernel_rfl
  have c0 : Try.prog.cellsOf 3 = 1 := by kernel_rfl
  have c1 : Try.prog.cellsOf 24 = 1 := by kernel_rfl
  have c2 : Try.prog.cellsOf 9 = 1 := by kernel_rfl
  have c3 := c0
  have c4 : Try.prog.cellsOf 28 = 1 := by kernel_rfl
  obtain ⟨y0, m0, t0⟩ : ∃ y, y ∈ xs ∧ DataW.trod enc Try.prog W 0 (fun _ => true) true n 3 ((cs.drop 0).take (Try.prog.cellsOf 3)) = some y := by
    have := hf 0 _ rfl
    rw [List.getElem?_eq_getElem (by omega)] at this
    exact ⟨_, List.getElem_mem _, this⟩
  rw [c0] at t0
  obtain ⟨y1, m1, t1⟩ : ∃ y, y ∈ xs ∧ DataW.trod enc Try.prog W 0 (fun _ => true) true n 24 ((cs.drop 1).take (Try.prog.cellsOf 24)) = some y := by
    have := hf 1 _ rfl
    rw [List.getElem?_eq_getElem (by omega)] at this
    exact ⟨_, List.getElem_mem _, this⟩
  rw [c1] at t1
  obtain ⟨y2, m2, t2⟩ : ∃ y, xs[2]? = some y ∧ DataW.trod enc Try.prog W 0 (fun _ => true) true n 9 ((cs.drop 2).take (Try.prog.cellsOf 9)) = some y := by
    have := hf 2 _ rfl
    rw [List.getElem?_eq_getElem (by omega)] at this
    exact ⟨_, List.getElem?_eq_getElem (by omega), this⟩
  rw [c2] at t2
  obtain ⟨y3, m3, t3⟩ : ∃ y, y ∈ xs ∧ DataW.trod enc Try.prog W 0 (fun _ => true) true n 3 ((cs.drop 3).take (Try.prog.cellsOf 3)) = some y := by
    have := hf 3 _ rfl
    rw [List.getElem?_eq_getElem (by omega)] at this
    exact ⟨_, List.getElem_mem _, this⟩
  rw [c3] at t3
  obtain ⟨y4, m4, t4⟩ : ∃ y, y ∈ xs ∧ DataW.trod enc Try.prog W 0 (fun _ => true) true n 28 ((cs.drop 4).take (Try.prog.cellsOf 28)) = some y := by
    have := hf 4 _ rfl
    rw [List.getElem?_eq_getElem (by omega)] at this
    exact ⟨_, List.getElem_mem _, this⟩
  rw [c4] at t4
  obtain ⟨u0, e0, _⟩ := DataW.trod_int Try.underlying3 t0
  obtain ⟨a1, l1, k1, e1⟩ := open_cellI Try.underlying24 Try.underlying5 (by kernel_rfl) t1
  obtain ⟨s2, e2, q2', w2⟩ := DataW.trod_string Try.underlying9 t2
  obtain ⟨u3, e3, _⟩ := DataW.trod_int Try.underlying3 t3
  obtain ⟨u4, e4, _, w4⟩ := DataW.trod_int Try.underlying28 t4
  refine ⟨⟨(⟨u0, [], s2.data.toList, u3, BitVec.ofNat 32 u4.toNat⟩, .slice a1 l1 k1), _, _, _, rfl⟩, ?_, ?_⟩
  · have q0 := take_oneI e0
    have q1 := take_oneI e1
    have q2 := take_oneI e2
    have q3 := take_oneI e3
    have q4 := take_oneI e4
    have hw : w32 (BitVec.ofNat 32 u4.toNat) = .int .u32 u4 := by
      have hw := w4
      simp [Lit.wf, IntKind.min, IntKind.max, IntKind.signed, IntKind.bits] at hw
      unfold w32
      rw [BitVec.toNat_ofNat, Nat.mod_eq_of_lt (by omega), Int.toNat_of_nonneg (by omega)]
    match cs, hl with
    | [z0, z1, z2, z3, z4], _ =>
      simp at q0 q1 q2 q3 q4
      subst q0 q1 q2 q3 q4
      show [_, _, _, _, _] = [_, _, _, _, _]
      rw [hw]
      rfl
  · show s2.data.toList.length ∈ _
    unfold DataW.weights
    rw [Try.underlying30]
    refine DataW.weights_mem_each (j := 2) (t := 9) (d := y2.1) rfl (by rw [List.getElem?_map, m2]; rfl) _ ?_
    rw [q2']
    simp [DataW.weights]
theorem open_obsI {H : Type} {enc : TypeId × Value → H} {W : World} {a : Option Addr} {len cap : Nat} {d : DataW H} {ps : List MemPlace} (h : DataW.Trod enc Try.prog W 0 (fun _ => true) true 23 (.slice a len cap) d ps) :
    ∃ l : List Obv, Sl [blks W] 5 (.slice a len cap) l.length (l.flatMap enO) ∧ l.length = len ∧ (∀ x ∈ l, x.1.1.id.length ∈ DataW.weights Try.prog 23 d) ∧ (len = 0 ∨ ∃ el sp, d = .slice el sp ∧ el.length = len) := by
  obtain ⟨fuel, hf⟩ := h
  obtain ⟨v, l, hv, _, hs, hd⟩ := open_slK (K := 5) (α := {q : Obv × DataW H // q.1.1.1.id.length ∈ DataW.weights Try.prog 30 q.2}) (fun q => enO q.1.1) (fun q => q.1.2) Try.underlying23 (by kernel_rfl) (by decide) (fun q => rfl)
    (fun n cs y hy => by obtain ⟨o, h1, h2⟩ := open_objI hy; exact ⟨⟨(o, y.1), h2⟩, h1, rfl⟩) hf
  have hv' : v = .slice a len cap := by simpa [Value.cells] using hv.symm
  subst hv'
  have hll : l.length = len := by
    rcases hs with ⟨k, e, h0, _⟩ | ⟨x, k, e, _⟩
    · injection e with _ e2 _; rw [h0, e2]
    · injection e with _ e2 _; exact e2.symm
  refine ⟨l.map (fun q => q.1.1), ?_, by simpa using hll, fun x hx => ?_, ?_⟩
  · rw [List.length_map, List.flatMap_map]; exact hs
  · obtain ⟨q, hq, rfl⟩ := List.mem_map.1 hx
    rcases hd with ⟨_, rfl⟩ | ⟨sp, hd⟩
    · simp at hq
    · have hd' : d = .slice (l.map fun q => q.1.2) sp := hd
      rw [hd']
      unfold DataW.weights
      rw [Try.underlying23]
      refine List.mem_cons_of_mem _ (List.mem_append_left _ ?_)
      have key : ∀ (m : List {q : Obv × DataW H // q.1.1.1.id.length ∈ DataW.weights Try.prog 30 q.2}), q ∈ m → q.1.1.1.1.id.length ∈ DataW.weightsAll Try.prog 30 (m.map fun q => q.1.2) := by
        intro m
        induction m with
        | nil => intro h; simp at h
        | cons z m ih =>
          intro h
          rw [List.map_cons]
          unfold DataW.weightsAll
          rcases List.mem_cons.1 h with h | h
          · subst h; exact List.mem_append_left _ q.2
          · exact List.mem_append_right _ (ih h)
      exact key l hq
  · rcases hd with ⟨_, rfl⟩ | ⟨sp, hd⟩
    · left; simpa using hll.symm
    · exact .inr ⟨_, _, hd, by rw [List.length_map]; exact hll⟩
theorem reach_obsI {H : Type} {ts : List TypeId} {ds : List (DataW H)} (h : (DataW.weightsEach Try.prog ts ds).all (· ≤ reachBytes) = true) {j : Nat} {d : DataW H} {len : Nat} (ht : ts[j]? = some 23) (hd : ds[j]? = some d)
    (hl : len = 0 ∨ ∃ el sp, d = .slice el sp ∧ el.length = len) {l : List Obv} (hi : ∀ x ∈ l, x.1.1.id.length ∈ DataW.weights Try.prog 23 d) : len ≤ 140737488351232 ∧ ∀ x ∈ l, x.1.1.id.length ≤ 140737488351232 := by
  have h3 : reachBytes = 140737488351232 := rfl
  refine ⟨?_, fun x hx => ?_⟩
  · rcases hl with rfl | ⟨el, sp, rfl, rfl⟩
    · omega
    · have := sized_slice h ht hd Try.underlying23
      have hb : 1 ≤ Try.prog.bytesOf 30 := by decide +kernel
      have h4 : (el.length + sp.length) * 1 ≤ (el.length + sp.length) * Try.prog.bytesOf 30 := Nat.mul_le_mul_left _ hb
      omega
  · have := List.all_eq_true.1 h _ (DataW.weights_mem_each ht hd _ (hi x hx))
    have h2 : x.1.1.id.length ≤ reachBytes := by simpa using this
    omega
theorem reach_strI {H : Type} {ts : List TypeId} {ds : List (DataW H)} (h : (DataW.weightsEach Try.prog ts ds).all (· ≤ reachBytes) = true) {j : Nat} {t : TypeId} {s : ByteArray} (ht : ts[j]? = some t) (hd : ds[j]? = some (.lit (.string s.data.toList))) : s.data.toList.length ≤ 140737488351232 := by
  have := sized_string h ht hd
  have h3 : reachBytes = 140737488351232 := rfl
  omega
end Go.Proofs.Ytmhlmlkndabgmaa
namespace Go.Proofs.Ytmhlmlkndabgmaa
open Go Go.Vx Go.ChangeShapes Go.WideShapes Go.ChangeAt Go.RowKit
set_option linter.all false
set_option maxRecDepth 4000
theorem top_row (H : Type) (enc : TypeId × Value → H) (W : World) (base : Nat) (args : Array Value) (ds gs : List (DataW H)) (before : List MemPlace)
    (hval : ∀ (j : Nat) t v, Try.f6.params[j]? = some t → args[j]? = some v → Value.okWide Try.prog W .any base t v)
    (hW : DataW.Whole enc Try.prog Try.f6.params.toList Rows.idxBackSpec.vars false W args.toList ds gs before)
    (hz : (DataW.weightsEach Try.prog (Try.f6.params.toList ++ Rows.idxBackSpec.plain.varTypes Try.prog) (ds ++ gs)).all (· ≤ reachBytes) = true) (hL : laidMetH Try.prog [] W) :
    Calls Try.prog 6 args W fun e W' => ∃ v, e = .returned v ∧ Rows.idxBackSpec.post enc Try.prog Try.f6 false true false false W args v W' := by
  have hW' := hW
  obtain ⟨p, q, hA0, hV, rfl, hfz, hnd⟩ := hW
  have hA : DataW.TrodAll enc Try.prog W 0 (fun _ => true) true Try.f6.params.toList args.toList ds p := hA0
  rw [Try.params6] at hA hval hz
  obtain ⟨v0, vs0, d0, ds0, p0, q0, hargs, rfl, rfl, h0, r0⟩ := trodAll_cons hA
  obtain ⟨v1, vs1, d1, ds1, p1, q1, rfl, rfl, rfl, h1, r1⟩ := trodAll_cons r0
  obtain ⟨v2, vs2, d2, ds2, p2, q2, rfl, rfl, rfl, h2, r2⟩ := trodAll_cons r1
  obtain ⟨rfl, rfl, rfl⟩ := trodAll_nil r2
  obtain rfl : args = #[v0, v1, v2] := by cases args; simp_all
  obtain ⟨rfl, rfl⟩ := trodVars_none hV
  obtain ⟨a0, l0, c0, rfl⟩ := okWide_slice Try.underlying23 (hval 0 _ v0 rfl rfl)
  obtain ⟨x0, s0, rfl, i0, g0⟩ := open_obsI h0
  obtain ⟨m0, j0⟩ := reach_obsI hz (j := 0) rfl rfl g0 i0
  obtain ⟨t1, rfl, rfl, rfl, w1⟩ := ChangeMaps.open_string Try.underlying9 (hval 1 _ v1 rfl rfl) h1
  have r1s : t1.data.toList.length ≤ 140737488351232 := reach_strI hz (j := 1) rfl rfl
  obtain ⟨t2, rfl, rfl, rfl, w2⟩ := ChangeMaps.open_string Try.underlying9 (hval 2 _ v2 rfl rfl) h2
  have r2s : t2.data.toList.length ≤ 140737488351232 := reach_strI hz (j := 2) rfl rfl
  clear hA0
  have lt0 : ∀ x ∈ p0, x.block < W.heap.size := by obtain ⟨m, hm⟩ := h0; exact DataW.trod_lt m _ _ _ hm
  have hc : Calls Try.prog 6 #[.slice a0 x0.length c0, .string t1, .string t2] W fun e W' => e = .returned (.bool true) ∧ Kept W W' := by
    refine bridge (fun {i} => ?_)
    exact idxback_n _ x0 t1.data.toList t2.data.toList _ s0 (by omega) (by omega) (by omega) (fun x hx => Nat.le_trans (j0 x hx) (by decide))
  refine hc.mono fun e W' ⟨he, bel⟩ => ?_
  subst he
  exact ⟨_, rfl, _, _, _, [], _, [], hW', trodAll_mk1 (shut_bool Try.underlying4 _), (trodAll_cons_mk (Kept.trod Try.laidOut (by kernel_rfl) (of_decide_eq_true (by kernel_rfl)) h0 bel lt0) (trodAll_cons_mk (ChangeMaps.shut_string Try.underlying9 w1) (trodAll_cons_mk (ChangeMaps.shut_string Try.underlying9 w2) trodAll_mk0))), rfl, bel.frame _, fun h => by cases h⟩
theorem reads (os : Os) {H : Type} (enc : TypeId × Value → H) : ∃ places, DataW.whole enc Try.prog ((World.holding Try.prog os ⟨#[], #[], []⟩).forCall (fun _ _ => 0) ⟨#[], #[.slice none 0 0, .string .empty, .string .empty], []⟩).memory Try.f6.params.toList Rows.idxBackSpec.vars false #[.slice none 0 0, .string .empty, .string .empty].toList 8 = some ([.nil, .lit (.string []), .lit (.string [])], [], places) :=
  ⟨[], by kernel_rfl⟩
set_option maxRecDepth 100000 in
theorem top_lifted (os : Os) (started : os.Started) (H : Type) (enc : TypeId × Value → H) (F : Stop.Interp) :
    ReturnsInHanded {} Try.checked os 6 .any ((OpenSpec.ofChange Rows.idxBackSpec).preRow enc Try.prog Try.f6 Rows.idxBackRow.domain false Rows.idxBackRow.laid) (((OpenSpec.ofChange Rows.idxBackSpec).at F).post enc Try.prog Try.f6 false true false false) := by
  obtain ⟨places, hx⟩ := reads os enc
  refine returnsInHanded_of_row (C := Try.checked) (s := (OpenSpec.ofChange Rows.idxBackSpec)) Try.own started (by kernel_rfl) Try.func6
    (witness_row_at (enc := enc) (C := Try.checked) false (World.holding Try.prog os ⟨#[], #[], []⟩) #[.slice none 0 0, .string .empty, .string .empty] rfl (by kernel_rfl) (by kernel_rfl) (by kernel_rfl)
      (OpenSpec.preRow_of_cond 8 hx (by kernel_rfl) (fun k hk => by cases hk) (by kernel_rfl) (laidMet_of_run' 8 (by kernel_rfl) (by kernel_rfl)))) ?_
  intro W base args ds gs before hval hW _ hcond hz hL _ _
  exact top_row H enc W base args ds gs before hval hW hz hL
theorem top_over : Rows.IdxBackSaid :=
  OpenClaim.holds_of_cond 6 Try.f6 rfl rfl rfl rfl rfl rfl rfl ⟨rfl, rfl, rfl, rfl, rfl⟩ rfl rfl rfl rfl rfl (by kernel_rfl) Try.func6 (by kernel_rfl)
    (of_decide_eq_true (by kernel_rfl)) (by unfold Func.isWrapper; first | (rw [if_pos (by decide +kernel)]; kernel_rfl) | (rw [if_neg (by decide +kernel)]; exact ⟨rfl, rfl⟩))
    (fun os started H enc _ F => by rw [OpenClaim.pre_eq_preRow]; exact top_lifted os started H enc F)
theorem top_holds : Rows.IdxBackSaid := top_over
end Go.Proofs.Ytmhlmlkndabgmaa
