/- HuffLeast returns true and leaves its arguments as they were, for every argument that the row takes. No conditions beyond the row's. -/
import Derived.Test.YtbdpjbmfhnbheaaPL2
namespace Go.Vx
open Go
set_option linter.all false
variable [W0]
omit [W0] in
/-- A coin's cells: its worth, what is in it. -/
def coinC (x : Nat × Value) : List Value := [.int .i64 (x.1 : Int), x.2]
omit [W0] in
def coinsC : List (Nat × Value) → List Value
  | [] => []
  | x :: r => .int .i64 (x.1 : Int) :: x.2 :: coinsC r
theorem coinsC_app (a b : List (Nat × Value)) : coinsC (a ++ b) = coinsC a ++ coinsC b := by
  induction a with
  | nil => rfl
  | cons x r ih => simp [coinsC, ih]
theorem coinsC_length (a : List (Nat × Value)) : (coinsC a).length = a.length * 2 := by
  induction a with
  | nil => rfl
  | cons x r ih => simp only [coinsC, List.length_cons, ih]; omega
theorem coinsC_get : ∀ {a : List (Nat × Value)} {i : Nat} {x : Nat × Value}, a[i]? = some x → (coinsC a)[i * 2]? = some (.int .i64 (x.1 : Int)) ∧ (coinsC a)[i * 2 + 1]? = some x.2
  | [], i, x, h => by simp at h
  | y :: r, 0, x, h => by simp at h; subst h; simp [coinsC]
  | y :: r, i + 1, x, h => by
    have := coinsC_get (a := r) (i := i) (x := x) (by simpa using h)
    rw [show (i + 1) * 2 = i * 2 + 1 + 1 from by omega]
    simpa [coinsC] using this
theorem coinsC_set : ∀ {a : List (Nat × Value)} {i : Nat} (y : Nat × Value) (rest : List Value), i < a.length → patch (coinsC a ++ rest) (i * 2) (coinC y) = coinsC (a.set i y) ++ rest
  | [], i, y, rest, h => by simp at h
  | x :: r, 0, y, rest, _ => by simp [coinsC, coinC, patch]
  | x :: r, i + 1, y, rest, h => by
    have ih := coinsC_set (a := r) (i := i) y rest (by simpa using h)
    rw [show (i + 1) * 2 = i * 2 + 1 + 1 from by omega]
    simp only [List.set_cons_succ, coinsC, List.cons_append]
    rw [← ih]
    have e : i * 2 + 1 + 1 + (coinC y).length = i * 2 + (coinC y).length + 1 + 1 := by omega
    simp only [patch, List.take_succ_cons, e, List.drop_succ_cons, List.cons_append]
omit [W0] in
def onesC (l : List (Nat × Value)) : Bool := l.all fun x => x.2.oneCell'
theorem coinsC_ones {l : List (Nat × Value)} (h : onesC l = true) : ones (coinsC l) = true := by
  induction l with
  | nil => rfl
  | cons x r ih =>
    simp only [onesC, List.all_cons, Bool.and_eq_true] at h
    have := ih h.2
    simp only [coinsC, ones, List.all_cons, Bool.and_eq_true] at *
    exact ⟨rfl, h.1, this⟩
theorem sl_coin {L : List Chunk} {v : Value} {m : Nat} {xs : List (Nat × Value)} (h : Sl L 2 v m (coinsC xs)) {i : Nat} {x : Nat × Value} (hx : xs[i]? = some x) :
    ∃ b off cap c T fr, v = .slice (some ⟨b, off, none⟩) m cap ∧ Fnd L b (.cells c T fr) ∧ c[off + i * 2]? = some (.int .i64 (x.1 : Int)) ∧ RdAt L ⟨b, off + i * 2, none⟩ [.int .i64 (x.1 : Int), x.2] ∧ c[off + i * 2 + 1]? = some x.2 := by
  obtain ⟨g1, g2⟩ := coinsC_get hx
  rcases h with ⟨c, rfl, rfl, h0⟩ | ⟨a, cap, rfl, hr, hl⟩
  · rw [h0] at g1; simp at g1
  · rcases hr with h0 | ⟨b, off, c, T, fr, rfl, h1, h2⟩
    · rw [h0] at g1; simp at g1
    · have k1 := h2 _ _ g1
      have k2 := h2 _ _ g2
      rw [← Nat.add_assoc] at k2
      refine ⟨b, off, cap, c, T, fr, rfl, h1, k1, .inr ⟨b, _, c, T, fr, rfl, h1, fun j u hj => ?_⟩, k2⟩
      match j, hj with
      | 0, hj => simp at hj; subst hj; simpa using k1
      | 1, hj => simp at hj; subst hj; exact k2
      | j + 2, hj => simp at hj
theorem ow_coin {e m : Nat} {v : Value} {xs : List (Nat × Value)} {C : Chunk} (h : Ow e 2 v m (coinsC xs) C) {i : Nat} (hi : i < m) :
    ∃ b cap rest, v = .slice (some ⟨b, 0, none⟩) m cap ∧ C = [(b, cl (coinsC xs ++ rest) e)] ∧
      (∀ j x, xs[j]? = some x → (coinsC xs ++ rest).toArray[j * 2]? = some (.int .i64 (x.1 : Int)) ∧ (coinsC xs ++ rest).toArray[j * 2 + 1]? = some x.2 ∧ ∀ L : List Chunk, RdAt ([(b, cl (coinsC xs ++ rest) e)] :: L) ⟨b, j * 2, none⟩ (coinC x)) ∧ xs.length = m ∧ m * 2 ≤ (coinsC xs ++ rest).length ∧
      ∀ k y, k < m → Ow e 2 v m (coinsC (xs.set k y)) [(b, cl (patch (coinsC xs ++ rest) (k * 2) (coinC y)) e)] := by
  rcases h with ⟨rfl, rfl, _⟩ | ⟨b, cap, rest, rfl, rfl, hxl, hrl, hmc, hcm⟩
  · omega
  · rw [coinsC_length] at hxl
    have hxm : xs.length = m := by omega
    refine ⟨b, cap, rest, rfl, rfl, fun j x hx => ?_, hxm, by simp [coinsC_length]; omega, fun k y hk => ?_⟩
    · obtain ⟨g1, g2⟩ := coinsC_get hx
      have k1 : (coinsC xs ++ rest).toArray[j * 2]? = some (.int .i64 (x.1 : Int)) := by simpa using getE_app (r := rest) g1
      have k2 : (coinsC xs ++ rest).toArray[j * 2 + 1]? = some x.2 := by simpa using getE_app (r := rest) g2
      refine ⟨k1, k2, fun L => .inr ⟨b, _, _, _, _, rfl, Fnd.here, fun t u ht => ?_⟩⟩
      match t, ht with
      | 0, ht => simp [coinC] at ht; subst ht; exact k1
      | 1, ht => simp [coinC] at ht; subst ht; exact k2
      | t + 2, ht => simp [coinC] at ht
    · rw [coinsC_set y rest (by omega)]
      exact .inr ⟨b, cap, rest, rfl, rfl, by rw [coinsC_length, List.length_set, hxm], hrl, hmc, hcm⟩
end Go.Vx
namespace Go.Proofs.Ytbdpjbmfhnbheaa
open Go Go.Vx Go.Hf
variable [W0]
set_option maxRecDepth 4000
set_option linter.all false
theorem ins_sorted {out : List (Nat × Value)} {x : Nat × Value} {k : Nat} (hs : out.Pairwise fun a b => a.1 ≤ b.1) (hk : k ≤ out.length) (hb : ∀ j y, k ≤ j → out[j]? = some y → x.1 < y.1) (ha : k = 0 ∨ ∃ y, out[k - 1]? = some y ∧ y.1 ≤ x.1) :
    (out.take k ++ x :: out.drop k).Pairwise (fun a b => a.1 ≤ b.1) ∧ (out.take k ++ x :: out.drop k).Perm (out ++ [x]) := by
  have hsplit : out.take k ++ out.drop k = out := List.take_append_drop k out
  have hs2 := hs
  rw [← hsplit, List.pairwise_append] at hs2
  obtain ⟨h1, h2, h3⟩ := hs2
  have hdrop : ∀ y ∈ out.drop k, x.1 < y.1 := fun y hy => by
    obtain ⟨j, hj⟩ := List.getElem?_of_mem hy
    rw [List.getElem?_drop] at hj
    exact hb (k + j) y (by omega) hj
  have htake : ∀ y ∈ out.take k, y.1 ≤ x.1 := fun y hy => by
    rcases ha with h0 | ⟨z, hz, hzx⟩
    · rw [h0] at hy; simp at hy
    · obtain ⟨j, hj⟩ := List.getElem?_of_mem hy
      rw [List.getElem?_take] at hj
      split at hj
      · rename_i hjk
        rcases Nat.eq_or_lt_of_le (show j ≤ k - 1 by omega) with h' | h'
        · rw [h', hz] at hj
          cases hj
          exact hzx
        · have := (List.pairwise_iff_getElem.1 hs) j (k - 1) (lt_of_get hj) (lt_of_get hz) h'
          rw [List.getElem?_eq_getElem (lt_of_get hj)] at hj
          rw [List.getElem?_eq_getElem (lt_of_get hz)] at hz
          have e1 := Option.some.inj hj
          have e2 := Option.some.inj hz
          rw [e1, e2] at this
          omega
      · cases hj
  constructor
  · rw [List.pairwise_append]
    refine ⟨h1, List.pairwise_cons.2 ⟨fun y hy => Nat.le_of_lt (hdrop y hy), h2⟩, fun a ha' b hb' => ?_⟩
    rcases List.mem_cons.1 hb' with rfl | hb'
    · exact htake a ha'
    · exact h3 a ha' b hb'
  · refine List.perm_middle.trans ?_
    rw [hsplit]
    exact (List.perm_append_singleton x out).symm
set_option maxHeartbeats 8000000 in
theorem sorted_n (a : Option Addr) (c : Nat) (l : List (Nat × Value)) (L : List Chunk) (h : Sl L 2 (.slice a l.length c) l.length (coinsC l)) (ho1 : onesC l = true) (hl : l.length ≤ 1000) :
    Gv Try.prog 39 [.slice a l.length c].toArray L (fun r L' => ∃ R C, R.Perm l ∧ (R.Pairwise fun a b => a.1 ≤ b.1) ∧ L' = C :: L ∧ Ow 88 2 r l.length (coinsC R) C) := by
  refine Gv.of_body Try.func39 rfl rfl ?_
  (repeat' first|refine kW ?_|refine kU fun bk=>?_|refine kV fun hc=>?_|refine kZ (fun hc=>?_) fun hc=>?_|fail)
  refine WC_holds' (L' := [] :: L) (fun w h => Holds.nil.2 h) ?_
  refine WC_loop (X := Nat × Value × List (Nat × Value) × Chunk) (fun x => [(0, .slice a l.length c), (3, x.2.1), (4, .int .i64 (x.1 : Int))]) (fun x => x.2.2.2 :: L)
    (fun x => x.1 ≤ l.length ∧ x.2.2.1.Perm (l.take x.1) ∧ (x.2.2.1.Pairwise fun a b => a.1 ≤ b.1) ∧ Ow 88 2 x.2.1 x.1 (coinsC x.2.2.1) x.2.2.2) (fun x => l.length - x.1) (0, .slice none 0 0, [], []) ⟨Nat.zero_le _, .refl _, .nil, .inl ⟨rfl, rfl, rfl, rfl⟩⟩ iS (fun w h => h) ?_
  rintro ⟨i, v, out, C⟩ ⟨hi, hp, hs, hO⟩
  simp only at hi hp hs hO ⊢
  have hol : out.length = i := by rw [hp.length_eq, List.length_take]; omega
  obtain ⟨va, vc, rfl⟩ := ow_slc hO
  (repeat' first|refine kW ?_|refine kU fun bk=>?_|refine kV fun hc=>?_|refine kZ (fun hc=>?_) fun hc=>?_|fail)
  · have hlt : i < l.length := by omega
    obtain ⟨x, hx⟩ : ∃ x, l[i]? = some x := ⟨l[i], by simp [hlt]⟩
    obtain ⟨b, off, cap, cc, T, fr, hve, hfn, hcell, hrd, _⟩ := sl_coin h hx
    injection hve with q1 q2 q3
    subst q1 q3
    clear q2
    have hx1 : x.2.oneCell' = true := List.all_eq_true.1 ho1 x (List.mem_of_getElem? hx)
    refine OW_EV (EV_indexAddr (j := i) rfl rfl rfl hlt) rfl ?_
    (repeat' first|refine kW ?_|refine kU fun bk=>?_|refine kV fun hc=>?_|refine kZ (fun hc=>?_) fun hc=>?_|fail)
    refine OW_EV (EV_loadAgg rfl (rd_there hrd) rfl) rfl ?_
    (repeat' first|refine kW ?_|refine kU fun bk=>?_|refine kV fun hc=>?_|refine kZ (fun hc=>?_) fun hc=>?_|fail)
    refine OW_buildSlice (cs := coinsC [x]) rfl (by rfl) (by simp [fillL, patch, Value.cells, zeros]; rfl) (by omega) rfl rfl (fun bk => ?_)
    (repeat' first|refine kW ?_|refine kU fun bk=>?_|refine kV fun hc=>?_|refine kZ (fun hc=>?_) fun hc=>?_|fail)
    refine OW_append rfl rfl hO (sl_cells (k := 2) (c := (coinsC [x]).toArray) (xs := coinsC [x]) (m := 1) Fnd.here rfl (by simp)) (by repeat (first | exact Zip.here _ | apply Zip.there)) (by rfl) (coinsC_ones (by simp [onesC, hx1])) (by omega) (by simp [maxLen]; omega) rfl (fun v' C' ho2 h1 h2 => ?_)
    rw [← coinsC_app] at ho2
    obtain ⟨fa, fc, rfl⟩ := ow_slc ho2
    (repeat' first|refine kW ?_|refine kU fun bk=>?_|refine kV fun hc=>?_|refine kZ (fun hc=>?_) fun hc=>?_|fail)
    have hone : ∀ y ∈ out, y.2.oneCell' = true := fun y hy => List.all_eq_true.1 ho1 y (List.mem_of_mem_take (hp.mem_iff.1 hy))
    refine WC_loop (X := Nat × (Nat × Value) × Chunk) (fun z => [(0, .slice (some ⟨b, off, none⟩) l.length c), (3, .slice fa (i + 1) fc), (4, .int .i64 (i : Int)), (5, .int .i64 (z.1 : Int))]) (fun z => z.2.2 :: L)
      (fun z => z.1 ≤ i ∧ (∀ j y, z.1 ≤ j → out[j]? = some y → x.1 < y.1) ∧ Ow 88 2 (.slice fa (i + 1) fc) (i + 1) (coinsC (out.take z.1 ++ z.2.1 :: out.drop z.1)) z.2.2) (fun z => z.1) (i, x, C')
      ⟨Nat.le_refl _, fun j y hj hy => by simp only at hj; rw [List.getElem?_eq_none (by omega)] at hy; simp at hy, by simp only; rw [List.take_of_length_le (by omega), List.drop_of_length_le (by omega)]; exact ho2⟩ iS (fun w h => iH h) ?_
    rintro ⟨k, w, C2⟩ ⟨hk, hbig, hO2⟩
    simp only at hk hbig hO2 ⊢
    have harr : ∀ j y, j < k → out[j]? = some y → (out.take k ++ w :: out.drop k)[j]? = some y := fun j y hj hy => by
      rw [List.getElem?_append_left (by simp; omega), List.getElem?_take, if_pos hj]; exact hy
    obtain ⟨b3, cap3, rest3, hve, rfl, hat, hxl, hfit, hset⟩ := ow_coin hO2 (i := k) (by omega)
    injection hve with q1 q2 q3
    subst q1 q3
    clear q2
    have hsetk : ∀ y, (out.take k ++ w :: out.drop k).set k y = out.take k ++ y :: out.drop k := fun y => by
      have hl2 : (out.take k).length = k := by simp; omega
      rw [List.set_append_right _ _ (by omega), hl2, Nat.sub_self]
      rfl
    rcases Nat.eq_zero_or_pos k with h0 | h0
    · (repeat' first|refine kW ?_|refine kU fun bk=>?_|refine kV fun hc=>?_|refine kZ (fun hc=>?_) fun hc=>?_|fail)
      refine WC_drawAll [] mixed ?_
      (refine WR_t 0 ?_; refine WR_t 1 ?_)
      rw [show decide ((k : Int) > 0) = false from by simp; omega]
      (refine WR_t 2 ?_)
      (refine WR_v 3 ?_; refine WR_v 4 ?_; refine WR_v 5 ?_; refine WR_v 6 ?_; refine WR_v 7 ?_; refine WR_v 8 ?_; refine WR_v 9 ?_; refine WR_v 10 ?_; refine WR_v 11 ?_; refine WR_v 12 ?_; refine WR_v 13 ?_; refine WR_v 14 ?_)
      (refine WR_t 15 ?_)
      (refine WR_done (by kernel_rfl) ?_)
      (repeat' first|refine kW ?_|refine kU fun bk=>?_|refine kV fun hc=>?_|refine kZ (fun hc=>?_) fun hc=>?_|fail)
      have ha : k = 0 ∨ ∃ y, out[k - 1]? = some y ∧ y.1 ≤ x.1 := .inl h0
      obtain ⟨g1, g2⟩ := ins_sorted hs (by omega) hbig ha
      have g3 : (out.take k ++ x :: out.drop k).Perm (l.take (i + 1)) := by
        rw [List.take_add_one, hx]
        exact g2.trans (hp.append (.refl _))
      have g4 := hset k x (by omega)
      rw [hsetk] at g4
      refine OW_EV (EV_indexAddr (j := i) rfl rfl rfl hlt) rfl ?_
      (repeat' first|refine kW ?_|refine kU fun bk=>?_|refine kV fun hc=>?_|refine kZ (fun hc=>?_) fun hc=>?_|fail)
      refine OW_EV (EV_loadAgg rfl (rd_there hrd) rfl) rfl ?_
      (repeat' first|refine kW ?_|refine kU fun bk=>?_|refine kV fun hc=>?_|refine kZ (fun hc=>?_) fun hc=>?_|fail)
      refine OW_EV (EV_indexAddr0 (j := k) (len := i + 1) rfl rfl rfl (by omega)) rfl ?_
      (repeat' first|refine kW ?_|refine kU fun bk=>?_|refine kV fun hc=>?_|refine kZ (fun hc=>?_) fun hc=>?_|fail)
      refine OW_storeAgg (vs := coinC x) rfl rfl rfl (by simp [ones, coinC, hx1]; rfl) iU (by simp only [coinC, List.length_cons, List.length_nil]; omega) ?_
      (repeat' first|refine kW ?_|refine kU fun bk=>?_|refine kV fun hc=>?_|refine kZ (fun hc=>?_) fun hc=>?_|fail)
      exact WQ_round (X := Nat × Value × List (Nat × Value) × Chunk) (μ := fun x => l.length - x.1) (x := (i, Value.slice va i vc, out, C)) (i + 1, Value.slice (some ⟨b3, 0, none⟩) (i + 1) fc, out.take k ++ x :: out.drop k, _) (by simp only; omega) ⟨by simp only; omega, g3, g1, g4⟩ iS (fun w h => h)
    · obtain ⟨y, hy⟩ : ∃ y, out[k - 1]? = some y := ⟨out[k - 1]'(by omega), by simp⟩
      have hy2 := harr (k - 1) y (by omega) hy
      obtain ⟨hc1, hc2, hrdy⟩ := hat (k - 1) y hy2
      have hy1 : y.2.oneCell' = true := hone y (List.mem_of_getElem? hy)
      (repeat' first|refine kW ?_|refine kU fun bk=>?_|refine kV fun hc=>?_|refine kZ (fun hc=>?_) fun hc=>?_|fail)
      refine WC_drawAll [] mixed ?_
      (refine WR_t 0 ?_; refine WR_t 1 ?_)
      rw [show decide ((k : Int) > 0) = true from by simp; omega]
      (refine WR_t 2 ?_)
      (refine WR_u 3 ?_; refine WR_u 4 ?_; refine WR_u 5 ?_)
      (refine WR_takeOn 6 rfl rfl rfl (by kernel_rfl) iP iC (EV_indexAddr0 (j := k - 1) (len := i + 1) rfl rfl (by omega) (by omega)) (by rfl) ?_)
      (refine WR_u 7 ?_)
      (refine WR_takeOn 8 rfl rfl rfl (by kernel_rfl) iP iC (EV_load rfl Fnd.here hc1) (by rfl) ?_)
      (refine WR_u 9 ?_; refine WR_u 10 ?_)
      (refine WR_takeOn 11 rfl rfl rfl (by kernel_rfl) iP iC (EV_indexAddr (j := i) rfl rfl rfl hlt) (by rfl) ?_)
      (refine WR_u 12 ?_)
      (refine WR_takeOn 13 rfl rfl rfl (by kernel_rfl) iP iC (EV_load rfl hfn.there hcell) (by rfl) ?_)
      (refine WR_u 14 ?_)
      (refine WR_t 15 ?_)
      (refine WR_done (by kernel_rfl) ?_)
      (repeat' first|refine kW ?_|refine kU fun bk=>?_|refine kV fun hc=>?_|refine kZ (fun hc=>?_) fun hc=>?_|fail)
      · refine OW_EV (EV_indexAddr0 (j := k - 1) (len := i + 1) rfl rfl (by omega) (by omega)) rfl ?_
        (repeat' first|refine kW ?_|refine kU fun bk=>?_|refine kV fun hc=>?_|refine kZ (fun hc=>?_) fun hc=>?_|fail)
        refine OW_EV (EV_loadAgg rfl (hrdy _) rfl) rfl ?_
        (repeat' first|refine kW ?_|refine kU fun bk=>?_|refine kV fun hc=>?_|refine kZ (fun hc=>?_) fun hc=>?_|fail)
        refine OW_EV (EV_indexAddr0 (j := k) (len := i + 1) rfl rfl rfl (by omega)) rfl ?_
        (repeat' first|refine kW ?_|refine kU fun bk=>?_|refine kV fun hc=>?_|refine kZ (fun hc=>?_) fun hc=>?_|fail)
        refine OW_storeAgg (vs := coinC y) rfl rfl rfl (by simp [ones, coinC, hy1]; rfl) iU (by simp only [coinC, List.length_cons, List.length_nil]; omega) ?_
        (repeat' first|refine kW ?_|refine kU fun bk=>?_|refine kV fun hc=>?_|refine kZ (fun hc=>?_) fun hc=>?_|fail)
        rw [show (k : Int) - 1 = ((k - 1 : Nat) : Int) from by omega]
        have g4 := hset k y (by omega)
        have e : (out.take k ++ w :: out.drop k).set k y = out.take (k - 1) ++ y :: out.drop (k - 1) := by
          rw [hsetk]
          have e1 : out.take k = out.take (k - 1) ++ [y] := by
            have := List.take_add_one (l := out) (i := k - 1)
            rw [show k - 1 + 1 = k from by omega, hy] at this
            exact this
          have e2 : out.drop (k - 1) = y :: out.drop k := by
            have hlt3 : k - 1 < out.length := by omega
            rw [List.drop_eq_getElem_cons hlt3, show k - 1 + 1 = k from by omega]
            rw [List.getElem?_eq_getElem hlt3] at hy
            rw [Option.some.inj hy]
          rw [e1, e2]
          simp
        rw [e] at g4
        refine WQ_round (X := Nat × (Nat × Value) × Chunk) (μ := fun z => z.1) (x := (k, w, [(b3, cl (coinsC (out.take k ++ w :: out.drop k) ++ rest3) 88)])) (k - 1, y, [(b3, cl (patch (coinsC (out.take k ++ w :: out.drop k) ++ rest3) (k * 2) (coinC y)) 88)]) (by simp only; omega) ⟨by simp only; omega, fun j z hj hz => ?_, g4⟩ iS (fun w h => h)
        simp only at hj
        rcases Nat.eq_or_lt_of_le hj with h' | h'
        · rw [← h', hy] at hz
          cases hz
          omega
        · exact hbig j z (by omega) hz
      · have ha : k = 0 ∨ ∃ y, out[k - 1]? = some y ∧ y.1 ≤ x.1 := .inr ⟨y, hy, by omega⟩
        obtain ⟨g1, g2⟩ := ins_sorted hs (by omega) hbig ha
        have g3 : (out.take k ++ x :: out.drop k).Perm (l.take (i + 1)) := by
          rw [List.take_add_one, hx]
          exact g2.trans (hp.append (.refl _))
        have g4 := hset k x (by omega)
        rw [hsetk] at g4
        refine OW_EV (EV_indexAddr (j := i) rfl rfl rfl hlt) rfl ?_
        (repeat' first|refine kW ?_|refine kU fun bk=>?_|refine kV fun hc=>?_|refine kZ (fun hc=>?_) fun hc=>?_|fail)
        refine OW_EV (EV_loadAgg rfl (rd_there hrd) rfl) rfl ?_
        (repeat' first|refine kW ?_|refine kU fun bk=>?_|refine kV fun hc=>?_|refine kZ (fun hc=>?_) fun hc=>?_|fail)
        refine OW_EV (EV_indexAddr0 (j := k) (len := i + 1) rfl rfl rfl (by omega)) rfl ?_
        (repeat' first|refine kW ?_|refine kU fun bk=>?_|refine kV fun hc=>?_|refine kZ (fun hc=>?_) fun hc=>?_|fail)
        refine OW_storeAgg (vs := coinC x) rfl rfl rfl (by simp [ones, coinC, hx1]; rfl) iU (by simp only [coinC, List.length_cons, List.length_nil]; omega) ?_
        (repeat' first|refine kW ?_|refine kU fun bk=>?_|refine kV fun hc=>?_|refine kZ (fun hc=>?_) fun hc=>?_|fail)
        exact WQ_round (X := Nat × Value × List (Nat × Value) × Chunk) (μ := fun x => l.length - x.1) (x := (i, Value.slice va i vc, out, C)) (i + 1, Value.slice (some ⟨b3, 0, none⟩) (i + 1) fc, out.take k ++ x :: out.drop k, _) (by simp only; omega) ⟨by simp only; omega, g3, g1, g4⟩ iS (fun w h => h)
  · have hil : i = l.length := by omega
    subst hil
    rw [List.take_length] at hp
    refine kR ?_
    exact ⟨C :: L, iC, out, C, hp, hs, rfl, hO⟩
end Go.Proofs.Ytbdpjbmfhnbheaa
namespace Go.Hf
open Go.Pm
set_option linter.all false
def lwR (ws : List Nat) : Nat → List Nat
  | 0 => []
  | k + 1 => (ws ++ psum (lwR ws k)).mergeSort fun a b => decide (a ≤ b)
theorem lwR_up (l : List Nat) : (l.mergeSort fun a b => decide (a ≤ b)).Pairwise fun a b => a ≤ b := by
  have := List.pairwise_mergeSort (le := fun a b : Nat => decide (a ≤ b)) (by intro a b c; simp; omega) (by intro a b; simp; omega) l
  simpa using this
theorem lwR_Lw (ws : List Nat) : Lw ws (lwR ws) := ⟨rfl, fun k => lwR_up _, fun k => List.mergeSort_perm _ _⟩
theorem lwR_eq {ws R : List Nat} {k : Nat} (hs : R.Pairwise fun a b => a ≤ b) (hp : R.Perm (ws ++ psum (lwR ws k))) : R = lwR ws (k + 1) :=
  List.Perm.eq_of_pairwise (fun a b _ _ h1 h2 => Nat.le_antisymm h1 h2) hs (lwR_up _) (hp.trans (List.mergeSort_perm _ _).symm)
def leastN (cs : List Nat) (most : Nat) : Nat :=
  let ws := cs.filter fun x => decide (0 < x)
  if ws.length < 2 then ws.sum else ((lwR ws most).take (2 * ws.length - 2)).sum
def vec (m : Nat) (g : Nat → Nat) : List Nat := (List.range m).map g
theorem vec_length (m : Nat) (g : Nat → Nat) : (vec m g).length = m := by simp [vec]
theorem vec_get {m : Nat} {g : Nat → Nat} {j : Nat} (h : j < m) : (vec m g)[j]? = some (g j) := by simp [vec, List.getElem?_range h]
theorem vec_getD (m : Nat) (g : Nat → Nat) (j : Nat) : (vec m g).getD j 0 = if j < m then g j else 0 := by
  split
  · rename_i h; simp [List.getD, vec_get h]
  · rename_i h; simp [List.getD, List.getElem?_eq_none (show (vec m g).length ≤ j by rw [vec_length]; omega)]
theorem vec_congr {m : Nat} {g h : Nat → Nat} (hh : ∀ j, j < m → g j = h j) : vec m g = vec m h := List.map_congr_left fun j hj => hh j (List.mem_range.1 hj)
theorem vec_set {m : Nat} {g h : Nat → Nat} {i : Nat} (hi : i < m) (hh : ∀ j, j ≠ i → g j = h j) : (vec m g).set i (h i) = vec m h := by
  apply List.ext_getElem?
  intro j
  rcases Nat.lt_or_ge j m with hj | hj
  · by_cases h1 : j = i
    · subst h1; rw [List.getElem?_set_self (by rw [vec_length]; exact hj), vec_get hj]
    · rw [List.getElem?_set_ne (fun h2 => h1 h2.symm), vec_get hj, vec_get hj, hh j h1]
  · rw [List.getElem?_eq_none (by rw [List.length_set, vec_length]; exact hj), List.getElem?_eq_none (by rw [vec_length]; exact hj)]
def dotN (cs : List Nat) (m : Nat) (g : Nat → Nat) : Nat := sumTo (fun j => cs.getD j 0 * g j) m
theorem dotN_add (cs : List Nat) (m : Nat) (g h : Nat → Nat) : dotN cs m (fun j => g j + h j) = dotN cs m g + dotN cs m h := by
  unfold dotN
  rw [← sumTo_plus]
  exact sumTo_congr fun j _ => Nat.mul_add _ _ _
theorem dotN_zero (cs : List Nat) (m : Nat) : dotN cs m (fun _ => 0) = 0 := by
  unfold dotN
  rw [sumTo_congr (h := fun _ => 0) (fun j _ => Nat.mul_zero _), sumTo_const, Nat.mul_zero]
theorem sumTo_none {g : Nat → Nat} {n : Nat} (h : ∀ j, j < n → g j = 0) : sumTo g n = 0 := by
  rw [sumTo_congr (h := fun _ => 0) h, sumTo_const, Nat.mul_zero]
theorem dotN_unit (cs : List Nat) {m i : Nat} (h : i < m) : dotN cs m (fun j => if j = i then 1 else 0) = cs.getD i 0 := by
  obtain ⟨k, rfl⟩ := Nat.le.dest h
  unfold dotN
  have e1 : sumTo (fun j => cs.getD j 0 * (fun j => if j = i then 1 else 0) j) i = 0 := sumTo_none fun j hj => by
    have : j ≠ i := by omega
    simp [this]
  have e2 : sumTo (fun t => (fun j => cs.getD j 0 * (fun j => if j = i then 1 else 0) j) (i.succ + t)) k = 0 := sumTo_none fun j hj => by
    have : i + 1 + j ≠ i := by omega
    simp [this]
  rw [sumTo_add, e2]
  show sumTo (fun j => cs.getD j 0 * (fun j => if j = i then 1 else 0) j) i + cs.getD i 0 * (if i = i then 1 else 0) + 0 = _
  rw [e1]
  simp
theorem dotN_le {cs : List Nat} {m B : Nat} {g : Nat → Nat} (hc : ∀ i, cs.getD i 0 ≤ 1073741824) (hg : ∀ j, g j ≤ B) : dotN cs m g ≤ m * (1073741824 * B) := by
  unfold dotN
  induction m with
  | zero => simp [sumTo]
  | succ m ih =>
    have := Nat.mul_le_mul (hc m) (hg m)
    simp only [sumTo, Nat.add_mul, Nat.one_mul]
    omega
theorem psum_snoc : ∀ {l : List Nat} {p a b : Nat}, l[2 * p]? = some a → l[2 * p + 1]? = some b → psum (l.take (2 * (p + 1))) = psum (l.take (2 * p)) ++ [a + b]
  | [], p, a, b, h, _ => by simp at h
  | [x], p, a, b, _, h => by simp at h
  | x :: y :: r, 0, a, b, h1, h2 => by
    simp at h1 h2
    subst h1 h2
    simp [psum]
  | x :: y :: r, p + 1, a, b, h1, h2 => by
    rw [show 2 * (p + 1) = 2 * p + 1 + 1 from by omega] at h1 h2
    have ih := psum_snoc (l := r) (p := p) (a := a) (b := b) (by simpa using h1) (by simpa using h2)
    rw [show 2 * (p + 1 + 1) = 2 * (p + 1) + 1 + 1 from by omega, show 2 * (p + 1) = 2 * p + 1 + 1 from by omega]
    simp only [List.take_succ_cons, psum, List.cons_append]
    rw [← ih, show 2 * (p + 1) = 2 * p + 1 + 1 from by omega]
theorem psum_take : ∀ {l : List Nat} {p : Nat}, l.length ≤ 2 * p + 1 → 2 * p ≤ l.length → psum (l.take (2 * p)) = psum l
  | [], p, _, _ => by simp [psum]
  | [x], p, _, h => by
    have : p = 0 := by simp at h; omega
    subst this; rfl
  | x :: y :: r, 0, h, _ => by simp at h
  | x :: y :: r, p + 1, h1, h2 => by
    have ih := psum_take (l := r) (p := p) (by simp at h1; omega) (by simp at h2; omega)
    rw [show 2 * (p + 1) = 2 * p + 1 + 1 from by omega]
    simp only [List.take_succ_cons, psum, ih]
theorem psum_length : ∀ l : List Nat, (psum l).length = l.length / 2
  | [] => rfl
  | [_] => by simp [psum]
  | a :: b :: r => by
    have := psum_length r
    simp only [psum, List.length_cons, this]
    omega
end Go.Hf
namespace Go.Vx
open Go Go.Hf
set_option linter.all false
variable [W0]
omit [W0] in
/-- Numbers by their places, as cells. -/
def vecV (m : Nat) (g : Nat → Nat) : List Value := (vec m g).map fun (n : Nat) => Value.int .i64 (n : Int)
theorem vecV_length (m : Nat) (g : Nat → Nat) : (vecV m g).length = m := by simp [vecV, vec_length]
theorem vecV_get {m : Nat} {g : Nat → Nat} {j : Nat} (h : j < m) : (vecV m g)[j]? = some (.int .i64 (g j : Int)) := by simp [vecV, vec_get h]
theorem vecV_set {m : Nat} {g h : Nat → Nat} {i : Nat} (hi : i < m) (hh : ∀ j, j ≠ i → g j = h j) : (vecV m g).set i (.int .i64 (h i : Int)) = vecV m h := by
  unfold vecV
  rw [← vec_set hi hh, List.map_set]
theorem vecV_congr {m : Nat} {g h : Nat → Nat} (hh : ∀ j, j < m → g j = h j) : vecV m g = vecV m h := by unfold vecV; rw [vec_congr hh]
theorem vecV_zero (m : Nat) : zeros [.int .i64 0] m = vecV m fun _ => 0 := by
  apply List.ext_getElem?
  intro j
  rcases Nat.lt_or_ge j m with hj | hj
  · rw [zeros_get _ _ _ (by simpa using hj), vecV_get hj]
    simp [Nat.mod_one]
  · rw [List.getElem?_eq_none (by rw [zeros_length]; simpa using hj), List.getElem?_eq_none (by rw [vecV_length]; exact hj)]
theorem vecV_sl {L : List Chunk} {m b : Nat} {g : Nat → Nat} {T : TypeId} : Sl ([(b, cl (vecV m g) T)] :: L) 1 (.slice (some ⟨b, 0, none⟩) m m) m (vecV m g) :=
  sl_cells (c := (vecV m g).toArray) Fnd.here (by rw [vecV_length, Nat.mul_one]) (by simp)
omit [W0] in
/-- A coin whose inside lies in the blocks I. -/
def Gd (cs : List Nat) (m : Nat) (I : Chunk) (B : Nat) (x : Nat × Value) : Prop := ∃ g : Nat → Nat, Sl [I] 1 x.2 m (vecV m g) ∧ x.1 = dotN cs m g ∧ ∀ j, g j ≤ B
theorem Gd.more {cs : List Nat} {m B : Nat} {I D : Chunk} {x : Nat × Value} (h : Gd cs m I B x) : Gd cs m (D ++ I) B x := by
  obtain ⟨g, h1, h2, h3⟩ := h
  exact ⟨g, sl_part (fun y hy => List.mem_append_right _ hy) h1, h2, h3⟩
theorem Gd.mono {cs : List Nat} {m B B' : Nat} {I : Chunk} {x : Nat × Value} (h : Gd cs m I B x) (hb : B ≤ B') : Gd cs m I B' x := by
  obtain ⟨g, h1, h2, h3⟩ := h
  exact ⟨g, h1, h2, fun j => Nat.le_trans (h3 j) hb⟩
theorem Gd.one {cs : List Nat} {m B : Nat} {I : Chunk} {x : Nat × Value} (h : Gd cs m I B x) : x.2.oneCell' = true := by
  obtain ⟨g, h1, _⟩ := h
  exact sl_one h1
theorem Gd.ones {cs : List Nat} {m B : Nat} {I : Chunk} {l : List (Nat × Value)} (h : ∀ x ∈ l, Gd cs m I B x) : onesC l = true := by
  unfold onesC
  rw [List.all_eq_true]
  exact fun x hx => (h x hx).one
theorem hold_join {w : World} {A C D : Chunk} {L : List Chunk} : Holds w (A :: (C ++ D) :: L) ↔ Holds w (A :: C :: D :: L) := by simp [Holds, List.append_assoc]
theorem hold_join3 {w : World} {A B E C D : Chunk} {L : List Chunk} : Holds w (A :: B :: E :: (C ++ D) :: L) ↔ Holds w (A :: B :: E :: C :: D :: L) := by simp [Holds, List.append_assoc]
theorem fnd_mem {C : Chunk} {b : Nat} {o : Obj} (h : Fnd [C] b o) : (b, o) ∈ C := by simpa [Fnd] using h
theorem in_at {I : Chunk} {v : Value} {m : Nat} {g : Nat → Nat} (h : Sl [I] 1 v m (vecV m g)) {j : Nat} (hj : j < m) :
    ∃ b off cap c T fr, v = .slice (some ⟨b, off, none⟩) m cap ∧ (b, Obj.cells c T fr) ∈ I ∧ c[off + j * 1]? = some (.int .i64 (g j : Int)) := by
  obtain ⟨b, off, cap, c, T, fr, h1, h2, h3⟩ := sl_at h (vecV_get hj)
  exact ⟨b, off, cap, c, T, fr, h1, fnd_mem h2, h3⟩
end Go.Vx
namespace Go.Proofs.Ytbdpjbmfhnbheaa
open Go Go.Vx Go.Hf Go.Pm
variable [W0]
set_option maxRecDepth 4000
set_option linter.all false
theorem icn_vec (m : Nat) (g : Nat → Nat) : intsN (icn (vec m g)) = vecV m g := by simp [intsN, icn, vecV]
theorem cost_vec (cs : List Nat) (g : Nat → Nat) : costN cs (vec cs.length g) (min cs.length (vec cs.length g).length) = dotN cs cs.length g := by
  rw [vec_length, Nat.min_self]
  exact sumTo_congr fun j hj => by rw [vec_getD, if_pos hj]
theorem cost_v (a0 a1 : Option Addr) (c0 c1 m : Nat) (cs : List Nat) (g : Nat → Nat) (L : List Chunk) (hm : m = cs.length) (h0 : Sl L 1 (.slice a0 m c0) m (intsN (icn cs))) (h1 : Sl L 1 (.slice a1 m c1) m (vecV m g))
    (hl : cs.length ≤ 1000) (hcB : ∀ i, cs.getD i 0 ≤ 2147483648) (hsB : ∀ i, g i ≤ 1048576) :
    GvP Try.prog 38 [.slice a0 m c0, .slice a1 m c1].toArray L (.int .i64 ((dotN cs m g : Nat) : Int)) := by
  subst hm
  have := cost_n a0 a1 c0 c1 cs (vec cs.length g) L h0 (by rw [vec_length, icn_vec]; exact h1) hl hcB (fun i => by rw [vec_getD]; split; exact hsB i; omega)
  rw [cost_vec, vec_length] at this
  exact this
theorem icn_get {l : List Nat} {i : Nat} (h : i < l.length) : (intsN (icn l))[i]? = some (.int .i64 (l.getD i 0 : Int)) := by simp [intsN, icn, List.getD, h]
set_option maxHeartbeats 16000000 in
theorem least_n (a0 : Option Addr) (c0 : Nat) (cs : List Nat) (most : Nat) (L : List Chunk) (h : Sl L 1 (.slice a0 cs.length c0) cs.length (intsN (icn cs))) (hl : cs.length ≤ 12) (hcB : ∀ i, cs.getD i 0 ≤ 1073741824) (hm1 : 1 ≤ most) (hm2 : most ≤ 15) :
    GvP Try.prog 22 [.slice a0 cs.length c0, .int .i64 (most : Int)].toArray L (.int .i64 ((leastN cs most : Nat) : Int)) := by
  obtain ⟨m, hm⟩ : ∃ m, m = cs.length := ⟨_, rfl⟩
  rw [← hm] at h hl ⊢
  refine Gv.of_body Try.func22 rfl rfl ?_
  (repeat' first|refine kW ?_|refine kU fun bk=>?_|refine kV fun hc=>?_|refine kZ (fun hc=>?_) fun hc=>?_|fail)
  refine WC_holds' (L' := [] :: [] :: L) (fun w h => Holds.nil.2 (Holds.nil.2 h)) ?_
  refine WC_loop (X := Nat × Value × List (Nat × Value) × Chunk × Chunk) (fun x => [(0, .slice a0 m c0), (1, .int .i64 (most : Int)), (5, x.2.1), (6, .int .i64 (x.2.2.1.length : Int)), (7, .int .i64 (x.1 : Int))]) (fun x => x.2.2.2.1 :: x.2.2.2.2 :: L)
    (fun x => x.1 ≤ m ∧ Ow 88 2 x.2.1 x.2.2.1.length (coinsC x.2.2.1) x.2.2.2.1 ∧ (∀ y ∈ x.2.2.1, Gd cs m x.2.2.2.2 1 y) ∧ x.2.2.1.map Prod.fst = (cs.take x.1).filter fun z => decide (0 < z)) (fun x => m - x.1) (0, .slice none 0 0, [], [], [])
    ⟨Nat.zero_le _, .inl ⟨rfl, rfl, rfl, rfl⟩, fun y hy => by simp at hy, rfl⟩ iS (fun w h => h) ?_
  rintro ⟨i, v, ks, C, I⟩ ⟨hi, hO, hG, hws⟩
  simp only at hi hO hG hws ⊢
  have hkl : ks.length ≤ i := by
    have := congrArg List.length hws
    rw [List.length_map] at this
    rw [this]
    exact Nat.le_trans (List.length_filter_le _ _) (by simp; omega)
  (repeat' first|refine kW ?_|refine kU fun bk=>?_|refine kV fun hc=>?_|refine kZ (fun hc=>?_) fun hc=>?_|fail)
  · have hlt : i < m := by omega
    obtain ⟨b, off, cap, cc, T, fr, hve, hfn, hcell⟩ := sl_at h (icn_get (hm ▸ hlt))
    injection hve with q1 q2 q3
    subst q1 q3
    clear q2
    have hci := hcB i
    have htk : cs.take (i + 1) = cs.take i ++ [cs.getD i 0] := by
      have hlt2 : i < cs.length := hm ▸ hlt
      rw [List.take_add_one, List.getElem?_eq_getElem hlt2]
      simp [List.getD, hlt2]
    obtain ⟨x, hx⟩ : ∃ x, x = cs.getD i 0 := ⟨_, rfl⟩
    rw [← hx] at hcell hci htk
    refine OW_EV (EV_indexAddr (j := i) rfl rfl rfl hlt) rfl ?_
    (repeat' first|refine kW ?_|refine kU fun bk=>?_|refine kV fun hc=>?_|refine kZ (fun hc=>?_) fun hc=>?_|fail)
    refine OW_EV (EV_load rfl hfn.there.there hcell) rfl ?_
    (repeat' first|refine kW ?_|refine kU fun bk=>?_|refine kV fun hc=>?_|refine kZ (fun hc=>?_) fun hc=>?_|fail)
    · refine OW_makeSlice (m := m) (c := m) rfl rfl (by rfl) (by omega) (by omega) (by omega) rfl (fun bn => ?_)
      rw [show zeros (Value.int .i64 0).cells.toList m = vecV m fun _ => 0 from vecV_zero _]
      (repeat' first|refine kW ?_|refine kU fun bk=>?_|refine kV fun hc=>?_|refine kZ (fun hc=>?_) fun hc=>?_|fail)
      refine OW_EV (EV_indexAddr0 (j := i) (len := m) rfl rfl rfl (by omega)) rfl ?_
      (repeat' first|refine kW ?_|refine kU fun bk=>?_|refine kV fun hc=>?_|refine kZ (fun hc=>?_) fun hc=>?_|fail)
      refine OW_storeTo (l := vecV m fun _ => 0) (vecV m fun j => if j = i then 1 else 0) rfl rfl rfl (by rw [Nat.mul_one]; have := vecV_set (m := m) (g := fun _ => 0) (h := fun j => if j = i then 1 else 0) (i := i) (by omega) (fun j hj => by simp [hj]); simpa using this) iU (by rw [vecV_length]; omega) ?_
      (repeat' first|refine kW ?_|refine kU fun bk=>?_|refine kV fun hc=>?_|refine kZ (fun hc=>?_) fun hc=>?_|fail)
      refine OW_EV (EV_indexAddr (j := i) rfl rfl rfl (by omega)) rfl ?_
      (repeat' first|refine kW ?_|refine kU fun bk=>?_|refine kV fun hc=>?_|refine kZ (fun hc=>?_) fun hc=>?_|fail)
      refine OW_EV (EV_load rfl hfn.there.there.there hcell) rfl ?_
      (repeat' first|refine kW ?_|refine kU fun bk=>?_|refine kV fun hc=>?_|refine kZ (fun hc=>?_) fun hc=>?_|fail)
      refine OW_buildSlice (cs := coinsC [(x, .slice (some ⟨bn, 0, none⟩) m m)]) rfl (by rfl) (by simp [fillL, patch, Value.cells, zeros]; rfl) (by omega) rfl rfl (fun bk => ?_)
      (repeat' first|refine kW ?_|refine kU fun bk=>?_|refine kV fun hc=>?_|refine kZ (fun hc=>?_) fun hc=>?_|fail)
      refine OW_append rfl rfl hO (sl_cells (k := 2) (c := (coinsC [(x, .slice (some ⟨bn, 0, none⟩) m m)]).toArray) (xs := coinsC [(x, .slice (some ⟨bn, 0, none⟩) m m)]) (m := 1) Fnd.here rfl (by simp)) (by repeat (first | exact Zip.here _ | apply Zip.there)) (by rfl) (coinsC_ones rfl) (by omega) (by simp [maxLen]; omega) rfl (fun v' C' ho2 h1 h2 => ?_)
      rw [← coinsC_app] at ho2
      (repeat' first|refine kW ?_|refine kU fun bk=>?_|refine kV fun hc=>?_|refine kZ (fun hc=>?_) fun hc=>?_|fail)
      refine WQ_round (X := Nat × Value × List (Nat × Value) × Chunk × Chunk) (μ := fun x => m - x.1) (x := (i, v, ks, C, I)) (i + 1, v', ks ++ [(x, .slice (some ⟨bn, 0, none⟩) m m)], C', [(bn, cl (vecV m fun j => if j = i then 1 else 0) 3)] ++ I) (by simp only; omega)
        ⟨by simp only; omega, by simp only; rw [List.length_append]; exact ho2, fun y hy => ?_, ?_⟩ (by simp only [List.length_append, List.length_cons, List.length_nil, Nat.zero_add]; exact iS) (fun w h => hold_join.2 (iH h))
      · simp only at hy ⊢
        rcases List.mem_append.1 hy with hy | hy
        · exact (hG y hy).more
        · simp only [List.mem_singleton] at hy
          subst hy
          refine ⟨fun j => if j = i then 1 else 0, ?_, ?_, fun j => by simp only; split <;> omega⟩
          · exact sl_part (fun z hz => List.mem_append_left _ hz) (vecV_sl (L := []))
          · simp only
            rw [dotN_unit cs (by omega), ← hx]
      · simp only
        rw [List.map_append, hws, htk, List.filter_append]
        have hx0 : 0 < x := by omega
        simp [hx0]
    · have hx0 : x = 0 := by omega
      refine WQ_round (X := Nat × Value × List (Nat × Value) × Chunk × Chunk) (μ := fun x => m - x.1) (x := (i, v, ks, C, I)) (i + 1, v, ks, C, I) (by simp only; omega) ⟨by simp only; omega, hO, hG, ?_⟩ iS (fun w h => iH h)
      simp only
      rw [hws, htk, List.filter_append, hx0]
      simp
  · have him : i = m := by omega
    rw [him, hm, List.take_length] at hws
    have hn : (cs.filter fun z => decide (0 < z)).length = ks.length := by rw [← hws, List.length_map]
    have hans : leastN cs most = dotN cs m fun _ => 1 := by
      unfold leastN
      simp only
      rw [if_pos (by omega)]
      have key : ∀ l : List Nat, (l.filter fun z => decide (0 < z)).sum = dotN l l.length fun _ => 1 := by
        intro l
        have h2 : ∀ l : List Nat, (l.filter fun z => decide (0 < z)).sum = l.sum := by
          intro l
          induction l with
          | nil => rfl
          | cons x r ih =>
            by_cases hx : 0 < x
            · simp [List.filter_cons, hx, ih]
            · have : x = 0 := by omega
              subst this
              simp [List.filter_cons, ih]
        rw [h2]
        have h3 : ∀ t, t ≤ l.length → (l.take t).sum = dotN l t fun _ => 1 := by
          intro t
          induction t with
          | zero => intro _; rfl
          | succ t ih =>
            intro ht
            rw [List.take_add_one, List.getElem?_eq_getElem (by omega), List.sum_append, ih (by omega)]
            simp [dotN, sumTo, List.getD, show t < l.length by omega]
        have := h3 l.length (Nat.le_refl _)
        rwa [List.take_length] at this
      rw [key, hm]
    rw [hans]
    refine OW_makeSlice (m := m) (c := m) rfl rfl (by rfl) (by omega) (by omega) (by omega) rfl (fun bn => ?_)
    rw [show zeros (Value.int .i64 0).cells.toList m = vecV m fun _ => 0 from vecV_zero _]
    (repeat' first|refine kW ?_|refine kU fun bk=>?_|refine kV fun hc=>?_|refine kZ (fun hc=>?_) fun hc=>?_|fail)
    refine WC_loop (X := Nat) (fun j => [(0, .slice a0 m c0), (9, .slice (some ⟨bn, 0, none⟩) m m), (10, .int .i64 (j : Int))]) (fun j => [(bn, cl (vecV m fun t => if t < j then 1 else 0) 3)] :: L) (fun j => j ≤ m) (fun j => m - j) 0 (Nat.zero_le _) iS
      (fun w h => by rw [show (vecV m fun t => if t < 0 then 1 else 0) = vecV m fun _ => 0 from vecV_congr (fun j hj => by simp)]; exact iH h) ?_
    intro j hj
    (repeat' first|refine kW ?_|refine kU fun bk=>?_|refine kV fun hc=>?_|refine kZ (fun hc=>?_) fun hc=>?_|fail)
    · have hjm : j < m := by omega
      refine OW_EV (EV_indexAddr0 (j := j) (len := m) rfl rfl rfl hjm) rfl ?_
      (repeat' first|refine kW ?_|refine kU fun bk=>?_|refine kV fun hc=>?_|refine kZ (fun hc=>?_) fun hc=>?_|fail)
      refine OW_storeTo (l := vecV m fun t => if t < j then 1 else 0) (vecV m fun t => if t < j + 1 then 1 else 0) rfl rfl rfl (by rw [Nat.mul_one]; have := vecV_set (m := m) (g := fun t => if t < j then 1 else 0) (h := fun t => if t < j + 1 then 1 else 0) (i := j) hjm (fun t ht => by by_cases h1 : t < j; rw [if_pos h1, if_pos (by omega)]; rw [if_neg h1, if_neg (by omega)]); simpa using this) iU (by rw [vecV_length]; omega) ?_
      (repeat' first|refine kW ?_|refine kU fun bk=>?_|refine kV fun hc=>?_|refine kZ (fun hc=>?_) fun hc=>?_|fail)
      refine WQ_round (X := Nat) (μ := fun j => m - j) (x := j) (j + 1) (by omega) (by omega) iS (fun w h => h)
    · have hjm : j = m := by omega
      subst hjm
      rw [show (vecV j fun t => if t < j then 1 else 0) = vecV j fun _ => 1 from vecV_congr fun t ht => by rw [if_pos ht]]
      refine OW_callP rfl rfl rfl (cost_v a0 (some ⟨bn, 0, none⟩) c0 j j cs (fun _ => 1) _ hm (sl_there h) vecV_sl (by omega) (fun i => Nat.le_trans (hcB i) (by decide)) (fun i => by decide)) rfl ?_
      (repeat' first|refine kW ?_|refine kU fun bk=>?_|refine kV fun hc=>?_|refine kZ (fun hc=>?_) fun hc=>?_|fail)
      exact kE
  · have him : i = m := by omega
    rw [him, hm, List.take_length] at hws
    obtain ⟨ws, hwsd⟩ : ∃ ws, ws = ks.map Prod.fst := ⟨_, rfl⟩
    have hwl : ws.length = ks.length := by rw [hwsd, List.length_map]
    have hn2 : 2 ≤ ks.length := by omega
    have hn12 : ks.length ≤ 12 := by omega
    have hans : leastN cs most = ((lwR ws most).take (2 * ks.length - 2)).sum := by
      unfold leastN
      simp only
      rw [← hws, ← hwsd, hwl, if_neg (by omega)]
    rw [hans]
    obtain ⟨va, vc, rfl⟩ := ow_slc hO
    refine WC_holds' (L' := [] :: C :: I :: L) (fun w h => Holds.nil.2 h) ?_
    refine WC_loop (X := Nat × Value × List (Nat × Value) × Chunk × Chunk) (fun x => [(0, .slice a0 m c0), (1, .int .i64 (most : Int)), (5, .slice va ks.length vc), (6, .int .i64 (ks.length : Int)), (11, x.2.1), (12, .int .i64 (x.1 : Int))]) (fun x => x.2.2.2.1 :: C :: x.2.2.2.2 :: L)
      (fun x => x.1 < most ∧ Ow 88 2 x.2.1 x.2.2.1.length (coinsC x.2.2.1) x.2.2.2.1 ∧ (∀ y ∈ ks, Gd cs m x.2.2.2.2 1 y) ∧ (∀ y ∈ x.2.2.1, Gd cs m x.2.2.2.2 (2 ^ x.1) y) ∧ x.2.2.1.map Prod.fst = psum (lwR ws x.1) ∧ x.2.2.1.length ≤ 12) (fun x => most - x.1) (0, .slice none 0 0, [], [], I)
      ⟨by simp only; omega, .inl ⟨rfl, rfl, rfl, rfl⟩, hG, fun y hy => by simp at hy, rfl, by simp⟩ iS (fun w h => h) ?_
    rintro ⟨k, lv, lk, Cl, I2⟩ ⟨hk, hOl, hGk, hGl, hlw, hll⟩
    simp only at hk hOl hGk hGl hlw hll ⊢
    have hp2 : 1 ≤ 2 ^ k := Nat.pow_pos (by decide)
    have hp14 : 2 ^ k ≤ 2 ^ 14 := Nat.pow_le_pow_right (by decide) (by omega)
    have hones : onesC (ks ++ lk) = true := by
      have h1 := Gd.ones hGk
      have h2 := Gd.ones hGl
      simp only [onesC, List.all_append, Bool.and_eq_true] at *
      exact ⟨h1, h2⟩
    (repeat' first|refine kW ?_|refine kU fun bk=>?_|refine kV fun hc=>?_|refine kZ (fun hc=>?_) fun hc=>?_|fail)
    refine OW_buildSlice (cs := []) rfl (by rfl) (by simp [fillL, zeros]) (by omega) rfl rfl (fun be => ?_)
    (repeat' first|refine kW ?_|refine kU fun bk=>?_|refine kV fun hc=>?_|refine kZ (fun hc=>?_) fun hc=>?_|fail)
    refine OW_append rfl rfl (m := 0) (xs := []) (C := [(be, cl [] 88)]) (.inr ⟨be, 0, [], rfl, rfl, rfl, rfl, Nat.le_refl _, by simp [maxLen]⟩) (c := ks.length) (ys := coinsC ks) (ow_in hO (L' := [(be, cl [] 88)] :: Cl :: I2 :: L) (by repeat (first | exact Take.here | apply Take.there))) (by repeat (first | exact Zip.here _ | apply Zip.there)) (by rfl) (coinsC_ones (Gd.ones hGk)) (by omega) (by simp [maxLen]; omega) rfl (fun v1 D1 hd1 _ _ => ?_)
    rw [List.nil_append, Nat.zero_add] at hd1
    (repeat' first|refine kW ?_|refine kU fun bk=>?_|refine kV fun hc=>?_|refine kZ (fun hc=>?_) fun hc=>?_|fail)
    refine OW_append rfl rfl hd1 (c := lk.length) (ys := coinsC lk) (ow_in hOl (L' := D1 :: C :: I2 :: L) (by repeat (first | exact Take.here | apply Take.there))) (by repeat (first | exact Zip.here _ | apply Zip.there)) (by rfl) (coinsC_ones (Gd.ones hGl)) (by omega) (by simp [maxLen]; omega) rfl (fun v2 D2 hd2 _ _ => ?_)
    rw [← coinsC_app, ← List.length_append] at hd2
    obtain ⟨da, dc, rfl⟩ := ow_slc hd2
    have hRl24 : (ks ++ lk).length ≤ 24 := by rw [List.length_append]; omega
    (repeat' first|refine kW ?_|refine kU fun bk=>?_|refine kV fun hc=>?_|refine kZ (fun hc=>?_) fun hc=>?_|fail)
    refine OW_call rfl rfl rfl (sorted_n da dc (ks ++ lk) _ (ow_sl hd2) hones (by omega)) rfl (fun r L' hp => ?_)
    obtain ⟨R, CR, hRp, hRs, rfl, hOR⟩ := hp
    rw [← hRp.length_eq] at hOR hRl24
    obtain ⟨ra, rc, rfl⟩ := ow_slc hOR
    have hRw : R.map Prod.fst = lwR ws (k + 1) := by
      refine lwR_eq (List.pairwise_map.2 hRs) ?_
      have := hRp.map Prod.fst
      rw [List.map_append, hlw, ← hwsd] at this
      exact this
    have hGR : ∀ y ∈ R, Gd cs m I2 (2 ^ k) y := fun y hy => by
      rcases List.mem_append.1 (hRp.mem_iff.1 hy) with hy | hy
      · exact (hGk y hy).mono hp2
      · exact hGl y hy
    have hRc : Sl [CR] 2 (.slice ra R.length rc) R.length (coinsC R) := ow_sl hOR
    have hRR : ∀ (i : Nat) (y : Nat × Value), R[i]? = some y → (lwR ws (k + 1))[i]? = some y.1 := fun i y hy => by rw [← hRw]; simp [hy]
    have hRwl : (lwR ws (k + 1)).length = R.length := by rw [← hRw, List.length_map]
    (repeat' first|refine kW ?_|refine kU fun bk=>?_|refine kV fun hc=>?_|refine kZ (fun hc=>?_) fun hc=>?_|fail)
    · -- the last level
      have hkm : k + 1 = most := by omega
      refine OW_makeSlice (m := m) (c := m) rfl rfl (by rfl) (by omega) (by omega) (by omega) rfl (fun bl => ?_)
      rw [show zeros (Value.int .i64 0).cells.toList m = vecV m fun _ => 0 from vecV_zero _]
      (repeat' first|refine kW ?_|refine kU fun bk=>?_|refine kV fun hc=>?_|refine kZ (fun hc=>?_) fun hc=>?_|fail)
      refine WC_loop (X := Nat × (Nat → Nat)) (fun x => [(0, .slice a0 m c0), (6, .int .i64 (ks.length : Int)), (11, .slice ra R.length rc), (17, .slice (some ⟨bl, 0, none⟩) m m), (18, .int .i64 (x.1 : Int))]) (fun x => [(bl, cl (vecV m x.2) 3)] :: CR :: I2 :: L)
        (fun x => x.1 ≤ 2 * ks.length - 2 ∧ x.1 ≤ R.length ∧ dotN cs m x.2 = ((lwR ws (k + 1)).take x.1).sum ∧ ∀ j, x.2 j ≤ x.1 * 16384) (fun x => 24 - x.1) (0, fun _ => 0) ⟨Nat.zero_le _, Nat.zero_le _, dotN_zero cs m, fun j => Nat.zero_le _⟩ iS (fun w h => iH h) ?_
      rintro ⟨i, acc⟩ ⟨hi1, hi2, hdot, hacc⟩
      simp only at hi1 hi2 hdot hacc ⊢
      (repeat' first|refine kW ?_|refine kU fun bk=>?_|refine kV fun hc=>?_|refine kZ (fun hc=>?_) fun hc=>?_|fail)
      · have hiR : i < R.length := by omega
        obtain ⟨y, hy⟩ : ∃ y, R[i]? = some y := ⟨R[i], by simp [hiR]⟩
        obtain ⟨b, off, cap, cc, T, fr, hve, hfn, hcy, _, hcy2⟩ := sl_coin hRc hy
        injection hve with q1 q2 q3
        subst q1 q3
        clear q2
        have hfm := fnd_mem hfn
        obtain ⟨g, hgs, hgw, hgb⟩ := hGR y (List.mem_of_getElem? hy)
        have hyl := hRR i y hy
        refine WC_loop (X := Nat) (fun j => [(0, .slice a0 m c0), (6, .int .i64 (ks.length : Int)), (11, .slice (some ⟨b, off, none⟩) R.length rc), (17, .slice (some ⟨bl, 0, none⟩) m m), (18, .int .i64 (i : Int)), (19, .int .i64 (j : Int))]) (fun j => [(bl, cl (vecV m fun t => if t < j then acc t + g t else acc t) 3)] :: CR :: I2 :: L) (fun j => j ≤ m) (fun j => m - j) 0 (Nat.zero_le _) iS
          (fun w h => by rw [show (vecV m fun t => if t < 0 then acc t + g t else acc t) = vecV m acc from vecV_congr (fun j hj => by simp)]; exact h) ?_
        intro j hj
        (repeat' first|refine kW ?_|refine kU fun bk=>?_|refine kV fun hc=>?_|refine kZ (fun hc=>?_) fun hc=>?_|fail)
        · have hjm : j < m := by omega
          obtain ⟨b', off', cap', cc', T', fr', hve, hfn', hcg⟩ := in_at hgs hjm
          obtain ⟨yw, yv⟩ := y
          simp only at hve hcy2
          subst hve
          have ha1 := hacc j
          have hg1 := hgb j
          have hown : (vecV m fun t => if t < j then acc t + g t else acc t).toArray[j * 1]? = some (.int .i64 (acc j : Int)) := by
            rw [Nat.mul_one, List.getElem?_toArray, vecV_get hjm, if_neg (by omega)]
          refine WC_drawAll [16] mixed ?_
          (refine WR_t 0 ?_; refine WR_t 1 ?_; refine WR_t 2 ?_; refine WR_t 3 ?_)
          (refine WR_take 4 rfl rfl (by kernel_rfl) iP iC (EV_indexAddr0 (j := j) (len := m) rfl rfl rfl hjm) (by rfl) ?_)
          (refine WR_take 5 rfl rfl (by kernel_rfl) iP iC (EV_load rfl Fnd.here hown) (by rfl) ?_)
          (refine WR_t 6 ?_; refine WR_t 7 ?_)
          (refine WR_take 8 rfl rfl (by kernel_rfl) iP iC (EV_indexAddr (j := i) rfl rfl rfl hiR) (by rfl) ?_)
          (refine WR_t 9 ?_)
          (refine WR_take 10 rfl rfl (by kernel_rfl) iP iC (EV_load rfl (Fnd.there (Fnd.mem hfm)) hcy2) (by rfl) ?_)
          (refine WR_t 11 ?_)
          (refine WR_take 12 rfl rfl (by kernel_rfl) iP iC (EV_indexAddr (j := j) rfl rfl rfl hjm) (by rfl) ?_)
          (refine WR_take 13 rfl rfl (by kernel_rfl) iP iC (EV_load rfl (Fnd.there (Fnd.there (Fnd.mem hfn'))) hcg) (by rfl) ?_)
          (refine WR_t 14 ?_)
          (refine WR_take 15 rfl rfl (by kernel_rfl) iP iC (EV_indexAddr0 (j := j) (len := m) rfl rfl rfl hjm) (by rfl) ?_)
          (refine WR_last 16 (by kernel_rfl) rfl rfl rfl ?_)
          rw [show (acc j : Int) + (g j : Int) = ((acc j + g j : Nat) : Int) from by omega]
          refine OW_storeTo (l := vecV m fun t => if t < j then acc t + g t else acc t) (vecV m fun t => if t < j + 1 then acc t + g t else acc t) rfl rfl rfl (by rw [Nat.mul_one]; have := vecV_set (m := m) (g := fun t => if t < j then acc t + g t else acc t) (h := fun t => if t < j + 1 then acc t + g t else acc t) (i := j) hjm (fun t ht => by by_cases h1 : t < j; rw [if_pos h1, if_pos (by omega)]; rw [if_neg h1, if_neg (by omega)]); simpa using this) iU (by rw [vecV_length]; omega) ?_
          (refine WR_done (by kernel_rfl) ?_)
          (repeat' first|refine kW ?_|refine kU fun bk=>?_|refine kV fun hc=>?_|refine kZ (fun hc=>?_) fun hc=>?_|fail)
          refine WQ_round (X := Nat) (μ := fun j => m - j) (x := j) (j + 1) (by omega) (by omega) iS (fun w h => h)
        · have hjm : j = m := by omega
          rw [hjm, show (vecV m fun t => if t < m then acc t + g t else acc t) = vecV m fun t => acc t + g t from vecV_congr fun t ht => by rw [if_pos ht]]
          refine WQ_round (X := Nat × (Nat → Nat)) (μ := fun x => 24 - x.1) (x := (i, acc)) (i + 1, fun t => acc t + g t) (by simp only; omega) ⟨by simp only; omega, by simp only; omega, ?_, fun t => ?_⟩ iS (fun w h => h)
          · simp only
            rw [dotN_add, hdot, ← hgw, List.take_add_one, hyl]
            simp
          · have := hacc t
            have := hgb t
            simp only
            omega
      all_goals
        have hie : ((lwR ws (k + 1)).take i).sum = ((lwR ws most).take (2 * ks.length - 2)).sum := by
          rw [← hkm]
          rcases Nat.lt_or_ge i (2 * ks.length - 2) with hlt | hge
          · have hiR : i = (lwR ws (k + 1)).length := by omega
            rw [List.take_of_length_le (by omega), List.take_of_length_le (by omega)]
          · rw [show i = 2 * ks.length - 2 from by omega]
        refine OW_callP rfl rfl rfl (cost_v a0 (some ⟨bl, 0, none⟩) c0 m m cs acc _ hm (sl_there (sl_there (sl_there h))) vecV_sl (by omega) (fun i => Nat.le_trans (hcB i) (by decide)) (fun t => by have := hacc t; omega)) rfl ?_
        rw [hdot, hie]
        (repeat' first|refine kW ?_|refine kU fun bk=>?_|refine kV fun hc=>?_|refine kZ (fun hc=>?_) fun hc=>?_|fail)
        exact kE
    · have hp15 : 2 ^ (k + 1) = 2 * 2 ^ k := by rw [Nat.pow_succ, Nat.mul_comm]
      refine WC_holds' (L' := [] :: CR :: C :: I2 :: L) (fun w h => Holds.nil.2 (iH h)) ?_
      refine WC_loop (X := Nat × Value × List (Nat × Value) × Chunk × Chunk) (fun x => [(0, .slice a0 m c0), (1, .int .i64 (most : Int)), (5, .slice va ks.length vc), (6, .int .i64 (ks.length : Int)), (11, x.2.1), (12, .int .i64 (k : Int)), (13, .slice ra R.length rc), (14, .int .i64 ((2 * x.1 : Nat) : Int))]) (fun x => x.2.2.2.1 :: CR :: C :: x.2.2.2.2 :: L)
        (fun x => 2 * x.1 ≤ R.length ∧ Ow 88 2 x.2.1 x.2.2.1.length (coinsC x.2.2.1) x.2.2.2.1 ∧ (∀ y ∈ ks, Gd cs m x.2.2.2.2 1 y) ∧ (∀ y ∈ R, Gd cs m x.2.2.2.2 (2 ^ k) y) ∧ (∀ y ∈ x.2.2.1, Gd cs m x.2.2.2.2 (2 ^ (k + 1)) y) ∧ x.2.2.1.map Prod.fst = psum ((lwR ws (k + 1)).take (2 * x.1))) (fun x => R.length - x.1) (0, .slice none 0 0, [], [], I2)
        ⟨Nat.zero_le _, .inl ⟨rfl, rfl, rfl, rfl⟩, hGk, hGR, fun y hy => by simp at hy, rfl⟩ iS (fun w h => h) ?_
      rintro ⟨p, l4, m4, C4, I4⟩ ⟨hp1, hO4, hK4, hR4, hG4, hW4⟩
      simp only at hp1 hO4 hK4 hR4 hG4 hW4 ⊢
      have hl4 : m4.length = p := by
        have := congrArg List.length hW4
        rw [List.length_map, psum_length, List.length_take, hRwl] at this
        omega
      (repeat' first|refine kW ?_|refine kU fun bk=>?_|refine kV fun hc=>?_|refine kZ (fun hc=>?_) fun hc=>?_|fail)
      · have hi0 : 2 * p < R.length := by omega
        have hi1 : 2 * p + 1 < R.length := by omega
        obtain ⟨y, hy⟩ : ∃ y, R[2 * p]? = some y := ⟨R[2 * p], by simp [hi0]⟩
        obtain ⟨z, hz⟩ : ∃ z, R[2 * p + 1]? = some z := ⟨R[2 * p + 1], by simp [hi1]⟩
        obtain ⟨b, off, cap, cc, T, fr, hve, hfn, hcy, _, hcy2⟩ := sl_coin hRc hy
        injection hve with q1 q2 q3
        subst q1 q3
        clear q2
        obtain ⟨b', off', cap', cc', T', fr', hve, hfn', hcz, _, hcz2⟩ := sl_coin hRc hz
        injection hve with q1 q2 q3
        injection q1 with q1
        injection q1 with q1 q4 _
        subst q1 q4
        clear q2 q3
        have hfm := fnd_mem hfn
        have hfm' := fnd_mem hfn'
        obtain ⟨ga, hgas, hgaw, hgab⟩ := hR4 y (List.mem_of_getElem? hy)
        obtain ⟨gb, hgbs, hgbw, hgbb⟩ := hR4 z (List.mem_of_getElem? hz)
        have hyl := hRR _ y hy
        have hzl := hRR _ z hz
        have hyw : y.1 ≤ m * (1073741824 * 2 ^ k) := by rw [hgaw]; exact dotN_le hcB hgab
        have hzw : z.1 ≤ m * (1073741824 * 2 ^ k) := by rw [hgbw]; exact dotN_le hcB hgbb
        have hbig : m * (1073741824 * 2 ^ k) ≤ 12 * (1073741824 * 2 ^ 14) := Nat.mul_le_mul hl (Nat.mul_le_mul_left _ hp14)
        refine OW_makeSlice (m := m) (c := m) rfl rfl (by rfl) (by omega) (by omega) (by omega) rfl (fun bn => ?_)
        rw [show zeros (Value.int .i64 0).cells.toList m = vecV m fun _ => 0 from vecV_zero _]
        (repeat' first|refine kW ?_|refine kU fun bk=>?_|refine kV fun hc=>?_|refine kZ (fun hc=>?_) fun hc=>?_|fail)
        refine WC_loop (X := Nat) (fun j => [(0, .slice a0 m c0), (1, .int .i64 (most : Int)), (5, .slice va ks.length vc), (6, .int .i64 (ks.length : Int)), (11, l4), (12, .int .i64 (k : Int)), (13, .slice (some ⟨b, off, none⟩) R.length rc), (14, .int .i64 ((2 * p : Nat) : Int)), (15, .slice (some ⟨bn, 0, none⟩) m m), (16, .int .i64 (j : Int))])
          (fun j => [(bn, cl (vecV m fun t => if t < j then ga t + gb t else 0) 3)] :: C4 :: CR :: C :: I4 :: L) (fun j => j ≤ m) (fun j => m - j) 0 (Nat.zero_le _) iS
          (fun w h => by rw [show (vecV m fun t => if t < 0 then ga t + gb t else 0) = vecV m fun _ => 0 from vecV_congr (fun j hj => by simp)]; exact h) ?_
        intro j hj
        (repeat' first|refine kW ?_|refine kU fun bk=>?_|refine kV fun hc=>?_|refine kZ (fun hc=>?_) fun hc=>?_|fail)
        · have hjm : j < m := by omega
          obtain ⟨yw, yv⟩ := y
          obtain ⟨zw, zv⟩ := z
          obtain ⟨b1, off1, cap1, cc1, T1, fr1, hve1, hfn1, hcg1⟩ := in_at hgas hjm
          obtain ⟨b2, off2, cap2, cc2, T2, fr2, hve2, hfn2, hcg2⟩ := in_at hgbs hjm
          simp only at hve1 hve2 hcy2 hcz2
          subst hve1 hve2
          have ha1 := hgab j
          have hg1 := hgbb j
          refine WC_drawAll [21] mixed ?_
          (refine WR_t 0 ?_; refine WR_t 1 ?_; refine WR_t 2 ?_; refine WR_t 3 ?_)
          (refine WR_take 4 rfl rfl (by kernel_rfl) iP iC (EV_indexAddr (j := 2 * p) rfl rfl rfl hi0) (by rfl) ?_)
          (refine WR_t 5 ?_)
          (refine WR_take 6 rfl rfl (by kernel_rfl) iP iC (EV_load rfl (Fnd.there (Fnd.there (Fnd.mem hfm))) hcy2) (by rfl) ?_)
          (refine WR_t 7 ?_)
          (refine WR_take 8 rfl rfl (by kernel_rfl) iP iC (EV_indexAddr (j := j) rfl rfl rfl hjm) (by rfl) ?_)
          (refine WR_take 9 rfl rfl (by kernel_rfl) iP iC (EV_load rfl (Fnd.there (Fnd.there (Fnd.there (Fnd.there (Fnd.mem hfn1))))) hcg1) (by rfl) ?_)
          (refine WR_t 10 ?_; refine WR_t 11 ?_; refine WR_t 12 ?_)
          (refine WR_take 13 rfl rfl (by kernel_rfl) iP iC (EV_indexAddr (j := 2 * p + 1) rfl rfl (by omega) hi1) (by rfl) ?_)
          (refine WR_t 14 ?_)
          (refine WR_take 15 rfl rfl (by kernel_rfl) iP iC (EV_load rfl (Fnd.there (Fnd.there (Fnd.mem hfm'))) hcz2) (by rfl) ?_)
          (refine WR_t 16 ?_)
          (refine WR_take 17 rfl rfl (by kernel_rfl) iP iC (EV_indexAddr (j := j) rfl rfl rfl hjm) (by rfl) ?_)
          (refine WR_take 18 rfl rfl (by kernel_rfl) iP iC (EV_load rfl (Fnd.there (Fnd.there (Fnd.there (Fnd.there (Fnd.mem hfn2))))) hcg2) (by rfl) ?_)
          (refine WR_t 19 ?_)
          (refine WR_take 20 rfl rfl (by kernel_rfl) iP iC (EV_indexAddr0 (j := j) (len := m) rfl rfl rfl hjm) (by rfl) ?_)
          (refine WR_last 21 (by kernel_rfl) rfl rfl rfl ?_)
          rw [show (ga j : Int) + (gb j : Int) = ((ga j + gb j : Nat) : Int) from by omega]
          refine OW_storeTo (l := vecV m fun t => if t < j then ga t + gb t else 0) (vecV m fun t => if t < j + 1 then ga t + gb t else 0) rfl rfl rfl (by rw [Nat.mul_one]; have := vecV_set (m := m) (g := fun t => if t < j then ga t + gb t else 0) (h := fun t => if t < j + 1 then ga t + gb t else 0) (i := j) hjm (fun t ht => by by_cases h1 : t < j; rw [if_pos h1, if_pos (by omega)]; rw [if_neg h1, if_neg (by omega)]); simpa using this) iU (by rw [vecV_length]; omega) ?_
          (refine WR_done (by kernel_rfl) ?_)
          (repeat' first|refine kW ?_|refine kU fun bk=>?_|refine kV fun hc=>?_|refine kZ (fun hc=>?_) fun hc=>?_|fail)
          refine WQ_round (X := Nat) (μ := fun j => m - j) (x := j) (j + 1) (by omega) (by omega) iS (fun w h => h)
        · have hjm : j = m := by omega
          rw [hjm, show (vecV m fun t => if t < m then ga t + gb t else 0) = vecV m fun t => ga t + gb t from vecV_congr fun t ht => by rw [if_pos ht]]
          refine WC_draw [CR] [] mixed ?_
          (refine WR_t 0 ?_; refine WR_t 1 ?_; refine WR_t 2 ?_)
          (refine WR_take 3 rfl rfl (by kernel_rfl) iP iC (EV_indexAddr (j := 2 * p) rfl rfl rfl hi0) (by rfl) ?_)
          (refine WR_t 4 ?_)
          (refine WR_take 5 rfl rfl (by kernel_rfl) iP iC (EV_load rfl (Fnd.mem hfm) hcy) (by rfl) ?_)
          (refine WR_t 6 ?_; refine WR_t 7 ?_; refine WR_t 8 ?_)
          (refine WR_take 9 rfl rfl (by kernel_rfl) iP iC (EV_indexAddr (j := 2 * p + 1) rfl rfl (by omega) hi1) (by rfl) ?_)
          (refine WR_t 10 ?_)
          (refine WR_take 11 rfl rfl (by kernel_rfl) iP iC (EV_load rfl (Fnd.mem hfm') hcz) (by rfl) ?_)
          (refine WR_t 12 ?_)
          rw [show (y.1 : Int) + (z.1 : Int) = ((y.1 + z.1 : Nat) : Int) from by omega]
          (refine WR_t 13 ?_; refine WR_t 14 ?_)
          (refine WR_one 15 (by kernel_rfl) rfl rfl ?_)
          refine OW_buildSlice (cs := coinsC [(y.1 + z.1, .slice (some ⟨bn, 0, none⟩) m m)]) rfl (by rfl) (by simp [fillL, patch, Value.cells, zeros]; rfl) (by omega) rfl rfl (fun bk => ?_)
          refine ⟨iC, ?_⟩
          (refine WR_one 16 (by kernel_rfl) rfl rfl ?_)
          refine OW_append rfl rfl hO4 (sl_cells (k := 2) (c := (coinsC [(y.1 + z.1, .slice (some ⟨bn, 0, none⟩) m m)]).toArray) (xs := coinsC [(y.1 + z.1, .slice (some ⟨bn, 0, none⟩) m m)]) (m := 1) Fnd.here rfl (by simp)) (by repeat (first | exact Zip.here _ | apply Zip.there)) (by rfl) (coinsC_ones rfl) (by omega) (by simp [maxLen]; omega) rfl (fun v' C' ho2 h1 h2 => ?_)
          rw [← coinsC_app] at ho2
          refine ⟨iC, ?_⟩
          (refine WR_t 17 ?_)
          (refine WR_done (by kernel_rfl) ?_)
          (repeat' first|refine kW ?_|refine kU fun bk=>?_|refine kV fun hc=>?_|refine kZ (fun hc=>?_) fun hc=>?_|fail)
          rw [show ((2 * p : Nat) : Int) + 2 = ((2 * (p + 1) : Nat) : Int) from by omega]
          refine WQ_round (X := Nat × Value × List (Nat × Value) × Chunk × Chunk) (μ := fun x => R.length - x.1) (x := (p, l4, m4, C4, I4)) (p + 1, v', m4 ++ [(y.1 + z.1, .slice (some ⟨bn, 0, none⟩) m m)], C', [(bn, cl (vecV m fun t => ga t + gb t) 3)] ++ I4) (by simp only; omega)
            ⟨by simp only; omega, by simp only; rw [List.length_append]; exact ho2, fun u hu => (hK4 u hu).more, fun u hu => (hR4 u hu).more, fun u hu => ?_, ?_⟩ iS (fun w h => hold_join3.2 (iH h))
          · simp only at hu ⊢
            rcases List.mem_append.1 hu with hu | hu
            · exact (hG4 u hu).more
            · simp only [List.mem_singleton] at hu
              subst hu
              refine ⟨fun t => ga t + gb t, sl_part (fun q hq => List.mem_append_left _ hq) (vecV_sl (L := [])), ?_, fun t => ?_⟩
              · simp only
                rw [dotN_add, hgaw, hgbw]
              · have := hgab t
                have := hgbb t
                simp only
                omega
          · simp only
            rw [List.map_append, hW4, psum_snoc hyl hzl]
            rfl
      · have hps := psum_take (l := lwR ws (k + 1)) (p := p) (by omega) (by omega)
        rw [hps] at hW4
        refine WQ_round (X := Nat × Value × List (Nat × Value) × Chunk × Chunk) (μ := fun x => most - x.1) (x := (k, lv, lk, Cl, I2)) (k + 1, l4, m4, C4, I4) (by simp only; omega) ⟨by simp only; omega, hO4, hK4, hG4, hW4, by simp only; omega⟩ iS (fun w h => iH h)
end Go.Proofs.Ytbdpjbmfhnbheaa
namespace Go.Proofs.Ytbdpjbmfhnbheaa
open Go Go.Vx Go.So Go.Hf Go.Pm
variable [W0]
set_option maxRecDepth 4000
set_option linter.all false
theorem LenOf.least {cs lens : List Nat} {M : Nat} (h : LenOf cs M lens) : costN cs lens cs.length = leastN cs M := by
  have hoff := h.off
  have hnC := h.nC
  obtain ⟨N, g, hN, hcn, hNM, hone, htwo⟩ := h.ex
  have hws := hcn.ws rfl
  rw [← hN] at hnC
  unfold costN
  rw [hcn.sum (G := fun i => cs.getD i 0 * lens.getD i 0) (fun i _ h0 => by simp only [h0, Nat.zero_mul])]
  unfold leastN
  simp only [hnC]
  by_cases h2 : 2 ≤ N
  · rw [if_neg (by omega)]
    obtain ⟨lv, hlv, hln⟩ := htwo h2
    have hcl := coinsOf_length (fun i => cs.getD i 0) g N
    have hc := cost (cs := coinsOf (fun i => cs.getD i 0) g N) hlv (coin (fun _ => 0) 0) M (2 * N - 2)
    have hsm := Lw.same hlv.lw (lwR_Lw _) (ws' := cs.filter fun x => decide (0 < x)) (by
      have : (coinsOf (fun i => cs.getD i 0) g N).map It.w = (List.range N).map fun r => cs.getD (g r).1 0 := by
        unfold coinsOf; rw [List.map_map]; rfl
      rw [this]; exact hws) M
    rw [← hsm, ← List.map_take]
    rw [hcl] at hc
    show _ = wor _
    rw [← hc]
    refine sumTo_congr fun r hr => ?_
    rw [hln r hr]
    congr 1
    simp only [List.getD, coinsOf_get _ _ hr, Option.getD_some]
    rfl
  · rw [if_pos (by omega), ← hws.sum_nat, ← sumTo_range (fun r => cs.getD (g r).1 0)]
    refine sumTo_congr fun r hr => ?_
    rw [hone (by omega) r hr, Nat.mul_one]
end Go.Proofs.Ytbdpjbmfhnbheaa
namespace Go.Proofs.Ytbdpjbmfhnbheaa
open Go Go.Vx Go.Hf
variable [W0]
set_option maxRecDepth 4000
set_option linter.all false
theorem aw1 : cdE [2, 1, 3, 3] = 0 := by decide
theorem aw2 : cdL [2, 1, 3, 3] = [2, 0, 6, 7] := by decide
theorem aw3 : cdE [1, 1, 1] = 3 := by decide
theorem aw4 : wgt [1, 1] = 32768 := by decide
theorem sm3 (a b c : Nat) : ∀ i, [a, b, c].getD i 0 ≤ a + b + c := by
  intro i
  match i with
  | 0 => simp; omega
  | 1 => simp; omega
  | 2 => simp
  | n + 3 => simp
set_option maxHeartbeats 4000000 in
theorem hawake_n (L : List Chunk) : GvP Try.prog 10 [].toArray L (.bool true) := by
  refine Gv.of_body Try.func10 rfl rfl ?_
  (repeat' first|refine kW ?_|refine kU fun bk=>?_|refine kV fun hc=>?_|refine kZ (fun hc=>?_) fun hc=>?_|fail)
  refine OW_buildSlice (cs := intsN [2, 1, 3, 3]) rfl (by rfl) (by simp [fillL, patch, Value.cells, zeros]; rfl) (by omega) rfl rfl (fun b1 => ?_)
  (repeat' first|refine kW ?_|refine kU fun bk=>?_|refine kV fun hc=>?_|refine kZ (fun hc=>?_) fun hc=>?_|fail)
  refine OW_call rfl rfl rfl (hcodes_n (some ⟨b1, 0, none⟩) 4 [2, 1, 3, 3] _ (sl_cells (c := (intsN [2, 1, 3, 3]).toArray) (xs := intsN [2, 1, 3, 3]) (m := 4) Fnd.here rfl (by simp)) (by decide)) rfl (fun r L' hp => ?_)
  obtain ⟨u1, C1, rfl, rfl, ho1⟩ := hp
  rw [aw2, show [2, 0, 6, 7].length = 4 from rfl] at ho1
  rw [show ((cdE [2, 1, 3, 3] : Nat) : Int) = 0 from by rw [aw1]; rfl]
  (repeat' first|refine kW ?_|refine kU fun bk=>?_|refine kV fun hc=>?_|refine kZ (fun hc=>?_) fun hc=>?_|fail)
  refine OW_buildSlice (cs := intsN [1, 1, 1]) rfl (by rfl) (by simp [fillL, patch, Value.cells, zeros]; rfl) (by omega) rfl rfl (fun b2 => ?_)
  (repeat' first|refine kW ?_|refine kU fun bk=>?_|refine kV fun hc=>?_|refine kZ (fun hc=>?_) fun hc=>?_|fail)
  refine OW_call rfl rfl rfl (hcodes_n (some ⟨b2, 0, none⟩) 3 [1, 1, 1] _ (sl_cells (c := (intsN [1, 1, 1]).toArray) (xs := intsN [1, 1, 1]) (m := 3) Fnd.here rfl (by simp)) (by decide)) rfl (fun r L' hp => ?_)
  obtain ⟨u2, C2, rfl, rfl, ho2⟩ := hp
  rw [show ((cdE [1, 1, 1] : Nat) : Int) = 3 from by rw [aw3]; rfl]
  rcases ho1 with ⟨_, h, _⟩ | ⟨b, cap, rest, rfl, rfl, hxl, hrl, _⟩
  · exact absurd h (by decide)
  (repeat' first|refine kX ?_|refine kU fun bk=>?_|refine kV fun hc=>?_|refine kZ (fun hc=>?_) fun hc=>?_|fail)
  refine OW_buildSlice (cs := intsN [1, 1]) rfl (by rfl) (by simp [fillL, patch, Value.cells, zeros]; rfl) (by omega) rfl rfl (fun b3 => ?_)
  (repeat' first|refine kX ?_|refine kU fun bk=>?_|refine kV fun hc=>?_|refine kZ (fun hc=>?_) fun hc=>?_|fail)
  refine OW_callP rfl rfl rfl (hcomplete_n (some ⟨b3, 0, none⟩) 2 [1, 1] _ (sl_cells (c := (intsN [1, 1]).toArray) (xs := intsN [1, 1]) (m := 2) Fnd.here rfl (by simp)) (by decide)) rfl ?_
  rw [aw4]
  (repeat' first|refine kX ?_|refine kU fun bk=>?_|refine kV fun hc=>?_|refine kZ (fun hc=>?_) fun hc=>?_|fail)
  refine OW_buildSlice (cs := intsN (icn [5, 1, 1])) rfl (by rfl) (by simp [fillL, patch, Value.cells, zeros]; rfl) (by omega) rfl rfl (fun b4 => ?_)
  (repeat' first|refine kX ?_|refine kU fun bk=>?_|refine kV fun hc=>?_|refine kZ (fun hc=>?_) fun hc=>?_|fail)
  refine OW_buildSlice (cs := intsN (icn [1, 2, 2])) rfl (by rfl) (by simp [fillL, patch, Value.cells, zeros]; rfl) (by omega) rfl rfl (fun b5 => ?_)
  (repeat' first|refine kX ?_|refine kU fun bk=>?_|refine kV fun hc=>?_|refine kZ (fun hc=>?_) fun hc=>?_|fail)
  refine OW_callP rfl rfl rfl (hcost_n (some ⟨b4, 0, none⟩) (some ⟨b5, 0, none⟩) 3 3 [5, 1, 1] [1, 2, 2] _ (sl_cells (c := (intsN (icn [5, 1, 1])).toArray) (xs := intsN (icn [5, 1, 1])) (m := 3) (Fnd.there Fnd.here) rfl (by simp)) (sl_cells (c := (intsN (icn [1, 2, 2])).toArray) (xs := intsN (icn [1, 2, 2])) (m := 3) Fnd.here rfl (by simp)) (by decide) (fun i => Nat.le_trans (sm3 5 1 1 i) (by decide)) (fun i => Nat.le_trans (sm3 1 2 2 i) (by decide))) rfl ?_
  rw [show ((costN [5, 1, 1] [1, 2, 2] (min [5, 1, 1].length [1, 2, 2].length) : Nat) : Int) = 9 from by decide]
  (repeat' first|refine kX ?_|refine kU fun bk=>?_|refine kV fun hc=>?_|refine kZ (fun hc=>?_) fun hc=>?_|fail)
  exact kE
end Go.Proofs.Ytbdpjbmfhnbheaa
namespace Go.Vx
set_option linter.all false
theorem Gv.monoH {P : Program} {L : List Chunk} {f : FuncId} {args : Array Value} {post post' : Value → List Chunk → Prop} [W0] (h : Gv P f args L post) (hp : ∀ v L', post v L' → ∃ L'', (∀ w, Holds w L' → Holds w L'') ∧ post' v L'') : Gv P f args L post' :=
  ⟨fun w hw => (h.out w hw).mono fun _ _ he => let ⟨v, L', h1, h2, h3⟩ := he; let ⟨L'', h4, h5⟩ := hp v L' h2; ⟨v, L'', h1, h5, h4 _ h3⟩⟩
end Go.Vx
namespace Go.Proofs.Ytbdpjbmfhnbheaa
open Go Go.Vx Go.So Go.Hf
variable [W0]
set_option maxRecDepth 4000
set_option linter.all false
omit [W0] in
/-- Both answers of Lengths. -/
def Both (ls : List Int) (most : Int) (e m : Nat) (lens : List Nat) : Prop :=
  (errL ls most ∧ e = 1 ∧ m = 0 ∧ lens = []) ∨ (¬ errL ls most ∧ e = 0 ∧ m = ls.length ∧ LenOf (nl ls) most.toNat lens)
theorem lengths_u (a : Option Addr) (c : Nat) (ls : List Int) (most : Int) (L : List Chunk) (h : Sl L 1 (.slice a ls.length c) ls.length (intsN ls)) (hl : ls.length ≤ 17592186044416) :
    Gv Try.prog 9 [.slice a ls.length c, .int .i64 most].toArray L (fun r L' => ∃ (v : Value) (C : Chunk) (e m : Nat) (lens : List Nat), r = .tuple #[v, .int .i64 (e : Int)] ∧ L' = C :: L ∧ Ow 3 1 v m (ivn lens) C ∧ Both ls most e m lens) := by
  refine Gv.monoH (lengths_n a c ls most L h hl) fun v L' hp => ?_
  rcases hp with ⟨he, rfl, rfl⟩ | ⟨hne, lens, v, C, rfl, rfl, ho, hlo⟩
  · exact ⟨[] :: L', fun w h => Holds.nil.2 h, _, [], 1, 0, [], rfl, rfl, .inl ⟨rfl, rfl, rfl, rfl⟩, .inl ⟨he, rfl, rfl, rfl⟩⟩
  · exact ⟨C :: L, fun w h => h, v, C, 0, ls.length, lens, rfl, rfl, ho, .inr ⟨hne, rfl, rfl, hlo⟩⟩
omit [W0] in
/-- Out of bounds, of the first counts. -/
def bdN (ls : List Int) (most : Int) (i : Nat) : Bool := decide (most < 1) || decide (15 < most) || decide (400 < ls.length) || !(ls.take i).all okc
theorem bdN_step {ls : List Int} {most : Int} {i : Nat} (hi : i < ls.length) : bdN ls most (i + 1) = (bdN ls most i || !okc (ls.getD i 0)) := by
  unfold bdN
  rw [List.take_add_one, List.all_append, List.getElem?_eq_getElem hi]
  simp [List.getD, hi, Bool.or_assoc]
theorem bdN_end {ls : List Int} {most : Int} : errL ls most ↔ bdN ls most ls.length = true ∨ (bdN ls most ls.length = false ∧ 2 ^ most.toNat < nC ls) := by
  unfold bdN errL
  rw [List.take_of_length_le (Nat.le_refl _)]
  by_cases h1 : most < 1 <;> by_cases h2 : 15 < most <;> by_cases h3 : 400 < ls.length <;> rcases h4 : ls.all okc with _ | _ <;> simp [h1, h2, h3]
theorem bdN_zero {ls : List Int} {most : Int} (h1 : ¬ most < 1) (h2 : ¬ most > 15) : decide ((ls.length : Int) > 400) = bdN ls most 0 := by
  have h3 : ¬ 15 < most := h2
  have e : ((ls.length : Int) > 400) = (400 < ls.length) := by apply propext; omega
  simp [bdN, h1, h3, e]
set_option maxHeartbeats 16000000 in
theorem leastL_n (a : Option Addr) (c : Nat) (ls : List Int) (most : Int) (L : List Chunk) (h : Sl L 1 (.slice a ls.length c) ls.length (intsN ls)) (hl : ls.length ≤ 17592186044416) :
    GvP Try.prog 6 [.slice a ls.length c, .int .i64 most].toArray L (.bool true) := by
  refine Gv.of_body Try.func6 rfl rfl ?_
  (repeat' first|refine kW ?_|refine kU fun bk=>?_|refine kV fun hc=>?_|refine kZ (fun hc=>?_) fun hc=>?_|fail)
  refine OW_call rfl rfl rfl (lengths_u a c ls most L h hl) rfl (fun r L' hp => ?_)
  obtain ⟨v, C, e, m, lens, rfl, rfl, ho, hB⟩ := hp
  obtain ⟨va, vc, rfl⟩ := ow_slc ho
  (repeat' first|refine kY ?_|refine kU fun bk=>?_|refine kV fun hc=>?_|refine kZ (fun hc=>?_) fun hc=>?_|fail)
  refine WC_seq ?_
  (repeat' first|refine kY ?_|refine kU fun bk=>?_|refine kV fun hc=>?_|refine kZ (fun hc=>?_) fun hc=>?_|fail)
  refine WC_cut (X := Bool) (fun z => [(0, .slice a ls.length c), (1, .int .i64 most), (5, .slice va m vc), (6, .int .i64 (e : Int)), (7, .int .i64 0), (8, .bool z)]) (fun _ => C :: L) (fun z => z = bdN ls most 0) ?_ ?_
  · (repeat' first|refine kW ?_|refine kU fun bk=>?_|refine kV fun hc=>?_|refine kZ (fun hc=>?_) fun hc=>?_|fail)
    · exact WQ_cut true (by simp [bdN, hc]) iS (fun w h => h)
    · exact WQ_cut true (by simp [bdN]; omega) iS (fun w h => h)
    · rename_i h1
      exact WQ_cut (decide ((ls.length : Int) > 400)) (bdN_zero h1 hc) iS (fun w h => h)
  rintro z rfl
  (repeat' first|refine kW ?_|refine kU fun bk=>?_|refine kV fun hc=>?_|refine kZ (fun hc=>?_) fun hc=>?_|fail)
  refine WC_loop (X := Nat) (fun i => [(0, .slice a ls.length c), (1, .int .i64 most), (5, .slice va m vc), (6, .int .i64 (e : Int)), (7, .int .i64 ((pos (nl ls) i).length : Int)), (8, .bool (bdN ls most i)), (9, .int .i64 (i : Int))]) (fun _ => C :: L)
    (fun i => i ≤ ls.length) (fun i => ls.length - i) 0 (Nat.zero_le _) iS (fun w h => h) ?_
  intro i hi
  refine WC_seq ?_
  refine WC_seq ?_
  (repeat' first|refine kY ?_|refine kU fun bk=>?_|refine kV fun hc=>?_|refine kZ (fun hc=>?_) fun hc=>?_|fail)
  · have hlt : i < ls.length := by omega
    obtain ⟨b, off, cap, cc, T, fr, hve, hfn, hcell⟩ := sl_at h (ints_get hlt)
    injection hve with q1 q2 q3
    subst q1 q3
    clear q2
    have hst := bdN_step (most := most) hlt
    have hg := nl_get hlt
    have hpl := pos_le (nl ls) i
    have hps : pos (nl ls) (i + 1) = pos (nl ls) i ++ if 0 < (nl ls).getD i 0 then [(i, (nl ls).getD i 0)] else [] := rfl
    rw [hg] at hps
    obtain ⟨x, hx⟩ : ∃ x, x = ls.getD i 0 := ⟨_, rfl⟩
    rw [← hx] at hst hps hcell
    refine WC_seq ?_
    (repeat' first|refine kY ?_|refine kU fun bk=>?_|refine kV fun hc=>?_|refine kZ (fun hc=>?_) fun hc=>?_|fail)
    refine WC_cut (X := Bool) (fun z => [(0, .slice (some ⟨b, off, none⟩) ls.length c), (1, .int .i64 most), (5, .slice va m vc), (6, .int .i64 (e : Int)), (7, .int .i64 ((pos (nl ls) i).length : Int)), (8, .bool z), (9, .int .i64 (i : Int))]) (fun _ => C :: L) (fun z => z = bdN ls most (i + 1)) ?_ ?_
    · rcases hz : bdN ls most i with _ | _
      · rw [hz, Bool.false_or] at hst
        (repeat' first|refine kW ?_|refine kU fun bk=>?_|refine kV fun hc=>?_|refine kZ (fun hc=>?_) fun hc=>?_|fail)
        refine OW_EV (EV_indexAddr (j := i) rfl rfl rfl hlt) rfl ?_
        (repeat' first|refine kW ?_|refine kU fun bk=>?_|refine kV fun hc=>?_|refine kZ (fun hc=>?_) fun hc=>?_|fail)
        refine OW_EV (EV_load rfl hfn.there hcell) rfl ?_
        (repeat' first|refine kW ?_|refine kU fun bk=>?_|refine kV fun hc=>?_|refine kZ (fun hc=>?_) fun hc=>?_|fail)
        · exact WQ_cut true (by rw [hst]; simp [okc, hc]) iS (fun w h => h)
        refine OW_EV (EV_indexAddr (j := i) rfl rfl rfl hlt) rfl ?_
        (repeat' first|refine kW ?_|refine kU fun bk=>?_|refine kV fun hc=>?_|refine kZ (fun hc=>?_) fun hc=>?_|fail)
        refine OW_EV (EV_load rfl hfn.there hcell) rfl ?_
        (repeat' first|refine kW ?_|refine kU fun bk=>?_|refine kV fun hc=>?_|refine kZ (fun hc=>?_) fun hc=>?_|fail)
        exact WQ_cut (decide (x > 1073741824)) (by rw [hst]; simp [okc, hc]) iS (fun w h => h)
      · rw [hz, Bool.true_or] at hst
        (repeat' first|refine kW ?_|refine kU fun bk=>?_|refine kV fun hc=>?_|refine kZ (fun hc=>?_) fun hc=>?_|fail)
        exact WQ_cut true hst.symm iS (fun w h => h)
    rintro z rfl
    (repeat' first|refine kW ?_|refine kU fun bk=>?_|refine kV fun hc=>?_|refine kZ (fun hc=>?_) fun hc=>?_|fail)
    refine OW_EV (EV_indexAddr (j := i) rfl rfl rfl hlt) rfl ?_
    (repeat' first|refine kW ?_|refine kU fun bk=>?_|refine kV fun hc=>?_|refine kZ (fun hc=>?_) fun hc=>?_|fail)
    refine OW_EV (EV_load rfl hfn.there hcell) rfl ?_
    (repeat' first|refine kW ?_|refine kU fun bk=>?_|refine kV fun hc=>?_|refine kZ (fun hc=>?_) fun hc=>?_|fail)
    · rw [if_pos (by omega)] at hps
      have hp2 : ((pos (nl ls) (i + 1)).length : Int) = ((pos (nl ls) i).length : Int) + 1 := by rw [hps, List.length_append]; simp
      refine WQ_round (X := Nat) (μ := fun i => ls.length - i) (x := i) (i + 1) (by omega) (by omega) ?_ (fun w h => h)
      simp only [hp2]
      exact iS
    · rw [if_neg (by omega), List.append_nil] at hps
      refine WQ_round (X := Nat) (μ := fun i => ls.length - i) (x := i) (i + 1) (by omega) (by omega) ?_ (fun w h => h)
      simp only [hps]
      exact iS
  · have hie : i = ls.length := by omega
    subst hie
    have hend := bdN_end (ls := ls) (most := most)
    have hnC : (pos (nl ls) ls.length).length = nC ls := rfl
    have hnl := nl_length ls
    rw [hnC]
    refine WC_cut (X := Bool) (fun z => [(0, .slice a ls.length c), (1, .int .i64 most), (5, .slice va m vc), (6, .int .i64 (e : Int)), (7, .int .i64 (nC ls : Int)), (8, .bool z)]) (fun _ => C :: L) (fun z => z = true ↔ errL ls most) ?_ ?_
    · rcases hz : bdN ls most ls.length with _ | _
      · rw [hz] at hend
        have hb : ¬ most < 1 ∧ ¬ 15 < most := by
          unfold bdN at hz
          simp at hz
          omega
        obtain ⟨M, rfl⟩ : ∃ M : Nat, most = (M : Int) := ⟨most.toNat, by omega⟩
        rw [Int.toNat_natCast] at hend
        have hp15 : 2 ^ M ≤ 2 ^ 15 := Nat.pow_le_pow_right (by decide) (by omega)
        (repeat' first|refine kW ?_|refine kU fun bk=>?_|refine kV fun hc=>?_|refine kZ (fun hc=>?_) fun hc=>?_|fail)
        refine OW_EV (EV_shl64 1 M rfl rfl rfl rfl (by omega) (by omega)) rfl ?_
        (repeat' first|refine kW ?_|refine kU fun bk=>?_|refine kV fun hc=>?_|refine kZ (fun hc=>?_) fun hc=>?_|fail)
        refine WQ_cut (decide ((nC ls : Int) > ((1 * 2 ^ M : Nat) : Int))) ?_ iS (fun w h => h)
        rw [decide_eq_true_iff, hend]
        constructor
        · intro h1
          exact .inr ⟨rfl, by omega⟩
        · rintro (h1 | ⟨_, h1⟩)
          · cases h1
          · omega
      · (repeat' first|refine kW ?_|refine kU fun bk=>?_|refine kV fun hc=>?_|refine kZ (fun hc=>?_) fun hc=>?_|fail)
        exact WQ_cut true ⟨fun _ => hend.2 (.inl hz), fun _ => rfl⟩ iS (fun w h => h)
    intro z hz
    rcases hB with ⟨he, rfl, rfl, rfl⟩ | ⟨hne, rfl, rfl, hlo⟩
    · obtain rfl : z = true := hz.2 he
      (repeat' first|refine kW ?_|refine kU fun bk=>?_|refine kV fun hc=>?_|refine kZ (fun hc=>?_) fun hc=>?_|fail)
      refine OW_callP rfl rfl rfl (hawake_n _) rfl ?_
      (repeat' first|refine kW ?_|refine kU fun bk=>?_|refine kV fun hc=>?_|refine kZ (fun hc=>?_) fun hc=>?_|fail)
      refine kR ?_
      exact ⟨L, iC, rfl, rfl⟩
    · obtain rfl : z = false := by
        rcases z with _ | _
        · rfl
        · exact absurd (hz.1 rfl) hne
      have hb : 1 ≤ most ∧ most ≤ 15 := by
        have h1 : ¬ most < 1 := fun h => hne (.inl h)
        have h2 : ¬ 15 < most := fun h => hne (.inr (.inl h))
        omega
      obtain ⟨M, rfl⟩ : ∃ M : Nat, most = (M : Int) := ⟨most.toNat, by omega⟩
      rw [Int.toNat_natCast] at hlo
      have hal : ls.all okc = true := by
        rcases hb : ls.all okc with _ | _
        · exact absurd (.inr (.inr (.inr (.inl hb)))) hne
        · rfl
      have hok : ∀ i, i < ls.length → ls.getD i 0 = ((nl ls).getD i 0 : Int) ∧ (nl ls).getD i 0 ≤ 1073741824 := by
        intro i hi
        have hox : okc (ls.getD i 0) = true := List.all_eq_true.1 hal _ (by simp [List.getD, hi])
        have := (okc_iff _).1 hox
        rw [nl_get hi]
        omega
      have hn := hlo.n400
      have hpos := fun i (hi : i < ls.length) => hlo.pos (i := i) (by omega)
      have hle := hlo.le
      have hlen : lens.length = ls.length := by rw [hlo.len, hnl]
      have hicl : (icn lens).length = ls.length := by rw [icn_length, hlen]
      have hslv : Sl (C :: L) 1 (.slice va ls.length vc) ls.length (intsN (icn lens)) := by
        have h1 := ow_sl (L := L) ho
        have e : intsN (icn lens) = ivn lens := by simp [intsN, icn, ivn]
        rw [e]; exact h1
      have hwg : 2 ≤ nC ls → wgt (icn lens) = 32768 := by
        intro h2
        have e1 : nl (icn lens) = lens := by simp [nl, icn, Function.comp_def]
        have e2 : okL (icn lens) = true := by
          refine List.all_eq_true.2 fun x hx => ?_
          obtain ⟨y, hy, rfl⟩ := List.mem_map.1 hx
          obtain ⟨j, hj, rfl⟩ := List.getElem_of_mem hy
          have h3 := hle j
          have e3 : lens.getD j 0 = lens[j] := by simp [List.getD, hj]
          simp only [Bool.and_eq_true, decide_eq_true_eq]
          omega
        unfold wgt
        rw [if_pos e2, e1, hlo.all (by rw [hnl]; exact h2)]
        rfl
      have hcompl := hcomplete_n va vc (icn lens) (C :: L) (by rw [hicl]; exact hslv) (by omega)
      rw [hicl] at hcompl
      have hicls : icn (nl ls) = ls := by
        apply List.ext_getElem
        · rw [icn_length, hnl]
        · intro j h1 h2
          have h3 := (hok j h2).1
          have e3 : ls.getD j 0 = ls[j] := by simp [List.getD, h2]
          have e4 : (icn (nl ls)).getD j 0 = (icn (nl ls))[j] := by simp [List.getD, h1]
          rw [← e3, ← e4, icn_getD, h3]
      have hcb : ∀ i, (nl ls).getD i 0 ≤ 1073741824 := by
        intro i
        rcases Nat.lt_or_ge i ls.length with h1 | h1
        · exact (hok i h1).2
        · have : (nl ls).getD i 0 = 0 := by simp [List.getD, List.getElem?_eq_none (show (nl ls).length ≤ i by omega)]
          omega
      have hcost := hcost_n a va c vc (nl ls) lens (C :: L) (by rw [hicls, hnl]; exact sl_there h) (by rw [hlen]; exact hslv) (by omega) (fun i => Nat.le_trans (hcb i) (by decide)) (fun i => Nat.le_trans (hle i) (by omega))
      have hleast := fun h12 => least_n a c (nl ls) M (C :: L) (by rw [hicls, hnl]; exact sl_there h) h12 hcb (by omega) (by omega)
      have hceq := hlo.least
      rw [hnl, hlen, Nat.min_self] at hcost
      rw [hnl] at hleast hceq
      rw [hceq] at hcost
      generalize leastN (nl ls) M = lN at hcost hleast hceq
      (repeat' first|refine kW ?_|refine kU fun bk=>?_|refine kV fun hc=>?_|refine kZ (fun hc=>?_) fun hc=>?_|fail)
      refine WC_loop (X := Nat) (fun i => [(0, .slice a ls.length c), (1, .int .i64 (M : Int)), (5, .slice va ls.length vc), (7, .int .i64 (nC ls : Int)), (10, .int .i64 (i : Int))]) (fun _ => C :: L)
        (fun i => i ≤ ls.length) (fun i => ls.length - i) 0 (Nat.zero_le _) iS (fun w h => h) ?_
      intro i hi
      (repeat' first|refine kY ?_|refine kU fun bk=>?_|refine kV fun hc=>?_|refine kZ (fun hc=>?_) fun hc=>?_|fail)
      refine WC_seq ?_
      refine WC_seq ?_
      (repeat' first|refine kY ?_|refine kU fun bk=>?_|refine kV fun hc=>?_|refine kZ (fun hc=>?_) fun hc=>?_|fail)
      · have hlt : i < ls.length := by omega
        obtain ⟨b, off, cap, cc, T, fr, hve, hfn, hcell⟩ := sl_at h (ints_get hlt)
        injection hve with q1 q2 q3
        subst q1 q3
        clear q2
        obtain ⟨b1, c1, r1, hv1, hC1, hg1⟩ := ow_int ho hlt
        injection hv1 with e1 e2 e3
        subst e1 e3 hC1
        clear e2
        rw [(hok i hlt).1] at hcell
        have hpos := hpos i hlt
        have hle := hle i
        obtain ⟨x, hx⟩ : ∃ x, x = (nl ls).getD i 0 := ⟨_, rfl⟩
        obtain ⟨p, hp⟩ : ∃ p, p = lens.getD i 0 := ⟨_, rfl⟩
        rw [← hx] at hcell hpos
        rw [← hp] at hg1 hpos hle
        have hd1 : decide ((p : Int) < 0) = false := decide_eq_false (by omega)
        have hd2 : decide ((p : Int) > (M : Int)) = false := decide_eq_false (by omega)
        refine WC_seq ?_
        (repeat' first|refine kY ?_|refine kU fun bk=>?_|refine kV fun hc=>?_|refine kZ (fun hc=>?_) fun hc=>?_|fail)
        refine WC_seq ?_
        refine WC_drawAll [] mixed ?_
        (refine WR_t 0 ?_; refine WR_t 1 ?_)
        (refine WR_take 2 rfl rfl (by kernel_rfl) iP iC (EV_indexAddr0 (j := i) rfl rfl rfl hlt) (by rfl) ?_)
        (refine WR_take 3 rfl rfl (by kernel_rfl) iP iC (EV_load rfl (by exact Fnd.here) hg1) (by rfl) ?_)
        (refine WR_t 4 ?_; refine WR_t 5 ?_; refine WR_t 6 ?_)
        (refine WR_take 7 rfl rfl (by kernel_rfl) iP iC (EV_indexAddr (j := i) rfl rfl rfl hlt) (by rfl) ?_)
        (refine WR_take 8 rfl rfl (by kernel_rfl) iP iC (EV_load rfl hfn.there hcell) (by rfl) ?_)
        (refine WR_t 9 ?_)
        by_cases h0 : 0 < x
        · rw [show decide ((p : Int) > 0) = true from decide_eq_true (by omega), show decide ((x : Int) > 0) = true from decide_eq_true (by omega)]
          (refine WR_t 10 ?_; refine WR_t 11 ?_)
          (refine WR_u 12 ?_; refine WR_u 13 ?_)
          (refine WR_takeOn 14 rfl rfl rfl (by kernel_rfl) iP iC (EV_indexAddr0 (j := i) rfl rfl rfl hlt) (by rfl) ?_)
          (refine WR_takeOn 15 rfl rfl rfl (by kernel_rfl) iP iC (EV_load rfl (by exact Fnd.here) hg1) (by rfl) ?_)
          (refine WR_u 16 ?_)
          rw [hd1]
          (refine WR_t 17 ?_; refine WR_t 18 ?_)
          (refine WR_u 19 ?_; refine WR_u 20 ?_)
          (refine WR_takeOn 21 rfl rfl rfl (by kernel_rfl) iP iC (EV_indexAddr0 (j := i) rfl rfl rfl hlt) (by rfl) ?_)
          (refine WR_takeOn 22 rfl rfl rfl (by kernel_rfl) iP iC (EV_load rfl (by exact Fnd.here) hg1) (by rfl) ?_)
          (refine WR_u 23 ?_; refine WR_u 24 ?_)
          rw [hd2]
          (refine WR_t 25 ?_)
          (refine WR_done (by kernel_rfl) ?_)
          (repeat' first|refine kW ?_|refine kU fun bk=>?_|refine kV fun hc=>?_|refine kZ (fun hc=>?_) fun hc=>?_|fail)
          refine WQ_round (X := Nat) (μ := fun i => ls.length - i) (x := i) (i + 1) (by omega) (by omega) iS (fun w h => h)
        · rw [show decide ((p : Int) > 0) = false from decide_eq_false (by omega), show decide ((x : Int) > 0) = false from decide_eq_false (by omega)]
          (refine WR_t 10 ?_; refine WR_t 11 ?_)
          (refine WR_u 12 ?_; refine WR_u 13 ?_)
          (refine WR_takeOn 14 rfl rfl rfl (by kernel_rfl) iP iC (EV_indexAddr0 (j := i) rfl rfl rfl hlt) (by rfl) ?_)
          (refine WR_takeOn 15 rfl rfl rfl (by kernel_rfl) iP iC (EV_load rfl (by exact Fnd.here) hg1) (by rfl) ?_)
          (refine WR_u 16 ?_)
          rw [hd1]
          (refine WR_t 17 ?_; refine WR_t 18 ?_)
          (refine WR_u 19 ?_; refine WR_u 20 ?_)
          (refine WR_takeOn 21 rfl rfl rfl (by kernel_rfl) iP iC (EV_indexAddr0 (j := i) rfl rfl rfl hlt) (by rfl) ?_)
          (refine WR_takeOn 22 rfl rfl rfl (by kernel_rfl) iP iC (EV_load rfl (by exact Fnd.here) hg1) (by rfl) ?_)
          (refine WR_u 23 ?_; refine WR_u 24 ?_)
          rw [hd2]
          (refine WR_t 25 ?_)
          (refine WR_done (by kernel_rfl) ?_)
          (repeat' first|refine kW ?_|refine kU fun bk=>?_|refine kV fun hc=>?_|refine kZ (fun hc=>?_) fun hc=>?_|fail)
          refine WQ_round (X := Nat) (μ := fun i => ls.length - i) (x := i) (i + 1) (by omega) (by omega) iS (fun w h => h)
      · refine WC_cut (X := Unit) (fun _ => [(0, .slice a ls.length c), (1, .int .i64 (M : Int)), (5, .slice va ls.length vc), (121, .bool false)]) (fun _ => C :: L) (fun _ => True) ?_ ?_
        · (repeat' first|refine kW ?_|refine kU fun bk=>?_|refine kV fun hc=>?_|refine kZ (fun hc=>?_) fun hc=>?_|fail)
          · refine OW_callP rfl rfl rfl hcompl rfl ?_
            rw [show (wgt (icn lens) == 32768) = true from by rw [hwg (by omega)]; rfl]
            (repeat' first|refine kW ?_|refine kU fun bk=>?_|refine kV fun hc=>?_|refine kZ (fun hc=>?_) fun hc=>?_|fail)
            exact WQ_cut () trivial iS (fun w h => h)
          · exact WQ_cut () trivial iS (fun w h => h)
        intro _ _
        (repeat' first|refine kW ?_|refine kU fun bk=>?_|refine kV fun hc=>?_|refine kZ (fun hc=>?_) fun hc=>?_|fail)
        · refine OW_callP rfl rfl rfl (hawake_n _) rfl ?_
          (repeat' first|refine kW ?_|refine kU fun bk=>?_|refine kV fun hc=>?_|refine kZ (fun hc=>?_) fun hc=>?_|fail)
          refine kR ?_
          exact ⟨L, iC, rfl, rfl⟩
        · refine OW_callP rfl rfl rfl hcost rfl ?_
          (repeat' first|refine kW ?_|refine kU fun bk=>?_|refine kV fun hc=>?_|refine kZ (fun hc=>?_) fun hc=>?_|fail)
          refine OW_callP rfl rfl rfl (hleast (by omega)) rfl ?_
          ((repeat' first|refine kW ?_|refine kU fun bk=>?_|refine kV fun hc=>?_|refine kZ (fun hc=>?_) fun hc=>?_|fail) <;> try exact absurd trivial hc)
          refine OW_callP rfl rfl rfl (hawake_n _) rfl ?_
          (repeat' first|refine kW ?_|refine kU fun bk=>?_|refine kV fun hc=>?_|refine kZ (fun hc=>?_) fun hc=>?_|fail)
          refine kR ?_
          exact ⟨L, iC, rfl, rfl⟩
end Go.Proofs.Ytbdpjbmfhnbheaa
namespace Go.Proofs.Ytbdpjbmfhnbheaa
open Go Go.Vx Go.ChangeShapes Go.WideShapes Go.ChangeAt Go.RowKit
set_option maxRecDepth 4000
set_option linter.all false
def blks (W : World) : Chunk := W.heap.toList.zipIdx.map fun x => (x.2, x.1)
theorem blks_mem {W : World} {b : Nat} {o : Obj} : (b, o) ∈ blks W ↔ W.heap[b]? = some o := by
  unfold blks
  rw [List.mem_map]
  constructor
  · rintro ⟨⟨x, i⟩, hm, he⟩
    simp at he
    obtain ⟨rfl, rfl⟩ := he
    have := List.mk_mem_zipIdx_iff_getElem?.1 hm
    simpa using this
  · intro h
    exact ⟨(o, b), List.mk_mem_zipIdx_iff_getElem?.2 (by simpa using h), rfl⟩
theorem blks_keys (W : World) : ((blks W).map Prod.fst).Nodup := by
  have : (blks W).map Prod.fst = List.range' 0 W.heap.toList.length := by
    unfold blks
    rw [List.map_map]
    exact List.zipIdx_map_snd 0 _
  rw [this]
  exact List.nodup_range'
structure Kept (W W' : World) : Prop where
  os : W'.os = W.os
  output : W'.output = W.output
  block : ∀ k, k < W.heap.size → W'.heap[k]? = W.heap[k]?
theorem bridge {P : Program} {f : FuncId} {args : Array Value} {W : World} {v : Value} (h : ∀ [W0], GvP P f args [blks W] v) : Calls P f args W fun e W' => e = .returned v ∧ Kept W W' := by
  letI i : W0 := ⟨W.os, W.output⟩
  have h0 : GvP P f args [blks W] v := h
  have hH : Holds W [blks W] := ⟨by simpa using blks_keys W, fun x hx => blks_mem.1 (by simpa using hx), rfl, rfl⟩
  refine (h0.out W hH).mono fun e W' he => ?_
  obtain ⟨v', L', rfl, ⟨rfl, rfl⟩, hw⟩ := he
  refine ⟨rfl, hw.2.2.1, hw.2.2.2, fun k hk => ?_⟩
  have hm : W.heap[k]? = some W.heap[k] := by simp [hk]
  rw [hm]
  exact hw.2.1 (k, W.heap[k]) (by simpa using blks_mem.2 hm)
theorem Kept.frame {W W' : World} (h : Kept W W') (may : MemPlace → Prop) : W.keptBut W' may := by
  refine ⟨h.os, h.output, fun i hi => ?_⟩
  rw [h.block i hi]
  split <;> simp_all
theorem Kept.same {W W' : World} (h : Kept W W') {p : MemPlace} (hp : p.block < W.heap.size) : W.sameAt W' p := by
  cases p with
  | cell b o => exact World.cell?_of_block (w := W) (h.block b hp)
  | map b => exact h.block b hp
theorem Kept.trod {H : Type} {enc : TypeId × Value → H} {P : Program} {t : TypeId} (hl : laidOutB P = true) (hr : P.readableRec t = true) (hrow : t < P.types.size) {W W' : World} {v : Value} {d : DataW H} {ps : List MemPlace}
    (h : DataW.Trod enc P W 0 (fun _ => true) true t v d ps) (hb : Kept W W') (hlt : ∀ x ∈ ps, x.block < W.heap.size) :
    DataW.Trod enc P W' 0 (fun b => decide (b < W.heap.size)) true t v d ps :=
  WideElems.Trod_stays hl hr hrow h (fun x hx => hb.same (hlt x hx)) (fun x hx => by simpa using hlt x hx)
theorem bulk_lits {H : Type} (k : IntKind) : ∀ xs : List Int, Rows.uptoBulkAll (H := H) (lits k xs) = xs.length
  | [] => rfl
  | x :: r => by
    have := bulk_lits (H := H) k r
    simp only [lits, List.map_cons, Rows.uptoBulkAll, Rows.uptoBulk, List.length_cons] at *
    omega
theorem open_row {H : Type} {enc : TypeId × Value → H} {P : Program} {W : World} {t e : TypeId} {k : IntKind} {a : Option Addr} {len cap : Nat} {d : DataW H} {ps : List MemPlace} (ht : P.underlying t = some (.slice e)) (he : P.underlying e = some (.int k)) (hc : P.cellsOf e = 1)
    (h : DataW.Trod enc P W 0 (fun _ => true) true t (.slice a len cap) d ps) :
    ∃ xs : List Int, xs.length = len ∧ (∀ n ∈ xs, (Lit.int k n).wf = true) ∧ Sl [blks W] 1 (.slice a len cap) len (xs.map (Value.int k)) ∧ len ≤ Rows.uptoBulk d := by
  letI : W0 := ⟨W.os, W.output⟩
  obtain ⟨fuel, hf⟩ := h
  rcases open_ints ht he hc hf with ⟨hcs, _⟩ | ⟨x, l, c, zs, hcs, _, hl, hm, hz, hx, hcell, hwz⟩
  · simp [Value.cells] at hcs
    obtain ⟨rfl, rfl, rfl⟩ := hcs
    exact ⟨[], rfl, fun n h => by simp at h, .inl ⟨0, rfl, rfl, rfl⟩, Nat.zero_le _⟩
  · simp [Value.cells] at hcs
    obtain ⟨rfl, rfl, rfl⟩ := hcs
    have hzl : zs.length = cap := by simpa using hz
    have hd : d = .slice (lits k (zs.take len)) (lits k (zs.drop len)) := by injection hx
    refine ⟨zs.take len, by simp; omega, fun n hn => hwz n (List.mem_of_mem_take hn), ?_, ?_⟩
    · refine .inr ⟨x, cap, rfl, ?_, by simp; omega⟩
      rcases Nat.eq_zero_or_pos len with h0 | h0
      · subst h0; exact .inl (by simp)
      · have hc0 := hcell 0 (by omega)
        obtain ⟨b, off, spot⟩ := x
        have hspot : spot = none := by simpa [Addr.add] using World.cell?_spot hc0
        subst hspot
        have hblk : ∃ C T fr, W.heap[b]? = some (.cells C T fr) := by
          have : (⟨b, off, none⟩ : Addr).add 0 = ⟨b, off, none⟩ := by simp [Addr.add]
          rw [this] at hc0
          unfold World.cell? at hc0
          split at hc0
          · rename_i C T fr hb; exact ⟨C, T, fr, hb⟩
          · cases hc0
        obtain ⟨C, T, fr, hb⟩ := hblk
        refine .inr ⟨b, off, C, T, fr, rfl, by simpa [Fnd] using blks_mem.2 hb, fun j u hj => ?_⟩
        have hjl : j < len := by
          rcases Nat.lt_or_ge j len with h' | h'
          · exact h'
          · rw [List.getElem?_eq_none (by simp; omega)] at hj; simp at hj
        have hcj := hcell j (by omega)
        rw [addr_add, cell_of hb] at hcj
        rw [hcj, ← hj]
        simp [List.getElem?_take, hjl, List.getD, List.getElem?_eq_getElem (show j < zs.length by omega)]
    · rw [hd]
      simp only [Rows.uptoBulk, bulk_lits, List.length_take]
      omega
theorem Try.own : ownKnob Try.prog.godebug = none := by kernel_rfl
theorem Try.laidOut : laidOutB Try.prog = true := by kernel_rfl
end Go.Proofs.Ytbdpjbmfhnbheaa
namespace Go.Proofs.Ytbdpjbmfhnbheaa
open Go Go.Vx Go.ChangeShapes Go.WideShapes Go.ChangeAt Go.RowKit
set_option maxRecDepth 4000
set_option linter.all false
theorem open_intr {H : Type} {enc : TypeId × Value → H} {P : Program} {W : World} {t e : TypeId} {a : Option Addr} {len cap : Nat} {d : DataW H} {ps : List MemPlace} (ht : P.underlying t = some (.slice e)) (he : P.underlying e = some (.int .i64)) (hc : P.cellsOf e = 1)
    (h : DataW.Trod enc P W 0 (fun _ => true) true t (.slice a len cap) d ps) :
    ∃ xs : List Int, xs.length = len ∧ (Sl [blks W] 1 (.slice a len cap) len (intsN xs) ∧ ∀ n ∈ xs, (Lit.int .i64 n).wf = true) ∧ len ≤ Rows.uptoBulk d ∧ (len = 0 ∨ ∃ el sp, d = .slice el sp ∧ el.length = len) := by
  have hx : len = 0 ∨ ∃ el sp, d = .slice el sp ∧ el.length = len := by
    obtain ⟨fuel, hf⟩ := h
    rcases open_ints ht he hc hf with ⟨hcs, _⟩ | ⟨x, l, c, zs, hcs, _, hl, hm, hz, hx, hcell, hwz⟩
    · simp [Value.cells] at hcs
      obtain ⟨rfl, rfl, rfl⟩ := hcs
      exact .inl rfl
    · simp [Value.cells] at hcs
      obtain ⟨rfl, rfl, rfl⟩ := hcs
      have hzl : zs.length = cap := by simpa using hz
      have hd : d = .slice (lits .i64 (zs.take len)) (lits .i64 (zs.drop len)) := by injection hx
      exact .inr ⟨_, _, hd, by simp [lits]; omega⟩
  obtain ⟨xs, h1, h2, h3, h4⟩ := open_row ht he hc h
  exact ⟨xs, h1, ⟨h3, h2⟩, h4, hx⟩
theorem reach_of8 {H : Type} {P : Program} {ts : List TypeId} {ds : List (DataW H)} (h : (DataW.weightsEach P ts ds).all (· ≤ reachBytes) = true) {j : Nat} {t e : TypeId} {d : DataW H} {len : Nat} (ht : ts[j]? = some t) (hd : ds[j]? = some d) (hu : P.underlying t = some (.slice e)) (hb : P.bytesOf e = 8)
    (hl : len = 0 ∨ ∃ el sp, d = .slice el sp ∧ el.length = len) : len ≤ 17592186044416 := by
  rcases hl with rfl | ⟨el, sp, rfl, rfl⟩
  · omega
  · have := sized_slice h ht hd hu
    rw [hb] at this
    simp [reachBytes] at this
    omega
end Go.Proofs.Ytbdpjbmfhnbheaa
namespace Go.Proofs.Ytbdpjbmfhnbheaa
open Go Go.Vx Go.ChangeShapes Go.WideShapes Go.ChangeAt Go.RowKit
set_option linter.all false
set_option maxRecDepth 4000
theorem top_row (H : Type) (enc : TypeId × Value → H) (W : World) (base : Nat) (args : Array Value) (ds gs : List (DataW H)) (before : List MemPlace)
    (hval : ∀ (j : Nat) t v, Try.f6.params[j]? = some t → args[j]? = some v → Value.okWide Try.prog W .any base t v)
    (hW : DataW.Whole enc Try.prog Try.f6.params.toList Rows.huffLeastSpec.vars false W args.toList ds gs before)
    (hz : (DataW.weightsEach Try.prog (Try.f6.params.toList ++ Rows.huffLeastSpec.plain.varTypes Try.prog) (ds ++ gs)).all (· ≤ reachBytes) = true) (hL : laidMetH Try.prog [] W) :
    Calls Try.prog 6 args W fun e W' => ∃ v, e = .returned v ∧ Rows.huffLeastSpec.post enc Try.prog Try.f6 false true false false W args v W' := by
  have hW' := hW
  obtain ⟨p, q, hA0, hV, rfl, hfz, hnd⟩ := hW
  have hA : DataW.TrodAll enc Try.prog W 0 (fun _ => true) true Try.f6.params.toList args.toList ds p := hA0
  rw [Try.params6] at hA hval hz
  obtain ⟨v0, vs0, d0, ds0, p0, q0, hargs, rfl, rfl, h0, r0⟩ := trodAll_cons hA
  obtain ⟨v1, vs1, d1, ds1, p1, q1, rfl, rfl, rfl, h1, r1⟩ := trodAll_cons r0
  obtain ⟨rfl, rfl, rfl⟩ := trodAll_nil r1
  obtain rfl : args = #[v0, v1] := by cases args; simp_all
  obtain ⟨rfl, rfl⟩ := trodVars_none hV
  obtain ⟨a0, l0, c0, rfl⟩ := okWide_slice Try.underlying23 (hval 0 _ v0 rfl rfl)
  obtain ⟨x0, e0, ⟨s0, w0⟩, b0, g0⟩ := open_intr Try.underlying23 Try.underlying3 (by kernel_rfl) h0
  have m0 : l0 ≤ 17592186044416 := reach_of8 hz (j := 0) rfl rfl Try.underlying23 (by kernel_rfl) g0
  obtain ⟨n1, rfl, rfl, rfl, w1⟩ := open_int Try.underlying3 (hval 1 _ v1 rfl rfl) h1
  clear hA0
  have lt0 : ∀ x ∈ p0, x.block < W.heap.size := by obtain ⟨m, hm⟩ := h0; exact DataW.trod_lt m _ _ _ hm
  have hc : Calls Try.prog 6 #[.slice a0 l0 c0, .int .i64 n1] W fun e W' => e = .returned (.bool true) ∧ Kept W W' := by
    refine bridge (fun {i} => ?_)
    subst e0
    exact leastL_n a0 c0 x0 n1 _ s0 m0
  refine hc.mono fun e W' ⟨he, bel⟩ => ?_
  subst he
  exact ⟨_, rfl, _, _, _, [], _, [], hW', trodAll_mk1 (shut_bool Try.underlying4 _), (trodAll_cons_mk (Kept.trod Try.laidOut (by kernel_rfl) (of_decide_eq_true (by kernel_rfl)) h0 bel lt0) (trodAll_cons_mk (shut_int Try.underlying3 w1) trodAll_mk0)), rfl, bel.frame _, fun h => by cases h⟩
theorem reads (os : Os) {H : Type} (enc : TypeId × Value → H) : ∃ places, DataW.whole enc Try.prog ((World.holding Try.prog os ⟨#[], #[], []⟩).forCall (fun _ _ => 0) ⟨#[], #[.slice none 0 0, .int .i64 0], []⟩).memory Try.f6.params.toList Rows.huffLeastSpec.vars false #[.slice none 0 0, .int .i64 0].toList 8 = some ([.nil, .lit (.int .i64 0)], [], places) :=
  ⟨[], by kernel_rfl⟩
set_option maxRecDepth 100000 in
theorem top_lifted (os : Os) (started : os.Started) (H : Type) (enc : TypeId × Value → H) (F : Stop.Interp) :
    ReturnsInHanded {} Try.checked os 6 .any ((OpenSpec.ofChange Rows.huffLeastSpec).preRow enc Try.prog Try.f6 Rows.huffLeastRow.domain false Rows.huffLeastRow.laid) (((OpenSpec.ofChange Rows.huffLeastSpec).at F).post enc Try.prog Try.f6 false true false false) := by
  obtain ⟨places, hx⟩ := reads os enc
  refine returnsInHanded_of_row (C := Try.checked) (s := (OpenSpec.ofChange Rows.huffLeastSpec)) Try.own started (by kernel_rfl) Try.func6
    (witness_row_at (enc := enc) (C := Try.checked) false (World.holding Try.prog os ⟨#[], #[], []⟩) #[.slice none 0 0, .int .i64 0] rfl (by kernel_rfl) (by kernel_rfl) (by kernel_rfl)
      (OpenSpec.preRow_of_cond 8 hx (by kernel_rfl) (fun k hk => by cases hk) (by kernel_rfl) (laidMet_of_run' 8 (by kernel_rfl) (by kernel_rfl)))) ?_
  intro W base args ds gs before hval hW _ hcond hz hL _ _
  exact top_row H enc W base args ds gs before hval hW hz hL
theorem top_over : Rows.HuffLeastSaid :=
  OpenClaim.holds_of_cond 6 Try.f6 rfl rfl rfl rfl rfl rfl rfl ⟨rfl, rfl, rfl, rfl, rfl⟩ rfl rfl rfl rfl rfl (by kernel_rfl) Try.func6 (by kernel_rfl)
    (of_decide_eq_true (by kernel_rfl)) (by unfold Func.isWrapper; first | (rw [if_pos (by decide +kernel)]; kernel_rfl) | (rw [if_neg (by decide +kernel)]; exact ⟨rfl, rfl⟩))
    (fun os started H enc _ F => by rw [OpenClaim.pre_eq_preRow]; exact top_lifted os started H enc F)
theorem top_holds : Rows.HuffLeastSaid := top_over
end Go.Proofs.Ytbdpjbmfhnbheaa
