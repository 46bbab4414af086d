/- Contracts and facts on the way to the top. It proves no statement by itself. No conditions. -/
import Derived.Test.YtdcehmhelfohfaaGreatDoorQD3
namespace Go.Proofs.YtdcehmhelfohfaaGreatDoor
open Go Go.Vx Go.Df
set_option maxRecDepth 4000
set_option linter.all false
variable [W0]
omit [W0] in
/-- Matches in memory. -/
def mtc : List (Nat × Nat × Nat) → List Value
  | [] => []
  | m :: r => .int .i64 (m.1 : Int) :: .int .i64 (m.2.1 : Int) :: .int .i64 (m.2.2 : Int) :: mtc r
omit [W0] in
theorem mtc_app : ∀ (a b : List (Nat × Nat × Nat)), mtc (a ++ b) = mtc a ++ mtc b
  | [], b => rfl
  | m :: r, b => by simp only [List.cons_append, mtc, mtc_app r b]
set_option maxHeartbeats 8000000 in
theorem matches_n (v : Value) (reach : Int) (b : List UInt8) (L : List Chunk) (ht : Rs L 1 v b.length (bsv b)) (hb : b.length ≤ 200000) (hreach : -9223372036854775808 ≤ reach ∧ reach ≤ 9223372036854775807) :
    Gv Tryz.prog 10 [v, .int .i64 reach].toArray L (fun r L' => ∃ C, Ow 31 3 r (msR b reach).length (mtc (msR b reach)) C ∧ L' = C :: L) := by
  refine Gv.of_body Tryz.func10 rfl rfl ?_
  obtain ⟨va, vc, hv9⟩ : ∃ va vc, v = .slice va b.length vc := by obtain ⟨a, c, h, _⟩ := ht.room; exact ⟨a, c, h⟩
  subst hv9
  (repeat' first|refine kW ?_|refine kU fun bk=>?_|refine kV fun hc=>?_|refine kZ (fun hc=>?_) fun hc=>?_|fail)
  refine OW_makeMap rfl (fun mb => ?_)
  (repeat' first|refine kW ?_|refine kU fun bk=>?_|refine kV fun hc=>?_|refine kZ (fun hc=>?_) fun hc=>?_|fail)
  obtain ⟨p, hp9⟩ : ∃ x, x = bk := ⟨_, rfl⟩
  subst hp9
  obtain ⟨R, hR⟩ : ∃ R : Int, R = min reach 32768 := ⟨_, rfl⟩
  have hR2 : -9223372036854775808 ≤ R ∧ R ≤ 32768 := by omega
  have hms : msR b reach = msF b R b.length 0 := by rw [hR]; rfl
  rw [hms, ← hR]
  clear hR hms hreach
  refine WC_loop (X := Nat × Value × Chunk × Chunk × Value × Chunk × List (Nat × Nat × Nat)) (fun x => [(0, .slice va b.length vc), (5, .pointer (some ⟨p, 0, none⟩)), (6, x.2.2.2.2.1), (7, .int .i64 (x.1 : Int))])
    (fun x => [(p, fnO (.slice va b.length vc) R mb x.2.1)] :: x.2.2.1 :: x.2.2.2.1 :: x.2.2.2.2.2.1 :: L)
    (fun x => x.1 ≤ b.length ∧ MpD mb (lastP b x.1) x.2.2.1 ∧ Ow 3 1 x.2.1 x.1 (ers b x.1) x.2.2.2.1 ∧ Ow 31 3 x.2.2.2.2.1 x.2.2.2.2.2.2.length (mtc x.2.2.2.2.2.2) x.2.2.2.2.2.1 ∧ x.2.2.2.2.2.2.length ≤ x.1 ∧ x.2.2.2.2.2.2 ++ msF b R (b.length - x.1) x.1 = msF b R b.length 0) (fun x => b.length - x.1)
    (0, .slice none 0 0, [(mb, .map #[] 0)], [], .slice none 0 0, [], []) ⟨Nat.zero_le _, ⟨#[], 0, rfl, MpR.nil⟩, .inl ⟨rfl, rfl, rfl, rfl⟩, .inl ⟨rfl, rfl, rfl, rfl⟩, Nat.le_refl _, rfl⟩ iS (fun w h => by
      have h2 : Holds w ([(p, fnO (.slice va b.length vc) R mb (.slice none 0 0))] :: [(mb, .map #[] 0)] :: [] :: [] :: L) := (Holds.perm (L := [] :: [] :: [(p, fnO (.slice va b.length vc) R mb (.slice none 0 0))] :: [(mb, .map #[] 0)] :: L) (Holds.nil.2 (Holds.nil.2 h)) (by
        refine (List.Perm.cons _ (List.Perm.swap _ _ _)).trans ?_
        refine (List.Perm.swap _ _ _).trans ?_
        refine List.Perm.cons _ ?_
        refine (List.Perm.cons _ (List.Perm.swap _ _ _)).trans ?_
        exact List.Perm.swap _ _ _))
      exact h2) ?_
  rintro ⟨i, ve, C1, C2, vl, Cl, ms⟩ ⟨hi, hm, ho, hl, hml, hms⟩
  simp only at hi hm ho hl hml hms ⊢
  obtain ⟨vea, vec, rfl⟩ := ow_slc ho
  (repeat' first|refine kW ?_|refine kU fun bk=>?_|refine kV fun hc=>?_|refine kZ (fun hc=>?_) fun hc=>?_|fail)
  · have hib : i < b.length := by omega
    obtain ⟨f, hf2⟩ : ∃ f, b.length - i = f + 1 := ⟨b.length - i - 1, by omega⟩
    rw [hf2, msF, if_pos hib] at hms
    have hlg := longest_n p mb (.slice va b.length vc) (.slice vea i vec) R b i C1 ([(p, fnO (.slice va b.length vc) R mb (.slice vea i vec))] :: C1 :: C2 :: Cl :: L) ht.there.there.there.there .here hb hib hm iC (sl_there (sl_there (ow_sl ho))) hR2
    have hok := lg_ok b R i
    refine OW_call rfl rfl rfl hlg rfl (fun r L' hp => ?_)
    obtain ⟨⟨a, rfl, ha⟩, rfl⟩ := hp
    have hmx : max (lg b R i).1 1 ≤ b.length - i := by
      rcases hok with h | h
      · omega
      · have := h.fit; have := h.n3; omega
    have hpass := fun (D : Chunk) => pass_n p mb (.slice va b.length vc) (.slice vea i vec) R b i (max (lg b R i).1 1) C1 C2 (D :: L) ht.there hb (by omega) hm ho
    have hfu := msF_fuel b R (b.length - (i + max (lg b R i).1 1)) (i + max (lg b R i).1 1) f (by omega) (by omega)
    rw [hfu] at hms
    generalize lg b R i = m at ha hok hmx hpass hms
    obtain ⟨n, d⟩ := m
    simp only at ha hok hmx hpass hms ⊢
    have hn5 : n ≤ 258 := by rcases hok with h | h; omega; exact h.nm
    have hpx : ((max n 1 : Nat) : Int) = max (n : Int) 1 := by omega
    simp only [hpx] at hpass
    (repeat' first|refine kW ?_|refine kU fun bk=>?_|refine kV fun hc=>?_|refine kZ (fun hc=>?_) fun hc=>?_|fail)
    · have hn0 : 0 < n := by omega
      obtain rfl : a = i := ha (by omega)
      rw [if_pos hn0] at hms
      refine OW_buildSlice (cs := [.int .i64 (a : Int), .int .i64 (n : Int), .int .i64 (d : Int)]) rfl (by rfl) (by first | (simp [fillL, patch, Value.cells, zeros]; done) | (simp [fillL, patch, Value.cells, zeros]; rfl)) (by omega) rfl rfl (fun bn => ?_)
      (repeat' first|refine kW ?_|refine kU fun bk=>?_|refine kV fun hc=>?_|refine kZ (fun hc=>?_) fun hc=>?_|fail)
      refine OW_append rfl rfl hl (sl_cells (k := 3) (c := #[.int .i64 (a : Int), .int .i64 (n : Int), .int .i64 (d : Int)]) (xs := [.int .i64 (a : Int), .int .i64 (n : Int), .int .i64 (d : Int)]) (m := 1) Fnd.here rfl (by simp)) (by repeat (first | exact Zip.here _ | apply Zip.there)) rfl (by rfl) (by omega) (by simp [maxLen]; omega) rfl (fun vl' Cl' hl' _ _ => ?_)
      rw [show mtc ms ++ [Value.int .i64 (a : Int), .int .i64 (n : Int), .int .i64 (d : Int)] = mtc (ms ++ [(a, n, d)]) from by rw [mtc_app]; rfl, show ms.length + 1 = (ms ++ [(a, n, d)]).length from by simp] at hl'
      (repeat' first|refine kW ?_|refine kU fun bk=>?_|refine kV fun hc=>?_|refine kZ (fun hc=>?_) fun hc=>?_|fail)
      refine OW_call rfl rfl rfl (Gv.holds (hpass Cl') (fun w h => iH h)) rfl (fun r L' hp => ?_)
      obtain ⟨rfl, ve', C1', C2', hm', ho', rfl⟩ := hp
      (repeat' first|refine kW ?_|refine kU fun bk=>?_|refine kV fun hc=>?_|refine kZ (fun hc=>?_) fun hc=>?_|fail)
      obtain ⟨va2, vc2, rfl⟩ := ow_slc ho'
      unfold fnO fnV
      (repeat' first|refine kW ?_|refine kU fun bk=>?_|refine kV fun hc=>?_|refine kZ (fun hc=>?_) fun hc=>?_|fail)
      refine WQ_round (X := Nat × Value × Chunk × Chunk × Value × Chunk × List (Nat × Nat × Nat)) (μ := fun x => b.length - x.1) (x := (a, .slice vea a vec, C1, C2, vl, Cl, ms)) (a + max n 1, .slice va2 (a + max n 1) vc2, C1', C2', vl', Cl', ms ++ [(a, n, d)]) (by simp only; omega) ⟨by simp only; omega, hm', ho', hl', by simp; omega, by simp only; rw [List.append_assoc]; exact hms⟩ iS (fun w h => iH h)
    · have hn0 : ¬ 0 < n := by omega
      rw [if_neg hn0, List.nil_append] at hms
      refine OW_call rfl rfl rfl (Gv.holds (hpass Cl) (fun w h => iH h)) rfl (fun r L' hp => ?_)
      obtain ⟨rfl, ve', C1', C2', hm', ho', rfl⟩ := hp
      obtain ⟨va2, vc2, rfl⟩ := ow_slc ho'
      unfold fnO fnV
      (repeat' first|refine kW ?_|refine kU fun bk=>?_|refine kV fun hc=>?_|refine kZ (fun hc=>?_) fun hc=>?_|fail)
      refine WQ_round (X := Nat × Value × Chunk × Chunk × Value × Chunk × List (Nat × Nat × Nat)) (μ := fun x => b.length - x.1) (x := (i, .slice vea i vec, C1, C2, vl, Cl, ms)) (i + max n 1, .slice va2 (i + max n 1) vc2, C1', C2', vl, Cl, ms) (by simp only; omega) ⟨by simp only; omega, hm', ho', hl, by simp only; omega, hms⟩ iS (fun w h => iH h)
  · obtain rfl : i = b.length := by omega
    rw [show b.length - b.length = 0 from by omega, msF, List.append_nil] at hms
    rw [← hms]
    refine kR ?_
    refine ⟨_, iC, Cl, hl, rfl⟩
omit [W0] in
def MtV (m : Nat × Nat × Nat) : List Value := [.int .i64 (m.1 : Int), .int .i64 (m.2.1 : Int), .int .i64 (m.2.2 : Int)]
omit [W0] in
theorem mtc_flt : ∀ l, mtc l = flt MtV l
  | [] => rfl
  | m :: r => by rw [mtc, flt, mtc_flt r]; rfl
end Go.Proofs.YtdcehmhelfohfaaGreatDoor
namespace Go.Df
open Go.Vx Go.If Go.Hf
set_option linter.all false
def lits (b : List UInt8) : List (Nat × Nat) := b.map fun c => (c.toNat, 0)
theorem lits_app (a b : List UInt8) : lits (a ++ b) = lits a ++ lits b := by simp [lits]
theorem lits_len (a : List UInt8) : (lits a).length = a.length := by simp [lits]
theorem lits_ok {b : List UInt8} : ∀ t ∈ lits b, TkOk t := by
  intro t ht
  obtain ⟨c, _, rfl⟩ := List.mem_map.1 ht
  exact .inl ⟨rfl, c.toNat_lt⟩
def pcF (b : List UInt8) : Nat → List (Nat × Nat × Nat) → List (Nat × Nat)
  | i, [] => lits (b.drop i)
  | i, m :: r => lits ((b.drop i).take (m.1 - i)) ++ ((m.2.1, m.2.2) :: pcF b (m.1 + m.2.1) r)
def pcT (b : List UInt8) : List (Nat × Nat) := pcF b 0 (msR b 32768)
theorem pcF_ok {b : List UInt8} : ∀ {i : Nat} {ms : List (Nat × Nat × Nat)}, MsOk b 32768 i ms → (∀ t ∈ pcF b i ms, TkOk t) ∧ (pcF b i ms).length ≤ b.length - i
  | i, [], _ => ⟨lits_ok, by rw [pcF, lits_len, List.length_drop]; exact Nat.le_refl _⟩
  | i, m :: r, h => by
    obtain ⟨h1, h2, h3⟩ := h
    obtain ⟨g1, g2⟩ := pcF_ok h3
    have a1 := h2.n3
    have a2 := h2.nm
    have a3 := h2.fit
    have a4 := h2.d1
    have a5 := h2.dr
    refine ⟨fun t ht => ?_, ?_⟩
    · rw [pcF] at ht
      rcases List.mem_append.1 ht with ht | ht
      · exact lits_ok t ht
      · rcases List.mem_cons.1 ht with rfl | ht
        · exact .inr ⟨by simp only; omega, by simp only; omega, by simp only; omega, by simp only; omega⟩
        · exact g1 t ht
    · rw [pcF, List.length_append, lits_len, List.length_cons, List.length_take, List.length_drop]
      omega
theorem pcT_ok (b : List UInt8) : (∀ t ∈ pcT b, TkOk t) ∧ (pcT b).length ≤ b.length := by
  have := pcF_ok (msR_ok b 32768)
  exact this
def Tks (b : List UInt8) : Nat → List (Nat × Nat) → Nat → Prop
  | i, [], j => i = j
  | i, t :: r, j => TkOk t ∧ i + tsz t ≤ b.length ∧ (t.2 = 0 → b.getD i 0 = UInt8.ofNat t.1) ∧ (t.2 ≠ 0 → t.2 ≤ i ∧ ∀ k, k < t.1 → b.getD (i + k) 0 = b.getD (i + k - t.2) 0) ∧ Tks b (i + tsz t) r j
theorem Tks.app {b : List UInt8} : ∀ {i j k : Nat} {x y : List (Nat × Nat)}, Tks b i x j → Tks b j y k → Tks b i (x ++ y) k
  | i, j, k, [], y, h1, h2 => by
    have : i = j := h1
    subst this; exact h2
  | i, j, k, t :: x, y, h1, h2 => ⟨h1.1, h1.2.1, h1.2.2.1, h1.2.2.2.1, Tks.app h1.2.2.2.2 h2⟩
theorem Tks.split {b : List UInt8} : ∀ {i k : Nat} {x y : List (Nat × Nat)}, Tks b i (x ++ y) k → ∃ j, Tks b i x j ∧ Tks b j y k
  | i, k, [], y, h => ⟨i, rfl, h⟩
  | i, k, t :: x, y, h => by
    obtain ⟨j, g1, g2⟩ := Tks.split (x := x) h.2.2.2.2
    exact ⟨j, ⟨h.1, h.2.1, h.2.2.1, h.2.2.2.1, g1⟩, g2⟩
theorem Tks.le {b : List UInt8} : ∀ {i j : Nat} {x : List (Nat × Nat)}, Tks b i x j → i ≤ j ∧ (i ≤ b.length → j ≤ b.length)
  | i, j, [], h => by
    have : i = j := h
    subst this; exact ⟨Nat.le_refl _, fun h => h⟩
  | i, j, t :: x, h => by
    have := h.2.2.2.2.le
    have h2 := h.2.1
    exact ⟨by omega, fun _ => this.2 h2⟩
theorem lits_tks {b : List UInt8} : ∀ (n i : Nat), i + n ≤ b.length → Tks b i (lits ((b.drop i).take n)) (i + n)
  | 0, i, h => by rw [List.take_zero]; exact rfl
  | n + 1, i, h => by
    have hi : i < b.length := by omega
    rw [List.drop_eq_getElem_cons hi, List.take_succ_cons]
    have hg := lits_tks (b := b) n (i + 1) (by omega)
    refine ⟨.inl ⟨rfl, (b[i]).toNat_lt⟩, by simp only [tsz, if_true]; omega, fun _ => ?_, fun h => absurd rfl h, ?_⟩
    · simp [List.getD, hi]
    · simp only [tsz, if_true]
      rw [show i + (n + 1) = i + 1 + n from by omega]
      exact hg
theorem pcF_tks {b : List UInt8} : ∀ {i : Nat} {ms : List (Nat × Nat × Nat)}, i ≤ b.length → MsOk b 32768 i ms → Tks b i (pcF b i ms) b.length
  | i, [], hi, _ => by
    have := lits_tks (b := b) (b.length - i) i (by omega)
    rw [List.take_of_length_le (by rw [List.length_drop]; exact Nat.le_refl _), show i + (b.length - i) = b.length from by omega] at this
    exact this
  | i, m :: r, hi, h => by
    obtain ⟨h1, h2, h3⟩ := h
    have a1 := h2.n3
    have a2 := h2.nm
    have a3 := h2.fit
    have a4 := h2.d1
    have a5 := h2.dr
    have g := pcF_tks (by omega) h3
    have gl := lits_tks (b := b) (m.1 - i) i (by omega)
    rw [show i + (m.1 - i) = m.1 from by omega] at gl
    rw [pcF]
    refine gl.app ?_
    have hz : tsz (m.2.1, m.2.2) = m.2.1 := by unfold tsz; rw [if_neg (by simp only; omega)]
    refine ⟨.inr ⟨by simp only; omega, by simp only; omega, by simp only; omega, by simp only; omega⟩, by rw [hz]; exact a3, fun h => by simp only at h; omega, fun _ => ⟨h2.di, h2.eq⟩, by rw [hz]; exact g⟩
theorem pcT_tks (b : List UInt8) : Tks b 0 (pcT b) b.length := pcF_tks (Nat.zero_le _) (msR_ok b 32768)
theorem take_succ_getD {b : List UInt8} {i : Nat} (h : i < b.length) : b.take (i + 1) = b.take i ++ [b.getD i 0] := by
  rw [List.take_succ, List.getElem?_eq_getElem h]
  simp [List.getD, h]
theorem cpW_tks {b : List UInt8} {d : Nat} : ∀ (n i : Nat), 1 ≤ d → d ≤ i → i + n ≤ b.length → (∀ k, k < n → b.getD (i + k) 0 = b.getD (i + k - d) 0) → cpW d n (b.take i) = b.take (i + n)
  | 0, i, _, _, _, _ => rfl
  | n + 1, i, h1, h2, h3, h4 => by
    have e0 := h4 0 (by omega)
    have hl : (b.take i).length = i := by rw [List.length_take]; omega
    rw [cpW, hl]
    have hg : (b.take i).getD (i - d) 0 = b.getD (i - d) 0 := by simp only [List.getD_eq_getElem?_getD, List.getElem?_take, if_pos (show i - d < i by omega)]
    rw [hg, ← show b.getD (i + 0) 0 = b.getD (i - d) 0 from e0, Nat.add_zero, ← take_succ_getD (by omega)]
    rw [cpW_tks n (i + 1) h1 (by omega) (by omega) (fun k hk => by have := h4 (k + 1) (by omega); rw [show i + 1 + k = i + (k + 1) from by omega]; exact this), show i + 1 + n = i + (n + 1) from by omega]
theorem tks_W {b : List UInt8} : ∀ {ts : List (Nat × Nat)} {i j : Nat}, i ≤ b.length → Tks b i ts j → tsW (ts.map tok) (b.take i) = b.take j
  | [], i, j, _, h => by
    have : i = j := h
    subst this; rfl
  | t :: r, i, j, hi, h => by
    obtain ⟨h1, h2, h3, h4, h5⟩ := h
    rw [List.map_cons, tsW]
    have hk : tkW (tok t) (b.take i) = b.take (i + tsz t) := by
      rcases h1 with ⟨g1, g2⟩ | ⟨g1, g2, g3, g4⟩
      · have hz : tsz t = 1 := if_pos g1
        have ht : tok t = .lit (UInt8.ofNat t.1) := if_pos g1
        rw [hz, ht]
        simp only [tkW]
        rw [hz] at h2
        rw [take_succ_getD (show i < b.length by omega), h3 g1]
      · have g0 : t.2 ≠ 0 := by omega
        have hz : tsz t = t.1 := if_neg g0
        have ht : tok t = .mt (olN t.1) (t.1 - (lnB (olN t.1)).1) (odN t.2) (t.2 - baB 1 2 4 (odN t.2)) := if_neg g0
        rw [hz, ht]
        rw [hz] at h2
        simp only [tkW]
        have k1 := olN_ok g3 g4
        have k2 := odN_ok g1 g2
        obtain ⟨h6, h7⟩ := h4 g0
        unfold dsT lnT
        rw [show baB 1 2 4 (odN t.2) + (t.2 - baB 1 2 4 (odN t.2)) = t.2 from by omega, show (lnB (olN t.1)).1 + (t.1 - (lnB (olN t.1)).1) = t.1 from by omega]
        exact cpW_tks _ _ g1 h6 h2 h7
    rw [hk]
    exact tks_W (by omega) h5
theorem tks_ok {b : List UInt8} {l dl : List Nat} : ∀ {ts : List (Nat × Nat)} {i j : Nat}, Tks b i ts j → (∀ t ∈ ts, 0 < l.getD (tsy t) 0 ∧ (t.2 ≠ 0 → 0 < dl.getD (odN t.2) 0)) → tsOk l dl i (ts.map tok) ∧ i + tsN (ts.map tok) = j
  | [], i, j, h, _ => by
    have : i = j := h
    subst this; exact ⟨trivial, rfl⟩
  | t :: r, i, j, h, hs => by
    obtain ⟨h1, h2, h3, h4, h5⟩ := h
    have hst := hs t (by simp)
    have hN : tkN (tok t) = tsz t := by
      unfold tok tsz
      rcases h1 with ⟨g1, g2⟩ | ⟨g1, g2, g3, g4⟩
      · rw [if_pos g1, if_pos g1]; rfl
      · rw [if_neg (by omega), if_neg (by omega)]
        have k1 := olN_ok g3 g4
        simp only [tkN, lnT]
        omega
    obtain ⟨g1, g2⟩ := tks_ok (l := l) (dl := dl) h5 (fun t' ht' => hs t' (by simp [ht']))
    refine ⟨⟨?_, by rw [hN]; exact g1⟩, by rw [List.map_cons, tsN, hN]; omega⟩
    unfold tok
    unfold tsy at hst
    rcases h1 with ⟨k1, k2⟩ | ⟨k1, k2, k3, k4⟩
    · rw [if_pos k1] at hst ⊢
      simp only [tkOk]
      rw [UInt8.toNat_ofNat', Nat.mod_eq_of_lt k2]
      exact hst.1
    · have k0 : t.2 ≠ 0 := by omega
      rw [if_neg k0] at hst ⊢
      have q1 := olN_ok k3 k4
      have q2 := odN_ok k1 k2
      obtain ⟨h6, _⟩ := h4 k0
      simp only [tkOk, dsT]
      exact ⟨q1.1, q1.2.1, hst.1, q1.2.2.2, q2.1, hst.2 k0, q2.2.2, by omega⟩
end Go.Df
namespace Go.Proofs.YtdcehmhelfohfaaGreatDoor
open Go Go.Vx Go.Hf Go.If Go.Df
variable [W0]
set_option maxRecDepth 4000
set_option linter.all false
omit [W0] in
theorem TkV_ones (t : Nat × Nat) : ones (TkV t) = true := rfl
set_option maxHeartbeats 4000000 in
theorem literals_n (v : Value) (b : List UInt8) (L : List Chunk) (ht : Sl L 1 v b.length (bsv b)) (hb : b.length ≤ 200000) :
    Gv Tryz.prog 62 [v].toArray L (fun r L' => ∃ C, Ow 133 2 r (lits b).length (flt TkV (lits b)) C ∧ L' = C :: L) := by
  refine Gv.of_body (args := [v]) Tryz.func62 rfl rfl ?_
  obtain ⟨va, vc, rfl⟩ := sl_slice ht
  (repeat' first|refine kW ?_|refine kU fun bk=>?_|refine kV fun hc=>?_|refine kZ (fun hc=>?_) fun hc=>?_|fail)
  refine WC_loop (X := Nat × Value × Chunk) (fun x => [(3, x.2.1), (6, .slice va b.length vc), (7, .int .i64 (b.length : Int)), (8, .int .i64 (x.1 : Int))]) (fun x => x.2.2 :: L)
    (fun x => x.1 ≤ b.length ∧ Ow 133 2 x.2.1 x.1 (flt TkV (lits (b.take x.1))) x.2.2) (fun x => b.length - x.1) (0, .slice none 0 0, []) ⟨Nat.zero_le _, .inl ⟨rfl, rfl, rfl, rfl⟩⟩ iS (fun w h => Holds.nil.2 h) ?_
  rintro ⟨j, vl, Cl⟩ ⟨hj, ho⟩
  simp only at hj ho ⊢
  (repeat' first|refine kW ?_|refine kU fun bk=>?_|refine kV fun hc=>?_|refine kZ (fun hc=>?_) fun hc=>?_|fail)
  · have hjl : j < b.length := by omega
    obtain ⟨c, hc9⟩ : ∃ c, b[j]? = some c := ⟨b[j], List.getElem?_eq_getElem hjl⟩
    obtain ⟨b1, o1, c1, cc1, T1, f1, hv9, hf1, hv1⟩ := sl_at ht (bsv_get hc9)
    injection hv9 with q1 q2 q3
    subst q1 q3
    clear q2
    have hcl := c.toNat_lt
    refine OW_EV (EV_indexAddr (j := j) rfl rfl rfl hjl) rfl ?_
    (repeat' first|refine kW ?_|refine kU fun bk=>?_|refine kV fun hc=>?_|refine kZ (fun hc=>?_) fun hc=>?_|fail)
    refine OW_EV (EV_load rfl (.there hf1) hv1) rfl ?_
    (repeat' first|refine kW ?_|refine kU fun bk=>?_|refine kV fun hc=>?_|refine kZ (fun hc=>?_) fun hc=>?_|fail)
    refine OW_buildSlice (cs := TkV (c.toNat, 0)) rfl (by rfl) (by first | (simp [fillL, patch, Value.cells, zeros]; done) | (simp [fillL, patch, Value.cells, zeros]; rfl)) (by omega) rfl rfl (fun bn => ?_)
    (repeat' first|refine kW ?_|refine kU fun bk=>?_|refine kV fun hc=>?_|refine kZ (fun hc=>?_) fun hc=>?_|fail)
    refine OW_append rfl rfl ho (sl_cells (k := 2) (c := (TkV (c.toNat, 0)).toArray) (xs := TkV (c.toNat, 0)) (m := 1) Fnd.here rfl (by simp)) (by repeat (first | exact Zip.here _ | apply Zip.there)) rfl (by rfl) (by omega) (by simp [maxLen]; omega) rfl (fun vl' Cl' ho' _ _ => ?_)
    rw [show flt TkV (lits (b.take j)) ++ TkV (c.toNat, 0) = flt TkV (lits (b.take (j + 1))) from by rw [takeSucc hc9, lits_app, flt_app]; simp [lits, flt]] at ho'
    (repeat' first|refine kW ?_|refine kU fun bk=>?_|refine kV fun hc=>?_|refine kZ (fun hc=>?_) fun hc=>?_|fail)
    refine WQ_round (X := Nat × Value × Chunk) (μ := fun x => b.length - x.1) (x := (j, vl, Cl)) (j + 1, vl', Cl') (by simp only; omega) ⟨by simp only; omega, ho'⟩ iS (fun w h => iH h)
  · obtain rfl : j = b.length := by omega
    rw [List.take_length] at ho
    refine kR ?_
    exact ⟨_, iC, Cl, by rw [lits_len]; exact ho, rfl⟩
structure PcR (L : List Chunk) (v vt : Value) (b : List UInt8) (ts : List (Nat × Nat)) : Prop where
  x : Rs L 1 v b.length (bsv b)
  t : TkR L vt ts
  nb : b.length ≤ 200000
  nt : ts.length ≤ 200000
theorem PcR.sub {L L' : List Chunk} (hs : ∀ x ∈ L.flatten, x ∈ L'.flatten) {v vt : Value} {b : List UInt8} {ts : List (Nat × Nat)} (h : PcR L v vt b ts) : PcR L' v vt b ts := ⟨h.x.sub hs, h.t.sub hs, h.nb, h.nt⟩
set_option maxHeartbeats 8000000 in
theorem pieceOf_n (v : Value) (b : List UInt8) (S L : List Chunk) (hi9 : Inc S L) (hts : Rs S 1 v b.length (bsv b)) (hb : b.length ≤ 200000) :
    Gv Tryz.prog 36 [v].toArray L (fun r L' => ∃ vt C, r = .agg #[v, vt] ∧ PcR (C :: S) v vt b (pcT b) ∧ L' = C :: L) := by
  refine Gv.of_body (args := [v]) Tryz.func36 rfl rfl ?_
  have ht := hts.sub hi9.mem
  obtain ⟨va, vc, rfl, hroom⟩ := ht.room
  have hok := pcT_ok b
  have hmt := fun B => matches_n (.slice va b.length vc) 32768 b (B :: L) ht.there hb (by omega)
  have hms := msR_ok b 32768
  unfold pcT at *
  rw [show (min 32768 32768 : Int) = 32768 from rfl] at hms
  generalize msR b 32768 = ms at hmt hok hms ⊢
  (repeat' first|refine kW ?_|refine kU fun bk=>?_|refine kV fun hc=>?_|refine kZ (fun hc=>?_) fun hc=>?_|fail)
  refine OW_call rfl rfl rfl (hmt _) rfl (fun r L' hp => ?_)
  obtain ⟨C, ho, rfl⟩ := hp
  rw [mtc_flt] at ho
  have hml : ms.length ≤ 9223372036854775807 := by
    rcases ho with ⟨_, h0, _⟩ | ⟨_, cap, _, _, _, _, _, h1, h2⟩
    · omega
    · unfold maxLen at h2; omega
  have hrs := fun L => Rs.ow (L := L) ho
  obtain ⟨ra, rc, rfl, _⟩ := (hrs []).room
  (repeat' first|refine kW ?_|refine kU fun bk=>?_|refine kV fun hc=>?_|refine kZ (fun hc=>?_) fun hc=>?_|fail)
  have hpl : (pcF b 0 ms).length ≤ 200000 := by omega
  refine WC_loop (X := Nat × Nat × List (Nat × Nat) × Value × Chunk) (fun x => [(0, .slice va b.length vc), (2, .pointer (some ⟨bk, 0, none⟩)), (3, x.2.2.2.1), (4, .int .i64 (x.2.1 : Int)), (8, .slice ra ms.length rc), (9, .int .i64 (ms.length : Int)), (10, .int .i64 (x.1 : Int))])
    (fun x => x.2.2.2.2 :: C :: [(bk, cl [.slice none 0 0, .slice none 0 0] 83)] :: L)
    (fun x => x.1 ≤ ms.length ∧ x.2.1 ≤ b.length ∧ MsOk b 32768 x.2.1 (ms.drop x.1) ∧ x.2.2.1 ++ pcF b x.2.1 (ms.drop x.1) = pcF b 0 ms ∧ Ow 133 2 x.2.2.2.1 x.2.2.1.length (flt TkV x.2.2.1) x.2.2.2.2) (fun x => ms.length - x.1) (0, 0, [], .slice none 0 0, [])
    ⟨Nat.zero_le _, Nat.zero_le _, hms, rfl, .inl ⟨rfl, rfl, rfl, rfl⟩⟩ iS (fun w h => Holds.nil.2 h) ?_
  rintro ⟨j, i, dn, vl, Cl⟩ ⟨hj, hi, hmo, hdn, hov⟩
  simp only at hj hi hmo hdn hov ⊢
  have hdl : dn.length ≤ 200000 := by rw [← hdn, List.length_append] at hpl; omega
  (repeat' first|refine kW ?_|refine kU fun bk=>?_|refine kV fun hc=>?_|refine kZ (fun hc=>?_) fun hc=>?_|fail)
  · have hjl : j < ms.length := by omega
    obtain ⟨m, hm⟩ : ∃ m, ms[j]? = some m := ⟨ms[j], List.getElem?_eq_getElem hjl⟩
    have hdr : ms.drop j = m :: ms.drop (j + 1) := by
      have hx : ms[j] = m := by rw [List.getElem?_eq_getElem hjl] at hm; simpa using hm
      rw [List.drop_eq_getElem_cons hjl, hx]
    rw [hdr] at hmo hdn
    obtain ⟨m1, m2, m3⟩ := hmo
    have g1 := m2.n3
    have g2 := m2.nm
    have g3 := m2.fit
    have g5 := m2.dr
    obtain ⟨tb, toff, tcap, hv9, hrd⟩ := (hrs ([(bk, cl [.slice none 0 0, .slice none 0 0] 83)] :: L)).elem hjl (by decide)
    injection hv9 with q1 q2 q3
    subst q1 q3
    clear q2
    rw [flt_at (k := 3) (fun _ => rfl) hm] at hrd
    rw [pcF] at hdn
    obtain ⟨at9, n, d⟩ := m
    simp only at m1 m2 m3 g1 g2 g3 g5 hdn
    have hrd : RdAt (C :: [(bk, cl [.slice none 0 0, .slice none 0 0] 83)] :: L) ⟨tb, toff + j * 3, none⟩ [.int .i64 (at9 : Int), .int .i64 (n : Int), .int .i64 (d : Int)] := hrd
    refine OW_EV (EV_indexAddr (j := j) rfl rfl rfl hjl) rfl ?_
    (repeat' first|refine kW ?_|refine kU fun bk=>?_|refine kV fun hc=>?_|refine kZ (fun hc=>?_) fun hc=>?_|fail)
    refine OW_EV (EV_loadAgg rfl (rd_there hrd) rfl) rfl ?_
    (repeat' first|refine kW ?_|refine kU fun bk=>?_|refine kV fun hc=>?_|refine kZ (fun hc=>?_) fun hc=>?_|fail)
    obtain ⟨r1, hr1, hev1⟩ := EV_sliceRs (P := Tryz.prog) (T := 22) ht (l := i) (h := at9) m1 (by omega)
    refine OW_EV (hev1 rfl rfl rfl) rfl ?_
    have hpiece : ((bsv b).drop (i * 1)).take ((at9 - i) * 1) = bsv ((b.drop i).take (at9 - i)) := by simp [bsv, List.map_take, List.map_drop]
    rw [hpiece] at hr1
    have hlen1 : ((b.drop i).take (at9 - i)).length = at9 - i := by rw [List.length_take, List.length_drop]; omega
    have hli := fun B1 B2 B3 B4 => literals_n r1 ((b.drop i).take (at9 - i)) (B1 :: B2 :: B3 :: B4 :: L) (by rw [hlen1]; exact hr1.there.there.there.there.sl) (by omega)
    generalize lits ((b.drop i).take (at9 - i)) = li at hli hdn
    have hlil : li.length + dn.length ≤ 200000 := by rw [← hdn, List.length_append, List.length_append] at hpl; omega
    (repeat' first|refine kW ?_|refine kU fun bk=>?_|refine kV fun hc=>?_|refine kZ (fun hc=>?_) fun hc=>?_|fail)
    refine OW_call rfl rfl rfl (hli _ _ _ _) rfl (fun r L' hp => ?_)
    obtain ⟨C2, ho2, rfl⟩ := hp
    (repeat' first|refine kW ?_|refine kU fun bk=>?_|refine kV fun hc=>?_|refine kZ (fun hc=>?_) fun hc=>?_|fail)
    refine OW_append rfl rfl hov (ow_sl ho2) (by repeat (first | exact Zip.here _ | apply Zip.there)) rfl (flt_ones TkV_ones _) (by omega) (by simp [maxLen]; omega) rfl (fun vl2 Cl2 hov2 _ _ => ?_)
    rw [← flt_app, ← List.length_append] at hov2
    (repeat' first|refine kW ?_|refine kU fun bk=>?_|refine kV fun hc=>?_|refine kZ (fun hc=>?_) fun hc=>?_|fail)
    refine OW_buildSlice (cs := TkV (n, d)) rfl (by rfl) (by first | (simp [fillL, patch, Value.cells, zeros]; done) | (simp [fillL, patch, Value.cells, zeros]; rfl)) (by omega) rfl rfl (fun bn => ?_)
    (repeat' first|refine kW ?_|refine kU fun bk=>?_|refine kV fun hc=>?_|refine kZ (fun hc=>?_) fun hc=>?_|fail)
    refine OW_append rfl rfl hov2 (sl_cells (k := 2) (c := (TkV (n, d)).toArray) (xs := TkV (n, d)) (m := 1) Fnd.here rfl (by simp)) (by repeat (first | exact Zip.here _ | apply Zip.there)) rfl (by rfl) (by rw [List.length_append]; omega) (by rw [List.length_append]; simp [maxLen]; omega) rfl (fun vl3 Cl3 hov3 _ _ => ?_)
    rw [show flt TkV (dn ++ li) ++ TkV (n, d) = flt TkV ((dn ++ li) ++ [(n, d)]) from by rw [flt_app TkV (dn ++ li)]; simp [flt], show (dn ++ li).length + 1 = ((dn ++ li) ++ [(n, d)]).length from by simp [Nat.add_assoc]] at hov3
    (repeat' first|refine kW ?_|refine kU fun bk=>?_|refine kV fun hc=>?_|refine kZ (fun hc=>?_) fun hc=>?_|fail)
    refine WQ_round (X := Nat × Nat × List (Nat × Nat) × Value × Chunk) (μ := fun x => ms.length - x.1) (x := (j, i, dn, vl, Cl)) (j + 1, at9 + n, (dn ++ li) ++ [(n, d)], vl3, Cl3) (by simp only; omega) ⟨by simp only; omega, by simp only; omega, m3, by simp only; rw [← hdn]; simp, hov3⟩ iS (fun w h => iH h)
  · obtain rfl : j = ms.length := by omega
    rw [List.drop_length, pcF] at hdn
    obtain ⟨r1, hr1, hev1⟩ := EV_sliceRs (P := Tryz.prog) (T := 22) ht (l := i) (h := b.length) hi (Nat.le_refl _)
    refine OW_EV (hev1 rfl rfl rfl) rfl ?_
    have hpiece : ((bsv b).drop (i * 1)).take ((b.length - i) * 1) = bsv (b.drop i) := by
      rw [Nat.mul_one, Nat.mul_one, List.take_of_length_le (by rw [List.length_drop, bsv_length]; exact Nat.le_refl _)]
      simp [bsv, List.map_drop]
    rw [hpiece] at hr1
    have hli := fun B1 B2 B3 => literals_n r1 (b.drop i) (B1 :: B2 :: B3 :: L) (by rw [List.length_drop]; exact hr1.there.there.there.sl) (by rw [List.length_drop]; omega)
    generalize lits (b.drop i) = li at hli hdn
    have hlil : li.length + dn.length ≤ 200000 := by rw [← hdn, List.length_append] at hpl; omega
    (repeat' first|refine kW ?_|refine kU fun bk=>?_|refine kV fun hc=>?_|refine kZ (fun hc=>?_) fun hc=>?_|fail)
    refine OW_call rfl rfl rfl (hli _ _ _) rfl (fun r L' hp => ?_)
    obtain ⟨C2, ho2, rfl⟩ := hp
    (repeat' first|refine kW ?_|refine kU fun bk=>?_|refine kV fun hc=>?_|refine kZ (fun hc=>?_) fun hc=>?_|fail)
    refine OW_append rfl rfl hov (ow_sl ho2) (by repeat (first | exact Zip.here _ | apply Zip.there)) rfl (flt_ones TkV_ones _) (by omega) (by simp [maxLen]; omega) rfl (fun vl2 Cl2 hov2 _ _ => ?_)
    rw [← flt_app, ← List.length_append, hdn] at hov2
    (repeat' first|refine kW ?_|refine kU fun bk=>?_|refine kV fun hc=>?_|refine kZ (fun hc=>?_) fun hc=>?_|fail)
    obtain ⟨a2, c2, rfl⟩ := ow_slc hov2
    (repeat' first|refine kW ?_|refine kU fun bk=>?_|refine kV fun hc=>?_|refine kZ (fun hc=>?_) fun hc=>?_|fail)
    have hrl : RdAt ([C2] ++ Cl2 :: C :: [(bk, cl [.slice va b.length vc, .slice a2 (pcF b 0 ms).length c2] 83)] :: L) ⟨bk, 0, none⟩ [.slice va b.length vc, .slice a2 (pcF b 0 ms).length c2] := RdAt.cl' (.there (.there (.there .here))) rfl
    have hfin : PcR (Cl2 :: S) (.slice va b.length vc) (.slice a2 (pcF b 0 ms).length c2) b (pcF b 0 ms) := ⟨hts.there, ⟨Rs.ow hov2, hok.1⟩, hb, hpl⟩
    first
      | (refine WQ_retC (vs := [.agg #[.slice va b.length vc, .slice a2 (pcF b 0 ms).length c2]]) rfl (.agg ⟨by kernel_rfl, by kernel_rfl⟩ rfl hrl rfl .nil) ?_
         exact ⟨Cl2 :: L, fun w h => iH h, _, Cl2, rfl, hfin, rfl⟩)
      | (refine WQ_endC (vs := [.agg #[.slice va b.length vc, .slice a2 (pcF b 0 ms).length c2]]) rfl (.agg ⟨by kernel_rfl, by kernel_rfl⟩ rfl hrl rfl .nil) ?_
         exact ⟨Cl2 :: L, fun w h => iH h, _, Cl2, rfl, hfin, rfl⟩)
end Go.Proofs.YtdcehmhelfohfaaGreatDoor
namespace Go.Df
open Go.Vx Go.If Go.Hf
set_option linter.all false
def inc (l : List Nat) (i : Nat) : List Nat := l.set i (l.getD i 0 + 1)
theorem inc_len (l : List Nat) (i : Nat) : (inc l i).length = l.length := by simp [inc]
theorem inc_get {l : List Nat} {i : Nat} (h : i < l.length) (j : Nat) : (inc l i).getD j 0 = l.getD j 0 + if j = i then 1 else 0 := by
  unfold inc
  by_cases hj : j = i
  · subst hj
    rw [if_pos rfl]
    simp [List.getD, h]
  · rw [if_neg hj]
    simp [List.getD, List.getElem?_set_ne (Ne.symm hj)]
def sS (f : Nat → Nat) (n : Nat) (cs : List Nat) : Nat := Go.Pm.sumTo (fun i => cs.getD i 0 * f i) n
theorem sS_succ (f : Nat → Nat) (n : Nat) (cs : List Nat) : sS f (n + 1) cs = sS f n cs + cs.getD n 0 * f n := rfl
theorem sS_inc {f : Nat → Nat} {cs : List Nat} {i : Nat} (h : i < cs.length) : ∀ n, sS f n (inc cs i) = sS f n cs + if i < n then f i else 0
  | 0 => by simp [sS, Go.Pm.sumTo]
  | n + 1 => by
    rw [sS_succ, sS_succ, sS_inc h n, inc_get h]
    by_cases h1 : i = n
    · subst h1
      rw [if_neg (by omega), if_pos rfl, if_pos (by omega), Nat.add_mul, Nat.one_mul]
      omega
    · rw [if_neg (fun hh : n = i => h1 hh.symm), Nat.add_zero]
      by_cases h2 : i < n
      · rw [if_pos h2, if_pos (show i < n + 1 by omega)]; omega
      · rw [if_neg h2, if_neg (show ¬ i < n + 1 by omega)]; omega
theorem sS_le {f : Nat → Nat} {cs : List Nat} {B F : Nat} (h1 : ∀ i, cs.getD i 0 ≤ B) (h2 : ∀ i, f i ≤ F) : ∀ n, sS f n cs ≤ n * (B * F)
  | 0 => by simp [sS, Go.Pm.sumTo]
  | n + 1 => by
    have := sS_le h1 h2 n
    have := Nat.mul_le_mul (h1 n) (h2 n)
    rw [sS_succ, Nat.succ_mul]
    omega
theorem rep_get (n i : Nat) : (List.replicate n 0).getD i 0 = 0 := by
  simp only [List.getD_eq_getElem?_getD, List.getElem?_replicate]
  split <;> rfl
theorem sS_zero (f : Nat → Nat) (m : Nat) : ∀ n, sS f n (List.replicate m 0) = 0
  | 0 => rfl
  | n + 1 => by rw [sS_succ, sS_zero f m n, rep_get]; simp
def cA (ts : List (Nat × Nat)) : List Nat := ts.foldl (fun l t => inc l (tsy t)) (List.replicate 286 0)
def cD (ts : List (Nat × Nat)) : List Nat := ts.foldl (fun l t => if t.2 = 0 then l else inc l (odN t.2)) (List.replicate 30 0)
theorem cA_app (a : List (Nat × Nat)) (t : Nat × Nat) : cA (a ++ [t]) = inc (cA a) (tsy t) := by unfold cA; rw [List.foldl_append]; rfl
theorem cD_app (a : List (Nat × Nat)) (t : Nat × Nat) : cD (a ++ [t]) = if t.2 = 0 then cD a else inc (cD a) (odN t.2) := by unfold cD; rw [List.foldl_append]; rfl
theorem snoc_ind {α : Type} {P : List α → Prop} (h0 : P []) (h1 : ∀ a t, P a → P (a ++ [t])) (l : List α) : P l := by
  have : ∀ n (l : List α), l.length = n → P l := by
    intro n
    induction n with
    | zero => intro l hl; rw [List.length_eq_zero_iff.1 hl]; exact h0
    | succ n ih =>
      intro l hl
      have hne : l ≠ [] := fun h => by rw [h] at hl; cases hl
      rw [← List.dropLast_concat_getLast hne]
      exact h1 _ _ (ih _ (by rw [List.length_dropLast]; omega))
  exact this _ l rfl
theorem cA_len (ts : List (Nat × Nat)) : (cA ts).length = 286 := by
  induction ts using snoc_ind with
  | h0 => exact List.length_replicate
  | h1 a t ih => rw [cA_app, inc_len, ih]
theorem cD_len (ts : List (Nat × Nat)) : (cD ts).length = 30 := by
  induction ts using snoc_ind with
  | h0 => exact List.length_replicate
  | h1 a t ih =>
    rw [cD_app]
    split
    · exact ih
    · rw [inc_len, ih]
theorem cA_le {ts : List (Nat × Nat)} (h : ∀ t ∈ ts, TkOk t) (i : Nat) : (cA ts).getD i 0 ≤ ts.length := by
  induction ts using snoc_ind with
  | h0 => rw [show cA [] = List.replicate 286 0 from rfl, rep_get]; exact Nat.zero_le _
  | h1 a t ih =>
    have ht := tsy_lt (h t (by simp))
    rw [cA_app, inc_get (by rw [cA_len]; exact ht.1), List.length_append, List.length_singleton]
    have := ih (fun x hx => h x (by simp [hx]))
    split <;> omega
theorem cD_le {ts : List (Nat × Nat)} (h : ∀ t ∈ ts, TkOk t) (i : Nat) : (cD ts).getD i 0 ≤ ts.length := by
  induction ts using snoc_ind with
  | h0 => rw [show cD [] = List.replicate 30 0 from rfl, rep_get]; exact Nat.zero_le _
  | h1 a t ih =>
    have := ih (fun x hx => h x (by simp [hx]))
    rw [cD_app, List.length_append, List.length_singleton]
    split
    · omega
    · rename_i h0
      have hto := h t (by simp)
      have : odN t.2 ≤ 29 := by rcases hto with ⟨g, _⟩ | ⟨g1, g2, _⟩; exact absurd g h0; exact (odN_ok g1 g2).1
      rw [inc_get (by rw [cD_len]; omega)]
      split <;> omega
def fxA (i : Nat) : Nat := if 257 ≤ i then (lnB i).2 else 0
theorem co_size [W0] {l dl : List Nat} {ts : List (Nat × Nat)} (h : ∀ t ∈ ts, TkOk t) :
    itL (tsI l dl (ts.map tok)) = sS (fun i => l.getD i 0) 286 (cA ts) + sS (fun i => dl.getD i 0) 30 (cD ts) + (sS fxA 286 (cA ts) + sS (fun i => exB i 2 4) 30 (cD ts)) := by
  induction ts using snoc_ind with
  | h0 =>
    rw [show cA [] = List.replicate 286 0 from rfl, show cD [] = List.replicate 30 0 from rfl, sS_zero, sS_zero, sS_zero, sS_zero]
    rfl
  | h1 a t ih =>
    have hto := h t (by simp)
    have hty := tsy_lt hto
    rw [List.map_append, tsI_app, itL_app, ih (fun x hx => h x (by simp [hx])), cA_app, sS_inc (by rw [cA_len]; exact hty.1), sS_inc (by rw [cA_len]; exact hty.1), if_pos hty.1, if_pos hty.1, cD_app]
    simp only [List.map_cons, List.map_nil, tsI, List.append_nil]
    by_cases h0 : t.2 = 0
    · rw [if_pos h0, tkI_lit hto h0]
      have : fxA (tsy t) = 0 := by
        unfold fxA tsy
        rw [if_pos h0, if_neg]
        rcases hto with ⟨_, g⟩ | ⟨g, _⟩ <;> omega
      rw [this]
      simp only [itL, sc]
      omega
    · have hod : odN t.2 ≤ 29 := by rcases hto with ⟨g, _⟩ | ⟨g1, g2, _⟩; exact absurd g h0; exact (odN_ok g1 g2).1
      rw [if_neg h0, tkI_mt h0, sS_inc (by rw [cD_len]; omega), sS_inc (by rw [cD_len]; omega), if_pos (by omega), if_pos (by omega)]
      have : fxA (tsy t) = (lnB (tsy t)).2 := by unfold fxA; rw [if_pos (hty.2.1 h0)]
      rw [this]
      simp only [itL, itL_app, sc]
      omega
end Go.Df
namespace Go.Vx
open Go
set_option linter.all false
variable [W0]
theorem WR_any {P : Program} {n : Nat} {ops : List Oper} {Q : Exit → Act → World → Prop} {S : List Chunk} {T : List Nat} {fuel : Nat} {listed : Array Bool} {M : List (Nat × Value)} {L : List Chunk} (js : List Nat) (hr : Region.ready .any ops.toArray listed = js) (hne : js ≠ [])
    (h : ∀ j, j ∈ js → ∃ o, ops[j]? = some o ∧ o.guard = none ∧ OW P n o (WRk P n ops Q S T fuel (listed.setIfInBounds j true)) M L) : WR P n ops Q S T (fuel + 1) listed M L := ⟨fun a w ha hw => by
  refine ⟨fun h0 => absurd (hr ▸ h0) hne, fun j hj => ?_⟩
  rw [hr] at hj
  obtain ⟨o, hi, hg, ho⟩ := h j hj
  unfold wpOp
  simp only [List.getElem?_toArray, hi]
  rw [if_pos (by simp [Region.wanted, hg])]
  exact .inl (ho.out a w _ Q ha hw fun M' L' hk => ⟨fun a' w' ha' hw' => ⟨fun _ => hk.inc.holds hw', hk.out.out a' w' ha' hw'⟩⟩)⟩
end Go.Vx
namespace Go.Proofs.YtdcehmhelfohfaaGreatDoor
open Go Go.Vx Go.Hf Go.If Go.Df
variable [W0]
set_option maxRecDepth 4000
set_option linter.all false
set_option maxHeartbeats 2000000 in
theorem codeOf_n (v : Value) (ls : List Nat) (L : List Chunk) (h : Rs L 1 v ls.length (ivn ls)) (hk : Cok ls) (hn : ls.length ≤ 400) :
    Gv Tryz.prog 65 [v].toArray L (fun r L' => ∃ u C, r = .agg #[v, u] ∧ Rs [C] 1 u ls.length (wnv (cds ls)) ∧ L' = C :: L) := by
  refine Gv.of_body (args := [v]) Tryz.func65 rfl rfl ?_
  obtain ⟨va, vc, rfl, hroom⟩ := h.room
  have hc := fun B => hcodes_n va vc (icn ls) (B :: L) (by rw [icn_length, intsN_icn]; exact sl_there h.sl) (by rw [icn_length]; omega)
  have he := cdE_zero (ls := icn ls) (by rw [icn_length]; exact hn) (okL_icn hk.le) (by rw [nl_icn]; exact hk.k)
  rw [nl_icn] at he
  rw [icn_length, he.1, he.2] at hc
  (repeat' first|refine kW ?_|refine kU fun bk=>?_|refine kV fun hc=>?_|refine kZ (fun hc=>?_) fun hc=>?_|fail)
  refine OW_call rfl rfl rfl (hc _) rfl (fun r L' hp => ?_)
  obtain ⟨u, C, rfl, rfl, ho⟩ := hp
  obtain ⟨ua, uc, rfl⟩ := ow_slc ho
  rw [show (cds ls).length = ls.length from by simp [cds]] at ho ⊢
  (repeat' first|refine kW ?_|refine kU fun bk=>?_|refine kV fun hc=>?_|refine kZ (fun hc=>?_) fun hc=>?_|fail)
  have hrl : RdAt (C :: [(bk, cl [.slice va ls.length vc, .slice ua ls.length uc] 87)] :: L) ⟨bk, 0, none⟩ [.slice va ls.length vc, .slice ua ls.length uc] := RdAt.cl' (.there .here) rfl
  have hfin : Rs [C] 1 (.slice ua ls.length uc) ls.length (wnv (cds ls)) := Rs.ow ho
  first
    | (refine WQ_retC (vs := [.agg #[.slice va ls.length vc, .slice ua ls.length uc]]) rfl (.agg ⟨by kernel_rfl, by kernel_rfl⟩ rfl hrl rfl .nil) ?_
       exact ⟨C :: L, fun w h => iH h, _, C, rfl, hfin, rfl⟩)
    | (refine WQ_endC (vs := [.agg #[.slice va ls.length vc, .slice ua ls.length uc]]) rfl (.agg ⟨by kernel_rfl, by kernel_rfl⟩ rfl hrl rfl .nil) ?_
       exact ⟨C :: L, fun w h => iH h, _, C, rfl, hfin, rfl⟩)
set_option maxHeartbeats 8000000 in
theorem countsOf_n (vt : Value) (ts : List (Nat × Nat)) (L : List Chunk) (h : TkR L vt ts) (hn : ts.length ≤ 200000) :
    Gv Tryz.prog 66 [vt].toArray L (fun r L' => ∃ v1 v2 C, r = .agg #[v1, v2] ∧ Rs [C] 1 v1 286 (ivn (inc (cA ts) 256)) ∧ Rs [C] 1 v2 30 (ivn (cD ts)) ∧ L' = C :: L) := by
  refine Gv.of_body (args := [vt]) Tryz.func66 rfl rfl ?_
  obtain ⟨ta, tc, rfl, hroom⟩ := h.rs.room
  refine WC_seq ?_
  (repeat' first|refine kY ?_|refine kU fun bk=>?_|refine kV fun hc=>?_|refine kZ (fun hc=>?_) fun hc=>?_|fail)
  refine WC_cut (X := Nat × Nat × Nat) (fun z => [(0, .slice ta ts.length tc), (2, .pointer (some ⟨bk, 0, none⟩)), (3, .pointer (some ⟨z.2.2, 0, none⟩))])
    (fun z => [(z.2.2, cl [.slice (some ⟨z.1, 0, none⟩) 286 286, .slice (some ⟨z.2.1, 0, none⟩) 30 30] 137)] :: [(z.1, cl (ivn (cA [])) 3)] :: [(z.2.1, cl (ivn (cD [])) 3)] :: [(bk, cl [.slice none 0 0, .slice none 0 0] 137)] :: L) (fun _ => True) ?_ (fun z _ => ?_)
  · refine WC_drawAll [4] mixed ?_
    refine WR_any (js := [0, 1, 3]) (by kernel_rfl) (by simp) (fun j hj => ?_)
    simp only [List.mem_cons, List.not_mem_nil, or_false] at hj
    rcases hj with rfl | rfl | rfl
    · refine ⟨_, rfl, rfl, ?_⟩
      refine OW_makeSlice (m := 286) (c := 286) rfl rfl (by rfl) (by omega) (by omega) (by omega) rfl (fun q0 => ?_)
      rw [zeros_int]
      refine ⟨iC, ?_⟩
      refine WR_any (js := [1, 3]) (by kernel_rfl) (by simp) (fun j hj => ?_)
      simp only [List.mem_cons, List.not_mem_nil, or_false] at hj
      rcases hj with rfl | rfl
      · refine ⟨_, rfl, rfl, ?_⟩
        refine OW_makeSlice (m := 30) (c := 30) rfl rfl (by rfl) (by omega) (by omega) (by omega) rfl (fun q1 => ?_)
        rw [zeros_int]
        refine ⟨iC, ?_⟩
        (refine WR_t 2 ?_)
        (refine WR_one 3 (by kernel_rfl) rfl rfl ?_)
        refine OW_alloc rfl (fun q3 => ?_)
        refine ⟨iC, ?_⟩
        (refine WR_last 4 (by kernel_rfl) rfl rfl rfl ?_)
        refine OW_storeAggTo (l := [.slice none 0 0, .slice none 0 0]) [.slice (some ⟨q0, 0, none⟩) 286 286, .slice (some ⟨q1, 0, none⟩) 30 30] rfl rfl rfl rfl rfl iU (by simp) ?_
        (refine WR_done (by kernel_rfl) ?_)
        (repeat' first|refine kW ?_|refine kU fun bk=>?_|refine kV fun hc=>?_|refine kZ (fun hc=>?_) fun hc=>?_|fail)
        refine WQ_cut (q0, q1, q3) trivial iS (fun w h => iH h)
      · refine ⟨_, rfl, rfl, ?_⟩
        refine OW_alloc rfl (fun q3 => ?_)
        refine ⟨iC, ?_⟩
        (refine WR_one 1 (by kernel_rfl) rfl rfl ?_)
        refine OW_makeSlice (m := 30) (c := 30) rfl rfl (by rfl) (by omega) (by omega) (by omega) rfl (fun q1 => ?_)
        rw [zeros_int]
        refine ⟨iC, ?_⟩
        (refine WR_t 2 ?_)
        (refine WR_last 4 (by kernel_rfl) rfl rfl rfl ?_)
        refine OW_storeAggTo (l := [.slice none 0 0, .slice none 0 0]) [.slice (some ⟨q0, 0, none⟩) 286 286, .slice (some ⟨q1, 0, none⟩) 30 30] rfl rfl rfl rfl rfl iU (by simp) ?_
        (refine WR_done (by kernel_rfl) ?_)
        (repeat' first|refine kW ?_|refine kU fun bk=>?_|refine kV fun hc=>?_|refine kZ (fun hc=>?_) fun hc=>?_|fail)
        refine WQ_cut (q0, q1, q3) trivial iS (fun w h => iH h)
    · refine ⟨_, rfl, rfl, ?_⟩
      refine OW_makeSlice (m := 30) (c := 30) rfl rfl (by rfl) (by omega) (by omega) (by omega) rfl (fun q1 => ?_)
      rw [zeros_int]
      refine ⟨iC, ?_⟩
      refine WR_any (js := [0, 3]) (by kernel_rfl) (by simp) (fun j hj => ?_)
      simp only [List.mem_cons, List.not_mem_nil, or_false] at hj
      rcases hj with rfl | rfl
      · refine ⟨_, rfl, rfl, ?_⟩
        refine OW_makeSlice (m := 286) (c := 286) rfl rfl (by rfl) (by omega) (by omega) (by omega) rfl (fun q0 => ?_)
        rw [zeros_int]
        refine ⟨iC, ?_⟩
        (refine WR_t 2 ?_)
        (refine WR_one 3 (by kernel_rfl) rfl rfl ?_)
        refine OW_alloc rfl (fun q3 => ?_)
        refine ⟨iC, ?_⟩
        (refine WR_last 4 (by kernel_rfl) rfl rfl rfl ?_)
        refine OW_storeAggTo (l := [.slice none 0 0, .slice none 0 0]) [.slice (some ⟨q0, 0, none⟩) 286 286, .slice (some ⟨q1, 0, none⟩) 30 30] rfl rfl rfl rfl rfl iU (by simp) ?_
        (refine WR_done (by kernel_rfl) ?_)
        (repeat' first|refine kW ?_|refine kU fun bk=>?_|refine kV fun hc=>?_|refine kZ (fun hc=>?_) fun hc=>?_|fail)
        refine WQ_cut (q0, q1, q3) trivial iS (fun w h => iH h)
      · refine ⟨_, rfl, rfl, ?_⟩
        refine OW_alloc rfl (fun q3 => ?_)
        refine ⟨iC, ?_⟩
        (refine WR_one 0 (by kernel_rfl) rfl rfl ?_)
        refine OW_makeSlice (m := 286) (c := 286) rfl rfl (by rfl) (by omega) (by omega) (by omega) rfl (fun q0 => ?_)
        rw [zeros_int]
        refine ⟨iC, ?_⟩
        (refine WR_t 2 ?_)
        (refine WR_last 4 (by kernel_rfl) rfl rfl rfl ?_)
        refine OW_storeAggTo (l := [.slice none 0 0, .slice none 0 0]) [.slice (some ⟨q0, 0, none⟩) 286 286, .slice (some ⟨q1, 0, none⟩) 30 30] rfl rfl rfl rfl rfl iU (by simp) ?_
        (refine WR_done (by kernel_rfl) ?_)
        (repeat' first|refine kW ?_|refine kU fun bk=>?_|refine kV fun hc=>?_|refine kZ (fun hc=>?_) fun hc=>?_|fail)
        refine WQ_cut (q0, q1, q3) trivial iS (fun w h => iH h)
    · refine ⟨_, rfl, rfl, ?_⟩
      refine OW_alloc rfl (fun q3 => ?_)
      refine ⟨iC, ?_⟩
      refine WR_any (js := [0, 1]) (by kernel_rfl) (by simp) (fun j hj => ?_)
      simp only [List.mem_cons, List.not_mem_nil, or_false] at hj
      rcases hj with rfl | rfl
      · refine ⟨_, rfl, rfl, ?_⟩
        refine OW_makeSlice (m := 286) (c := 286) rfl rfl (by rfl) (by omega) (by omega) (by omega) rfl (fun q0 => ?_)
        rw [zeros_int]
        refine ⟨iC, ?_⟩
        (refine WR_one 1 (by kernel_rfl) rfl rfl ?_)
        refine OW_makeSlice (m := 30) (c := 30) rfl rfl (by rfl) (by omega) (by omega) (by omega) rfl (fun q1 => ?_)
        rw [zeros_int]
        refine ⟨iC, ?_⟩
        (refine WR_t 2 ?_)
        (refine WR_last 4 (by kernel_rfl) rfl rfl rfl ?_)
        refine OW_storeAggTo (l := [.slice none 0 0, .slice none 0 0]) [.slice (some ⟨q0, 0, none⟩) 286 286, .slice (some ⟨q1, 0, none⟩) 30 30] rfl rfl rfl rfl rfl iU (by simp) ?_
        (refine WR_done (by kernel_rfl) ?_)
        (repeat' first|refine kW ?_|refine kU fun bk=>?_|refine kV fun hc=>?_|refine kZ (fun hc=>?_) fun hc=>?_|fail)
        refine WQ_cut (q0, q1, q3) trivial iS (fun w h => iH h)
      · refine ⟨_, rfl, rfl, ?_⟩
        refine OW_makeSlice (m := 30) (c := 30) rfl rfl (by rfl) (by omega) (by omega) (by omega) rfl (fun q1 => ?_)
        rw [zeros_int]
        refine ⟨iC, ?_⟩
        (refine WR_one 0 (by kernel_rfl) rfl rfl ?_)
        refine OW_makeSlice (m := 286) (c := 286) rfl rfl (by rfl) (by omega) (by omega) (by omega) rfl (fun q0 => ?_)
        rw [zeros_int]
        refine ⟨iC, ?_⟩
        (refine WR_t 2 ?_)
        (refine WR_last 4 (by kernel_rfl) rfl rfl rfl ?_)
        refine OW_storeAggTo (l := [.slice none 0 0, .slice none 0 0]) [.slice (some ⟨q0, 0, none⟩) 286 286, .slice (some ⟨q1, 0, none⟩) 30 30] rfl rfl rfl rfl rfl iU (by simp) ?_
        (refine WR_done (by kernel_rfl) ?_)
        (repeat' first|refine kW ?_|refine kU fun bk=>?_|refine kV fun hc=>?_|refine kZ (fun hc=>?_) fun hc=>?_|fail)
        refine WQ_cut (q0, q1, q3) trivial iS (fun w h => iH h)
  · obtain ⟨b1, b2, b3⟩ := z
    simp only
    (repeat' first|refine kW ?_|refine kU fun bk=>?_|refine kV fun hc=>?_|refine kZ (fun hc=>?_) fun hc=>?_|fail)
    refine WC_loop (X := Nat) (fun x => [(2, .pointer (some ⟨bk, 0, none⟩)), (3, .pointer (some ⟨b3, 0, none⟩)), (9, .slice ta ts.length tc), (10, .int .i64 (ts.length : Int)), (11, .int .i64 (x : Int))])
      (fun x => [(b3, cl [.slice (some ⟨b1, 0, none⟩) 286 286, .slice (some ⟨b2, 0, none⟩) 30 30] 137)] :: [(b1, cl (ivn (cA (ts.take x))) 3)] :: [(b2, cl (ivn (cD (ts.take x))) 3)] :: [(bk, cl [.slice none 0 0, .slice none 0 0] 137)] :: L)
      (fun x => x ≤ ts.length) (fun x => ts.length - x) 0 (Nat.zero_le _) iS (fun w h => h) ?_
    intro j hj9
    have hj : j ≤ ts.length := hj9
    have hla := cA_len (ts.take j)
    have hld := cD_len (ts.take j)
    have hga := fun i => cA_le (ts := ts.take j) (fun t ht => h.ok t (List.mem_of_mem_take ht)) i
    have hgd := fun i => cD_le (ts := ts.take j) (fun t ht => h.ok t (List.mem_of_mem_take ht)) i
    rw [List.length_take, Nat.min_eq_left hj] at hga hgd
    (repeat' first|refine kW ?_|refine kU fun bk=>?_|refine kV fun hc=>?_|refine kZ (fun hc=>?_) fun hc=>?_|fail)
    · have hjl : j < ts.length := by omega
      obtain ⟨t, ht⟩ : ∃ t, ts[j]? = some t := ⟨ts[j], List.getElem?_eq_getElem hjl⟩
      have hto := h.ok t (List.mem_of_getElem? ht)
      have hsy := tsy_lt hto
      have hsA := cA_app (ts.take j) t
      have hsD := cD_app (ts.take j) t
      rw [← takeSucc ht] at hsA hsD
      obtain ⟨tb, toff, tcap, hv9, hrd⟩ := h.rs.elem hjl (by decide)
      injection hv9 with q1 q2 q3
      subst q1 q3
      clear q2
      rw [flt_at TkV_len ht] at hrd
      refine OW_EV (EV_indexAddr (j := j) rfl rfl rfl hjl) rfl ?_
      (repeat' first|refine kW ?_|refine kU fun bk=>?_|refine kV fun hc=>?_|refine kZ (fun hc=>?_) fun hc=>?_|fail)
      refine OW_EV (EV_loadAgg rfl (rd_there (rd_there (rd_there (rd_there hrd)))) rfl) rfl ?_
      unfold TkV
      (repeat' first|refine kW ?_|refine kU fun bk=>?_|refine kV fun hc=>?_|refine kZ (fun hc=>?_) fun hc=>?_|fail)
      rename_i bk9
      have hsym := fun L => tsym_n t L hto
      unfold TkV at hsym
      have h1 := hga (tsy t)
      obtain ⟨n1, hn1⟩ : ∃ n1, n1 = (cA (ts.take j)).getD (tsy t) 0 := ⟨_, rfl⟩
      have hget1 : (ivn (cA (ts.take j)))[tsy t]? = some (.int .i64 (n1 : Int)) := ivn_get (by rw [hn1]; simp [List.getD, show tsy t < (cA (ts.take j)).length by omega])
      have hset1 : (ivn (cA (ts.take j))).set (tsy t * 1) (.int .i64 ((n1 + 1 : Nat) : Int)) = ivn (cA (ts.take (j + 1))) := by
        rw [hsA]; unfold inc; rw [← hn1]; simp [ivn, List.map_set]
      rw [← hn1] at h1
      refine WC_draw [[(b3, cl [.slice (some ⟨b1, 0, none⟩) 286 286, .slice (some ⟨b2, 0, none⟩) 30 30] 137)], [(bk, cl (patch (Value.agg #[.int .i64 0, .int .i64 0]).cells.toList 0 [.int .i64 (t.1 : Int), .int .i64 (t.2 : Int)]) 133)], [(b1, cl (ivn (cA (ts.take j))) 3)]] [8] mixed ?_
      (refine WR_t 0 ?_; refine WR_t 1 ?_; refine WR_t 2 ?_)
      (refine WR_one 3 (by kernel_rfl) rfl rfl ?_)
      refine OW_callP rfl rfl rfl (hsym _) rfl ?_
      refine ⟨iC, ?_⟩
      (refine WR_take 4 rfl rfl (by kernel_rfl) iP iC (EV_indexAddr0 (j := tsy t) (len := 286) rfl rfl rfl hsy.1) (by rfl) ?_)
      (refine WR_take 5 rfl rfl (by kernel_rfl) iP iC (EV_loadc rfl (.there (.there .here)) (by rw [nth_eq, Nat.mul_one]; exact hget1)) (by rfl) ?_)
      (refine WR_t 6 ?_)
      (refine WR_take 7 rfl rfl (by kernel_rfl) iP iC (EV_indexAddr0 (j := tsy t) (len := 286) rfl rfl rfl hsy.1) (by rfl) ?_)
      (refine WR_last 8 (by kernel_rfl) rfl rfl rfl ?_)
      rw [show (n1 : Int) + 1 = ((n1 + 1 : Nat) : Int) from by omega]
      refine OW_storeTo (ivn (cA (ts.take (j + 1)))) rfl rfl rfl hset1 iU (by rw [ivn_length]; omega) ?_
      (refine WR_done (by kernel_rfl) ?_)
      (repeat' first|refine kW ?_|refine kU fun bk=>?_|refine kV fun hc=>?_|refine kZ (fun hc=>?_) fun hc=>?_|fail)
      · have h0 : t.2 ≠ 0 := by omega
        rw [if_neg h0] at hsD
        have hmt : 1 ≤ t.2 ∧ t.2 ≤ 32768 := by rcases hto with ⟨g, _⟩ | ⟨g1, g2, _⟩; exact absurd g h0; exact ⟨g1, g2⟩
        have hod := (odN_ok hmt.1 hmt.2).1
        have hodn := fun L => odist_n t.2 L hmt.1 hmt.2
        have h2 := hgd (odN t.2)
        obtain ⟨n2, hn2⟩ : ∃ n2, n2 = (cD (ts.take j)).getD (odN t.2) 0 := ⟨_, rfl⟩
        have hget2 : (ivn (cD (ts.take j)))[odN t.2]? = some (.int .i64 (n2 : Int)) := ivn_get (by rw [hn2]; simp [List.getD, show odN t.2 < (cD (ts.take j)).length by omega])
        have hset2 : (ivn (cD (ts.take j))).set (odN t.2 * 1) (.int .i64 ((n2 + 1 : Nat) : Int)) = ivn (cD (ts.take (j + 1))) := by
          rw [hsD]; unfold inc; rw [← hn2]; simp [ivn, List.map_set]
        rw [← hn2] at h2
        refine WC_draw [[(b3, cl [.slice (some ⟨b1, 0, none⟩) 286 286, .slice (some ⟨b2, 0, none⟩) 30 30] 137)], [(bk, cl (patch (Value.agg #[.int .i64 0, .int .i64 0]).cells.toList 0 [.int .i64 (t.1 : Int), .int .i64 (t.2 : Int)]) 133)], [(b2, cl (ivn (cD (ts.take j))) 3)]] [9] mixed ?_
        (refine WR_t 0 ?_; refine WR_t 1 ?_; refine WR_t 2 ?_; refine WR_t 3 ?_)
        (refine WR_one 4 (by kernel_rfl) rfl rfl ?_)
        refine OW_callP rfl rfl rfl (hodn _) rfl ?_
        refine ⟨iC, ?_⟩
        (refine WR_take 5 rfl rfl (by kernel_rfl) iP iC (EV_indexAddr0 (j := odN t.2) (len := 30) rfl rfl rfl (by omega)) (by rfl) ?_)
        (refine WR_take 6 rfl rfl (by kernel_rfl) iP iC (EV_loadc rfl (.there (.there .here)) (by rw [nth_eq, Nat.mul_one]; exact hget2)) (by rfl) ?_)
        (refine WR_t 7 ?_)
        (refine WR_take 8 rfl rfl (by kernel_rfl) iP iC (EV_indexAddr0 (j := odN t.2) (len := 30) rfl rfl rfl (by omega)) (by rfl) ?_)
        (refine WR_last 9 (by kernel_rfl) rfl rfl rfl ?_)
        rw [show (n2 : Int) + 1 = ((n2 + 1 : Nat) : Int) from by omega]
        refine OW_storeTo (ivn (cD (ts.take (j + 1)))) rfl rfl rfl hset2 iU (by rw [ivn_length]; omega) ?_
        (refine WR_done (by kernel_rfl) ?_)
        (repeat' first|refine kW ?_|refine kU fun bk=>?_|refine kV fun hc=>?_|refine kZ (fun hc=>?_) fun hc=>?_|fail)
        refine WQ_round (X := Nat) (μ := fun x => ts.length - x) (x := j) (j + 1) (by show ts.length - (j + 1) < ts.length - j; omega) (by show j + 1 ≤ ts.length; omega) iS (fun w h => iH h)
      · have h0 : t.2 = 0 := by omega
        rw [if_pos h0] at hsD
        rw [← hsD]
        refine WQ_round (X := Nat) (μ := fun x => ts.length - x) (x := j) (j + 1) (by show ts.length - (j + 1) < ts.length - j; omega) (by show j + 1 ≤ ts.length; omega) iS (fun w h => iH h)
    · obtain rfl : j = ts.length := by omega
      rw [List.take_length] at hla hld hga ⊢
      have h1 := hga 256
      obtain ⟨n1, hn1⟩ : ∃ n1, n1 = (cA ts).getD 256 0 := ⟨_, rfl⟩
      have hget1 : (ivn (cA ts))[256]? = some (.int .i64 (n1 : Int)) := ivn_get (by rw [hn1]; simp [List.getD, show 256 < (cA ts).length by omega])
      have hset1 : (ivn (cA ts)).set (256 * 1) (.int .i64 ((n1 + 1 : Nat) : Int)) = ivn (inc (cA ts) 256) := by
        unfold inc; rw [← hn1]; simp [ivn, List.map_set]
      rw [← hn1] at h1
      refine OW_EV (EV_indexAddr0 (j := 256) (len := 286) rfl rfl rfl (by decide)) rfl ?_
      (repeat' first|refine kW ?_|refine kU fun bk=>?_|refine kV fun hc=>?_|refine kZ (fun hc=>?_) fun hc=>?_|fail)
      refine OW_EV (EV_loadc rfl (.there .here) (by rw [nth_eq, Nat.mul_one]; exact hget1)) rfl ?_
      (repeat' first|refine kW ?_|refine kU fun bk=>?_|refine kV fun hc=>?_|refine kZ (fun hc=>?_) fun hc=>?_|fail)
      refine OW_EV (EV_indexAddr0 (j := 256) (len := 286) rfl rfl rfl (by decide)) rfl ?_
      (repeat' first|refine kW ?_|refine kU fun bk=>?_|refine kV fun hc=>?_|refine kZ (fun hc=>?_) fun hc=>?_|fail)
      rw [show (n1 : Int) + 1 = ((n1 + 1 : Nat) : Int) from by omega]
      refine OW_storeTo (ivn (inc (cA ts) 256)) rfl rfl rfl hset1 iU (by rw [ivn_length]; omega) ?_
      (repeat' first|refine kW ?_|refine kU fun bk=>?_|refine kV fun hc=>?_|refine kZ (fun hc=>?_) fun hc=>?_|fail)
      have hrl : RdAt ([(b3, cl [.slice (some ⟨b1, 0, none⟩) 286 286, .slice (some ⟨b2, 0, none⟩) 30 30] 137)] :: [(b1, cl (ivn (inc (cA ts) 256)) 3)] :: [(b2, cl (ivn (cD ts)) 3)] :: [(bk, cl [.slice (some ⟨b1, 0, none⟩) 286 286, .slice (some ⟨b2, 0, none⟩) 30 30] 137)] :: L) ⟨bk, 0, none⟩ [.slice (some ⟨b1, 0, none⟩) 286 286, .slice (some ⟨b2, 0, none⟩) 30 30] := RdAt.cl' (.there (.there (.there .here))) rfl
      have hf1 : Rs (([(b1, cl (ivn (inc (cA ts) 256)) 3)] ++ [(b2, cl (ivn (cD ts)) 3)]) :: []) 1 (.slice (some ⟨b1, 0, none⟩) 286 286) 286 (ivn (inc (cA ts) 256)) := ⟨sl_cells (c := (ivn (inc (cA ts) 256)).toArray) (.mem (List.mem_append_left _ (List.mem_singleton.2 rfl))) (by rw [ivn_length, inc_len, hla]) (by simp), _, _, rfl, Nat.le_refl _⟩
      have hf2 : Rs (([(b1, cl (ivn (inc (cA ts) 256)) 3)] ++ [(b2, cl (ivn (cD ts)) 3)]) :: []) 1 (.slice (some ⟨b2, 0, none⟩) 30 30) 30 (ivn (cD ts)) := ⟨sl_cells (c := (ivn (cD ts)).toArray) (.mem (List.mem_append_right _ (List.mem_singleton.2 rfl))) (by rw [ivn_length, hld]) (by simp), _, _, rfl, Nat.le_refl _⟩
      first
        | (refine WQ_retC (vs := [.agg #[.slice (some ⟨b1, 0, none⟩) 286 286, .slice (some ⟨b2, 0, none⟩) 30 30]]) rfl (.agg ⟨by kernel_rfl, by kernel_rfl⟩ rfl hrl rfl .nil) ?_
           exact ⟨_, fun w h => two.2 (iH h), _, _, _, rfl, hf1, hf2, rfl⟩)
        | (refine WQ_endC (vs := [.agg #[.slice (some ⟨b1, 0, none⟩) 286 286, .slice (some ⟨b2, 0, none⟩) 30 30]]) rfl (.agg ⟨by kernel_rfl, by kernel_rfl⟩ rfl hrl rfl .nil) ?_
           exact ⟨_, fun w h => two.2 (iH h), _, _, _, rfl, hf1, hf2, rfl⟩)
end Go.Proofs.YtdcehmhelfohfaaGreatDoor
namespace Go.Df
open Go.Vx Go.If Go.Hf
set_option linter.all false
theorem sS_none {f : Nat → Nat} (cs : List Nat) : ∀ n, (∀ i, i < n → f i = 0) → sS f n cs = 0
  | 0, _ => rfl
  | n + 1, h => by rw [sS_succ, sS_none cs n (fun i hi => h i (by omega)), h n (by omega)]; simp
theorem sS_leN {f : Nat → Nat} {cs : List Nat} {B F : Nat} (h1 : ∀ i, cs.getD i 0 ≤ B) : ∀ n, (∀ i, i < n → f i ≤ F) → sS f n cs ≤ n * (B * F)
  | 0, _ => by simp [sS, Go.Pm.sumTo]
  | n + 1, h2 => by
    have := sS_leN h1 n (fun i hi => h2 i (by omega))
    have := Nat.mul_le_mul (h1 n) (h2 n (by omega))
    rw [sS_succ, Nat.succ_mul]
    omega
theorem fxA_le (i : Nat) (h : i < 286) : fxA i ≤ 5 := by
  unfold fxA
  split
  · exact (lnB_b i h (by assumption)).2
  · omega
end Go.Df
namespace Go.Proofs.YtdcehmhelfohfaaGreatDoor
open Go Go.Vx Go.Hf Go.If Go.Df
variable [W0]
set_option maxRecDepth 4000
set_option linter.all false
theorem ccost_n (v1 v2 v3 : Value) (ls cs : List Nat) (L : List Chunk) (h : Rs L 1 v1 ls.length (ivn ls)) (hc : Rs L 1 v3 cs.length (ivn cs)) (hn : cs.length ≤ 1000) (hcB : ∀ i, cs.getD i 0 ≤ 2147483648) (hsB : ∀ i, ls.getD i 0 ≤ 1048576) :
    GvP Tryz.prog 93 [.agg #[v1, v2], v3].toArray L (.int .i64 ((sS (fun i => ls.getD i 0) (min cs.length ls.length) cs : Nat) : Int)) := by
  refine Gv.of_body (args := [.agg #[v1, v2], v3]) Tryz.func93 rfl rfl ?_
  obtain ⟨a1, c1, rfl, _⟩ := h.room
  obtain ⟨a3, c3, rfl, _⟩ := hc.room
  have hco := fun B => hcost_n a3 a1 c3 c1 cs ls (B :: L) (by rw [intsN_icn]; exact sl_there hc.sl) (by rw [intsN_icn]; exact sl_there h.sl) hn hcB hsB
  rw [show costN cs ls (min cs.length ls.length) = sS (fun i => ls.getD i 0) (min cs.length ls.length) cs from rfl] at hco
  (repeat' first|refine kW ?_|refine kU fun bk=>?_|refine kV fun hc=>?_|refine kZ (fun hc=>?_) fun hc=>?_|fail)
  refine OW_callP rfl rfl rfl (hco _) rfl ?_
  (repeat' first|refine kW ?_|refine kU fun bk=>?_|refine kV fun hc=>?_|refine kZ (fun hc=>?_) fun hc=>?_|fail)
  refine kR ?_
  exact ⟨_, iC, rfl, rfl⟩
set_option maxHeartbeats 8000000 in
theorem extra_n (v1 v2 : Value) (ca cd : List Nat) (L : List Chunk) (h1 : Rs L 1 v1 286 (ivn ca)) (h2 : Rs L 1 v2 30 (ivn cd)) (hb1 : ∀ i, ca.getD i 0 ≤ 1000000) (hb2 : ∀ i, cd.getD i 0 ≤ 1000000) :
    GvP Tryz.prog 94 [.agg #[v1, v2]].toArray L (.int .i64 ((sS fxA 286 ca + sS (fun i => exB i 2 4) 30 cd : Nat) : Int)) := by
  refine Gv.of_body (args := [.agg #[v1, v2]]) Tryz.func94 rfl rfl ?_
  obtain ⟨a1, c1, rfl, _⟩ := h1.room
  obtain ⟨a2, c2, rfl, _⟩ := h2.room
  have hl1 : ca.length = 286 := by have := h1.len; rw [ivn_length] at this; omega
  have hl2 : cd.length = 30 := by have := h2.len; rw [ivn_length] at this; omega
  (repeat' first|refine kW ?_|refine kU fun bk=>?_|refine kV fun hc=>?_|refine kZ (fun hc=>?_) fun hc=>?_|fail)
  refine WC_loop (X := Nat) (fun x => [(1, .pointer (some ⟨bk, 0, none⟩)), (3, .int .i64 ((sS fxA x ca : Nat) : Int)), (4, .int .i64 (x : Int))]) (fun x => [(bk, cl [.slice a1 286 c1, .slice a2 30 c2] 137)] :: L)
    (fun x => 257 ≤ x ∧ x ≤ 286 ∧ sS fxA x ca ≤ x * 5000000) (fun x => 286 - x) 257 ⟨Nat.le_refl _, by decide, by rw [sS_none ca 257 (fun i hi => by unfold fxA; rw [if_neg (by omega)])]; omega⟩ (by
      rw [sS_none ca 257 (fun i hi => by unfold fxA; rw [if_neg (by omega)])]
      exact iS) (fun w h => h) ?_
  intro x hx9
  have hx : 257 ≤ x ∧ x ≤ 286 ∧ sS fxA x ca ≤ x * 5000000 := hx9
  have hfx : fxA x = (lnB x).2 := by unfold fxA; rw [if_pos hx.1]
  have hss := sS_succ fxA x ca
  have hcx := hb1 x
  rw [hfx] at hss
  obtain ⟨s, hs9⟩ : ∃ s, s = sS fxA x ca := ⟨_, rfl⟩
  rw [← hs9] at hx hss ⊢
  (repeat' first|refine kW ?_|refine kU fun bk=>?_|refine kV fun hc=>?_|refine kZ (fun hc=>?_) fun hc=>?_|fail)
  · have hxl : x < 286 := by omega
    have hlb := lnB_b x hxl hx.1
    have hsl := fun L => slength_n x L hx.1 (by omega)
    have hget : (ivn ca)[x]? = some (.int .i64 ((ca.getD x 0 : Nat) : Int)) := ivn_get (by simp [List.getD, show x < ca.length by omega])
    obtain ⟨tb, toff, tcap, tcc, T1, f1, hv9, hf1, hv1⟩ := sl_at h1.sl hget
    injection hv9 with q1 q2 q3
    subst q1 q3
    clear q2
    generalize ca.getD x 0 = n at hss hcx hv1
    generalize lnB x = lb at hlb hsl hss
    refine OW_callP rfl rfl rfl (hsl _) rfl ?_
    (repeat' first|refine kW ?_|refine kU fun bk=>?_|refine kV fun hc=>?_|refine kZ (fun hc=>?_) fun hc=>?_|fail)
    refine OW_EV (EV_indexAddr (j := x) rfl rfl rfl hxl) rfl ?_
    (repeat' first|refine kW ?_|refine kU fun bk=>?_|refine kV fun hc=>?_|refine kZ (fun hc=>?_) fun hc=>?_|fail)
    refine OW_EV (EV_load rfl (.there hf1) hv1) rfl ?_
    (repeat' first|refine kW ?_|refine kU fun bk=>?_|refine kV fun hc=>?_|refine kZ (fun hc=>?_) fun hc=>?_|fail)
    have hml : n * lb.2 ≤ 1000000 * 5 := Nat.mul_le_mul hcx hlb.2
    refine OW_EV (EV_ari64 (r := ((n * lb.2 : Nat) : Int)) rfl rfl (by simp [ariI]) (by omega)) rfl ?_
    generalize n * lb.2 = z at hml hss
    (repeat' first|refine kW ?_|refine kU fun bk=>?_|refine kV fun hc=>?_|refine kZ (fun hc=>?_) fun hc=>?_|fail)
    rw [show (s : Int) + (z : Int) = ((sS fxA (x + 1) ca : Nat) : Int) from by omega]
    refine WQ_round (X := Nat) (μ := fun x => 286 - x) (x := x) (x + 1) (by show 286 - (x + 1) < 286 - x; omega) (by show 257 ≤ x + 1 ∧ x + 1 ≤ 286 ∧ sS fxA (x + 1) ca ≤ (x + 1) * 5000000; omega) iS (fun w h => h)
  obtain rfl : x = 286 := by omega
  rw [← hs9]
  clear hss hcx hfx
  refine WC_loop (X := Nat) (fun x => [(1, .pointer (some ⟨bk, 0, none⟩)), (3, .int .i64 ((s + sS (fun i => exB i 2 4) x cd : Nat) : Int)), (30, .slice a2 30 c2), (31, .int .i64 30), (32, .int .i64 (x : Int))]) (fun x => [(bk, cl [.slice a1 286 c1, .slice a2 30 c2] 137)] :: L)
    (fun x => x ≤ 30 ∧ sS (fun i => exB i 2 4) x cd ≤ x * 13000000) (fun x => 30 - x) 0 ⟨by decide, by simp [sS, Go.Pm.sumTo]⟩ (by
      rw [show sS (fun i => exB i 2 4) 0 cd = 0 from rfl, Nat.add_zero]
      exact iS) (fun w h => h) ?_
  intro y hy9
  have hy : y ≤ 30 ∧ sS (fun i => exB i 2 4) y cd ≤ y * 13000000 := hy9
  have hss := sS_succ (fun i => exB i 2 4) y cd
  have hcx := hb2 y
  obtain ⟨u, hu9⟩ : ∃ u, u = sS (fun i => exB i 2 4) y cd := ⟨_, rfl⟩
  rw [← hu9] at hy hss ⊢
  (repeat' first|refine kW ?_|refine kU fun bk=>?_|refine kV fun hc=>?_|refine kZ (fun hc=>?_) fun hc=>?_|fail)
  · have hyl : y < 30 := by omega
    have hlb := dsB_b y hyl
    have hsl := fun L => sdistance_n y L hyl
    have hget : (ivn cd)[y]? = some (.int .i64 ((cd.getD y 0 : Nat) : Int)) := ivn_get (by simp [List.getD, show y < cd.length by omega])
    obtain ⟨tb, toff, tcap, tcc, T1, f1, hv9, hf1, hv1⟩ := sl_at h2.sl hget
    injection hv9 with q1 q2 q3
    subst q1 q3
    clear q2
    generalize cd.getD y 0 = n at hss hcx hv1
    generalize exB y 2 4 = e at hlb hsl hss
    refine OW_EV (EV_indexAddr (j := y) rfl rfl rfl hyl) rfl ?_
    (repeat' first|refine kW ?_|refine kU fun bk=>?_|refine kV fun hc=>?_|refine kZ (fun hc=>?_) fun hc=>?_|fail)
    refine OW_EV (EV_load rfl (.there hf1) hv1) rfl ?_
    (repeat' first|refine kW ?_|refine kU fun bk=>?_|refine kV fun hc=>?_|refine kZ (fun hc=>?_) fun hc=>?_|fail)
    refine OW_callP rfl rfl rfl (hsl _) rfl ?_
    (repeat' first|refine kW ?_|refine kU fun bk=>?_|refine kV fun hc=>?_|refine kZ (fun hc=>?_) fun hc=>?_|fail)
    have hml : n * e ≤ 1000000 * 13 := Nat.mul_le_mul hcx hlb.2
    refine OW_EV (EV_ari64 (r := ((n * e : Nat) : Int)) rfl rfl (by simp [ariI]) (by omega)) rfl ?_
    generalize n * e = z at hml hss
    (repeat' first|refine kW ?_|refine kU fun bk=>?_|refine kV fun hc=>?_|refine kZ (fun hc=>?_) fun hc=>?_|fail)
    rw [show ((s + u : Nat) : Int) + (z : Int) = ((s + sS (fun i => exB i 2 4) (y + 1) cd : Nat) : Int) from by omega]
    refine WQ_round (X := Nat) (μ := fun x => 30 - x) (x := y) (y + 1) (by show 30 - (y + 1) < 30 - y; omega) (by show y + 1 ≤ 30 ∧ sS (fun i => exB i 2 4) (y + 1) cd ≤ (y + 1) * 13000000; omega) iS (fun w h => h)
  · obtain rfl : y = 30 := by omega
    rw [← hu9]
    refine kR ?_
    exact ⟨_, iC, rfl, rfl⟩
end Go.Proofs.YtdcehmhelfohfaaGreatDoor
namespace Go.Df
open Go.Vx Go.If Go.Hf
set_option linter.all false
theorem co_cost [W0] {l dl : List Nat} {ts : List (Nat × Nat)} (h : ∀ t ∈ ts, TkOk t) :
    itL (tsI l dl (ts.map tok) ++ [sc l 256]) = sS (fun i => l.getD i 0) 286 (inc (cA ts) 256) + sS (fun i => dl.getD i 0) 30 (cD ts) + (sS fxA 286 (inc (cA ts) 256) + sS (fun i => exB i 2 4) 30 (cD ts)) := by
  have h1 : 256 < (cA ts).length := by rw [cA_len]; decide
  rw [itL_app, co_size h, sS_inc h1, sS_inc h1, if_pos (by decide), if_pos (by decide), show fxA 256 = 0 from rfl]
  simp only [itL, sc]
  omega
end Go.Df
namespace Go.Proofs.YtdcehmhelfohfaaGreatDoor
open Go Go.Vx Go.Hf Go.If Go.Df
variable [W0]
set_option maxRecDepth 4000
set_option linter.all false
set_option maxHeartbeats 8000000 in
theorem codedBy_n (v1 v2 v3 v4 vt c1 c2 : Value) (l dl : List Nat) (ts : List (Nat × Nat)) (L : List Chunk) (ha : CdR L v1 v2 l) (hb : CdR L v3 v4 dl) (ht : TkR L vt ts) (hn : ts.length ≤ 200000) (hl : 286 ≤ l.length) (hd : 30 ≤ dl.length)
    (h1 : Rs L 1 c1 286 (ivn (inc (cA ts) 256))) (h2 : Rs L 1 c2 30 (ivn (cD ts))) :
    GvP Tryz.prog 64 [.agg #[v1, v2], .agg #[v3, v4], vt, .agg #[c1, c2]].toArray L (.agg (cdV vt v1 v2 v3 v4 (itL (coI l dl ts))).toArray) := by
  refine Gv.of_body (args := [.agg #[v1, v2], .agg #[v3, v4], vt, .agg #[c1, c2]]) Tryz.func64 rfl rfl ?_
  have hla : (inc (cA ts) 256).length = 286 := by rw [inc_len, cA_len]
  have hld := cD_len ts
  have hca : ∀ i, (inc (cA ts) 256).getD i 0 ≤ 200001 := fun i => by
    have := cA_le ht.ok i
    rw [inc_get (by rw [cA_len]; decide)]
    split <;> omega
  have hcd : ∀ i, (cD ts).getD i 0 ≤ 200000 := fun i => by have := cD_le ht.ok i; omega
  have hsz : itL (coI l dl ts) = _ := co_cost (l := l) (dl := dl) ht.ok
  have b1 := sS_le (cs := inc (cA ts) 256) (f := fun i => l.getD i 0) hca (fun i => ha.ok.at i) 286
  have b2 := sS_le (cs := cD ts) (f := fun i => dl.getD i 0) hcd (fun i => hb.ok.at i) 30
  have b3 := sS_leN (f := fun i => exB i 2 4) (F := 13) hcd 30 (fun i hi => (dsB_b i hi).2)
  have b4 := sS_leN (f := fxA) (F := 5) hca 286 fxA_le
  rw [hsz]
  generalize inc (cA ts) 256 = ca at *
  generalize cD ts = cd at *
  obtain ⟨ta, tc, rfl, _⟩ := ht.rs.room
  obtain ⟨a1, e1, rfl, _⟩ := ha.l.room
  obtain ⟨a2, e2, rfl, _⟩ := ha.c.room
  obtain ⟨a3, e3, rfl, _⟩ := hb.l.room
  obtain ⟨a4, e4, rfl, _⟩ := hb.c.room
  obtain ⟨a5, e5, rfl, _⟩ := h1.room
  obtain ⟨a6, e6, rfl, _⟩ := h2.room
  (repeat' first|refine kW ?_|refine kU fun bk=>?_|refine kV fun hc=>?_|refine kZ (fun hc=>?_) fun hc=>?_|fail)
  rename_i q4 q5 q7
  have hm1 : min ca.length l.length = 286 := by omega
  have hm2 : min cd.length dl.length = 30 := by omega
  have hc1 := fun B1 B2 B3 B4 => ccost_n (.slice a1 l.length e1) (.slice a2 l.length e2) (.slice a5 286 e5) l ca (B1 :: B2 :: B3 :: B4 :: L) ha.l.there.there.there.there (by rw [hla]; exact h1.there.there.there.there) (by omega) (fun i => by have := hca i; omega) (fun i => by have := ha.ok.at i; omega)
  have hc2 := fun B1 B2 B3 B4 => ccost_n (.slice a3 dl.length e3) (.slice a4 dl.length e4) (.slice a6 30 e6) dl cd (B1 :: B2 :: B3 :: B4 :: L) hb.l.there.there.there.there (by rw [hld]; exact h2.there.there.there.there) (by omega) (fun i => by have := hcd i; omega) (fun i => by have := hb.ok.at i; omega)
  have hc3 := fun B1 B2 B3 B4 => extra_n (.slice a5 286 e5) (.slice a6 30 e6) ca cd (B1 :: B2 :: B3 :: B4 :: L) h1.there.there.there.there h2.there.there.there.there (fun i => by have := hca i; omega) (fun i => by have := hcd i; omega)
  rw [hm1] at hc1
  rw [hm2] at hc2
  clear hsz
  generalize sS (fun i => l.getD i 0) 286 ca = z1 at *
  generalize sS (fun i => dl.getD i 0) 30 cd = z2 at *
  generalize sS fxA 286 ca = z3 at *
  generalize sS (fun i => exB i 2 4) 30 cd = z4 at *
  refine WC_drawAll [16] mixed ?_
  (refine WR_t 0 ?_; refine WR_t 1 ?_; refine WR_t 2 ?_; refine WR_t 3 ?_; refine WR_t 4 ?_; refine WR_t 5 ?_; refine WR_t 7 ?_; refine WR_t 8 ?_; refine WR_t 9 ?_; refine WR_t 12 ?_)
  (refine WR_one 6 (by kernel_rfl) rfl rfl ?_)
  refine OW_callP rfl rfl rfl (hc1 _ _ _ _) rfl ?_
  refine ⟨iC, ?_⟩
  (refine WR_one 10 (by kernel_rfl) rfl rfl ?_)
  refine OW_callP rfl rfl rfl (hc2 _ _ _ _) rfl ?_
  refine ⟨iC, ?_⟩
  (refine WR_t 11 ?_)
  (refine WR_one 13 (by kernel_rfl) rfl rfl ?_)
  refine OW_callP rfl rfl rfl (hc3 _ _ _ _) rfl ?_
  refine ⟨iC, ?_⟩
  (refine WR_t 14 ?_; refine WR_t 15 ?_)
  (refine WR_last 16 (by kernel_rfl) rfl rfl rfl ?_)
  rw [show (z1 : Int) + (z2 : Int) + ((z3 + z4 : Nat) : Int) = ((z1 + z2 + (z3 + z4) : Nat) : Int) from by omega]
  refine OW_storeAggTo (l := [.slice none 0 0, .slice none 0 0, .slice none 0 0, .slice none 0 0, .slice none 0 0, .int .i64 0]) (cdV (.slice ta ts.length tc) (.slice a1 l.length e1) (.slice a2 l.length e2) (.slice a3 dl.length e3) (.slice a4 dl.length e4) (z1 + z2 + (z3 + z4))) rfl rfl rfl rfl rfl iU (by simp [cdV]) ?_
  (refine WR_done (by kernel_rfl) ?_)
  (repeat' first|refine kW ?_|refine kU fun bk=>?_|refine kV fun hc=>?_|refine kZ (fun hc=>?_) fun hc=>?_|fail)
  have hrl : RdAt ([(bk, cl (cdV (.slice ta ts.length tc) (.slice a1 l.length e1) (.slice a2 l.length e2) (.slice a3 dl.length e3) (.slice a4 dl.length e4) (z1 + z2 + (z3 + z4))) 89)] :: [(q7, cl [.slice a5 286 e5, .slice a6 30 e6] 137)] :: [(q5, cl [.slice a3 dl.length e3, .slice a4 dl.length e4] 87)] :: [(q4, cl [.slice a1 l.length e1, .slice a2 l.length e2] 87)] :: L) ⟨bk, 0, none⟩ (cdV (.slice ta ts.length tc) (.slice a1 l.length e1) (.slice a2 l.length e2) (.slice a3 dl.length e3) (.slice a4 dl.length e4) (z1 + z2 + (z3 + z4))) := RdAt.cl' .here rfl
  first
    | (refine WQ_retC (vs := [.agg (cdV (.slice ta ts.length tc) (.slice a1 l.length e1) (.slice a2 l.length e2) (.slice a3 dl.length e3) (.slice a4 dl.length e4) (z1 + z2 + (z3 + z4))).toArray]) rfl (.agg ⟨by kernel_rfl, by kernel_rfl⟩ rfl hrl rfl .nil) ?_
       exact ⟨_, fun w h => h.drop.drop.drop.drop, rfl, rfl⟩)
    | (refine WQ_endC (vs := [.agg (cdV (.slice ta ts.length tc) (.slice a1 l.length e1) (.slice a2 l.length e2) (.slice a3 dl.length e3) (.slice a4 dl.length e4) (z1 + z2 + (z3 + z4))).toArray]) rfl (.agg ⟨by kernel_rfl, by kernel_rfl⟩ rfl hrl rfl .nil) ?_
       exact ⟨_, fun w h => h.drop.drop.drop.drop, rfl, rfl⟩)
set_option maxHeartbeats 8000000 in
theorem fixedOf_n (v vt : Value) (b : List UInt8) (ts : List (Nat × Nat)) (S L : List Chunk) (hi : Inc S L) (h : PcR S v vt b ts) :
    Gv Tryz.prog 37 [.agg #[v, vt]].toArray L (fun r L' => ∃ v1 v2 v3 v4 C, r = .agg (cdV vt v1 v2 v3 v4 (itL (coI fxL fxD ts))).toArray ∧ CoR (C :: S) vt v1 v2 v3 v4 ts fxL fxD ∧ L' = C :: L) := by
  refine Gv.of_body (args := [.agg #[v, vt]]) Tryz.func37 rfl rfl ?_
  obtain ⟨va, vc, rfl, _⟩ := h.x.room
  obtain ⟨ta, tc, rfl, _⟩ := h.t.rs.room
  have hL := h.sub hi.mem
  (repeat' first|refine kW ?_|refine kU fun bk=>?_|refine kV fun hc=>?_|refine kZ (fun hc=>?_) fun hc=>?_|fail)
  rename_i q1
  refine OW_call rfl rfl rfl (fixedLengths_n _) rfl (fun r L' hp => ?_)
  obtain ⟨u, w, C1, C2, rfl, rfl, ho1, ho2⟩ := hp
  have hu := Rs.ow (L := []) ho1
  have hw := Rs.ow (L := []) ho2
  obtain ⟨ua, uc, rfl⟩ := ow_slc ho1
  obtain ⟨wa, wc, rfl⟩ := ow_slc ho2
  (repeat' first|refine kW ?_|refine kU fun bk=>?_|refine kV fun hc=>?_|refine kZ (fun hc=>?_) fun hc=>?_|fail)
  refine WC_drawAll [11] mixed ?_
  (refine WR_t 0 ?_; refine WR_t 2 ?_; refine WR_t 4 ?_; refine WR_t 5 ?_; refine WR_t 6 ?_; refine WR_t 7 ?_)
  (refine WR_one 1 (by kernel_rfl) rfl rfl ?_)
  refine OW_call rfl rfl rfl (codeOf_n (.slice ua 288 uc) fxL _ (hu.sub iM) fxL_ok (by decide)) rfl (fun r L' hp => ?_)
  obtain ⟨u2, C3, rfl, hca, rfl⟩ := hp
  refine ⟨iC, ?_⟩
  (refine WR_one 3 (by kernel_rfl) rfl rfl ?_)
  refine OW_call rfl rfl rfl (codeOf_n (.slice wa 32 wc) fxD _ (hw.sub iM) fxD_ok (by decide)) rfl (fun r L' hp => ?_)
  obtain ⟨w2, C4, rfl, hcb, rfl⟩ := hp
  refine ⟨iC, ?_⟩
  (refine WR_one 8 (by kernel_rfl) rfl rfl ?_)
  refine OW_call rfl rfl rfl (countsOf_n (.slice ta ts.length tc) ts _ (hL.t.sub iM) h.nt) rfl (fun r L' hp => ?_)
  obtain ⟨x1, x2, C5, rfl, hx1, hx2, rfl⟩ := hp
  refine ⟨iC, ?_⟩
  have hA : CdR (C4 :: C3 :: C2 :: C1 :: S) (.slice ua 288 uc) u2 fxL := ⟨hu.sub iM, hca.sub iM, fxL_ok, by decide⟩
  have hB : CdR (C4 :: C3 :: C2 :: C1 :: S) (.slice wa 32 wc) w2 fxD := ⟨hw.sub iM, hcb.sub iM, fxD_ok, by decide⟩
  have hA2 : CdR (C4 :: C3 :: C2 :: C1 :: L) (.slice ua 288 uc) u2 fxL := ⟨hu.sub iM, hca.sub iM, fxL_ok, by decide⟩
  have hB2 : CdR (C4 :: C3 :: C2 :: C1 :: L) (.slice wa 32 wc) w2 fxD := ⟨hw.sub iM, hcb.sub iM, fxD_ok, by decide⟩
  have hfin : CoR ((C4 ++ (C3 ++ (C2 ++ C1))) :: S) (.slice ta ts.length tc) (.slice ua 288 uc) u2 (.slice wa 32 wc) w2 ts fxL fxD := by
    refine CoR.sub (L := C4 :: C3 :: C2 :: C1 :: S) (fun x hx => by simpa [List.append_assoc] using hx) ⟨h.t.sub iM, hA, hB, by decide, by decide, h.nt⟩
  (refine WR_one 9 (by kernel_rfl) rfl rfl ?_)
  refine OW_callP rfl rfl rfl (codedBy_n (.slice ua 288 uc) u2 (.slice wa 32 wc) w2 (.slice ta ts.length tc) x1 x2 fxL fxD ts _ (hA2.sub iM) (hB2.sub iM) (hL.t.sub iM) h.nt (by decide) (by decide) (hx1.sub iM) (hx2.sub iM)) rfl ?_
  refine ⟨iC, ?_⟩
  generalize itL (coI fxL fxD ts) = size at *
  obtain ⟨u2a, u2c, rfl, _⟩ := hca.room
  obtain ⟨w2a, w2c, rfl, _⟩ := hcb.room
  unfold cdV
  (refine WR_t 10 ?_)
  (refine WR_last 11 (by kernel_rfl) rfl rfl rfl ?_)
  refine OW_storeAggTo (l := [.slice none 0 0, .slice none 0 0, .slice none 0 0, .slice none 0 0, .slice none 0 0, .int .i64 0]) [.slice ta ts.length tc, .slice ua 288 uc, .slice u2a 288 u2c, .slice wa 32 wc, .slice w2a 32 w2c, .int .i64 (size : Int)] rfl rfl rfl rfl rfl iU (by simp) ?_
  (refine WR_done (by kernel_rfl) ?_)
  (repeat' first|refine kW ?_|refine kU fun bk=>?_|refine kV fun hc=>?_|refine kZ (fun hc=>?_) fun hc=>?_|fail)
  (first | refine WQ_retC (vs := [.agg ([.slice ta ts.length tc, .slice ua 288 uc, .slice u2a 288 u2c, .slice wa 32 wc, .slice w2a 32 w2c, .int .i64 (size : Int)]).toArray]) rfl (.agg ⟨by kernel_rfl, by kernel_rfl⟩ rfl (RdAt.cl' (vs := [.slice ta ts.length tc, .slice ua 288 uc, .slice u2a 288 u2c, .slice wa 32 wc, .slice w2a 32 w2c, .int .i64 (size : Int)]) (by repeat (first | assumption | exact Fnd.here | refine Fnd.there ?_)) rfl) rfl .nil) ?_ | refine WQ_endC (vs := [.agg ([.slice ta ts.length tc, .slice ua 288 uc, .slice u2a 288 u2c, .slice wa 32 wc, .slice w2a 32 w2c, .int .i64 (size : Int)]).toArray]) rfl (.agg ⟨by kernel_rfl, by kernel_rfl⟩ rfl (RdAt.cl' (vs := [.slice ta ts.length tc, .slice ua 288 uc, .slice u2a 288 u2c, .slice wa 32 wc, .slice w2a 32 w2c, .int .i64 (size : Int)]) (by repeat (first | assumption | exact Fnd.here | refine Fnd.there ?_)) rfl) rfl .nil) ?_)
  refine ⟨(C4 ++ (C3 ++ (C2 ++ C1))) :: L, fun w h => four.2 (iH h), _, _, _, _, _, rfl, hfin, rfl⟩
end Go.Proofs.YtdcehmhelfohfaaGreatDoor
namespace Go.Df
open Go.Vx Go.If Go.Hf
set_option linter.all false
def sfN (x n : Nat) (bf : Bool) : Nat := if x = 0 ∧ 11 ≤ n then 18 else if x = 0 ∧ 3 ≤ n then 17 else if 0 < x ∧ bf = true ∧ 3 ≤ n then 16 else x
def smN (x n : Nat) (bf : Bool) : Nat := min n (rpA (sfN x n bf) + 2 ^ rpB (sfN x n bf) - 1)
def oneF (x : Nat) : Nat → Nat → Bool → List (Nat × Nat)
  | 0, _, _ => []
  | f + 1, n, bf => if n = 0 then [] else (sfN x n bf, smN x n bf - rpA (sfN x n bf)) :: oneF x f (n - smN x n bf) true
def eqN : List Nat → Nat
  | [] => 0
  | x :: r => 1 + (r.takeWhile fun y => decide (y = x)).length
def rnF : Nat → List Nat → List (Nat × Nat)
  | 0, _ => []
  | f + 1, l => if l = [] then [] else oneF (l.getD 0 0) (eqN l) (eqN l) false ++ rnF f (l.drop (eqN l))
def rnS (l : List Nat) : List (Nat × Nat) := rnF l.length l
theorem sfN_le {x n : Nat} (h : x ≤ 15) (bf : Bool) : sfN x n bf ≤ 18 := by unfold sfN; split <;> (try split) <;> (try split) <;> omega
theorem sfN_fit {x n : Nat} (h : x ≤ 15) (hn : 1 ≤ n) (bf : Bool) : rpA (sfN x n bf) ≤ n ∧ 1 ≤ rpA (sfN x n bf) ∧ rpA (sfN x n bf) ≤ 11 ∧ rpB (sfN x n bf) ≤ 7 := by
  unfold sfN
  split
  · exact ⟨by show 11 ≤ n; omega, by decide, by decide, by decide⟩
  · split
    · exact ⟨by show 3 ≤ n; omega, by decide, by decide, by decide⟩
    · split
      · exact ⟨by show 3 ≤ n; omega, by decide, by decide, by decide⟩
      · have e1 : rpA x = 1 := by unfold rpA; rw [if_neg (by omega), if_neg (by omega), if_neg (by omega)]
        have e2 : rpB x = 0 := by unfold rpB; rw [if_neg (by omega), if_neg (by omega), if_neg (by omega)]
        rw [e1, e2]; omega
theorem smN_b {x n : Nat} (h : x ≤ 15) (hn : 1 ≤ n) (bf : Bool) : rpA (sfN x n bf) ≤ smN x n bf ∧ smN x n bf ≤ n ∧ 1 ≤ smN x n bf ∧ smN x n bf - rpA (sfN x n bf) < 2 ^ rpB (sfN x n bf) := by
  have := sfN_fit h hn bf
  have hp : 0 < 2 ^ rpB (sfN x n bf) := Nat.pow_pos (by decide)
  unfold smN
  omega
theorem oneF_len (x : Nat) (hx : x ≤ 15) : ∀ f n bf, (oneF x f n bf).length ≤ n
  | 0, n, bf => Nat.zero_le _
  | f + 1, n, bf => by
    rw [oneF]
    split
    · exact Nat.zero_le _
    · have := smN_b hx (n := n) (by omega) bf
      have := oneF_len x hx f (n - smN x n bf) true
      rw [List.length_cons]; omega
theorem eqN_b {l : List Nat} (h : l ≠ []) : 1 ≤ eqN l ∧ eqN l ≤ l.length := by
  cases l with
  | nil => exact absurd rfl h
  | cons x r =>
    have := (List.takeWhile_sublist (fun y => decide (y = x)) (l := r)).length_le
    simp only [eqN, List.length_cons]
    omega
theorem eqN_step {l : List Nat} {k : Nat} (h0 : 1 ≤ k) (hk : k ≤ eqN l) : (k < l.length ∧ l.getD k 0 = l.getD 0 0 → k + 1 ≤ eqN l) ∧ (¬ (k < l.length ∧ l.getD k 0 = l.getD 0 0) → eqN l ≤ k) := by
  cases l with
  | nil => simp only [eqN] at hk; omega
  | cons x r =>
    obtain ⟨j, rfl⟩ : ∃ j, k = j + 1 := ⟨k - 1, by omega⟩
    simp only [eqN, List.getD_cons_succ, List.getD_cons_zero, List.length_cons] at hk ⊢
    have key : ∀ (r : List Nat) (j : Nat), j ≤ (r.takeWhile fun y => decide (y = x)).length → (j < r.length ∧ r.getD j 0 = x → j + 1 ≤ (r.takeWhile fun y => decide (y = x)).length) ∧ (¬ (j < r.length ∧ r.getD j 0 = x) → (r.takeWhile fun y => decide (y = x)).length ≤ j) := by
      intro r
      induction r with
      | nil => intro j _; exact ⟨fun h => by simp at h, fun _ => by simp⟩
      | cons y r ih =>
        intro j hj
        by_cases hy : y = x
        · rw [List.takeWhile_cons_of_pos (by simpa using hy)] at hj ⊢
          simp only [List.length_cons] at hj ⊢
          cases j with
          | zero => exact ⟨fun _ => by omega, fun h => absurd ⟨by simp, by simpa using hy⟩ h⟩
          | succ j =>
            have := ih j (by omega)
            simp only [List.getD_cons_succ]
            exact ⟨fun h => by have := this.1 ⟨by omega, h.2⟩; omega, fun h => by have := this.2 (fun hh => h ⟨by omega, hh.2⟩); omega⟩
        · rw [List.takeWhile_cons_of_neg (by simpa using hy), List.length_nil] at hj ⊢
          obtain rfl : j = 0 := by omega
          exact ⟨fun h => absurd (by simpa using h.2) hy, fun _ => Nat.le_refl _⟩
    have := key r j (by omega)
    exact ⟨fun h => by have := this.1 ⟨by omega, h.2⟩; omega, fun h => by have := this.2 (fun hh => h ⟨by omega, hh.2⟩); omega⟩
end Go.Df
namespace Go.Proofs.YtdcehmhelfohfaaGreatDoor
open Go Go.Vx Go.Hf Go.If Go.Df
variable [W0]
set_option maxRecDepth 4000
set_option linter.all false
theorem fits_n (k n : Nat) (L : List Chunk) (hk : k ≤ 18) (hn : n ≤ 1000) : GvP Tryz.prog 169 [.int .i64 (k : Int), .int .i64 (n : Int)].toArray L (.bool (decide (rpA k ≤ n))) := by
  refine Gv.of_body Tryz.func169 rfl rfl ?_
  have hr := srun_n k L (by omega)
  generalize rpA k = a at hr ⊢
  generalize rpB k = b at hr
  (repeat' first|refine kW ?_|refine kU fun bk=>?_|refine kV fun hc=>?_|refine kZ (fun hc=>?_) fun hc=>?_|fail)
  refine OW_callP rfl rfl rfl hr rfl ?_
  (repeat' first|refine kW ?_|refine kU fun bk=>?_|refine kV fun hc=>?_|refine kZ (fun hc=>?_) fun hc=>?_|fail)
  refine kR ?_
  exact ⟨_, iC, congrArg Value.bool (by rw [Bool.eq_iff_iff]; simp only [decide_eq_true_eq]; omega), rfl⟩
set_option maxHeartbeats 4000000 in
theorem symbolFor_n (x n : Nat) (bf : Bool) (L : List Chunk) (hx : x ≤ 15) (hn : n ≤ 1000) : GvP Tryz.prog 164 [.int .i64 (x : Int), .int .i64 (n : Int), .bool bf].toArray L (.int .i64 ((sfN x n bf : Nat) : Int)) := by
  refine Gv.of_body Tryz.func164 rfl rfl ?_
  have h18 := fun L => fits_n 18 n L (by decide) hn
  have h17 := fun L => fits_n 17 n L (by decide) hn
  have h16 := fun L => fits_n 16 n L (by decide) hn
  rw [show rpA 18 = 11 from rfl] at h18
  rw [show rpA 17 = 3 from rfl] at h17
  rw [show rpA 16 = 3 from rfl] at h16
  unfold sfN
  by_cases h0 : x = 0
  · subst h0
    (repeat' first|refine kW ?_|refine kU fun bk=>?_|refine kV fun hc=>?_|refine kZ (fun hc=>?_) fun hc=>?_|fail)
    refine OW_callP rfl rfl rfl (h18 _) rfl ?_
    (repeat' first|refine kW ?_|refine kU fun bk=>?_|refine kV fun hc=>?_|refine kZ (fun hc=>?_) fun hc=>?_|fail)
    · rw [if_pos ⟨rfl, by omega⟩]
      refine kR ?_
      exact ⟨_, iC, rfl, rfl⟩
    refine OW_callP rfl rfl rfl (h17 _) rfl ?_
    (repeat' first|refine kW ?_|refine kU fun bk=>?_|refine kV fun hc=>?_|refine kZ (fun hc=>?_) fun hc=>?_|fail)
    · rw [if_neg (by omega), if_pos ⟨rfl, by omega⟩]
      refine kR ?_
      exact ⟨_, iC, rfl, rfl⟩
    · rw [if_neg (by omega), if_neg (by omega), if_neg (by omega)]
      refine kR ?_
      exact ⟨_, iC, rfl, rfl⟩
  · cases bf with
    | false =>
      (repeat' first|refine kW ?_|refine kU fun bk=>?_|refine kV fun hc=>?_|refine kZ (fun hc=>?_) fun hc=>?_|fail)
      rw [if_neg (by omega), if_neg (by omega), if_neg (fun h => by cases h.2.1)]
      refine kR ?_
      exact ⟨_, iC, rfl, rfl⟩
    | true =>
      (repeat' first|refine kW ?_|refine kU fun bk=>?_|refine kV fun hc=>?_|refine kZ (fun hc=>?_) fun hc=>?_|fail)
      refine OW_callP rfl rfl rfl (h16 _) rfl ?_
      (repeat' first|refine kW ?_|refine kU fun bk=>?_|refine kV fun hc=>?_|refine kZ (fun hc=>?_) fun hc=>?_|fail)
      · rw [if_neg (by omega), if_neg (by omega), if_pos ⟨by omega, rfl, by omega⟩]
        refine kR ?_
        exact ⟨_, iC, rfl, rfl⟩
      · rw [if_neg (by omega), if_neg (by omega), if_neg (by omega)]
        refine kR ?_
        exact ⟨_, iC, rfl, rfl⟩
end Go.Proofs.YtdcehmhelfohfaaGreatDoor
namespace Go.Proofs.YtdcehmhelfohfaaGreatDoor
open Go Go.Vx Go.Hf Go.If Go.Df
variable [W0]
set_option maxRecDepth 4000
set_option linter.all false
set_option maxHeartbeats 4000000 in
theorem runsOfOne_n (x n : Nat) (L : List Chunk) (hx : x ≤ 15) (hn : n ≤ 1000) :
    Gv Tryz.prog 155 [.int .i64 (x : Int), .int .i64 (n : Int)].toArray L (fun r L' => ∃ C, Ow 157 2 r (oneF x n n false).length (flt TkV (oneF x n n false)) C ∧ L' = C :: L) := by
  refine Gv.of_body Tryz.func155 rfl rfl ?_
  have hlen := oneF_len x hx n n false
  (repeat' first|refine kW ?_|refine kU fun bk=>?_|refine kV fun hc=>?_|refine kZ (fun hc=>?_) fun hc=>?_|fail)
  refine WC_loop (X := Nat × Nat × List (Nat × Nat) × Value × Chunk) (fun z => [(0, .int .i64 (x : Int)), (1, .int .i64 (z.2.1 : Int)), (5, z.2.2.2.1)]) (fun z => z.2.2.2.2 :: L)
    (fun z => z.2.1 ≤ z.1 ∧ z.1 ≤ n ∧ z.2.2.1 ++ oneF x z.1 z.2.1 (decide (0 < z.2.2.1.length)) = oneF x n n false ∧ Ow 157 2 z.2.2.2.1 z.2.2.1.length (flt TkV z.2.2.1) z.2.2.2.2) (fun z => z.1) (n, n, [], .slice none 0 0, [])
    ⟨Nat.le_refl _, Nat.le_refl _, rfl, .inl ⟨rfl, rfl, rfl, rfl⟩⟩ iS (fun w h => Holds.nil.2 h) ?_
  rintro ⟨f, m, dn, vl, Cl⟩ ⟨hmf, hfn, hdn, hov⟩
  simp only at hmf hfn hdn hov ⊢
  have hdl : dn.length ≤ 1000 := by
    have := congrArg List.length hdn
    rw [List.length_append] at this
    omega
  obtain ⟨va, vc, rfl⟩ := ow_slc hov
  (repeat' first|refine kW ?_|refine kU fun bk=>?_|refine kV fun hc=>?_|refine kZ (fun hc=>?_) fun hc=>?_|fail)
  · have hm0 : 1 ≤ m := by omega
    obtain ⟨g, rfl⟩ : ∃ g, f = g + 1 := ⟨f - 1, by omega⟩
    rw [oneF, if_neg (by omega)] at hdn
    have hsb := smN_b hx hm0 (decide (0 < dn.length))
    have hsf := sfN_fit hx hm0 (decide (0 < dn.length))
    have hs18 := sfN_le (n := m) hx (decide (0 < dn.length))
    have hsy := fun L => symbolFor_n x m (decide (0 < dn.length)) L hx (by omega)
    have hsm : smN x m (decide (0 < dn.length)) = min m (rpA (sfN x m (decide (0 < dn.length))) + 2 ^ rpB (sfN x m (decide (0 < dn.length))) - 1) := rfl
    have hru := fun L => srun_n (sfN x m (decide (0 < dn.length))) L (by omega)
    have hpw : 2 ^ rpB (sfN x m (decide (0 < dn.length))) ≤ 2 ^ 7 := Nat.pow_le_pow_right (by decide) hsf.2.2.2
    have hdz : decide ((dn.length : Int) > 0) = decide (0 < dn.length) := by rw [Bool.eq_iff_iff]; simp only [decide_eq_true_eq]; omega
    rw [hdz]
    refine OW_callP rfl rfl rfl (hsy _) rfl ?_
    generalize smN x m (decide (0 < dn.length)) = sm at hsb hsm hdn
    generalize sfN x m (decide (0 < dn.length)) = sf at hsb hsf hs18 hsm hru hpw hdn ⊢
    (repeat' first|refine kW ?_|refine kU fun bk=>?_|refine kV fun hc=>?_|refine kZ (fun hc=>?_) fun hc=>?_|fail)
    refine OW_callP rfl rfl rfl (hru _) rfl ?_
    obtain ⟨e, he⟩ : ∃ e, e = 2 ^ rpB sf := ⟨_, rfl⟩
    rw [← he] at hsm hpw hsb
    (repeat' first|refine kW ?_|refine kU fun bk=>?_|refine kV fun hc=>?_|refine kZ (fun hc=>?_) fun hc=>?_|fail)
    refine OW_EV (EV_shl64 1 (rpB sf) rfl rfl rfl rfl (by omega) (by rw [← he]; omega)) rfl ?_
    rw [Nat.one_mul, ← he]
    (repeat' first|refine kW ?_|refine kU fun bk=>?_|refine kV fun hc=>?_|refine kZ (fun hc=>?_) fun hc=>?_|fail)
    rw [show min (m : Int) ((rpA sf : Int) + (e : Int) - 1) = (sm : Int) from by omega]
    rw [show (sm : Int) - (rpA sf : Int) = ((sm - rpA sf : Nat) : Int) from by omega]
    refine OW_buildSlice (cs := TkV (sf, sm - rpA sf)) rfl (by rfl) (by first | (simp [fillL, patch, Value.cells, zeros]; done) | (simp [fillL, patch, Value.cells, zeros]; rfl)) (by omega) rfl rfl (fun bn => ?_)
    (repeat' first|refine kW ?_|refine kU fun bk=>?_|refine kV fun hc=>?_|refine kZ (fun hc=>?_) fun hc=>?_|fail)
    refine OW_append rfl rfl hov (sl_cells (k := 2) (c := (TkV (sf, sm - rpA sf)).toArray) (xs := TkV (sf, sm - rpA sf)) (m := 1) Fnd.here rfl (by simp)) (by repeat (first | exact Zip.here _ | apply Zip.there)) rfl (by rfl) (by omega) (by simp [maxLen]; omega) rfl (fun vl2 Cl2 hov2 _ _ => ?_)
    rw [show flt TkV dn ++ TkV (sf, sm - rpA sf) = flt TkV (dn ++ [(sf, sm - rpA sf)]) from by rw [flt_app TkV dn]; simp [flt], show dn.length + 1 = (dn ++ [(sf, sm - rpA sf)]).length from by simp] at hov2
    (repeat' first|refine kW ?_|refine kU fun bk=>?_|refine kV fun hc=>?_|refine kZ (fun hc=>?_) fun hc=>?_|fail)
    rw [show (m : Int) - (sm : Int) = ((m - sm : Nat) : Int) from by omega]
    refine WQ_round (X := Nat × Nat × List (Nat × Nat) × Value × Chunk) (μ := fun z => z.1) (x := (g + 1, m, dn, .slice va dn.length vc, Cl)) (g, m - sm, dn ++ [(sf, sm - rpA sf)], vl2, Cl2) (by simp only; omega) ⟨by simp only; omega, by simp only; omega, by
      simp only
      rw [show decide (0 < (dn ++ [(sf, sm - rpA sf)]).length) = true from by simp, List.append_assoc]
      exact hdn, hov2⟩ iS (fun w h => iH h)
  · obtain rfl : m = 0 := by omega
    have hz : oneF x f 0 (decide (0 < dn.length)) = [] := by cases f <;> rfl
    rw [hz, List.append_nil] at hdn
    rw [← hdn]
    refine kR ?_
    exact ⟨_, iC, Cl, hov, rfl⟩
set_option maxHeartbeats 4000000 in
theorem equal_n (v : Value) (l : List Nat) (L : List Chunk) (h : Rs L 1 v l.length (ivn l)) (hl : l ≠ []) (hn : l.length ≤ 1000) : GvP Tryz.prog 154 [v].toArray L (.int .i64 ((eqN l : Nat) : Int)) := by
  refine Gv.of_body (args := [v]) Tryz.func154 rfl rfl ?_
  have he := eqN_b hl
  obtain ⟨x0, hx0⟩ : ∃ x, l[0]? = some x := ⟨l[0], List.getElem?_eq_getElem (by omega)⟩
  obtain ⟨b, off, cap, cc, T, fr, rfl, hfn, hv0⟩ := sl_at h.sl (ivn_get hx0)
  have hg0 : l.getD 0 0 = x0 := by simp [List.getD, hx0]
  (repeat' first|refine kW ?_|refine kU fun bk=>?_|refine kV fun hc=>?_|refine kZ (fun hc=>?_) fun hc=>?_|fail)
  refine WC_loop (X := Nat) (fun x => [(0, .slice (some ⟨b, off, none⟩) l.length cap), (3, .int .i64 (x : Int))]) (fun _ => L) (fun x => 1 ≤ x ∧ x ≤ eqN l) (fun x => l.length - x) 1 ⟨Nat.le_refl _, he.1⟩ iS (fun w h => h) ?_
  intro k hk9
  have hk : 1 ≤ k ∧ k ≤ eqN l := hk9
  have hst := eqN_step hk.1 hk.2
  rw [hg0] at hst
  (repeat' first|refine kW ?_|refine kU fun bk=>?_|refine kV fun hc=>?_|refine kZ (fun hc=>?_) fun hc=>?_|fail)
  by_cases hkl : k < l.length
  · obtain ⟨xk, hxk⟩ : ∃ x, l[k]? = some x := ⟨l[k], List.getElem?_eq_getElem hkl⟩
    obtain ⟨b', off', cap', cc', T', fr', hv9, hfk, hvk⟩ := sl_at h.sl (ivn_get hxk)
    injection hv9 with q1 q2 q3
    injection q1 with q1
    injection q1 with q4 q5 q6
    subst q4 q5 q3
    clear q2 q6
    have hgk : l.getD k 0 = xk := by simp [List.getD, hxk]
    rw [hgk] at hst
    refine WC_drawAll [] mixed ?_
    (refine WR_t 0 ?_; refine WR_t 1 ?_; refine WR_t 2 ?_; refine WR_t 3 ?_; refine WR_t 4 ?_)
    rw [show decide ((k : Int) < (l.length : Int)) = true from by simp; omega]
    (refine WR_u 5 ?_; refine WR_u 6 ?_)
    (refine WR_takeOn 7 rfl rfl rfl (by kernel_rfl) iP iC (EV_indexAddr (j := k) (len := l.length) rfl rfl rfl hkl) (by rfl) ?_)
    (refine WR_takeOn 8 rfl rfl rfl (by kernel_rfl) iP iC (EV_load rfl hfk hvk) (by rfl) ?_)
    (refine WR_u 9 ?_)
    (refine WR_takeOn 10 rfl rfl rfl (by kernel_rfl) iP iC (EV_indexAddr (j := 0) (len := l.length) rfl rfl rfl (by omega)) (by rfl) ?_)
    (refine WR_takeOn 11 rfl rfl rfl (by kernel_rfl) iP iC (EV_load rfl hfn hv0) (by rfl) ?_)
    (refine WR_u 12 ?_)
    (refine WR_t 13 ?_)
    (refine WR_done (by kernel_rfl) ?_)
    (repeat' first|refine kW ?_|refine kU fun bk=>?_|refine kV fun hc=>?_|refine kZ (fun hc=>?_) fun hc=>?_|fail)
    · have := hst.1 ⟨hkl, by omega⟩
      refine WQ_round (X := Nat) (μ := fun x => l.length - x) (x := k) (k + 1) (by show l.length - (k + 1) < l.length - k; omega) ⟨by omega, this⟩ iS (fun w h => h)
    · have := hst.2 (fun hh => by omega)
      have e : k = eqN l := by omega
      refine kR ?_
      exact ⟨_, iC, by rw [e]; rfl, rfl⟩
  · have := hst.2 (fun hh => hkl hh.1)
    have e : k = eqN l := by omega
    refine WC_drawAll [] mixed ?_
    (refine WR_t 0 ?_; refine WR_t 1 ?_; refine WR_t 2 ?_; refine WR_t 3 ?_; refine WR_t 4 ?_)
    rw [show decide ((k : Int) < (l.length : Int)) = false from by simp; omega]
    (refine WR_v 5 ?_; refine WR_v 6 ?_; refine WR_v 7 ?_; refine WR_v 8 ?_; refine WR_v 9 ?_; refine WR_v 10 ?_; refine WR_v 11 ?_; refine WR_v 12 ?_)
    (refine WR_t 13 ?_)
    (refine WR_done (by kernel_rfl) ?_)
    (repeat' first|refine kW ?_|refine kU fun bk=>?_|refine kV fun hc=>?_|refine kZ (fun hc=>?_) fun hc=>?_|fail)
    refine kR ?_
    exact ⟨_, iC, by rw [e]; rfl, rfl⟩
end Go.Proofs.YtdcehmhelfohfaaGreatDoor
namespace Go.Df
open Go.Vx Go.If Go.Hf
set_option linter.all false
theorem rnF_len : ∀ (f : Nat) (l : List Nat), (∀ x ∈ l, x ≤ 15) → (rnF f l).length ≤ l.length
  | 0, l, _ => Nat.zero_le _
  | f + 1, l, h => by
    rw [rnF]
    split
    · exact Nat.zero_le _
    · rename_i hl
      have he := eqN_b hl
      have hx : l.getD 0 0 ≤ 15 := by
        cases l with
        | nil => exact absurd rfl hl
        | cons y r => exact h y (by simp)
      have h1 := oneF_len (l.getD 0 0) hx (eqN l) (eqN l) false
      have h2 := rnF_len f (l.drop (eqN l)) (fun x hx => h x (List.mem_of_mem_drop hx))
      rw [List.length_append]
      rw [List.length_drop] at h2
      omega
theorem rnF_nil (f : Nat) : rnF f [] = [] := by cases f <;> rfl
def trN (l : List Nat) (least : Nat) : Nat → Nat
  | 0 => 0
  | n + 1 => if least < n + 1 ∧ l.getD n 0 = 0 then trN l least n else n + 1
theorem trN_b {l : List Nat} {least : Nat} : ∀ n, least ≤ n → least ≤ trN l least n ∧ trN l least n ≤ n ∧ ∀ i, trN l least n ≤ i → i < n → l.getD i 0 = 0
  | 0, h => ⟨by rw [trN]; exact h, Nat.le_refl _, fun i h1 h2 => by omega⟩
  | n + 1, h => by
    rw [trN]
    split
    · rename_i hc
      obtain ⟨h1, h2, h3⟩ := trN_b (l := l) (least := least) n (by omega)
      exact ⟨h1, by omega, fun i h4 h5 => by
        by_cases hi : i = n
        · rw [hi]; exact hc.2
        · exact h3 i h4 (by omega)⟩
    · exact ⟨h, Nat.le_refl _, fun i h1 h2 => by omega⟩
def cR (rs : List (Nat × Nat)) : List Nat := rs.foldl (fun l r => inc l r.1) (List.replicate 19 0)
theorem cR_app (a : List (Nat × Nat)) (t : Nat × Nat) : cR (a ++ [t]) = inc (cR a) t.1 := by unfold cR; rw [List.foldl_append]; rfl
theorem cR_len (rs : List (Nat × Nat)) : (cR rs).length = 19 := by
  induction rs using snoc_ind with
  | h0 => exact List.length_replicate
  | h1 a t ih => rw [cR_app, inc_len, ih]
theorem cR_le {rs : List (Nat × Nat)} (h : ∀ r ∈ rs, r.1 < 19) (i : Nat) : (cR rs).getD i 0 ≤ rs.length := by
  induction rs using snoc_ind with
  | h0 => rw [show cR [] = List.replicate 19 0 from rfl, rep_get]; exact Nat.zero_le _
  | h1 a t ih =>
    have := ih (fun x hx => h x (by simp [hx]))
    rw [cR_app, inc_get (by rw [cR_len]; exact h t (by simp)), List.length_append, List.length_singleton]
    split <;> omega
def orN (own : List Nat) : List Nat := (List.range 19).map fun i => own.getD (ordL.getD i 0) 0
end Go.Df
namespace Go.Proofs.YtdcehmhelfohfaaGreatDoor
open Go Go.Vx Go.Hf Go.If Go.Df
variable [W0]
set_option maxRecDepth 4000
set_option linter.all false
set_option maxHeartbeats 4000000 in
theorem trimmed_n (v : Value) (l : List Nat) (least : Nat) (S L : List Chunk) (hi : Inc S L) (h : Rs S 1 v l.length (ivn l)) (hl : least ≤ l.length) (hn : l.length ≤ 1000) :
    Gv Tryz.prog 134 [v, .int .i64 (least : Int)].toArray L (fun r L' => Rs S 1 r (trN l least l.length) (ivn (l.take (trN l least l.length))) ∧ L' = L) := by
  refine Gv.of_body (args := [v, .int .i64 (least : Int)]) Tryz.func134 rfl rfl ?_
  have hL := h.sub hi.mem
  obtain ⟨va, vc, rfl, _⟩ := h.room
  have hb := trN_b (l := l) l.length hl
  (repeat' first|refine kW ?_|refine kU fun bk=>?_|refine kV fun hc=>?_|refine kZ (fun hc=>?_) fun hc=>?_|fail)
  refine WC_loop (X := Nat) (fun x => [(0, .slice va l.length vc), (1, .int .i64 (least : Int)), (5, .int .i64 (x : Int))]) (fun _ => L) (fun x => least ≤ x ∧ x ≤ l.length ∧ trN l least x = trN l least l.length) (fun x => x) l.length ⟨hl, Nat.le_refl _, rfl⟩ iS (fun w h => h) ?_
  intro n hn9
  have hn1 : least ≤ n ∧ n ≤ l.length ∧ trN l least n = trN l least l.length := hn9
  generalize trN l least l.length = R at *
  have hfin : n = R → ∃ r, Rs S 1 r R (ivn (l.take R)) ∧ ∀ {n : Nat} {M : List (Nat × Value)} {L : List Chunk} {d : Nat} {ty : TypeId} {ps : String} {af : Array Edge} {g : Option (Nat × Bool)} {x : Operand} {lo hi : Option Operand},
      ev M x = some (.slice va l.length vc) → bnd M lo 0 = some ((0 : Nat) : Int) → bnd M hi l.length = some (R : Int) → EV Tryz.prog n ⟨some d, .slice 51 x lo hi none, ty, ps, af, g⟩ M L d r := by
    intro hR
    obtain ⟨r, hr, hev⟩ := EV_sliceRs (P := Tryz.prog) (T := 51) h (l := 0) (h := R) (by omega) (by omega)
    rw [Nat.zero_mul, List.drop_zero, Nat.sub_zero, Nat.mul_one] at hr
    exact ⟨r, by rw [show ivn (l.take R) = (ivn l).take R from by simp [ivn, List.map_take]]; exact hr, hev⟩
  by_cases hgo : least < n
  · obtain ⟨k, rfl⟩ : ∃ k, n = k + 1 := ⟨n - 1, by omega⟩
    have hkl : k < l.length := by omega
    obtain ⟨x, hx⟩ : ∃ x, l[k]? = some x := ⟨l[k], List.getElem?_eq_getElem hkl⟩
    obtain ⟨b, off, cap, cc, T, fr, hv9, hfn, hcell⟩ := sl_at hL.sl (ivn_get hx)
    injection hv9 with q1 q2 q3
    subst q1 q3
    clear q2
    have hgk : l.getD k 0 = x := by simp [List.getD, hx]
    have hst := hn1.2.2
    rw [trN, hgk] at hst
    (repeat' first|refine kW ?_|refine kU fun bk=>?_|refine kV fun hc=>?_|refine kZ (fun hc=>?_) fun hc=>?_|fail)
    refine OW_EV (EV_indexAddr (j := k) rfl rfl (by omega) hkl) rfl ?_
    (repeat' first|refine kW ?_|refine kU fun bk=>?_|refine kV fun hc=>?_|refine kZ (fun hc=>?_) fun hc=>?_|fail)
    refine OW_EV (EV_load rfl hfn hcell) rfl ?_
    (repeat' first|refine kW ?_|refine kU fun bk=>?_|refine kV fun hc=>?_|refine kZ (fun hc=>?_) fun hc=>?_|fail)
    · rw [if_pos ⟨hgo, by omega⟩] at hst
      refine WQ_round (X := Nat) (μ := fun x => x) (x := k + 1) k (by show k < k + 1; omega) ⟨by omega, by omega, hst⟩ iS (fun w h => h)
    · rw [if_neg (fun hh => by omega)] at hst
      obtain ⟨r, hr, hev⟩ := hfin hst
      refine OW_EV (hev rfl rfl (by rw [← hst]; rfl)) rfl ?_
      (repeat' first|refine kW ?_|refine kU fun bk=>?_|refine kV fun hc=>?_|refine kZ (fun hc=>?_) fun hc=>?_|fail)
      refine kR ?_
      exact ⟨_, iC, hr, rfl⟩
  · have hst := hn1.2.2
    have hnR : n = R := by
      cases n with
      | zero => exact hst
      | succ n => rw [trN, if_neg (fun hh => by omega)] at hst; exact hst
    obtain ⟨r, hr, hev⟩ := hfin hnR
    (repeat' first|refine kW ?_|refine kU fun bk=>?_|refine kV fun hc=>?_|refine kZ (fun hc=>?_) fun hc=>?_|fail)
    refine OW_EV (hev rfl rfl (by rw [← hnR]; rfl)) rfl ?_
    (repeat' first|refine kW ?_|refine kU fun bk=>?_|refine kV fun hc=>?_|refine kZ (fun hc=>?_) fun hc=>?_|fail)
    refine kR ?_
    exact ⟨_, iC, hr, rfl⟩
set_option maxHeartbeats 4000000 in
theorem runsOf_n (v : Value) (l : List Nat) (L : List Chunk) (h : Rs L 1 v l.length (ivn l)) (hx : ∀ x ∈ l, x ≤ 15) (hn : l.length ≤ 1000) :
    Gv Tryz.prog 135 [v].toArray L (fun r L' => ∃ C, Ow 157 2 r (rnS l).length (flt TkV (rnS l)) C ∧ L' = C :: L) := by
  refine Gv.of_body (args := [v]) Tryz.func135 rfl rfl ?_
  have hlen := rnF_len l.length l hx
  unfold rnS
  (repeat' first|refine kW ?_|refine kU fun bk=>?_|refine kV fun hc=>?_|refine kZ (fun hc=>?_) fun hc=>?_|fail)
  refine WC_loop (X := Nat × List Nat × Value × List (Nat × Nat) × Value × Chunk) (fun z => [(0, z.2.2.1), (3, z.2.2.2.2.1)]) (fun z => z.2.2.2.2.2 :: L)
    (fun z => Rs L 1 z.2.2.1 z.2.1.length (ivn z.2.1) ∧ z.2.1.length ≤ z.1 ∧ (∀ x ∈ z.2.1, x ≤ 15) ∧ z.2.1.length ≤ 1000 ∧ z.2.2.2.1 ++ rnF z.1 z.2.1 = rnF l.length l ∧ Ow 157 2 z.2.2.2.2.1 z.2.2.2.1.length (flt TkV z.2.2.2.1) z.2.2.2.2.2) (fun z => z.1) (l.length, l, v, [], .slice none 0 0, [])
    ⟨h, Nat.le_refl _, hx, hn, rfl, .inl ⟨rfl, rfl, rfl, rfl⟩⟩ iS (fun w h => Holds.nil.2 h) ?_
  clear h hx v
  rintro ⟨f, t, v, dn, vl, Cl⟩ ⟨h, htf, hx, htn, hdn, hov⟩
  simp only at h htf hx htn hdn hov ⊢
  have hdl : dn.length + (rnF f t).length ≤ 1000 := by
    have := congrArg List.length hdn
    rw [List.length_append] at this
    omega
  obtain ⟨va, vc, rfl, _⟩ := h.room
  (repeat' first|refine kW ?_|refine kU fun bk=>?_|refine kV fun hc=>?_|refine kZ (fun hc=>?_) fun hc=>?_|fail)
  · have ht0 : t ≠ [] := fun hh => by rw [hh] at hc; simp at hc
    have he := eqN_b ht0
    obtain ⟨g, rfl⟩ : ∃ g, f = g + 1 := ⟨f - 1, by omega⟩
    rw [rnF, if_neg ht0] at hdn hdl
    rw [List.length_append] at hdl
    obtain ⟨x0, hx0⟩ : ∃ x, t[0]? = some x := ⟨t[0], List.getElem?_eq_getElem (by omega)⟩
    have hg0 : t.getD 0 0 = x0 := by simp [List.getD, hx0]
    rw [hg0] at hdn hdl
    have hx15 : x0 ≤ 15 := hx x0 (List.mem_of_getElem? hx0)
    obtain ⟨r, hr, hev⟩ := EV_sliceRs (P := Tryz.prog) (T := 51) h (l := eqN t) (h := t.length) he.2 (Nat.le_refl _)
    rw [Nat.mul_one, Nat.mul_one, List.take_of_length_le (by rw [List.length_drop, ivn_length]; exact Nat.le_refl _), show (ivn t).drop (eqN t) = ivn (t.drop (eqN t)) from by simp [ivn, List.map_drop], ← List.length_drop] at hr
    obtain ⟨b, off, cap, cc, T, fr, hv9, hfn, hcell⟩ := sl_at h.sl (ivn_get hx0)
    injection hv9 with q1 q2 q3
    subst q1 q3
    clear q2
    have heq := equal_n _ t (Cl :: L) h.there ht0 htn
    refine OW_callP rfl rfl rfl heq rfl ?_
    have hone := fun L => runsOfOne_n x0 (eqN t) L hx15 (by omega)
    generalize oneF x0 (eqN t) (eqN t) false = one at hone hdn hdl
    (repeat' first|refine kW ?_|refine kU fun bk=>?_|refine kV fun hc=>?_|refine kZ (fun hc=>?_) fun hc=>?_|fail)
    refine OW_EV (EV_indexAddr (j := 0) rfl rfl rfl (by omega)) rfl ?_
    (repeat' first|refine kW ?_|refine kU fun bk=>?_|refine kV fun hc=>?_|refine kZ (fun hc=>?_) fun hc=>?_|fail)
    refine OW_EV (EV_load rfl (.there hfn) hcell) rfl ?_
    (repeat' first|refine kW ?_|refine kU fun bk=>?_|refine kV fun hc=>?_|refine kZ (fun hc=>?_) fun hc=>?_|fail)
    refine OW_call rfl rfl rfl (hone _) rfl (fun r2 L' hp => ?_)
    obtain ⟨C2, ho2, rfl⟩ := hp
    (repeat' first|refine kW ?_|refine kU fun bk=>?_|refine kV fun hc=>?_|refine kZ (fun hc=>?_) fun hc=>?_|fail)
    refine OW_append rfl rfl hov (ow_sl ho2) (by repeat (first | exact Zip.here _ | apply Zip.there)) rfl (flt_ones TkV_ones _) (by omega) (by simp [maxLen]; omega) rfl (fun vl2 Cl2 hov2 _ _ => ?_)
    rw [← flt_app, ← List.length_append] at hov2
    (repeat' first|refine kW ?_|refine kU fun bk=>?_|refine kV fun hc=>?_|refine kZ (fun hc=>?_) fun hc=>?_|fail)
    refine OW_EV (hev rfl rfl rfl) rfl ?_
    (repeat' first|refine kW ?_|refine kU fun bk=>?_|refine kV fun hc=>?_|refine kZ (fun hc=>?_) fun hc=>?_|fail)
    refine WQ_round (X := Nat × List Nat × Value × List (Nat × Nat) × Value × Chunk) (μ := fun z => z.1) (x := (g + 1, t, .slice (some ⟨b, off, none⟩) t.length vc, dn, vl, Cl)) (g, t.drop (eqN t), r, dn ++ one, vl2, Cl2) (by simp only; omega) ⟨hr, by simp only [List.length_drop]; omega, fun x hx' => hx x (List.mem_of_mem_drop hx'), by simp only [List.length_drop]; omega, by simp only; rw [List.append_assoc]; exact hdn, hov2⟩ iS (fun w h => iH h)
  · have ht0 : t = [] := List.length_eq_zero_iff.1 (by omega)
    subst ht0
    rw [rnF_nil, List.append_nil] at hdn
    rw [← hdn]
    refine kR ?_
    exact ⟨_, iC, Cl, hov, rfl⟩
end Go.Proofs.YtdcehmhelfohfaaGreatDoor
namespace Go.So
set_option linter.all false
variable {α : Type}
def swp (f : Nat → α) (i j : Nat) : Nat → α := fun k => if k = i then f j else if k = j then f i else f k
def upd (f : Nat → α) (i : Nat) (y : α) : Nat → α := fun k => if k = i then y else f k
theorem upd_swp (f : Nat → α) (i j : Nat) : upd (upd f i (f j)) j (f i) = swp f i j := by
  funext k
  simp only [upd, swp]
  by_cases h1 : k = j
  · by_cases h2 : k = i
    · subst h1; subst h2; simp
    · rw [if_pos h1, if_neg h2, if_pos h1]
  · rw [if_neg h1]
    by_cases h2 : k = i
    · rw [if_pos h2, if_pos h2]
    · rw [if_neg h2, if_neg h2, if_neg h1]
inductive Mv (a b : Nat) : (Nat → α) → (Nat → α) → Prop
  | refl (f) : Mv a b f f
  | step {f g i j} : Mv a b f g → a ≤ i → i < b → a ≤ j → j < b → Mv a b f (swp g i j)
theorem Mv.one {a b i j : Nat} (f : Nat → α) (h1 : a ≤ i) (h2 : i < b) (h3 : a ≤ j) (h4 : j < b) : Mv a b f (swp f i j) := .step (.refl f) h1 h2 h3 h4
theorem Mv.trans {a b : Nat} {f g h : Nat → α} (h1 : Mv a b f g) (h2 : Mv a b g h) : Mv a b f h := by
  induction h2 with
  | refl => exact h1
  | step _ p q r s ih => exact ih.step p q r s
theorem Mv.mono {a b c d : Nat} {f g : Nat → α} (h : Mv a b f g) (h1 : c ≤ a) (h2 : b ≤ d) : Mv c d f g := by
  induction h with
  | refl => exact .refl _
  | step _ p q r s ih => exact ih.step (by omega) (by omega) (by omega) (by omega)
theorem Mv.out {a b : Nat} {f g : Nat → α} (h : Mv a b f g) {k : Nat} (hk : k < a ∨ b ≤ k) : g k = f k := by
  induction h with
  | refl => rfl
  | step _ p q r s ih =>
    simp only [swp]
    rw [if_neg (by omega), if_neg (by omega)]
    exact ih
theorem Mv.all {a b : Nat} {f g : Nat → α} (h : Mv a b f g) {p : α → Prop} (hp : ∀ k, a ≤ k → k < b → p (f k)) : ∀ k, a ≤ k → k < b → p (g k) := by
  induction h with
  | refl => exact hp
  | @step g i j _ h1 h2 h3 h4 ih =>
    intro k hk1 hk2
    simp only [swp]
    split
    · exact ih j h3 h4
    · split
      · exact ih i h1 h2
      · exact ih k hk1 hk2
theorem swp_perm (f : Nat → α) {i j n : Nat} (hi : i < n) (hj : j < n) : ((List.range n).map (swp f i j)).Perm ((List.range n).map f) := by
  have e : swp f i j = fun k => f (swp id i j k) := by
    funext k
    simp only [swp, id]
    split
    · rfl
    · split <;> rfl
  have hs : ((List.range n).map (swp id i j)).Perm (List.range n) := by
    refine (List.perm_ext_iff_of_nodup ?_ List.nodup_range).2 fun x => ?_
    · refine List.Pairwise.map _ (fun a b hab => ?_) List.nodup_range
      intro he
      apply hab
      simp only [swp, id] at he
      split at he <;> split at he <;> (try split at he) <;> (try split at he) <;> omega
    · simp only [List.mem_map, List.mem_range]
      constructor
      · rintro ⟨k, hk, rfl⟩
        simp only [swp, id]
        split
        · exact hj
        · split
          · exact hi
          · exact hk
      · intro hx
        refine ⟨swp id i j x, ?_, ?_⟩
        · simp only [swp, id]
          split
          · exact hj
          · split
            · exact hi
            · exact hx
        · simp only [swp, id]
          split <;> (try split) <;> (try split) <;> (try split) <;> omega
  have e2 : (List.range n).map (fun k => f (swp id i j k)) = ((List.range n).map (swp id i j)).map f := by rw [List.map_map]; rfl
  rw [e, e2]
  exact hs.map f
theorem Mv.perm {a b n : Nat} {f g : Nat → α} (h : Mv a b f g) (hb : b ≤ n) : ((List.range n).map g).Perm ((List.range n).map f) := by
  induction h with
  | refl => exact .refl _
  | step _ p q r s ih => exact (swp_perm _ (by omega) (by omega)).trans ih
def swr (f : Nat → α) (a b : Nat) : Nat → Nat → α
  | 0 => f
  | n + 1 => swp (swr f a b n) (a + n) (b + n)
theorem swr_mv (f : Nat → α) {a b c d : Nat} : ∀ n, c ≤ a → c ≤ b → a + n ≤ d → b + n ≤ d → Mv c d f (swr f a b n)
  | 0, _, _, _, _ => .refl f
  | n + 1, h1, h2, h3, h4 => (swr_mv f n h1 h2 (by omega) (by omega)).step (by omega) (by omega) (by omega) (by omega)
theorem swr_at (f : Nat → α) {a b : Nat} : ∀ n, a + n ≤ b → ∀ k, swr f a b n k = if a ≤ k ∧ k < a + n then f (k - a + b) else if b ≤ k ∧ k < b + n then f (k - b + a) else f k
  | 0, _, k => by
    simp only [swr]
    rw [if_neg (by omega), if_neg (by omega)]
  | n + 1, h, k => by
    simp only [swr, swp]
    by_cases h1 : k = a + n
    · rw [if_pos h1, swr_at f n (by omega), if_neg (by omega), if_neg (by omega), if_pos (by omega)]
      congr 1; omega
    · rw [if_neg h1]
      by_cases h2 : k = b + n
      · rw [if_pos h2, swr_at f n (by omega), if_neg (by omega), if_neg (by omega), if_neg (by omega), if_pos (by omega)]
        congr 1; omega
      · rw [if_neg h2, swr_at f n (by omega)]
        have eA : (a ≤ k ∧ k < a + n) = (a ≤ k ∧ k < a + (n + 1)) := by apply propext; omega
        have eB : (b ≤ k ∧ k < b + n) = (b ≤ k ∧ k < b + (n + 1)) := by apply propext; omega
        simp only [eA, eB]
def rot (f : Nat → α) (a m b : Nat) : Nat → α := fun k => if a ≤ k ∧ k < a + (b - m) then f (k - a + m) else if a + (b - m) ≤ k ∧ k < b then f (k - (b - m)) else f k
theorem rot_more (f : Nat → α) {m i j : Nat} (hj : j < i) (hi : i ≤ m) (h0 : 0 < j) : rot (swr f (m - i) m j) (m - (i - j)) m (m + j) = rot f (m - i) m (m + j) := by
  funext k
  simp only [rot]
  have hs := swr_at f (a := m - i) (b := m) j (by omega)
  by_cases c1 : k < m - i
  · rw [if_neg (by omega), if_neg (by omega), hs, if_neg (by omega), if_neg (by omega), if_neg (by omega), if_neg (by omega)]
  by_cases c2 : k < m - i + j
  · rw [if_neg (by omega), if_neg (by omega), hs, if_pos (by omega), if_pos (by omega)]
  by_cases c3 : k < m - i + j + j
  · rw [if_pos (by omega), hs, if_neg (by omega), if_pos (by omega), if_neg (by omega), if_pos (by omega)]
    congr 1; omega
  by_cases c4 : k < m + j
  · rw [if_neg (by omega), if_pos (by omega), hs, if_neg (by omega), if_neg (by omega), if_neg (by omega), if_pos (by omega)]
  · rw [if_neg (by omega), if_neg (by omega), hs, if_neg (by omega), if_neg (by omega), if_neg (by omega), if_neg (by omega)]
theorem rot_less (f : Nat → α) {m i j : Nat} (hj : i < j) (hi : i ≤ m) (h0 : 0 < i) : rot (swr f (m - i) (m + j - i) i) (m - i) m (m + (j - i)) = rot f (m - i) m (m + j) := by
  funext k
  simp only [rot]
  have hs := swr_at f (a := m - i) (b := m + j - i) i (by omega)
  by_cases c1 : k < m - i
  · rw [if_neg (by omega), if_neg (by omega), hs, if_neg (by omega), if_neg (by omega), if_neg (by omega), if_neg (by omega)]
  by_cases c2 : k < m - i + (j - i)
  · rw [if_pos (by omega), hs, if_neg (by omega), if_neg (by omega), if_pos (by omega)]
  by_cases c3 : k < m + (j - i)
  · rw [if_neg (by omega), if_pos (by omega), hs, if_pos (by omega), if_pos (by omega)]
    congr 1; omega
  by_cases c4 : k < m + j
  · rw [if_neg (by omega), if_neg (by omega), hs, if_neg (by omega), if_pos (by omega), if_neg (by omega), if_pos (by omega)]
    congr 1; omega
  · rw [if_neg (by omega), if_neg (by omega), hs, if_neg (by omega), if_neg (by omega), if_neg (by omega), if_neg (by omega)]
theorem rot_same (f : Nat → α) {m i : Nat} (hi : i ≤ m) : swr f (m - i) m i = rot f (m - i) m (m + i) := by
  funext k
  simp only [rot]
  have e : m + i - m = i := by omega
  rw [swr_at f i (by omega), e]
  repeat' split
  all_goals first
    | rfl
    | (exfalso; omega)
    | (congr 1; omega)
def Srt (key : α → Nat) (a b : Nat) (f : Nat → α) : Prop := ∀ i j, a ≤ i → i ≤ j → j < b → key (f i) ≤ key (f j)
theorem Srt.sub {key : α → Nat} {a b c d : Nat} {f : Nat → α} (h : Srt key a b f) (h1 : a ≤ c) (h2 : d ≤ b) : Srt key c d f := fun i j p q r => h i j (by omega) q (by omega)
theorem Srt.join {key : α → Nat} {a m b : Nat} {f : Nat → α} (h1 : Srt key a m f) (h2 : Srt key m b f) (h3 : ∀ i j, a ≤ i → i < m → m ≤ j → j < b → key (f i) ≤ key (f j)) : Srt key a b f := by
  intro i j hi hij hj
  by_cases c : j < m
  · exact h1 i j hi hij c
  by_cases c' : i < m
  · exact h3 i j hi c' (by omega) hj
  · exact h2 i j (by omega) hij hj
theorem Srt.congr {key : α → Nat} {a b : Nat} {f g : Nat → α} (h : Srt key a b f) (he : ∀ k, a ≤ k → k < b → g k = f k) : Srt key a b g := fun i j p q r => by
  rw [he i p (by omega), he j (by omega) r]; exact h i j p q r
end Go.So
namespace Go.Vx
open Go Go.So
set_option linter.all false
variable [W0]
omit [W0] in
/-- A pair's cells; the cells of a row of pairs. -/
def cv (x : Nat × Nat) : List Value := [.int .i64 (x.1 : Int), .int .i64 (x.2 : Int)]
omit [W0] in
def cvs (f : Nat → Nat × Nat) : Nat → List Value
  | 0 => []
  | n + 1 => cvs f n ++ cv (f n)
theorem cvs_length (f : Nat → Nat × Nat) : ∀ n, (cvs f n).length = n * 2
  | 0 => rfl
  | n + 1 => by rw [cvs, List.length_append, cvs_length f n]; simp [cv]; omega
theorem cvs_congr {f g : Nat → Nat × Nat} : ∀ {n : Nat}, (∀ k, k < n → f k = g k) → cvs f n = cvs g n
  | 0, _ => rfl
  | n + 1, h => by rw [cvs, cvs, cvs_congr (fun k hk => h k (by omega)), h n (by omega)]
theorem cvs_split (f : Nat → Nat × Nat) : ∀ {n j : Nat}, j < n → ∃ A B, cvs f n = A ++ (cv (f j) ++ B) ∧ A.length = j * 2 ∧ ∀ y, cvs (upd f j y) n = A ++ (cv y ++ B)
  | 0, j, h => by omega
  | n + 1, j, h => by
    by_cases he : j = n
    · subst he
      refine ⟨cvs f j, [], by simp [cvs], cvs_length f j, fun y => ?_⟩
      rw [cvs, cvs_congr (g := f) (fun k hk => by simp only [upd]; rw [if_neg (by omega)])]
      simp [upd]
    · obtain ⟨A, B, h1, h2, h3⟩ := cvs_split f (n := n) (j := j) (by omega)
      refine ⟨A, B ++ cv (f n), by rw [cvs, h1]; simp, h2, fun y => ?_⟩
      rw [cvs, h3]
      simp only [upd]
      rw [if_neg (by omega)]
      simp
theorem cv_rd {f : Nat → Nat × Nat} {n j b : Nat} {rest : List Value} {T : TypeId} {L : List Chunk} (hj : j < n) (hf : Fnd L b (cl (cvs f n ++ rest) T)) : RdAt L ⟨b, j * 2, none⟩ (cv (f j)) := by
  obtain ⟨A, B, h1, h2, _⟩ := cvs_split f hj
  refine RdAt.cl' hf ?_
  have hl : (cv (f j)).length = 2 := rfl
  rw [h1, cut, List.append_assoc, ← h2, List.drop_left, List.append_assoc, List.take_left' rfl]
theorem cv_patch {f : Nat → Nat × Nat} {n j : Nat} {rest : List Value} {y : Nat × Nat} (hj : j < n) : patch (cvs f n ++ rest) (j * 2) (cv y) = cvs (upd f j y) n ++ rest := by
  obtain ⟨A, B, h1, h2, h3⟩ := cvs_split f hj
  rw [h1, h3, patch, ← h2]
  have hl : A.length + (cv y).length = (A ++ cv (f j)).length := by simp [cv]
  have e1 : A ++ (cv (f j) ++ B) ++ rest = A ++ (cv (f j) ++ (B ++ rest)) := by simp
  have e2 : A ++ (cv (f j) ++ B) ++ rest = (A ++ cv (f j)) ++ (B ++ rest) := by simp
  have t1 : (A ++ (cv (f j) ++ B) ++ rest).take A.length = A := by rw [e1, List.take_left]
  have t2 : (A ++ (cv (f j) ++ B) ++ rest).drop (A.length + (cv y).length) = B ++ rest := by rw [hl, e2, List.drop_left]
  rw [t1, t2]
  simp
end Go.Vx
namespace Go.Proofs.YtdcehmhelfohfaaGreatDoor
open Go Go.Vx Go.So
variable [W0]
set_option maxRecDepth 4000
set_option linter.all false
theorem isnan_n (x : Int) (L : List Chunk) : GvP Tryz.prog 97 [.int .i64 x].toArray L (.bool false) := by
  refine Gv.of_body Tryz.func97 rfl rfl ?_
  (repeat' first|refine kW ?_|refine kU fun bk=>?_|refine kV fun hc=>?_|refine kZ (fun hc=>?_) fun hc=>?_|fail)
  refine kR ?_
  refine ⟨L, iC, ?_, rfl⟩
  simp [tupled]
omit [W0] in
def cmpZ (x y : Int) : Int := if x < y then -1 else if x > y then 1 else 0
theorem compare_n (x y : Int) (L : List Chunk) : GvP Tryz.prog 69 [.int .i64 x, .int .i64 y].toArray L (.int .i64 (cmpZ x y)) := by
  refine Gv.of_body Tryz.func69 rfl rfl ?_
  (repeat' first|refine kW ?_|refine kU fun bk=>?_|refine kV fun hc=>?_|refine kZ (fun hc=>?_) fun hc=>?_|fail)
  refine OW_callP rfl rfl rfl (isnan_n x L) rfl ?_
  (repeat' first|refine kW ?_|refine kU fun bk=>?_|refine kV fun hc=>?_|refine kZ (fun hc=>?_) fun hc=>?_|fail)
  refine OW_callP rfl rfl rfl (isnan_n y L) rfl ?_
  (repeat' first|refine kW ?_|refine kU fun bk=>?_|refine kV fun hc=>?_|refine kZ (fun hc=>?_) fun hc=>?_|fail)
  · refine kR ?_
    exact ⟨L, iC, by unfold cmpZ; rw [if_pos (by assumption)]; rfl, rfl⟩
  · refine kR ?_
    exact ⟨L, iC, by unfold cmpZ; rw [if_neg (by assumption), if_pos (by assumption)]; rfl, rfl⟩
  · refine kR ?_
    exact ⟨L, iC, by unfold cmpZ; rw [if_neg (by assumption), if_neg (by assumption)]; rfl, rfl⟩
theorem ccmp_n (x y : Nat × Nat) (L : List Chunk) : GvP Tryz.prog 160 [.agg (cv x).toArray, .agg (cv y).toArray].toArray L (.int .i64 (cmpZ (x.2 : Int) (y.2 : Int))) := by
  refine Gv.of_body Tryz.func160 rfl rfl ?_
  (repeat' first|refine kW ?_|refine kU fun bk=>?_|refine kV fun hc=>?_|refine kZ (fun hc=>?_) fun hc=>?_|fail)
  refine OW_callP rfl rfl rfl (compare_n _ _ _) rfl ?_
  (repeat' first|refine kW ?_|refine kU fun bk=>?_|refine kV fun hc=>?_|refine kZ (fun hc=>?_) fun hc=>?_|fail)
  refine kR ?_
  exact ⟨L, iC, rfl, rfl⟩
omit [W0] in
/-- The comparison that is handed on. -/
def cmpV : Value := .func (.func 160) #[] #[]
set_option maxHeartbeats 2000000 in
theorem swapr_n (f : Nat → Nat × Nat) (N b0 cap a b n : Nat) (rest : List Value) (L : List Chunk) (hN : N ≤ 1000) (h1 : a + n ≤ N) (h2 : b + n ≤ N) :
    Gv Tryz.prog 175 [.slice (some ⟨b0, 0, none⟩) N cap, .int .i64 (a : Int), .int .i64 (b : Int), .int .i64 (n : Int), cmpV].toArray ([(b0, cl (cvs f N ++ rest) 218)] :: L)
      (fun r L' => r = .tuple #[] ∧ L' = [(b0, cl (cvs (swr f a b n) N ++ rest) 218)] :: L) := by
  refine Gv.of_body Tryz.func175 rfl rfl ?_
  (repeat' first|refine kW ?_|refine kU fun bk=>?_|refine kV fun hc=>?_|refine kZ (fun hc=>?_) fun hc=>?_|fail)
  refine WC_loop (X := Nat) (fun i => [(0, .slice (some ⟨b0, 0, none⟩) N cap), (1, .int .i64 (a : Int)), (2, .int .i64 (b : Int)), (3, .int .i64 (n : Int)), (10, .int .i64 (i : Int))])
    (fun i => [(b0, cl (cvs (swr f a b i) N ++ rest) 218)] :: L) (fun i => i ≤ n) (fun i => n - i) 0 (Nat.zero_le _) iS (fun w h => h) ?_
  intro i hi
  obtain ⟨g, hg⟩ : ∃ g, g = swr f a b i := ⟨_, rfl⟩
  have hst : swr f a b (i + 1) = swp g (a + i) (b + i) := by rw [hg]; rfl
  rw [← hg]
  (repeat' first|refine kW ?_|refine kU fun bk=>?_|refine kV fun hc=>?_|refine kZ (fun hc=>?_) fun hc=>?_|fail)
  · have hlt : i < n := by omega
    refine WC_drawAll [4, 5, 6, 7, 21, 22, 23] mixed ?_
    (refine WR_f 4 ?_; refine WR_f 5 ?_; refine WR_f 6 ?_; refine WR_f 7 ?_)
    (refine WR_t2 0 ?_; refine WR_t2 1 ?_; refine WR_t2 2 ?_; refine WR_t2 3 ?_; refine WR_t2 8 ?_; refine WR_t2 9 ?_; refine WR_t2 10 ?_; refine WR_t2 11 ?_)
    (refine WR_take2 12 rfl rfl (by kernel_rfl) iP iC (EV_indexAddr0 (j := b + i) rfl rfl (by omega) (by omega)) (by rfl) ?_)
    (refine WR_take2 13 rfl rfl (by kernel_rfl) iP iC (EV_loadAgg rfl (cv_rd (f := g) (n := N) (j := b + i) (rest := rest) (by omega) (by repeat (first | assumption | exact Fnd.here | refine Fnd.there ?_))) rfl) (by rfl) ?_)
    (refine WR_t2 14 ?_; refine WR_t2 15 ?_; refine WR_t2 16 ?_; refine WR_t2 17 ?_)
    (refine WR_take2 18 rfl rfl (by kernel_rfl) iP iC (EV_indexAddr0 (j := a + i) rfl rfl (by omega) (by omega)) (by rfl) ?_)
    (refine WR_take2 19 rfl rfl (by kernel_rfl) iP iC (EV_loadAgg rfl (cv_rd (f := g) (n := N) (j := a + i) (rest := rest) (by omega) (by repeat (first | assumption | exact Fnd.here | refine Fnd.there ?_))) rfl) (by rfl) ?_)
    (refine WR_take2 20 rfl rfl (by kernel_rfl) iP iC (EV_indexAddr0 (j := a + i) rfl rfl (by omega) (by omega)) (by rfl) ?_)
    (refine WR_last 21 (by kernel_rfl) rfl rfl rfl ?_)
    refine OW_storeAggTo (vs := cv (g (b + i))) (cvs (upd g (a + i) (g (b + i))) N ++ rest) rfl rfl rfl rfl (cv_patch (by omega)) iU (by rw [List.length_append, cvs_length]; simp [cv]; omega) ?_
    (refine WR_last 22 (by kernel_rfl) rfl rfl rfl ?_)
    refine OW_EV (EV_indexAddr0 (j := b + i) rfl rfl (by omega) (by omega)) rfl ?_
    (refine WR_last 23 (by kernel_rfl) rfl rfl rfl ?_)
    refine OW_storeAggTo (l := cvs (upd g (a + i) (g (b + i))) N ++ rest) (vs := cv (g (a + i))) (cvs (swp g (a + i) (b + i)) N ++ rest) rfl rfl rfl rfl (by rw [cv_patch (n := N) (rest := rest) (j := b + i) (by omega), upd_swp]) iU (by rw [List.length_append, cvs_length]; simp [cv]; omega) ?_
    (refine WR_done (by kernel_rfl) ?_)
    rw [← hst]
    (repeat' first|refine kW ?_|refine kU fun bk=>?_|refine kV fun hc=>?_|refine kZ (fun hc=>?_) fun hc=>?_|fail)
    refine WQ_round (X := Nat) (μ := fun i => n - i) (x := i) (i + 1) (by omega) (by omega) iS (fun w h => h)
  · have hin : i = n := by omega
    rw [hg, hin]
    refine kR ?_
    exact ⟨_, iC, rfl, rfl⟩
end Go.Proofs.YtdcehmhelfohfaaGreatDoor
namespace Go.Proofs.YtdcehmhelfohfaaGreatDoor
open Go Go.Vx Go.So
variable [W0]
set_option maxRecDepth 4000
set_option linter.all false
set_option maxHeartbeats 2000000 in
theorem rotate_c (f : Nat → Nat × Nat) (N b0 cap a m b : Nat) (rest : List Value) (L : List Chunk) (hN : N ≤ 1000) (h1 : a < m) (h2 : m < b) (h3 : b ≤ N) :
    Gv Tryz.prog 173 [.slice (some ⟨b0, 0, none⟩) N cap, .int .i64 (a : Int), .int .i64 (m : Int), .int .i64 (b : Int), cmpV].toArray ([(b0, cl (cvs f N ++ rest) 218)] :: L)
      (fun r L' => r = .tuple #[] ∧ ∃ g, Mv a b f g ∧ g = rot f a m b ∧ L' = [(b0, cl (cvs g N ++ rest) 218)] :: L) := by
  refine Gv.of_body Tryz.func173 rfl rfl ?_
  (repeat' first|refine kW ?_|refine kU fun bk=>?_|refine kV fun hc=>?_|refine kZ (fun hc=>?_) fun hc=>?_|fail)
  refine WC_loop (X := Nat × Nat × (Nat → Nat × Nat)) (fun x => [(0, .slice (some ⟨b0, 0, none⟩) N cap), (2, .int .i64 (m : Int)), (4, cmpV), (10, .int .i64 (x.1 : Int)), (11, .int .i64 (x.2.1 : Int))])
    (fun x => [(b0, cl (cvs x.2.2 N ++ rest) 218)] :: L) (fun x => 0 < x.1 ∧ 0 < x.2.1 ∧ x.1 ≤ m - a ∧ m + x.2.1 ≤ b ∧ Mv a b f x.2.2 ∧ rot x.2.2 (m - x.1) m (m + x.2.1) = rot f a m b) (fun x => x.1 + x.2.1) (m - a, b - m, f)
    ⟨by simp only; omega, by simp only; omega, by simp only; omega, by simp only; omega, .refl f, by simp only; rw [show m - (m - a) = a from by omega, show m + (b - m) = b from by omega]⟩ iS (fun w h => h) ?_
  rintro ⟨i, j, g⟩ ⟨q1, q2, q3, q4, q5, q6⟩
  simp only at q1 q2 q3 q4 q5 q6 ⊢
  have hmv : ∀ c d n, a ≤ c → a ≤ d → c + n ≤ b → d + n ≤ b → Mv a b f (swr g c d n) := fun c d n p1 p2 p3 p4 => q5.trans (swr_mv g n p1 p2 p3 p4)
  (repeat' first|refine kW ?_|refine kU fun bk=>?_|refine kV fun hc=>?_|refine kZ (fun hc=>?_) fun hc=>?_|fail)
  · rw [show (m : Int) - (i : Int) = ((m - i : Nat) : Int) from by omega]
    refine OW_call rfl rfl rfl (swapr_n g N b0 cap (m - i) m j rest L hN (by omega) (by omega)) rfl (fun r L' hp => ?_)
    obtain ⟨rfl, rfl⟩ := hp
    (repeat' first|refine kW ?_|refine kU fun bk=>?_|refine kV fun hc=>?_|refine kZ (fun hc=>?_) fun hc=>?_|fail)
    refine WQ_round (X := Nat × Nat × (Nat → Nat × Nat)) (μ := fun x => x.1 + x.2.1) (x := (i, j, g)) (i - j, j, swr g (m - i) m j) (by simp only; omega) ⟨by simp only; omega, q2, by simp only; omega, q4, hmv _ _ _ (by omega) (by omega) (by omega) (by omega), ?_⟩ iS (fun w h => h)
    simp only
    rw [rot_more g (by omega) (by omega) q2]
    exact q6
  · rw [show (m : Int) - (i : Int) = ((m - i : Nat) : Int) from by omega, show (m : Int) + (j : Int) - (i : Int) = ((m + j - i : Nat) : Int) from by omega]
    refine OW_call rfl rfl rfl (swapr_n g N b0 cap (m - i) (m + j - i) i rest L hN (by omega) (by omega)) rfl (fun r L' hp => ?_)
    obtain ⟨rfl, rfl⟩ := hp
    (repeat' first|refine kW ?_|refine kU fun bk=>?_|refine kV fun hc=>?_|refine kZ (fun hc=>?_) fun hc=>?_|fail)
    refine WQ_round (X := Nat × Nat × (Nat → Nat × Nat)) (μ := fun x => x.1 + x.2.1) (x := (i, j, g)) (i, j - i, swr g (m - i) (m + j - i) i) (by simp only; omega) ⟨q1, by simp only; omega, q3, by simp only; omega, hmv _ _ _ (by omega) (by omega) (by omega) (by omega), ?_⟩ iS (fun w h => h)
    simp only
    rw [rot_less g (by omega) (by omega) q1]
    exact q6
  · have hij : i = j := by omega
    rw [show (m : Int) - (i : Int) = ((m - i : Nat) : Int) from by omega]
    refine OW_call rfl rfl rfl (swapr_n g N b0 cap (m - i) m i rest L hN (by omega) (by omega)) rfl (fun r L' hp => ?_)
    obtain ⟨rfl, rfl⟩ := hp
    (repeat' first|refine kW ?_|refine kU fun bk=>?_|refine kV fun hc=>?_|refine kZ (fun hc=>?_) fun hc=>?_|fail)
    refine kR ?_
    refine ⟨_, iC, rfl, swr g (m - i) m i, hmv _ _ _ (by omega) (by omega) (by omega) (by omega), ?_, rfl⟩
    rw [rot_same g (by omega)]
    rw [← hij] at q6
    exact q6
theorem cmpZ_lt (x y : Nat) : decide (cmpZ (x : Int) (y : Int) < 0) = decide (x < y) := by
  apply decide_eq_decide.2
  unfold cmpZ
  split
  · omega
  · split <;> omega
omit [W0] in
/-- By what coins are put in order. -/
def ky : Nat × Nat → Nat := fun x => x.2
set_option maxHeartbeats 4000000 in
theorem insert_c (f : Nat → Nat × Nat) (N b0 cap a b : Nat) (rest : List Value) (L : List Chunk) (hN : N ≤ 1000) (h1 : a ≤ b) (h3 : b ≤ N) :
    Gv Tryz.prog 170 [.slice (some ⟨b0, 0, none⟩) N cap, .int .i64 (a : Int), .int .i64 (b : Int), cmpV].toArray ([(b0, cl (cvs f N ++ rest) 218)] :: L)
      (fun r L' => r = .tuple #[] ∧ ∃ g, Mv a b f g ∧ Srt ky a b g ∧ L' = [(b0, cl (cvs g N ++ rest) 218)] :: L) := by
  refine Gv.of_body Tryz.func170 rfl rfl ?_
  (repeat' first|refine kW ?_|refine kU fun bk=>?_|refine kV fun hc=>?_|refine kZ (fun hc=>?_) fun hc=>?_|fail)
  refine WC_loop (X := Nat × (Nat → Nat × Nat)) (fun x => [(0, .slice (some ⟨b0, 0, none⟩) N cap), (1, .int .i64 (a : Int)), (2, .int .i64 (b : Int)), (3, cmpV), (8, .int .i64 (x.1 : Int))])
    (fun x => [(b0, cl (cvs x.2 N ++ rest) 218)] :: L) (fun x => a < x.1 ∧ x.1 ≤ b + 1 ∧ Mv a b f x.2 ∧ Srt ky a x.1 x.2) (fun x => b + 1 - x.1) (a + 1, f)
    ⟨by simp only; omega, by simp only; omega, .refl f, fun i j p q r => by simp only at r; rw [show i = j from by omega]; exact Nat.le_refl _⟩ iS (fun w h => h) ?_
  rintro ⟨i, g⟩ ⟨q1, q2, q3, q4⟩
  simp only at q1 q2 q3 q4 ⊢
  (repeat' first|refine kW ?_|refine kU fun bk=>?_|refine kV fun hc=>?_|refine kZ (fun hc=>?_) fun hc=>?_|fail)
  · have hib : i < b := by omega
    refine WC_loop (X := Nat × (Nat → Nat × Nat)) (fun x => [(0, .slice (some ⟨b0, 0, none⟩) N cap), (1, .int .i64 (a : Int)), (2, .int .i64 (b : Int)), (3, cmpV), (8, .int .i64 (i : Int)), (9, .int .i64 (x.1 : Int))])
      (fun x => [(b0, cl (cvs x.2 N ++ rest) 218)] :: L) (fun x => a ≤ x.1 ∧ x.1 ≤ i ∧ Mv a b f x.2 ∧ (∀ p q, a ≤ p → p ≤ q → q ≤ i → p ≠ x.1 → q ≠ x.1 → ky (x.2 p) ≤ ky (x.2 q)) ∧ ∀ q, x.1 < q → q ≤ i → ky (x.2 x.1) ≤ ky (x.2 q)) (fun x => x.1) (i, g)
      ⟨by simp only; omega, Nat.le_refl _, q3, fun p q hp hpq hq hpi hqi => q4 p q hp hpq (by simp only at hqi; omega), fun q h4 h5 => by simp only at h4; omega⟩ iS (fun w h => h) ?_
    clear q3 q4 g
    rintro ⟨j, g⟩ ⟨r1, r2, r3, r4, r5⟩
    simp only at r1 r2 r3 r4 r5 ⊢
    have hsrt : (j = a ∨ ¬ ky (g j) < ky (g (j - 1))) → Srt ky a (i + 1) g := by
      intro hend p q hp hpq hq
      by_cases e1 : p = j
      · subst e1
        by_cases e2 : p = q
        · rw [e2]; exact Nat.le_refl _
        · exact r5 q (by omega) (by omega)
      · by_cases e2 : q = j
        · subst e2
          rcases hend with h | h
          · omega
          · have := r4 p (q - 1) hp (by omega) (by omega) e1 (by omega)
            omega
        · exact r4 p q hp hpq (by omega) e1 e2
    (repeat' first|refine kW ?_|refine kU fun bk=>?_|refine kV fun hc=>?_|refine kZ (fun hc=>?_) fun hc=>?_|fail)
    by_cases hja : a < j
    · refine WC_drawAll [] mixed ?_
      (refine WR_t 0 ?_; refine WR_t 1 ?_; refine WR_t 2 ?_; refine WR_t 3 ?_)
      rw [show decide ((j : Int) > (a : Int)) = true from by simp; omega]
      (refine WR_u 4 ?_; refine WR_u 5 ?_; refine WR_u 6 ?_)
      (refine WR_takeOn 7 rfl rfl rfl (by kernel_rfl) iP iC (EV_indexAddr0 (j := j) (len := N) rfl rfl rfl (by omega)) (by rfl) ?_)
      (refine WR_takeOn 8 rfl rfl rfl (by kernel_rfl) iP iC (EV_loadAgg rfl (cv_rd (f := g) (n := N) (j := j) (rest := rest) (by omega) (by repeat (first | assumption | exact Fnd.here | refine Fnd.there ?_))) rfl) (by rfl) ?_)
      (refine WR_u 9 ?_; refine WR_u 10 ?_; refine WR_u 11 ?_)
      (refine WR_takeOn 12 rfl rfl rfl (by kernel_rfl) iP iC (EV_indexAddr0 (j := j - 1) (len := N) rfl rfl (by omega) (by omega)) (by rfl) ?_)
      (refine WR_takeOn 13 rfl rfl rfl (by kernel_rfl) iP iC (EV_loadAgg rfl (cv_rd (f := g) (n := N) (j := j - 1) (rest := rest) (by omega) (by repeat (first | assumption | exact Fnd.here | refine Fnd.there ?_))) rfl) (by rfl) ?_)
      (refine WR_oneOn 14 (by kernel_rfl) rfl rfl rfl ?_)
      refine OW_callP rfl rfl rfl (ccmp_n (g j) (g (j - 1)) _) rfl ?_
      refine ⟨iC, ?_⟩
      (refine WR_u 15 ?_)
      rw [cmpZ_lt]
      (refine WR_t 16 ?_)
      (refine WR_done (by kernel_rfl) ?_)
      (repeat' first|refine kW ?_|refine kU fun bk=>?_|refine kV fun hc=>?_|refine kZ (fun hc=>?_) fun hc=>?_|fail)
      · have hky : ky (g j) < ky (g (j - 1)) := by assumption
        refine WC_drawAll [2, 3, 4, 15, 16, 17] mixed ?_
        (refine WR_f 2 ?_; refine WR_f 3 ?_; refine WR_f 4 ?_)
        (refine WR_t2 0 ?_; refine WR_t2 1 ?_; refine WR_t2 5 ?_; refine WR_t2 6 ?_; refine WR_t2 7 ?_)
        (refine WR_take2 8 rfl rfl (by kernel_rfl) iP iC (EV_indexAddr0 (j := j - 1) (len := N) rfl rfl (by omega) (by omega)) (by rfl) ?_)
        (refine WR_take2 9 rfl rfl (by kernel_rfl) iP iC (EV_loadAgg rfl (cv_rd (f := g) (n := N) (j := j - 1) (rest := rest) (by omega) (by repeat (first | assumption | exact Fnd.here | refine Fnd.there ?_))) rfl) (by rfl) ?_)
        (refine WR_t2 10 ?_; refine WR_t2 11 ?_)
        (refine WR_take2 12 rfl rfl (by kernel_rfl) iP iC (EV_indexAddr0 (j := j) (len := N) rfl rfl rfl (by omega)) (by rfl) ?_)
        (refine WR_take2 13 rfl rfl (by kernel_rfl) iP iC (EV_loadAgg rfl (cv_rd (f := g) (n := N) (j := j) (rest := rest) (by omega) (by repeat (first | assumption | exact Fnd.here | refine Fnd.there ?_))) rfl) (by rfl) ?_)
        (refine WR_take2 14 rfl rfl (by kernel_rfl) iP iC (EV_indexAddr0 (j := j) (len := N) rfl rfl rfl (by omega)) (by rfl) ?_)
        (refine WR_last 15 (by kernel_rfl) rfl rfl rfl ?_)
        refine OW_storeAggTo (vs := cv (g (j - 1))) (cvs (upd g j (g (j - 1))) N ++ rest) rfl rfl rfl rfl (cv_patch (by omega)) iU (by rw [List.length_append, cvs_length]; simp [cv]; omega) ?_
        (refine WR_last 16 (by kernel_rfl) rfl rfl rfl ?_)
        refine OW_EV (EV_indexAddr0 (j := j - 1) (len := N) rfl rfl (by omega) (by omega)) rfl ?_
        (refine WR_last 17 (by kernel_rfl) rfl rfl rfl ?_)
        refine OW_storeAggTo (l := cvs (upd g j (g (j - 1))) N ++ rest) (vs := cv (g j)) (cvs (swp g j (j - 1)) N ++ rest) rfl rfl rfl rfl (by rw [cv_patch (n := N) (rest := rest) (j := j - 1) (by omega), upd_swp]) iU (by rw [List.length_append, cvs_length]; simp [cv]; omega) ?_
        (refine WR_done (by kernel_rfl) ?_)
        (repeat' first|refine kW ?_|refine kU fun bk=>?_|refine kV fun hc=>?_|refine kZ (fun hc=>?_) fun hc=>?_|fail)
        have ea : swp g j (j - 1) j = g (j - 1) := by simp [swp]
        have eb : swp g j (j - 1) (j - 1) = g j := by unfold swp; rw [if_neg (by omega), if_pos rfl]
        have ec : ∀ k, k ≠ j → k ≠ j - 1 → swp g j (j - 1) k = g k := fun k k1 k2 => by simp only [swp]; rw [if_neg k1, if_neg k2]
        refine WQ_round (X := Nat × (Nat → Nat × Nat)) (μ := fun x => x.1) (x := (j, g)) (j - 1, swp g j (j - 1)) (by simp only; omega) ⟨by simp only; omega, by simp only; omega, r3.step (by omega) (by omega) (by omega) (by omega), ?_, ?_⟩ iS (fun w h => h)
        · intro p q hp hpq hq hpj hqj
          simp only at hpj hqj ⊢
          by_cases e1 : p = j
          · subst e1
            by_cases e2 : q = p
            · rw [e2]; exact Nat.le_refl _
            · rw [ea, ec q e2 hqj]; exact r4 (p - 1) q (by omega) (by omega) hq (by omega) e2
          · rw [ec p e1 hpj]
            by_cases e2 : q = j
            · subst e2
              rw [ea]
              exact r4 p (q - 1) hp (by omega) (by omega) e1 (by omega)
            · rw [ec q e2 hqj]; exact r4 p q hp hpq hq e1 e2
        · intro q hq1 hq2
          simp only at hq1 ⊢
          rw [eb]
          by_cases e2 : q = j
          · subst e2; rw [ea]; exact Nat.le_of_lt hky
          · rw [ec q e2 (by omega)]; exact r5 q (by omega) hq2
      · have hky : ¬ ky (g j) < ky (g (j - 1)) := by assumption
        refine WQ_round (X := Nat × (Nat → Nat × Nat)) (μ := fun x => b + 1 - x.1) (x := (i, g)) (i + 1, g) (by simp only; omega) ⟨by simp only; omega, by simp only; omega, r3, hsrt (.inr hky)⟩ iS (fun w h => h)
    · refine WC_drawAll [] mixed ?_
      (refine WR_t 0 ?_; refine WR_t 1 ?_; refine WR_t 2 ?_; refine WR_t 3 ?_)
      rw [show decide ((j : Int) > (a : Int)) = false from by simp; omega]
      (refine WR_v 4 ?_; refine WR_v 5 ?_; refine WR_v 6 ?_; refine WR_v 7 ?_; refine WR_v 8 ?_; refine WR_v 9 ?_; refine WR_v 10 ?_; refine WR_v 11 ?_; refine WR_v 12 ?_; refine WR_v 13 ?_; refine WR_v 14 ?_; refine WR_v 15 ?_)
      (refine WR_t 16 ?_)
      (refine WR_done (by kernel_rfl) ?_)
      (repeat' first|refine kW ?_|refine kU fun bk=>?_|refine kV fun hc=>?_|refine kZ (fun hc=>?_) fun hc=>?_|fail)
      refine WQ_round (X := Nat × (Nat → Nat × Nat)) (μ := fun x => b + 1 - x.1) (x := (i, g)) (i + 1, g) (by simp only; omega) ⟨by simp only; omega, by simp only; omega, r3, hsrt (.inl (by omega))⟩ iS (fun w h => h)
  · refine kR ?_
    exact ⟨_, iC, rfl, g, q3, q4.sub (Nat.le_refl _) (by omega), rfl⟩
end Go.Proofs.YtdcehmhelfohfaaGreatDoor
namespace Go.So
set_option linter.all false
variable {α : Type}
theorem rot_id (f : Nat → α) {s m e : Nat} (h1 : s ≤ m) (h2 : m ≤ e) (h : ¬ (s < m ∧ m < e)) : rot f s m e = f := by
  funext k
  simp only [rot]
  repeat' split
  all_goals first
    | rfl
    | (exfalso; omega)
    | (congr 1; omega)
theorem merge_end {key : α → Nat} {a mid b : Nat} {g1 g2 g3 : Nat → α} (ha : a ≤ mid) (hc : ∀ i j, a ≤ i → i < mid → mid ≤ j → j < b → key (g1 i) ≤ key (g1 j)) (m2 : Mv a mid g1 g2) (m3 : Mv mid b g2 g3) (s2 : Srt key a mid g2) (s3 : Srt key mid b g3) : Srt key a b g3 := by
  refine Srt.join (m := mid) (s2.congr fun k hk1 hk2 => m3.out (.inl hk2)) s3 ?_
  intro i j hi hi2 hj hj2
  rw [m3.out (.inl hi2)]
  refine m3.all (p := fun x => key (g2 i) ≤ key x) (fun j hj hj2 => ?_) j hj hj2
  rw [m2.out (.inr hj)]
  exact m2.all (p := fun x => key x ≤ key (g1 j)) (fun i hi hi2 => hc i j hi hi2 hj hj2) i hi hi2
theorem merge_mid {key : α → Nat} {a s m mid e b : Nat} {f : Nat → α} (h1 : a ≤ s) (h2 : s ≤ m) (h3 : m ≤ e) (h4 : e ≤ b) (hm : s + (e - m) = mid) (sl : Srt key a m f) (sr : Srt key m b f)
    (hab : a < s → e < b → key (f (s - 1)) ≤ key (f e)) (hba : m < e → s < m → key (f (e - 1)) ≤ key (f s)) :
    (∀ i j, a ≤ i → i < mid → mid ≤ j → j < b → key (rot f s m e i) ≤ key (rot f s m e j)) ∧ Srt key a s (rot f s m e) ∧ Srt key s mid (rot f s m e) ∧ Srt key mid e (rot f s m e) ∧ Srt key e b (rot f s m e) := by
  have v1 : ∀ k, k < s → rot f s m e k = f k := fun k hk => by simp only [rot]; rw [if_neg (by omega), if_neg (by omega)]
  have v2 : ∀ k, s ≤ k → k < mid → rot f s m e k = f (k - s + m) := fun k hk hk2 => by simp only [rot]; rw [if_pos (by omega)]
  have v3 : ∀ k, mid ≤ k → k < e → rot f s m e k = f (k - (e - m)) := fun k hk hk2 => by simp only [rot]; rw [if_neg (by omega), if_pos (by omega)]
  have v4 : ∀ k, e ≤ k → rot f s m e k = f k := fun k hk => by simp only [rot]; rw [if_neg (by omega), if_neg (by omega)]
  refine ⟨fun i j hi hi2 hj hj2 => ?_, fun i j p q r => ?_, fun i j p q r => ?_, fun i j p q r => ?_, fun i j p q r => ?_⟩
  · by_cases ci : i < s
    · rw [v1 i ci]
      by_cases cj : j < e
      · rw [v3 j hj cj]
        exact sl i _ hi (by omega) (by omega)
      · rw [v4 j (by omega)]
        exact Nat.le_trans (sl i (s - 1) hi (by omega) (by omega)) (Nat.le_trans (hab (by omega) (by omega)) (sr e j (by omega) (by omega) hj2))
    · rw [v2 i (by omega) hi2]
      by_cases cj : j < e
      · rw [v3 j hj cj]
        exact Nat.le_trans (sr _ (e - 1) (by omega) (by omega) (by omega)) (Nat.le_trans (hba (by omega) (by omega)) (sl s _ (by omega) (by omega) (by omega)))
      · rw [v4 j (by omega)]
        exact sr _ _ (by omega) (by omega) hj2
  · rw [v1 i (by omega), v1 j r]; exact sl i j p q (by omega)
  · rw [v2 i (by omega) (by omega), v2 j (by omega) r]; exact sr _ _ (by omega) (by omega) (by omega)
  · rw [v3 i (by omega) (by omega), v3 j (by omega) r]; exact sl _ _ (by omega) (by omega) (by omega)
  · rw [v4 i (by omega), v4 j (by omega)]; exact sr _ _ (by omega) (by omega) (by omega)
end Go.So
namespace Go.Proofs.YtdcehmhelfohfaaGreatDoor
open Go Go.Vx Go.So
variable [W0]
set_option maxRecDepth 4000
set_option linter.all false
def MergeC (N k : Nat) : Prop := ∀ (f : Nat → Nat × Nat) (b0 cap a m b : Nat) (rest : List Value) (L : List Chunk), b - a ≤ k → a < m → m < b → b ≤ N → Srt ky a m f → Srt ky m b f →
    Gv Tryz.prog 171 [.slice (some ⟨b0, 0, none⟩) N cap, .int .i64 (a : Int), .int .i64 (m : Int), .int .i64 (b : Int), cmpV].toArray ([(b0, cl (cvs f N ++ rest) 218)] :: L)
      (fun r L' => r = .tuple #[] ∧ ∃ g, Mv a b f g ∧ Srt ky a b g ∧ L' = [(b0, cl (cvs g N ++ rest) 218)] :: L)
set_option maxHeartbeats 8000000 in
theorem merge_c (N : Nat) (hN : N ≤ 1000) : ∀ k, MergeC N k := by
  intro k
  induction k with
  | zero => intro f b0 cap a m b rest L h; omega
  | succ k ih =>
    intro f b0 cap a m b rest L hk h1 h2 h3 sl sr
    refine Gv.of_body Tryz.func171 rfl rfl ?_
    (repeat' first|refine kW ?_|refine kU fun bk=>?_|refine kV fun hc=>?_|refine kZ (fun hc=>?_) fun hc=>?_|fail)
    · have hma : m = a + 1 := by omega
      refine WC_loop (X := Nat × Nat) (fun x => [(0, .slice (some ⟨b0, 0, none⟩) N cap), (1, .int .i64 (a : Int)), (2, .int .i64 (m : Int)), (3, .int .i64 (b : Int)), (4, cmpV), (10, .int .i64 (x.1 : Int)), (11, .int .i64 (x.2 : Int))])
        (fun x => [(b0, cl (cvs f N ++ rest) 218)] :: L) (fun x => m ≤ x.1 ∧ x.1 ≤ x.2 ∧ x.2 ≤ b ∧ (∀ t, m ≤ t → t < x.1 → ky (f t) < ky (f a)) ∧ ∀ t, x.2 ≤ t → t < b → ky (f a) ≤ ky (f t)) (fun x => x.2 - x.1) (m, b)
        ⟨Nat.le_refl _, by simp only; omega, Nat.le_refl _, fun t p q => by simp only at q; omega, fun t p q => by simp only at p; omega⟩ iS (fun w h => h) ?_
      rintro ⟨i, j⟩ ⟨q1, q2, q3, q4, q5⟩
      simp only at q1 q2 q3 q4 q5 ⊢
      (repeat' first|refine kW ?_|refine kU fun bk=>?_|refine kV fun hc=>?_|refine kZ (fun hc=>?_) fun hc=>?_|fail)
      · rw [show ((i : Int) + (j : Int)) / 2 = (((i + j) / 2 : Nat) : Int) from by omega]
        obtain ⟨h, hh⟩ : ∃ h, h = (i + j) / 2 := ⟨_, rfl⟩
        rw [← hh]
        refine WC_drawAll [] mixed ?_
        (refine WR_t 0 ?_; refine WR_t 1 ?_; refine WR_t 2 ?_)
        (refine WR_take 3 rfl rfl (by kernel_rfl) iP iC (EV_indexAddr0 (j := h) (len := N) rfl rfl rfl (by omega)) (by rfl) ?_)
        (refine WR_take 4 rfl rfl (by kernel_rfl) iP iC (EV_loadAgg rfl (cv_rd (f := f) (n := N) (j := h) (rest := rest) (by omega) (by repeat (first | assumption | exact Fnd.here | refine Fnd.there ?_))) rfl) (by rfl) ?_)
        (refine WR_t 5 ?_; refine WR_t 6 ?_)
        (refine WR_take 7 rfl rfl (by kernel_rfl) iP iC (EV_indexAddr0 (j := a) (len := N) rfl rfl rfl (by omega)) (by rfl) ?_)
        (refine WR_take 8 rfl rfl (by kernel_rfl) iP iC (EV_loadAgg rfl (cv_rd (f := f) (n := N) (j := a) (rest := rest) (by omega) (by repeat (first | assumption | exact Fnd.here | refine Fnd.there ?_))) rfl) (by rfl) ?_)
        (refine WR_one 9 (by kernel_rfl) rfl rfl ?_)
        refine OW_callP rfl rfl rfl (ccmp_n (f h) (f a) _) rfl ?_
        refine ⟨iC, ?_⟩
        (refine WR_t 10 ?_)
        rw [cmpZ_lt]
        (refine WR_done (by kernel_rfl) ?_)
        (repeat' first|refine kW ?_|refine kU fun bk=>?_|refine kV fun hc=>?_|refine kZ (fun hc=>?_) fun hc=>?_|fail)
        · have hky : ky (f h) < ky (f a) := by assumption
          refine WQ_round (X := Nat × Nat) (μ := fun x => x.2 - x.1) (x := (i, j)) (h + 1, j) (by simp only; omega) ⟨by simp only; omega, by simp only; omega, q3, fun t p q => ?_, q5⟩ iS (fun w h => h)
          simp only at q
          exact Nat.lt_of_le_of_lt (sr t h p (by omega) (by omega)) hky
        · have hky : ¬ ky (f h) < ky (f a) := by assumption
          refine WQ_round (X := Nat × Nat) (μ := fun x => x.2 - x.1) (x := (i, j)) (i, h) (by simp only; omega) ⟨q1, by simp only; omega, by simp only; omega, q4, fun t p q => ?_⟩ iS (fun w h => h)
          simp only at p
          exact Nat.le_trans (by omega) (sr h t (by omega) p q)
      · have hij : i = j := by omega
        refine WC_loop (X := Nat × (Nat → Nat × Nat)) (fun x => [(0, .slice (some ⟨b0, 0, none⟩) N cap), (10, .int .i64 (i : Int)), (13, .int .i64 (x.1 : Int))])
          (fun x => [(b0, cl (cvs x.2 N ++ rest) 218)] :: L) (fun x => a ≤ x.1 ∧ x.1 ≤ i - 1 ∧ Mv a b f x.2 ∧ x.2 x.1 = f a ∧ (∀ t, a ≤ t → t < x.1 → x.2 t = f (t + 1)) ∧ ∀ t, x.1 < t → x.2 t = f t) (fun x => i - x.1) (a, f)
          ⟨Nat.le_refl _, by simp only; omega, .refl f, rfl, fun t p q => by simp only at q; omega, fun t p => rfl⟩ iS (fun w h => h) ?_
        rintro ⟨k, g⟩ ⟨r1, r2, r3, r4, r5, r6⟩
        simp only at r1 r2 r3 r4 r5 r6 ⊢
        (repeat' first|refine kW ?_|refine kU fun bk=>?_|refine kV fun hc=>?_|refine kZ (fun hc=>?_) fun hc=>?_|fail)
        · refine WC_drawAll [2, 3, 4, 15, 16, 17] mixed ?_
          (refine WR_f 2 ?_; refine WR_f 3 ?_; refine WR_f 4 ?_)
          (refine WR_t2 0 ?_; refine WR_t2 1 ?_; refine WR_t2 5 ?_; refine WR_t2 6 ?_; refine WR_t2 7 ?_)
          (refine WR_take2 8 rfl rfl (by kernel_rfl) iP iC (EV_indexAddr0 (j := k + 1) (len := N) rfl rfl (by omega) (by omega)) (by rfl) ?_)
          (refine WR_take2 9 rfl rfl (by kernel_rfl) iP iC (EV_loadAgg rfl (cv_rd (f := g) (n := N) (j := k + 1) (rest := rest) (by omega) (by repeat (first | assumption | exact Fnd.here | refine Fnd.there ?_))) rfl) (by rfl) ?_)
          (refine WR_t2 10 ?_; refine WR_t2 11 ?_)
          (refine WR_take2 12 rfl rfl (by kernel_rfl) iP iC (EV_indexAddr0 (j := k) (len := N) rfl rfl rfl (by omega)) (by rfl) ?_)
          (refine WR_take2 13 rfl rfl (by kernel_rfl) iP iC (EV_loadAgg rfl (cv_rd (f := g) (n := N) (j := k) (rest := rest) (by omega) (by repeat (first | assumption | exact Fnd.here | refine Fnd.there ?_))) rfl) (by rfl) ?_)
          (refine WR_take2 14 rfl rfl (by kernel_rfl) iP iC (EV_indexAddr0 (j := k) (len := N) rfl rfl rfl (by omega)) (by rfl) ?_)
          (refine WR_last 15 (by kernel_rfl) rfl rfl rfl ?_)
          refine OW_storeAggTo (vs := cv (g (k + 1))) (cvs (upd g (k) (g (k + 1))) N ++ rest) rfl rfl rfl rfl (cv_patch (by omega)) iU (by rw [List.length_append, cvs_length]; simp [cv]; omega) ?_
          (refine WR_last 16 (by kernel_rfl) rfl rfl rfl ?_)
          refine OW_EV (EV_indexAddr0 (j := k + 1) (len := N) rfl rfl (by omega) (by omega)) rfl ?_
          (refine WR_last 17 (by kernel_rfl) rfl rfl rfl ?_)
          refine OW_storeAggTo (l := cvs (upd g (k) (g (k + 1))) N ++ rest) (vs := cv (g (k))) (cvs (swp g (k) (k + 1)) N ++ rest) rfl rfl rfl rfl (by rw [cv_patch (n := N) (rest := rest) (j := k + 1) (by omega), upd_swp]) iU (by rw [List.length_append, cvs_length]; simp [cv]; omega) ?_
          (refine WR_done (by kernel_rfl) ?_)
          (repeat' first|refine kW ?_|refine kU fun bk=>?_|refine kV fun hc=>?_|refine kZ (fun hc=>?_) fun hc=>?_|fail)
          refine WQ_round (X := Nat × (Nat → Nat × Nat)) (μ := fun x => i - x.1) (x := (k, g)) (k + 1, swp g k (k + 1)) (by simp only; omega) ⟨by simp only; omega, by simp only; omega, r3.step (by omega) (by omega) (by omega) (by omega), ?_, fun t p q => ?_, fun t p => ?_⟩ iS (fun w h => h)
          · show swp g k (k + 1) (k + 1) = f a
            unfold swp
            rw [if_neg (by omega), if_pos rfl]
            exact r4
          · show swp g k (k + 1) t = f (t + 1)
            unfold swp
            simp only at q
            by_cases e : t = k
            · rw [if_pos e, r6 (k + 1) (by omega), e]
            · rw [if_neg e, if_neg (by omega)]
              exact r5 t p (by omega)
          · show swp g k (k + 1) t = f t
            unfold swp
            simp only at p
            rw [if_neg (by omega), if_neg (by omega)]
            exact r6 t (by omega)
        · have hki : k = i - 1 := by omega
          refine kR ?_
          refine ⟨_, iC, rfl, g, r3, fun p q hp hpq hq => ?_, rfl⟩
          by_cases e1 : p < k
          · rw [r5 p hp e1]
            by_cases e2 : q < k
            · rw [r5 q (by omega) e2]; exact sr _ _ (by omega) (by omega) (by omega)
            · by_cases e3 : q = k
              · rw [e3, r4]; exact Nat.le_of_lt (q4 _ (by omega) (by omega))
              · rw [r6 q (by omega)]; exact sr _ _ (by omega) (by omega) hq
          · by_cases e2 : p = k
            · rw [e2, r4]
              by_cases e3 : q = k
              · rw [e3, r4]; exact Nat.le_refl _
              · rw [r6 q (by omega)]; exact q5 q (by omega) hq
            · rw [r6 p (by omega), r6 q (by omega)]; exact sr _ _ (by omega) hpq hq
    · have hmb : b = m + 1 := by omega
      refine WC_loop (X := Nat × Nat) (fun x => [(0, .slice (some ⟨b0, 0, none⟩) N cap), (1, .int .i64 (a : Int)), (2, .int .i64 (m : Int)), (3, .int .i64 (b : Int)), (4, cmpV), (14, .int .i64 (x.1 : Int)), (15, .int .i64 (x.2 : Int))])
        (fun x => [(b0, cl (cvs f N ++ rest) 218)] :: L) (fun x => a ≤ x.1 ∧ x.1 ≤ x.2 ∧ x.2 ≤ m ∧ (∀ t, a ≤ t → t < x.1 → ky (f t) ≤ ky (f m)) ∧ ∀ t, x.2 ≤ t → t < m → ky (f m) ≤ ky (f t)) (fun x => x.2 - x.1) (a, m)
        ⟨Nat.le_refl _, by simp only; omega, Nat.le_refl _, fun t p q => by simp only at q; omega, fun t p q => by simp only at p; omega⟩ iS (fun w h => h) ?_
      rintro ⟨i, j⟩ ⟨q1, q2, q3, q4, q5⟩
      simp only at q1 q2 q3 q4 q5 ⊢
      (repeat' first|refine kW ?_|refine kU fun bk=>?_|refine kV fun hc=>?_|refine kZ (fun hc=>?_) fun hc=>?_|fail)
      · rw [show ((i : Int) + (j : Int)) / 2 = (((i + j) / 2 : Nat) : Int) from by omega]
        obtain ⟨h, hh⟩ : ∃ h, h = (i + j) / 2 := ⟨_, rfl⟩
        rw [← hh]
        refine WC_drawAll [] mixed ?_
        (refine WR_t 0 ?_; refine WR_t 1 ?_; refine WR_t 2 ?_)
        (refine WR_take 3 rfl rfl (by kernel_rfl) iP iC (EV_indexAddr0 (j := m) (len := N) rfl rfl rfl (by omega)) (by rfl) ?_)
        (refine WR_take 4 rfl rfl (by kernel_rfl) iP iC (EV_loadAgg rfl (cv_rd (f := f) (n := N) (j := m) (rest := rest) (by omega) (by repeat (first | assumption | exact Fnd.here | refine Fnd.there ?_))) rfl) (by rfl) ?_)
        (refine WR_t 5 ?_; refine WR_t 6 ?_)
        (refine WR_take 7 rfl rfl (by kernel_rfl) iP iC (EV_indexAddr0 (j := h) (len := N) rfl rfl rfl (by omega)) (by rfl) ?_)
        (refine WR_take 8 rfl rfl (by kernel_rfl) iP iC (EV_loadAgg rfl (cv_rd (f := f) (n := N) (j := h) (rest := rest) (by omega) (by repeat (first | assumption | exact Fnd.here | refine Fnd.there ?_))) rfl) (by rfl) ?_)
        (refine WR_one 9 (by kernel_rfl) rfl rfl ?_)
        refine OW_callP rfl rfl rfl (ccmp_n (f m) (f h) _) rfl ?_
        refine ⟨iC, ?_⟩
        (refine WR_t 10 ?_)
        rw [cmpZ_lt]
        (refine WR_t 11 ?_)
        (refine WR_done (by kernel_rfl) ?_)
        (repeat' first|refine kW ?_|refine kU fun bk=>?_|refine kV fun hc=>?_|refine kZ (fun hc=>?_) fun hc=>?_|fail)
        · have hky : ¬ ky (f m) < ky (f h) := by assumption
          refine WQ_round (X := Nat × Nat) (μ := fun x => x.2 - x.1) (x := (i, j)) (h + 1, j) (by simp only; omega) ⟨by simp only; omega, by simp only; omega, q3, fun t p q => ?_, q5⟩ iS (fun w h => h)
          simp only at q
          exact Nat.le_trans (sl t h p (by omega) (by omega)) (by omega)
        · have hky : ky (f m) < ky (f h) := by assumption
          refine WQ_round (X := Nat × Nat) (μ := fun x => x.2 - x.1) (x := (i, j)) (i, h) (by simp only; omega) ⟨q1, by simp only; omega, by simp only; omega, q4, fun t p q => ?_⟩ iS (fun w h => h)
          simp only at p
          exact Nat.le_trans (Nat.le_of_lt hky) (sl h t (by omega) p q)
      · have hij : i = j := by omega
        refine WC_loop (X := Nat × (Nat → Nat × Nat)) (fun x => [(0, .slice (some ⟨b0, 0, none⟩) N cap), (14, .int .i64 (i : Int)), (17, .int .i64 (x.1 : Int))])
          (fun x => [(b0, cl (cvs x.2 N ++ rest) 218)] :: L) (fun x => i ≤ x.1 ∧ x.1 ≤ m ∧ Mv a b f x.2 ∧ x.2 x.1 = f m ∧ (∀ t, x.1 < t → t ≤ m → x.2 t = f (t - 1)) ∧ ∀ t, t < x.1 → x.2 t = f t) (fun x => x.1) (m, f)
          ⟨by simp only; omega, Nat.le_refl _, .refl f, rfl, fun t p q => by simp only at p; omega, fun t p => rfl⟩ iS (fun w h => h) ?_
        rintro ⟨k, g⟩ ⟨r1, r2, r3, r4, r5, r6⟩
        simp only at r1 r2 r3 r4 r5 r6 ⊢
        (repeat' first|refine kW ?_|refine kU fun bk=>?_|refine kV fun hc=>?_|refine kZ (fun hc=>?_) fun hc=>?_|fail)
        · refine WC_drawAll [2, 3, 4, 15, 16, 17] mixed ?_
          (refine WR_f 2 ?_; refine WR_f 3 ?_; refine WR_f 4 ?_)
          (refine WR_t2 0 ?_; refine WR_t2 1 ?_; refine WR_t2 5 ?_; refine WR_t2 6 ?_; refine WR_t2 7 ?_)
          (refine WR_take2 8 rfl rfl (by kernel_rfl) iP iC (EV_indexAddr0 (j := k - 1) (len := N) rfl rfl (by omega) (by omega)) (by rfl) ?_)
          (refine WR_take2 9 rfl rfl (by kernel_rfl) iP iC (EV_loadAgg rfl (cv_rd (f := g) (n := N) (j := k - 1) (rest := rest) (by omega) (by repeat (first | assumption | exact Fnd.here | refine Fnd.there ?_))) rfl) (by rfl) ?_)
          (refine WR_t2 10 ?_; refine WR_t2 11 ?_)
          (refine WR_take2 12 rfl rfl (by kernel_rfl) iP iC (EV_indexAddr0 (j := k) (len := N) rfl rfl rfl (by omega)) (by rfl) ?_)
          (refine WR_take2 13 rfl rfl (by kernel_rfl) iP iC (EV_loadAgg rfl (cv_rd (f := g) (n := N) (j := k) (rest := rest) (by omega) (by repeat (first | assumption | exact Fnd.here | refine Fnd.there ?_))) rfl) (by rfl) ?_)
          (refine WR_take2 14 rfl rfl (by kernel_rfl) iP iC (EV_indexAddr0 (j := k) (len := N) rfl rfl rfl (by omega)) (by rfl) ?_)
          (refine WR_last 15 (by kernel_rfl) rfl rfl rfl ?_)
          refine OW_storeAggTo (vs := cv (g (k - 1))) (cvs (upd g (k) (g (k - 1))) N ++ rest) rfl rfl rfl rfl (cv_patch (by omega)) iU (by rw [List.length_append, cvs_length]; simp [cv]; omega) ?_
          (refine WR_last 16 (by kernel_rfl) rfl rfl rfl ?_)
          refine OW_EV (EV_indexAddr0 (j := k - 1) (len := N) rfl rfl (by omega) (by omega)) rfl ?_
          (refine WR_last 17 (by kernel_rfl) rfl rfl rfl ?_)
          refine OW_storeAggTo (l := cvs (upd g (k) (g (k - 1))) N ++ rest) (vs := cv (g (k))) (cvs (swp g (k) (k - 1)) N ++ rest) rfl rfl rfl rfl (by rw [cv_patch (n := N) (rest := rest) (j := k - 1) (by omega), upd_swp]) iU (by rw [List.length_append, cvs_length]; simp [cv]; omega) ?_
          (refine WR_done (by kernel_rfl) ?_)
          (repeat' first|refine kW ?_|refine kU fun bk=>?_|refine kV fun hc=>?_|refine kZ (fun hc=>?_) fun hc=>?_|fail)
          refine WQ_round (X := Nat × (Nat → Nat × Nat)) (μ := fun x => x.1) (x := (k, g)) (k - 1, swp g k (k - 1)) (by simp only; omega) ⟨by simp only; omega, by simp only; omega, r3.step (by omega) (by omega) (by omega) (by omega), ?_, fun t p q => ?_, fun t p => ?_⟩ iS (fun w h => h)
          · show swp g k (k - 1) (k - 1) = f m
            unfold swp
            rw [if_neg (by omega), if_pos rfl]
            exact r4
          · show swp g k (k - 1) t = f (t - 1)
            unfold swp
            simp only at p
            by_cases e : t = k
            · rw [if_pos e, r6 (k - 1) (by omega), e]
            · rw [if_neg e, if_neg (by omega)]
              exact r5 t (by omega) q
          · show swp g k (k - 1) t = f t
            unfold swp
            simp only at p
            rw [if_neg (by omega), if_neg (by omega)]
            exact r6 t (by omega)
        · have hki : k = i := by omega
          refine kR ?_
          refine ⟨_, iC, rfl, g, r3, fun p q hp hpq hq => ?_, rfl⟩
          by_cases e1 : p < k
          · rw [r6 p e1]
            by_cases e2 : q < k
            · rw [r6 q e2]; exact sl _ _ hp hpq (by omega)
            · by_cases e3 : q = k
              · rw [e3, r4]; exact q4 _ hp (by omega)
              · rw [r5 q (by omega) (by omega)]; exact sl _ _ hp (by omega) (by omega)
          · by_cases e2 : p = k
            · rw [e2, r4]
              by_cases e3 : q = k
              · rw [e3, r4]; exact Nat.le_refl _
              · rw [r5 q (by omega) (by omega)]; exact q5 _ (by omega) (by omega)
            · rw [r5 p (by omega) (by omega), r5 q (by omega) (by omega)]; exact sl _ _ (by omega) (by omega) (by omega)
    · obtain ⟨mid, hmid⟩ : ∃ mid, mid = (a + b) / 2 := ⟨_, rfl⟩
      obtain ⟨s0, hs0⟩ : ∃ s0, s0 = mid + m - b := ⟨_, rfl⟩
      obtain ⟨r0, hr0⟩ : ∃ r0, r0 = mid := ⟨_, rfl⟩
      have hsr : s0 ≤ r0 := by omega
      refine WC_loop (X := Nat × Nat) (fun x => [(0, .slice (some ⟨b0, 0, none⟩) N cap), (1, .int .i64 (a : Int)), (2, .int .i64 (m : Int)), (3, .int .i64 (b : Int)), (4, cmpV), (18, .int .i64 (mid : Int)), (19, .int .i64 ((mid + m : Nat) : Int)), (20, .int .i64 (x.1 : Int)), (21, .int .i64 (x.2 : Int)), (22, .int .i64 ((mid + m - 1 : Nat) : Int))])
        (fun x => [(b0, cl (cvs f N ++ rest) 218)] :: L) (fun x => s0 ≤ x.1 ∧ x.1 ≤ x.2 ∧ x.2 ≤ r0 ∧ (∀ t, s0 ≤ t → t < x.1 → ky (f t) ≤ ky (f (mid + m - 1 - t))) ∧ ∀ t, x.2 ≤ t → t < r0 → ky (f (mid + m - 1 - t)) < ky (f t)) (fun x => x.2 - x.1) (s0, r0)
        ⟨Nat.le_refl _, hsr, Nat.le_refl _, fun t p q => by simp only at q; omega, fun t p q => by simp only at p; omega⟩ iS (fun w h => h) ?_
      rintro ⟨s, r⟩ ⟨q1, q2, q3, q4, q5⟩
      simp only at q1 q2 q3 q4 q5 ⊢
      refine WC_seq ?_
      (repeat' first|refine kY ?_|refine kU fun bk=>?_|refine kV fun hc=>?_|refine kZ (fun hc=>?_) fun hc=>?_|fail)
      refine WC_seq ?_
      (repeat' first|refine kY ?_|refine kU fun bk=>?_|refine kV fun hc=>?_|refine kZ (fun hc=>?_) fun hc=>?_|fail)
      · (repeat' first|refine kW ?_|refine kU fun bk=>?_|refine kV fun hc=>?_|refine kZ (fun hc=>?_) fun hc=>?_|fail)
        rw [show ((s : Int) + (r : Int)) / 2 = (((s + r) / 2 : Nat) : Int) from by omega]
        obtain ⟨h, hh⟩ : ∃ h, h = (s + r) / 2 := ⟨_, rfl⟩
        rw [← hh]
        refine WC_drawAll [] mixed ?_
        (refine WR_t 0 ?_; refine WR_t 1 ?_; refine WR_t 2 ?_; refine WR_t 3 ?_; refine WR_t 4 ?_)
        (refine WR_take 5 rfl rfl (by kernel_rfl) iP iC (EV_indexAddr0 (j := mid + m - 1 - h) (len := N) rfl rfl (by omega) (by omega)) (by rfl) ?_)
        (refine WR_take 6 rfl rfl (by kernel_rfl) iP iC (EV_loadAgg rfl (cv_rd (f := f) (n := N) (j := mid + m - 1 - h) (rest := rest) (by omega) (by repeat (first | assumption | exact Fnd.here | refine Fnd.there ?_))) rfl) (by rfl) ?_)
        (refine WR_t 7 ?_; refine WR_t 8 ?_)
        (refine WR_take 9 rfl rfl (by kernel_rfl) iP iC (EV_indexAddr0 (j := h) (len := N) rfl rfl rfl (by omega)) (by rfl) ?_)
        (refine WR_take 10 rfl rfl (by kernel_rfl) iP iC (EV_loadAgg rfl (cv_rd (f := f) (n := N) (j := h) (rest := rest) (by omega) (by repeat (first | assumption | exact Fnd.here | refine Fnd.there ?_))) rfl) (by rfl) ?_)
        (refine WR_one 11 (by kernel_rfl) rfl rfl ?_)
        refine OW_callP rfl rfl rfl (ccmp_n (f (mid + m - 1 - h)) (f h) _) rfl ?_
        refine ⟨iC, ?_⟩
        (refine WR_t 12 ?_)
        rw [cmpZ_lt]
        (refine WR_t 13 ?_)
        (refine WR_done (by kernel_rfl) ?_)
        (repeat' first|refine kW ?_|refine kU fun bk=>?_|refine kV fun hc=>?_|refine kZ (fun hc=>?_) fun hc=>?_|fail)
        · have hky : ¬ ky (f (mid + m - 1 - h)) < ky (f h) := by assumption
          refine WQ_round (X := Nat × Nat) (μ := fun x => x.2 - x.1) (x := (s, r)) (h + 1, r) (by simp only; omega) ⟨by simp only; omega, by simp only; omega, q3, fun t p q => ?_, q5⟩ iS (fun w h => h)
          simp only at q
          have e1 := sl t h (by omega) (by omega) (by omega)
          have e2 := sr (mid + m - 1 - h) (mid + m - 1 - t) (by omega) (by omega) (by omega)
          omega
        · have hky : ky (f (mid + m - 1 - h)) < ky (f h) := by assumption
          refine WQ_round (X := Nat × Nat) (μ := fun x => x.2 - x.1) (x := (s, r)) (s, h) (by simp only; omega) ⟨q1, by simp only; omega, by simp only; omega, q4, fun t p q => ?_⟩ iS (fun w h => h)
          simp only at p
          have e1 := sl h t (by omega) (by omega) (by omega)
          have e2 := sr (mid + m - 1 - t) (mid + m - 1 - h) (by omega) (by omega) (by omega)
          omega
      · have hsr2 : s = r := by omega
        obtain ⟨e, he⟩ : ∃ e, e = mid + m - s := ⟨_, rfl⟩
        have hem : m ≤ e := by omega
        have heb : e ≤ b := by omega
        have hsm : s ≤ m := by omega
        obtain ⟨hc1, k1, k2, k3, k4⟩ := merge_mid (key := ky) (f := f) (a := a) (s := s) (m := m) (mid := mid) (e := e) (b := b) (by omega) hsm hem heb (by omega) sl sr
          (fun p q => by
            have := q4 (s - 1) (by omega) (by omega)
            rw [show mid + m - 1 - (s - 1) = e from by omega] at this
            exact this)
          (fun p q => by
            have := q5 s (by omega) (by omega)
            rw [show mid + m - 1 - s = e - 1 from by omega] at this
            exact Nat.le_of_lt this)
        refine WC_seq ?_
        (repeat' first|refine kY ?_|refine kU fun bk=>?_|refine kV fun hc=>?_|refine kZ (fun hc=>?_) fun hc=>?_|fail)
        refine WC_cut (X := Nat → Nat × Nat) (fun g => [(0, .slice (some ⟨b0, 0, none⟩) N cap), (1, .int .i64 (a : Int)), (2, .int .i64 (m : Int)), (3, .int .i64 (b : Int)), (4, cmpV), (18, .int .i64 (mid : Int)), (20, .int .i64 (s : Int)), (24, .int .i64 (e : Int))])
          (fun g => [(b0, cl (cvs g N ++ rest) 218)] :: L) (fun g => Mv a b f g ∧ g = rot f s m e) ?_ ?_
        · have hid : ¬ (s < m ∧ m < e) → f = rot f s m e := fun h => (rot_id f hsm hem h).symm
          refine WC_holds' (fun w h => h) (WC.sub (M' := [(0, .slice (some ⟨b0, 0, none⟩) N cap), (1, .int .i64 (a : Int)), (2, .int .i64 (m : Int)), (3, .int .i64 (b : Int)), (4, cmpV), (18, .int .i64 (mid : Int)), (20, .int .i64 (s : Int)), (24, .int .i64 (e : Int))]) ?_ iS)
          (repeat' first|refine kW ?_|refine kU fun bk=>?_|refine kV fun hc=>?_|refine kZ (fun hc=>?_) fun hc=>?_|fail)
          all_goals first
            | exact WQ_cut f ⟨.refl f, hid (by omega)⟩ iS (fun w h => h)
            | skip
          refine OW_call rfl rfl rfl (rotate_c f N b0 cap s m e rest L hN (by omega) (by omega) (by omega)) rfl (fun r L' hp => ?_)
          obtain ⟨rfl, g, hg1, hg2, rfl⟩ := hp
          (repeat' first|refine kW ?_|refine kU fun bk=>?_|refine kV fun hc=>?_|refine kZ (fun hc=>?_) fun hc=>?_|fail)
          exact WQ_cut g ⟨hg1.mono (by omega) heb, hg2⟩ iS (fun w h => h)
        rintro g1 ⟨hg1, hg2⟩
        rw [← hg2] at hc1 k1 k2 k3 k4
        refine WC_cut (X := Nat → Nat × Nat) (fun g => [(0, .slice (some ⟨b0, 0, none⟩) N cap), (1, .int .i64 (a : Int)), (2, .int .i64 (m : Int)), (3, .int .i64 (b : Int)), (4, cmpV), (18, .int .i64 (mid : Int)), (20, .int .i64 (s : Int)), (24, .int .i64 (e : Int))])
          (fun g => [(b0, cl (cvs g N ++ rest) 218)] :: L) (fun g => Mv a mid g1 g ∧ Srt ky a mid g) ?_ ?_
        · have hid : ¬ (a < s ∧ s < mid) → Srt ky a mid g1 := fun h => by
            by_cases e1 : s = a
            · rw [e1] at k2; exact k2
            · rw [show mid = s from by omega]; exact k1
          (repeat' first|refine kW ?_|refine kU fun bk=>?_|refine kV fun hc=>?_|refine kZ (fun hc=>?_) fun hc=>?_|fail)
          all_goals first
            | exact WQ_cut g1 ⟨.refl g1, hid (by omega)⟩ iS (fun w h => h)
            | skip
          refine OW_call rfl rfl rfl (ih g1 b0 cap a s mid rest L (by omega) (by omega) (by omega) (by omega) k1 k2) rfl (fun r L' hp => ?_)
          obtain ⟨rfl, g, hg3, hg4, rfl⟩ := hp
          (repeat' first|refine kW ?_|refine kU fun bk=>?_|refine kV fun hc=>?_|refine kZ (fun hc=>?_) fun hc=>?_|fail)
          exact WQ_cut g ⟨hg3, hg4⟩ iS (fun w h => h)
        rintro g2 ⟨hg3, hg4⟩
        have k3' : Srt ky mid e g2 := k3.congr fun k p q => hg3.out (.inr p)
        have k4' : Srt ky e b g2 := k4.congr fun k p q => hg3.out (.inr (by omega))
        have hmv : Mv a b f g2 := hg1.trans (hg3.mono (Nat.le_refl _) (by omega))
        have hid : ¬ (mid < e ∧ e < b) → Srt ky mid b g2 := fun h => by
          by_cases e1 : e = mid
          · rw [e1] at k4'; exact k4'
          · rw [show b = e from by omega]; exact k3'
        (repeat' first|refine kW ?_|refine kU fun bk=>?_|refine kV fun hc=>?_|refine kZ (fun hc=>?_) fun hc=>?_|fail)
        all_goals first
          | (refine kR ?_
             exact ⟨_, iC, rfl, g2, hmv, merge_end (by omega) hc1 hg3 (.refl g2) hg4 (hid (by omega)), rfl⟩)
          | skip
        refine OW_call rfl rfl rfl (ih g2 b0 cap mid e b rest L (by omega) (by omega) (by omega) (by omega) k3' k4') rfl (fun r L' hp => ?_)
        obtain ⟨rfl, g, hg5, hg6, rfl⟩ := hp
        (repeat' first|refine kW ?_|refine kU fun bk=>?_|refine kV fun hc=>?_|refine kZ (fun hc=>?_) fun hc=>?_|fail)
        refine kR ?_
        exact ⟨_, iC, rfl, g, hmv.trans (hg5.mono (by omega) (Nat.le_refl _)), merge_end (by omega) hc1 hg3 hg5 hg4 hg6, rfl⟩
    · obtain ⟨mid, hmid⟩ : ∃ mid, mid = (a + b) / 2 := ⟨_, rfl⟩
      obtain ⟨s0, hs0⟩ : ∃ s0, s0 = a := ⟨_, rfl⟩
      obtain ⟨r0, hr0⟩ : ∃ r0, r0 = m := ⟨_, rfl⟩
      have hsr : s0 ≤ r0 := by omega
      refine WC_loop (X := Nat × Nat) (fun x => [(0, .slice (some ⟨b0, 0, none⟩) N cap), (1, .int .i64 (a : Int)), (2, .int .i64 (m : Int)), (3, .int .i64 (b : Int)), (4, cmpV), (18, .int .i64 (mid : Int)), (19, .int .i64 ((mid + m : Nat) : Int)), (20, .int .i64 (x.1 : Int)), (21, .int .i64 (x.2 : Int)), (22, .int .i64 ((mid + m - 1 : Nat) : Int))])
        (fun x => [(b0, cl (cvs f N ++ rest) 218)] :: L) (fun x => s0 ≤ x.1 ∧ x.1 ≤ x.2 ∧ x.2 ≤ r0 ∧ (∀ t, s0 ≤ t → t < x.1 → ky (f t) ≤ ky (f (mid + m - 1 - t))) ∧ ∀ t, x.2 ≤ t → t < r0 → ky (f (mid + m - 1 - t)) < ky (f t)) (fun x => x.2 - x.1) (s0, r0)
        ⟨Nat.le_refl _, hsr, Nat.le_refl _, fun t p q => by simp only at q; omega, fun t p q => by simp only at p; omega⟩ iS (fun w h => h) ?_
      rintro ⟨s, r⟩ ⟨q1, q2, q3, q4, q5⟩
      simp only at q1 q2 q3 q4 q5 ⊢
      refine WC_seq ?_
      (repeat' first|refine kY ?_|refine kU fun bk=>?_|refine kV fun hc=>?_|refine kZ (fun hc=>?_) fun hc=>?_|fail)
      refine WC_seq ?_
      (repeat' first|refine kY ?_|refine kU fun bk=>?_|refine kV fun hc=>?_|refine kZ (fun hc=>?_) fun hc=>?_|fail)
      · (repeat' first|refine kW ?_|refine kU fun bk=>?_|refine kV fun hc=>?_|refine kZ (fun hc=>?_) fun hc=>?_|fail)
        rw [show ((s : Int) + (r : Int)) / 2 = (((s + r) / 2 : Nat) : Int) from by omega]
        obtain ⟨h, hh⟩ : ∃ h, h = (s + r) / 2 := ⟨_, rfl⟩
        rw [← hh]
        refine WC_drawAll [] mixed ?_
        (refine WR_t 0 ?_; refine WR_t 1 ?_; refine WR_t 2 ?_; refine WR_t 3 ?_; refine WR_t 4 ?_)
        (refine WR_take 5 rfl rfl (by kernel_rfl) iP iC (EV_indexAddr0 (j := mid + m - 1 - h) (len := N) rfl rfl (by omega) (by omega)) (by rfl) ?_)
        (refine WR_take 6 rfl rfl (by kernel_rfl) iP iC (EV_loadAgg rfl (cv_rd (f := f) (n := N) (j := mid + m - 1 - h) (rest := rest) (by omega) (by repeat (first | assumption | exact Fnd.here | refine Fnd.there ?_))) rfl) (by rfl) ?_)
        (refine WR_t 7 ?_; refine WR_t 8 ?_)
        (refine WR_take 9 rfl rfl (by kernel_rfl) iP iC (EV_indexAddr0 (j := h) (len := N) rfl rfl rfl (by omega)) (by rfl) ?_)
        (refine WR_take 10 rfl rfl (by kernel_rfl) iP iC (EV_loadAgg rfl (cv_rd (f := f) (n := N) (j := h) (rest := rest) (by omega) (by repeat (first | assumption | exact Fnd.here | refine Fnd.there ?_))) rfl) (by rfl) ?_)
        (refine WR_one 11 (by kernel_rfl) rfl rfl ?_)
        refine OW_callP rfl rfl rfl (ccmp_n (f (mid + m - 1 - h)) (f h) _) rfl ?_
        refine ⟨iC, ?_⟩
        (refine WR_t 12 ?_)
        rw [cmpZ_lt]
        (refine WR_t 13 ?_)
        (refine WR_done (by kernel_rfl) ?_)
        (repeat' first|refine kW ?_|refine kU fun bk=>?_|refine kV fun hc=>?_|refine kZ (fun hc=>?_) fun hc=>?_|fail)
        · have hky : ¬ ky (f (mid + m - 1 - h)) < ky (f h) := by assumption
          refine WQ_round (X := Nat × Nat) (μ := fun x => x.2 - x.1) (x := (s, r)) (h + 1, r) (by simp only; omega) ⟨by simp only; omega, by simp only; omega, q3, fun t p q => ?_, q5⟩ iS (fun w h => h)
          simp only at q
          have e1 := sl t h (by omega) (by omega) (by omega)
          have e2 := sr (mid + m - 1 - h) (mid + m - 1 - t) (by omega) (by omega) (by omega)
          omega
        · have hky : ky (f (mid + m - 1 - h)) < ky (f h) := by assumption
          refine WQ_round (X := Nat × Nat) (μ := fun x => x.2 - x.1) (x := (s, r)) (s, h) (by simp only; omega) ⟨q1, by simp only; omega, by simp only; omega, q4, fun t p q => ?_⟩ iS (fun w h => h)
          simp only at p
          have e1 := sl h t (by omega) (by omega) (by omega)
          have e2 := sr (mid + m - 1 - t) (mid + m - 1 - h) (by omega) (by omega) (by omega)
          omega
      · have hsr2 : s = r := by omega
        obtain ⟨e, he⟩ : ∃ e, e = mid + m - s := ⟨_, rfl⟩
        have hem : m ≤ e := by omega
        have heb : e ≤ b := by omega
        have hsm : s ≤ m := by omega
        obtain ⟨hc1, k1, k2, k3, k4⟩ := merge_mid (key := ky) (f := f) (a := a) (s := s) (m := m) (mid := mid) (e := e) (b := b) (by omega) hsm hem heb (by omega) sl sr
          (fun p q => by
            have := q4 (s - 1) (by omega) (by omega)
            rw [show mid + m - 1 - (s - 1) = e from by omega] at this
            exact this)
          (fun p q => by
            have := q5 s (by omega) (by omega)
            rw [show mid + m - 1 - s = e - 1 from by omega] at this
            exact Nat.le_of_lt this)
        refine WC_seq ?_
        (repeat' first|refine kY ?_|refine kU fun bk=>?_|refine kV fun hc=>?_|refine kZ (fun hc=>?_) fun hc=>?_|fail)
        refine WC_cut (X := Nat → Nat × Nat) (fun g => [(0, .slice (some ⟨b0, 0, none⟩) N cap), (1, .int .i64 (a : Int)), (2, .int .i64 (m : Int)), (3, .int .i64 (b : Int)), (4, cmpV), (18, .int .i64 (mid : Int)), (20, .int .i64 (s : Int)), (24, .int .i64 (e : Int))])
          (fun g => [(b0, cl (cvs g N ++ rest) 218)] :: L) (fun g => Mv a b f g ∧ g = rot f s m e) ?_ ?_
        · have hid : ¬ (s < m ∧ m < e) → f = rot f s m e := fun h => (rot_id f hsm hem h).symm
          refine WC_holds' (fun w h => h) (WC.sub (M' := [(0, .slice (some ⟨b0, 0, none⟩) N cap), (1, .int .i64 (a : Int)), (2, .int .i64 (m : Int)), (3, .int .i64 (b : Int)), (4, cmpV), (18, .int .i64 (mid : Int)), (20, .int .i64 (s : Int)), (24, .int .i64 (e : Int))]) ?_ iS)
          (repeat' first|refine kW ?_|refine kU fun bk=>?_|refine kV fun hc=>?_|refine kZ (fun hc=>?_) fun hc=>?_|fail)
          all_goals first
            | exact WQ_cut f ⟨.refl f, hid (by omega)⟩ iS (fun w h => h)
            | skip
          refine OW_call rfl rfl rfl (rotate_c f N b0 cap s m e rest L hN (by omega) (by omega) (by omega)) rfl (fun r L' hp => ?_)
          obtain ⟨rfl, g, hg1, hg2, rfl⟩ := hp
          (repeat' first|refine kW ?_|refine kU fun bk=>?_|refine kV fun hc=>?_|refine kZ (fun hc=>?_) fun hc=>?_|fail)
          exact WQ_cut g ⟨hg1.mono (by omega) heb, hg2⟩ iS (fun w h => h)
        rintro g1 ⟨hg1, hg2⟩
        rw [← hg2] at hc1 k1 k2 k3 k4
        refine WC_cut (X := Nat → Nat × Nat) (fun g => [(0, .slice (some ⟨b0, 0, none⟩) N cap), (1, .int .i64 (a : Int)), (2, .int .i64 (m : Int)), (3, .int .i64 (b : Int)), (4, cmpV), (18, .int .i64 (mid : Int)), (20, .int .i64 (s : Int)), (24, .int .i64 (e : Int))])
          (fun g => [(b0, cl (cvs g N ++ rest) 218)] :: L) (fun g => Mv a mid g1 g ∧ Srt ky a mid g) ?_ ?_
        · have hid : ¬ (a < s ∧ s < mid) → Srt ky a mid g1 := fun h => by
            by_cases e1 : s = a
            · rw [e1] at k2; exact k2
            · rw [show mid = s from by omega]; exact k1
          (repeat' first|refine kW ?_|refine kU fun bk=>?_|refine kV fun hc=>?_|refine kZ (fun hc=>?_) fun hc=>?_|fail)
          all_goals first
            | exact WQ_cut g1 ⟨.refl g1, hid (by omega)⟩ iS (fun w h => h)
            | skip
          refine OW_call rfl rfl rfl (ih g1 b0 cap a s mid rest L (by omega) (by omega) (by omega) (by omega) k1 k2) rfl (fun r L' hp => ?_)
          obtain ⟨rfl, g, hg3, hg4, rfl⟩ := hp
          (repeat' first|refine kW ?_|refine kU fun bk=>?_|refine kV fun hc=>?_|refine kZ (fun hc=>?_) fun hc=>?_|fail)
          exact WQ_cut g ⟨hg3, hg4⟩ iS (fun w h => h)
        rintro g2 ⟨hg3, hg4⟩
        have k3' : Srt ky mid e g2 := k3.congr fun k p q => hg3.out (.inr p)
        have k4' : Srt ky e b g2 := k4.congr fun k p q => hg3.out (.inr (by omega))
        have hmv : Mv a b f g2 := hg1.trans (hg3.mono (Nat.le_refl _) (by omega))
        have hid : ¬ (mid < e ∧ e < b) → Srt ky mid b g2 := fun h => by
          by_cases e1 : e = mid
          · rw [e1] at k4'; exact k4'
          · rw [show b = e from by omega]; exact k3'
        (repeat' first|refine kW ?_|refine kU fun bk=>?_|refine kV fun hc=>?_|refine kZ (fun hc=>?_) fun hc=>?_|fail)
        all_goals first
          | (refine kR ?_
             exact ⟨_, iC, rfl, g2, hmv, merge_end (by omega) hc1 hg3 (.refl g2) hg4 (hid (by omega)), rfl⟩)
          | skip
        refine OW_call rfl rfl rfl (ih g2 b0 cap mid e b rest L (by omega) (by omega) (by omega) (by omega) k3' k4') rfl (fun r L' hp => ?_)
        obtain ⟨rfl, g, hg5, hg6, rfl⟩ := hp
        (repeat' first|refine kW ?_|refine kU fun bk=>?_|refine kV fun hc=>?_|refine kZ (fun hc=>?_) fun hc=>?_|fail)
        refine kR ?_
        exact ⟨_, iC, rfl, g, hmv.trans (hg5.mono (by omega) (Nat.le_refl _)), merge_end (by omega) hc1 hg3 hg5 hg4 hg6, rfl⟩
end Go.Proofs.YtdcehmhelfohfaaGreatDoor
namespace Go.So
set_option linter.all false
variable {α : Type}
def Blk (key : α → Nat) (s n : Nat) (f : Nat → α) : Prop := ∀ c, s ∣ c → Srt key c (min (c + s) n) f
theorem dvd_step {d c a : Nat} (h1 : d ∣ c) (h2 : d ∣ a) (h : c < a) : c + d ≤ a := by
  obtain ⟨x, rfl⟩ := h1
  obtain ⟨y, rfl⟩ := h2
  have hxy : x < y := by
    rcases Nat.lt_or_ge x y with h' | h'
    · exact h'
    · have := Nat.mul_le_mul_left d h'
      omega
  have := Nat.mul_le_mul_left d hxy
  rw [Nat.mul_succ] at this
  exact this
structure Half (key : α → Nat) (s n a : Nat) (f : Nat → α) : Prop where
  al : 2 * s ∣ a
  le : a ≤ n
  lo : ∀ c, 2 * s ∣ c → c + 2 * s ≤ a → Srt key c (c + 2 * s) f
  hi : ∀ c, s ∣ c → a ≤ c → Srt key c (min (c + s) n) f
theorem Half.start {key : α → Nat} {s n : Nat} {f : Nat → α} (hs : 0 < s) (h : Blk key s n f) : Half key s n 0 f := ⟨Nat.dvd_zero _, Nat.zero_le _, fun c hc h2 => by omega, fun c hc _ => h c hc⟩
theorem Half.dv {key : α → Nat} {s n a : Nat} {f : Nat → α} (h : Half key s n a f) : s ∣ a := Nat.dvd_trans (Nat.dvd_mul_left s 2) h.al
theorem Half.two {key : α → Nat} {s n a : Nat} {f : Nat → α} (h : Half key s n a f) (hb : a + s ≤ n) : Srt key a (a + s) f ∧ Srt key (a + s) (min (a + 2 * s) n) f := by
  have h1 := h.hi a h.dv (Nat.le_refl _)
  have h2 := h.hi (a + s) (Nat.dvd_add h.dv (Nat.dvd_refl s)) (by omega)
  rw [Nat.min_eq_left hb] at h1
  rw [show a + s + s = a + 2 * s from by omega] at h2
  exact ⟨h1, h2⟩
theorem Half.step {key : α → Nat} {s n a : Nat} {f g : Nat → α} (hs : 0 < s) (h : Half key s n a f) (hb : a + 2 * s ≤ n) (hm : Mv a (a + 2 * s) f g) (ho : Srt key a (a + 2 * s) g) : Half key s n (a + 2 * s) g := by
  refine ⟨Nat.dvd_add h.al (Nat.dvd_refl _), hb, fun c hc h2 => ?_, fun c hc h2 => ?_⟩
  · by_cases e : c = a
    · rw [e]; exact ho
    · have h3 : c < a := by omega
      have h4 := dvd_step hc h.al h3
      exact (h.lo c hc h4).congr fun k p q => hm.out (.inl (by omega))
  · exact (h.hi c hc (by omega)).congr fun k p q => hm.out (.inr (by omega))
theorem Half.fin {key : α → Nat} {s n a : Nat} {f g : Nat → α} (hs : 0 < s) (h : Half key s n a f) (hb : n < a + 2 * s) (hm : Mv a n f g) (ho : Srt key a n g) : Blk key (2 * s) n g := by
  intro c hc
  by_cases e : c < a
  · have h4 := dvd_step hc h.al e
    rw [Nat.min_eq_left (by have := h.le; omega)]
    exact (h.lo c hc h4).congr fun k p q => hm.out (.inl (by omega))
  · by_cases e2 : c = a
    · rw [e2, Nat.min_eq_right (by omega)]; exact ho
    · have h4 := dvd_step h.al hc (by omega)
      intro i j p q r
      omega
end Go.So
namespace Go.Proofs.YtdcehmhelfohfaaGreatDoor
open Go Go.Vx Go.So
variable [W0]
set_option maxRecDepth 4000
set_option linter.all false
theorem insert_nil (v : Value) (L : List Chunk) : GvP Tryz.prog 170 [v, .int .i64 0, .int .i64 0, cmpV].toArray L (.tuple #[]) := by
  refine Gv.of_body Tryz.func170 rfl rfl ?_
  (repeat' first|refine kW ?_|refine kU fun bk=>?_|refine kV fun hc=>?_|refine kZ (fun hc=>?_) fun hc=>?_|fail)
  refine WC_loop (X := Unit) (fun _ => [(2, .int .i64 0), (8, .int .i64 1)]) (fun _ => L) (fun _ => True) (fun _ => 0) () trivial iS (fun w h => h) ?_
  intro _ _
  (repeat' first|refine kW ?_|refine kU fun bk=>?_|refine kV fun hc=>?_|refine kZ (fun hc=>?_) fun hc=>?_|fail)
  exact kE
set_option maxHeartbeats 8000000 in
theorem stable_c (f : Nat → Nat × Nat) (N b0 cap : Nat) (rest : List Value) (L : List Chunk) (hN : N ≤ 1000) :
    Gv Tryz.prog 166 [.slice (some ⟨b0, 0, none⟩) N cap, .int .i64 (N : Int), cmpV].toArray ([(b0, cl (cvs f N ++ rest) 218)] :: L)
      (fun r L' => r = .tuple #[] ∧ ∃ g, Mv 0 N f g ∧ Srt ky 0 N g ∧ L' = [(b0, cl (cvs g N ++ rest) 218)] :: L) := by
  refine Gv.of_body Tryz.func166 rfl rfl ?_
  (repeat' first|refine kW ?_|refine kU fun bk=>?_|refine kV fun hc=>?_|refine kZ (fun hc=>?_) fun hc=>?_|fail)
  refine WC_loop (X := Nat × (Nat → Nat × Nat)) (fun x => [(0, .slice (some ⟨b0, 0, none⟩) N cap), (1, .int .i64 (N : Int)), (2, cmpV), (6, .int .i64 20), (7, .int .i64 (x.1 : Int)), (8, .int .i64 ((x.1 + 20 : Nat) : Int))])
    (fun x => [(b0, cl (cvs x.2 N ++ rest) 218)] :: L) (fun x => 20 ∣ x.1 ∧ x.1 ≤ N ∧ Mv 0 N f x.2 ∧ ∀ c, 20 ∣ c → c + 20 ≤ x.1 → Srt ky c (c + 20) x.2) (fun x => N - x.1) (0, f)
    ⟨Nat.dvd_zero _, Nat.zero_le _, .refl f, fun c hc h => by simp only at h; omega⟩ iS (fun w h => h) ?_
  rintro ⟨a, g⟩ ⟨q1, q2, q3, q4⟩
  simp only at q1 q2 q3 q4 ⊢
  (repeat' first|refine kW ?_|refine kU fun bk=>?_|refine kV fun hc=>?_|refine kZ (fun hc=>?_) fun hc=>?_|fail)
  · refine OW_call rfl rfl rfl (insert_c g N b0 cap a (a + 20) rest L hN (by omega) (by omega)) rfl (fun r L' hp => ?_)
    obtain ⟨rfl, g1, hg1, hg2, rfl⟩ := hp
    (repeat' first|refine kW ?_|refine kU fun bk=>?_|refine kV fun hc=>?_|refine kZ (fun hc=>?_) fun hc=>?_|fail)
    refine WQ_round (X := Nat × (Nat → Nat × Nat)) (μ := fun x => N - x.1) (x := (a, g)) (a + 20, g1) (by simp only; omega) ⟨Nat.dvd_add q1 (Nat.dvd_refl _), by simp only; omega, q3.trans (hg1.mono (Nat.zero_le _) (by omega)), fun c hc h => ?_⟩ iS (fun w h => h)
    simp only at h
    by_cases e : c = a
    · rw [e]; exact hg2
    · have h4 := dvd_step hc q1 (by omega)
      exact (q4 c hc h4).congr fun k p q => hg1.out (.inl (by omega))
  · refine OW_call rfl rfl rfl (insert_c g N b0 cap a N rest L hN q2 (Nat.le_refl _)) rfl (fun r L' hp => ?_)
    obtain ⟨rfl, g1, hg1, hg2, rfl⟩ := hp
    have hblk : Blk ky 20 N g1 := by
      intro c hc
      by_cases e : c < a
      · have h4 := dvd_step hc q1 e
        rw [Nat.min_eq_left (by omega)]
        exact (q4 c hc h4).congr fun k p q => hg1.out (.inl (by omega))
      · by_cases e2 : c = a
        · rw [e2, Nat.min_eq_right (by omega)]; exact hg2
        · have h4 := dvd_step q1 hc (by omega)
          intro i j p q r
          omega
    have hmv : Mv 0 N f g1 := q3.trans (hg1.mono (Nat.zero_le _) (Nat.le_refl _))
    clear hg1 hg2 q1 q2 q3 q4
    (repeat' first|refine kW ?_|refine kU fun bk=>?_|refine kV fun hc=>?_|refine kZ (fun hc=>?_) fun hc=>?_|fail)
    refine WC_loop (X := Nat × (Nat → Nat × Nat)) (fun x => [(0, .slice (some ⟨b0, 0, none⟩) N cap), (1, .int .i64 (N : Int)), (2, cmpV), (6, .int .i64 (x.1 : Int))])
      (fun x => [(b0, cl (cvs x.2 N ++ rest) 218)] :: L) (fun x => 0 < x.1 ∧ Mv 0 N f x.2 ∧ Blk ky x.1 N x.2) (fun x => N - x.1) (20, g1)
      ⟨by simp only; omega, hmv, hblk⟩ iS (fun w h => h) ?_
    rintro ⟨s, g2⟩ ⟨r1, r2, r3⟩
    simp only at r1 r2 r3 ⊢
    (repeat' first|refine kW ?_|refine kU fun bk=>?_|refine kV fun hc=>?_|refine kZ (fun hc=>?_) fun hc=>?_|fail)
    · refine WC_loop (X := Nat × (Nat → Nat × Nat)) (fun x => [(0, .slice (some ⟨b0, 0, none⟩) N cap), (1, .int .i64 (N : Int)), (2, cmpV), (6, .int .i64 (s : Int)), (7, .int .i64 (x.1 : Int)), (8, .int .i64 ((x.1 + 2 * s : Nat) : Int))])
        (fun x => [(b0, cl (cvs x.2 N ++ rest) 218)] :: L) (fun x => Mv 0 N f x.2 ∧ Half ky s N x.1 x.2) (fun x => N - x.1) (0, g2)
        ⟨r2, Half.start r1 r3⟩ iS (fun w h => h) ?_
      rintro ⟨a2, g3⟩ ⟨t1, t2⟩
      simp only at t1 t2 ⊢
      have t3 := t2.le
      (repeat' first|refine kW ?_|refine kU fun bk=>?_|refine kV fun hc=>?_|refine kZ (fun hc=>?_) fun hc=>?_|fail)
      · rw [show (a2 : Int) + (s : Int) = ((a2 + s : Nat) : Int) from by omega]
        obtain ⟨u1, u2⟩ := t2.two (by omega)
        rw [Nat.min_eq_left (by omega)] at u2
        refine OW_call rfl rfl rfl (merge_c N hN (2 * s) g3 b0 cap a2 (a2 + s) (a2 + 2 * s) rest L (by omega) (by omega) (by omega) (by omega) u1 u2) rfl (fun r L' hp => ?_)
        obtain ⟨rfl, g4, hg1, hg2, rfl⟩ := hp
        (repeat' first|refine kW ?_|refine kU fun bk=>?_|refine kV fun hc=>?_|refine kZ (fun hc=>?_) fun hc=>?_|fail)
        refine WQ_round (X := Nat × (Nat → Nat × Nat)) (μ := fun x => N - x.1) (x := (a2, g3)) (a2 + 2 * s, g4) (by simp only; omega) ⟨t1.trans (hg1.mono (Nat.zero_le _) (by omega)), t2.step r1 (by omega) hg1 hg2⟩ iS (fun w h => h)
      · rw [show (a2 : Int) + (s : Int) = ((a2 + s : Nat) : Int) from by omega]
        obtain ⟨u1, u2⟩ := t2.two (by omega)
        rw [Nat.min_eq_right (by omega)] at u2
        refine OW_call rfl rfl rfl (merge_c N hN N g3 b0 cap a2 (a2 + s) N rest L (by omega) (by omega) (by omega) (Nat.le_refl _) u1 u2) rfl (fun r L' hp => ?_)
        obtain ⟨rfl, g4, hg1, hg2, rfl⟩ := hp
        (repeat' first|refine kW ?_|refine kU fun bk=>?_|refine kV fun hc=>?_|refine kZ (fun hc=>?_) fun hc=>?_|fail)
        refine WQ_round (X := Nat × (Nat → Nat × Nat)) (μ := fun x => N - x.1) (x := (s, g2)) (2 * s, g4) (by simp only; omega) ⟨by simp only; omega, t1.trans (hg1.mono (Nat.zero_le _) (Nat.le_refl _)), t2.fin r1 (by omega) hg1 hg2⟩ iS (fun w h => h)
      · have u1 := t2.hi a2 t2.dv (Nat.le_refl _)
        rw [Nat.min_eq_right (by omega)] at u1
        refine WQ_round (X := Nat × (Nat → Nat × Nat)) (μ := fun x => N - x.1) (x := (s, g2)) (2 * s, g3) (by simp only; omega) ⟨by simp only; omega, t1, t2.fin r1 (by omega) (.refl g3) u1⟩ iS (fun w h => h)
    · have u1 := r3 0 (Nat.dvd_zero _)
      rw [Nat.min_eq_right (by omega)] at u1
      refine kR ?_
      exact ⟨_, iC, rfl, g2, r2, u1, rfl⟩
theorem stable_nil (v : Value) (L : List Chunk) : GvP Tryz.prog 166 [v, .int .i64 0, cmpV].toArray L (.tuple #[]) := by
  refine Gv.of_body Tryz.func166 rfl rfl ?_
  (repeat' first|refine kW ?_|refine kU fun bk=>?_|refine kV fun hc=>?_|refine kZ (fun hc=>?_) fun hc=>?_|fail)
  refine WC_loop (X := Unit) (fun _ => [(0, v), (1, .int .i64 0), (2, cmpV), (6, .int .i64 20), (7, .int .i64 0), (8, .int .i64 20)]) (fun _ => L) (fun _ => True) (fun _ => 0) () trivial iS (fun w h => h) ?_
  intro _ _
  (repeat' first|refine kW ?_|refine kU fun bk=>?_|refine kV fun hc=>?_|refine kZ (fun hc=>?_) fun hc=>?_|fail)
  refine OW_callP rfl rfl rfl (insert_nil v L) rfl ?_
  (repeat' first|refine kW ?_|refine kU fun bk=>?_|refine kV fun hc=>?_|refine kZ (fun hc=>?_) fun hc=>?_|fail)
  refine WC_loop (X := Unit) (fun _ => [(1, .int .i64 0), (6, .int .i64 20)]) (fun _ => L) (fun _ => True) (fun _ => 0) () trivial iS (fun w h => h) ?_
  intro _ _
  (repeat' first|refine kW ?_|refine kU fun bk=>?_|refine kV fun hc=>?_|refine kZ (fun hc=>?_) fun hc=>?_|fail)
  exact kE
theorem sortst_c (f : Nat → Nat × Nat) (N b0 cap : Nat) (rest : List Value) (L : List Chunk) (hN : N ≤ 1000) :
    Gv Tryz.prog 159 [.slice (some ⟨b0, 0, none⟩) N cap, cmpV].toArray ([(b0, cl (cvs f N ++ rest) 218)] :: L)
      (fun r L' => r = .tuple #[] ∧ ∃ g, Mv 0 N f g ∧ Srt ky 0 N g ∧ L' = [(b0, cl (cvs g N ++ rest) 218)] :: L) := by
  refine Gv.of_body Tryz.func159 rfl rfl ?_
  (repeat' first|refine kW ?_|refine kU fun bk=>?_|refine kV fun hc=>?_|refine kZ (fun hc=>?_) fun hc=>?_|fail)
  refine OW_call rfl rfl rfl (stable_c f N b0 cap rest L hN) rfl (fun r L' hp => ?_)
  obtain ⟨rfl, g, h1, h2, rfl⟩ := hp
  (repeat' first|refine kW ?_|refine kU fun bk=>?_|refine kV fun hc=>?_|refine kZ (fun hc=>?_) fun hc=>?_|fail)
  refine kR ?_
  exact ⟨_, iC, rfl, g, h1, h2, rfl⟩
theorem sortst_nil (L : List Chunk) : GvP Tryz.prog 159 [.slice none 0 0, cmpV].toArray L (.tuple #[]) := by
  refine Gv.of_body Tryz.func159 rfl rfl ?_
  (repeat' first|refine kW ?_|refine kU fun bk=>?_|refine kV fun hc=>?_|refine kZ (fun hc=>?_) fun hc=>?_|fail)
  refine OW_callP rfl rfl rfl (stable_nil _ L) rfl ?_
  (repeat' first|refine kW ?_|refine kU fun bk=>?_|refine kV fun hc=>?_|refine kZ (fun hc=>?_) fun hc=>?_|fail)
  exact kE
end Go.Proofs.YtdcehmhelfohfaaGreatDoor
namespace Go.Vx
open Go
set_option linter.all false
variable [W0]
omit [W0] in
/-- The fence that lets all in, in a round or outside one. -/
abbrev Fr (ro : Option Nat) : Fence := { Fence.wide with round := ro }
omit [W0] in
/-- Nothing is let out. -/
structure NL (Q : Exit → Act → World → Prop) : Prop where
  out : ∀ a w, ¬ Q .outgrown a w
theorem NL.then {Q : Exit → Act → World → Prop} {K : Act → World → Prop} (h : NL Q) : NL (Exit.then K Q) := ⟨h.out⟩
theorem NL.block {Q : Exit → Act → World → Prop} {i : Nat} (h : NL Q) : NL (Exit.inBlock i Q) := ⟨h.out⟩
omit [W0] in
/-- No call is put off. -/
def noDef (o : Oper) : Bool := match o.op with | .defer _ => false | _ => true
omit [W0] in
theorem noDef_ne {o : Oper} (h : noDef o = true) : ∀ c, o.op ≠ .defer c := fun c hc => by unfold noDef at h; rw [hc] at h; cases h
section
variable {P : Program} {n : Nat} {ro : Option Nat} {Q : Exit → Act → World → Prop} {M : List (Nat × Value)} {L : List Chunk} {K : List (Nat × Value) → List Chunk → Prop}
omit [W0] in
theorem rows_in {row : String} {args : Array Value} {w : World} {R : Value → World → Prop} (h : Rows P row args w R) : RowsIn (Fr ro) 0 P row args w R :=
  fun c cs _ => let ⟨v, w', r, s⟩ := h c cs; ⟨v, w', r, (stepsIn_wide (P := P)).2 s⟩
omit [W0] in
theorem calls_in {f : FuncId} {args : Array Value} {w : World} {R : Ending → World → Prop} {m : Nat} (h : Calls P f args w R) : CallsIn (Fr ro) m P f args w R := (callsIn_wide (n := m)).2 h
omit [W0] in
theorem upon_in {o : Oper} {a : Act} {next : Act → World → Prop} {r : Result Next} (h : o.upon P a next Q r) : o.uponIn (Fr ro) 0 P a next Q r := by
  cases r with
  | ok x w' =>
    cases x <;> simp only [Oper.upon] at h <;> simp only [Oper.uponIn] <;>
      first
        | exact h
        | exact ⟨fun hh => absurd (a := false = true) hh Bool.false_ne_true, (calls_in h).mono (fun e w'' he => by cases e <;> exact he)⟩
        | exact ⟨fun hh => absurd (a := false = true) hh Bool.false_ne_true, rows_in h⟩
        | exact False.elim h
  | halt x w' => cases x <;> simp only [Oper.upon] at h <;> simp only [Oper.uponIn] <;> exact h
omit [W0] in
theorem semAt_in {o : Oper} (hd : noDef o = true) (ρ : Operand → Value) : o.semAt ro ρ = execOp ρ o := Oper.semAt_eq ro ρ o (noDef_ne hd)
omit [W0] in
theorem wp_in {o : Oper} {a : Act} {w : World} {next : Act → World → Prop} (hd : noDef o = true) (h : o.wp P a w next Q) : o.wpIn (Fr ro) 0 P a w next Q := by
  refine ⟨fun _ _ => trivial, ?_⟩
  show o.uponIn (Fr ro) 0 P a next Q ((o.semAt ro a.eval).run P w)
  rw [semAt_in hd]
  exact upon_in h
omit [W0] in
theorem wpList_in {ops : Array Oper} (hN : NL Q) : ∀ {rest : List Oper} {a : Act} {w : World}, rest.all noDef = true → wpList P ops Q rest a w → wpListIn (Fr ro) 0 P ops Q rest a w
  | [], _, _, _, h => h
  | o :: rest, a, w, hd, h => by
    simp only [List.all_cons, Bool.and_eq_true] at hd
    unfold wpList at h
    unfold wpListIn
    split
    · rename_i hw
      rw [if_pos hw] at h
      rcases h with h | ⟨_, a', w', hl⟩
      · exact Oper.wpIn_mono (fun a w hh => wpList_in hN hd.2 hh) (wp_in hd.1 h)
      · exact absurd hl (hN.out a' w')
    · rename_i hw
      rw [if_neg hw] at h
      exact ⟨fun _ _ => trivial, wpList_in hN hd.2 h⟩
omit [W0] in
theorem wpOp_in {ops : Array Oper} (hN : NL Q) (hd : ∀ (i : Nat) (o : Oper), ops[i]? = some o → noDef o = true) {i : Nat} {K K' : Act → World → Prop} {a : Act} {w : World} (hk : ∀ a w, K a w → K' a w) (h : wpOp P ops Q i K a w) : wpOpIn (Fr ro) 0 P ops Q i K' a w := by
  unfold wpOp at h
  unfold wpOpIn
  split
  · rename_i ho; rw [ho] at h; exact hk _ _ h
  · rename_i o ho
    rw [ho] at h
    simp only at h
    split
    · rename_i hw
      rw [if_pos hw] at h
      rcases h with h | ⟨_, a', w', hl⟩
      · exact Oper.wpIn_mono hk (wp_in (hd i o ho) h)
      · exact absurd hl (hN.out a' w')
    · rename_i hw
      rw [if_neg hw] at h
      exact ⟨fun _ _ => trivial, hk _ _ h⟩
omit [W0] in
theorem wpAny_in {ops : Array Oper} {md : Region.Mode} (hN : NL Q) (hd : ∀ (i : Nat) (o : Oper), ops[i]? = some o → noDef o = true) : ∀ (fuel : Nat) (listed : Array Bool) (a : Act) (w : World), wpAny P md ops Q fuel listed a w → wpAnyIn (Fr ro) 0 P md ops Q fuel listed a w
  | 0, _, _, _, h => h
  | fuel + 1, listed, a, w, h => ⟨h.1, fun i hi => wpOp_in hN hd (fun a w hh => wpAny_in hN hd fuel _ a w hh) (h.2 i hi)⟩
structure Wic (P : Program) (n : Nat) (ro : Option Nat) (c : Code) (Q : Exit → Act → World → Prop) (M : List (Nat × Value)) (L : List Chunk) : Prop where
  out : ∀ a w, St n M a → Holds w L → c.wpIn (Fr ro) 0 P Q a w
structure Wjc (P : Program) (n : Nat) (ro : Option Nat) (ops : Array Oper) (Q : Exit → Act → World → Prop) (rest : List Oper) (M : List (Nat × Value)) (L : List Chunk) : Prop where
  out : ∀ a w, St n M a → Holds w L → wpListIn (Fr ro) 0 P ops Q rest a w
theorem Wic.holds {L' : List Chunk} {c : Code} (h : Wic P n ro c Q M L') (hl : ∀ w, Holds w L → Holds w L') : Wic P n ro c Q M L := ⟨fun a w ha hw => h.out a w ha (hl w hw)⟩
theorem Wic.sub {M' : List (Nat × Value)} {c : Code} (h : Wic P n ro c Q M' L) (hs : Sub M' M) : Wic P n ro c Q M L := ⟨fun a w ha hw => h.out a w (ha.sub hs) hw⟩
theorem WI_seq {x y : Code} (h : Wic P n ro x (Exit.then (y.wpIn (Fr ro) 0 P Q) Q) M L) : Wic P n ro (.seq x y) Q M L := ⟨fun a w ha hw => wpIn_seq (h.out a w ha hw)⟩
theorem WI_skip (h : WQ n (Q .normal) M L) : Wic P n ro .skip Q M L := ⟨fun a w ha hw => wpIn_skip (h.out a w ha hw)⟩
theorem WI_exit {id : Nat} (h : WQ n (Q (.exit id)) M L) : Wic P n ro (.exit id) Q M L := ⟨fun a w ha hw => wpIn_exit (h.out a w ha hw)⟩
theorem WI_ret (h : WQ n (Q .ret) M L) : Wic P n ro .ret Q M L := ⟨fun a w ha hw => wpIn_ret (h.out a w ha hw)⟩
theorem WI_block {id : Nat} {c : Code} (h : Wic P n ro c (Exit.inBlock id Q) M L) : Wic P n ro (.block id c) Q M L := ⟨fun a w ha hw => wpIn_block (h.out a w ha hw)⟩
theorem WI_cond {c : Operand} {x y : Code} {t : Bool} (hc : ev M c = some (.bool t)) (ht : t = true → Wic P n ro x Q M L) (hf : t = false → Wic P n ro y Q M L) :
    Wic P n ro (.cond c x y) Q M L := ⟨fun a w ha hw => wpIn_cond_split (ha.eval hc) (fun h => (ht h).out a w ha hw) (fun h => (hf h).out a w ha hw)⟩
theorem WI_true {c : Operand} {x y : Code} (hc : ev M c = some (.bool true)) (ht : Wic P n ro x Q M L) : Wic P n ro (.cond c x y) Q M L := ⟨fun a w ha hw => wpIn_cond_true (ha.eval hc) (ht.out a w ha hw)⟩
theorem WI_false {c : Operand} {x y : Code} (hc : ev M c = some (.bool false)) (ht : Wic P n ro y Q M L) : Wic P n ro (.cond c x y) Q M L := ⟨fun a w ha hw => wpIn_cond_false (ha.eval hc) (ht.out a w ha hw)⟩
theorem WI_region {id : Nat} {l : List Oper} (hN : NL Q) (hd : l.all noDef = true) (h : WL P n l.toArray Q l M L) : Wic P n ro (.region id l.toArray false) Q M L := ⟨fun a w ha hw => wpIn_region_lit (wpList_in hN hd (h.out a w ha hw))⟩
theorem WI_list {id : Nat} {l : List Oper} (h : Wjc P n ro l.toArray Q l M L) : Wic P n ro (.region id l.toArray false) Q M L := ⟨fun a w ha hw => wpIn_region_lit (h.out a w ha hw)⟩
theorem all_get {l : List Oper} (hd : l.all noDef = true) : ∀ (i : Nat) (o : Oper), l.toArray[i]? = some o → noDef o = true := fun i o h => by
  rw [List.getElem?_toArray] at h
  exact (List.all_eq_true.1 hd) o (List.mem_of_getElem? h)
theorem WI_draw (S : List Chunk) (T : List Nat) {id : Nat} {ops : List Oper} (hN : NL Q) (hd : ops.all noDef = true) (hm : P.follows .mixedOrders = true) (h : WR P n ops Q S T ops.length (Array.replicate ops.length false) M L) : Wic P n ro (.region id ops.toArray true) Q M L := ⟨fun a w ha hw => by
  refine wpIn_region_any hm (wpAny_in hN (all_get hd) _ _ _ _ (wpAny_of_T (S := fun w => Holds w S) (T := T) _ _ _ _ ?_))
  have := h.out a { w with drawn := w.drawn + 1 } ha (hw.same rfl rfl rfl)
  simpa using this⟩
theorem WJ_nil {ops : Array Oper} (h : WQ n (Q .normal) M L) : Wjc P n ro ops Q [] M L := ⟨fun a w ha hw => h.out a w ha hw⟩
theorem WJ_op {ops : Array Oper} {rest : List Oper} {o : Oper} (hg : o.guard = none) (hd : noDef o = true) (h : OW P n o (Wjc P n ro ops Q rest) M L) : Wjc P n ro ops Q (o :: rest) M L := ⟨fun a w ha hw => by
  unfold wpListIn
  rw [if_pos (by simp [Region.wanted, hg])]
  exact wp_in hd (h.out a w _ Q ha hw fun M' L' hk => ⟨hk.out⟩)⟩
theorem WQ_codeI {c : Code} (h : Wic P n ro c Q M L) : WQ n (c.wpIn (Fr ro) 0 P Q) M L := ⟨h.out⟩
theorem WI_loop {X : Type} {c : Code} (MI : X → List (Nat × Value)) (LI : X → List Chunk) (J : X → Prop) (μ : X → Nat) (x0 : X) (hJ : J x0) (hM : Sub (MI x0) M) (hL : ∀ w, Holds w L → Holds w (LI x0))
    (hround : ∀ x, J x → Wic P n ro c (Exit.then (fun a' w' => ∃ x', μ x' < μ x ∧ J x' ∧ St n (MI x') a' ∧ Holds w' (LI x')) Q) (MI x) (LI x)) : Wic P n ro (.loop c) Q M L := ⟨fun a w ha hw => by
  intro b k cs hro hb hr
  have key : ∀ m x, μ x = m → J x → ∀ a w, St n (MI x) a → Holds w (LI x) →
      ∃ e a' w', Q e a' w' ∧ ArrivesIn (Machine.fenced P (Fr ro)) P (lone (b.atR a (.code c :: .inLoop c :: k)) cs w) b k cs e a' w' := by
    intro m
    induction m using Nat.strongRecOn with
    | _ m ih =>
      intro x hm hx a w ha hw
      obtain ⟨e, a₁, w₁, hq, harr⟩ := (hround x hx).out a w ha hw b (.inLoop c :: k) cs hro hb hr
      subst hm
      cases e with
      | normal =>
        obtain ⟨x', hlt, hJ', ha', hw'⟩ := hq
        obtain ⟨e₂, a₂, w₂, hq₂, harr₂⟩ := ih (μ x') hlt x' rfl hJ' a₁ w₁ ha' hw'
        exact ⟨e₂, a₂, w₂, hq₂, .of_steps (StepsIn.trans harr (.one (fenced_calm hb hr rfl) stepR_inLoop)) harr₂⟩
      | exit id => exact ⟨_, a₁, w₁, hq, .pass (x := .inLoop c) rfl (fun _ _ => .inl (by simp)) harr⟩
      | goto l => exact ⟨_, a₁, w₁, hq, .pass (x := .inLoop c) rfl (fun _ _ => .inl (by simp)) harr⟩
      | ret => exact ⟨_, a₁, w₁, hq, .pass (x := .inLoop c) rfl (fun _ _ => .inl (by simp)) harr⟩
      | panic ch => exact ⟨_, a₁, w₁, hq, .pass (x := .inLoop c) rfl (fun _ _ => .inl (by simp)) harr⟩
      | outgrown => exact ⟨_, a₁, w₁, hq, .pass (x := .inLoop c) rfl (fun _ _ => .inl (by simp)) harr⟩
  obtain ⟨e, a', w', hq, harr⟩ := key _ x0 rfl hJ a w (ha.sub hM) (hL w hw)
  exact ⟨e, a', w', hq, .of_steps (.one (fenced_calm hb hr rfl) stepR_loop) harr⟩⟩
end
end Go.Vx
namespace Go.Vx
open Go
set_option linter.all false
variable [W0]
section
variable {P : Program} {n : Nat} {ro : Option Nat} {Q : Exit → Act → World → Prop} {M : List (Nat × Value)} {L : List Chunk} {K : List (Nat × Value) → List Chunk → Prop}
structure Yd (P : Program) (l : Nat) (args : List Value) (L : List Chunk) (post : List Chunk → Prop) : Prop where
  out : ∀ w, Holds w L → ∃ fn tmps assign body, (Instr.yield l args.toArray).run P w = .ok (.round l fn tmps assign body) w ∧
    RoundIn Fence.wide 0 P l fn tmps assign body w (fun e w' => e = .returned (.bool true) ∧ ∃ L', post L' ∧ Holds w' L')
theorem WJ_yield {ops : Array Oper} {rest : List Oper} {d l : Nat} {ty : TypeId} {ps : String} {af : Array Edge} {x : Operand} {xs : List Operand} {ats : Array TypeId} {vs : List Value} {post : List Chunk → Prop}
    (hx : ev M x = some (.func (.yield l) #[] #[])) (hvs : evs M xs = some vs) (hy : Yd P l vs L post) (hn : Nat.blt d n = true) (h : ∀ L', post L' → Wjc P n ro ops Q rest ((d, .bool true) :: M) L') :
    Wjc P n ro ops Q (⟨some d, .call ⟨.value x, xs.toArray, ats⟩, ty, ps, af, none⟩ :: rest) M L := ⟨fun a w ha hw => by
  unfold wpListIn
  rw [if_pos (by simp [Region.wanted])]
  refine ⟨fun _ _ => trivial, ?_⟩
  obtain ⟨fn, tmps, assign, body, hrun, hround⟩ := hy.out w hw
  have hr : (execOp a.eval ⟨some d, .call ⟨.value x, xs.toArray, ats⟩, ty, ps, af, none⟩).run P w = .ok (.round l fn tmps assign body) w := by
    have hm : Array.map a.eval xs.toArray = vs.toArray := by rw [← ha.evals hvs]; simp
    simp only [execOp, resolve, ha.eval hx, hm, Deferred.ofValue, Sem.run_bind, Sem.run_pure, Result.andThen_ok, invoke]
    simpa using hrun
  show Oper.uponIn (Fr ro) 0 P _ a _ Q ((Oper.semAt ro a.eval _).run P w)
  rw [semAt_in rfl, hr]
  refine ⟨fun hh => absurd (a := false = true) hh Bool.false_ne_true, ?_⟩
  refine RoundIn.mono (F := Fr ro) (show RoundIn (Fr ro) (0 - 1) P l fn tmps assign body w _ from hround) ?_
  rintro e w' ⟨rfl, L', hp, hw'⟩
  exact (h L' hp).out _ _ (ha.put _ hn) hw'⟩
def YdAll (P : Program) (l : Nat) (xs : List (List Value)) (J : Nat → List Chunk → Prop) : Prop :=
  ∀ (R : List Chunk) (k : Nat) (L' : List Chunk), k < xs.length → J k L' → Yd P l (xs.getD k []) (L' ++ R) (fun L'' => ∃ L3, J (k + 1) L3 ∧ L'' = L3 ++ R)
structure It (P : Program) (gf : FuncId) (lb : Array Value) (Lit : List Chunk) (xs : List (List Value)) : Prop where
  out : ∀ (l : Nat) (J : Nat → List Chunk → Prop) (L0 : List Chunk), J 0 L0 → YdAll P l xs J → ∀ w, Holds w (L0 ++ Lit) →
    CallsIn Fence.wide 0 P gf (#[.func (.yield l) #[] #[]] ++ lb) w (fun e w' => ∃ v L', e = .returned v ∧ (∃ L3, J xs.length L3 ∧ L' = L3 ++ Lit) ∧ Holds w' L')
theorem It.of_body {gf : FuncId} {fn : Func} {c : Code} {lb : List Value} {Lit : List Chunk} {xs : List (List Value)} (hf : P.funcs[gf]? = some fn) (hb : fn.body = some c) (hle : Nat.ble (lb.length + 1) fn.ntmps = true)
    (h : ∀ (l : Nat) (J : Nat → List Chunk → Prop) (L0 : List Chunk), J 0 L0 → YdAll P l xs J → Wic P fn.ntmps none c (bodyPost P fn (fun e w' => ∃ v L', e = .returned v ∧ (∃ L3, J xs.length L3 ∧ L' = L3 ++ Lit) ∧ Holds w' L')) (params 0 (.func (.yield l) #[] #[] :: lb)) (L0 ++ Lit)) :
    It P gf lb.toArray Lit xs := ⟨fun l J L0 h0 hy w hw => by
  have e : #[Value.func (.yield l) #[] #[]] ++ lb.toArray = (Value.func (.yield l) #[] #[] :: lb).toArray := by simp
  rw [e]
  refine callsIn_of_wp hf hb trivial ((h l J L0 h0 hy).out _ w ⟨rfl, ?_, ?_⟩ hw)
  · have := Nat.le_of_ble_eq_true hle
    simp; omega
  · intro t v ht
    obtain ⟨_, h2⟩ := params_get (.func (.yield l) #[] #[] :: lb) 0 t v ht
    have h2' : (Value.func (.yield l) #[] #[] :: lb)[t]? = some v := by simpa using h2
    have hlt : t < (Value.func (.yield l) #[] #[] :: lb).length := by
      rcases Nat.lt_or_ge t (Value.func (.yield l) #[] #[] :: lb).length with h' | h'
      · exact h'
      · simp [List.getElem?_eq_none h'] at h2'
    rw [Array.getElem?_append_left (by simpa using hlt)]
    simpa using h2'⟩
def setM (zs : List (Nat × Value)) (M : List (Nat × Value)) : List (Nat × Value) := zs.foldl (fun M x => x :: M) M
theorem St.setp : ∀ {zs : List (Nat × Value)} {M : List (Nat × Value)} {tm : Array Value}, St n M ⟨tm, []⟩ → zs.all (fun z => Nat.blt z.1 n) = true → St n (setM zs M) ⟨zs.foldl (fun t x => t.setIfInBounds x.1 x.2) tm, []⟩
  | [], _, _, h, _ => h
  | z :: r, M, tm, h, hz => by
    simp only [List.all_cons, Bool.and_eq_true] at hz
    exact St.setp (zs := r) (M := z :: M) (tm := tm.setIfInBounds z.1 z.2) (h.put z.2 hz.1) hz.2
theorem Holds.putL {w : World} {l : Nat} {o o' : Obj} (h : Holds w ([(l, o)] :: L)) : Holds (w.putObj l o') ([(l, o')] :: L) := by
  have hb : w.heap[l]? = some o := Fnd.here.get h
  have hlt : l < w.heap.size := (Array.getElem?_eq_some_iff.1 hb).1
  exact h.upd .here (World.putObj_heap_same hlt) (fun c hc => World.putObj_heap_other hc) rfl rfl
theorem NL.body {fn : Func} {X : Value → List Chunk → World → Prop} : NL (bodyPost P fn (fun e w' => ∃ v L3, e = .returned v ∧ X v L3 w')) := ⟨fun a w h => by
  obtain ⟨v, L3, he, _⟩ := h
  cases he⟩
def noVal (o : Oper) : Bool := match o.op with | .call c => (match c.callee with | .value (.tmp _) => false | _ => true) | _ => true
theorem WI_regionV {id : Nat} {l : List Oper} (hv : l.all noVal = true) (hN : NL Q) (hd : l.all noDef = true) (h : WL P n l.toArray Q l M L) : Wic P n ro (.region id l.toArray false) Q M L := WI_region hN hd h
theorem Fnd.right {A B : List Chunk} {b : Nat} {o : Obj} (h : Fnd B b o) : Fnd (A ++ B) b o := by
  simp only [Fnd, List.flatten_append, List.mem_append] at *; exact .inr h
theorem Fnd.left {A B : List Chunk} {b : Nat} {o : Obj} (h : Fnd A b o) : Fnd (A ++ B) b o := by
  simp only [Fnd, List.flatten_append, List.mem_append] at *; exact .inl h
def RP (J : Nat → List Chunk → Prop) (k : Nat) (R : List Chunk) : Exit → Act → World → Prop := fun e _ w => e = .normal ∧ ∃ L3, J k L3 ∧ Holds w (L3 ++ R)
theorem RP_po {J : Nat → List Chunk → Prop} {k : Nat} {R : List Chunk} : PO (RP J k R) := ⟨fun c a d v w h => by cases h.1⟩
theorem RP_nl {J : Nat → List Chunk → Prop} {k : Nat} {R : List Chunk} : NL (RP J k R) := ⟨fun a w h => by cases h.1⟩
theorem WQ_RP {J : Nat → List Chunk → Prop} {k : Nat} {R : List Chunk} (L3 : List Chunk) (hJ : J k L3) (hL : ∀ w, Holds w L → Holds w (L3 ++ R)) : WQ n (RP J k R .normal) M L := ⟨fun a w _ hw => ⟨rfl, L3, hJ, hL w hw⟩⟩
def AP (n : Nat) (MA : List (Nat × Value)) (L : List Chunk) : Exit → Act → World → Prop := Exit.then (fun a w => St n MA a ∧ Holds w L) (fun _ _ _ => False)
theorem AP_nl {MA : List (Nat × Value)} {L : List Chunk} : NL (AP n MA L) := ⟨fun a w h => h⟩
theorem WQ_AP {MA : List (Nat × Value)} {L1 : List Chunk} (hs : Sub MA M) (hL : ∀ w, Holds w L → Holds w L1) : WQ n (AP n MA L1 .normal) M L := ⟨fun a w ha hw => ⟨ha.sub hs, hL w hw⟩⟩
theorem WR_r {S : List Chunk} {ops : List Oper} {T : List Nat} {fuel : Nat} {listed : Array Bool} {d : Nat} {v : Value} (i : Nat) {o : Oper} (h : WR P n ops Q S T fuel (listed.setIfInBounds i true) ((d, v) :: M) L)
    (hi : ops[i]? = some o := by exact rfl) (hg : o.guard = none := by exact rfl) (hb : takeB ops T listed i = true := by kernel_rfl) (hPO : PO Q := by exact iP) (hinc : Inc S L := by exact iC) (he : EV P n o M S d v := by exact (by first | (show EV _ _ ⟨_, .move _, _, _, _, _⟩ _ _ _ _; first | exact EV_move rfl) | (show EV _ _ ⟨_, .assign _, _, _, _, _⟩ _ _ _ _; first | exact EV_assign rfl) | (show EV _ _ ⟨_, .nilCheck _, _, _, _, _⟩ _ _ _ _; first | exact EV_nilCheck rfl) | (show EV _ _ ⟨_, .fieldAddr .., _, _, _, _⟩ _ _ _ _; first | exact EV_fieldAddr0 rfl | exact EV_fieldAddr rfl) | (show EV _ _ ⟨_, .load .., _, _, _, _⟩ _ _ _ _; first | exact EV_loadc rfl (by repeat (first | assumption | exact Fnd.here | refine Fnd.there ?_)) rfl | exact EV_loadAggC rfl (by repeat (first | assumption | exact Fnd.here | refine Fnd.there ?_)) rfl) | (show EV _ _ ⟨_, .binOp .., _, _, _, _⟩ _ _ _ _; first | exact EV_cmp rfl rfl rfl | exact EV_ari64 rfl rfl rfl (by omega) | exact EV_shr rfl rfl (by decide) (shr_lit (by omega) (by simp [IntKind.bits]; rfl)) | exact EV_strEq rfl rfl | exact EV_strNe rfl rfl | exact EV_strLt rfl rfl | exact EV_sliceEqNil rfl rfl | exact EV_sliceNeNil rfl rfl | exact EV_ptrEqNil rfl rfl | exact EV_ptrNeNil rfl rfl | exact EV_boolEq rfl rfl | exact EV_boolNe rfl rfl) | (show EV _ _ ⟨_, .convert .., _, _, _, _⟩ _ _ _ _; first | exact EV_convII rfl (wrap_i64 (by omega) (by omega)) | exact EV_convII rfl (wrap_u64 (by omega) (by omega)) | exact EV_convII rfl rfl) | (show EV _ _ ⟨_, .extract .., _, _, _, _⟩ _ _ _ _; first | exact EV_extract rfl rfl) | (show EV _ _ ⟨_, .unOp .., _, _, _, _⟩ _ _ _ _; first | exact EV_not rfl) | (show EV _ _ ⟨_, .pick .., _, _, _, _⟩ _ _ _ _; first | exact EV_pick rfl rfl) | (show EV _ _ ⟨_, .call ⟨.builtin .len, _, _⟩, _, _, _, _⟩ _ _ _ _; first | exact EV_lenSl rfl | exact EV_lenStr rfl) | (show EV _ _ ⟨_, .call ⟨.builtin .cap, _, _⟩, _, _, _, _⟩ _ _ _ _; first | exact EV_capSl rfl) | (show EV _ _ ⟨_, .call ⟨.builtin .min, _, _⟩, _, _, _, _⟩ _ _ _ _; first | exact EV_min rfl rfl) | (show EV _ _ ⟨_, .call ⟨.builtin .max, _, _⟩, _, _, _, _⟩ _ _ _ _; first | exact EV_max rfl rfl) | (show EV _ _ ⟨_, .makeInterface .., _, _, _, _⟩ _ _ _ _; first | exact EV_makeInterface rfl) | (show EV _ _ ⟨_, .makeFunc .., _, _, _, _⟩ _ _ _ _; first | exact EV_makeFunc rfl rfl) | (show EV _ _ ⟨_, .typeAssert .., _, _, _, _⟩ _ _ _ _; first | exact EV_assertYes rfl | exact EV_assertNo rfl rfl) | (show EV _ _ ⟨_, .build .., _, _, _, _⟩ _ _ _ _; first | exact EV_build rfl (by simp [fillL, patch, Value.cells]; rfl)))) (hn : Nat.blt d n = true := by exact rfl) :
    WR P n ops Q S T (fuel + 1) listed M L := WR_take i hi hg hb hPO hinc he hn h
theorem WC_range {g : Operand} {ps : List Tmp} {assign body : Code} {gf : FuncId} {lb : Array Value} [hbd : BD P gf] (hx : ev M g = some (.func (.func gf) #[] lb)) {Lit : List Chunk} {xs : List (List Value)} (hit : It P gf lb Lit xs)
    (J : Nat → List Chunk → Prop) (L0 : List Chunk) (h0 : J 0 L0) (hL : ∀ w, Holds w L → Holds w (L0 ++ Lit)) (hps : ∀ k, k < xs.length → (xs.getD k []).length = ps.length) (hpn : ps.all (fun t => Nat.blt t n) = true)
    (MA : Nat → List Chunk → List (Nat × Value))
    (hassign : ∀ (l k : Nat) (L' R : List Chunk), k < xs.length → J k L' → Wic P n (some l) assign (AP n (MA k L') (L' ++ R)) (setM (ps.zip (xs.getD k [])) M) (L' ++ R))
    (hbody : ∀ (l k : Nat) (L' R : List Chunk), k < xs.length → J k L' → Wic P n (some l) body (RP J (k + 1) R) (MA k L') (L' ++ R))
    (hdone : ∀ (D : Nat) (a : Act) (w : World) (L3 : List Chunk), St n M { a with defers := [] } → a.defers = [⟨.collected D, #[]⟩] → J xs.length L3 → Holds w ([(D, .deferred (some []))] :: (L3 ++ Lit)) → Q .normal a w) :
    WC P n (.rangeFunc g ps.toArray assign body) Q M L := ⟨fun a w ha hw => by
  refine (wpIn_wide (n := 0)).1 (wpIn_rangeFunc fun fn _ => ?_)
  obtain ⟨rec, hrec⟩ : ∃ rec : LoopState → Loop, rec = fun st => { state := st, pending := none, fn, tmps := a.tmps, params := ps.toArray, assign, body, defers := w.heap.size } := ⟨_, rfl⟩
  obtain ⟨D, hD⟩ : ∃ D, D = w.heap.size := ⟨_, rfl⟩
  obtain ⟨l, hl⟩ : ∃ l, l = w.heap.size + 1 := ⟨_, rfl⟩
  have hW1 : Holds ((w.alloc (.deferred (some []))).alloc (.loop (rec .ready))) ([(l, .loop (rec .ready))] :: [(D, .deferred (some []))] :: (L0 ++ Lit)) := by
    have h1 := ((hL w hw).alloc (.deferred (some []))).alloc (.loop (rec .ready))
    rw [World.size_alloc, ← hl, ← hD] at h1
    exact h1
  obtain ⟨W1, hW1e⟩ : ∃ W1, W1 = (w.alloc (.deferred (some []))).alloc (.loop (rec .ready)) := ⟨_, rfl⟩
  rw [← hW1e] at hW1
  refine ⟨l, [{ target := .collected D, args := #[] }], W1, { target := .fn (.func gf) lb, args := #[.func (.yield l) #[] #[]] }, W1, gf, #[.func (.yield l) #[] #[]] ++ lb, W1, ?_, ?_, fun _ _ => trivial, ?_, fun hh => absurd (a := false = true) hh Bool.false_ne_true, ?_⟩
  · have := run_enterLoop_outer (P := P) (w := w) fn a.tmps ps.toArray assign body
    rw [hl, hD, hW1e, hrec]
    exact this
  · simp only [resolve, ha.eval hx]
    simp [Deferred.ofValue, Act.eval]
  · simp only [invoke]
    exact callFunc_run hbd.out _ _
  · obtain ⟨J', hJ'⟩ : ∃ J' : Nat → List Chunk → Prop, ∀ k L'', J' k L'' ↔ ∃ L', J k L' ∧ L'' = [(l, .loop (rec .ready))] :: [(D, .deferred (some []))] :: L' := ⟨fun k L'' => ∃ L', J k L' ∧ L'' = [(l, .loop (rec .ready))] :: [(D, .deferred (some []))] :: L', fun _ _ => Iff.rfl⟩
    have hyd : YdAll P l xs J' := by
      intro R k L'' hk hj
      obtain ⟨L', hj0, rfl⟩ := (hJ' k L'').1 hj
      refine ⟨fun w1 hw1 => ?_⟩
      have hrl : w1.heap[l]? = some (.loop (rec .ready)) := Fnd.here.get hw1
      have hy := run_yield (P := P) (args := (xs.getD k []).toArray) hrl (by rw [hrec]; simpa using hps k hk)
      rw [hrec] at hy
      refine ⟨fn, _, assign, body, hy, roundIn_of_wpIn trivial ?_⟩
      have hperm : ∀ (A B : Chunk), (A :: B :: (L' ++ R)).Perm (L' ++ (A :: B :: R)) := fun A B => by
        refine ((List.perm_middle (l₁ := L') (a := A) (l₂ := B :: R)).trans (.cons A ?_)).symm
        exact List.perm_middle
      have hst : St n (setM (ps.zip (xs.getD k [])) M) ⟨(ps.zip (xs.getD k [])).foldl (fun t x => t.setIfInBounds x.1 x.2) a.tmps, []⟩ := by
        refine St.setp ⟨rfl, ha.size, ha.get⟩ ?_
        rw [List.all_eq_true]
        intro z hz
        exact (List.all_eq_true.1 hpn) z.1 (List.of_mem_zip hz).1
      have ha1 := (hassign l k L' ([(l, .loop (rec .ready))] :: [(D, .deferred (some []))] :: R) hk hj0).out _ w1 hst (hw1.perm (hperm _ _))
      have etm : (ps.toArray.zip (xs.getD k []).toArray).foldl (fun tmps (x : Tmp × Value) => tmps.setIfInBounds x.1 x.2) a.tmps = (ps.zip (xs.getD k [])).foldl (fun t x => t.setIfInBounds x.1 x.2) a.tmps := by simp
      show Code.wpIn (Fence.wide.inRound l) 0 P assign _ { tmps := (ps.toArray.zip (xs.getD k []).toArray).foldl (fun tmps (x : Tmp × Value) => tmps.setIfInBounds x.1 x.2) a.tmps, defers := [] } w1
      rw [etm]
      refine wpIn_mono (F := Fr (some l)) ha1 ?_
      rintro e a2 w2 h2
      cases e with
      | normal =>
        obtain ⟨hs2, hw2⟩ := h2
        have hw2' := hw2.perm (hperm _ _).symm
        have hrl2 : w2.heap[l]? = some (.loop (rec .ready)) := Fnd.here.get hw2'
        have hw3 := hw2'.putL (o' := .loop { rec .ready with state := .busy })
        refine ⟨_, run_beginRound hrl2 (by rw [hrec]), ?_⟩
        have hb1 := (hbody l k L' ([(l, .loop { rec .ready with state := .busy })] :: [(D, .deferred (some []))] :: R) hk hj0).out a2 _ hs2 (hw3.perm (hperm _ _))
        refine wpIn_mono (F := Fr (some l)) hb1 ?_
        rintro e a3 w4 ⟨rfl, L3, hj3, hw4⟩
        have hperm3 : ([(l, .loop { rec .ready with state := .busy })] :: [(D, .deferred (some []))] :: (L3 ++ R)).Perm (L3 ++ ([(l, .loop { rec .ready with state := .busy })] :: [(D, .deferred (some []))] :: R)) := by
          refine ((List.perm_middle (l₁ := L3)).trans (.cons _ ?_)).symm
          exact List.perm_middle
        have hw4' := hw4.perm hperm3.symm
        have hrl4 : w4.heap[l]? = some (.loop { rec .ready with state := .busy }) := Fnd.here.get hw4'
        refine ⟨_, _, run_endRound none hrl4, ?_⟩
        refine ⟨rfl, _, ⟨_, (hJ' (k + 1) _).2 ⟨L3, hj3, rfl⟩, rfl⟩, ?_⟩
        have hw5 := hw4'.putL (o' := .loop (rec .ready))
        have er : (Obj.loop { { rec .ready with state := .busy } with state := if (none : Option Code).isNone then .ready else .done, pending := none }) = .loop (rec .ready) := by rw [hrec]; rfl
        rw [er]
        exact hw5
      | exit id => exact h2.elim
      | goto t => exact h2.elim
      | ret => exact h2.elim
      | panic c => exact h2.elim
      | outgrown => exact h2.elim
    have hW1' : Holds W1 (([(l, .loop (rec .ready))] :: [(D, .deferred (some []))] :: L0) ++ Lit) := hW1
    have hcall := hit.out l J' _ ((hJ' 0 _).2 ⟨L0, h0, rfl⟩) hyd _ hW1'
    refine CallsIn.mono hcall ?_
    rintro e w3 ⟨v, L3', rfl, ⟨L3, hj3, rfl⟩, hw3⟩
    obtain ⟨L4, hj4, rfl⟩ := (hJ' _ _).1 hj3
    have hrl3 : w3.heap[l]? = some (.loop (rec .ready)) := Fnd.here.get hw3
    have hpn : (rec .ready).pending = none := by rw [hrec]
    have hend : (Instr.endLoop l).run P w3 = .ok none (w3.putObj l (.loop { rec .ready with state := .exhausted })) :=
      (run_endLoop (P := P) hrl3 (by rw [hrec]; intro h; cases h)).trans (by simp [hpn])
    refine ⟨none, w3.putObj l (.loop { rec .ready with state := .exhausted }), hend, ?_⟩
    have hw5 : Holds (w3.putObj l (.loop { rec .ready with state := .exhausted })) ([(l, .loop { rec .ready with state := .exhausted })] :: [(D, .deferred (some []))] :: (L4 ++ Lit)) := hw3.putL
    refine hdone D _ _ L4 ⟨rfl, ha.size, ha.get⟩ ?_ hj4 hw5.drop
    show [_] ++ a.defers = _
    rw [ha.defers]
    rfl⟩
structure Wmc (P : Program) (n D : Nat) (c : Code) (Q : Exit → Act → World → Prop) (M : List (Nat × Value)) (L : List Chunk) : Prop where
  out : ∀ a w, St n M { a with defers := [] } → a.defers = [⟨.collected D, #[]⟩] → Holds w L → c.wp P Q a w
structure Wnc (P : Program) (n D : Nat) (ops : Array Oper) (Q : Exit → Act → World → Prop) (rest : List Oper) (M : List (Nat × Value)) (L : List Chunk) : Prop where
  out : ∀ a w, St n M { a with defers := [] } → a.defers = [⟨.collected D, #[]⟩] → Holds w L → wpList P ops Q rest a w
structure Wpc (n D : Nat) (q : Act → World → Prop) (M : List (Nat × Value)) (L : List Chunk) : Prop where
  out : ∀ a w, St n M { a with defers := [] } → a.defers = [⟨.collected D, #[]⟩] → Holds w L → q a w
theorem WM_seq {D : Nat} {x y : Code} (h : Wmc P n D x (Exit.then (y.wp P Q) Q) M L) : Wmc P n D (.seq x y) Q M L := ⟨fun a w ha hd hw => wp_seq (h.out a w ha hd hw)⟩
theorem WM_ret {D : Nat} (h : Wpc n D (Q .ret) M L) : Wmc P n D .ret Q M L := ⟨fun a w ha hd hw => wp_ret (h.out a w ha hd hw)⟩
theorem WM_region {D : Nat} {id : Nat} {l : List Oper} (h : Wnc P n D l.toArray Q l M L) : Wmc P n D (.region id l.toArray false) Q M L := ⟨fun a w ha hd hw => wp_region_lit (h.out a w ha hd hw)⟩
theorem WN_nil {D : Nat} {ops : Array Oper} (h : Wpc n D (Q .normal) M L) : Wnc P n D ops Q [] M L := ⟨fun a w ha hd hw => wpList_nil (h.out a w ha hd hw)⟩
theorem WN_ev {D : Nat} {ops : Array Oper} {rest : List Oper} {o : Oper} {d : Nat} {v : Value} (hg : o.guard = none) (he : EV P n o M L d v) (hn : Nat.blt d n = true) (h : Wnc P n D ops Q rest ((d, v) :: M) L) : Wnc P n D ops Q (o :: rest) M L := ⟨fun a w ha hd hw => by
  unfold wpList
  rw [if_pos (by simp [Region.wanted, hg])]
  refine .inl ?_
  unfold Oper.wp
  have hr := he.run { a with defers := [] } w ha hw
  have hae : ({ a with defers := [] } : Act).eval = a.eval := by funext x; cases x <;> rfl
  rw [hae] at hr
  rw [hr, Oper.upon_value, he.dst]
  refine h.out _ w (ha.put v hn) ?_ hw
  exact hd⟩
theorem WP_code {D : Nat} {c : Code} {K : Act → World → Prop} (hK : K = c.wp P Q) (h : Wmc P n D c Q M L) : Wpc n D K M L := by subst hK; exact ⟨h.out⟩
theorem WP_end {D : Nat} {fn : Func} {post : Value → List Chunk → Prop} {rs : List ResultVar} {vs : List Value} {e : Exit} (he : e = .ret ∨ e = .normal) (hr : fn.results = rs.toArray) (h : resT M rs = some vs) {L1 : List Chunk} (hL : ∀ w, Holds w L → Holds w ([(D, .deferred (some []))] :: L1)) (hp : post (tupled vs) L1) :
    Wpc n D (bodyPostM Fence.wide 0 P fn (fun e w' => ∃ v L', e = .returned v ∧ post v L' ∧ Holds w' L') e) M L := ⟨fun a w ha hd hw => by
  have key : LeavesInM Fence.wide 0 P fn a.tmps (fun e w' => ∃ v L', e = .returned v ∧ post v L' ∧ Holds w' L') a.defers .returning w := by
    rw [hd]
    have hw2 := hL w hw
    have hk : w.heap[D]? = some (.deferred (some [])) := Fnd.here.get hw2
    have hw3 : Holds (w.putObj D (.deferred none)) ([(D, .deferred none)] :: L1) := hw2.putL
    refine ⟨by simp, .inl ⟨D, _, rfl, run_takeDeferred hk, ?_⟩⟩
    exact ⟨tupled vs, results_run (a := { a with defers := [] }) ha hr h, tupled vs, L1, rfl, hp, hw3.drop⟩
  rcases he with rfl | rfl <;> exact key⟩
theorem Gv.of_bodyM {f : FuncId} {fn : Func} {c : Code} {args : List Value} {post : Value → List Chunk → Prop} (hf : P.funcs[f]? = some fn) (hb : fn.body = some c) (hle : Nat.ble args.length fn.ntmps = true)
    (h : WC P fn.ntmps c (bodyPostM Fence.wide 0 P fn (fun e w' => ∃ v L', e = .returned v ∧ post v L' ∧ Holds w' L')) (params 0 args) L) : Gv P f args.toArray L post := ⟨fun w hw => by
  refine (callsIn_wide (n := 0)).1 (callsIn_of_wp_marks hf hb trivial ((wpIn_wide (n := 0)).2 (h.out _ w ⟨rfl, ?_, ?_⟩ hw)))
  · have := Nat.le_of_ble_eq_true hle
    simp; omega
  · intro t v ht
    obtain ⟨_, h2⟩ := params_get args 0 t v ht
    have h2' : args[t]? = some v := by simpa using h2
    have hlt : t < args.length := by
      rcases Nat.lt_or_ge t args.length with h' | h'
      · exact h'
      · simp [List.getElem?_eq_none h'] at h2'
    rw [Array.getElem?_append_left (by simpa using hlt)]
    simpa using h2'⟩
theorem kTi {c : Operand} {x y : Code} {t : Bool} {p : Prop} (ht : p → Wic P n ro x Q M L) (hc : ev M c = some (.bool t) := by exact rfl) (hn : t = false → False := by (intro hc; (try simp only [nrB] at hc); first | omega | exact hc trivial | exact hc rfl)) (hp : t = true → p := by (intro hc; (try simp only [nrB] at hc); exact hc)) : Wic P n ro (.cond c x y) Q M L :=
  WI_cond hc (fun h => ht (hp h)) (fun h => (hn h).elim)
theorem kFi {c : Operand} {x y : Code} {t : Bool} {p : Prop} (hf : p → Wic P n ro y Q M L) (hc : ev M c = some (.bool t) := by exact rfl) (hn : t = true → False := by (intro hc; (try simp only [nrB] at hc); first | omega | exact hc trivial | exact hc rfl)) (hp : t = false → p := by (intro hc; (try simp only [nrB] at hc); exact hc)) : Wic P n ro (.cond c x y) Q M L :=
  WI_cond hc (fun h => (hn h).elim) (fun h => hf (hp h))
theorem kQi {c : Operand} {x y : Code} {t : Bool} {p q : Prop} (ht : p → Wic P n ro x Q M L) (hf : q → Wic P n ro y Q M L) (hc : ev M c = some (.bool t) := by exact rfl) (hp : t = true → p := by (intro hc; (try simp only [nrB] at hc); exact hc)) (hq : t = false → q := by (intro hc; (try simp only [nrB] at hc); exact hc)) : Wic P n ro (.cond c x y) Q M L :=
  WI_cond hc (fun h => ht (hp h)) (fun h => hf (hq h))
theorem kI {p q : Prop} (h : q) (s : Wr q → p := by (intro h9; (first | (show WL _ _ _ _ _ _ _; first | refine jA ?_ | refine jB ?_ | refine jC ?_ | refine jD ?_ | refine jE ?_ | refine jF ?_) | (show OW _ _ _ _ _ _; first | refine OW_E ?_ | refine jI ?_ | refine jJ ?_) | (show Wic _ _ _ _ _ _ _; first | refine WI_seq ?_ | refine WI_regionV rfl (by repeat (first | with_reducible exact NL.body | with_reducible exact RP_nl | with_reducible exact AP_nl | with_reducible refine NL.then ?_ | with_reducible refine NL.block ?_)) rfl ?_ | refine WI_true rfl ?_ | refine WI_false rfl ?_ | refine WI_skip ?_ | refine WI_ret ?_ | refine WI_exit ?_ | refine WI_block ?_) | (show WQ _ _ _ _; with_reducible first | refine jV ?_ | refine WQ_codeI ?_ | refine jX ?_ | refine jY ?_ | refine jZ ?_ | refine kA ?_ | refine kB ?_ | refine kC ?_)); (repeat (first | (show WL _ _ _ _ _ _ _; first | refine jA ?_ | refine jB ?_ | refine jC ?_ | refine jD ?_ | refine jE ?_ | refine jF ?_) | (show OW _ _ _ _ _ _; first | refine OW_E ?_ | refine jI ?_ | refine jJ ?_) | (show Wic _ _ _ _ _ _ _; first | refine WI_seq ?_ | refine WI_regionV rfl (by repeat (first | with_reducible exact NL.body | with_reducible exact RP_nl | with_reducible exact AP_nl | with_reducible refine NL.then ?_ | with_reducible refine NL.block ?_)) rfl ?_ | refine WI_true rfl ?_ | refine WI_false rfl ?_ | refine WI_skip ?_ | refine WI_ret ?_ | refine WI_exit ?_ | refine WI_block ?_) | (show WQ _ _ _ _; with_reducible first | refine jV ?_ | refine WQ_codeI ?_ | refine jX ?_ | refine jY ?_ | refine jZ ?_ | refine kA ?_ | refine kB ?_ | refine kC ?_))); exact h9.out)) : p := s ⟨h⟩
theorem kJ {p A g : Prop} (h : p → A) (s : Wr (p → A) → g := by (intro h9; first | ((show Wic _ _ _ _ _ _ _); first | exact kTi h9.out | exact kFi h9.out) | ((show WL _ _ _ _ _ _ _); first | (refine jG (fun hc => ?_) (fun hc => ?_); (focus (rw [hc]; have h8 := hc; (try simp only [nrB] at h8); exact h9.out h8)); (exfalso; (try simp only [nrB] at hc); first | done | omega)) | (refine jG (fun hc => ?_) (fun hc => ?_); rotate_left; (focus (rw [hc]; have h8 := hc; (try simp only [nrB] at h8); exact h9.out h8)); (exfalso; (try simp only [nrB] at hc); first | done | omega))))) : g := s ⟨h⟩
theorem kK {p q A B g : Prop} (ht : p → A) (hf : q → B) (s : Wr ((p → A) ∧ (q → B)) → g := by (intro h9; first | ((show Wic _ _ _ _ _ _ _); exact kQi h9.out.1 h9.out.2) | ((show WL _ _ _ _ _ _ _); (refine jG (fun hc => ?_) (fun hc => ?_); (focus (rw [hc]; have h8 := hc; (try simp only [nrB] at h8); exact h9.out.1 h8)); (rw [hc]; have h8 := hc; (try simp only [nrB] at h8); exact h9.out.2 h8))))) : g := s ⟨ht, hf⟩
theorem kL {p q : Prop} (h : q) (s : Wr q → p := by (intro h9; (first | (show Wjc _ _ _ _ _ _ _ _; first | refine WJ_op rfl rfl ?_ | refine WJ_nil ?_) | (show OW _ _ _ _ _ _; first | refine OW_E ?_ | refine jI ?_ | refine jJ ?_) | (show Wic _ _ _ _ _ _ _; first | refine WI_seq ?_ | refine WI_regionV rfl (by repeat (first | with_reducible exact NL.body | with_reducible exact RP_nl | with_reducible exact AP_nl | with_reducible refine NL.then ?_ | with_reducible refine NL.block ?_)) rfl ?_ | refine WI_true rfl ?_ | refine WI_false rfl ?_ | refine WI_skip ?_ | refine WI_ret ?_ | refine WI_exit ?_ | refine WI_block ?_) | (show WQ _ _ _ _; with_reducible first | refine jV ?_ | refine WQ_codeI ?_ | refine jX ?_ | refine jY ?_ | refine jZ ?_ | refine kA ?_ | refine kB ?_ | refine kC ?_)); (repeat (first | (show Wjc _ _ _ _ _ _ _ _; first | refine WJ_op rfl rfl ?_ | refine WJ_nil ?_) | (show OW _ _ _ _ _ _; first | refine OW_E ?_ | refine jI ?_ | refine jJ ?_) | (show Wic _ _ _ _ _ _ _; first | refine WI_seq ?_ | refine WI_regionV rfl (by repeat (first | with_reducible exact NL.body | with_reducible exact RP_nl | with_reducible exact AP_nl | with_reducible refine NL.then ?_ | with_reducible refine NL.block ?_)) rfl ?_ | refine WI_true rfl ?_ | refine WI_false rfl ?_ | refine WI_skip ?_ | refine WI_ret ?_ | refine WI_exit ?_ | refine WI_block ?_) | (show WQ _ _ _ _; with_reducible first | refine jV ?_ | refine WQ_codeI ?_ | refine jX ?_ | refine jY ?_ | refine jZ ?_ | refine kA ?_ | refine kB ?_ | refine kC ?_))); exact h9.out)) : p := s ⟨h⟩
end
end Go.Vx
namespace Go.Proofs.YtdcehmhelfohfaaGreatDoor
open Go Go.Vx
variable [W0]
set_option maxRecDepth 4000
set_option linter.all false
omit [W0] in
/-- The pieces of two of a slice. -/
def ckV (a : Option Addr) (m k : Nat) : Value := match a with
  | some ⟨b, off, none⟩ => .slice (some ⟨b, off + 2 * k * 2, none⟩) (min 2 (m - 2 * k)) (min 2 (m - 2 * k))
  | x => .slice x 0 0
omit [W0] in
def ckS (a : Option Addr) (m : Nat) : List (List Value) := (List.range ((m + 1) / 2)).map fun k => [ckV a m k]
theorem ckS_length (a : Option Addr) (m : Nat) : (ckS a m).length = (m + 1) / 2 := by simp [ckS]
theorem ckS_get (a : Option Addr) (m : Nat) {k : Nat} (h : k < (m + 1) / 2) : (ckS a m).getD k [] = [ckV a m k] := by simp [ckS, List.getD, h]
omit [W0] in
/-- A slice's header that may be cut. -/
def HdS (a : Option Addr) (m c : Nat) : Prop := m ≤ c ∧ ((a = none ∧ m = 0) ∨ ∃ b off, a = some ⟨b, off, none⟩)
theorem chunk_c (a : Option Addr) (m c : Nat) (L : List Chunk) :
    Gv Tryz.prog 172 [.slice a m c, .int .i64 2].toArray L
      (fun r L' => ∃ p q, r = .func (.func 174) #[] #[.pointer (some ⟨p, 0, none⟩), .pointer (some ⟨q, 0, none⟩)] ∧ L' = [(q, cl [.int .i64 2] 3)] :: [(p, cl [.slice a m c] 229)] :: L) := by
  refine Gv.of_body Tryz.func172 rfl rfl ?_
  (repeat' first|refine kW ?_|refine kU fun bk=>?_|refine kV fun hc=>?_|refine kZ (fun hc=>?_) fun hc=>?_|fail)
  first | refine WQ_retH rfl rfl ?_ | refine WQ_endH rfl rfl ?_
  exact ⟨_, fun w h => h, _, _, rfl, rfl⟩
set_option maxHeartbeats 4000000 in
theorem chunk_it (a : Option Addr) (m c p q : Nat) (hm : m ≤ 100000) (hh : HdS a m c) :
    It Tryz.prog 174 [.pointer (some ⟨p, 0, none⟩), .pointer (some ⟨q, 0, none⟩)].toArray ([(q, cl [.int .i64 2] 3)] :: [(p, cl [.slice a m c] 229)] :: []) (ckS a m) := by
  refine It.of_body Tryz.func174 rfl rfl fun l J L0 h0 hy => ?_
  obtain ⟨Lit, hLit⟩ : ∃ Lit : List Chunk, Lit = [(q, cl [.int .i64 2] 3)] :: [(p, cl [.slice a m c] 229)] :: [] := ⟨_, rfl⟩
  rw [← hLit]
  have fq : ∀ L', Fnd (L' ++ Lit) q (cl [.int .i64 2] 3) := fun L' => by rw [hLit]; exact Fnd.right Fnd.here
  have fp : ∀ L', Fnd (L' ++ Lit) p (cl [.slice a m c] 229) := fun L' => by rw [hLit]; exact Fnd.right (Fnd.there Fnd.here)
  (repeat' first|refine kI ?_|refine kU fun bk=>?_|refine kJ fun hc=>?_|refine kK (fun hc=>?_) fun hc=>?_|fail)
  refine WI_loop (X := Nat × List Chunk) (fun x => [(0, .func (.yield l) #[] #[]), (1, .pointer (some ⟨p, 0, none⟩)), (2, .pointer (some ⟨q, 0, none⟩)), (4, .int .i64 ((2 * x.1 : Nat) : Int))])
    (fun x => x.2 ++ Lit) (fun x => x.1 ≤ (ckS a m).length ∧ J x.1 x.2) (fun x => (ckS a m).length - x.1) (0, L0) ⟨Nat.zero_le _, h0⟩ iS (fun w h => h) ?_
  rintro ⟨k, L'⟩ ⟨hk, hj⟩
  simp only at hk hj ⊢
  rw [ckS_length] at hk
  (repeat' first|refine kI ?_|refine kU fun bk=>?_|refine kJ fun hc=>?_|refine kK (fun hc=>?_) fun hc=>?_|fail)
  refine OW_EV (EV_loadc rfl (fp L') rfl) rfl ?_
  (repeat' first|refine kI ?_|refine kU fun bk=>?_|refine kJ fun hc=>?_|refine kK (fun hc=>?_) fun hc=>?_|fail)
  · have hlt : 2 * k < m := by omega
    obtain ⟨hmc, hh⟩ := hh
    obtain ⟨b, off, rfl⟩ : ∃ b off, a = some ⟨b, off, none⟩ := by
      rcases hh with ⟨_, h⟩ | h
      · omega
      · exact h
    refine WI_draw (L' ++ Lit) [] (by repeat (first | with_reducible exact NL.body | with_reducible exact RP_nl | with_reducible exact AP_nl | with_reducible refine NL.then ?_ | with_reducible refine NL.block ?_)) rfl mixed ?_
    (refine WR_take 0 rfl rfl (by kernel_rfl) iP iC (EV_loadc rfl (fq L') rfl) (by rfl) ?_)
    (refine WR_take 1 rfl rfl (by kernel_rfl) iP iC (EV_loadc rfl (fp L') rfl) (by rfl) ?_)
    (refine WR_t 2 ?_)
    (refine WR_take 3 rfl rfl (by kernel_rfl) iP iC (EV_sliceSl (l := 2 * k) (h := m) rfl (bnd_int rfl rfl) rfl (by omega) hmc) (by rfl) ?_)
    (refine WR_t 4 ?_; refine WR_t 5 ?_)
    obtain ⟨e, he⟩ : ∃ e, e = min 2 (m - 2 * k) := ⟨_, rfl⟩
    rw [show min (2 : Int) ((m - 2 * k : Nat) : Int) = (e : Int) from by omega]
    (refine WR_t 6 ?_)
    (refine WR_done (by kernel_rfl) ?_)
    have hck : ckV (some ⟨b, off, none⟩) m k = .slice (some ⟨b, off + 2 * k * 2, none⟩) e e := by rw [he]; rfl
    (repeat' first|refine kI ?_|refine kU fun bk=>?_|refine kJ fun hc=>?_|refine kK (fun hc=>?_) fun hc=>?_|fail)
    refine WI_list ?_
    (repeat' first|refine kL ?_|refine kU fun bk=>?_|refine kJ fun hc=>?_|refine kK (fun hc=>?_) fun hc=>?_|fail)
    refine OW_EV (EV_loadc rfl (fp L') rfl) rfl ?_
    (repeat' first|refine kL ?_|refine kU fun bk=>?_|refine kJ fun hc=>?_|refine kK (fun hc=>?_) fun hc=>?_|fail)
    rw [show ((2 * k : Nat) : Int) + (e : Int) = ((2 * k + e : Nat) : Int) from by omega]
    refine OW_EV (EV_slice3 (l := 2 * k) (h := 2 * k + e) (m := 2 * k + e) rfl rfl rfl rfl (by omega) (Nat.le_refl _) (by omega)) rfl ?_
    rw [if_neg (by omega), show 2 * k + e - 2 * k = e from by omega, ← hck]
    have hyk := hy Lit k L' (by rw [ckS_length]; omega) hj
    rw [ckS_get _ _ (by omega)] at hyk
    refine WJ_yield rfl rfl hyk rfl ?_
    rintro L'' ⟨L3, hj3, rfl⟩
    (repeat' first|refine kL ?_|refine kU fun bk=>?_|refine kJ fun hc=>?_|refine kK (fun hc=>?_) fun hc=>?_|fail)
    (repeat' first|refine kI ?_|refine kU fun bk=>?_|refine kJ fun hc=>?_|refine kK (fun hc=>?_) fun hc=>?_|fail)
    refine OW_EV (EV_loadc rfl (fq L3) rfl) rfl ?_
    (repeat' first|refine kI ?_|refine kU fun bk=>?_|refine kJ fun hc=>?_|refine kK (fun hc=>?_) fun hc=>?_|fail)
    refine WQ_round (X := Nat × List Chunk) (μ := fun x => (ckS (some ⟨b, off, none⟩) m).length - x.1) (x := (k, L')) (k + 1, L3) (by simp only [ckS_length]; omega) ⟨by simp only [ckS_length]; omega, hj3⟩ iS (fun w h => h)
  · have hke : k = (m + 1) / 2 := by omega
    first | refine WQ_retH rfl rfl ?_ | refine WQ_endH rfl rfl ?_
    refine ⟨_, fun w h => h, L', ?_, rfl⟩
    rw [ckS_length, ← hke]
    exact hj
end Go.Proofs.YtdcehmhelfohfaaGreatDoor
namespace Go.Pm
set_option linter.all false
theorem pairs_get : ∀ {l : List Pm.It} {k : Nat} {x y : Pm.It}, l[2 * k]? = some x → l[2 * k + 1]? = some y → (pairs l)[k]? = some (pack x y)
  | [], k, x, y, h, _ => by simp at h
  | [_], 0, x, y, _, h => by simp at h
  | [_], k + 1, x, y, h, _ => by simp at h
  | a :: b :: r, 0, x, y, h1, h2 => by
    simp at h1 h2
    subst h1 h2
    rfl
  | a :: b :: r, k + 1, x, y, h1, h2 => by
    rw [show 2 * (k + 1) = 2 * k + 1 + 1 from by omega, List.getElem?_cons_succ, List.getElem?_cons_succ] at h1
    rw [show 2 * (k + 1) + 1 = 2 * k + 1 + 1 + 1 from by omega, List.getElem?_cons_succ, List.getElem?_cons_succ] at h2
    rw [pairs, List.getElem?_cons_succ]
    exact pairs_get h1 h2
end Go.Pm
namespace Go.Proofs.YtdcehmhelfohfaaGreatDoor
open Go Go.Vx
variable [W0]
set_option maxRecDepth 4000
set_option linter.all false
omit [W0] in
/-- An item's cells. -/
def itv (x : Pm.It) : List Value := [.int .i64 (x.w : Int), .bool (!Pm.isC x)]
omit [W0] in
def itvs (l : List Pm.It) : List Value := l.flatMap itv
theorem itvs_length (l : List Pm.It) : (itvs l).length = l.length * 2 := by
  induction l with
  | nil => rfl
  | cons x r ih => simp [itvs, itv] at ih ⊢; omega
theorem itvs_app (a b : List Pm.It) : itvs (a ++ b) = itvs a ++ itvs b := by simp [itvs]
theorem itvs_ones (l : List Pm.It) : ones (itvs l) = true := by
  induction l with
  | nil => rfl
  | cons x r ih =>
    have e : itvs (x :: r) = .int .i64 (x.w : Int) :: .bool (!Pm.isC x) :: itvs r := rfl
    rw [e]
    simpa [ones, Value.oneCell'] using ih
theorem itvs_get : ∀ {l : List Pm.It} {i : Nat} {x : Pm.It}, l[i]? = some x → (itvs l)[i * 2]? = some (.int .i64 (x.w : Int)) ∧ (itvs l)[i * 2 + 1]? = some (.bool (!Pm.isC x))
  | [], i, x, h => by simp at h
  | a :: r, 0, x, h => by
    simp at h
    subst h
    exact ⟨rfl, rfl⟩
  | a :: r, i + 1, x, h => by
    simp at h
    have ih := itvs_get h
    have e : itvs (a :: r) = .int .i64 (a.w : Int) :: .bool (!Pm.isC a) :: itvs r := rfl
    rw [e, show (i + 1) * 2 = i * 2 + 1 + 1 from by omega]
    exact ih
theorem ow_one2 {e k m : Nat} {v : Value} {xs : List Value} {C : Chunk} (h : Ow e k v m xs C) : v.oneCell' = true := by
  rcases h with ⟨rfl, _⟩ | ⟨b, cap, rest, rfl, _⟩ <;> rfl
set_option maxHeartbeats 8000000 in
theorem pairs_c (v : Value) (l : List Pm.It) (Cb : Chunk) (L : List Chunk) (hO : Ow 238 2 v l.length (itvs l) Cb) (hl : l.length ≤ 1000) (hw : ∀ x ∈ l, x.w ≤ 2305843009213693952) :
    Gv Tryz.prog 168 [v].toArray (Cb :: L) (fun r L' => ∃ C, L' = C :: Cb :: L ∧ Ow 238 2 r (Pm.pairs l).length (itvs (Pm.pairs l)) C) := by
  obtain ⟨a, c, rfl, hh⟩ : ∃ a c, v = .slice a l.length c ∧ HdS a l.length c := by
    rcases hO with ⟨rfl, h1, _⟩ | ⟨b, cap, rest, rfl, _, _, _, h2, _⟩
    · rw [h1]; exact ⟨_, _, rfl, Nat.le_refl _, .inl ⟨rfl, rfl⟩⟩
    · exact ⟨_, _, rfl, h2, .inr ⟨b, 0, rfl⟩⟩
  refine Gv.of_bodyM Tryz.func168 rfl rfl ?_
  (repeat' first|refine kW ?_|refine kU fun bk=>?_|refine kV fun hc=>?_|refine kZ (fun hc=>?_) fun hc=>?_|fail)
  obtain ⟨b3, hb3⟩ : ∃ b3, b3 = bk := ⟨_, rfl⟩
  rw [← hb3]
  clear hb3
  refine OW_call rfl rfl rfl (chunk_c a l.length c _) rfl (fun r L' hp => ?_)
  obtain ⟨p, q, rfl, rfl⟩ := hp
  (repeat' first|refine kW ?_|refine kU fun bk=>?_|refine kV fun hc=>?_|refine kZ (fun hc=>?_) fun hc=>?_|fail)
  obtain ⟨J, hJ⟩ : ∃ J : Nat → List Chunk → Prop, ∀ k L', J k L' ↔ ∃ v C, Ow 238 2 v ((Pm.pairs l).take k).length (itvs ((Pm.pairs l).take k)) C ∧ L' = [(b3, cl [v] 229)] :: C :: Cb :: L := ⟨fun k L' => ∃ v C, Ow 238 2 v ((Pm.pairs l).take k).length (itvs ((Pm.pairs l).take k)) C ∧ L' = [(b3, cl [v] 229)] :: C :: Cb :: L, fun _ _ => Iff.rfl⟩
  refine WC_range (ps := [7]) rfl (chunk_it a l.length c p q (by omega) hh) J ([(b3, cl [.slice none 0 0] 229)] :: [] :: Cb :: L) ((hJ _ _).2 ⟨_, [], .inl ⟨rfl, rfl, rfl, rfl⟩, rfl⟩) (fun w h => ?_) (fun k hk => by rw [ckS_length] at hk; rw [ckS_get _ _ hk]; rfl) rfl
    (fun k _ => [(3, .pointer (some ⟨b3, 0, none⟩)), (4, ckV a l.length k)]) (fun lp k L' R hk hj => ?_) (fun lp k L' R hk hj => ?_) (fun D a' w L3 hst hd hj hw' => ?_)
  · have h2 := h.perm (List.perm_append_comm (l₁ := [[(q, cl [.int .i64 2] 3)], [(p, cl [.slice a l.length c] 229)]]) (l₂ := [(b3, cl [.slice none 0 0] 229)] :: Cb :: L))
    exact Holds.gap.2 h2
  · rw [ckS_length] at hk
    rw [ckS_get _ _ hk]
    show Wic _ _ _ _ _ ((7, ckV a l.length k) :: _) _
    (repeat' first|refine kI ?_|refine kU fun bk=>?_|refine kJ fun hc=>?_|refine kK (fun hc=>?_) fun hc=>?_|fail)
    exact WQ_AP iS (fun w h => h)
  · rw [ckS_length] at hk
    obtain ⟨v, C, ho, rfl⟩ := (hJ _ _).1 hj
    rcases hO with ⟨_, h1, _⟩ | ⟨b, cap, rest, hv, rfl, hxl, hrl, hmc, _⟩
    · omega
    injection hv with e1 e2 e3
    subst e1 e3
    clear e2
    show Wic _ _ _ _ _ _ ([(b3, cl [v] 229)] :: C :: [(b, cl (itvs l ++ rest) 238)] :: (L ++ R))
    have hpl := Pm.pairs_length l
    by_cases h2 : 2 * k + 2 ≤ l.length
    · have hck : ckV (some ⟨b, 0, none⟩) l.length k = .slice (some ⟨b, 0 + 2 * k * 2, none⟩) 2 2 := by
        show Value.slice (some ⟨b, 0 + 2 * k * 2, none⟩) (min 2 (l.length - 2 * k)) (min 2 (l.length - 2 * k)) = _
        rw [Nat.min_eq_left (by omega)]
      obtain ⟨x, hx⟩ : ∃ x, l[2 * k]? = some x := ⟨l[2 * k], by simp [show 2 * k < l.length from by omega]⟩
      obtain ⟨y, hy⟩ : ∃ y, l[2 * k + 1]? = some y := ⟨l[2 * k + 1], by simp [show 2 * k + 1 < l.length from by omega]⟩
      have hwx := hw x (List.mem_of_getElem? hx)
      have hwy := hw y (List.mem_of_getElem? hy)
      have hpg := Pm.pairs_get hx hy
      have hgx : nth (itvs l ++ rest) (0 + 2 * k * 2 + 0 * 2 + 0) = some (.int .i64 (x.w : Int)) := by
        have h3 := (itvs_get hx).1
        rw [nth_eq, show 0 + 2 * k * 2 + 0 * 2 + 0 = 2 * k * 2 from by omega, List.getElem?_append_left (List.getElem?_eq_some_iff.1 h3).1]
        exact h3
      have hgy : nth (itvs l ++ rest) (0 + 2 * k * 2 + 1 * 2 + 0) = some (.int .i64 (y.w : Int)) := by
        have h3 := (itvs_get hy).1
        rw [nth_eq, show 0 + 2 * k * 2 + 1 * 2 + 0 = (2 * k + 1) * 2 from by omega, List.getElem?_append_left (List.getElem?_eq_some_iff.1 h3).1]
        exact h3
      have htk : (Pm.pairs l).take (k + 1) = (Pm.pairs l).take k ++ [Pm.pack x y] := by rw [List.take_add_one, hpg]; rfl
      have htl : ((Pm.pairs l).take k).length = k := by rw [List.length_take, hpl]; omega
      rw [hck]
      (repeat' first|refine kI ?_|refine kU fun bk=>?_|refine kJ fun hc=>?_|refine kK (fun hc=>?_) fun hc=>?_|fail)
      refine WI_draw [[(b3, cl [v] 229)], [(b, cl (itvs l ++ rest) 238)]] [13] (by repeat (first | with_reducible exact NL.body | with_reducible exact RP_nl | with_reducible exact AP_nl | with_reducible refine NL.then ?_ | with_reducible refine NL.block ?_)) rfl mixed ?_
      (refine WR_r 0 ?_; refine WR_r 1 ?_)
      (refine WR_take 2 rfl rfl (by kernel_rfl) iP iC (EV_indexAddr (j := 0) rfl rfl rfl (by omega)) (by rfl) ?_)
      (refine WR_take 3 rfl rfl (by kernel_rfl) iP iC (EV_fieldAddr rfl) (by rfl) ?_)
      (refine WR_take 4 rfl rfl (by kernel_rfl) iP iC (EV_loadc rfl (Fnd.there Fnd.here) hgx) (by rfl) ?_)
      (refine WR_r 5 ?_)
      (refine WR_take 6 rfl rfl (by kernel_rfl) iP iC (EV_indexAddr (j := 1) rfl rfl rfl (by omega)) (by rfl) ?_)
      (refine WR_take 7 rfl rfl (by kernel_rfl) iP iC (EV_fieldAddr rfl) (by rfl) ?_)
      (refine WR_take 8 rfl rfl (by kernel_rfl) iP iC (EV_loadc rfl (Fnd.there Fnd.here) hgy) (by rfl) ?_)
      (refine WR_r 9 ?_)
      rw [← Int.natCast_add]
      (refine WR_r 10 ?_)
      (refine WR_one 11 (by kernel_rfl) rfl rfl ?_)
      refine OW_buildSlice (cs := itv (Pm.pack x y)) rfl (by rfl) (by simp [fillL, patch, Value.cells, zeros]; rfl) (by omega) rfl rfl (fun bs => ?_)
      refine ⟨iC, ?_⟩
      (refine WR_one 12 (by kernel_rfl) rfl rfl ?_)
      refine OW_append rfl rfl ho (sl_cells (k := 2) (c := (itv (Pm.pack x y)).toArray) (xs := itv (Pm.pack x y)) (m := 1) Fnd.here rfl (by simp)) (by repeat (first | exact Zip.here _ | apply Zip.there)) rfl (by rfl) (by omega) (by simp [maxLen]; omega) rfl (fun v' C' ho' _ _ => ?_)
      refine ⟨iC, ?_⟩
      (refine WR_last 13 (by kernel_rfl) rfl rfl rfl ?_)
      refine OW_storeTo [v'] rfl rfl (ow_one2 ho') rfl iU (by simp) ?_
      (refine WR_done (by kernel_rfl) ?_)
      (repeat' first|refine kI ?_|refine kU fun bk=>?_|refine kJ fun hc=>?_|refine kK (fun hc=>?_) fun hc=>?_|fail)
      refine WQ_RP ([(b3, cl [v'] 229)] :: C' :: [(b, cl (itvs l ++ rest) 238)] :: L) ((hJ _ _).2 ⟨v', C', ?_, rfl⟩) (fun w h => h.drop)
      rw [htk, itvs_app, List.length_append]
      exact ho'
    · have hck : ckV (some ⟨b, 0, none⟩) l.length k = .slice (some ⟨b, 0 + 2 * k * 2, none⟩) 1 1 := by
        show Value.slice (some ⟨b, 0 + 2 * k * 2, none⟩) (min 2 (l.length - 2 * k)) (min 2 (l.length - 2 * k)) = _
        rw [show min 2 (l.length - 2 * k) = 1 from by omega]
      rw [hck]
      (repeat' first|refine kI ?_|refine kU fun bk=>?_|refine kJ fun hc=>?_|refine kK (fun hc=>?_) fun hc=>?_|fail)
      refine WQ_RP ([(b3, cl [v] 229)] :: C :: [(b, cl (itvs l ++ rest) 238)] :: L) ((hJ _ _).2 ⟨v, C, ?_, rfl⟩) (fun w h => h)
      have e1 : (Pm.pairs l).take (k + 1) = (Pm.pairs l).take k := by rw [List.take_of_length_le (by omega), List.take_of_length_le (by omega)]
      rw [e1]
      exact ho
  · obtain ⟨v, C, ho, rfl⟩ := (hJ _ _).1 hj
    rw [ckS_length, List.take_of_length_le (by rw [Pm.pairs_length]; omega)] at ho
    have hw2 : Holds w (([(D, .deferred (some []))] :: [(b3, cl [v] 229)] :: C :: Cb :: L) ++ [[(q, cl [.int .i64 2] 3)], [(p, cl [.slice a l.length c] 229)]]) := hw'
    have hw3 := hw2.front
    change Code.wp _ _ _ a' w
    refine Wmc.out (M := [(3, .pointer (some ⟨b3, 0, none⟩))]) (L := [(D, .deferred (some []))] :: [(b3, cl [v] 229)] :: C :: Cb :: L) ?_ a' w (hst.sub iS) hd hw3
    refine WM_seq (WM_region (WN_ev rfl (EV_loadc rfl (Fnd.there Fnd.here) rfl) rfl (WN_ev rfl (EV_assign rfl) rfl (WN_nil (WP_code rfl (WM_ret ?_))))))
    exact WP_end (.inl rfl) rfl rfl (L1 := C :: Cb :: L) (fun w h => (iC : Inc ([(D, .deferred (some []))] :: C :: Cb :: L) _).holds h) ⟨C, rfl, ho⟩
end Go.Proofs.YtdcehmhelfohfaaGreatDoor
namespace Go.Pm
set_option linter.all false
theorem pairs_up : ∀ {l : List Pm.It}, l.Pairwise (fun a b => a.w ≤ b.w) → (pairs l).Pairwise (fun a b => a.w ≤ b.w)
  | [], _ => .nil
  | [_], _ => .nil
  | a :: b :: r, h => by
    have ha := (List.pairwise_cons.1 h).1
    have h2 := (List.pairwise_cons.1 h).2
    have hb := (List.pairwise_cons.1 h2).1
    have hr := (List.pairwise_cons.1 h2).2
    refine List.pairwise_cons.2 ⟨fun x hx => ?_, pairs_up hr⟩
    obtain ⟨y, hy, hxy⟩ : ∃ y ∈ r, ∃ z ∈ r, x.w = y.w + z.w := by
      have key : ∀ l : List Pm.It, ∀ x ∈ pairs l, ∃ y ∈ l, ∃ z ∈ l, x.w = y.w + z.w := by
        intro l
        induction l using pairs.induct with
        | case1 a b r ih =>
          intro x hx
          rcases List.mem_cons.1 hx with rfl | hx
          · exact ⟨a, by simp, b, by simp, rfl⟩
          · obtain ⟨y, hy, z, hz, e⟩ := ih x hx
            exact ⟨y, by simp [hy], z, by simp [hz], e⟩
        | case2 t ht =>
          intro x hx
          match t, ht with
          | [], _ => simp [pairs] at hx
          | [_], _ => simp [pairs] at hx
          | a :: b :: r, ht => exact absurd rfl (ht a b r)
      exact key r x hx
    obtain ⟨z, hz, e⟩ := hxy
    have h1 := ha y (List.mem_cons_of_mem _ hy)
    have h3 := hb z hz
    show a.w + b.w ≤ x.w
    omega
structure Mp (cs ps : List Pm.It) (i t : Nat) (A : List Pm.It) : Prop where
  ci : A.filter isC = cs.take i
  pt : A.filter (fun x => !isC x) = ps.take t
  up : A.Pairwise fun a b => a.w ≤ b.w
  lc : ∀ x ∈ A, ∀ y ∈ cs.drop i, x.w ≤ y.w
  lp : ∀ x ∈ A, ∀ y ∈ ps.drop t, x.w ≤ y.w
theorem Mp.nil (cs ps : List Pm.It) : Mp cs ps 0 0 [] := ⟨by simp, by simp, .nil, fun x hx => by simp at hx, fun x hx => by simp at hx⟩
theorem up_app {A : List Pm.It} {x : Pm.It} (h : A.Pairwise fun a b => a.w ≤ b.w) (hx : ∀ y ∈ A, y.w ≤ x.w) : (A ++ [x]).Pairwise fun a b => a.w ≤ b.w := by
  rw [List.pairwise_append]
  exact ⟨h, List.pairwise_singleton _ _, fun a ha b hb => by rw [List.mem_singleton.1 hb]; exact hx a ha⟩
theorem drop_le {l : List Pm.It} {i : Nat} {x : Pm.It} (hl : l.Pairwise fun a b => a.w ≤ b.w) (hx : l[i]? = some x) : ∀ y ∈ l.drop i, x.w ≤ y.w := by
  intro y hy
  have hlt := (List.getElem?_eq_some_iff.1 hx).1
  have h2 := hl.sublist (List.drop_sublist i l)
  rw [List.drop_eq_getElem_cons hlt] at h2 hy
  have he : l[i] = x := by rw [List.getElem?_eq_getElem hlt] at hx; exact Option.some.inj hx
  rw [he] at h2 hy
  rcases List.mem_cons.1 hy with h | h
  · rw [h]; exact Nat.le_refl _
  · exact (List.pairwise_cons.1 h2).1 y h
theorem get_mem_drop {l : List Pm.It} {i : Nat} {x : Pm.It} (hx : l[i]? = some x) : x ∈ l.drop i := by
  have hlt := (List.getElem?_eq_some_iff.1 hx).1
  rw [List.drop_eq_getElem_cons hlt]
  have he : l[i] = x := by rw [List.getElem?_eq_getElem hlt] at hx; exact Option.some.inj hx
  rw [he]; exact List.mem_cons_self
theorem drop_sub {l : List Pm.It} {i : Nat} {y : Pm.It} (hy : y ∈ l.drop (i + 1)) : y ∈ l.drop i := by
  rw [← List.drop_drop] at hy
  exact List.mem_of_mem_drop hy
theorem Mp.pack {cs ps : List Pm.It} {i t : Nat} {A : List Pm.It} {x z : Pm.It} (h : Mp cs ps i t A) (hcs : cs.Pairwise fun a b => a.w ≤ b.w) (hps : ps.Pairwise fun a b => a.w ≤ b.w) (hpp : ∀ x ∈ ps, isC x = false)
    (hx : ps[t]? = some x) (hz : cs[i]? = some z) (hlt : x.w < z.w) : Mp cs ps i (t + 1) (A ++ [x]) := by
  have hxc := hpp x (List.mem_of_getElem? hx)
  refine ⟨?_, ?_, up_app h.up fun y hy => h.lp y hy x (get_mem_drop hx), fun a ha y hy => ?_, fun a ha y hy => ?_⟩
  · rw [List.filter_append, h.ci]; simp [hxc]
  · rw [List.filter_append, h.pt, List.take_add_one, hx]; simp [hxc]
  · rcases List.mem_append.1 ha with ha | ha
    · exact h.lc a ha y hy
    · rw [List.mem_singleton.1 ha]; exact Nat.le_trans (Nat.le_of_lt hlt) (drop_le hcs hz y hy)
  · rcases List.mem_append.1 ha with ha | ha
    · exact h.lp a ha y (drop_sub hy)
    · rw [List.mem_singleton.1 ha]; exact drop_le hps hx y (drop_sub hy)
theorem Mp.coin {cs ps : List Pm.It} {i t : Nat} {A : List Pm.It} {z : Pm.It} (h : Mp cs ps i t A) (hcs : cs.Pairwise fun a b => a.w ≤ b.w) (hps : ps.Pairwise fun a b => a.w ≤ b.w) (hcc : ∀ x ∈ cs, isC x = true)
    (hz : cs[i]? = some z) (hge : ∀ x, ps[t]? = some x → z.w ≤ x.w) : Mp cs ps (i + 1) t (A ++ [z]) := by
  have hzc := hcc z (List.mem_of_getElem? hz)
  refine ⟨?_, ?_, up_app h.up fun y hy => h.lc y hy z (get_mem_drop hz), fun a ha y hy => ?_, fun a ha y hy => ?_⟩
  · rw [List.filter_append, h.ci, List.take_add_one, hz]; simp [hzc]
  · rw [List.filter_append, h.pt]; simp [hzc]
  · rcases List.mem_append.1 ha with ha | ha
    · exact h.lc a ha y (drop_sub hy)
    · rw [List.mem_singleton.1 ha]; exact drop_le hcs hz y (drop_sub hy)
  · rcases List.mem_append.1 ha with ha | ha
    · exact h.lp a ha y hy
    · rw [List.mem_singleton.1 ha]
      cases hp : ps[t]? with
      | none => rw [List.drop_of_length_le (List.getElem?_eq_none_iff.1 hp)] at hy; simp at hy
      | some x => exact Nat.le_trans (hge x hp) (drop_le hps hp y hy)
theorem Mp.fin {cs ps : List Pm.It} {t : Nat} {A : List Pm.It} (h : Mp cs ps cs.length t A) (hps : ps.Pairwise fun a b => a.w ≤ b.w) (hpp : ∀ x ∈ ps, isC x = false) : Mg cs ps (A ++ ps.drop t) := by
  have h1 : (ps.drop t).filter isC = [] := List.filter_eq_nil_iff.2 fun x hx => by rw [hpp x (List.mem_of_mem_drop hx)]; simp
  have h2 : (ps.drop t).filter (fun x => !isC x) = ps.drop t := List.filter_eq_self.2 fun x hx => by rw [hpp x (List.mem_of_mem_drop hx)]; rfl
  refine ⟨?_, ?_, ?_⟩
  · rw [List.pairwise_append]
    exact ⟨h.up, hps.sublist (List.drop_sublist _ _), fun a ha b hb => h.lp a ha b hb⟩
  · rw [List.filter_append, h.ci, h1, List.take_length, List.append_nil]
  · rw [List.filter_append, h.pt, h2, List.take_append_drop]
theorem Mp.len {cs ps : List Pm.It} {i t : Nat} {A : List Pm.It} (h : Mp cs ps i t A) : A.length ≤ cs.length + ps.length := by
  have h1 := (filter_perm isC A).length_eq
  rw [List.length_append, h.ci, h.pt, List.length_take, List.length_take] at h1
  omega
end Go.Pm
namespace Go.Proofs.YtdcehmhelfohfaaGreatDoor
open Go Go.Vx Go.So
variable [W0]
set_option maxRecDepth 4000
set_option linter.all false
omit [W0] in
/-- What is left of a list of packages. -/
def PsV (ps : List Pm.It) (Cp : Chunk) (v : Value) (t : Nat) : Prop := (ps.length ≤ t ∧ ∃ a c, v = .slice a 0 c) ∨
  (t < ps.length ∧ ∃ bp cp rp, v = .slice (some ⟨bp, t * 2, none⟩) (ps.length - t) (cp - t) ∧ ps.length ≤ cp ∧ Cp = [(bp, cl (itvs ps ++ rp) 238)])
theorem PsV.new {ps : List Pm.It} {Cp : Chunk} {v : Value} (h : Ow 238 2 v ps.length (itvs ps) Cp) : PsV ps Cp v 0 := by
  rcases h with ⟨rfl, h1, _⟩ | ⟨b, cap, rest, rfl, rfl, _, _, hmc, _⟩
  · exact .inl ⟨by omega, _, _, rfl⟩
  · rcases Nat.eq_zero_or_pos ps.length with h0 | h0
    · rw [h0]; exact .inl ⟨by omega, _, _, rfl⟩
    · exact .inr ⟨h0, b, cap, rest, by simp, hmc, rfl⟩
theorem itvs_drop (l : List Pm.It) (t : Nat) : itvs (l.drop t) = (itvs l).drop (t * 2) := by
  conv => rhs; rw [← List.take_append_drop t l, itvs_app]
  rcases Nat.lt_or_ge t l.length with h | h
  · have e : (itvs (l.take t)).length = t * 2 := by rw [itvs_length, List.length_take]; omega
    rw [← e, List.drop_left]
  · have e : (itvs (l.take t)).length ≤ t * 2 := by rw [itvs_length, List.length_take]; omega
    rw [List.drop_of_length_le h]
    show [] = _
    rw [show itvs ([] : List Pm.It) = [] from rfl, List.append_nil, List.drop_of_length_le e]
theorem PsV.sl {ps : List Pm.It} {Cp : Chunk} {v : Value} {t : Nat} {L : List Chunk} (h : PsV ps Cp v t) (hL : ∀ x ∈ Cp, x ∈ L.flatten) : Sl L 2 v (ps.drop t).length (itvs (ps.drop t)) := by
  rcases h with ⟨h1, a, c, rfl⟩ | ⟨h1, bp, cp, rp, rfl, h2, rfl⟩
  · rw [List.drop_of_length_le h1]
    cases a with
    | none => exact .inl ⟨c, rfl, rfl, rfl⟩
    | some a => exact .inr ⟨a, c, rfl, .inl rfl, rfl⟩
  · refine .inr ⟨⟨bp, t * 2, none⟩, cp - t, by rw [List.length_drop], ?_, itvs_length _⟩
    refine .inr ⟨bp, t * 2, _, _, (0, 0), rfl, hL (bp, _) (by simp; rfl), fun j u hj => ?_⟩
    rw [itvs_drop, List.getElem?_drop] at hj
    rw [List.getElem?_toArray, List.getElem?_append_left (List.getElem?_eq_some_iff.1 hj).1]
    exact hj
end Go.Proofs.YtdcehmhelfohfaaGreatDoor
