/- DeflateBack returns true and leaves its arguments as they were, for every argument; the table that the program reads is tied to its text (the card). No conditions beyond the row's. -/
import Derived.Test.YtdcehmhelfohfaaGreatDoorQB5
namespace Go.Proofs.YtdcehmhelfohfaaGreatDoor
open Go Go.Vx Go.Hf Go.If Go.Df
variable [W0]
set_option maxRecDepth 4000
set_option linter.all false
theorem stF_end (bb : List UInt8) (i : Nat) (hi : i ≤ bb.length) (h : bb.length - i ≤ 65535) : BlC bb i [.st (bb.drop i)] bb.length :=
  ⟨bb.length, hi, Nat.le_refl _, ⟨by rw [List.take_of_length_le (by rw [List.length_drop]; exact Nat.le_refl _)], h⟩, rfl⟩
theorem stF_c (bb : List UInt8) : ∀ (f i : Nat), i ≤ bb.length → bb.length - i ≤ f → BlC bb i (stF f (bb.drop i)) bb.length ∧ (stF f (bb.drop i)).length * 65535 ≤ (bb.length - i) + 65535 ∧ 0 < (stF f (bb.drop i)).length
  | 0, i, hi, h => ⟨stF_end bb i hi (by omega), by simp [stF], by simp [stF]⟩
  | f + 1, i, hi, h => by
    by_cases hc9 : 65535 < (bb.drop i).length
    · rw [stF, if_pos hc9]
      rw [List.length_drop] at hc9
      rw [List.drop_drop]
      obtain ⟨g1, g2, g3⟩ := stF_c bb f (i + 65535) (by omega) (by omega)
      refine ⟨⟨i + 65535, by omega, by omega, ⟨by rw [show i + 65535 - i = 65535 from by omega], by omega⟩, g1⟩, ?_, by simp⟩
      rw [List.length_cons, Nat.succ_mul]
      refine Nat.le_trans (Nat.add_le_add_right g2 65535) ?_
      omega
    · rw [stF_stop hc9]
      rw [List.length_drop] at hc9
      exact ⟨stF_end bb i hi (by omega), by simp, by simp⟩
theorem stB_c (b : List UInt8) (hb : b.length ≤ 200000) : BlC b 0 (stB b) b.length ∧ (stB b).length ≤ 4 ∧ 0 < (stB b).length := by
  obtain ⟨g1, g2, g3⟩ := stF_c b b.length 0 (Nat.zero_le _) (by omega)
  rw [List.drop_zero] at g1 g2 g3
  refine ⟨g1, ?_, g3⟩
  unfold stB
  generalize (stF b.length b).length = n at *
  rcases Nat.lt_or_ge 4 n with h | h
  · have : 5 * 65535 ≤ n * 65535 := Nat.mul_le_mul_right 65535 h
    omega
  · exact h
theorem holds_flat {w : World} {CS L : List Chunk} : Holds w (CS.flatten :: L) ↔ Holds w (CS ++ L) := by
  simp [Holds, List.flatten_append]
omit [W0] in
theorem flat_mem {A CS S : List Chunk} (h : ∀ x ∈ A.flatten, x ∈ (CS ++ S).flatten) : ∀ x ∈ A.flatten, x ∈ (CS.flatten :: S).flatten := fun x hx => by
  have := h x hx
  rwa [List.flatten_append] at this
theorem BlsO.len {L : List Chunk} {v : Value} {bs : List Blk} {C : Chunk} (h : BlsO L v bs C) : bs.length ≤ 9223372036854775807 := by
  obtain ⟨vs, h1, _⟩ := h.ex
  rcases h1 with ⟨_, h0, _⟩ | ⟨_, cap, _, _, _, _, _, h1, h2⟩
  · omega
  · unfold maxLen at h2; omega
set_option maxHeartbeats 8000000 in
theorem blocksOf_n (v : Value) (level : Int) (b : List UInt8) (S L : List Chunk) (hi : Inc S L) (ht : Rs S 1 v b.length (bsv b)) (hb : b.length ≤ 200000) (hor : OrAt L) :
    Gv Tryz.prog 15 [v, .int .i64 level].toArray L (fun r L' => ∃ bs C, BlsR (C :: S) r bs ∧ 0 < bs.length ∧ bs.length ≤ 4 ∧ BlC b 0 bs b.length ∧ (1 < level → szB 0 bs ≤ szB 0 (stB b) ∧ szB 0 bs ≤ szB 0 [.fx (pcT b)]) ∧ L' = C :: L) := by
  refine Gv.of_body (args := [v, .int .i64 level]) Tryz.func15 rfl rfl ?_
  have hst := stB_c b hb
  (repeat' first|refine kW ?_|refine kU fun bk=>?_|refine kV fun hc=>?_|refine kZ (fun hc=>?_) fun hc=>?_|fail)
  · refine OW_call rfl rfl rfl (storedOf_n v b S _ ht hb) rfl (fun r L' hp => ?_)
    obtain ⟨C, hbo, rfl⟩ := hp
    (repeat' first|refine kW ?_|refine kU fun bk=>?_|refine kV fun hc=>?_|refine kZ (fun hc=>?_) fun hc=>?_|fail)
    refine kR ?_
    exact ⟨_, iC, stB b, C, hbo.r, hst.2.2, hst.2.1, hst.1, fun h => absurd h (by omega), rfl⟩
  · refine OW_call rfl rfl rfl (pieceOf_n v b S _ hi ht hb) rfl (fun r L' hp => ?_)
    obtain ⟨vt, Cp, rfl, hpc, rfl⟩ := hp
    obtain ⟨va, vc, rfl, _⟩ := hpc.x.room
    obtain ⟨ta, tc, rfl, _⟩ := hpc.t.rs.room
    (repeat' first|refine kW ?_|refine kU fun bk=>?_|refine kV fun hc=>?_|refine kZ (fun hc=>?_) fun hc=>?_|fail)
    refine OW_call rfl rfl rfl (fixedOf_n (.slice va b.length vc) (.slice ta (pcT b).length tc) b (pcT b) (Cp :: S) _ (Inc.cons (by repeat (first | exact Take.here | apply Take.there)) (by repeat (first | exact hi | refine Inc.skip ?_))) hpc) rfl (fun r L' hp => ?_)
    obtain ⟨v1, v2, v3, v4, Cf, rfl, hcf, rfl⟩ := hp
    (repeat' first|refine kW ?_|refine kU fun bk=>?_|refine kV fun hc=>?_|refine kZ (fun hc=>?_) fun hc=>?_|fail)
    refine OW_buildSlice (cs := [Value.iface 91 (.agg (cdV (.slice ta (pcT b).length tc) v1 v2 v3 v4 (itL (coI fxL fxD (pcT b)))).toArray)]) rfl (by rfl) (by first | (simp [fillL, patch, Value.cells, zeros]; done) | (simp [fillL, patch, Value.cells, zeros]; rfl)) (by omega) rfl rfl (fun bn => ?_)
    refine jA ?_
    have hfb : BlkR (Cf :: Cp :: S) (Value.iface 91 (.agg (cdV (.slice ta (pcT b).length tc) v1 v2 v3 v4 (itL (coI fxL fxD (pcT b)))).toArray)) (.fx (pcT b)) := ⟨_, _, _, _, _, rfl, hcf⟩
    have how : BlsO (Cf :: Cp :: S) (.slice (some ⟨bn, 0, none⟩) 1 1) [.fx (pcT b)] [(bn, cl [Value.iface 91 (.agg (cdV (.slice ta (pcT b).length tc) v1 v2 v3 v4 (itL (coI fxL fxD (pcT b)))).toArray)] 76)] :=
      ⟨_, .inr ⟨bn, 1, [], rfl, by rw [List.append_nil], rfl, rfl, Nat.le_refl _, by simp [maxLen]⟩, rfl, fun i B hiB => by
        match i, hiB with
        | 0, hiB => injection hiB with hiB; subst hiB; exact ⟨_, rfl, hfb⟩
        | i + 1, hiB => simp at hiB⟩
    generalize hfx : Value.iface 91 (.agg (cdV (.slice ta (pcT b).length tc) v1 v2 v3 v4 (itL (coI fxL fxD (pcT b)))).toArray) = fx at *
    (repeat' first|refine kW ?_|refine kU fun bk=>?_|refine kV fun hc=>?_|refine kZ (fun hc=>?_) fun hc=>?_|fail)
    · have hl1 : level = 1 := by simpa using hc
      first | refine WQ_retH rfl rfl ?_ | refine WQ_endH rfl rfl ?_
      obtain ⟨bc, hbc⟩ : ∃ x, x = ([(bn, cl [fx] 76)] : Chunk) := ⟨_, rfl⟩
      rw [← hbc] at how ⊢
      refine ⟨[bc, Cf, Cp].flatten :: L, fun w h => ?_, ?_⟩
      · exact holds_flat.2 (iH h : Holds w (bc :: Cf :: Cp :: L))
      exact ⟨[.fx (pcT b)], [bc, Cf, Cp].flatten, how.r.sub (flat_mem fun x hx => hx), by simp, by simp, ⟨b.length, Nat.zero_le _, Nat.le_refl _, pcT_tks b, rfl⟩, fun h => absurd h (by omega), rfl⟩
    · refine OW_call rfl rfl rfl (mixed_n (.slice va b.length vc) (.slice ta (pcT b).length tc) b (pcT b) (Cp :: S) _ (Inc.cons (by repeat (first | exact Take.here | apply Take.there)) (by repeat (first | exact hi | refine Inc.skip ?_))) hpc (pcT_tks b) (by repeat (first | exact hor | apply OrAt.there))) rfl (fun r L' hp => ?_)
      obtain ⟨bsm, Cm, Tm, hbm, hm0, hm4, hmc, rfl⟩ := hp
      (repeat' first|refine kW ?_|refine kU fun bk=>?_|refine kV fun hc=>?_|refine kZ (fun hc=>?_) fun hc=>?_|fail)
      refine OW_call rfl rfl rfl (storedOf_n (.slice va b.length vc) b S _ ht hb) rfl (fun r2 L' hp => ?_)
      obtain ⟨Cs, hbs, rfl⟩ := hp
      obtain ⟨vm, hvm1, hvm2⟩ := hbm.ex
      obtain ⟨ma, mc, rfl⟩ := ow_slc hvm1
      obtain ⟨vst, hvs1, hvs2⟩ := hbs.ex
      obtain ⟨sa, sc9, rfl⟩ := ow_slc hvs1
      (repeat' first|refine kW ?_|refine kU fun bk=>?_|refine kV fun hc=>?_|refine kZ (fun hc=>?_) fun hc=>?_|fail)
      refine OW_buildSlice (cs := [.slice ma bsm.length mc, .slice (some ⟨bn, 0, none⟩) 1 1, .slice sa (stB b).length sc9]) rfl (by rfl) (by first | (simp [fillL, patch, Value.cells, zeros]; done) | (simp [fillL, patch, Value.cells, zeros]; rfl)) (by omega) rfl rfl (fun b3 => ?_)
      refine jA ?_
      obtain ⟨bc, hbc⟩ : ∃ x, x = ([(bn, cl [fx] 76)] : Chunk) := ⟨_, rfl⟩
      rw [← hbc] at how ⊢
      have hu : Ow 39 1 (.slice (some ⟨b3, 0, none⟩) 3 3) 3 [.slice ma bsm.length mc, .slice (some ⟨bn, 0, none⟩) 1 1, .slice sa (stB b).length sc9] [(b3, cl [.slice ma bsm.length mc, .slice (some ⟨bn, 0, none⟩) 1 1, .slice sa (stB b).length sc9] 39)] := .inr ⟨b3, 3, [], rfl, by rw [List.append_nil], rfl, rfl, Nat.le_refl _, by simp [maxLen]⟩
      have hall : ∀ H, (∀ x ∈ (Cm :: Tm :: Cp :: S).flatten, x ∈ H.flatten) → (∀ x ∈ (bc :: Cf :: Cp :: S).flatten, x ∈ H.flatten) → (∀ x ∈ (Cs :: S).flatten, x ∈ H.flatten) → ∀ (i : Nat) (u : Value), [Value.slice ma bsm.length mc, .slice (some ⟨bn, 0, none⟩) 1 1, .slice sa (stB b).length sc9][i]? = some u → BlsR H u ([bsm, [.fx (pcT b)], stB b].getD i []) ∧ ([bsm, [.fx (pcT b)], stB b].getD i []).length ≤ 90000 ∧ ([bsm, [.fx (pcT b)], stB b].getD i []).length ≤ 4 ∧ 0 < ([bsm, [.fx (pcT b)], stB b].getD i []).length ∧ BlC b 0 ([bsm, [.fx (pcT b)], stB b].getD i []) b.length := fun H h1 h2 h3 i u hiu => by
        match i, hiu with
        | 0, hiu => injection hiu with hiu; subst hiu; exact ⟨hbm.r.sub h1, Nat.le_trans hm4 (by decide), hm4, hm0, hmc⟩
        | 1, hiu => injection hiu with hiu; subst hiu; exact ⟨how.r.sub h2, (show (1 : Nat) ≤ 90000 from by decide), (show (1 : Nat) ≤ 4 from by decide), (show (0 : Nat) < 1 from by decide), b.length, Nat.zero_le _, Nat.le_refl _, pcT_tks b, rfl⟩
        | 2, hiu => injection hiu with hiu; subst hiu; exact ⟨hbs.r.sub h3, Nat.le_trans hst.2.1 (by decide), hst.2.1, hst.2.2, hst.1⟩
        | i + 3, hiu => simp at hiu
      refine OW_call rfl rfl rfl (shortest_n _ [.slice ma bsm.length mc, .slice (some ⟨bn, 0, none⟩) 1 1, .slice sa (stB b).length sc9] [bsm, [.fx (pcT b)], stB b] _ ((Rs.ow (L := []) hu).sub iM) (show (0 : Nat) < 3 from by decide) (show (3 : Nat) ≤ 1000000 from by decide) rfl (fun i u hiu => by
        refine ⟨(hall _ ?_ ?_ ?_ i u hiu).1, (hall (Cm :: Tm :: Cs :: bc :: Cf :: Cp :: S) iM iM iM i u hiu).2.1⟩
        · exact Inc.mem (Inc.cons (by repeat (first | exact Take.here | apply Take.there)) (Inc.cons (by repeat (first | exact Take.here | apply Take.there)) (Inc.cons (by repeat (first | exact Take.here | apply Take.there)) (by repeat (first | exact hi | refine Inc.skip ?_)))))
        · exact Inc.mem (Inc.cons (by repeat (first | exact Take.here | apply Take.there)) (Inc.cons (by repeat (first | exact Take.here | apply Take.there)) (Inc.cons (by repeat (first | exact Take.here | apply Take.there)) (by repeat (first | exact hi | refine Inc.skip ?_)))))
        · exact Inc.mem (Inc.cons (by repeat (first | exact Take.here | apply Take.there)) (by repeat (first | exact hi | refine Inc.skip ?_))))) rfl (fun r L' hp => ?_)
      obtain ⟨i9, hi9, hle9, rfl⟩ := hp
      have hfin := hall ([Cm, Tm, Cs, bc, Cf, Cp].flatten :: S) (flat_mem (S := S) (A := Cm :: Tm :: Cp :: S) (CS := [Cm, Tm, Cs, bc, Cf, Cp]) (show ∀ x ∈ (Cm :: Tm :: Cp :: S).flatten, x ∈ (Cm :: Tm :: Cs :: bc :: Cf :: Cp :: S).flatten from iM)) (flat_mem (S := S) (A := bc :: Cf :: Cp :: S) (CS := [Cm, Tm, Cs, bc, Cf, Cp]) (show ∀ x ∈ (bc :: Cf :: Cp :: S).flatten, x ∈ (Cm :: Tm :: Cs :: bc :: Cf :: Cp :: S).flatten from iM)) (flat_mem (S := S) (A := Cs :: S) (CS := [Cm, Tm, Cs, bc, Cf, Cp]) (show ∀ x ∈ (Cs :: S).flatten, x ∈ (Cm :: Tm :: Cs :: bc :: Cf :: Cp :: S).flatten from iM)) i9 r hi9
      have hs0 := hle9 1 (show (1 : Nat) < 3 from by decide)
      have hs1 := hle9 2 (show (2 : Nat) < 3 from by decide)
      (repeat' first|refine kW ?_|refine kU fun bk=>?_|refine kV fun hc=>?_|refine kZ (fun hc=>?_) fun hc=>?_|fail)
      first | refine WQ_retH rfl rfl ?_ | refine WQ_endH rfl rfl ?_
      refine ⟨[Cm, Tm, Cs, bc, Cf, Cp].flatten :: L, fun w h => ?_, ?_⟩
      · exact holds_flat.2 (iH h : Holds w (Cm :: Tm :: Cs :: bc :: Cf :: Cp :: L))
      exact ⟨_, _, hfin.1, hfin.2.2.2.1, hfin.2.2.1, hfin.2.2.2.2, fun _ => ⟨hs1, hs0⟩, rfl⟩
end Go.Proofs.YtdcehmhelfohfaaGreatDoor
namespace Go.Proofs.YtdcehmhelfohfaaGreatDoor
open Go Go.Vx Go.Hf Go.If Go.Df
variable [W0]
set_option maxRecDepth 4000
set_option linter.all false
def RwO (b : List UInt8) (level : Int) (o : List UInt8) : Prop := ∃ x q, o = wrB x q ∧ x.length ≤ 3 ∧ BlC b 0 (x ++ [q]) b.length ∧ itL (wrI x q) ≤ 100000000 ∧ (1 < level → szB 0 (x ++ [q]) ≤ szB 0 (stB b) ∧ szB 0 (x ++ [q]) ≤ szB 0 [.fx (pcT b)])
theorem bsI_sz : ∀ (x : List Blk) (a : List (Nat × Nat)), itL (bsI a x) = szB (itL a) x
  | [], a => rfl
  | B :: x, a => by
    rw [bsI, bsI_sz x, itL_app, itL_app]
    rfl
theorem wrI_sz (x : List Blk) (q : Blk) : itL (wrI x q) = szB 0 (x ++ [q]) := by
  unfold wrI
  rw [szB_app, itL_app, itL_app, bsI_sz]
  rfl
theorem rawA_n (v : Value) (level : Int) (b : List UInt8) (L : List Chunk) (ht : Rs L 1 v b.length (bsv b)) (hb : b.length ≤ 200000) (hor : OrAt L) :
    Gv Tryz.prog 8 [v, .int .i64 level].toArray L (fun r L' => ∃ C o, RwO b level o ∧ o.length ≤ 1000000000 ∧ Ow 5 1 r o.length (bsv o) C ∧ L' = C :: L) := by
  refine Gv.of_body (args := [v, .int .i64 level]) Tryz.func8 rfl rfl ?_
  (repeat' first|refine kW ?_|refine kU fun bk=>?_|refine kV fun hc=>?_|refine kZ (fun hc=>?_) fun hc=>?_|fail)
  refine OW_call rfl rfl rfl (blocksOf_n v level b L _ Inc.refl ht hb hor) rfl (fun r L' hp => ?_)
  obtain ⟨bs, C, hbl, h0, h4, hc9, hs, rfl⟩ := hp
  obtain ⟨x, q, rfl⟩ : ∃ x q, bs = x ++ [q] := by
    have hne : bs ≠ [] := fun h => by subst h; simp at h0
    exact ⟨bs.dropLast, bs.getLast hne, (List.dropLast_concat_getLast hne).symm⟩
  rw [List.length_append, List.length_singleton] at h4
  have hsz := szB_le hbl (x ++ [q]).length (Nat.le_refl _)
  rw [List.take_length, ← wrI_sz, List.length_append, List.length_singleton] at hsz
  have hsz2 : itL (wrI x q) ≤ 100000000 := by omega
  (repeat' first|refine kW ?_|refine kU fun bk=>?_|refine kV fun hc=>?_|refine kZ (fun hc=>?_) fun hc=>?_|fail)
  refine OW_call rfl rfl rfl (written_n r x q _ hbl (by omega)) rfl (fun r2 L' hp => ?_)
  obtain ⟨C2, ho, rfl⟩ := hp
  have hlen : (wrB x q).length = (itL (wrI x q) + 7) / 8 := leB_length _ _
  (repeat' first|refine kW ?_|refine kU fun bk=>?_|refine kV fun hc=>?_|refine kZ (fun hc=>?_) fun hc=>?_|fail)
  refine kR ?_
  exact ⟨_, iC, C2, wrB x q, ⟨x, q, rfl, by omega, hc9, hsz2, hs⟩, by omega, by rw [hlen]; exact ho, rfl⟩
theorem zlibA_n (v : Value) (level : Int) (b : List UInt8) (L : List Chunk) (ht : Rs L 1 v b.length (bsv b)) (hb : b.length ≤ 200000) (hor : OrAt L) :
    Gv Tryz.prog 12 [v, .int .i64 level].toArray L (fun r L' => ∃ C o, RwO b level o ∧ o.length ≤ 1000000000 ∧ Ow 5 1 r (2 + o.length + 4) (bsv ([120, flB level] ++ o ++ be4 (adlV (adlN (1#32, 0#32) b)).toNat)) C ∧ L' = C :: L) := by
  exact zlib_n v level b [] L (RwO b level) OrAt (fun _ _ h => h.there) hor ht hb (fun L' hR hT => rawA_n v level b L' hT hb hR)
end Go.Proofs.YtdcehmhelfohfaaGreatDoor
namespace Go.Df
open Go.Vx Go.If Go.Hf
set_option linter.all false
theorem Tks.ok {b : List UInt8} : ∀ {ts : List (Nat × Nat)} {i j : Nat}, Tks b i ts j → ∀ t ∈ ts, TkOk t
  | [], _, _, _, t, ht => by cases ht
  | u :: r, i, j, h, t, ht => by
    rcases List.mem_cons.1 ht with rfl | ht
    · exact h.1
    · exact Tks.ok h.2.2.2.2 t ht
theorem it_app {a a' c c' : List (Nat × Nat)} (h1 : itV a = itV a' ∧ itL a = itL a') (h2 : itV c = itV c' ∧ itL c = itL c') : itV (a ++ c) = itV (a' ++ c') ∧ itL (a ++ c) = itL (a' ++ c') := by
  rw [itV_app, itV_app, itL_app, itL_app, h1.1, h1.2, h2.1, h2.2]
  exact ⟨rfl, rfl⟩
theorem Bi.two {d : List UInt8} {t h ty : Nat} {a : List (Nat × Nat)} (hb : Bi d t ((h, 1) :: (ty, 2) :: a)) : Bi d t ((h + 2 * ty, 3) :: a) := by
  have e1 : itV ((h + 2 * ty, 3) :: a) = itV ((h, 1) :: (ty, 2) :: a) := by
    simp only [itV]
    omega
  have e2 : itL ((h + 2 * ty, 3) :: a) = itL ((h, 1) :: (ty, 2) :: a) := by
    simp only [itL]
    omega
  unfold Bi
  rw [e1, e2]
  exact hb
theorem fx_pos {t : Nat × Nat} (h : TkOk t) : 0 < fxL.getD (tsy t) 0 ∧ (t.2 ≠ 0 → 0 < fxD.getD (odN t.2) 0) := by
  have hl : ∀ i, i < 286 → 0 < fxL.getD i 0 := by decide +kernel
  have hd : ∀ i, i < 30 → 0 < fxD.getD i 0 := by decide +kernel
  refine ⟨hl _ (tsy_lt h).1, fun h0 => hd _ ?_⟩
  rcases h with ⟨g1, _⟩ | ⟨g1, g2, _⟩
  · exact absurd g1 h0
  · exact Nat.lt_succ_of_le (odN_ok g1 g2).1
end Go.Df
namespace Go.Proofs.YtdcehmhelfohfaaGreatDoor
open Go Go.Vx Go.Hf Go.If Go.Df
variable [W0]
set_option linter.all false
theorem DnF.eq {k : List (Nat × Nat)} {l dl own o : List Nat} {n1 n2 : Nat} {rs : List (Nat × Nat)} (h : DnF k l dl n1 n2 o own rs) :
    itV (hwI n1 n2 o own rs ++ coI l dl k) = itV (hdI own n1 n2 (o.length - 4) (rs.map rlOf) ++ (tsI (l.take n1) (dl.take n2) (k.map tok) ++ [sc (l.take n1) 256])) ∧ itL (hwI n1 n2 o own rs ++ coI l dl k) = itL (hdI own n1 n2 (o.length - 4) (rs.map rlOf) ++ (tsI (l.take n1) (dl.take n2) (k.map tok) ++ [sc (l.take n1) 256])) := by
  have hs1 := sc_trim h.n1z
  have hs2 := sc_trim h.n2z
  rw [tsI_congr hs1 hs2, hs1]
  obtain ⟨r1, r2⟩ := rnI_eq (own := own) h.ro
  have ho : 4 + (o.length - 4) = o.length := by have := h.o4; omega
  have e : hwI n1 n2 o own rs = ((n1 - 257, 5) :: (n2 - 1, 5) :: ((o.length - 4, 4) :: owI own (4 + (o.length - 4)) 0)) ++ rnI own rs := by
    rw [ho, ← h.oo]
    rfl
  unfold hdI coI
  rw [e]
  exact it_app (it_app ⟨rfl, rfl⟩ ⟨r1, r2⟩) ⟨rfl, rfl⟩
theorem dn_blk {d b : List UInt8} {most i j : Nat} {k : List (Nat × Nat)} {l dl own o : List Nat} {n1 n2 : Nat} {rs : List (Nat × Nat)} {s : S6} (hf : DnF k l dl n1 n2 o own rs) (hk : Tks b i k j) (hi : i ≤ b.length) (he : s.e = 0) (ho : s.out = b.take i) (hm : b.length ≤ most)
    (h : Bi d s.t (hwI n1 n2 o own rs ++ coI l dl k)) : bkS d most 2 s = ⟨s.t + itL (hwI n1 n2 o own rs ++ coI l dl k), b.take j, 0⟩ := by
  have hjb := hk.le.2 hi
  obtain ⟨e1, e2⟩ := hf.eq
  unfold Bi at h
  rw [e1, e2] at h
  rw [e2]
  have hn1 := hf.n1b
  have hw := hf.w
  have hll := hf.ll
  have hdll := hf.dll
  have hn2 := hf.n2b
  have ht1 : (rsW (rs.map rlOf) []).take n1 = l.take n1 := by
    rw [hw, List.take_append_of_le_length (by rw [List.length_take]; omega), List.take_take, Nat.min_self]
  have ht2 : (rsW (rs.map rlOf) []).drop n1 = dl.take n2 := by
    rw [hw, List.drop_append_of_le_length (by rw [List.length_take]; omega), List.drop_eq_nil_of_le (by rw [List.length_take]; omega), List.nil_append]
  obtain ⟨k1, k2⟩ := tks_ok (l := l.take n1) (dl := dl.take n2) hk (fun t ht => by
    rw [getD_trim hf.n1z, getD_trim hf.n2z]
    exact hf.pl t ht)
  have hil : (b.take i).length = i := by rw [List.length_take]; omega
  have hb : Bi d s.t (hdI own n1 n2 (o.length - 4) (rs.map rlOf) ++ (tsI (l.take n1) (dl.take n2) (k.map tok) ++ [sc (l.take n1) 256])) := h
  have hge := tsI_ge k1
  have hbl := hb.len
  rw [itL_app, itL_app] at hbl
  have := dn_at (most := most) hf.hd ht1 ht2 (fun x hx => hf.h15 x (by rwa [hw] at hx)) he (by omega) (by rw [ho, hil]; exact k1) (by rw [ho, hil]; omega) hb
  rw [this, ho, tks_W hi hk]
theorem blk_at {d b : List UInt8} {most i j f hd : Nat} {B : Blk} {s : S6} (hB : BlO b i j B) (hij : i ≤ j) (hj : j ≤ b.length) (he : s.e = 0) (ho : s.out = b.take i) (hm : b.length ≤ most) (hd1 : hd ≤ 1)
    (h : Bi d s.t ((hd, 1) :: blI (s.t + 1) B)) :
    rwS d most (f + 1) s = if hd = 1 then ⟨s.t + 1 + itL (blI (s.t + 1) B), b.take j, 0⟩ else rwS d most f ⟨s.t + 1 + itL (blI (s.t + 1) B), b.take j, 0⟩ := by
  have hil : (b.take i).length = i := by rw [List.length_take]; omega
  cases B with
  | st t =>
    obtain ⟨hB, hf⟩ := hB
    have htl : t.length = j - i := by rw [hB, List.length_take, List.length_drop]; omega
    have h2 := Bi.two (ty := 0) h
    obtain ⟨h3, h4⟩ := Bi.cons h2 (show hd + 2 * 0 < 2 ^ 3 by omega)
    obtain ⟨_, h6⟩ := Bi.cons h4 (Nat.pow_pos (by decide))
    have hL : itL (blI (s.t + 1) (.st t)) = 2 + (8 * ((s.t + 1 + 2 + 7) / 8) - (s.t + 1 + 2)) + 32 + 8 * t.length := by
      simp only [blI]
      rw [itL_app, raI_L]
      simp only [itL]
      omega
    have ha : s.t + 3 + (8 * ((s.t + 1 + 2 + 7) / 8) - (s.t + 1 + 2)) = 8 * ((s.t + 3 + 7) / 8) := by omega
    rw [show (hd + 2 * 0, 3).2 = 3 from rfl] at h6
    have hp := st_at (d := d) (p := t) (most := most) (a := 8 * ((s.t + 3 + 7) / 8)) (s := ⟨s.t + 3, s.out, 0⟩) rfl rfl (by omega) (by simp only; rw [ho, hil]; omega) (by
      rw [← ha]
      have h7 : Bi d (s.t + 3 + (8 * ((s.t + 1 + 2 + 7) / 8) - (s.t + 1 + 2))) ([(t.length, 16), (65535 - t.length, 16)] ++ raI t) := h6
      unfold Bi at h7
      rw [itV_app, itL_app, raI_V, raI_L] at h7
      simp only [itV, itL] at h7
      have e1 : t.length + 2 ^ 16 * (65535 - t.length + 2 ^ 16 * val t) = t.length + 2 ^ 16 * (65535 - t.length + 2 ^ 16 * 0) + 2 ^ (16 + (16 + 0)) * val t := by
        rw [Nat.mul_add, Nat.mul_add, ← Nat.mul_assoc, ← Nat.pow_add]; omega
      rw [e1, show 16 + (16 + 8 * t.length) = 16 + (16 + 0) + 8 * t.length from by omega]
      exact h7)
    rw [rw_at (ty := 0) he hd1 (by decide) h3 hp rfl]
    have e9 : s.out ++ t = b.take j := by
      rw [ho, hB, show j = i + (j - i) from by omega, List.take_add]
      simp
    rw [e9, hL, show 8 * ((s.t + 3 + 7) / 8) + 32 + 8 * t.length = s.t + 1 + (2 + (8 * ((s.t + 1 + 2 + 7) / 8) - (s.t + 1 + 2)) + 32 + 8 * t.length) from by omega]
  | fx k =>
    have hk : Tks b i k j := hB
    have h2 := Bi.two (ty := 1) h
    obtain ⟨h3, h4⟩ := Bi.cons h2 (show hd + 2 * 1 < 2 ^ 3 by omega)
    obtain ⟨k1, k2⟩ := tks_ok (l := fxL) (dl := fxD) hk (fun t ht => fx_pos (hk.ok t ht))
    have hge := tsI_ge k1
    have hbl := Bi.len h4
    rw [itL_app] at hbl
    have hp := fx_at (d := d) (most := most) (ts := k.map tok) (s := ⟨s.t + 3, s.out, 0⟩) rfl (by omega) (by simp only; rw [ho, hil]; exact k1) (by simp only; rw [ho, hil]; omega) h4
    rw [rw_at (ty := 1) he hd1 (by decide) h3 hp rfl]
    simp only
    rw [ho, tks_W (by omega) hk, show s.t + 1 + itL (blI (s.t + 1) (.fx k)) = s.t + 3 + itL (tsI fxL fxD (k.map tok) ++ [sc fxL 256]) from by simp only [blI, itL]; omega]
  | dn k l dl n1 n2 o own rs =>
    obtain ⟨hk, hne, h1, h2, h3, rfl, rfl, rfl, rfl⟩ := hB
    have hF := dn_facts hk.ok hne h1 h2 h3
    generalize trN l 257 l.length = n1 at *
    generalize trN dl 1 dl.length = n2 at *
    generalize (orN own).take (trN (orN own) 4 19) = o at *
    generalize rnS (hdL l dl) = rs at *
    have h4 := Bi.two (ty := 2) h
    obtain ⟨h5, h6⟩ := Bi.cons h4 (show hd + 2 * 2 < 2 ^ 3 by omega)
    have hp := dn_blk (most := most) (s := ⟨s.t + 3, s.out, 0⟩) hF hk (by omega) rfl ho hm h6
    rw [rw_at (ty := 2) he hd1 (by decide) h5 hp rfl]
    simp only
    rw [show s.t + 1 + itL (blI (s.t + 1) (.dn k l dl n1 n2 o own rs)) = s.t + 3 + itL (hwI n1 n2 o own rs ++ coI l dl k) from by simp only [blI, itL, coI]; omega]
end Go.Proofs.YtdcehmhelfohfaaGreatDoor
namespace Go.Df
open Go.Vx Go.If Go.Hf
set_option linter.all false
def chI [W0] : Nat → List Blk → List (Nat × Nat)
  | _, [] => []
  | n, B :: r => ((0, 1) :: blI (n + 1) B) ++ chI (n + 1 + itL (blI (n + 1) B)) r
theorem bsI_ch [W0] : ∀ (x : List Blk) (a : List (Nat × Nat)), bsI a x = a ++ chI (itL a) x
  | [], a => by rw [bsI, chI, List.append_nil]
  | B :: r, a => by
    rw [bsI, bsI_ch r, chI]
    have e : itL (a ++ [(0, 1)] ++ blI (itL a + 1) B) = itL a + 1 + itL (blI (itL a + 1) B) := by
      rw [itL_app, itL_app]; rfl
    rw [e]
    simp [List.append_assoc]
theorem wrI_ch [W0] (x : List Blk) (q : Blk) : wrI x q = chI 0 x ++ ((1, 1) :: blI (itL (chI 0 x) + 1) q) := by
  unfold wrI
  rw [bsI_ch]
  simp only [List.nil_append, show itL ([] : List (Nat × Nat)) = 0 from rfl]
  rw [List.append_assoc]
  rfl
end Go.Df
namespace Go.Proofs.YtdcehmhelfohfaaGreatDoor
open Go Go.Vx Go.Hf Go.If Go.Df
variable [W0]
set_option linter.all false
theorem tsI_lt' {l dl : List Nat} {b : List UInt8} {k : List (Nat × Nat)} {i j : Nat} (hk : Tks b i k j) (hp : ∀ t ∈ k, 0 < l.getD (tsy t) 0 ∧ (t.2 ≠ 0 → 0 < dl.getD (odN t.2) 0)) : ∀ x ∈ coI l dl k, x.1 < 2 ^ x.2 := fun x hx => by
  rcases List.mem_append.1 hx with hx | hx
  · exact tsI_lt (tks_ok hk hp).1 x hx
  · rw [List.mem_singleton.1 hx]; exact sc_lt _ _
theorem rnI_lt {own : List Nat} : ∀ {rs : List (Nat × Nat)}, (∀ r ∈ rs, RnOk r) → ∀ x ∈ rnI own rs, x.1 < 2 ^ x.2
  | [], _, x, hx => by cases hx
  | r :: q, h, x, hx => by
    rw [rnI] at hx
    rcases List.mem_cons.1 hx with rfl | hx
    · exact sc_lt _ _
    rcases List.mem_cons.1 hx with rfl | hx
    · exact (h r List.mem_cons_self).2
    · exact rnI_lt (fun y hy => h y (List.mem_cons_of_mem _ hy)) x hx
theorem blI_lt {b : List UInt8} {i j n : Nat} {B : Blk} (hB : BlO b i j B) (hij : i ≤ j) (hj : j ≤ b.length) : ∀ x ∈ blI n B, x.1 < 2 ^ x.2 := fun x hx => by
  cases B with
  | st t =>
    obtain ⟨hB, hf⟩ := hB
    have htl : t.length = j - i := by rw [hB, List.length_take, List.length_drop]; omega
    simp only [blI] at hx
    rcases List.mem_append.1 hx with hx | hx
    · simp only [List.mem_cons, List.not_mem_nil, or_false] at hx
      rcases hx with rfl | rfl | rfl | rfl
      · decide
      · exact Nat.pow_pos (by decide)
      · show t.length < 2 ^ 16; omega
      · show 65535 - t.length < 2 ^ 16; omega
    · obtain ⟨c, _, rfl⟩ := List.mem_map.1 hx
      exact c.toNat_lt
  | fx k =>
    have hk : Tks b i k j := hB
    simp only [blI] at hx
    rcases List.mem_cons.1 hx with rfl | hx
    · decide
    · exact tsI_lt' (l := fxL) (dl := fxD) hk (fun t ht => fx_pos (hk.ok t ht)) x hx
  | dn k l dl n1 n2 o own rs =>
    obtain ⟨hk, hne, h1, h2, h3, rfl, rfl, rfl, rfl⟩ := hB
    have hF := dn_facts hk.ok hne h1 h2 h3
    generalize trN l 257 l.length = n1 at *
    generalize trN dl 1 dl.length = n2 at *
    generalize (orN own).take (trN (orN own) 4 19) = o at *
    generalize rnS (hdL l dl) = rs at *
    simp only [blI] at hx
    rcases List.mem_cons.1 hx with rfl | hx
    · decide
    rcases List.mem_append.1 hx with hx | hx
    · unfold hwI at hx
      have b1 := hF.n1b
      have b2 := hF.n2b
      have b3 := hF.hd.zb
      rcases List.mem_append.1 hx with hx | hx
      · simp only [List.mem_cons, List.not_mem_nil, or_false] at hx
        rcases hx with rfl | rfl | rfl
        · show n1 - 257 < 2 ^ 5; omega
        · show n2 - 1 < 2 ^ 5; omega
        · show o.length - 4 < 2 ^ 4; omega
      · rcases List.mem_append.1 hx with hx | hx
        · rw [hF.oo] at hx
          exact owI_lt hF.hd.o7 _ _ x hx
        · exact rnI_lt hF.ro x hx
    · exact tsI_lt' hk hF.pl x hx
theorem chI_lt {b : List UInt8} : ∀ {x : List Blk} {i k n : Nat}, BlC b i x k → ∀ y ∈ chI n x, y.1 < 2 ^ y.2
  | [], _, _, _, _, y, hy => by cases hy
  | B :: r, i, k, n, h, y, hy => by
    obtain ⟨j, h1, h2, h3, h4⟩ := h
    rw [chI] at hy
    rcases List.mem_append.1 hy with hy | hy
    · rcases List.mem_cons.1 hy with rfl | hy
      · decide
      · exact blI_lt h3 h1 h2 y hy
    · exact chI_lt h4 y hy
theorem BlC.split {b : List UInt8} : ∀ {x y : List Blk} {i k : Nat}, BlC b i (x ++ y) k → ∃ j, BlC b i x j ∧ BlC b j y k
  | [], y, i, k, h => ⟨i, rfl, h⟩
  | B :: x, y, i, k, h => by
    obtain ⟨j, h1, h2, h3, h4⟩ := h
    obtain ⟨m, g1, g2⟩ := BlC.split h4
    exact ⟨m, ⟨j, h1, h2, h3, g1⟩, g2⟩
theorem wrI_lt {b : List UInt8} {x : List Blk} {q : Blk} {k : Nat} (h : BlC b 0 (x ++ [q]) k) : ∀ y ∈ wrI x q, y.1 < 2 ^ y.2 := fun y hy => by
  rw [wrI_ch] at hy
  obtain ⟨j, h1, m, h2, h3, h4, _⟩ := h.split
  rcases List.mem_append.1 hy with hy | hy
  · exact chI_lt h1 y hy
  · rcases List.mem_cons.1 hy with rfl | hy
    · decide
    · exact blI_lt h4 h2 h3 y hy
theorem run_at {d b : List UInt8} {most : Nat} (hm : b.length ≤ most) (q : Blk) : ∀ (x : List Blk) (i f : Nat) (s : S6), BlC b i (x ++ [q]) b.length → s.e = 0 → s.out = b.take i → x.length < f →
    Bi d s.t (chI s.t x ++ ((1, 1) :: blI (s.t + itL (chI s.t x) + 1) q)) → rwS d most f s = ⟨s.t + itL (chI s.t x ++ ((1, 1) :: blI (s.t + itL (chI s.t x) + 1) q)), b, 0⟩
  | [], i, f, s, h, he, ho, hf, hb => by
    obtain ⟨j, h1, h2, h3, h4⟩ := h
    have h4 : j = b.length := h4
    subst h4
    obtain ⟨g, rfl⟩ : ∃ g, f = g + 1 := ⟨f - 1, by simp at hf; omega⟩
    have hb : Bi d s.t ((1, 1) :: blI (s.t + 1) q) := hb
    rw [blk_at (f := g) h3 h1 h2 he ho hm (Nat.le_refl _) hb, if_pos rfl, List.take_length]
    simp only [chI, List.nil_append, itL, Nat.add_zero, Nat.add_assoc]
  | B :: r, i, f, s, h, he, ho, hf, hb => by
    obtain ⟨j, h1, h2, h3, h4⟩ := h
    obtain ⟨g, rfl⟩ : ∃ g, f = g + 1 := ⟨f - 1, by simp at hf; omega⟩
    have hlt : ∀ y ∈ ((0, 1) :: blI (s.t + 1) B : List (Nat × Nat)), y.1 < 2 ^ y.2 := fun y hy => by
      rcases List.mem_cons.1 hy with rfl | hy
      · decide
      · exact blI_lt h3 h1 h2 y hy
    rw [chI, List.append_assoc] at hb ⊢
    obtain ⟨b1, b2⟩ := Bi.app hb hlt
    rw [blk_at (f := g) h3 h1 h2 he ho hm (Nat.zero_le _) b1, if_neg (by decide)]
    have e1 : s.t + itL ((0, 1) :: blI (s.t + 1) B) = s.t + 1 + itL (blI (s.t + 1) B) := by simp only [itL]; omega
    have e2 : s.t + itL ((0, 1) :: blI (s.t + 1) B ++ chI (s.t + 1 + itL (blI (s.t + 1) B)) r) + 1 = s.t + 1 + itL (blI (s.t + 1) B) + itL (chI (s.t + 1 + itL (blI (s.t + 1) B)) r) + 1 := by
      rw [itL_app]; omega
    rw [e1, e2] at b2
    rw [e2, itL_app, ← Nat.add_assoc, e1]
    exact run_at hm q r j g ⟨s.t + 1 + itL (blI (s.t + 1) B), b.take j, 0⟩ h4 rfl rfl (by simp at hf; omega) b2
theorem raw_all {b z : List UInt8} {x : List Blk} {q : Blk} {most : Nat} (h : BlC b 0 (x ++ [q]) b.length) (hx : x.length ≤ 3) (hm : b.length ≤ most) : rawS (wrB x q ++ z) most = ⟨itL (wrI x q), b, 0⟩ := by
  have hb := bi_all (wrI_lt h) z
  have hpos : 1 ≤ itL (wrI x q) := by rw [wrI_ch, itL_app]; simp only [itL]; omega
  have hl : 1 ≤ (wrB x q ++ z).length := by
    rw [List.length_append, show (wrB x q).length = (itL (wrI x q) + 7) / 8 from leB_length _ _]; omega
  unfold rawS
  have hb2 : Bi (wrB x q ++ z) 0 (wrI x q) := hb
  rw [wrI_ch] at hb2
  have := run_at (d := wrB x q ++ z) hm q x 0 (8 * (wrB x q ++ z).length + 1) ⟨0, [], 0⟩ h rfl rfl (by omega) (by simpa using hb2)
  rw [this]
  simp only [Nat.zero_add]
  rw [← wrI_ch]
end Go.Proofs.YtdcehmhelfohfaaGreatDoor
namespace Go.If
open Go.Vx Go.Hf
set_option linter.all false
def hdK (x y : Nat) : Bool := x % 16 == 8 && decide (x / 16 ≤ 7) && (x * 256 + y) % 31 == 0 && (y &&& 32) == 0
def wdN (b0 b1 b2 b3 : Nat) : Nat := ((b0 * 256 + b1) * 256 + b2) * 256 + b3
end Go.If
namespace Go.Proofs.YtdcehmhelfohfaaGreatDoor
open Go Go.Vx Go.Hf Go.If
variable [W0]
set_option maxRecDepth 4000
set_option linter.all false
theorem bit_and8 {a b : Nat} (ha : a < 256) (hb : b < 256) : bitI .and .u8 (a : Int) (b : Int) = some ((a &&& b : Nat) : Int) := by
  have h1 : a &&& b ≤ a := Nat.and_le_left
  have e : ((BitVec.ofInt 8 (a : Int) &&& BitVec.ofInt 8 (b : Int)).toNat) = a &&& b := by
    rw [BitVec.toNat_and, BitVec.ofInt_natCast, BitVec.ofInt_natCast, BitVec.toNat_ofNat, BitVec.toNat_ofNat, Nat.mod_eq_of_lt (by omega), Nat.mod_eq_of_lt (by omega)]
  show some (IntKind.u8.wrap (((BitVec.ofInt 8 (a : Int) &&& BitVec.ofInt 8 (b : Int)).toNat : Nat) : Int)) = _
  rw [e]
  congr 1
  exact wrap_nat rfl (by simp [IntKind.bits]; omega)
theorem bit_or16 {a b : Nat} (ha : a < 256) (hb : b < 256) : bitI .or .i64 ((a * 256 : Nat) : Int) (b : Int) = some ((a * 256 + b : Nat) : Int) := by
  have e0 : a * 256 ||| b = a * 256 + b := by
    have := Nat.two_pow_add_eq_or_of_lt (i := 8) (b := b) (by omega) a
    rw [Nat.mul_comm a 256]
    exact this.symm
  have e : ((BitVec.ofInt 64 ((a * 256 : Nat) : Int) ||| BitVec.ofInt 64 (b : Int)).toNat) = a * 256 + b := by
    rw [BitVec.toNat_or, BitVec.ofInt_natCast, BitVec.ofInt_natCast, BitVec.toNat_ofNat, BitVec.toNat_ofNat, Nat.mod_eq_of_lt (by omega), Nat.mod_eq_of_lt (by omega), e0]
  show some (IntKind.i64.wrap (((BitVec.ofInt 64 ((a * 256 : Nat) : Int) ||| BitVec.ofInt 64 (b : Int)).toNat : Nat) : Int)) = _
  rw [e]
  congr 1
  exact wrap_i64s (by omega)
set_option maxHeartbeats 4000000 in
theorem isHead_n (x y : UInt8) (L : List Chunk) : GvP Tryz.prog 30 [.int .u8 (x.toNat : Int), .int .u8 (y.toNat : Int)].toArray L (.bool (hdK x.toNat y.toNat)) := by
  refine Gv.of_body Tryz.func30 rfl rfl ?_
  have hx := x.toNat_lt
  have hy := y.toNat_lt
  generalize x.toNat = a at hx ⊢
  generalize y.toNat = b at hy ⊢
  unfold hdK
  (repeat' first|refine kW ?_|refine kU fun bk=>?_|refine kV fun hc=>?_|refine kZ (fun hc=>?_) fun hc=>?_|fail)
  refine OW_EV (EV_nand (k := .u8) a 4 rfl rfl rfl rfl rfl (by simp only [IntKind.bits]; omega) (by decide)) rfl ?_
  have hno : ∀ (c1 : Bool), c1 = false → Value.bool false = .bool c1 := fun c1 h => by rw [h]
  have hno2 : ¬ (a % 16 = 8 ∧ a / 16 ≤ 7 ∧ (a * 256 + b) % 31 = 0) → (a % 16 == 8 && decide (a / 16 ≤ 7) && (a * 256 + b) % 31 == 0 && (b &&& 32) == 0) = false := by
    intro h
    cases hh : (a % 16 == 8 && decide (a / 16 ≤ 7) && (a * 256 + b) % 31 == 0 && (b &&& 32) == 0)
    · rfl
    · exfalso
      simp only [Bool.and_eq_true, beq_iff_eq, decide_eq_true_eq] at hh
      exact h ⟨hh.1.1.1, hh.1.1.2, hh.1.2⟩
  (repeat' first|refine kW ?_|refine kU fun bk=>?_|refine kV fun hc=>?_|refine kZ (fun hc=>?_) fun hc=>?_|fail)
  · refine OW_EV (EV_shl64 a 8 rfl rfl rfl rfl (by decide) (by omega)) rfl ?_
    rw [show a * 2 ^ 8 = a * 256 from rfl]
    (repeat' first|refine kW ?_|refine kU fun bk=>?_|refine kV fun hc=>?_|refine kZ (fun hc=>?_) fun hc=>?_|fail)
    refine OW_EV (EV_bit rfl rfl (bit_or16 (a := a) (b := b) hx hy)) rfl ?_
    (repeat' first|refine kW ?_|refine kU fun bk=>?_|refine kV fun hc=>?_|refine kZ (fun hc=>?_) fun hc=>?_|fail)
    refine OW_EV (EV_remN (a * 256 + b) 31 rfl rfl rfl rfl (by decide)) rfl ?_
    (repeat' first|refine kW ?_|refine kU fun bk=>?_|refine kV fun hc=>?_|refine kZ (fun hc=>?_) fun hc=>?_|fail)
    · refine OW_EV (EV_bit rfl rfl (bit_and8 (a := b) (b := 32) hy (by decide))) rfl ?_
      generalize hz : b &&& 32 = z
      (repeat' first|refine kW ?_|refine kU fun bk=>?_|refine kV fun hc=>?_|refine kZ (fun hc=>?_) fun hc=>?_|fail)
      refine kR ?_
      refine ⟨_, iC, ?_, rfl⟩
      refine congrArg Value.bool ?_
      rw [show (a % 16 == 8) = true from by simp; omega, show decide (a / 16 ≤ 7) = true from by simp; omega, show ((a * 256 + b) % 31 == 0) = true from by simp; omega]
      simp only [Bool.true_and]
      by_cases h0 : z = 0
      · subst h0; rfl
      · rw [show (z == 0) = false from by simpa using h0]; simp; omega
    · refine kR ?_
      exact ⟨_, iC, hno _ (hno2 (by omega)), rfl⟩
  · refine kR ?_
    exact ⟨_, iC, hno _ (hno2 (by omega)), rfl⟩
  · refine kR ?_
    exact ⟨_, iC, hno _ (hno2 (by omega)), rfl⟩
theorem sl_bytes {L : List Chunk} {v : Value} {m : Nat} {t : List UInt8} (h : Sl L 1 v m (bsv t)) (hm : 0 < m) :
    ∃ bb off cap c T fr, v = .slice (some ⟨bb, off, none⟩) m cap ∧ Fnd L bb (.cells c T fr) ∧ ∀ k, k < m → c[off + k * 1]? = some (.int .u8 ((t.getD k 0).toNat : Int)) := by
  rcases h with ⟨c, rfl, rfl, h0⟩ | ⟨a, cap, rfl, hr, hl⟩
  · omega
  · rw [bsv_length, Nat.mul_one] at hl
    rcases hr with h0 | ⟨b, off, c, T, fr, rfl, h1, h2⟩
    · have h9 : (bsv t).length = 0 := by rw [h0]; rfl
      rw [bsv_length] at h9
      omega
    · exact ⟨b, off, cap, c, T, fr, rfl, h1, fun k hk => by rw [Nat.mul_one]; exact h2 _ _ (bsv_get (by simp [List.getD, show k < t.length by omega]))⟩
set_option maxHeartbeats 4000000 in
theorem word_n (v : Value) (m : Nat) (t : List UInt8) (L : List Chunk) (h : Sl L 1 v m (bsv t)) (hm : 4 ≤ m) :
    GvP Tryz.prog 31 [v].toArray L (.int .u32 ((wdN (t.getD 0 0).toNat (t.getD 1 0).toNat (t.getD 2 0).toNat (t.getD 3 0).toNat : Nat) : Int)) := by
  refine Gv.of_body Tryz.func31 rfl rfl ?_
  obtain ⟨bb, off, cap, cc, T, fr, rfl, hfn, hcs⟩ := sl_bytes h (by omega)
  have hc0 := hcs 0 (by omega)
  have hc1 := hcs 1 (by omega)
  have hc2 := hcs 2 (by omega)
  have hc3 := hcs 3 (by omega)
  have h0 := (t.getD 0 0).toNat_lt
  have h1 := (t.getD 1 0).toNat_lt
  have h2 := (t.getD 2 0).toNat_lt
  have h3 := (t.getD 3 0).toNat_lt
  clear h hcs
  generalize (t.getD 0 0).toNat = b0 at *
  generalize (t.getD 1 0).toNat = b1 at *
  generalize (t.getD 2 0).toNat = b2 at *
  generalize (t.getD 3 0).toNat = b3 at *
  (repeat' first|refine kW ?_|refine kU fun bk=>?_|refine kV fun hc=>?_|refine kZ (fun hc=>?_) fun hc=>?_|fail)
  refine WC_drawAll [] mixed ?_
  (refine WR_t 0 ?_)
  (refine WR_take 1 rfl rfl (by kernel_rfl) iP iC (EV_indexAddr (j := 0) rfl rfl rfl (by omega)) (by rfl) ?_)
  (refine WR_take 2 rfl rfl (by kernel_rfl) iP iC (EV_load rfl hfn hc0) (by rfl) ?_)
  (refine WR_take 3 rfl rfl (by kernel_rfl) iP iC (EV_nconv b0 rfl rfl rfl (by simp only [IntKind.bits]; omega)) (by rfl) ?_)
  (refine WR_take 4 rfl rfl (by kernel_rfl) iP iC (EV_nshl b0 24 rfl rfl rfl rfl rfl (by simp only [IntKind.bits]; omega)) (by rfl) ?_)
  (refine WR_t 5 ?_)
  (refine WR_take 6 rfl rfl (by kernel_rfl) iP iC (EV_indexAddr (j := 1) rfl rfl rfl (by omega)) (by rfl) ?_)
  (refine WR_take 7 rfl rfl (by kernel_rfl) iP iC (EV_load rfl hfn hc1) (by rfl) ?_)
  (refine WR_take 8 rfl rfl (by kernel_rfl) iP iC (EV_nconv b1 rfl rfl rfl (by simp only [IntKind.bits]; omega)) (by rfl) ?_)
  (refine WR_take 9 rfl rfl (by kernel_rfl) iP iC (EV_nshl b1 16 rfl rfl rfl rfl rfl (by simp only [IntKind.bits]; omega)) (by rfl) ?_)
  (refine WR_take 10 rfl rfl (by kernel_rfl) iP iC (EV_nor' (k := .u32) (b1 * 2 ^ 16) b0 24 rfl rfl rfl rfl rfl (by omega) (by simp only [IntKind.bits]; omega)) (by rfl) ?_)
  rw [show b1 * 2 ^ 16 + b0 * 2 ^ 24 = (b1 + b0 * 256) * 2 ^ 16 from by omega]
  (refine WR_t 11 ?_)
  (refine WR_take 12 rfl rfl (by kernel_rfl) iP iC (EV_indexAddr (j := 2) rfl rfl rfl (by omega)) (by rfl) ?_)
  (refine WR_take 13 rfl rfl (by kernel_rfl) iP iC (EV_load rfl hfn hc2) (by rfl) ?_)
  (refine WR_take 14 rfl rfl (by kernel_rfl) iP iC (EV_nconv b2 rfl rfl rfl (by simp only [IntKind.bits]; omega)) (by rfl) ?_)
  (refine WR_take 15 rfl rfl (by kernel_rfl) iP iC (EV_nshl b2 8 rfl rfl rfl rfl rfl (by simp only [IntKind.bits]; omega)) (by rfl) ?_)
  (refine WR_take 16 rfl rfl (by kernel_rfl) iP iC (EV_nor' (k := .u32) (b2 * 2 ^ 8) (b1 + b0 * 256) 16 rfl rfl rfl rfl rfl (by omega) (by simp only [IntKind.bits]; omega)) (by rfl) ?_)
  rw [show b2 * 2 ^ 8 + (b1 + b0 * 256) * 2 ^ 16 = (b2 + (b1 + b0 * 256) * 256) * 2 ^ 8 from by omega]
  (refine WR_t 17 ?_)
  (refine WR_take 18 rfl rfl (by kernel_rfl) iP iC (EV_indexAddr (j := 3) rfl rfl rfl (by omega)) (by rfl) ?_)
  (refine WR_take 19 rfl rfl (by kernel_rfl) iP iC (EV_load rfl hfn hc3) (by rfl) ?_)
  (refine WR_take 20 rfl rfl (by kernel_rfl) iP iC (EV_nconv b3 rfl rfl rfl (by simp only [IntKind.bits]; omega)) (by rfl) ?_)
  (refine WR_take 21 rfl rfl (by kernel_rfl) iP iC (EV_nor' (k := .u32) b3 (b2 + (b1 + b0 * 256) * 256) 8 rfl rfl rfl rfl rfl (by omega) (by simp only [IntKind.bits]; omega)) (by rfl) ?_)
  rw [show b3 + (b2 + (b1 + b0 * 256) * 256) * 2 ^ 8 = wdN b0 b1 b2 b3 from by unfold wdN; omega]
  (refine WR_t 22 ?_)
  (refine WR_done (by kernel_rfl) ?_)
  (repeat' first|refine kW ?_|refine kU fun bk=>?_|refine kV fun hc=>?_|refine kZ (fun hc=>?_) fun hc=>?_|fail)
  exact kE
end Go.Proofs.YtdcehmhelfohfaaGreatDoor
namespace Go.If
open Go.Vx Go.Hf
set_option linter.all false
def byt (d : List UInt8) (k : Nat) : Nat := (d.getD k 0).toNat
def usd [W0] (d : List UInt8) (m : Nat) : Nat := ((rawS (d.drop 2) m).t + 7) / 8
end Go.If
namespace Go.Proofs.YtdcehmhelfohfaaGreatDoor
open Go Go.Vx Go.Hf Go.If
variable [W0]
set_option maxRecDepth 4000
set_option linter.all false
def adS (d : List UInt8) (m : Nat) : Nat := (adlV (adlN (1#32, 0#32) (rawS (d.drop 2) m).out)).toNat
def zlE (d : List UInt8) (m : Nat) : Nat :=
  if d.length < 2 then 4
  else if hdK (byt d 0) (byt d 1) = false then 3
  else if (rawS (d.drop 2) m).e ≠ 0 then (rawS (d.drop 2) m).e
  else if d.length < 2 + usd d m + 4 then 4
  else if wdN (byt d (2 + usd d m)) (byt d (2 + usd d m + 1)) (byt d (2 + usd d m + 2)) (byt d (2 + usd d m + 3)) ≠ adS d m then 6
  else 0
set_option maxHeartbeats 4000000 in
theorem pzlib_n (a : Option Addr) (c : Nat) (d : List UInt8) (most : Int) (m : Nat) (L : List Chunk) (hv : Sl L 1 (.slice a d.length c) d.length (bsv d)) (hl : d.length ≤ 140737488355328) (hcap : d.length ≤ c) (hm1 : max most 0 = (m : Int)) (hm : m ≤ 1000000) (hor : OrAt L) :
    Gv Tryz.prog 13 [.slice a d.length c, .int .i64 most].toArray L (fun r L' =>
      (zlE d m ≠ 0 ∧ r = .tuple #[.slice none 0 0, .int .i64 0, .int .i64 (zlE d m : Int)] ∧ L' = L) ∨
      (zlE d m = 0 ∧ ∃ v C, r = .tuple #[v, .int .i64 ((2 + usd d m + 4 : Nat) : Int), .int .i64 0] ∧ Ow 5 1 v (rawS (d.drop 2) m).out.length (bsv (rawS (d.drop 2) m).out) C ∧ (rawS (d.drop 2) m).out.length ≤ m ∧ L' = C :: L)) := by
  refine Gv.of_body Tryz.func13 rfl rfl ?_
  by_cases h2 : d.length < 2
  · have hz : zlE d m = 4 := by unfold zlE; rw [if_pos h2]
    rw [hz]
    (repeat' first|refine kW ?_|refine kU fun bk=>?_|refine kV fun hc=>?_|refine kZ (fun hc=>?_) fun hc=>?_|fail)
    refine WQ_retI (rs := [.tmp 4, .tmp 5, .tmp 6]) (vs := [.slice none 0 0, .int .i64 0, .int .i64 4]) rfl rfl ?_
    exact ⟨_, iC, .inl ⟨by decide, rfl, rfl⟩⟩
  have hz : zlE d m = if hdK (byt d 0) (byt d 1) = false then 3 else if (rawS (d.drop 2) m).e ≠ 0 then (rawS (d.drop 2) m).e else if d.length < 2 + usd d m + 4 then 4 else if wdN (byt d (2 + usd d m)) (byt d (2 + usd d m + 1)) (byt d (2 + usd d m + 2)) (byt d (2 + usd d m + 3)) ≠ adS d m then 6 else 0 := by
    unfold zlE; rw [if_neg h2]
  rw [hz]
  clear hz
  obtain ⟨bb, off, cap, cc, T, fr, hve, hfn, hcs⟩ := sl_bytes hv (by omega)
  injection hve with q1 q2 q3
  subst q1 q3
  clear q2
  have hhd := isHead_n (d.getD 0 0) (d.getD 1 0) L
  change GvP _ _ _ L (.bool (hdK (byt d 0) (byt d 1))) at hhd
  generalize hK : hdK (byt d 0) (byt d 1) = K at hhd ⊢
  (repeat' first|refine kW ?_|refine kU fun bk=>?_|refine kV fun hc=>?_|refine kZ (fun hc=>?_) fun hc=>?_|fail)
  refine WC_drawAll [] mixed ?_
  (refine WR_t 0 ?_)
  (refine WR_take 1 rfl rfl (by kernel_rfl) iP iC (EV_indexAddr (j := 0) rfl rfl rfl (by omega)) (by rfl) ?_)
  (refine WR_take 2 rfl rfl (by kernel_rfl) iP iC (EV_load rfl hfn (hcs 0 (by omega))) (by rfl) ?_)
  (refine WR_t 3 ?_)
  (refine WR_take 4 rfl rfl (by kernel_rfl) iP iC (EV_indexAddr (j := 1) rfl rfl rfl (by omega)) (by rfl) ?_)
  (refine WR_take 5 rfl rfl (by kernel_rfl) iP iC (EV_load rfl hfn (hcs 1 (by omega))) (by rfl) ?_)
  (refine WR_one 6 (by kernel_rfl) rfl rfl ?_)
  refine OW_callP rfl rfl rfl hhd rfl ?_
  refine ⟨iC, ?_⟩
  (refine WR_t 7 ?_)
  (refine WR_done (by kernel_rfl) ?_)
  cases K with
  | false =>
    rw [if_pos rfl]
    (repeat' first|refine kW ?_|refine kU fun bk=>?_|refine kV fun hc=>?_|refine kZ (fun hc=>?_) fun hc=>?_|fail)
    refine WQ_retI (rs := [.tmp 4, .tmp 5, .tmp 6]) (vs := [.slice none 0 0, .int .i64 0, .int .i64 3]) rfl rfl ?_
    exact ⟨_, iC, .inl ⟨by decide, rfl, rfl⟩⟩
  | true =>
    rw [if_neg (by decide)]
    have hsub : ∀ k, k ≤ d.length → Sl L 1 (.slice (some ⟨bb, if c = k then off else off + k * 1, none⟩) (d.length - k) (c - k)) (d.length - k) (bsv (d.drop k)) := by
      intro k hk
      refine .inr ⟨_, _, rfl, ?_, by rw [bsv_length, List.length_drop, Nat.mul_one]⟩
      by_cases h0 : d.length = k
      · refine .inl ?_
        rw [List.drop_of_length_le (by omega)]; rfl
      · rw [if_neg (by omega)]
        refine .inr ⟨bb, _, cc, T, fr, rfl, hfn, fun j u hj => ?_⟩
        have hjl : j < (d.drop k).length := by
          have := (List.getElem?_eq_some_iff.1 hj).1
          rwa [bsv_length] at this
        have hj2 : u = .int .u8 ((d.getD (k + j) 0).toNat : Int) := by
          have h3 := bsv_get (l := d.drop k) (i := j) (b := d.getD (k + j) 0) (by rw [List.length_drop] at hjl; simp [List.getD, show k + j < d.length by omega])
          rw [h3] at hj
          injection hj with hj
          exact hj.symm
        rw [hj2, show off + k * 1 + j = off + (k + j) * 1 from by omega]
        rw [List.length_drop] at hjl
        exact hcs (k + j) (by omega)
    have hra := praw_n (some ⟨bb, if c = 2 then off else off + 2 * 1, none⟩) (c - 2) (d.drop 2) most m L (by rw [List.length_drop]; exact hsub 2 (by omega)) (by rw [List.length_drop]; omega) hm1 hm hor
    rw [List.length_drop] at hra
    have hus : usd d m = ((rawS (d.drop 2) m).t + 7) / 8 := rfl
    have had : adS d m = (adlV (adlN (1#32, 0#32) (rawS (d.drop 2) m).out)).toNat := rfl
    generalize rawS (d.drop 2) m = R at hra hus had ⊢
    rw [← hus] at hra
    generalize usd d m = n at hra hus ⊢
    generalize adS d m = ad at had ⊢
    (repeat' first|refine kW ?_|refine kU fun bk=>?_|refine kV fun hc=>?_|refine kZ (fun hc=>?_) fun hc=>?_|fail)
    refine OW_EV (EV_sliceSl (l := 2) (h := d.length) rfl rfl rfl (by omega) hcap) rfl ?_
    (repeat' first|refine kW ?_|refine kU fun bk=>?_|refine kV fun hc=>?_|refine kZ (fun hc=>?_) fun hc=>?_|fail)
    refine OW_call rfl rfl rfl hra rfl (fun r L' hp => ?_)
    rcases hp with ⟨h3, rfl, rfl⟩ | ⟨h3, v1, C1, rfl, ho1, hl1, ht1, rfl⟩
    · rw [if_pos h3]
      (repeat' first|refine kW ?_|refine kU fun bk=>?_|refine kV fun hc=>?_|refine kZ (fun hc=>?_) fun hc=>?_|fail)
      refine WQ_retI (rs := [.tmp 4, .tmp 5, .tmp 6]) (vs := [.slice none 0 0, .int .i64 0, .int .i64 (R.e : Int)]) rfl rfl ?_
      exact ⟨_, iC, .inl ⟨h3, rfl, rfl⟩⟩
    rw [if_neg (show ¬ R.e ≠ 0 by omega)]
    have hn2 : 2 + n ≤ d.length := by omega
    (repeat' first|refine kW ?_|refine kU fun bk=>?_|refine kV fun hc=>?_|refine kZ (fun hc=>?_) fun hc=>?_|fail)
    rw [show (2 : Int) + (n : Int) = ((2 + n : Nat) : Int) from by omega]
    refine OW_EV (EV_sliceSl (l := 2 + n) (h := d.length) rfl rfl rfl hn2 hcap) rfl ?_
    (repeat' first|refine kW ?_|refine kU fun bk=>?_|refine kV fun hc=>?_|refine kZ (fun hc=>?_) fun hc=>?_|fail)
    · rw [if_pos (show d.length < 2 + n + 4 by omega)]
      refine WQ_retI (rs := [.tmp 4, .tmp 5, .tmp 6]) (vs := [.slice none 0 0, .int .i64 0, .int .i64 4]) rfl rfl ?_
      exact ⟨_, iC, .inl ⟨by decide, rfl, rfl⟩⟩
    rw [if_neg (show ¬ d.length < 2 + n + 4 by omega)]
    have hw := word_n _ _ (d.drop (2 + n)) (C1 :: L) (sl_there (hsub (2 + n) hn2)) (by omega)
    have hgd : ∀ j, ((d.drop (2 + n)).getD j 0).toNat = byt d (2 + n + j) := fun j => by simp [byt, List.getD]
    rw [hgd, hgd, hgd, hgd, Nat.add_zero] at hw
    refine OW_callP rfl rfl rfl hw rfl ?_
    generalize wdN (byt d (2 + n)) (byt d (2 + n + 1)) (byt d (2 + n + 2)) (byt d (2 + n + 3)) = wd
    (repeat' first|refine kW ?_|refine kU fun bk=>?_|refine kV fun hc=>?_|refine kZ (fun hc=>?_) fun hc=>?_|fail)
    have hadl : GvP Tryz.prog 29 [v1].toArray (C1 :: L) (.int .u32 (ad : Int)) := by rw [had]; exact adler_n R.out v1 (C1 :: L) (by omega) (SlC.ow ho1)
    refine OW_callP rfl rfl rfl hadl rfl ?_
    (repeat' first|refine kW ?_|refine kU fun bk=>?_|refine kV fun hc=>?_|refine kZ (fun hc=>?_) fun hc=>?_|fail)
    · rw [if_pos (show wd ≠ ad by omega)]
      refine WQ_retI (rs := [.tmp 4, .tmp 5, .tmp 6]) (vs := [.slice none 0 0, .int .i64 0, .int .i64 6]) rfl rfl ?_
      exact ⟨_, iC, .inl ⟨by decide, rfl, rfl⟩⟩
    · rw [if_neg (show ¬ wd ≠ ad by omega)]
      refine kR ?_
      exact ⟨_, iC, .inr ⟨rfl, v1, C1, by rw [show ((2 + n + 4 : Nat) : Int) = 2 + (n : Int) + 4 from by omega]; rfl, ho1, hl1, rfl⟩⟩
end Go.Proofs.YtdcehmhelfohfaaGreatDoor
namespace Go.Df
open Go.Vx Go.If Go.Hf
set_option linter.all false
theorem Tks.count {b : List UInt8} : ∀ {ts : List (Nat × Nat)} {i j : Nat}, Tks b i ts j → ts.length ≤ j - i
  | [], i, j, h => Nat.zero_le _
  | t :: r, i, j, h => by
    have h1 := h.2.2.2.2.count
    have h2 := h.2.2.2.2.le.1
    have h3 : 1 ≤ tsz t := by
      unfold tsz
      rcases h.1 with ⟨g1, g2⟩ | ⟨g1, g2, g3, g4⟩
      · rw [if_pos g1]; exact Nat.le_refl _
      · rw [if_neg (by omega)]; omega
    rw [List.length_cons]
    omega
end Go.Df
namespace Go.Proofs.YtdcehmhelfohfaaGreatDoor
open Go Go.Vx Go.Hf Go.If Go.Df
variable [W0]
set_option linter.all false
theorem rnS_count {l : List Nat} (h : ∀ x ∈ l, x ≤ 15) : (rnS l).length ≤ l.length := by
  have w := (rnS_W h).2.1
  have h1 := rsW_length ((rnS l).map rlOf) []
  rw [w, List.length_nil, Nat.zero_add] at h1
  have key : ∀ rs : List Rl, rs.length ≤ rsN rs := by
    intro rs
    induction rs with
    | nil => exact Nat.le_refl _
    | cons r q ih =>
      have := rlN_pos r
      rw [List.length_cons, rsN]; omega
  have := key ((rnS l).map rlOf)
  rw [List.length_map] at this
  omega
theorem coI_le {l dl : List Nat} (hl : Cok l) (hd : Cok dl) {ts : List (Nat × Nat)} (h : ∀ t ∈ ts, TkOk t) : itL (coI l dl ts) ≤ 48 * ts.length + 15 := by
  have h1 := tsI_le hl hd h
  have h2 := hl.at 256
  unfold coI
  rw [itL_app]
  simp only [itL, sc]
  omega
theorem blI_sz {b : List UInt8} {i j n : Nat} {B : Blk} (hB : BlO b i j B) (hij : i ≤ j) (hj : j ≤ b.length) : itL (blI n B) ≤ 48 * (j - i) + 10000 := by
  cases B with
  | st t =>
    obtain ⟨hB, hf⟩ := hB
    have htl : t.length = j - i := by rw [hB, List.length_take, List.length_drop]; omega
    simp only [blI]
    rw [itL_app, raI_L]
    simp only [itL]
    omega
  | fx k =>
    have hk : Tks b i k j := hB
    have := coI_le fxL_ok fxD_ok hk.ok
    have := hk.count
    simp only [blI, itL]
    unfold coI at *
    omega
  | dn k l dl n1 n2 o own rs =>
    obtain ⟨hk, hne, h1, h2, h3, rfl, rfl, rfl, rfl⟩ := hB
    have hF := dn_facts hk.ok hne h1 h2 h3
    have h15 := hF.h15
    have hcl : Cok l := ⟨by have := hF.hd.kl; rw [hF.w, List.take_append_of_le_length (by rw [List.length_take]; have := hF.n1b; have := hF.ll; omega), List.take_take, Nat.min_self, kS_trim hF.n1z] at this; omega, fun x hx => by
      obtain ⟨i, hi, rfl⟩ := List.getElem_of_mem hx
      have := h1.le i
      rwa [show l.getD i 0 = l[i] from by simp [List.getD, hi]] at this⟩
    have hcd : Cok dl := ⟨kd_le h2.one, fun x hx => by
      obtain ⟨i, hi, rfl⟩ := List.getElem_of_mem hx
      have := h2.le i
      rwa [show dl.getD i 0 = dl[i] from by simp [List.getD, hi]] at this⟩
    have c1 := coI_le hcl hcd hk.ok
    have c2 := hk.count
    have c3 := hwI_le (own := own) (o := (orN own).take (trN (orN own) 4 19)) hF.hd.own (by rw [List.length_take, orN_len]; omega) (rnS (hdL l dl)) (trN l 257 l.length) (trN dl 1 dl.length)
    have c4 := rnS_count (l := hdL l dl) h15
    have c5 : (hdL l dl).length ≤ 316 := by
      unfold hdL
      have := hF.ll
      have := hF.dll
      rw [List.length_append, List.length_take, List.length_take]; omega
    simp only [blI, itL]
    rw [itL_app]
    unfold coI at c1
    omega
theorem szB_sz {b : List UInt8} : ∀ {bs : List Blk} {i k n : Nat}, BlC b i bs k → szB n bs ≤ n + 48 * (k - i) + 10001 * bs.length
  | [], i, k, n, h => by simp [szB]
  | B :: r, i, k, n, h => by
    obtain ⟨j, h1, h2, h3, h4⟩ := h
    have e := blI_sz (n := n + 1) h3 h1 h2
    have ih := szB_sz (n := enB n B) h4
    have hle : j ≤ k := by
      clear ih e h3 h2 h1
      revert j
      induction r with
      | nil => intro j h4; exact Nat.le_of_eq h4
      | cons D q ihq =>
        intro j h4
        obtain ⟨m, g1, g2, g3, g4⟩ := h4
        exact Nat.le_trans g1 (ihq m g4)
    have hs : szB n (B :: r) = szB (enB n B) r := rfl
    rw [hs, List.length_cons]
    have he : enB n B = n + 1 + itL (blI (n + 1) B) := rfl
    omega
theorem RwO.len {b o : List UInt8} {level : Int} (h : RwO b level o) : o.length ≤ 6 * b.length + 5010 := by
  obtain ⟨x, q, rfl, hx, hc9, _, _⟩ := h
  have := szB_sz (n := 0) hc9
  rw [← wrI_sz, List.length_append, List.length_singleton] at this
  rw [show (wrB x q).length = (itL (wrI x q) + 7) / 8 from leB_length _ _]
  omega
end Go.Proofs.YtdcehmhelfohfaaGreatDoor
namespace Go.Proofs.YtdcehmhelfohfaaGreatDoor
open Go Go.Vx Go.Hf Go.If Go.Df
variable [W0]
set_option maxRecDepth 4000
set_option linter.all false
theorem awA_i : wrI [] (.st [97, 98]) = [(1, 1), (0, 2), (0, 5), (2, 16), (65533, 16), (97, 8), (98, 8)] := by simp [wrI, bsI, blI, raI, itL]
theorem awA_q : wrB [] (.st [97, 98]) = [1, 2, 0, 253, 255, 97, 98] := by
  unfold wrB
  rw [awA_i]
  simp only [itV, itL]
  decide +kernel
theorem awE_q : wrB [] (.st []) = [1, 0, 0, 255, 255] := by
  unfold wrB
  rw [show wrI [] (.st []) = [(1, 1), (0, 2), (0, 5), (0, 16), (65535, 16)] from by simp [wrI, bsI, blI, raI, itL]]
  simp only [itV, itL]
  decide +kernel
set_option maxHeartbeats 4000000 in
theorem dawake_n (L : List Chunk) : GvP Tryz.prog 7 [].toArray L (.bool true) := by
  refine Gv.of_body (args := []) Tryz.func7 rfl rfl ?_
  (repeat' first|refine kW ?_|refine kU fun bk=>?_|refine kV fun hc=>?_|refine kZ (fun hc=>?_) fun hc=>?_|fail)
  refine OW_buildSlice (cs := bsv [97, 98]) rfl (by rfl) (by simp [fillL, patch, Value.cells, zeros]; rfl) (by omega) rfl rfl (fun b1 => ?_)
  (repeat' first|refine kW ?_|refine kU fun bk=>?_|refine kV fun hc=>?_|refine kZ (fun hc=>?_) fun hc=>?_|fail)
  refine OW_convSame (l := bsv [97, 98]) rfl iU rfl ?_
  (repeat' first|refine kW ?_|refine kU fun bk=>?_|refine kV fun hc=>?_|refine kZ (fun hc=>?_) fun hc=>?_|fail)
  have hrs : Rs ([(b1, .cells (bsv [97, 98]).toArray 5 ((bsv [97, 98]).length, (bsv [97, 98]).length + 1))] :: L) 1 (.slice (some ⟨b1, 0, none⟩) 2 2) [(97 : UInt8), 98].length (bsv [97, 98]) := ⟨sl_cells (c := (bsv [97, 98]).toArray) (xs := bsv [97, 98]) (m := 2) Fnd.here rfl (by simp), _, _, rfl, Nat.le_refl _⟩
  have h1 := raw0_n (.slice (some ⟨b1, 0, none⟩) 2 2) 0 [97, 98] [] (.st [97, 98]) _ hrs (by decide) (by decide) (by unfold stB; rw [stF_stop (by decide)]; rfl) (by decide)
  rw [awA_q] at h1
  refine OW_call rfl rfl rfl h1 rfl (fun r L' hp => ?_)
  obtain ⟨C, ho, rfl⟩ := hp
  (repeat' first|refine kW ?_|refine kU fun bk=>?_|refine kV fun hc=>?_|refine kZ (fun hc=>?_) fun hc=>?_|fail)
  refine OW_EV (EV_convStr (m := 7) (b := [1, 2, 0, 253, 255, 97, 98]) rfl (by exact ow_sl ho)) rfl ?_
  (repeat' first|refine kW ?_|refine kU fun bk=>?_|refine kV fun hc=>?_|refine kZ (fun hc=>?_) fun hc=>?_|fail)
  have h2 := fun L => zlib_n (.slice none 0 0) 0 [] [] L (fun o => o = [1, 0, 0, 255, 255]) (fun _ => True) (fun _ _ _ => trivial) trivial Rs.nil (by decide) (fun L' _ h' => (raw0_n (.slice none 0 0) 0 [] [] (.st []) L' Rs.nil (by decide) (by decide) (by unfold stB; rw [stF_stop (by decide)]; rfl) (by decide)).mono fun r L2 hq => by
    obtain ⟨C, ho, rfl⟩ := hq
    rw [awE_q] at ho
    exact ⟨C, _, rfl, by decide, ho, rfl⟩)
  refine OW_call rfl rfl rfl (h2 _) rfl (fun r2 L' hp => ?_)
  obtain ⟨C2, o, rfl, _, ho2, rfl⟩ := hp
  have e2 : [120, flB 0] ++ [1, 0, 0, 255, 255] ++ be4 (adlV (adlN (1#32, 0#32) [])).toNat = [120, 1, 1, 0, 0, 255, 255, 0, 0, 0, 1] := by decide +kernel
  rw [e2] at ho2
  (repeat' first|refine kW ?_|refine kU fun bk=>?_|refine kV fun hc=>?_|refine kZ (fun hc=>?_) fun hc=>?_|fail)
  refine OW_EV (EV_convStr (m := 11) (b := [120, 1, 1, 0, 0, 255, 255, 0, 0, 0, 1]) rfl (by exact ow_sl ho2)) rfl ?_
  (repeat' first|refine kW ?_|refine kU fun bk=>?_|refine kV fun hc=>?_|refine kZ (fun hc=>?_) fun hc=>?_|fail)
  exact kE
end Go.Proofs.YtdcehmhelfohfaaGreatDoor
namespace Go.Proofs.YtdcehmhelfohfaaGreatDoor
open Go Go.Vx Go.Hf
variable [W0]
set_option maxRecDepth 4000
set_option linter.all false
omit [W0] in
/-- The document's reader at bit t of bytes that can be read. -/
def BiS (p : Nat) (d : List UInt8) (fa : Option Addr) (fc t : Nat) (D : Chunk) (L : List Chunk) : Prop := t ≤ 8 * d.length ∧ D = [(p, cl [.slice fa d.length fc, .int .i64 (t : Int)] 59)] ∧ Sl L 1 (.slice fa d.length fc) d.length (bsv d)
theorem BiS.there {p : Nat} {d : List UInt8} {fa : Option Addr} {fc t : Nat} {D C : Chunk} {L : List Chunk} (h : BiS p d fa fc t D L) : BiS p d fa fc t D (C :: L) := ⟨h.1, h.2.1, sl_there h.2.2⟩
theorem BiS.back {p : Nat} {d : List UInt8} {fa : Option Addr} {fc t u : Nat} {D D' : Chunk} {L L' : List Chunk} (h : BiS p d fa fc t D L) (h' : BiS p d fa fc u D' L') : BiS p d fa fc u D' L := ⟨h'.1, h'.2.1, h.2.2⟩
set_option maxHeartbeats 2000000 in
theorem boneS_n (p t : Nat) (v : Value) (d : List UInt8) (L : List Chunk) (hv : Sl L 1 v d.length (bsv d)) (hl : d.length ≤ 140737488355328) (hlt : t < 8 * d.length) :
    Gv Tryz.prog 80 [.pointer (some ⟨p, 0, none⟩)].toArray ([(p, cl [v, .int .i64 (t : Int)] 59)] :: L) (fun r L' => r = .int .u32 ((val d / 2 ^ t % 2 : Nat) : Int) ∧ L' = [(p, cl [v, .int .i64 ((t + 1 : Nat) : Int)] 59)] :: L) := by
  refine Gv.of_body Tryz.func80 rfl rfl ?_
  have hbit := bit_at hlt
  obtain ⟨b, off, cap, cc, T, fr, rfl, hfn, hcell⟩ := sl_at hv (bsv_get (l := d) (i := t / 8) (b := d.getD (t / 8) 0) (by simp [List.getD, show t / 8 < d.length from by omega]))
  have hbl := (d.getD (t / 8) 0).toNat_lt
  obtain ⟨x, hx⟩ : ∃ x, x = (d.getD (t / 8) 0).toNat := ⟨_, rfl⟩
  rw [← hx] at hcell hbl hbit
  have hx2 : x / 2 ^ (t % 8) ≤ x := Nat.div_le_self _ _
  (repeat' first|refine kW ?_|refine kU fun bk=>?_|refine kV fun hc=>?_|refine kZ (fun hc=>?_) fun hc=>?_|fail)
  refine WC_drawAll [] mixed ?_
  (refine WR_t 0 ?_; refine WR_t 1 ?_; refine WR_t 2 ?_; refine WR_t 3 ?_; refine WR_t 4 ?_; refine WR_t 5 ?_; refine WR_t 6 ?_; refine WR_t 7 ?_)
  (refine WR_take 8 rfl rfl (by kernel_rfl) iP iC (EV_quoN t 8 rfl rfl rfl rfl (by decide) (by omega)) (by rfl) ?_)
  (refine WR_take 9 rfl rfl (by kernel_rfl) iP iC (EV_indexAddr (j := t / 8) rfl rfl rfl (by omega)) (by rfl) ?_)
  (refine WR_take 10 rfl rfl (by kernel_rfl) iP iC (EV_load rfl hfn.there hcell) (by rfl) ?_)
  (refine WR_t 11 ?_; refine WR_t 12 ?_; refine WR_t 13 ?_; refine WR_t 14 ?_)
  (refine WR_take 15 rfl rfl (by kernel_rfl) iP iC (EV_remN t 8 rfl rfl rfl rfl (by decide)) (by rfl) ?_)
  (refine WR_take 16 rfl rfl (by kernel_rfl) iP iC (EV_nshr x (t % 8) rfl rfl rfl rfl (by simp only [IntKind.bits]; omega)) (by rfl) ?_)
  (refine WR_take 17 rfl rfl (by kernel_rfl) iP iC (EV_nconv (k' := .u32) (x / 2 ^ (t % 8)) rfl rfl rfl (by simp only [IntKind.bits]; omega)) (by rfl) ?_)
  (refine WR_take 18 rfl rfl (by kernel_rfl) iP iC (EV_nand (x / 2 ^ (t % 8)) 1 rfl rfl rfl rfl rfl (by simp only [IntKind.bits]; omega) (by decide)) (by rfl) ?_)
  rw [hbit]
  (refine WR_t 19 ?_)
  (refine WR_done (by kernel_rfl) ?_)
  (repeat' first|refine kW ?_|refine kU fun bk=>?_|refine kV fun hc=>?_|refine kZ (fun hc=>?_) fun hc=>?_|fail)
  refine kR ?_
  exact ⟨_, iC, rfl, rfl⟩
set_option maxHeartbeats 8000000 in
theorem refreadS_n (a : Option Addr) (c : Nat) (ls : List Int) (fa : Option Addr) (fc q t : Nat) (d : List UInt8) (D : Chunk) (L : List Chunk) (h : Sl L 1 (.slice a ls.length c) ls.length (intsN ls)) (hok : cdE ls = 0) (hB : BiS q d fa fc t D L) (hl : d.length ≤ 140737488355328) :
    Gv Tryz.prog 81 [.slice a ls.length c, .pointer (some ⟨q, 0, none⟩)].toArray (D :: L) (fun r L' => ∃ D', r = .tuple #[.int .i64 ((rdS (nl ls) (val d) t (8 * d.length) 16 0).1 : Int), .int .i64 ((rdS (nl ls) (val d) t (8 * d.length) 16 0).2.1 : Int)] ∧
      BiS q d fa fc (t + (rdS (nl ls) (val d) t (8 * d.length) 16 0).2.2) D' L ∧ L' = D' :: L) := by
  obtain ⟨h400, hoL, hk⟩ := cdE_inv hok
  refine Gv.of_body Tryz.func81 rfl rfl ?_
  (repeat' first|refine kW ?_|refine kU fun bk=>?_|refine kV fun hc=>?_|refine kZ (fun hc=>?_) fun hc=>?_|fail)
  refine OW_call rfl rfl rfl (refcodes_n a c ls (D :: L) (sl_there h) (by omega)) rfl (fun r L' hp => ?_)
  obtain ⟨u, C, rfl, rfl, ho⟩ := hp
  rw [(cdE_zero h400 hoL hk).2, hok] at *
  obtain ⟨l, hll⟩ : ∃ l, l = nl ls := ⟨_, rfl⟩
  rw [← hll] at ho hk ⊢
  have hlen : l.length = ls.length := by rw [hll, nl_length]
  have h15 : ∀ x ∈ l, x ≤ 15 := fun x hx => okL_nl hoL (by rw [← hll]; exact hx)
  have hcl : (cds l).length = ls.length := by simp [cds, hlen]
  rw [hcl] at ho
  have hcg : ∀ i, i < ls.length → (cds l).getD i 0 = cd l i := fun i hi => by
    have : i < l.length := by omega
    simp [cds, List.getD, List.getElem?_range this]
  obtain ⟨ua, uc, rfl⟩ := ow_slc ho
  (repeat' first|refine kW ?_|refine kU fun bk=>?_|refine kV fun hc=>?_|refine kZ (fun hc=>?_) fun hc=>?_|fail)
  have hgd : ∀ i, l.getD i 0 ≤ 15 := fun i => by
    rcases Nat.eq_zero_or_pos (l.getD i 0) with h0 | h0
    · omega
    · have hi := getD_lt h0
      exact h15 _ (by rw [show l.getD i 0 = l[i] from by simp [List.getD, hi]]; exact List.getElem_mem hi)
  have hfin : ∀ (s e k : Nat) (D1 : Chunk) (M : List (Nat × Value)) (L1 : List Chunk), BiS q d fa fc (t + k) D1 L → rdS l (val d) t (8 * d.length) 16 0 = (s, e, k) → lk M 4 = some (.int .i64 (s : Int)) → lk M 5 = some (.int .i64 (e : Int)) → (∀ w, Holds w L1 → Holds w (D1 :: L)) →
      WQ Tryz.f81.ntmps (bodyPost Tryz.prog Tryz.f81 (fun e w' => ∃ v L', e = .returned v ∧ (∃ D', v = .tuple #[.int .i64 ((rdS l (val d) t (8 * d.length) 16 0).1 : Int), .int .i64 ((rdS l (val d) t (8 * d.length) 16 0).2.1 : Int)] ∧
        BiS q d fa fc (t + (rdS l (val d) t (8 * d.length) 16 0).2.2) D' L ∧ L' = D' :: L) ∧ Holds w' L') .ret) M L1 := by
    intro s e k D1 M L1 hB hr h4 h5 hL
    refine WQ_retH (rs := [.tmp 4, .tmp 5]) (vs := [.int .i64 (s : Int), .int .i64 (e : Int)]) rfl (by simp [resT, h4, h5]) ?_
    rw [hr]
    exact ⟨D1 :: L, hL, D1, rfl, hB, rfl⟩
  refine WC_loop (X := Nat × Chunk) (fun x => [(0, .slice a ls.length c), (1, .pointer (some ⟨q, 0, none⟩)), (6, .slice ua ls.length uc), (9, .int .u32 ((hv (val d) t x.1 : Nat) : Int)), (10, .int .i64 (x.1 : Int))])
    (fun x => C :: x.2 :: L) (fun x => x.1 ≤ 16 ∧ BiS q d fa fc (t + x.1) x.2 L ∧ rdS l (val d) t (8 * d.length) 16 0 = rdS l (val d) t (8 * d.length) (16 - x.1) x.1) (fun x => 16 - x.1) (0, D) ⟨by simp, hB, rfl⟩ iS (fun w h => h) ?_
  rintro ⟨n, D1⟩ ⟨hn, hB1, hrd⟩
  simp only at hn hB1 hrd ⊢
  have hvl := hv_lt (val d) t n
  have hv16 : 2 ^ n ≤ 2 ^ 16 := Nat.pow_le_pow_right (by decide) hn
  (repeat' first|refine kW ?_|refine kU fun bk=>?_|refine kV fun hc=>?_|refine kZ (fun hc=>?_) fun hc=>?_|fail)
  · have hn15 : n ≤ 15 := by omega
    have hv15 : 2 ^ n ≤ 2 ^ 15 := Nat.pow_le_pow_right (by decide) hn15
    obtain ⟨v, hv0⟩ : ∃ v, v = hv (val d) t n := ⟨_, rfl⟩
    have hrs : rdS l (val d) t (8 * d.length) (16 - n) n = (match symAt l n v with
        | some i => (i, 0, n)
        | none => if extB l n v = false then (0, 3, n) else if 8 * d.length ≤ t + n then (0, 4, n) else rdS l (val d) t (8 * d.length) (16 - (n + 1)) (n + 1)) := by
      rw [show 16 - n = (16 - (n + 1)) + 1 from by omega, rdS, hv0]
      try rfl
    rw [hrs] at hrd
    rw [← hv0] at hvl ⊢
    refine WC_loop (X := Nat × Bool) (fun x => [(0, .slice a ls.length c), (1, .pointer (some ⟨q, 0, none⟩)), (6, .slice ua ls.length uc), (8, .bool x.2), (9, .int .u32 ((v : Nat) : Int)), (10, .int .i64 (n : Int)), (11, .int .i64 (x.1 : Int))])
      (fun _ => C :: D1 :: L) (fun x => x.1 ≤ ls.length ∧ (∀ j, j < x.1 → hit l n v j = false) ∧ x.2 = (List.range x.1).any (far l n v)) (fun x => ls.length - x.1) (0, false) ⟨Nat.zero_le _, fun j hj => by simp at hj, rfl⟩ iS (fun w h => h) ?_
    rintro ⟨i, sm⟩ ⟨hi, hnone, hsm⟩
    simp only at hi hnone hsm ⊢
    (repeat' first|refine kW ?_|refine kU fun bk=>?_|refine kV fun hc=>?_|refine kZ (fun hc=>?_) fun hc=>?_|fail)
    · have hlt : i < ls.length := by omega
      obtain ⟨b, off, cap, cc, T, fr, hve, hfn, hcell⟩ := sl_at h (ints_get hlt)
      injection hve with q1 q2 q3
      subst q1 q3
      clear q2
      have hat := (okL_at hoL i).2.2
      rw [← hll] at hat
      rw [← hat] at hcell
      obtain ⟨b2, cap2, rest2, hve, rfl, hword⟩ := ow_word ho (k := i) hlt
      injection hve with q1 q2 q3
      subst q1 q3
      clear q2
      rw [hcg i hlt] at hword
      have hcdl := cd_lt hk h15 i
      obtain ⟨x, hx⟩ : ∃ x, x = l.getD i 0 := ⟨_, rfl⟩
      obtain ⟨y, hy⟩ : ∃ y, y = cd l i := ⟨_, rfl⟩
      have hx15 := hgd i
      rw [← hx] at hcell hx15
      rw [← hy] at hword hcdl
      have hhit : hit l n v i = (x == n && decide (0 < n) && y == v) := by unfold hit; rw [← hx, ← hy]
      have hfar : far l n v i = (decide (n < x) && y / 2 ^ (x - n) == v) := by unfold far; rw [← hx, ← hy]
      have hsm1 : (List.range (i + 1)).any (far l n v) = (sm || far l n v i) := by rw [any_succ, ← hsm]
      have hnext : hit l n v i = false → ∀ j, j < i + 1 → hit l n v j = false := fun hh j hj => by
        rcases Nat.lt_or_ge j i with h' | h'
        · exact hnone j h'
        · rw [show j = i from by omega]; exact hh
      refine OW_EV (EV_indexAddr (j := i) rfl rfl rfl hlt) rfl ?_
      (repeat' first|refine kW ?_|refine kU fun bk=>?_|refine kV fun hc=>?_|refine kZ (fun hc=>?_) fun hc=>?_|fail)
      refine OW_EV (EV_load rfl hfn.there.there hcell) rfl ?_
      (repeat' first|refine kW ?_|refine kU fun bk=>?_|refine kV fun hc=>?_|refine kZ (fun hc=>?_) fun hc=>?_|fail)
      · refine OW_EV (EV_indexAddr0 (j := i) (len := ls.length) rfl rfl rfl hlt) rfl ?_
        (repeat' first|refine kW ?_|refine kU fun bk=>?_|refine kV fun hc=>?_|refine kZ (fun hc=>?_) fun hc=>?_|fail)
        refine OW_EV (EV_load rfl Fnd.here hword) rfl ?_
        (repeat' first|refine kW ?_|refine kU fun bk=>?_|refine kV fun hc=>?_|refine kZ (fun hc=>?_) fun hc=>?_|fail)
        · have hh : hit l n v i = true := by rw [hhit]; simp; omega
          have hsy : symAt l n v = some i := find_range (by omega) hh hnone
          rw [hsy] at hrd
          exact hfin i 0 n D1 _ _ hB1 hrd rfl rfl (fun w h => iH h)
        · have hh : hit l n v i = false := by rw [hhit]; simp; omega
          cases hsb : sm with
          | true =>
            refine WC_drawAll [] mixed ?_
            (refine WR_t 0 ?_; refine WR_t 1 ?_)
            (refine WR_v 2 ?_; refine WR_v 3 ?_; refine WR_v 4 ?_; refine WR_v 5 ?_; refine WR_v 6 ?_; refine WR_v 7 ?_; refine WR_v 8 ?_)
            (refine WR_x 9 ?_; refine WR_x 10 ?_; refine WR_x 11 ?_; refine WR_x 12 ?_; refine WR_x 13 ?_; refine WR_x 14 ?_; refine WR_x 15 ?_; refine WR_x 16 ?_; refine WR_x 17 ?_; refine WR_x 18 ?_; refine WR_x 19 ?_; refine WR_x 20 ?_; refine WR_x 21 ?_)
            (refine WR_v 22 ?_)
            (refine WR_t 23 ?_; refine WR_t 24 ?_)
            (refine WR_done (by kernel_rfl) ?_)
            (repeat' first|refine kW ?_|refine kU fun bk=>?_|refine kV fun hc=>?_|refine kZ (fun hc=>?_) fun hc=>?_|fail)
            refine WQ_round (X := Nat × Bool) (μ := fun x => ls.length - x.1) (x := (i, true)) (i + 1, true) (by simp only; omega) ⟨by simp only; omega, hnext hh, by simp only; rw [hsm1, hsb]; rfl⟩ iS (fun w h => iH h)
          | false =>
            by_cases hxn : n < x
            · refine WC_drawAll [] mixed ?_
              (refine WR_t 0 ?_; refine WR_t 1 ?_)
              (refine WR_u 2 ?_; refine WR_u 3 ?_)
              (refine WR_takeOn 4 rfl rfl rfl (by kernel_rfl) iP iC (EV_indexAddr (j := i) rfl rfl rfl hlt) (by rfl) ?_)
              (refine WR_takeOn 5 rfl rfl rfl (by kernel_rfl) iP iC (EV_load rfl hfn.there.there hcell) (by rfl) ?_)
              (refine WR_u 6 ?_; refine WR_u 7 ?_)
              rw [show decide ((x : Int) > (n : Int)) = true from by simp; omega]
              (refine WR_u 8 ?_; refine WR_u 9 ?_; refine WR_u 10 ?_)
              (refine WR_takeOn 11 rfl rfl rfl (by kernel_rfl) iP iC (EV_indexAddr0 (j := i) (len := ls.length) rfl rfl rfl hlt) (by rfl) ?_)
              (refine WR_takeOn 12 rfl rfl rfl (by kernel_rfl) iP iC (EV_load rfl Fnd.here hword) (by rfl) ?_)
              (refine WR_u 13 ?_; refine WR_u 14 ?_)
              (refine WR_takeOn 15 rfl rfl rfl (by kernel_rfl) iP iC (EV_indexAddr (j := i) rfl rfl rfl hlt) (by rfl) ?_)
              (refine WR_takeOn 16 rfl rfl rfl (by kernel_rfl) iP iC (EV_load rfl hfn.there.there hcell) (by rfl) ?_)
              (refine WR_u 17 ?_; refine WR_u 18 ?_)
              rw [show (x : Int) - (n : Int) = ((x - n : Nat) : Int) from by omega]
              (refine WR_takeOn 19 rfl rfl rfl (by kernel_rfl) iP iC (EV_nshr y (x - n) rfl rfl rfl rfl (by simp only [IntKind.bits]; omega)) (by rfl) ?_)
              (refine WR_u 20 ?_; refine WR_u 21 ?_; refine WR_u 22 ?_)
              (refine WR_t 23 ?_; refine WR_t 24 ?_)
              (refine WR_done (by kernel_rfl) ?_)
              (repeat' first|refine kW ?_|refine kU fun bk=>?_|refine kV fun hc=>?_|refine kZ (fun hc=>?_) fun hc=>?_|fail)
              refine WQ_round (X := Nat × Bool) (μ := fun x => ls.length - x.1) (x := (i, false)) (i + 1, ((y / 2 ^ (x - n) : Nat) : Int) == (v : Int)) (by simp only; omega) ⟨by simp only; omega, hnext hh, by simp only; rw [hsm1, hsb, hfar, decide_eq_true hxn, Bool.false_or, Bool.true_and, beq_nat]⟩ iS (fun w h => iH h)
            · refine WC_drawAll [] mixed ?_
              (refine WR_t 0 ?_; refine WR_t 1 ?_)
              (refine WR_u 2 ?_; refine WR_u 3 ?_)
              (refine WR_takeOn 4 rfl rfl rfl (by kernel_rfl) iP iC (EV_indexAddr (j := i) rfl rfl rfl hlt) (by rfl) ?_)
              (refine WR_takeOn 5 rfl rfl rfl (by kernel_rfl) iP iC (EV_load rfl hfn.there.there hcell) (by rfl) ?_)
              (refine WR_u 6 ?_; refine WR_u 7 ?_)
              rw [show decide ((x : Int) > (n : Int)) = false from by simp; omega]
              (refine WR_u 8 ?_)
              (refine WR_v 9 ?_; refine WR_v 10 ?_; refine WR_v 11 ?_; refine WR_v 12 ?_; refine WR_v 13 ?_; refine WR_v 14 ?_; refine WR_v 15 ?_; refine WR_v 16 ?_; refine WR_v 17 ?_; refine WR_v 18 ?_; refine WR_v 19 ?_; refine WR_v 20 ?_; refine WR_v 21 ?_)
              (refine WR_u 22 ?_)
              (refine WR_t 23 ?_; refine WR_t 24 ?_)
              (refine WR_done (by kernel_rfl) ?_)
              (repeat' first|refine kW ?_|refine kU fun bk=>?_|refine kV fun hc=>?_|refine kZ (fun hc=>?_) fun hc=>?_|fail)
              refine WQ_round (X := Nat × Bool) (μ := fun x => ls.length - x.1) (x := (i, false)) (i + 1, false) (by simp only; omega) ⟨by simp only; omega, hnext hh, by simp only; rw [hsm1, hsb, hfar, decide_eq_false hxn]; rfl⟩ iS (fun w h => iH h)
      · have hh : hit l n v i = false := by rw [hhit]; simp; omega
        cases hsb : sm with
        | true =>
          refine WC_drawAll [] mixed ?_
          (refine WR_t 0 ?_; refine WR_t 1 ?_)
          (refine WR_v 2 ?_; refine WR_v 3 ?_; refine WR_v 4 ?_; refine WR_v 5 ?_; refine WR_v 6 ?_; refine WR_v 7 ?_; refine WR_v 8 ?_)
          (refine WR_x 9 ?_; refine WR_x 10 ?_; refine WR_x 11 ?_; refine WR_x 12 ?_; refine WR_x 13 ?_; refine WR_x 14 ?_; refine WR_x 15 ?_; refine WR_x 16 ?_; refine WR_x 17 ?_; refine WR_x 18 ?_; refine WR_x 19 ?_; refine WR_x 20 ?_; refine WR_x 21 ?_)
          (refine WR_v 22 ?_)
          (refine WR_t 23 ?_; refine WR_t 24 ?_)
          (refine WR_done (by kernel_rfl) ?_)
          (repeat' first|refine kW ?_|refine kU fun bk=>?_|refine kV fun hc=>?_|refine kZ (fun hc=>?_) fun hc=>?_|fail)
          refine WQ_round (X := Nat × Bool) (μ := fun x => ls.length - x.1) (x := (i, true)) (i + 1, true) (by simp only; omega) ⟨by simp only; omega, hnext hh, by simp only; rw [hsm1, hsb]; rfl⟩ iS (fun w h => iH h)
        | false =>
          by_cases hxn : n < x
          · refine WC_drawAll [] mixed ?_
            (refine WR_t 0 ?_; refine WR_t 1 ?_)
            (refine WR_u 2 ?_; refine WR_u 3 ?_)
            (refine WR_takeOn 4 rfl rfl rfl (by kernel_rfl) iP iC (EV_indexAddr (j := i) rfl rfl rfl hlt) (by rfl) ?_)
            (refine WR_takeOn 5 rfl rfl rfl (by kernel_rfl) iP iC (EV_load rfl hfn.there.there hcell) (by rfl) ?_)
            (refine WR_u 6 ?_; refine WR_u 7 ?_)
            rw [show decide ((x : Int) > (n : Int)) = true from by simp; omega]
            (refine WR_u 8 ?_; refine WR_u 9 ?_; refine WR_u 10 ?_)
            (refine WR_takeOn 11 rfl rfl rfl (by kernel_rfl) iP iC (EV_indexAddr0 (j := i) (len := ls.length) rfl rfl rfl hlt) (by rfl) ?_)
            (refine WR_takeOn 12 rfl rfl rfl (by kernel_rfl) iP iC (EV_load rfl Fnd.here hword) (by rfl) ?_)
            (refine WR_u 13 ?_; refine WR_u 14 ?_)
            (refine WR_takeOn 15 rfl rfl rfl (by kernel_rfl) iP iC (EV_indexAddr (j := i) rfl rfl rfl hlt) (by rfl) ?_)
            (refine WR_takeOn 16 rfl rfl rfl (by kernel_rfl) iP iC (EV_load rfl hfn.there.there hcell) (by rfl) ?_)
            (refine WR_u 17 ?_; refine WR_u 18 ?_)
            rw [show (x : Int) - (n : Int) = ((x - n : Nat) : Int) from by omega]
            (refine WR_takeOn 19 rfl rfl rfl (by kernel_rfl) iP iC (EV_nshr y (x - n) rfl rfl rfl rfl (by simp only [IntKind.bits]; omega)) (by rfl) ?_)
            (refine WR_u 20 ?_; refine WR_u 21 ?_; refine WR_u 22 ?_)
            (refine WR_t 23 ?_; refine WR_t 24 ?_)
            (refine WR_done (by kernel_rfl) ?_)
            (repeat' first|refine kW ?_|refine kU fun bk=>?_|refine kV fun hc=>?_|refine kZ (fun hc=>?_) fun hc=>?_|fail)
            refine WQ_round (X := Nat × Bool) (μ := fun x => ls.length - x.1) (x := (i, false)) (i + 1, ((y / 2 ^ (x - n) : Nat) : Int) == (v : Int)) (by simp only; omega) ⟨by simp only; omega, hnext hh, by simp only; rw [hsm1, hsb, hfar, decide_eq_true hxn, Bool.false_or, Bool.true_and, beq_nat]⟩ iS (fun w h => iH h)
          · refine WC_drawAll [] mixed ?_
            (refine WR_t 0 ?_; refine WR_t 1 ?_)
            (refine WR_u 2 ?_; refine WR_u 3 ?_)
            (refine WR_takeOn 4 rfl rfl rfl (by kernel_rfl) iP iC (EV_indexAddr (j := i) rfl rfl rfl hlt) (by rfl) ?_)
            (refine WR_takeOn 5 rfl rfl rfl (by kernel_rfl) iP iC (EV_load rfl hfn.there.there hcell) (by rfl) ?_)
            (refine WR_u 6 ?_; refine WR_u 7 ?_)
            rw [show decide ((x : Int) > (n : Int)) = false from by simp; omega]
            (refine WR_u 8 ?_)
            (refine WR_v 9 ?_; refine WR_v 10 ?_; refine WR_v 11 ?_; refine WR_v 12 ?_; refine WR_v 13 ?_; refine WR_v 14 ?_; refine WR_v 15 ?_; refine WR_v 16 ?_; refine WR_v 17 ?_; refine WR_v 18 ?_; refine WR_v 19 ?_; refine WR_v 20 ?_; refine WR_v 21 ?_)
            (refine WR_u 22 ?_)
            (refine WR_t 23 ?_; refine WR_t 24 ?_)
            (refine WR_done (by kernel_rfl) ?_)
            (repeat' first|refine kW ?_|refine kU fun bk=>?_|refine kV fun hc=>?_|refine kZ (fun hc=>?_) fun hc=>?_|fail)
            refine WQ_round (X := Nat × Bool) (μ := fun x => ls.length - x.1) (x := (i, false)) (i + 1, false) (by simp only; omega) ⟨by simp only; omega, hnext hh, by simp only; rw [hsm1, hsb, hfar, decide_eq_false hxn]; rfl⟩ iS (fun w h => iH h)
      · have hh : hit l n v i = false := by rw [hhit]; simp; omega
        cases hsb : sm with
        | true =>
          refine WC_drawAll [] mixed ?_
          (refine WR_t 0 ?_; refine WR_t 1 ?_)
          (refine WR_v 2 ?_; refine WR_v 3 ?_; refine WR_v 4 ?_; refine WR_v 5 ?_; refine WR_v 6 ?_; refine WR_v 7 ?_; refine WR_v 8 ?_)
          (refine WR_x 9 ?_; refine WR_x 10 ?_; refine WR_x 11 ?_; refine WR_x 12 ?_; refine WR_x 13 ?_; refine WR_x 14 ?_; refine WR_x 15 ?_; refine WR_x 16 ?_; refine WR_x 17 ?_; refine WR_x 18 ?_; refine WR_x 19 ?_; refine WR_x 20 ?_; refine WR_x 21 ?_)
          (refine WR_v 22 ?_)
          (refine WR_t 23 ?_; refine WR_t 24 ?_)
          (refine WR_done (by kernel_rfl) ?_)
          (repeat' first|refine kW ?_|refine kU fun bk=>?_|refine kV fun hc=>?_|refine kZ (fun hc=>?_) fun hc=>?_|fail)
          refine WQ_round (X := Nat × Bool) (μ := fun x => ls.length - x.1) (x := (i, true)) (i + 1, true) (by simp only; omega) ⟨by simp only; omega, hnext hh, by simp only; rw [hsm1, hsb]; rfl⟩ iS (fun w h => iH h)
        | false =>
          by_cases hxn : n < x
          · refine WC_drawAll [] mixed ?_
            (refine WR_t 0 ?_; refine WR_t 1 ?_)
            (refine WR_u 2 ?_; refine WR_u 3 ?_)
            (refine WR_takeOn 4 rfl rfl rfl (by kernel_rfl) iP iC (EV_indexAddr (j := i) rfl rfl rfl hlt) (by rfl) ?_)
            (refine WR_takeOn 5 rfl rfl rfl (by kernel_rfl) iP iC (EV_load rfl hfn.there.there hcell) (by rfl) ?_)
            (refine WR_u 6 ?_; refine WR_u 7 ?_)
            rw [show decide ((x : Int) > (n : Int)) = true from by simp; omega]
            (refine WR_u 8 ?_; refine WR_u 9 ?_; refine WR_u 10 ?_)
            (refine WR_takeOn 11 rfl rfl rfl (by kernel_rfl) iP iC (EV_indexAddr0 (j := i) (len := ls.length) rfl rfl rfl hlt) (by rfl) ?_)
            (refine WR_takeOn 12 rfl rfl rfl (by kernel_rfl) iP iC (EV_load rfl Fnd.here hword) (by rfl) ?_)
            (refine WR_u 13 ?_; refine WR_u 14 ?_)
            (refine WR_takeOn 15 rfl rfl rfl (by kernel_rfl) iP iC (EV_indexAddr (j := i) rfl rfl rfl hlt) (by rfl) ?_)
            (refine WR_takeOn 16 rfl rfl rfl (by kernel_rfl) iP iC (EV_load rfl hfn.there.there hcell) (by rfl) ?_)
            (refine WR_u 17 ?_; refine WR_u 18 ?_)
            rw [show (x : Int) - (n : Int) = ((x - n : Nat) : Int) from by omega]
            (refine WR_takeOn 19 rfl rfl rfl (by kernel_rfl) iP iC (EV_nshr y (x - n) rfl rfl rfl rfl (by simp only [IntKind.bits]; omega)) (by rfl) ?_)
            (refine WR_u 20 ?_; refine WR_u 21 ?_; refine WR_u 22 ?_)
            (refine WR_t 23 ?_; refine WR_t 24 ?_)
            (refine WR_done (by kernel_rfl) ?_)
            (repeat' first|refine kW ?_|refine kU fun bk=>?_|refine kV fun hc=>?_|refine kZ (fun hc=>?_) fun hc=>?_|fail)
            refine WQ_round (X := Nat × Bool) (μ := fun x => ls.length - x.1) (x := (i, false)) (i + 1, ((y / 2 ^ (x - n) : Nat) : Int) == (v : Int)) (by simp only; omega) ⟨by simp only; omega, hnext hh, by simp only; rw [hsm1, hsb, hfar, decide_eq_true hxn, Bool.false_or, Bool.true_and, beq_nat]⟩ iS (fun w h => iH h)
          · refine WC_drawAll [] mixed ?_
            (refine WR_t 0 ?_; refine WR_t 1 ?_)
            (refine WR_u 2 ?_; refine WR_u 3 ?_)
            (refine WR_takeOn 4 rfl rfl rfl (by kernel_rfl) iP iC (EV_indexAddr (j := i) rfl rfl rfl hlt) (by rfl) ?_)
            (refine WR_takeOn 5 rfl rfl rfl (by kernel_rfl) iP iC (EV_load rfl hfn.there.there hcell) (by rfl) ?_)
            (refine WR_u 6 ?_; refine WR_u 7 ?_)
            rw [show decide ((x : Int) > (n : Int)) = false from by simp; omega]
            (refine WR_u 8 ?_)
            (refine WR_v 9 ?_; refine WR_v 10 ?_; refine WR_v 11 ?_; refine WR_v 12 ?_; refine WR_v 13 ?_; refine WR_v 14 ?_; refine WR_v 15 ?_; refine WR_v 16 ?_; refine WR_v 17 ?_; refine WR_v 18 ?_; refine WR_v 19 ?_; refine WR_v 20 ?_; refine WR_v 21 ?_)
            (refine WR_u 22 ?_)
            (refine WR_t 23 ?_; refine WR_t 24 ?_)
            (refine WR_done (by kernel_rfl) ?_)
            (repeat' first|refine kW ?_|refine kU fun bk=>?_|refine kV fun hc=>?_|refine kZ (fun hc=>?_) fun hc=>?_|fail)
            refine WQ_round (X := Nat × Bool) (μ := fun x => ls.length - x.1) (x := (i, false)) (i + 1, false) (by simp only; omega) ⟨by simp only; omega, hnext hh, by simp only; rw [hsm1, hsb, hfar, decide_eq_false hxn]; rfl⟩ iS (fun w h => iH h)
    · have hil : i = l.length := by omega
      have hsy : symAt l n v = none := find_none (by rw [← hil]; exact hnone)
      have hex : extB l n v = false := by unfold extB; rw [← hil, ← hsm]; simpa using hc
      rw [hsy] at hrd
      simp only at hrd
      rw [if_pos hex] at hrd
      exact hfin 0 3 n D1 _ _ hB1 hrd rfl rfl (fun w h => iH h)
    · have hil : i = l.length := by omega
      have hsy : symAt l n v = none := find_none (by rw [← hil]; exact hnone)
      have hex : ¬ extB l n v = false := by unfold extB; rw [← hil, ← hsm]; simpa using hc
      rw [hsy] at hrd
      simp only at hrd
      rw [if_neg hex] at hrd
      have hB2 := hB1
      obtain ⟨ht, rfl, hob⟩ := hB2
      refine OW_callP rfl rfl rfl (bleft_n q d.length (t + n) fa fc _ _ (by repeat (first | assumption | exact Fnd.here | refine Fnd.there ?_)) hl ht) rfl ?_
      (repeat' first|refine kW ?_|refine kU fun bk=>?_|refine kV fun hc=>?_|refine kZ (fun hc=>?_) fun hc=>?_|fail)
      · rw [if_pos (by omega)] at hrd
        exact hfin 0 4 n _ _ _ hB1 hrd rfl rfl (fun w h => iH h)
      · rw [if_neg (by omega)] at hrd
        refine OW_EV (EV_nshl v 1 rfl rfl rfl rfl rfl (by simp only [IntKind.bits]; omega)) rfl ?_
        (repeat' first|refine kW ?_|refine kU fun bk=>?_|refine kV fun hc=>?_|refine kZ (fun hc=>?_) fun hc=>?_|fail)
        refine OW_call rfl rfl rfl (Gv.take (boneS_n q (t + n) _ d (C :: L) (sl_there hob) hl (by omega)) (by repeat (first | exact Take.here | apply Take.there))) rfl (fun r L' hp => ?_)
        obtain ⟨rfl, rfl⟩ := hp
        have hB3 : BiS q d fa fc (t + n + 1) [(q, cl [.slice fa d.length fc, .int .i64 ((t + n + 1 : Nat) : Int)] 59)] L := ⟨by omega, rfl, hob⟩
        have hbt : val d / 2 ^ (t + n) % 2 < 2 := Nat.mod_lt _ (by decide)
        (repeat' first|refine kW ?_|refine kU fun bk=>?_|refine kV fun hc=>?_|refine kZ (fun hc=>?_) fun hc=>?_|fail)
        refine OW_EV (EV_nor' (val d / 2 ^ (t + n) % 2) v 1 rfl rfl rfl rfl rfl (by simpa using hbt) (by simp only [IntKind.bits]; omega)) rfl ?_
        rw [show val d / 2 ^ (t + n) % 2 + v * 2 ^ 1 = hv (val d) t (n + 1) from by simp only [hv]; rw [← hv0]; omega]
        (repeat' first|refine kW ?_|refine kU fun bk=>?_|refine kV fun hc=>?_|refine kZ (fun hc=>?_) fun hc=>?_|fail)
        refine WQ_round (X := Nat × Chunk) (μ := fun x => 16 - x.1) (x := (n, D)) (n + 1, _) (by simp only; omega) ⟨by simp only; omega, hB3, hrd⟩ iS (fun w h => iH h)
  · have hn16 : n = 16 := by omega
    subst hn16
    exact hfin 0 3 16 D1 _ _ hB1 hrd rfl rfl (fun w h => iH h)
end Go.Proofs.YtdcehmhelfohfaaGreatDoor
namespace Go.Proofs.YtdcehmhelfohfaaGreatDoor
open Go Go.Vx Go.Hf Go.If
variable [W0]
set_option maxRecDepth 4000
set_option linter.all false
theorem balignS_n (p t : Nat) (v : Value) (L : List Chunk) (ht : t ≤ 1125899906842624) :
    Gv Tryz.prog 47 [.pointer (some ⟨p, 0, none⟩)].toArray ([(p, cl [v, .int .i64 (t : Int)] 59)] :: L) (fun r L' => r = .tuple #[] ∧ L' = [(p, cl [v, .int .i64 ((8 * ((t + 7) / 8) : Nat) : Int)] 59)] :: L) := by
  refine Gv.of_body Tryz.func47 rfl rfl ?_
  (repeat' first|refine kW ?_|refine kU fun bk=>?_|refine kV fun hc=>?_|refine kZ (fun hc=>?_) fun hc=>?_|fail)
  refine OW_EV (EV_quoN (t + 7) 8 rfl rfl (by omega) rfl (by decide) (by omega)) rfl ?_
  (repeat' first|refine kW ?_|refine kU fun bk=>?_|refine kV fun hc=>?_|refine kZ (fun hc=>?_) fun hc=>?_|fail)
  rw [show (((t + 7) / 8 : Nat) : Int) * 8 = ((8 * ((t + 7) / 8) : Nat) : Int) from by omega]
  (repeat' first|refine kW ?_|refine kU fun bk=>?_|refine kV fun hc=>?_|refine kZ (fun hc=>?_) fun hc=>?_|fail)
  refine kR ?_
  exact ⟨_, iC, rfl, rfl⟩
set_option maxHeartbeats 4000000 in
theorem btakeS_n (p t n : Nat) (fa : Option Addr) (fc : Nat) (d : List UInt8) (L : List Chunk) (hv : Sl L 1 (.slice fa d.length fc) d.length (bsv d)) (hl : d.length ≤ 140737488355328) (ht : t ≤ 8 * d.length) (hn : n ≤ 32) :
    Gv Tryz.prog 46 [.pointer (some ⟨p, 0, none⟩), .int .i64 (n : Int)].toArray ([(p, cl [.slice fa d.length fc, .int .i64 (t : Int)] 59)] :: L) (fun r L' =>
      (t + n ≤ 8 * d.length ∧ r = .tuple #[.int .u32 ((val d / 2 ^ t % 2 ^ n : Nat) : Int), .bool true] ∧ L' = [(p, cl [.slice fa d.length fc, .int .i64 ((t + n : Nat) : Int)] 59)] :: L) ∨
      (¬ t + n ≤ 8 * d.length ∧ r = .tuple #[.int .u32 0, .bool false] ∧ L' = [(p, cl [.slice fa d.length fc, .int .i64 (t : Int)] 59)] :: L)) := by
  refine Gv.of_body Tryz.func46 rfl rfl ?_
  (repeat' first|refine kW ?_|refine kU fun bk=>?_|refine kV fun hc=>?_|refine kZ (fun hc=>?_) fun hc=>?_|fail)
  refine OW_callP rfl rfl rfl (bleft_n p d.length t fa fc _ _ Fnd.here hl ht) rfl ?_
  (repeat' first|refine kW ?_|refine kU fun bk=>?_|refine kV fun hc=>?_|refine kZ (fun hc=>?_) fun hc=>?_|fail)
  · refine WQ_retI (rs := [.tmp 4, .tmp 5]) (vs := [.int .u32 0, .bool false]) rfl rfl ?_
    exact ⟨_, iC, .inr ⟨by omega, rfl, rfl⟩⟩
  refine WC_loop (X := Nat) (fun k => [(0, .pointer (some ⟨p, 0, none⟩)), (1, .int .i64 (n : Int)), (6, .int .u32 ((val d / 2 ^ t % 2 ^ k : Nat) : Int)), (7, .int .i64 (k : Int))])
    (fun k => [(p, cl [.slice fa d.length fc, .int .i64 ((t + k : Nat) : Int)] 59)] :: L) (fun k => k ≤ n) (fun k => n - k) 0 (Nat.zero_le _) (Sub.cons rfl (Sub.cons rfl (Sub.cons (by rw [Nat.pow_zero, Nat.mod_one]; rfl) iS))) (fun w h => h) ?_
  intro k hk
  (repeat' first|refine kW ?_|refine kU fun bk=>?_|refine kV fun hc=>?_|refine kZ (fun hc=>?_) fun hc=>?_|fail)
  · have hml : val d / 2 ^ t % 2 ^ k < 2 ^ k := Nat.mod_lt _ (Nat.pow_pos (by decide))
    refine OW_call rfl rfl rfl (boneS_n p (t + k) (.slice fa d.length fc) d L hv hl (by omega)) rfl (fun r L' hp => ?_)
    obtain ⟨rfl, rfl⟩ := hp
    have e3 : val d / 2 ^ t % 2 ^ k + val d / 2 ^ (t + k) % 2 * 2 ^ k = val d / 2 ^ t % 2 ^ (k + 1) := by
      rw [Nat.pow_add 2 k 1, Nat.mod_mul, Nat.pow_one, Nat.div_div_eq_div_mul, ← Nat.pow_add, Nat.mul_comm (2 ^ k)]
    have e4 : val d / 2 ^ t % 2 ^ (k + 1) < 2 ^ (k + 1) := Nat.mod_lt _ (Nat.pow_pos (by decide))
    have e5 : 2 ^ (k + 1) ≤ 2 ^ 32 := Nat.pow_le_pow_right (by decide) (by omega)
    (repeat' first|refine kW ?_|refine kU fun bk=>?_|refine kV fun hc=>?_|refine kZ (fun hc=>?_) fun hc=>?_|fail)
    refine OW_EV (EV_nshl (val d / 2 ^ (t + k) % 2) k rfl rfl rfl rfl rfl (by simp only [IntKind.bits]; omega)) rfl ?_
    (repeat' first|refine kW ?_|refine kU fun bk=>?_|refine kV fun hc=>?_|refine kZ (fun hc=>?_) fun hc=>?_|fail)
    refine OW_EV (EV_nor (val d / 2 ^ t % 2 ^ k) (val d / 2 ^ (t + k) % 2) k rfl rfl rfl rfl rfl hml (by simp only [IntKind.bits]; omega)) rfl ?_
    rw [e3]
    (repeat' first|refine kW ?_|refine kU fun bk=>?_|refine kV fun hc=>?_|refine kZ (fun hc=>?_) fun hc=>?_|fail)
    refine WQ_round (X := Nat) (μ := fun k => n - k) (x := k) (k + 1) (by omega) (by omega) iS (fun w h => h)
  · obtain rfl : k = n := by omega
    refine kR ?_
    exact ⟨_, iC, .inl ⟨by omega, rfl, rfl⟩⟩
omit [W0] in
/-- The work in memory. -/
def wkC (p q : Nat) (v : Value) (most e : Nat) : Chunk := [(p, cl [.pointer (some ⟨q, 0, none⟩), v, .int .i64 (most : Int), .int .i64 (e : Int)] 61)]
omit [W0] in
def biC (q : Nat) (fa : Option Addr) (m fc t : Nat) : Chunk := [(q, cl [.slice fa m fc, .int .i64 (t : Int)] 59)]
set_option maxHeartbeats 4000000 in
theorem wfail_n (p q most k e : Nat) (v : Value) (L : List Chunk) :
    Gv Tryz.prog 26 [.pointer (some ⟨p, 0, none⟩), .int .i64 (k : Int)].toArray (wkC p q v most e :: L) (fun r L' => r = .tuple #[] ∧ L' = wkC p q v most (if e = 0 then k else e) :: L) := by
  refine Gv.of_body Tryz.func26 rfl rfl ?_
  unfold wkC
  (repeat' first|refine kW ?_|refine kU fun bk=>?_|refine kV fun hc=>?_|refine kZ (fun hc=>?_) fun hc=>?_|fail)
  · have h0 : e = 0 := by omega
    rw [if_pos h0]
    refine kR ?_
    exact ⟨_, iC, rfl, rfl⟩
  · have h0 : ¬ e = 0 := by omega
    rw [if_neg h0]
    refine kR ?_
    exact ⟨_, iC, rfl, rfl⟩
set_option maxHeartbeats 4000000 in
theorem wtake_n (p q most n : Nat) (v : Value) (fa : Option Addr) (fc : Nat) (d : List UInt8) (s : S6) (L : List Chunk) (hv : Sl L 1 (.slice fa d.length fc) d.length (bsv d)) (hl : d.length ≤ 140737488355328) (ht : s.t ≤ 8 * d.length) (hn : n ≤ 32) :
    Gv Tryz.prog 21 [.pointer (some ⟨p, 0, none⟩), .int .i64 (n : Int)].toArray (wkC p q v most s.e :: biC q fa d.length fc s.t :: L) (fun r L' =>
      r = .int .i64 ((tv d s n : Nat) : Int) ∧ L' = wkC p q v most (tk d s n).e :: biC q fa d.length fc (tk d s n).t :: L ∧ (tk d s n).t ≤ 8 * d.length) := by
  refine Gv.of_body Tryz.func21 rfl rfl ?_
  have hbt := btakeS_n q s.t n fa fc d (wkC p q v most s.e :: L) (sl_there hv) hl ht hn
  have hb32 : val d / 2 ^ s.t % 2 ^ n < 2 ^ 32 := Nat.lt_of_lt_of_le (Nat.mod_lt _ (Nat.pow_pos (by decide))) (Nat.pow_le_pow_right (by decide) hn)
  unfold wkC biC tv tk
  unfold wkC at hbt
  obtain ⟨t, out, e⟩ := s
  simp only at hbt hb32 ht ⊢
  (repeat' first|refine kW ?_|refine kU fun bk=>?_|refine kV fun hc=>?_|refine kZ (fun hc=>?_) fun hc=>?_|fail)
  refine OW_call rfl rfl rfl (Gv.holds hbt (fun w h => iH h)) rfl (fun r L' hp => ?_)
  rcases hp with ⟨h1, rfl, rfl⟩ | ⟨h1, rfl, rfl⟩
  · simp only [if_pos h1]
    (repeat' first|refine kW ?_|refine kU fun bk=>?_|refine kV fun hc=>?_|refine kZ (fun hc=>?_) fun hc=>?_|fail)
    refine kR ?_
    exact ⟨_, iC, rfl, rfl, h1⟩
  · simp only [if_neg h1, fl]
    (repeat' first|refine kW ?_|refine kU fun bk=>?_|refine kV fun hc=>?_|refine kZ (fun hc=>?_) fun hc=>?_|fail)
    · obtain rfl : e = 0 := by omega
      refine kR ?_
      exact ⟨_, iC, rfl, rfl, ht⟩
    · have h0 : ¬ e = 0 := by omega
      simp only [if_neg h0]
      refine kR ?_
      exact ⟨_, iC, rfl, rfl, ht⟩
set_option maxHeartbeats 4000000 in
theorem wput_n (p q most : Nat) (c : UInt8) (v : Value) (s : S6) (C : Chunk) (L : List Chunk) (ho : Ow 5 1 v s.out.length (bsv s.out) C) (hm : most ≤ 1000000) :
    Gv Tryz.prog 48 [.pointer (some ⟨p, 0, none⟩), .int .u8 (c.toNat : Int)].toArray (wkC p q v most s.e :: C :: L) (fun r L' =>
      ∃ v' C', r = .tuple #[] ∧ Ow 5 1 v' (pt most s c).out.length (bsv (pt most s c).out) C' ∧ L' = wkC p q v' most (pt most s c).e :: C' :: L) := by
  refine Gv.of_body Tryz.func48 rfl rfl ?_
  obtain ⟨t, out, e⟩ := s
  simp only at ho ⊢
  obtain ⟨va, vc, rfl⟩ := ow_slc ho
  by_cases h1 : most ≤ out.length
  · have hf := wfail_n p q most 5 e (.slice va out.length vc) (C :: L)
    simp only [pt, if_pos h1, fl_out, fl_e]
    unfold wkC at hf ⊢
    (repeat' first|refine kW ?_|refine kU fun bk=>?_|refine kV fun hc=>?_|refine kZ (fun hc=>?_) fun hc=>?_|fail)
    refine WC_drawAll [] mixed ?_
    (refine WR_t 0 ?_; refine WR_t 1 ?_; refine WR_t 2 ?_; refine WR_t 3 ?_; refine WR_t 4 ?_; refine WR_t 5 ?_; refine WR_t 6 ?_; refine WR_t 7 ?_; refine WR_t 8 ?_; refine WR_t 9 ?_)
    (refine WR_done (by kernel_rfl) ?_)
    (repeat' first|refine kW ?_|refine kU fun bk=>?_|refine kV fun hc=>?_|refine kZ (fun hc=>?_) fun hc=>?_|fail)
    refine OW_call rfl rfl rfl hf rfl (fun r L' hp => ?_)
    obtain ⟨rfl, rfl⟩ := hp
    (repeat' first|refine kW ?_|refine kU fun bk=>?_|refine kV fun hc=>?_|refine kZ (fun hc=>?_) fun hc=>?_|fail)
    refine kR ?_
    exact ⟨_, iC, _, _, rfl, ho, rfl⟩
  · simp only [pt, if_neg h1]
    unfold wkC
    (repeat' first|refine kW ?_|refine kU fun bk=>?_|refine kV fun hc=>?_|refine kZ (fun hc=>?_) fun hc=>?_|fail)
    refine WC_drawAll [] mixed ?_
    (refine WR_t 0 ?_; refine WR_t 1 ?_; refine WR_t 2 ?_; refine WR_t 3 ?_; refine WR_t 4 ?_; refine WR_t 5 ?_; refine WR_t 6 ?_; refine WR_t 7 ?_; refine WR_t 8 ?_; refine WR_t 9 ?_)
    (refine WR_done (by kernel_rfl) ?_)
    (repeat' first|refine kW ?_|refine kU fun bk=>?_|refine kV fun hc=>?_|refine kZ (fun hc=>?_) fun hc=>?_|fail)
    refine OW_buildSlice (cs := [.int .u8 (c.toNat : Int)]) rfl (by rfl) (by first | (simp [fillL, patch, Value.cells, zeros]; done) | (simp [fillL, patch, Value.cells, zeros]; rfl)) (by omega) rfl rfl (fun bn => ?_)
    (repeat' first|refine kW ?_|refine kU fun bk=>?_|refine kV fun hc=>?_|refine kZ (fun hc=>?_) fun hc=>?_|fail)
    refine OW_append rfl rfl ho (sl_cells (k := 1) (c := #[.int .u8 (c.toNat : Int)]) (xs := [.int .u8 (c.toNat : Int)]) (m := 1) Fnd.here rfl (by simp)) (by repeat (first | exact Zip.here _ | apply Zip.there)) rfl (by rfl) (by omega) (by simp [maxLen]; omega) rfl (fun v' C' ho' _ _ => ?_)
    (repeat' first|refine kW ?_|refine kU fun bk=>?_|refine kV fun hc=>?_|refine kZ (fun hc=>?_) fun hc=>?_|fail)
    refine OW_storeTo [.pointer (some ⟨q, 0, none⟩), v', .int .i64 (most : Int), .int .i64 (e : Int)] rfl rfl (by rcases ho' with ⟨rfl, _⟩ | ⟨_, _, _, rfl, _⟩ <;> rfl) rfl iU (by simp) ?_
    (repeat' first|refine kW ?_|refine kU fun bk=>?_|refine kV fun hc=>?_|refine kZ (fun hc=>?_) fun hc=>?_|fail)
    refine kR ?_
    rw [List.length_append, show bsv (out ++ [c]) = bsv out ++ [Value.int .u8 (c.toNat : Int)] from by simp [bsv]]
    exact ⟨_, iC, v', C', rfl, ho', rfl⟩
set_option maxHeartbeats 4000000 in
theorem wsym_n (p q most : Nat) (v : Value) (a : Option Addr) (c : Nat) (ls : List Int) (fa : Option Addr) (fc : Nat) (d : List UInt8) (s : S6) (L : List Chunk) (h : Sl L 1 (.slice a ls.length c) ls.length (intsN ls)) (hok : cdE ls = 0)
    (hv : Sl L 1 (.slice fa d.length fc) d.length (bsv d)) (hl : d.length ≤ 140737488355328) (ht : s.t ≤ 8 * d.length) :
    Gv Tryz.prog 49 [.pointer (some ⟨p, 0, none⟩), .slice a ls.length c].toArray (wkC p q v most s.e :: biC q fa d.length fc s.t :: L) (fun r L' =>
      r = .int .i64 ((sv d s (nl ls) : Nat) : Int) ∧ L' = wkC p q v most (sy d s (nl ls)).e :: biC q fa d.length fc (sy d s (nl ls)).t :: L ∧ (sy d s (nl ls)).t ≤ 8 * d.length) := by
  refine Gv.of_body Tryz.func49 rfl rfl ?_
  obtain ⟨t, out, e⟩ := s
  simp only at ht ⊢
  by_cases h1 : e = 0
  · have hr := refreadS_n a c ls fa fc q t d (biC q fa d.length fc t) (wkC p q v most e :: L) (sl_there h) hok ⟨ht, rfl, sl_there hv⟩ hl
    simp only [sy, sv, if_pos h1]
    subst h1
    generalize rdS (nl ls) (val d) t (8 * d.length) 16 0 = z at hr ⊢
    obtain ⟨z1, z2, z3⟩ := z
    simp only at hr ⊢
    have hf := wfail_n p q most z2 0 v (biC q fa d.length fc (t + z3) :: L)
    simp only [fl_e, fl_t, if_true]
    unfold wkC biC at hr hf ⊢
    (repeat' first|refine kW ?_|refine kU fun bk=>?_|refine kV fun hc=>?_|refine kZ (fun hc=>?_) fun hc=>?_|fail)
    refine OW_call rfl rfl rfl (Gv.holds hr (fun w h => iH h)) rfl (fun r L' hp => ?_)
    obtain ⟨D', rfl, ⟨ht2, rfl, _⟩, rfl⟩ := hp
    (repeat' first|refine kW ?_|refine kU fun bk=>?_|refine kV fun hc=>?_|refine kZ (fun hc=>?_) fun hc=>?_|fail)
    refine OW_call rfl rfl rfl (Gv.holds hf (fun w h => iH h)) rfl (fun r L' hp => ?_)
    obtain ⟨rfl, rfl⟩ := hp
    simp only [if_true]
    (repeat' first|refine kW ?_|refine kU fun bk=>?_|refine kV fun hc=>?_|refine kZ (fun hc=>?_) fun hc=>?_|fail)
    refine kR ?_
    exact ⟨_, iC, rfl, rfl, ht2⟩
  · simp only [sy, sv, if_neg h1]
    unfold wkC biC
    (repeat' first|refine kW ?_|refine kU fun bk=>?_|refine kV fun hc=>?_|refine kZ (fun hc=>?_) fun hc=>?_|fail)
    refine kR ?_
    exact ⟨_, iC, rfl, rfl, ht⟩
end Go.Proofs.YtdcehmhelfohfaaGreatDoor
namespace Go.Proofs.YtdcehmhelfohfaaGreatDoor
open Go Go.Vx Go.Hf Go.If
variable [W0]
set_option maxRecDepth 4000
set_option linter.all false
set_option maxHeartbeats 8000000 in
theorem wstored_n (p q most : Nat) (v : Value) (fa : Option Addr) (fc : Nat) (d : List UInt8) (s : S6) (C : Chunk) (L : List Chunk) (hv : Sl L 1 (.slice fa d.length fc) d.length (bsv d)) (hl : d.length ≤ 1000000) (ht : s.t ≤ 8 * d.length) (hm : most ≤ 1000000)
    (ho : Ow 5 1 v s.out.length (bsv s.out) C) :
    Gv Tryz.prog 22 [.pointer (some ⟨p, 0, none⟩)].toArray (wkC p q v most s.e :: biC q fa d.length fc s.t :: C :: L) (fun r L' =>
      ∃ v' C', r = .tuple #[] ∧ Ow 5 1 v' (stS d most s).out.length (bsv (stS d most s).out) C' ∧ L' = wkC p q v' most (stS d most s).e :: biC q fa d.length fc (stS d most s).t :: C' :: L ∧ (stS d most s).t ≤ 8 * d.length) := by
  refine Gv.of_body Tryz.func22 rfl rfl ?_
  have hst : stS d most s = stL d most (tv d ⟨8 * ((s.t + 7) / 8), s.out, s.e⟩ 16) (if tv d ⟨8 * ((s.t + 7) / 8), s.out, s.e⟩ 16 + tv d (tk d ⟨8 * ((s.t + 7) / 8), s.out, s.e⟩ 16) 16 = 65535 then tk d (tk d ⟨8 * ((s.t + 7) / 8), s.out, s.e⟩ 16) 16 else fl (tk d (tk d ⟨8 * ((s.t + 7) / 8), s.out, s.e⟩ 16) 16) 3) := rfl
  rw [hst]
  clear hst
  have hal := balignS_n q s.t (.slice fa d.length fc) (wkC p q v most s.e :: C :: L) (by omega)
  obtain ⟨s0, hs0⟩ : ∃ s0 : S6, s0 = ⟨8 * ((s.t + 7) / 8), s.out, s.e⟩ := ⟨_, rfl⟩
  have e0 : s.e = s0.e := by rw [hs0]
  have et : 8 * ((s.t + 7) / 8) = s0.t := by rw [hs0]
  have eo : s.out = s0.out := by rw [hs0]
  rw [← hs0]
  rw [e0, et] at hal
  have ht0 : s0.t ≤ 8 * d.length := by omega
  rw [e0]
  rw [eo] at ho
  clear hs0
  have ht1 := wtake_n p q most 16 v fa fc d s0 (C :: L) (sl_there hv) (by omega) ht0 (by omega)
  have ht2 := fun h => wtake_n p q most 16 v fa fc d (tk d s0 16) (C :: L) (sl_there hv) (by omega) h (by omega)
  have hf := wfail_n p q most 3 (tk d (tk d s0 16) 16).e v (biC q fa d.length fc (tk d (tk d s0 16) 16).t :: C :: L)
  have hn1 := tv_lt d s0 16
  have hn2 := tv_lt d (tk d s0 16) 16
  have ho2 : Ow 5 1 v (tk d (tk d s0 16) 16).out.length (bsv (tk d (tk d s0 16) 16).out) C := by rw [tk_out, tk_out]; exact ho
  have hw1 : ∀ v e (L : List Chunk), wkC p q v most e :: L = [(p, cl [.pointer (some ⟨q, 0, none⟩), v, .int .i64 (most : Int), .int .i64 (e : Int)] 61)] :: L := fun _ _ _ => rfl
  obtain ⟨n, hn⟩ : ∃ n, n = tv d s0 16 := ⟨_, rfl⟩
  obtain ⟨m, hm'⟩ : ∃ m, m = tv d (tk d s0 16) 16 := ⟨_, rfl⟩
  rw [← hn] at hn1 ht1 ⊢
  rw [← hm'] at hn2 ht2 ⊢
  rw [hw1]
  (repeat' first|refine kW ?_|refine kU fun bk=>?_|refine kV fun hc=>?_|refine kZ (fun hc=>?_) fun hc=>?_|fail)
  refine OW_call rfl rfl rfl (Gv.holds hal (fun w h => iH h)) rfl (fun r L' hp => ?_)
  obtain ⟨rfl, rfl⟩ := hp
  (repeat' first|refine kW ?_|refine kU fun bk=>?_|refine kV fun hc=>?_|refine kZ (fun hc=>?_) fun hc=>?_|fail)
  refine OW_call rfl rfl rfl (Gv.holds ht1 (fun w h => iH h)) rfl (fun r L' hp => ?_)
  obtain ⟨rfl, rfl, hb1⟩ := hp
  (repeat' first|refine kW ?_|refine kU fun bk=>?_|refine kV fun hc=>?_|refine kZ (fun hc=>?_) fun hc=>?_|fail)
  refine OW_call rfl rfl rfl (ht2 hb1) rfl (fun r L' hp => ?_)
  obtain ⟨rfl, rfl, hb2⟩ := hp
  (repeat' first|refine kW ?_|refine kU fun bk=>?_|refine kV fun hc=>?_|refine kZ (fun hc=>?_) fun hc=>?_|fail)
  · rw [if_neg (show ¬ n + m = 65535 by omega)]
    refine OW_call rfl rfl rfl hf rfl (fun r L' hp => ?_)
    obtain ⟨rfl, rfl⟩ := hp
    rw [show (if (tk d (tk d s0 16) 16).e = 0 then 3 else (tk d (tk d s0 16) 16).e) = (fl (tk d (tk d s0 16) 16) 3).e from (fl_e _ _).symm, show (tk d (tk d s0 16) 16).t = (fl (tk d (tk d s0 16) 16) 3).t from (fl_t _ _).symm]
    rw [← fl_t _ 3] at hb2
    rw [← fl_out _ 3] at ho2
    generalize fl (tk d (tk d s0 16) 16) 3 = s3 at hb2 ho2 ⊢
    clear hf
    (repeat' first|refine kW ?_|refine kU fun bk=>?_|refine kV fun hc=>?_|refine kZ (fun hc=>?_) fun hc=>?_|fail)
    refine WC_loop (X := Nat × S6 × Value × Chunk) (fun x => [(0, .pointer (some ⟨p, 0, none⟩)), (2, .int .i64 (n : Int)), (4, .int .i64 (x.1 : Int))]) (fun x => wkC p q x.2.2.1 most x.2.1.e :: biC q fa d.length fc x.2.1.t :: x.2.2.2 :: L)
      (fun x => x.1 ≤ n ∧ x.2.1.t ≤ 8 * d.length ∧ Ow 5 1 x.2.2.1 x.2.1.out.length (bsv x.2.1.out) x.2.2.2 ∧ stL d most n s3 = stL d most (n - x.1) x.2.1) (fun x => n - x.1) (0, s3, v, C) ⟨Nat.zero_le _, hb2, ho2, rfl⟩ iS (fun w h => h) ?_
    rintro ⟨i, s4, v1, C1⟩ ⟨hi, hst, hov, hsl⟩
    simp only at hi hst hov hsl ⊢
    rw [hw1]
    (repeat' first|refine kW ?_|refine kU fun bk=>?_|refine kV fun hc=>?_|refine kZ (fun hc=>?_) fun hc=>?_|fail)
    · have ht8 := wtake_n p q most 8 v1 fa fc d s4 (C1 :: L) (sl_there hv) (by omega) hst (by omega)
      have hput := fun c => wput_n p q most c v1 (tk d s4 8) C1 (biC q fa d.length fc (tk d s4 8).t :: L) (by rw [tk_out]; exact hov) hm
      have he0 : s4.e = 0 := by omega
      obtain ⟨k, hk⟩ : ∃ k, n - i = k + 1 := ⟨n - i - 1, by omega⟩
      have hk2 : n - (i + 1) = k := by omega
      rw [hk, stL, if_pos he0] at hsl
      refine OW_call rfl rfl rfl ht8 rfl (fun r L' hp => ?_)
      obtain ⟨rfl, rfl, hb8⟩ := hp
      rw [hw1]
      (repeat' first|refine kW ?_|refine kU fun bk=>?_|refine kV fun hc=>?_|refine kZ (fun hc=>?_) fun hc=>?_|fail)
      · have he1 : (tk d s4 8).e = 0 := by omega
        rw [if_pos he1] at hsl
        try rw [wrap_byte]
        have hp1 := hput (UInt8.ofNat (tv d s4 8))
        unfold wkC at hp1
        refine OW_call rfl rfl rfl (Gv.holds hp1 (fun w h => iH h)) rfl (fun r L' hp => ?_)
        obtain ⟨v2, C2, rfl, ho3, rfl⟩ := hp
        (repeat' first|refine kW ?_|refine kU fun bk=>?_|refine kV fun hc=>?_|refine kZ (fun hc=>?_) fun hc=>?_|fail)
        refine WQ_round (X := Nat × S6 × Value × Chunk) (μ := fun x => n - x.1) (x := (i, s4, v1, C1)) (i + 1, pt most (tk d s4 8) (UInt8.ofNat (tv d s4 8)), v2, C2) (by simp only; omega) ⟨by simp only; omega, by simp only; rw [pt_t]; exact hb8, ho3, by simp only; rw [hk2]; exact hsl⟩ iS (fun w h => ?_)
        simp only [pt_t]
        unfold wkC
        exact iH h
      · have he1 : ¬ (tk d s4 8).e = 0 := by omega
        rw [if_neg he1] at hsl
        refine WQ_round (X := Nat × S6 × Value × Chunk) (μ := fun x => n - x.1) (x := (i, s4, v1, C1)) (i + 1, tk d s4 8, v1, C1) (by simp only; omega) ⟨by simp only; omega, hb8, by simp only; rw [tk_out]; exact hov, by simp only; rw [hk2]; exact hsl⟩ iS (fun w h => h)
    · have he0 : ¬ s4.e = 0 := by omega
      obtain ⟨k, hk⟩ : ∃ k, n - i = k + 1 := ⟨n - i - 1, by omega⟩
      rw [hk, stL, if_neg he0] at hsl
      rw [hsl]
      refine kR ?_
      exact ⟨_, iC, v1, C1, rfl, hov, rfl, hst⟩
    · rw [show n - i = 0 from by omega, stL] at hsl
      rw [hsl]
      refine kR ?_
      exact ⟨_, iC, v1, C1, rfl, hov, rfl, hst⟩
  · refine OW_EV (EV_bit (r := ((n &&& m : Nat) : Int)) rfl rfl (bit_and16 hn1 hn2)) rfl ?_
    rw [and_compl (show n + m = 65535 by omega), if_pos (show n + m = 65535 by omega)]
    generalize tk d (tk d s0 16) 16 = s3 at hb2 ho2 ⊢
    (repeat' first|refine kW ?_|refine kU fun bk=>?_|refine kV fun hc=>?_|refine kZ (fun hc=>?_) fun hc=>?_|fail)
    refine WC_loop (X := Nat × S6 × Value × Chunk) (fun x => [(0, .pointer (some ⟨p, 0, none⟩)), (2, .int .i64 (n : Int)), (4, .int .i64 (x.1 : Int))]) (fun x => wkC p q x.2.2.1 most x.2.1.e :: biC q fa d.length fc x.2.1.t :: x.2.2.2 :: L)
      (fun x => x.1 ≤ n ∧ x.2.1.t ≤ 8 * d.length ∧ Ow 5 1 x.2.2.1 x.2.1.out.length (bsv x.2.1.out) x.2.2.2 ∧ stL d most n s3 = stL d most (n - x.1) x.2.1) (fun x => n - x.1) (0, s3, v, C) ⟨Nat.zero_le _, hb2, ho2, rfl⟩ iS (fun w h => h) ?_
    rintro ⟨i, s4, v1, C1⟩ ⟨hi, hst, hov, hsl⟩
    simp only at hi hst hov hsl ⊢
    rw [hw1]
    (repeat' first|refine kW ?_|refine kU fun bk=>?_|refine kV fun hc=>?_|refine kZ (fun hc=>?_) fun hc=>?_|fail)
    · have ht8 := wtake_n p q most 8 v1 fa fc d s4 (C1 :: L) (sl_there hv) (by omega) hst (by omega)
      have hput := fun c => wput_n p q most c v1 (tk d s4 8) C1 (biC q fa d.length fc (tk d s4 8).t :: L) (by rw [tk_out]; exact hov) hm
      have he0 : s4.e = 0 := by omega
      obtain ⟨k, hk⟩ : ∃ k, n - i = k + 1 := ⟨n - i - 1, by omega⟩
      have hk2 : n - (i + 1) = k := by omega
      rw [hk, stL, if_pos he0] at hsl
      refine OW_call rfl rfl rfl ht8 rfl (fun r L' hp => ?_)
      obtain ⟨rfl, rfl, hb8⟩ := hp
      rw [hw1]
      (repeat' first|refine kW ?_|refine kU fun bk=>?_|refine kV fun hc=>?_|refine kZ (fun hc=>?_) fun hc=>?_|fail)
      · have he1 : (tk d s4 8).e = 0 := by omega
        rw [if_pos he1] at hsl
        try rw [wrap_byte]
        have hp1 := hput (UInt8.ofNat (tv d s4 8))
        unfold wkC at hp1
        refine OW_call rfl rfl rfl (Gv.holds hp1 (fun w h => iH h)) rfl (fun r L' hp => ?_)
        obtain ⟨v2, C2, rfl, ho3, rfl⟩ := hp
        (repeat' first|refine kW ?_|refine kU fun bk=>?_|refine kV fun hc=>?_|refine kZ (fun hc=>?_) fun hc=>?_|fail)
        refine WQ_round (X := Nat × S6 × Value × Chunk) (μ := fun x => n - x.1) (x := (i, s4, v1, C1)) (i + 1, pt most (tk d s4 8) (UInt8.ofNat (tv d s4 8)), v2, C2) (by simp only; omega) ⟨by simp only; omega, by simp only; rw [pt_t]; exact hb8, ho3, by simp only; rw [hk2]; exact hsl⟩ iS (fun w h => ?_)
        simp only [pt_t]
        unfold wkC
        exact iH h
      · have he1 : ¬ (tk d s4 8).e = 0 := by omega
        rw [if_neg he1] at hsl
        refine WQ_round (X := Nat × S6 × Value × Chunk) (μ := fun x => n - x.1) (x := (i, s4, v1, C1)) (i + 1, tk d s4 8, v1, C1) (by simp only; omega) ⟨by simp only; omega, hb8, by simp only; rw [tk_out]; exact hov, by simp only; rw [hk2]; exact hsl⟩ iS (fun w h => h)
    · have he0 : ¬ s4.e = 0 := by omega
      obtain ⟨k, hk⟩ : ∃ k, n - i = k + 1 := ⟨n - i - 1, by omega⟩
      rw [hk, stL, if_neg he0] at hsl
      rw [hsl]
      refine kR ?_
      exact ⟨_, iC, v1, C1, rfl, hov, rfl, hst⟩
    · rw [show n - i = 0 from by omega, stL] at hsl
      rw [hsl]
      refine kR ?_
      exact ⟨_, iC, v1, C1, rfl, hov, rfl, hst⟩
end Go.Proofs.YtdcehmhelfohfaaGreatDoor
namespace Go.Proofs.YtdcehmhelfohfaaGreatDoor
open Go Go.Vx Go.Hf Go.If
variable [W0]
set_option maxRecDepth 4000
set_option linter.all false
theorem icn_getv {l : List Nat} {i : Nat} (h : i < l.length) : (intsN (icn l))[i]? = some (.int .i64 (l.getD i 0 : Int)) := by simp [intsN, icn, List.getD, h]
set_option maxHeartbeats 2000000 in
theorem exb_n (s g st : Nat) (L : List Chunk) (hs : s ≤ 1000) (hg : 0 < g) (hst : st ≤ 1000) :
    GvP Tryz.prog 107 [.int .i64 (s : Int), .int .i64 (g : Int), .int .i64 (st : Int)].toArray L (.int .i64 ((exB s g st : Nat) : Int)) := by
  refine Gv.of_body Tryz.func107 rfl rfl ?_
  unfold exB
  (repeat' first|refine kW ?_|refine kU fun bk=>?_|refine kV fun hc=>?_|refine kZ (fun hc=>?_) fun hc=>?_|fail)
  · rw [if_pos (show s < st by omega)]
    exact kE
  · rw [if_neg (show ¬ s < st by omega)]
    have hq : (s - st) / g ≤ s - st := Nat.div_le_self _ _
    refine OW_EV (EV_quoN (s - st) g rfl rfl (by omega) rfl (by omega) (by omega)) rfl ?_
    generalize (s - st) / g = z at hq ⊢
    (repeat' first|refine kW ?_|refine kU fun bk=>?_|refine kV fun hc=>?_|refine kZ (fun hc=>?_) fun hc=>?_|fail)
    refine kR ?_
    exact ⟨L, iC, by simp; rfl, rfl⟩
set_option maxHeartbeats 4000000 in
theorem base_n (first s g st B : Nat) (L : List Chunk) (hf : first ≤ 1000) (hs : s ≤ 100) (hg : 0 < g) (hst : st ≤ 1000) (hB : ∀ i, i ≤ s → exB i g st ≤ 20) :
    GvP Tryz.prog 82 [.int .i64 (first : Int), .int .i64 (s : Int), .int .i64 (g : Int), .int .i64 (st : Int)].toArray L (.tuple #[.int .i64 ((baB first g st s : Nat) : Int), .int .i64 ((exB s g st : Nat) : Int)]) := by
  refine Gv.of_body Tryz.func82 rfl rfl ?_
  (repeat' first|refine kW ?_|refine kU fun bk=>?_|refine kV fun hc=>?_|refine kZ (fun hc=>?_) fun hc=>?_|fail)
  refine WC_loop (X := Nat) (fun i => [(0, .int .i64 (first : Int)), (1, .int .i64 (s : Int)), (2, .int .i64 (g : Int)), (3, .int .i64 (st : Int)), (10, .int .i64 ((baB first g st i : Nat) : Int)), (11, .int .i64 (i : Int))]) (fun _ => L)
    (fun i => i ≤ s ∧ baB first g st i ≤ 1000 + i * 1048576) (fun i => s - i) 0 ⟨Nat.zero_le _, by show first ≤ _; omega⟩ iS (fun w h => h) ?_
  rintro i ⟨hi, hb⟩
  (repeat' first|refine kW ?_|refine kU fun bk=>?_|refine kV fun hc=>?_|refine kZ (fun hc=>?_) fun hc=>?_|fail)
  · have hx := hB i (by omega)
    have hp : 2 ^ exB i g st ≤ 2 ^ 20 := Nat.pow_le_pow_right (by decide) hx
    have hnx : baB first g st (i + 1) = baB first g st i + 2 ^ exB i g st := rfl
    refine OW_callP rfl rfl rfl (exb_n i g st L (by omega) hg hst) rfl ?_
    (repeat' first|refine kW ?_|refine kU fun bk=>?_|refine kV fun hc=>?_|refine kZ (fun hc=>?_) fun hc=>?_|fail)
    refine OW_EV (EV_shl64 1 (exB i g st) rfl rfl rfl rfl (by omega) (by omega)) rfl ?_
    (repeat' first|refine kW ?_|refine kU fun bk=>?_|refine kV fun hc=>?_|refine kZ (fun hc=>?_) fun hc=>?_|fail)
    rw [Nat.one_mul, ← Int.natCast_add, ← hnx]
    refine WQ_round (X := Nat) (μ := fun i => s - i) (x := i) (i + 1) (by omega) ⟨by omega, by omega⟩ iS (fun w h => h)
  · obtain rfl : i = s := by omega
    refine OW_callP rfl rfl rfl (exb_n i g st L (by omega) hg hst) rfl ?_
    (repeat' first|refine kW ?_|refine kU fun bk=>?_|refine kV fun hc=>?_|refine kZ (fun hc=>?_) fun hc=>?_|fail)
    refine kR ?_
    exact ⟨L, iC, rfl, rfl⟩
set_option maxHeartbeats 4000000 in
theorem single_n (a : Option Addr) (c : Nat) (l : List Nat) (L : List Chunk) (h : Sl L 1 (.slice a l.length c) l.length (intsN (icn l))) (hl : l.length ≤ 1000) :
    GvP Tryz.prog 53 [.slice a l.length c].toArray L (.bool (sgl l)) := by
  refine Gv.of_body Tryz.func53 rfl rfl ?_
  (repeat' first|refine kW ?_|refine kU fun bk=>?_|refine kV fun hc=>?_|refine kZ (fun hc=>?_) fun hc=>?_|fail)
  refine WC_loop (X := Nat) (fun i => [(0, .slice a l.length c), (3, .int .i64 (((l.take i).sum : Nat) : Int)), (4, .int .i64 (i : Int))]) (fun _ => L)
    (fun i => i ≤ l.length ∧ (l.take i).all (fun x => decide (x ≤ 1)) = true ∧ (l.take i).sum ≤ i) (fun i => l.length - i) 0 ⟨Nat.zero_le _, rfl, Nat.le_refl _⟩ iS (fun w h => h) ?_
  rintro i ⟨hi, hal, hsm⟩
  (repeat' first|refine kW ?_|refine kU fun bk=>?_|refine kV fun hc=>?_|refine kZ (fun hc=>?_) fun hc=>?_|fail)
  · have hlt : i < l.length := by omega
    obtain ⟨b, off, cap, cc, T, fr, hve, hfn, hcell⟩ := sl_at h (icn_getv hlt)
    injection hve with q1 q2 q3
    subst q1 q3
    clear q2
    have hg : l.getD i 0 = l[i] := by simp [List.getD, hlt]
    have htk : l.take (i + 1) = l.take i ++ [l.getD i 0] := by rw [List.take_add_one, List.getElem?_eq_getElem hlt, hg]; rfl
    have hmem : l.getD i 0 ∈ l := by rw [hg]; exact List.getElem_mem _
    obtain ⟨x, hx⟩ : ∃ x, x = l.getD i 0 := ⟨_, rfl⟩
    rw [← hx] at hcell htk hmem
    refine OW_EV (EV_indexAddr (j := i) rfl rfl rfl hlt) rfl ?_
    (repeat' first|refine kW ?_|refine kU fun bk=>?_|refine kV fun hc=>?_|refine kZ (fun hc=>?_) fun hc=>?_|fail)
    refine OW_EV (EV_load rfl hfn hcell) rfl ?_
    (repeat' first|refine kW ?_|refine kU fun bk=>?_|refine kV fun hc=>?_|refine kZ (fun hc=>?_) fun hc=>?_|fail)
    · refine kR ?_
      refine ⟨L, iC, congrArg Value.bool (show false = sgl l from ?_), rfl⟩
      have : l.all (fun x => decide (x ≤ 1)) = false := by
        rw [← Bool.not_eq_true, List.all_eq_true]
        intro hh
        have := hh x hmem
        simp at this
        omega
      unfold sgl
      rw [this]
      rfl
    · refine OW_EV (EV_indexAddr (j := i) rfl rfl rfl hlt) rfl ?_
      (repeat' first|refine kW ?_|refine kU fun bk=>?_|refine kV fun hc=>?_|refine kZ (fun hc=>?_) fun hc=>?_|fail)
      refine OW_EV (EV_load rfl hfn hcell) rfl ?_
      (repeat' first|refine kW ?_|refine kU fun bk=>?_|refine kV fun hc=>?_|refine kZ (fun hc=>?_) fun hc=>?_|fail)
      have hs2 : (((l.take (i + 1)).sum : Nat) : Int) = ((l.take i).sum : Int) + (x : Int) := by rw [htk, List.sum_append]; simp
      refine WQ_round (X := Nat) (μ := fun i => l.length - i) (x := i) (i + 1) (by omega) ⟨by omega, by rw [htk, List.all_append, hal]; simp; omega, by rw [htk, List.sum_append]; simp; omega⟩ ?_ (fun w h => h)
      simp only [hs2]
      exact iS
  · obtain rfl : i = l.length := by omega
    rw [List.take_length] at hal hsm ⊢
    refine kR ?_
    refine ⟨L, iC, congrArg Value.bool (show decide ((l.sum : Int) < 2) = sgl l from ?_), rfl⟩
    unfold sgl
    rw [hal, Bool.true_and]
    exact decide_eq_decide.2 (by omega)
end Go.Proofs.YtdcehmhelfohfaaGreatDoor
namespace Go.Proofs.YtdcehmhelfohfaaGreatDoor
open Go Go.Vx Go.Hf Go.If
variable [W0]
set_option maxRecDepth 4000
set_option linter.all false
omit [W0] in
def fxP (i : Nat) : List Nat := (List.range i).map fxN
theorem fxP_step (i : Nat) : intsN (icn (fxP i)) ++ [Value.int .i64 (fxN i : Int)] = intsN (icn (fxP (i + 1))) := by simp [intsN, icn, fxP, List.range_succ]
theorem rep_step (i : Nat) : intsN (icn (List.replicate i 5)) ++ [Value.int .i64 5] = intsN (icn (List.replicate (i + 1) 5)) := by simp [intsN, icn, List.replicate_succ']
set_option maxHeartbeats 8000000 in
theorem fixed_n (L : List Chunk) : Gv Tryz.prog 23 #[] L (fun r L' => ∃ u v C D, r = .tuple #[u, v] ∧ L' = D :: C :: L ∧ Ow 3 1 u 288 (intsN (icn fxL)) C ∧ Ow 3 1 v 32 (intsN (icn fxD)) D) := by
  refine Gv.of_body (args := []) Tryz.func23 rfl rfl ?_
  (repeat' first|refine kW ?_|refine kU fun bk=>?_|refine kV fun hc=>?_|refine kZ (fun hc=>?_) fun hc=>?_|fail)
  refine WC_loop (X := Nat × Value × Chunk) (fun x => [(2, x.2.1), (3, .slice none 0 0), (4, .int .i64 (x.1 : Int))]) (fun x => x.2.2 :: L)
    (fun x => x.1 ≤ 288 ∧ Ow 3 1 x.2.1 x.1 (intsN (icn (fxP x.1))) x.2.2) (fun x => 288 - x.1) (0, .slice none 0 0, []) ⟨Nat.zero_le _, .inl ⟨rfl, rfl, rfl, rfl⟩⟩ iS (fun w h => Holds.nil.2 h) ?_
  rintro ⟨i, v, C⟩ ⟨hi, ho⟩
  simp only at hi ho ⊢
  have hst := fxP_step i
  (repeat' first|refine kW ?_|refine kU fun bk=>?_|refine kV fun hc=>?_|refine kZ (fun hc=>?_) fun hc=>?_|fail)
  · have e : fxN i = 9 := by
      unfold fxN
      repeat' split
      all_goals omega
    rw [e] at hst
    refine OW_buildSlice (cs := [.int .i64 9]) rfl (by rfl) (by first | (simp [fillL, patch, Value.cells, zeros]; done) | (simp [fillL, patch, Value.cells, zeros]; rfl)) (by omega) rfl rfl (fun bn => ?_)
    (repeat' first|refine kW ?_|refine kU fun bk=>?_|refine kV fun hc=>?_|refine kZ (fun hc=>?_) fun hc=>?_|fail)
    refine OW_append rfl rfl ho (sl_cells (k := 1) (c := #[.int .i64 9]) (xs := [.int .i64 9]) (m := 1) Fnd.here rfl (by simp)) (by repeat (first | exact Zip.here _ | apply Zip.there)) rfl (by rfl) (by omega) (by simp [maxLen]; omega) rfl (fun v' C' ho' _ _ => ?_)
    rw [show [Value.int IntKind.i64 9] = [Value.int .i64 ((9 : Nat) : Int)] from rfl, hst] at ho'
    (repeat' first|refine kW ?_|refine kU fun bk=>?_|refine kV fun hc=>?_|refine kZ (fun hc=>?_) fun hc=>?_|fail)
    refine WQ_round (X := Nat × Value × Chunk) (μ := fun x => 288 - x.1) (x := (i, v, C)) (i + 1, v', C') (by simp only; omega) ⟨by simp only; omega, ho'⟩ iS (fun w h => h.drop)
  · have e : fxN i = 7 := by
      unfold fxN
      repeat' split
      all_goals omega
    rw [e] at hst
    refine OW_buildSlice (cs := [.int .i64 7]) rfl (by rfl) (by first | (simp [fillL, patch, Value.cells, zeros]; done) | (simp [fillL, patch, Value.cells, zeros]; rfl)) (by omega) rfl rfl (fun bn => ?_)
    (repeat' first|refine kW ?_|refine kU fun bk=>?_|refine kV fun hc=>?_|refine kZ (fun hc=>?_) fun hc=>?_|fail)
    refine OW_append rfl rfl ho (sl_cells (k := 1) (c := #[.int .i64 7]) (xs := [.int .i64 7]) (m := 1) Fnd.here rfl (by simp)) (by repeat (first | exact Zip.here _ | apply Zip.there)) rfl (by rfl) (by omega) (by simp [maxLen]; omega) rfl (fun v' C' ho' _ _ => ?_)
    rw [show [Value.int IntKind.i64 7] = [Value.int .i64 ((7 : Nat) : Int)] from rfl, hst] at ho'
    (repeat' first|refine kW ?_|refine kU fun bk=>?_|refine kV fun hc=>?_|refine kZ (fun hc=>?_) fun hc=>?_|fail)
    refine WQ_round (X := Nat × Value × Chunk) (μ := fun x => 288 - x.1) (x := (i, v, C)) (i + 1, v', C') (by simp only; omega) ⟨by simp only; omega, ho'⟩ iS (fun w h => h.drop)
  · have e : fxN i = 8 := by
      unfold fxN
      repeat' split
      all_goals omega
    rw [e] at hst
    refine OW_buildSlice (cs := [.int .i64 8]) rfl (by rfl) (by first | (simp [fillL, patch, Value.cells, zeros]; done) | (simp [fillL, patch, Value.cells, zeros]; rfl)) (by omega) rfl rfl (fun bn => ?_)
    (repeat' first|refine kW ?_|refine kU fun bk=>?_|refine kV fun hc=>?_|refine kZ (fun hc=>?_) fun hc=>?_|fail)
    refine OW_append rfl rfl ho (sl_cells (k := 1) (c := #[.int .i64 8]) (xs := [.int .i64 8]) (m := 1) Fnd.here rfl (by simp)) (by repeat (first | exact Zip.here _ | apply Zip.there)) rfl (by rfl) (by omega) (by simp [maxLen]; omega) rfl (fun v' C' ho' _ _ => ?_)
    rw [show [Value.int IntKind.i64 8] = [Value.int .i64 ((8 : Nat) : Int)] from rfl, hst] at ho'
    (repeat' first|refine kW ?_|refine kU fun bk=>?_|refine kV fun hc=>?_|refine kZ (fun hc=>?_) fun hc=>?_|fail)
    refine WQ_round (X := Nat × Value × Chunk) (μ := fun x => 288 - x.1) (x := (i, v, C)) (i + 1, v', C') (by simp only; omega) ⟨by simp only; omega, ho'⟩ iS (fun w h => h.drop)
  · have e : fxN i = 8 := by
      unfold fxN
      repeat' split
      all_goals omega
    rw [e] at hst
    refine OW_buildSlice (cs := [.int .i64 8]) rfl (by rfl) (by first | (simp [fillL, patch, Value.cells, zeros]; done) | (simp [fillL, patch, Value.cells, zeros]; rfl)) (by omega) rfl rfl (fun bn => ?_)
    (repeat' first|refine kW ?_|refine kU fun bk=>?_|refine kV fun hc=>?_|refine kZ (fun hc=>?_) fun hc=>?_|fail)
    refine OW_append rfl rfl ho (sl_cells (k := 1) (c := #[.int .i64 8]) (xs := [.int .i64 8]) (m := 1) Fnd.here rfl (by simp)) (by repeat (first | exact Zip.here _ | apply Zip.there)) rfl (by rfl) (by omega) (by simp [maxLen]; omega) rfl (fun v' C' ho' _ _ => ?_)
    rw [show [Value.int IntKind.i64 8] = [Value.int .i64 ((8 : Nat) : Int)] from rfl, hst] at ho'
    (repeat' first|refine kW ?_|refine kU fun bk=>?_|refine kV fun hc=>?_|refine kZ (fun hc=>?_) fun hc=>?_|fail)
    refine WQ_round (X := Nat × Value × Chunk) (μ := fun x => 288 - x.1) (x := (i, v, C)) (i + 1, v', C') (by simp only; omega) ⟨by simp only; omega, ho'⟩ iS (fun w h => h.drop)
  · obtain rfl : i = 288 := by omega
    clear hst
    refine WC_loop (X := Nat × Value × Chunk) (fun x => [(2, v), (3, x.2.1), (6, .int .i64 (x.1 : Int))]) (fun x => x.2.2 :: C :: L)
      (fun x => x.1 ≤ 32 ∧ Ow 3 1 x.2.1 x.1 (intsN (icn (List.replicate x.1 5))) x.2.2) (fun x => 32 - x.1) (0, .slice none 0 0, []) ⟨Nat.zero_le _, .inl ⟨rfl, rfl, rfl, rfl⟩⟩ iS (fun w h => Holds.nil.2 h) ?_
    rintro ⟨j, u, D⟩ ⟨hj, hoj⟩
    simp only at hj hoj ⊢
    have hst := rep_step j
    (repeat' first|refine kW ?_|refine kU fun bk=>?_|refine kV fun hc=>?_|refine kZ (fun hc=>?_) fun hc=>?_|fail)
    · refine OW_buildSlice (cs := [.int .i64 5]) rfl (by rfl) (by first | (simp [fillL, patch, Value.cells, zeros]; done) | (simp [fillL, patch, Value.cells, zeros]; rfl)) (by omega) rfl rfl (fun bn => ?_)
      (repeat' first|refine kW ?_|refine kU fun bk=>?_|refine kV fun hc=>?_|refine kZ (fun hc=>?_) fun hc=>?_|fail)
      refine OW_append rfl rfl hoj (sl_cells (k := 1) (c := #[.int .i64 5]) (xs := [.int .i64 5]) (m := 1) Fnd.here rfl (by simp)) (by repeat (first | exact Zip.here _ | apply Zip.there)) rfl (by rfl) (by omega) (by simp [maxLen]; omega) rfl (fun v' C' ho' _ _ => ?_)
      rw [hst] at ho'
      (repeat' first|refine kW ?_|refine kU fun bk=>?_|refine kV fun hc=>?_|refine kZ (fun hc=>?_) fun hc=>?_|fail)
      refine WQ_round (X := Nat × Value × Chunk) (μ := fun x => 32 - x.1) (x := (j, u, D)) (j + 1, v', C') (by simp only; omega) ⟨by simp only; omega, ho'⟩ iS (fun w h => h.drop)
    · obtain rfl : j = 32 := by omega
      refine kR ?_
      exact ⟨_, iC, v, u, C, D, rfl, rfl, ho, hoj⟩
end Go.Proofs.YtdcehmhelfohfaaGreatDoor
namespace Go.Proofs.YtdcehmhelfohfaaGreatDoor
open Go Go.Vx Go.Hf Go.If
variable [W0]
set_option maxRecDepth 4000
set_option linter.all false
set_option maxHeartbeats 16000000 in
theorem wmatch_n (p q most k : Nat) (v : Value) (a : Option Addr) (c : Nat) (dl : List Nat) (fa : Option Addr) (fc : Nat) (d : List UInt8) (s : S6) (C : Chunk) (L : List Chunk) (hd : Sl L 1 (.slice a dl.length c) dl.length (intsN (icn dl))) (hok : cdE (icn dl) = 0)
    (hv : Sl L 1 (.slice fa d.length fc) d.length (bsv d)) (hl : d.length ≤ 1000000) (ht : s.t ≤ 8 * d.length) (hm : most ≤ 1000000) (ho : Ow 5 1 v s.out.length (bsv s.out) C) (hk1 : 257 ≤ k) (hk2 : k ≤ 1000) :
    Gv Tryz.prog 50 [.pointer (some ⟨p, 0, none⟩), .int .i64 (k : Int), .slice a dl.length c].toArray (wkC p q v most s.e :: biC q fa d.length fc s.t :: C :: L) (fun r L' =>
      ∃ v' C', r = .tuple #[] ∧ Ow 5 1 v' (mtS d most k dl s).out.length (bsv (mtS d most k dl s).out) C' ∧ L' = wkC p q v' most (mtS d most k dl s).e :: biC q fa d.length fc (mtS d most k dl s).t :: C' :: L ∧ (mtS d most k dl s).t ≤ 8 * d.length) := by
  refine Gv.of_body Tryz.func50 rfl rfl ?_
  have hil : (icn dl).length = dl.length := icn_length dl
  by_cases h285 : 285 < k
  · have hf := wfail_n p q most 3 s.e v (biC q fa d.length fc s.t :: C :: L)
    unfold mtS
    simp only [if_pos h285, fl_e, fl_t, fl_out]
    (repeat' first|refine kW ?_|refine kU fun bk=>?_|refine kV fun hc=>?_|refine kZ (fun hc=>?_) fun hc=>?_|fail)
    refine OW_call rfl rfl rfl hf rfl (fun r L' hp => ?_)
    obtain ⟨rfl, rfl⟩ := hp
    (repeat' first|refine kW ?_|refine kU fun bk=>?_|refine kV fun hc=>?_|refine kZ (fun hc=>?_) fun hc=>?_|fail)
    refine kR ?_
    exact ⟨_, iC, v, C, rfl, ho, rfl, ht⟩
  have hms : mtS d most k dl s = if (sy d (tk d s (lnB k).2) dl).e ≠ 0 then sy d (tk d s (lnB k).2) dl
      else if 29 < sv d (tk d s (lnB k).2) dl then fl (sy d (tk d s (lnB k).2) dl) 3
      else mtD d most ((lnB k).1 + tv d s (lnB k).2) (sv d (tk d s (lnB k).2) dl) (sy d (tk d s (lnB k).2) dl) := by
    unfold mtS
    rw [if_neg h285]
  rw [hms]
  clear hms
  have hb0 := base_n 3 (k - 257) 4 8 20 (wkC p q v most s.e :: biC q fa d.length fc s.t :: C :: L) (by omega) (by omega) (by omega) (by omega) (fun i hi => Nat.le_trans (exL_le i (by omega)) (by decide))
  have hbl := baL_le (k - 257) (by omega)
  have hxl := exL_le (k - 257) (by omega)
  obtain ⟨n0, hn0⟩ : ∃ n0, n0 = (lnB k).1 := ⟨_, rfl⟩
  obtain ⟨mo, hmo⟩ : ∃ mo, mo = (lnB k).2 := ⟨_, rfl⟩
  rw [← hn0, ← hmo]
  have hn400 : n0 ≤ 400 ∧ mo ≤ 6 ∧ (k = 285 → n0 = 258 ∧ mo = 0) ∧ (k ≠ 285 → n0 = baB 3 4 8 (k - 257) ∧ mo = exB (k - 257) 4 8) := by
    rw [hn0, hmo]
    unfold lnB
    split
    · exact ⟨by simp, by simp, fun _ => ⟨rfl, rfl⟩, fun h => by omega⟩
    · exact ⟨hbl, hxl, fun h => by omega, fun _ => ⟨rfl, rfl⟩⟩
  obtain ⟨hq1, hq2, hq3, hq4⟩ := hn400
  (repeat' first|refine kW ?_|refine kU fun bk=>?_|refine kV fun hc=>?_|refine kZ (fun hc=>?_) fun hc=>?_|fail)
  rw [show (k : Int) - 257 = ((k - 257 : Nat) : Int) from by omega]
  refine OW_callP rfl rfl rfl hb0 rfl ?_
  (repeat' first|refine kY ?_|refine kU fun bk=>?_|refine kV fun hc=>?_|refine kZ (fun hc=>?_) fun hc=>?_|fail)
  refine WC_cut (X := Unit) (fun _ => [(0, .pointer (some ⟨p, 0, none⟩)), (2, .slice a dl.length c), (6, .int .i64 (n0 : Int)), (7, .int .i64 (mo : Int))]) (fun _ => wkC p q v most s.e :: biC q fa d.length fc s.t :: C :: L) (fun _ => True) ?_ ?_
  · (repeat' first|refine kW ?_|refine kU fun bk=>?_|refine kV fun hc=>?_|refine kZ (fun hc=>?_) fun hc=>?_|fail)
    · obtain ⟨rfl, rfl⟩ := hq3 (by omega)
      exact WQ_cut () trivial iS (fun w h => h)
    · obtain ⟨e1, e2⟩ := hq4 (by omega)
      rw [← e1, ← e2]
      exact WQ_cut () trivial iS (fun w h => h)
  intro _ _
  clear hb0 hbl hxl hq3 hq4 hn0 hmo
  have ht1 := wtake_n p q most mo v fa fc d s (C :: L) (sl_there hv) (by omega) ht (by omega)
  have hs1 := fun h => wsym_n p q most v a c (icn dl) fa fc d (tk d s mo) (C :: L) (by rw [hil]; exact sl_there hd) hok (sl_there hv) (by omega) h
  rw [hil, nl_icn] at hs1
  have htv := tv_lt d s mo
  have hto := tk_out d s mo
  have hpw : 2 ^ mo ≤ 2 ^ 6 := Nat.pow_le_pow_right (by decide) hq2
  obtain ⟨n, hn⟩ : ∃ n, n = n0 + tv d s mo := ⟨_, rfl⟩
  rw [← hn]
  generalize hz : tv d s mo = z at ht1 htv hn
  generalize tk d s mo = s1 at ht1 hs1 hto ⊢
  rw [← hto] at ho
  (repeat' first|refine kW ?_|refine kU fun bk=>?_|refine kV fun hc=>?_|refine kZ (fun hc=>?_) fun hc=>?_|fail)
  refine OW_call rfl rfl rfl ht1 rfl (fun r L' hp => ?_)
  obtain ⟨rfl, rfl, hb1⟩ := hp
  (repeat' first|refine kW ?_|refine kU fun bk=>?_|refine kV fun hc=>?_|refine kZ (fun hc=>?_) fun hc=>?_|fail)
  rw [show (n0 : Int) + (z : Int) = (n : Int) from by omega]
  refine OW_call rfl rfl rfl (hs1 hb1) rfl (fun r L' hp => ?_)
  obtain ⟨rfl, rfl, hb2⟩ := hp
  have hw1 : ∀ v e (L : List Chunk), wkC p q v most e :: L = [(p, cl [.pointer (some ⟨q, 0, none⟩), v, .int .i64 (most : Int), .int .i64 (e : Int)] 61)] :: L := fun _ _ _ => rfl
  have hso := sy_out d s1 dl
  generalize sv d s1 dl = t
  generalize sy d s1 dl = s2 at hb2 hso ⊢
  rw [← hso] at ho
  clear hs1 ht1
  rw [hw1]
  (repeat' first|refine kW ?_|refine kU fun bk=>?_|refine kV fun hc=>?_|refine kZ (fun hc=>?_) fun hc=>?_|fail)
  · rw [if_pos (show s2.e ≠ 0 by omega)]
    refine kR ?_
    exact ⟨_, iC, v, C, rfl, ho, rfl, hb2⟩
  · rw [if_neg (show ¬ s2.e ≠ 0 by omega), if_pos (show 29 < t by omega)]
    have hf := wfail_n p q most 3 s2.e v (biC q fa d.length fc s2.t :: C :: L)
    simp only [fl_e, fl_t, fl_out]
    refine OW_call rfl rfl rfl hf rfl (fun r L' hp => ?_)
    obtain ⟨rfl, rfl⟩ := hp
    (repeat' first|refine kW ?_|refine kU fun bk=>?_|refine kV fun hc=>?_|refine kZ (fun hc=>?_) fun hc=>?_|fail)
    refine kR ?_
    exact ⟨_, iC, v, C, rfl, ho, rfl, hb2⟩
  rw [if_neg (show ¬ s2.e ≠ 0 by omega), if_neg (show ¬ 29 < t by omega)]
  have hb0 := base_n 1 t 2 4 20 (wkC p q v most s2.e :: biC q fa d.length fc s2.t :: C :: L) (by omega) (by omega) (by omega) (by omega) (fun i hi => Nat.le_trans (exB_le i (by omega)) (by decide))
  have hbl := baB_le t (by omega)
  have hxl := exB_le t (by omega)
  have hbp := baB_pos t
  unfold mtD
  generalize baB 1 2 4 t = f0 at hb0 hbl hbp ⊢
  generalize exB t 2 4 = mo at hb0 hxl ⊢
  have ht1 := wtake_n p q most mo v fa fc d s2 (C :: L) (sl_there hv) (by omega) hb2 (by omega)
  have htv := tv_lt d s2 mo
  have hto := tk_out d s2 mo
  have hpw : 2 ^ mo ≤ 2 ^ 13 := Nat.pow_le_pow_right (by decide) hxl
  obtain ⟨far, hfar⟩ : ∃ far, far = f0 + tv d s2 mo := ⟨_, rfl⟩
  rw [← hfar]
  generalize tv d s2 mo = z2 at ht1 htv hfar
  generalize tk d s2 mo = s3 at ht1 hto ⊢
  rw [← hto] at ho
  refine OW_callP rfl rfl rfl hb0 rfl ?_
  (repeat' first|refine kW ?_|refine kU fun bk=>?_|refine kV fun hc=>?_|refine kZ (fun hc=>?_) fun hc=>?_|fail)
  refine OW_call rfl rfl rfl ht1 rfl (fun r L' hp => ?_)
  obtain ⟨rfl, rfl, hb3⟩ := hp
  (repeat' first|refine kY ?_|refine kU fun bk=>?_|refine kV fun hc=>?_|refine kZ (fun hc=>?_) fun hc=>?_|fail)
  rw [show (f0 : Int) + (z2 : Int) = (far : Int) from by omega]
  (repeat' first|refine kY ?_|refine kU fun bk=>?_|refine kV fun hc=>?_|refine kZ (fun hc=>?_) fun hc=>?_|fail)
  obtain ⟨s4, hs4⟩ : ∃ s4, s4 = if s3.e = 0 ∧ s3.out.length < far then fl s3 3 else s3 := ⟨_, rfl⟩
  rw [← hs4]
  obtain ⟨va, vc, rfl⟩ := ow_slc ho
  have h4t : s4.t = s3.t := by rw [hs4]; split; exact fl_t _ _; rfl
  have h4o : s4.out = s3.out := by rw [hs4]; split; exact fl_out _ _; rfl
  have h4e : s4.e = if s3.e = 0 ∧ s3.out.length < far then 3 else s3.e := by
    rw [hs4]
    split
    · rename_i h; rw [fl_e, if_pos h.1]
    · rfl
  have h4f : s4.e = 0 → far ≤ s4.out.length := by
    intro h
    rw [h4o]
    rw [h4e] at h
    split at h
    · cases h
    · omega
  refine WC_cut (X := Unit) (fun _ => [(0, .pointer (some ⟨p, 0, none⟩)), (6, .int .i64 (n : Int)), (9, .int .i64 (far : Int))]) (fun _ => wkC p q (.slice va s3.out.length vc) most s4.e :: biC q fa d.length fc s4.t :: C :: L) (fun _ => True) ?_ ?_
  · have hf := wfail_n p q most 3 s3.e (.slice va s3.out.length vc) (biC q fa d.length fc s3.t :: C :: L)
    rw [h4t, hw1, h4e]
    (repeat' first|refine kW ?_|refine kU fun bk=>?_|refine kV fun hc=>?_|refine kZ (fun hc=>?_) fun hc=>?_|fail)
    · rw [if_pos (show s3.e = 0 ∧ s3.out.length < far by omega)]
      rw [if_pos (show s3.e = 0 by omega)] at hf
      refine OW_call rfl rfl rfl hf rfl (fun r L' hp => ?_)
      obtain ⟨rfl, rfl⟩ := hp
      (repeat' first|refine kW ?_|refine kU fun bk=>?_|refine kV fun hc=>?_|refine kZ (fun hc=>?_) fun hc=>?_|fail)
      exact WQ_cut () trivial iS (fun w h => h)
    · rw [if_neg (show ¬ (s3.e = 0 ∧ s3.out.length < far) by omega)]
      exact WQ_cut () trivial iS (fun w h => h)
    · rw [if_neg (show ¬ (s3.e = 0 ∧ s3.out.length < far) by omega)]
      exact WQ_cut () trivial iS (fun w h => h)
  intro _ _
  have ho4 : Ow 5 1 (.slice va s3.out.length vc) s4.out.length (bsv s4.out) C := by rw [h4o]; exact ho
  rw [← h4t] at hb3
  clear hs4 h4e h4t h4o hb0 ht1
  (repeat' first|refine kW ?_|refine kU fun bk=>?_|refine kV fun hc=>?_|refine kZ (fun hc=>?_) fun hc=>?_|fail)
  refine WC_loop (X := Nat × S6 × Value × Chunk) (fun x => [(0, .pointer (some ⟨p, 0, none⟩)), (6, .int .i64 (n : Int)), (9, .int .i64 (far : Int)), (11, .int .i64 (x.1 : Int))]) (fun x => wkC p q x.2.2.1 most x.2.1.e :: biC q fa d.length fc x.2.1.t :: x.2.2.2 :: L)
    (fun x => x.1 ≤ n ∧ x.2.1.t ≤ 8 * d.length ∧ Ow 5 1 x.2.2.1 x.2.1.out.length (bsv x.2.1.out) x.2.2.2 ∧ (x.2.1.e = 0 → far ≤ x.2.1.out.length) ∧ cpL most far n s4 = cpL most far (n - x.1) x.2.1) (fun x => n - x.1) (0, s4, .slice va s3.out.length vc, C) ⟨Nat.zero_le _, hb3, ho4, h4f, rfl⟩ iS (fun w h => h) ?_
  rintro ⟨i, s5, v1, C1⟩ ⟨hi, hst, hov, hfr, hsl⟩
  simp only at hi hst hov hfr hsl ⊢
  obtain ⟨wa, wc, rfl⟩ := ow_slc hov
  rw [hw1]
  (repeat' first|refine kW ?_|refine kU fun bk=>?_|refine kV fun hc=>?_|refine kZ (fun hc=>?_) fun hc=>?_|fail)
  · have he0 : s5.e = 0 := by omega
    have hfr := hfr he0
    obtain ⟨k2, hk2⟩ : ∃ k2, n - i = k2 + 1 := ⟨n - i - 1, by omega⟩
    have hk3 : n - (i + 1) = k2 := by omega
    rw [hk2, cpL, if_pos he0] at hsl
    have hput := wput_n p q most (s5.out.getD (s5.out.length - far) 0) (.slice wa s5.out.length wc) s5 C1 (biC q fa d.length fc s5.t :: L) hov hm
    have hov2 := hov
    rcases hov2 with ⟨_, h1, _⟩ | ⟨b, cap, rest, hve, rfl, hxl, hrl, hmc, hcm⟩
    · omega
    injection hve with e1 e2 e3
    subst e1 e3
    clear e2
    have hcell : (bsv s5.out ++ rest).toArray[(s5.out.length - far) * 1]? = some (.int .u8 ((s5.out.getD (s5.out.length - far) 0).toNat : Int)) := by
      rw [Nat.mul_one]
      simpa using getE_app (r := rest) (bsv_get (l := s5.out) (i := s5.out.length - far) (b := s5.out.getD (s5.out.length - far) 0) (by simp [List.getD, show s5.out.length - far < s5.out.length from by omega]))
    have hlen : s5.out.length ≤ 9223372036854775807 := by simp [maxLen] at hcm; omega
    unfold wkC at hput
    refine WC_drawAll [14] mixed ?_
    (refine WR_t 0 ?_; refine WR_t 1 ?_; refine WR_t 2 ?_; refine WR_t 3 ?_; refine WR_t 4 ?_; refine WR_t 5 ?_; refine WR_t 6 ?_; refine WR_t 7 ?_; refine WR_t 8 ?_; refine WR_t 9 ?_; refine WR_t 10 ?_; refine WR_t 11 ?_)
    rw [show (s5.out.length : Int) - (far : Int) = ((s5.out.length - far : Nat) : Int) from by omega]
    (refine WR_take 12 rfl rfl (by kernel_rfl) iP iC (EV_indexAddr0 (j := s5.out.length - far) (len := s5.out.length) rfl rfl rfl (by omega)) (by rfl) ?_)
    (refine WR_take 13 rfl rfl (by kernel_rfl) iP iC (EV_load rfl (by exact Fnd.there (Fnd.there Fnd.here)) hcell) (by rfl) ?_)
    (refine WR_last 14 (by kernel_rfl) rfl rfl rfl ?_)
    refine OW_call rfl rfl rfl (Gv.holds hput (fun w h => iH h)) rfl (fun r L' hp => ?_)
    obtain ⟨v2, C2, rfl, ho3, rfl⟩ := hp
    (refine WR_done (by kernel_rfl) ?_)
    (repeat' first|refine kW ?_|refine kU fun bk=>?_|refine kV fun hc=>?_|refine kZ (fun hc=>?_) fun hc=>?_|fail)
    have hptt := pt_t most s5 (s5.out.getD (s5.out.length - far) 0)
    have hpf : (pt most s5 (s5.out.getD (s5.out.length - far) 0)).e = 0 → far ≤ (pt most s5 (s5.out.getD (s5.out.length - far) 0)).out.length := by
      intro _
      unfold pt
      split
      · rw [fl_out]; exact hfr
      · simp; omega
    generalize pt most s5 (s5.out.getD (s5.out.length - far) 0) = s6 at hsl ho3 hptt hpf ⊢
    refine WQ_round (X := Nat × S6 × Value × Chunk) (μ := fun x => n - x.1) (x := (i, s5, .slice (some ⟨b, 0, none⟩) s5.out.length wc, [(b, cl (bsv s5.out ++ rest) 5)])) (i + 1, s6, v2, C2) (by simp only; omega) ⟨by simp only; omega, by simp only; rw [hptt]; exact hst, ho3, hpf, by simp only; rw [hk3]; exact hsl⟩ iS (fun w h => ?_)
    simp only [hptt]
    unfold wkC
    exact iH h
  · have he0 : ¬ s5.e = 0 := by omega
    obtain ⟨k2, hk2⟩ : ∃ k2, n - i = k2 + 1 := ⟨n - i - 1, by omega⟩
    rw [hk2, cpL, if_neg he0] at hsl
    rw [hsl]
    refine kR ?_
    exact ⟨_, iC, _, C1, rfl, hov, rfl, hst⟩
  · rw [show n - i = 0 from by omega, cpL] at hsl
    rw [hsl]
    refine kR ?_
    exact ⟨_, iC, _, C1, rfl, hov, rfl, hst⟩
end Go.Proofs.YtdcehmhelfohfaaGreatDoor
namespace Go.Proofs.YtdcehmhelfohfaaGreatDoor
open Go Go.Vx Go.Hf Go.If
variable [W0]
set_option maxRecDepth 4000
set_option linter.all false
set_option maxHeartbeats 16000000 in
theorem wcoded_n (p q most : Nat) (v : Value) (a a2 : Option Addr) (c c2 : Nat) (l dl : List Nat) (fa : Option Addr) (fc : Nat) (d : List UInt8) (s : S6) (C : Chunk) (L : List Chunk) (hls : Sl L 1 (.slice a l.length c) l.length (intsN (icn l))) (hokl : cdE (icn l) = 0) (hll : l.length ≤ 400)
    (hd : Sl L 1 (.slice a2 dl.length c2) dl.length (intsN (icn dl))) (hok : cdE (icn dl) = 0) (hv : Sl L 1 (.slice fa d.length fc) d.length (bsv d)) (hl : d.length ≤ 1000000) (ht : s.t ≤ 8 * d.length) (hm : most ≤ 1000000) (ho : Ow 5 1 v s.out.length (bsv s.out) C) :
    Gv Tryz.prog 24 [.pointer (some ⟨p, 0, none⟩), .slice a l.length c, .slice a2 dl.length c2].toArray (wkC p q v most s.e :: biC q fa d.length fc s.t :: C :: L) (fun r L' =>
      ∃ v' C', r = .tuple #[] ∧ Ow 5 1 v' (cdC d most l dl (8 * d.length + 1) s).out.length (bsv (cdC d most l dl (8 * d.length + 1) s).out) C' ∧ L' = wkC p q v' most (cdC d most l dl (8 * d.length + 1) s).e :: biC q fa d.length fc (cdC d most l dl (8 * d.length + 1) s).t :: C' :: L ∧ (cdC d most l dl (8 * d.length + 1) s).t ≤ 8 * d.length) := by
  refine Gv.of_body Tryz.func24 rfl rfl ?_
  have hil : (icn l).length = l.length := icn_length l
  have hw1 : ∀ v e (L : List Chunk), wkC p q v most e :: L = [(p, cl [.pointer (some ⟨q, 0, none⟩), v, .int .i64 (most : Int), .int .i64 (e : Int)] 61)] :: L := fun _ _ _ => rfl
  generalize hR : cdC d most l dl (8 * d.length + 1) s = R
  (repeat' first|refine kW ?_|refine kU fun bk=>?_|refine kV fun hc=>?_|refine kZ (fun hc=>?_) fun hc=>?_|fail)
  refine WC_loop (X := Nat × S6 × Value × Chunk) (fun x => [(0, .pointer (some ⟨p, 0, none⟩)), (1, .slice a l.length c), (2, .slice a2 dl.length c2)]) (fun x => wkC p q x.2.2.1 most x.2.1.e :: biC q fa d.length fc x.2.1.t :: x.2.2.2 :: L)
    (fun x => x.2.1.t ≤ 8 * d.length ∧ (x.2.1.e = 0 → 8 * d.length < x.1 + x.2.1.t) ∧ Ow 5 1 x.2.2.1 x.2.1.out.length (bsv x.2.1.out) x.2.2.2 ∧ cdC d most l dl x.1 x.2.1 = R) (fun x => x.1) (8 * d.length + 1, s, v, C) ⟨ht, fun _ => by simp only; omega, ho, hR⟩ iS (fun w h => h) ?_
  rintro ⟨f, s1, v1, C1⟩ ⟨hst, hf, hov, hsl⟩
  simp only at hst hf hov hsl ⊢
  rw [hw1]
  (repeat' first|refine kW ?_|refine kU fun bk=>?_|refine kV fun hc=>?_|refine kZ (fun hc=>?_) fun hc=>?_|fail)
  · have he0 : s1.e = 0 := by omega
    have hf := hf he0
    obtain ⟨f, rfl⟩ : ∃ g, f = g + 1 := ⟨f - 1, by omega⟩
    have hs1 := wsym_n p q most v1 a c (icn l) fa fc d s1 (C1 :: L) (by rw [hil]; exact sl_there hls) hokl (sl_there hv) (by omega) hst
    rw [hil, nl_icn] at hs1
    rw [cdC, if_neg (show ¬ s1.e ≠ 0 by omega)] at hsl
    have hgo := fun h => sy_go (d := d) (l := l) he0 h
    have hsv := sv_le d s1 l
    have hso := sy_out d s1 l
    have hpt := fun c => pt_t most (sy d s1 l) c
    have hmt := fun k => mtS_t d most k dl (sy d s1 l)
    rw [← hso] at hov
    generalize sv d s1 l = k at hs1 hsl hsv
    generalize sy d s1 l = s2 at hs1 hsl hgo hso hpt hmt hov
    refine OW_call rfl rfl rfl hs1 rfl (fun r L' hp => ?_)
    obtain ⟨rfl, rfl, hb2⟩ := hp
    rw [hw1]
    (repeat' first|refine kW ?_|refine kU fun bk=>?_|refine kV fun hc=>?_|refine kZ (fun hc=>?_) fun hc=>?_|fail)
    · rw [if_pos (show s2.e ≠ 0 by omega)] at hsl
      have he2 : s2.e ≠ 0 := by omega
      refine WQ_round (X := Nat × S6 × Value × Chunk) (μ := fun x => x.1) (x := (f + 1, s1, v1, C1)) (f, s2, v1, C1) (by simp only; omega) ⟨hb2, fun h => absurd h he2, hov, by simp only; rw [cdC_err he2]; exact hsl⟩ iS (fun w h => h)
    · have hgo := hgo (by omega)
      rw [if_neg (show ¬ s2.e ≠ 0 by omega), if_pos (show k < 256 by omega)] at hsl
      try rw [wrap_byte]
      have hput := wput_n p q most (UInt8.ofNat k) v1 s2 C1 (biC q fa d.length fc s2.t :: L) hov hm
      have hpt := hpt (UInt8.ofNat k)
      unfold wkC at hput
      refine OW_call rfl rfl rfl (Gv.holds hput (fun w h => iH h)) rfl (fun r L' hp => ?_)
      obtain ⟨v2, C2, rfl, ho3, rfl⟩ := hp
      (repeat' first|refine kW ?_|refine kU fun bk=>?_|refine kV fun hc=>?_|refine kZ (fun hc=>?_) fun hc=>?_|fail)
      generalize pt most s2 (UInt8.ofNat k) = s3 at hsl hpt ho3
      refine WQ_round (X := Nat × S6 × Value × Chunk) (μ := fun x => x.1) (x := (f + 1, s1, v1, C1)) (f, s3, v2, C2) (by simp only; omega) ⟨by simp only; omega, fun _ => by simp only; omega, ho3, hsl⟩ iS (fun w h => ?_)
      simp only [hpt]
      unfold wkC
      exact iH h
    · rw [if_neg (show ¬ s2.e ≠ 0 by omega), if_neg (show ¬ k < 256 by omega), if_pos (show k = 256 by omega)] at hsl
      rw [← hsl]
      refine kR ?_
      exact ⟨_, iC, v1, C1, rfl, hov, rfl, hb2⟩
    · have hgo := hgo (by omega)
      rw [if_neg (show ¬ s2.e ≠ 0 by omega), if_neg (show ¬ k < 256 by omega), if_neg (show ¬ k = 256 by omega)] at hsl
      have hmt := hmt k
      have hma := wmatch_n p q most k v1 a2 c2 dl fa fc d s2 C1 L hd hok hv hl hb2 hm hov (by omega) (by omega)
      refine OW_call rfl rfl rfl hma rfl (fun r L' hp => ?_)
      obtain ⟨v2, C2, rfl, ho3, rfl, hb3⟩ := hp
      (repeat' first|refine kW ?_|refine kU fun bk=>?_|refine kV fun hc=>?_|refine kZ (fun hc=>?_) fun hc=>?_|fail)
      generalize mtS d most k dl s2 = s3 at hsl hmt ho3 hb3
      refine WQ_round (X := Nat × S6 × Value × Chunk) (μ := fun x => x.1) (x := (f + 1, s1, v1, C1)) (f, s3, v2, C2) (by simp only; omega) ⟨hb3, fun _ => by simp only; omega, ho3, hsl⟩ iS (fun w h => h)
  · rw [cdC_err (show s1.e ≠ 0 by omega)] at hsl
    rw [← hsl]
    refine kR ?_
    exact ⟨_, iC, v1, C1, rfl, hov, rfl, hst⟩
end Go.Proofs.YtdcehmhelfohfaaGreatDoor
namespace Go.Proofs.YtdcehmhelfohfaaGreatDoor
open Go Go.Vx Go.Hf Go.If
variable [W0]
set_option maxRecDepth 4000
set_option linter.all false
theorem ivn_icn (l : List Nat) : intsN (icn l) = ivn l := by simp [intsN, icn, ivn]
omit [W0] in
/-- The list so far, in memory. -/
def lpC (lp : Nat) (lv : Value) : Chunk := [(lp, cl [lv] 51)]
set_option maxHeartbeats 16000000 in
theorem wrepeat_n (p q lp most m : Nat) (v lv : Value) (a : Option Addr) (c : Nat) (own l : List Nat) (fa : Option Addr) (fc : Nat) (d : List UInt8) (s : S6) (Cl : Chunk) (L : List Chunk) (h : Sl L 1 (.slice a own.length c) own.length (intsN (icn own))) (hok : cdE (icn own) = 0) (hol : own.length = 19)
    (hv : Sl L 1 (.slice fa d.length fc) d.length (bsv d)) (hl : d.length ≤ 1000000) (ht : s.t ≤ 8 * d.length) (he : s.e = 0) (hlv : Ow 3 1 lv l.length (ivn l) Cl) (hlm : l.length ≤ m) (hm : m ≤ 400) :
    Gv Tryz.prog 52 [.pointer (some ⟨p, 0, none⟩), .slice a own.length c, .pointer (some ⟨lp, 0, none⟩), .int .i64 (m : Int)].toArray (wkC p q v most s.e :: biC q fa d.length fc s.t :: lpC lp lv :: Cl :: L) (fun r L' =>
      ∃ lv' Cl', r = .tuple #[] ∧ Ow 3 1 lv' (if (rpS d own m s l).e = 0 then rpL d own s l else l).length (ivn (if (rpS d own m s l).e = 0 then rpL d own s l else l)) Cl' ∧ L' = wkC p q v most (rpS d own m s l).e :: biC q fa d.length fc (rpS d own m s l).t :: lpC lp lv' :: Cl' :: L ∧ (rpS d own m s l).t ≤ 8 * d.length) := by
  refine Gv.of_body Tryz.func52 rfl rfl ?_
  have hw1 : ∀ v e (L : List Chunk), wkC p q v most e :: L = [(p, cl [.pointer (some ⟨q, 0, none⟩), v, .int .i64 (most : Int), .int .i64 (e : Int)] 61)] :: L := fun _ _ _ => rfl
  have hsy := wsym_n p q most v a c (icn own) fa fc d s (lpC lp lv :: Cl :: L) (by rw [icn_length]; exact sl_there (sl_there h)) hok (sl_there (sl_there hv)) (by omega) ht
  rw [icn_length, nl_icn] at hsy
  have hk19 := sv_lt d s (l := own) (by omega)
  have hso := sy_out d s own
  unfold rpS rpL
  generalize sv d s own = k at hsy hk19 ⊢
  generalize sy d s own = s1 at hsy hso ⊢
  obtain ⟨la, lc, rfl⟩ := ow_slc hlv
  (repeat' first|refine kW ?_|refine kU fun bk=>?_|refine kV fun hc=>?_|refine kZ (fun hc=>?_) fun hc=>?_|fail)
  refine OW_call rfl rfl rfl hsy rfl (fun r L' hp => ?_)
  obtain ⟨rfl, rfl, hb1⟩ := hp
  rw [hw1]
  (repeat' first|refine kY ?_|refine kU fun bk=>?_|refine kV fun hc=>?_|refine kZ (fun hc=>?_) fun hc=>?_|fail)
  refine WC_seq ?_
  refine WC_seq ?_
  (repeat' first|refine kY ?_|refine kU fun bk=>?_|refine kV fun hc=>?_|refine kZ (fun hc=>?_) fun hc=>?_|fail)
  · have h1 : s1.e ≠ 0 := by omega
    rw [if_pos h1, if_neg h1]
    refine kR ?_
    exact ⟨_, iC, _, Cl, rfl, hlv, rfl, hb1⟩
  have h1 : s1.e = 0 := by omega
  rw [if_neg (show ¬ s1.e ≠ 0 by omega)]
  refine WC_seq ?_
  (repeat' first|refine kY ?_|refine kU fun bk=>?_|refine kV fun hc=>?_|refine kZ (fun hc=>?_) fun hc=>?_|fail)
  refine WC_seq ?_
  (repeat' first|refine kY ?_|refine kU fun bk=>?_|refine kV fun hc=>?_|refine kZ (fun hc=>?_) fun hc=>?_|fail)
  have htk := fun n hn => wtake_n p q most n v fa fc d s1 (lpC lp (.slice la l.length lc) :: Cl :: L) (sl_there (sl_there hv)) (by omega) hb1 hn
  have hpw : 2 ^ rpB k ≤ 2 ^ 7 := Nat.pow_le_pow_right (by decide) (rpB_le k)
  have htv := tv_lt d s1 (rpB k)
  have hra := rpA_pos k
  have hto := tk_out d s1 (rpB k)
  obtain ⟨n, hn⟩ : ∃ n, n = rpA k + tv d s1 (rpB k) := ⟨_, rfl⟩
  rw [← hn]
  obtain ⟨s2, hs2⟩ : ∃ s2, s2 = tk d s1 (rpB k) := ⟨_, rfl⟩
  rw [← hs2] at hto ⊢
  obtain ⟨s3, hs3⟩ : ∃ s3, s3 = if s2.e = 0 ∧ k = 16 ∧ l = [] then fl s2 3 else s2 := ⟨_, rfl⟩
  have h3t : s3.t = s2.t := by rw [hs3]; split; exact fl_t _ _; rfl
  have h3e : s3.e = if s2.e = 0 ∧ k = 16 ∧ l = [] then 3 else s2.e := by
    rw [hs3]
    split
    · rename_i h; rw [fl_e, if_pos h.1]
    · rfl
  refine WC_cut (X := Nat) (fun x => [(0, .pointer (some ⟨p, 0, none⟩)), (2, .pointer (some ⟨lp, 0, none⟩)), (3, .int .i64 (m : Int)), (9, .int .i64 (x : Int)), (10, .int .i64 (n : Int))]) (fun _ => wkC p q v most s3.e :: biC q fa d.length fc s3.t :: lpC lp (.slice la l.length lc) :: Cl :: L) (fun x => s3.t ≤ 8 * d.length ∧ (s3.e = 0 → x = rpV k l)) ?_ ?_
  · unfold lpC
    unfold lpC at htk
    (repeat' first|refine kW ?_|refine kU fun bk=>?_|refine kV fun hc=>?_|refine kZ (fun hc=>?_) fun hc=>?_|fail)
    · obtain rfl : k = 16 := by omega
      rw [show rpB 16 = 2 from rfl] at hs2 hn htv
      rw [show rpA 16 = 3 from rfl] at hn
      have ht2 := htk 2 (by decide)
      rw [← hs2] at ht2
      clear htk
      generalize tv d s1 2 = z at ht2 hn htv
      refine OW_call rfl rfl rfl (Gv.holds ht2 (fun w h => iH h)) rfl (fun r L' hp => ?_)
      obtain ⟨rfl, rfl, hb2⟩ := hp
      rw [hw1 v s2.e]
      (repeat' first|refine kW ?_|refine kU fun bk=>?_|refine kV fun hc=>?_|refine kZ (fun hc=>?_) fun hc=>?_|fail)
      · have h2 : s2.e = 0 := by omega
        have hl0 : l = [] := List.length_eq_zero_iff.1 (by omega)
        have hf := wfail_n p q most 3 s2.e v (biC q fa d.length fc s2.t :: [(lp, cl [.slice la l.length lc] 51)] :: Cl :: L)
        rw [if_pos h2] at hf
        rw [if_pos ⟨h2, rfl, hl0⟩] at h3e
        refine OW_call rfl rfl rfl hf rfl (fun r L' hp => ?_)
        obtain ⟨rfl, rfl⟩ := hp
        rw [hw1 v 3]
        (repeat' first|refine kW ?_|refine kU fun bk=>?_|refine kV fun hc=>?_|refine kZ (fun hc=>?_) fun hc=>?_|fail)
        exact WQ_cut 16 ⟨by omega, fun hh => by omega⟩ iS (fun w h => by rw [h3e, h3t]; exact h)
      · have h2 : s2.e = 0 := by omega
        have hl0 : ¬ l.length = 0 := by omega
        rw [if_neg (fun hh => hl0 (by rw [hh.2.2]; rfl))] at hs3
        subst hs3
        have hov2 := hlv
        rcases hov2 with ⟨_, h0, _⟩ | ⟨b, cap, rest, hve, rfl, hxl, hrl, hmc, hcm⟩
        · omega
        injection hve with q1 q2 q3
        subst q1 q3
        clear q2
        have hcell : (ivn l ++ rest).toArray[(l.length - 1) * 1]? = some (.int .i64 (l.getD (l.length - 1) 0 : Int)) := by
          rw [Nat.mul_one]
          simpa using getE_app (r := rest) (ivn_get (l := l) (i := l.length - 1) (n := l.getD (l.length - 1) 0) (by simp [List.getD, show l.length - 1 < l.length from by omega]))
        refine WC_drawAll [] mixed ?_
        (refine WR_t 0 ?_; refine WR_t 1 ?_; refine WR_t 2 ?_; refine WR_t 3 ?_; refine WR_t 4 ?_; refine WR_t 5 ?_; refine WR_t 6 ?_; refine WR_t 7 ?_)
        rw [show (l.length : Int) - 1 = ((l.length - 1 : Nat) : Int) from by omega]
        (refine WR_take 8 rfl rfl (by kernel_rfl) iP iC (EV_indexAddr0 (j := l.length - 1) (len := l.length) rfl rfl rfl (by omega)) (by rfl) ?_)
        (refine WR_take 9 rfl rfl (by kernel_rfl) iP iC (EV_load rfl (by exact Fnd.there (Fnd.there (Fnd.there Fnd.here))) hcell) (by rfl) ?_)
        (refine WR_t 10 ?_)
        (refine WR_done (by kernel_rfl) ?_)
        (repeat' first|refine kW ?_|refine kU fun bk=>?_|refine kV fun hc=>?_|refine kZ (fun hc=>?_) fun hc=>?_|fail)
        exact WQ_cut (l.getD (l.length - 1) 0) ⟨hb2, fun _ => by unfold rpV; rw [if_pos rfl]⟩ iS (fun w h => h)
      · have h2 : ¬ s2.e = 0 := by omega
        rw [if_neg (fun hh => h2 hh.1)] at hs3
        subst hs3
        exact WQ_cut 16 ⟨hb2, fun hh => absurd hh h2⟩ iS (fun w h => h)
    · obtain rfl : k = 17 := by omega
      rw [show rpB 17 = 3 from rfl] at hs2 hn htv
      rw [show rpA 17 = 3 from rfl] at hn
      have ht2 := htk 3 (by decide)
      rw [← hs2] at ht2
      rw [if_neg (fun hh => by omega)] at hs3
      subst hs3
      generalize tv d s1 3 = z at ht2 hn htv
      refine OW_call rfl rfl rfl (Gv.holds ht2 (fun w h => iH h)) rfl (fun r L' hp => ?_)
      obtain ⟨rfl, rfl, hb2⟩ := hp
      (repeat' first|refine kW ?_|refine kU fun bk=>?_|refine kV fun hc=>?_|refine kZ (fun hc=>?_) fun hc=>?_|fail)
      exact WQ_cut 0 ⟨hb2, fun _ => rfl⟩ iS (fun w h => h)
    · obtain rfl : k = 18 := by omega
      rw [show rpB 18 = 7 from rfl] at hs2 hn htv
      rw [show rpA 18 = 11 from rfl] at hn
      have ht2 := htk 7 (by decide)
      rw [← hs2] at ht2
      rw [if_neg (fun hh => by omega)] at hs3
      subst hs3
      generalize tv d s1 7 = z at ht2 hn htv
      refine OW_call rfl rfl rfl (Gv.holds ht2 (fun w h => iH h)) rfl (fun r L' hp => ?_)
      obtain ⟨rfl, rfl, hb2⟩ := hp
      (repeat' first|refine kW ?_|refine kU fun bk=>?_|refine kV fun hc=>?_|refine kZ (fun hc=>?_) fun hc=>?_|fail)
      exact WQ_cut 0 ⟨hb2, fun _ => rfl⟩ iS (fun w h => h)
    · have e1 : rpB k = 0 := by unfold rpB; rw [if_neg (by omega), if_neg (by omega), if_neg (by omega)]
      have e2 : rpA k = 1 := by unfold rpA; rw [if_neg (by omega), if_neg (by omega), if_neg (by omega)]
      rw [e1, tk_zero hb1] at hs2
      rw [e1, e2, tv_zero] at hn
      rw [if_neg (fun hh => by omega)] at hs3
      subst hs3 hs2 hn
      exact WQ_cut k ⟨hb1, fun _ => by unfold rpV; rw [if_neg (by omega), if_neg (by omega)]⟩ iS (fun w h => h)
  · rintro x ⟨hb3, hx⟩
    clear htk hs2 htv hsy
    obtain ⟨s4, hs4⟩ : ∃ s4, s4 = if s3.e = 0 ∧ m < l.length + n then fl s3 3 else s3 := ⟨_, rfl⟩
    have h4t : s4.t = s3.t := by rw [hs4]; split; exact fl_t _ _; rfl
    have h4e : s4.e = if s3.e = 0 ∧ m < l.length + n then 3 else s3.e := by
      rw [hs4]
      split
      · rename_i h; rw [fl_e, if_pos h.1]
      · rfl
    have hR : (if s2.e ≠ 0 then s2 else if k = 16 ∧ l = [] ∨ m < l.length + n then fl s2 3 else s2) = s4 := by
      by_cases h2 : s2.e = 0
      · by_cases h16 : k = 16 ∧ l = []
        · have e3 : s3 = fl s2 3 := by rw [hs3, if_pos ⟨h2, h16⟩]
          have e4 : s3.e = 3 := by rw [e3, fl_e, if_pos h2]
          rw [hs4, if_neg (show ¬ (s3.e = 0 ∧ m < l.length + n) from fun hh => by omega), if_neg (show ¬ s2.e ≠ 0 from fun hh => hh h2), if_pos (Or.inl h16), e3]
        · have e3 : s3 = s2 := by rw [hs3, if_neg (fun hh => h16 hh.2)]
          rw [hs4, e3, if_neg (show ¬ s2.e ≠ 0 from fun hh => hh h2)]
          by_cases hm : m < l.length + n
          · rw [if_pos (Or.inr hm), if_pos ⟨h2, hm⟩]
          · rw [if_neg (show ¬ (k = 16 ∧ l = [] ∨ m < l.length + n) from fun hh => hh.elim (fun h => h16 h) (fun h => hm h)), if_neg (show ¬ (s2.e = 0 ∧ m < l.length + n) from fun hh => hm hh.2)]
      · have e3 : s3 = s2 := by rw [hs3, if_neg (fun hh => h2 hh.1)]
        rw [hs4, e3, if_pos h2, if_neg (show ¬ (s2.e = 0 ∧ m < l.length + n) from fun hh => h2 hh.1)]
    rw [hR]
    have h4x : s4.e = 0 → x = rpV k l ∧ l.length + n ≤ m := by
      intro h0
      rw [h4e] at h0
      split at h0
      · cases h0
      · exact ⟨hx h0, by omega⟩
    clear hR hs3 hx h3e h3t hs4
    unfold lpC
    have hb4 : s4.t ≤ 8 * d.length := by omega
    have hw2 : wkC p q v most s3.e = [(p, cl [.pointer (some ⟨q, 0, none⟩), v, .int .i64 (most : Int), .int .i64 (s3.e : Int)] 61)] := rfl
    refine WC_cut (X := Unit) (fun _ => [(0, .pointer (some ⟨p, 0, none⟩)), (2, .pointer (some ⟨lp, 0, none⟩)), (9, .int .i64 (x : Int)), (10, .int .i64 (n : Int))]) (fun _ => wkC p q v most s4.e :: biC q fa d.length fc s4.t :: [(lp, cl [.slice la l.length lc] 51)] :: Cl :: L) (fun _ => True) ?_ ?_
    · have hf := wfail_n p q most 3 s3.e v (biC q fa d.length fc s3.t :: [(lp, cl [.slice la l.length lc] 51)] :: Cl :: L)
      rw [h4t, h4e]
      rw [hw2]
      (repeat' first|refine kW ?_|refine kU fun bk=>?_|refine kV fun hc=>?_|refine kZ (fun hc=>?_) fun hc=>?_|fail)
      · have h3 : s3.e = 0 := by omega
        rw [if_pos (show s3.e = 0 ∧ m < l.length + n by omega)]
        rw [if_pos h3] at hf
        refine OW_call rfl rfl rfl hf rfl (fun r L' hp => ?_)
        obtain ⟨rfl, rfl⟩ := hp
        (repeat' first|refine kW ?_|refine kU fun bk=>?_|refine kV fun hc=>?_|refine kZ (fun hc=>?_) fun hc=>?_|fail)
        exact WQ_cut () trivial iS (fun w h => h)
      · rw [if_neg (show ¬ (s3.e = 0 ∧ m < l.length + n) by omega)]
        exact WQ_cut () trivial iS (fun w h => h)
      · rw [if_neg (show ¬ (s3.e = 0 ∧ m < l.length + n) by omega)]
        exact WQ_cut () trivial iS (fun w h => h)
    intro _ _
    (repeat' first|refine kW ?_|refine kU fun bk=>?_|refine kV fun hc=>?_|refine kZ (fun hc=>?_) fun hc=>?_|fail)
    refine WC_loop (X := Nat × Value × Chunk) (fun y => [(0, .pointer (some ⟨p, 0, none⟩)), (2, .pointer (some ⟨lp, 0, none⟩)), (9, .int .i64 (x : Int)), (10, .int .i64 (n : Int)), (11, .int .i64 (y.1 : Int))]) (fun y => wkC p q v most s4.e :: biC q fa d.length fc s4.t :: [(lp, cl [y.2.1] 51)] :: y.2.2 :: L)
      (fun y => y.1 ≤ n ∧ (s4.e ≠ 0 → y.1 = 0) ∧ Ow 3 1 y.2.1 (l.length + y.1) (ivn (l ++ List.replicate y.1 x)) y.2.2) (fun y => n - y.1) (0, .slice la l.length lc, Cl) ⟨Nat.zero_le _, fun _ => rfl, by simpa using hlv⟩ iS (fun w h => h) ?_
    rintro ⟨i, v1, C1⟩ ⟨hi, hz, hov⟩
    simp only at hi hz hov ⊢
    obtain ⟨wa, wc, rfl⟩ := ow_slc hov
    unfold wkC
    (repeat' first|refine kW ?_|refine kU fun bk=>?_|refine kV fun hc=>?_|refine kZ (fun hc=>?_) fun hc=>?_|fail)
    · have h4 : s4.e = 0 := by omega
      have hmx := (h4x h4).2
      refine OW_buildSlice (cs := [.int .i64 (x : Int)]) rfl (by rfl) (by first | (simp [fillL, patch, Value.cells, zeros]; done) | (simp [fillL, patch, Value.cells, zeros]; rfl)) (by omega) rfl rfl (fun bn => ?_)
      (repeat' first|refine kW ?_|refine kU fun bk=>?_|refine kV fun hc=>?_|refine kZ (fun hc=>?_) fun hc=>?_|fail)
      refine OW_append rfl rfl hov (sl_cells (k := 1) (c := #[.int .i64 (x : Int)]) (xs := [.int .i64 (x : Int)]) (m := 1) Fnd.here rfl (by simp)) (by repeat (first | exact Zip.here _ | apply Zip.there)) rfl (by rfl) (by omega) (by simp [maxLen]; omega) rfl (fun v' C' ho' _ _ => ?_)
      (repeat' first|refine kW ?_|refine kU fun bk=>?_|refine kV fun hc=>?_|refine kZ (fun hc=>?_) fun hc=>?_|fail)
      refine OW_storeTo [v'] rfl rfl (by rcases ho' with ⟨rfl, _⟩ | ⟨_, _, _, rfl, _⟩ <;> rfl) rfl iU (by simp) ?_
      (repeat' first|refine kW ?_|refine kU fun bk=>?_|refine kV fun hc=>?_|refine kZ (fun hc=>?_) fun hc=>?_|fail)
      refine WQ_round (X := Nat × Value × Chunk) (μ := fun y => n - y.1) (x := (i, .slice wa (l.length + i) wc, C1)) (i + 1, v', C') (by simp only; omega) ⟨by simp only; omega, fun hh => absurd h4 hh, ?_⟩ iS (fun w h => iH h)
      rw [List.replicate_succ', ← List.append_assoc, ivn_app (l ++ List.replicate i x) [x]]
      exact ho'
    · have h4 : ¬ s4.e = 0 := by omega
      obtain rfl : i = 0 := hz h4
      rw [if_neg h4]
      refine kR ?_
      exact ⟨_, iC, _, C1, rfl, by simpa using hov, rfl, hb4⟩
    · obtain rfl : i = n := by omega
      refine kR ?_
      refine ⟨_, iC, _, C1, rfl, ?_, rfl, hb4⟩
      by_cases h4 : s4.e = 0
      · rw [if_pos h4, ← (h4x h4).1]
        simpa using hov
      · rw [if_neg h4]
        obtain rfl : i = 0 := hz h4
        simpa using hov
end Go.Proofs.YtdcehmhelfohfaaGreatDoor
namespace Go.If
open Go.Vx Go.Hf
set_option linter.all false
theorem tv_err [W0] {d : List UInt8} {s : S6} {n : Nat} (he : s.e = 0) (h : (tk d s n).e ≠ 0) : tv d s n = 0 := by
  unfold tv
  split
  · rename_i hh
    unfold tk at h
    rw [if_pos hh] at h
    exact absurd he h
  · rfl
theorem rp_facts [W0] {d : List UInt8} {own : List Nat} {m : Nat} {s : S6} {l : List Nat} (hol : own.length = 19) (h15 : ∀ x ∈ l, x ≤ 15) (h : (rpS d own m s l).e = 0) :
    l.length < (rpL d own s l).length ∧ (rpL d own s l).length ≤ m ∧ ∀ x ∈ rpL d own s l, x ≤ 15 := by
  have hk := sv_lt d s (l := own) (by omega)
  unfold rpS at h
  unfold rpL
  generalize sv d s own = k at *
  generalize sy d s own = s1 at *
  have hra := rpA_pos k
  split at h
  · exact absurd h (by assumption)
  · split at h
    · exact absurd h (by assumption)
    · rename_i h1 h2
      split at h
      · rw [fl_e, if_pos (by omega)] at h; cases h
      · rename_i h3
        refine ⟨by simp; omega, by simp; omega, fun x hx => ?_⟩
        rcases List.mem_append.1 hx with hx | hx
        · exact h15 x hx
        · rw [List.eq_of_mem_replicate hx]; exact rpV_le (by omega) h15
end Go.If
namespace Go.Proofs.YtdcehmhelfohfaaGreatDoor
open Go Go.Vx Go.Hf Go.If
variable [W0]
set_option maxRecDepth 4000
set_option linter.all false
theorem iD {S L : List Chunk} (h : Inc S L := by exact (by repeat (first | exact Inc.refl | exact Inc.nil | (show Inc (_ :: _) _; refine Inc.cons (by repeat (first | exact Take.here | apply Take.there)) ?_) | refine Inc.skip ?_))) : Inc S L := h
omit [W0] in
/-- Read out of this chunk, whatever else is held. -/
structure SlA (C : Chunk) (v : Value) (m : Nat) (xs : List Value) : Prop where
  all : ∀ L, Sl (C :: L) 1 v m xs
set_option maxHeartbeats 16000000 in
theorem wlengths_n (p q most : Nat) (v : Value) (fa : Option Addr) (fc : Nat) (d : List UInt8) (s : S6) (L : List Chunk)
    (hv : Sl L 1 (.slice fa d.length fc) d.length (bsv d)) (hl : d.length ≤ 1000000) (ht : s.t ≤ 8 * d.length) (he : s.e = 0) :
    Gv Tryz.prog 25 [.pointer (some ⟨p, 0, none⟩)].toArray (wkC p q v most s.e :: biC q fa d.length fc s.t :: L) (fun r L' =>
      (dyS d s).1.t ≤ 8 * d.length ∧ (((dyS d s).1.e ≠ 0 ∧ ∃ x y, r = .tuple #[x, y] ∧ L' = wkC p q v most (dyS d s).1.e :: biC q fa d.length fc (dyS d s).1.t :: L) ∨
      ((dyS d s).1.e = 0 ∧ ∃ a1 c1 a2 c2 l dl Cl, r = .tuple #[.slice a1 l.length c1, .slice a2 dl.length c2] ∧ l = (dyS d s).2.1.take (dyS d s).2.2 ∧ dl = (dyS d s).2.1.drop (dyS d s).2.2 ∧ SlA Cl (.slice a1 l.length c1) l.length (intsN (icn l)) ∧ SlA Cl (.slice a2 dl.length c2) dl.length (intsN (icn dl)) ∧ cdE (icn l) = 0 ∧ cdE (icn dl) = 0 ∧ l.length ≤ 400 ∧
        L' = wkC p q v most (dyS d s).1.e :: biC q fa d.length fc (dyS d s).1.t :: Cl :: L))) := by
  refine Gv.of_body Tryz.func25 rfl rfl ?_
  have hw1 : ∀ v e (L : List Chunk), wkC p q v most e :: L = [(p, cl [.pointer (some ⟨q, 0, none⟩), v, .int .i64 (most : Int), .int .i64 (e : Int)] 61)] :: L := fun _ _ _ => rfl
  have ht1 := wtake_n p q most 5 v fa fc d s L hv (by omega) ht (by omega)
  have htv := tv_lt d s 5
  have hte := tv_err (d := d) (n := 5) he
  unfold dyS
  generalize tv d s 5 = z1 at ht1 htv hte ⊢
  generalize tk d s 5 = s1 at ht1 hte ⊢
  (repeat' first|refine kW ?_|refine kU fun bk=>?_|refine kV fun hc=>?_|refine kZ (fun hc=>?_) fun hc=>?_|fail)
  refine OW_call rfl rfl rfl ht1 rfl (fun r L' hp => ?_)
  obtain ⟨rfl, rfl, hb1⟩ := hp
  by_cases h29 : 29 < z1
  · have h1 : s1.e = 0 := by
      by_cases h0 : s1.e = 0
      · exact h0
      · have := hte h0; omega
    rw [if_neg (show ¬ s1.e ≠ 0 by omega), if_pos h29]
    have hf := wfail_n p q most 3 s1.e v (biC q fa d.length fc s1.t :: L)
    rw [if_pos h1] at hf
    (repeat' first|refine kW ?_|refine kU fun bk=>?_|refine kV fun hc=>?_|refine kZ (fun hc=>?_) fun hc=>?_|fail)
    refine OW_call rfl rfl rfl hf rfl (fun r L' hp => ?_)
    obtain ⟨rfl, rfl⟩ := hp
    rw [hw1]
    (repeat' first|refine kW ?_|refine kU fun bk=>?_|refine kV fun hc=>?_|refine kZ (fun hc=>?_) fun hc=>?_|fail)
    simp only [fl3 h1, fl_t]
    refine kR ?_
    exact ⟨wkC p q v most 3 :: biC q fa d.length fc s1.t :: L, iD, hb1, .inl ⟨by decide, _, _, rfl, rfl⟩⟩
  by_cases h1 : s1.e ≠ 0
  · rw [if_pos h1, hw1]
    (repeat' first|refine kW ?_|refine kU fun bk=>?_|refine kV fun hc=>?_|refine kZ (fun hc=>?_) fun hc=>?_|fail)
    refine kR ?_
    exact ⟨wkC p q v most s1.e :: biC q fa d.length fc s1.t :: L, iD, hb1, .inl ⟨h1, _, _, rfl, rfl⟩⟩
  rw [if_neg h1, if_neg h29]
  have h1 : s1.e = 0 := by omega
  have ht2 := wtake_n p q most 5 v fa fc d s1 L hv (by omega) hb1 (by omega)
  have htv2 := tv_lt d s1 5
  have hte2 := tv_err (d := d) (n := 5) h1
  generalize tv d s1 5 = z2 at ht2 htv2 hte2 ⊢
  generalize tk d s1 5 = s2 at ht2 hte2 ⊢
  rw [hw1 v s1.e]
  (repeat' first|refine kW ?_|refine kU fun bk=>?_|refine kV fun hc=>?_|refine kZ (fun hc=>?_) fun hc=>?_|fail)
  refine OW_call rfl rfl rfl (Gv.holds ht2 (fun w h => h)) rfl (fun r L' hp => ?_)
  obtain ⟨rfl, rfl, hb2⟩ := hp
  by_cases h29b : 29 < z2
  · have h2 : s2.e = 0 := by
      by_cases h0 : s2.e = 0
      · exact h0
      · have := hte2 h0; omega
    rw [if_neg (show ¬ s2.e ≠ 0 by omega), if_pos h29b]
    have hf := wfail_n p q most 3 s2.e v (biC q fa d.length fc s2.t :: L)
    rw [if_pos h2] at hf
    (repeat' first|refine kW ?_|refine kU fun bk=>?_|refine kV fun hc=>?_|refine kZ (fun hc=>?_) fun hc=>?_|fail)
    refine OW_call rfl rfl rfl hf rfl (fun r L' hp => ?_)
    obtain ⟨rfl, rfl⟩ := hp
    rw [hw1]
    (repeat' first|refine kW ?_|refine kU fun bk=>?_|refine kV fun hc=>?_|refine kZ (fun hc=>?_) fun hc=>?_|fail)
    simp only [fl3 h2, fl_t]
    refine kR ?_
    exact ⟨wkC p q v most 3 :: biC q fa d.length fc s2.t :: L, iD, hb2, .inl ⟨by decide, _, _, rfl, rfl⟩⟩
  by_cases h2 : s2.e ≠ 0
  · rw [if_pos h2, hw1]
    (repeat' first|refine kW ?_|refine kU fun bk=>?_|refine kV fun hc=>?_|refine kZ (fun hc=>?_) fun hc=>?_|fail)
    refine kR ?_
    exact ⟨wkC p q v most s2.e :: biC q fa d.length fc s2.t :: L, iD, hb2, .inl ⟨h2, _, _, rfl, rfl⟩⟩
  rw [if_neg h2, if_neg h29b, dyT_eq]
  have h2 : s2.e = 0 := by omega
  obtain ⟨n1, hn1⟩ : ∃ n1, n1 = 257 + z1 := ⟨_, rfl⟩
  obtain ⟨n2, hn2⟩ : ∃ n2, n2 = 1 + z2 := ⟨_, rfl⟩
  rw [← hn1, ← hn2]
  rw [hw1 v s2.e]
  (repeat' first|refine kW ?_|refine kU fun bk=>?_|refine kV fun hc=>?_|refine kZ (fun hc=>?_) fun hc=>?_|fail)
  refine OW_buildSlice (cs := ivn ordL) rfl (by rfl) (by kernel_rfl) (by omega) rfl rfl (fun bo => ?_)
  (repeat' first|refine kW ?_|refine kU fun bk=>?_|refine kV fun hc=>?_|refine kZ (fun hc=>?_) fun hc=>?_|fail)
  refine OW_makeSlice (m := 19) (c := 19) rfl rfl (by rfl) (by omega) (by omega) (by omega) rfl (fun b => ?_)
  rw [zeros_int]
  generalize hOL : ivn ordL = OL
  obtain ⟨o0, ho0⟩ : ∃ o0, o0 = List.replicate 19 0 := ⟨_, rfl⟩
  rw [← ho0]
  have ho0l : o0.length = 19 := by rw [ho0]; simp
  have ho07 : ∀ y ∈ o0, y ≤ 7 := by rw [ho0]; simp
  (repeat' first|refine kW ?_|refine kU fun bk=>?_|refine kV fun hc=>?_|refine kZ (fun hc=>?_) fun hc=>?_|fail)
  have ht3 := wtake_n p q most 4 v fa fc d s2 ([(b, cl (ivn o0) 3)] :: [(bo, cl OL 3)] :: L) (sl_there (sl_there hv)) (by omega) hb2 (by omega)
  have htv3 := tv_lt d s2 4
  obtain ⟨LC, hLC⟩ : ∃ LC, LC = lcS d s2 := ⟨_, rfl⟩
  have hlg : lgS d (n1 + n2) s2 = if LC.1.e ≠ 0 then (LC.1, []) else lpS d LC.2 (n1 + n2) (n1 + n2) LC.1 [] := by rw [hLC]; rfl
  rw [hlg]
  clear hlg
  obtain ⟨LG, hLG⟩ : ∃ LG, LG = if LC.1.e ≠ 0 then (LC.1, []) else lpS d LC.2 (n1 + n2) (n1 + n2) LC.1 [] := ⟨_, rfl⟩
  rw [← hLG]
  obtain ⟨Y, hY⟩ : ∃ Y, Y = if LG.1.e ≠ 0 then (LG.1, [], 0) else dyK n1 LG := ⟨_, rfl⟩
  rw [← hY]
  unfold lcS at hLC
  rw [← ho0] at hLC
  clear ho0
  generalize tv d s2 4 = z at ht3 htv3 hLC
  generalize tk d s2 4 = s3 at ht3 hLC
  refine OW_call rfl rfl rfl (Gv.holds ht3 (fun w h => iH h)) rfl (fun r L' hp => ?_)
  obtain ⟨rfl, rfl, hb3⟩ := hp
  rw [hw1 v s3.e]
  (repeat' first|refine kW ?_|refine kU fun bk=>?_|refine kV fun hc=>?_|refine kZ (fun hc=>?_) fun hc=>?_|fail)
  refine WC_loop (X := Nat × S6 × List Nat) (fun x => [(0, .pointer (some ⟨p, 0, none⟩)), (4, .int .i64 (n1 : Int)), (5, .int .i64 (n2 : Int)), (6, .slice (some ⟨bo, 0, none⟩) 19 19), (7, .slice (some ⟨b, 0, none⟩) 19 19), (8, .int .i64 ((4 + z : Nat) : Int)), (9, .int .i64 (x.1 : Int))])
    (fun x => wkC p q v most x.2.1.e :: biC q fa d.length fc x.2.1.t :: [(b, cl (ivn x.2.2) 3)] :: [(bo, cl OL 3)] :: L)
    (fun x => x.1 ≤ 4 + z ∧ x.2.1.t ≤ 8 * d.length ∧ x.2.2.length = 19 ∧ (∀ y ∈ x.2.2, y ≤ 7) ∧ (x.2.1.e = 0 → s3.e = 0 ∧ owS d (4 + z - x.1) x.1 x.2.1 x.2.2 = owS d (4 + z) 0 s3 o0) ∧ (x.2.1.e ≠ 0 → LC.1 = x.2.1)) (fun x => 4 + z - x.1) (0, s3, o0)
    ⟨Nat.zero_le _, hb3, ho0l, ho07, fun h => ⟨h, rfl⟩, fun h => by rw [hLC, if_pos h]⟩ iS (fun w h => iH h) ?_
  rintro ⟨i, s5, o⟩ ⟨hi, hb5, hol, ho7, hs5, he5⟩
  simp only at hi hb5 hol ho7 hs5 he5 ⊢
  rw [hw1 v s5.e]
  (repeat' first|refine kW ?_|refine kU fun bk=>?_|refine kV fun hc=>?_|refine kZ (fun hc=>?_) fun hc=>?_|fail)
  · have h5 : s5.e = 0 := by omega
    obtain ⟨h3, hs5⟩ := hs5 h5
    obtain ⟨k2, hk2⟩ : ∃ k2, 4 + z - i = k2 + 1 := ⟨4 + z - i - 1, by omega⟩
    have hk3 : 4 + z - (i + 1) = k2 := by omega
    rw [hk2, owS] at hs5
    have ht6 := wtake_n p q most 3 v fa fc d s5 ([(b, cl (ivn o) 3)] :: [(bo, cl OL 3)] :: L) (sl_there (sl_there hv)) (by omega) hb5 (by omega)
    have htv6 := tv_lt d s5 3
    generalize tv d s5 3 = z6 at ht6 htv6 hs5
    generalize tk d s5 3 = s6 at ht6 hs5
    have ho19 : ordL.getD i 0 < 19 := by
      have : ∀ j, j < 19 → ordL.getD j 0 < 19 := by decide
      exact this i (by omega)
    have hcell : OL.toArray[i * 1]? = some (.int .i64 (ordL.getD i 0 : Int)) := by
      rw [Nat.mul_one, ← hOL]
      simpa using ivn_get (l := ordL) (i := i) (n := ordL.getD i 0) (by simp [List.getD, show i < ordL.length from by show i < 19; omega])
    generalize ordL.getD i 0 = oi at hs5 ho19 hcell
    refine WC_draw [[(bo, cl OL 3)]] [8] mixed ?_
    (refine WR_t 0 ?_; refine WR_t 1 ?_; refine WR_t 2 ?_)
    (refine WR_take 3 rfl rfl (by kernel_rfl) iP iC (EV_indexAddr0 (j := i) (len := 19) rfl rfl rfl (by omega)) (by rfl) ?_)
    (refine WR_take 4 rfl rfl (by kernel_rfl) iP iC (EV_load rfl (by exact Fnd.here) hcell) (by rfl) ?_)
    (refine WR_t 5 ?_)
    (refine WR_one 6 (by kernel_rfl) rfl rfl ?_)
    refine OW_call rfl rfl rfl (Gv.holds ht6 (fun w h => iH h)) rfl (fun r L' hp => ?_)
    obtain ⟨rfl, rfl, hb6⟩ := hp
    refine ⟨iC, ?_⟩
    (refine WR_take 7 rfl rfl (by kernel_rfl) iP iC (EV_indexAddr0 (j := oi) (len := 19) rfl rfl rfl (by omega)) (by rfl) ?_)
    (refine WR_last 8 (by kernel_rfl) rfl rfl rfl ?_)
    have hse : (ivn o).set (oi * 1) (.int .i64 (z6 : Int)) = ivn (o.set oi z6) := by simp [ivn, List.map_set]
    refine OW_storeTo (ivn (o.set oi z6)) rfl rfl rfl hse iU (by rw [ivn_length]; omega) ?_
    (refine WR_done (by kernel_rfl) ?_)
    (repeat' first|refine kW ?_|refine kU fun bk=>?_|refine kV fun hc=>?_|refine kZ (fun hc=>?_) fun hc=>?_|fail)
    refine WQ_round (X := Nat × S6 × List Nat) (μ := fun x => 4 + z - x.1) (x := (i, s5, o)) (i + 1, s6, o.set oi z6) (by simp only; omega) ⟨by simp only; omega, hb6, by simp only [List.length_set]; exact hol, fun y hy => ?_, fun h6 => ⟨h3, ?_⟩, fun h6 => ?_⟩ iS (fun w h => iH h)
    · rcases List.mem_or_eq_of_mem_set hy with h | rfl
      · exact ho7 y h
      · omega
    · simp only at h6 ⊢
      rw [hk3]
      rw [if_neg (show ¬ s6.e ≠ 0 from fun hh => hh h6)] at hs5
      exact hs5
    · simp only at h6 ⊢
      rw [if_pos h6] at hs5
      rw [hLC, if_neg (show ¬ s3.e ≠ 0 from fun hh => hh h3), ← hs5, if_pos (by exact h6)]
  · have h5 : s5.e ≠ 0 := by omega
    have hL := he5 h5
    rw [hL, if_pos h5] at hLG
    rw [hLG, if_pos (by exact h5)] at hY
    subst hY
    refine kR ?_
    exact ⟨wkC p q v most s5.e :: biC q fa d.length fc s5.t :: L, iD, hb5, .inl ⟨h5, _, _, rfl, rfl⟩⟩
  · have h5 : s5.e ≠ 0 := by omega
    have hL := he5 h5
    rw [hL, if_pos h5] at hLG
    rw [hLG, if_pos (by exact h5)] at hY
    subst hY
    refine kR ?_
    exact ⟨wkC p q v most s5.e :: biC q fa d.length fc s5.t :: L, iD, hb5, .inl ⟨h5, _, _, rfl, rfl⟩⟩
  have h5 : s5.e = 0 := by omega
  obtain ⟨h3, hs5⟩ := hs5 h5
  obtain rfl : i = 4 + z := by omega
  rw [show 4 + z - (4 + z) = 0 from by omega, owS] at hs5
  rw [if_neg (show ¬ s3.e ≠ 0 from fun hh => hh h3), ← hs5, if_neg (show ¬ (s5, o).1.e ≠ 0 from fun hh => hh h5)] at hLC
  simp only at hLC
  clear he5 hs5 ht3
  have ho15 : ∀ x ∈ o, x ≤ 15 := fun x hx => by have := ho7 x hx; omega
  have hcc := complete_n (some ⟨b, 0, none⟩) 19 (icn o) (wkC p q v most s5.e :: biC q fa d.length fc s5.t :: [(b, cl (ivn o) 3)] :: [(bo, cl OL 3)] :: L) (by rw [icn_length, hol, ivn_icn]; exact sl_there (sl_there (sl_cells (c := (ivn o).toArray) Fnd.here (by rw [ivn_length, hol]) (by simp)))) (by rw [icn_length]; omega)
  rw [icn_length, hol, wgt_icn ho15] at hcc
  have hBd : ((kS o : Int) == 32768) = decide (kS o = 32768) := by
    by_cases h : kS o = 32768
    · rw [h]; rfl
    · rw [decide_eq_false h]; simp; omega
  rw [hBd] at hcc
  by_cases hk : kS o = 32768
  · rw [if_pos hk] at hLC
    rw [decide_eq_true hk] at hcc
    refine OW_callP rfl rfl rfl hcc rfl ?_
    (repeat' first|refine kW ?_|refine kU fun bk=>?_|refine kV fun hc=>?_|refine kZ (fun hc=>?_) fun hc=>?_|fail)
    obtain ⟨lp, hlp⟩ : ∃ lp, lp = bk := ⟨_, rfl⟩
    rw [← hlp]
    clear hlp
    rw [hLC, if_neg (show ¬ (s5, o).1.e ≠ 0 from fun hh => hh h5)] at hLG
    simp only at hLG
    have hcd := cdE_icn ho15 (by omega) (show kS o ≤ 32768 by omega)
    refine WC_loop (X := Nat × S6 × List Nat × Value × Chunk) (fun x => [(0, .pointer (some ⟨p, 0, none⟩)), (4, .int .i64 (n1 : Int)), (5, .int .i64 (n2 : Int)), (7, .slice (some ⟨b, 0, none⟩) 19 19), (10, .pointer (some ⟨lp, 0, none⟩))])
      (fun x => wkC p q v most x.2.1.e :: biC q fa d.length fc x.2.1.t :: lpC lp x.2.2.2.1 :: x.2.2.2.2 :: [(b, cl (ivn o) 3)] :: L)
      (fun x => x.2.1.t ≤ 8 * d.length ∧ x.2.2.1.length ≤ n1 + n2 ∧ Ow 3 1 x.2.2.2.1 x.2.2.1.length (ivn x.2.2.1) x.2.2.2.2 ∧ (x.2.1.e = 0 → n1 + n2 ≤ x.1 + x.2.2.1.length ∧ (∀ y ∈ x.2.2.1, y ≤ 15) ∧ lpS d o (n1 + n2) x.1 x.2.1 x.2.2.1 = LG) ∧ (x.2.1.e ≠ 0 → LG.1 = x.2.1)) (fun x => x.1) (n1 + n2, s5, [], .slice none 0 0, [])
      ⟨hb5, Nat.zero_le _, .inl ⟨rfl, rfl, rfl, rfl⟩, fun _ => ⟨by simp, by simp, hLG.symm⟩, fun h => absurd h5 h⟩ iS (fun w h => ?_) ?_
    · show Holds w ([(p, cl [.pointer (some ⟨q, 0, none⟩), v, .int .i64 (most : Int), .int .i64 (s5.e : Int)] 61)] :: biC q fa d.length fc s5.t :: [(lp, cl [.slice none 0 0] 51)] :: [] :: [(b, cl (ivn o) 3)] :: L)
      have h' : Holds w ([(p, cl [.pointer (some ⟨q, 0, none⟩), v, .int .i64 (most : Int), .int .i64 (s5.e : Int)] 61)] :: biC q fa d.length fc s5.t :: [(lp, cl [.slice none 0 0] 51)] :: [(b, cl (ivn o) 3)] :: L) := iH h
      simpa only [Holds, List.flatten_cons, List.nil_append] using h'
    clear h5 hb5 hcc hLC hLG
    rintro ⟨f, s7, l, lv, Cl⟩ ⟨hb7, hlm, hov, hs7, he7⟩
    simp only at hb7 hlm hov hs7 he7 ⊢
    obtain ⟨la, lc, rfl⟩ := ow_slc hov
    unfold lpC
    rw [hw1 v s7.e]
    (repeat' first|refine kW ?_|refine kU fun bk=>?_|refine kV fun hc=>?_|refine kZ (fun hc=>?_) fun hc=>?_|fail)
    · have h7 : s7.e = 0 := by omega
      obtain ⟨hf7, h15, hlp7⟩ := hs7 h7
      obtain ⟨g, rfl⟩ : ∃ g, f = g + 1 := ⟨f - 1, by omega⟩
      rw [lpS, if_pos ⟨h7, by omega⟩] at hlp7
      have hr := wrepeat_n p q lp most (n1 + n2) v (.slice la l.length lc) (some ⟨b, 0, none⟩) 19 o l fa fc d s7 Cl ([(b, cl (ivn o) 3)] :: L) (by rw [hol, ivn_icn]; exact sl_cells (c := (ivn o).toArray) Fnd.here (by rw [ivn_length, hol]) (by simp)) hcd hol (sl_there hv) hl hb7 h7 hov hlm (by omega)
      rw [hol] at hr
      have hfa := rp_facts (d := d) (s := s7) (own := o) (m := n1 + n2) hol h15
      generalize rpS d o (n1 + n2) s7 l = s8 at hr hlp7 hfa
      generalize rpL d o s7 l = l8 at hr hlp7 hfa
      unfold lpC at hr
      rw [← Int.natCast_add]
      refine OW_call rfl rfl rfl (Gv.holds hr (fun w h => iH h)) rfl (fun r L' hp => ?_)
      obtain ⟨lv8, Cl8, rfl, ho8, rfl, hb8⟩ := hp
      (repeat' first|refine kW ?_|refine kU fun bk=>?_|refine kV fun hc=>?_|refine kZ (fun hc=>?_) fun hc=>?_|fail)
      by_cases h8 : s8.e = 0
      · rw [if_pos h8] at hlp7 ho8
        obtain ⟨hx1, hx2, hx3⟩ := hfa h8
        refine WQ_round (X := Nat × S6 × List Nat × Value × Chunk) (μ := fun x => x.1) (x := (g + 1, s7, l, .slice la l.length lc, Cl)) (g, s8, l8, lv8, Cl8) (by simp only; omega) ⟨hb8, hx2, ho8, fun _ => ⟨by simp only; omega, hx3, hlp7⟩, fun hh => absurd h8 hh⟩ iS (fun w h => iH h)
      · rw [if_neg h8] at hlp7 ho8
        refine WQ_round (X := Nat × S6 × List Nat × Value × Chunk) (μ := fun x => x.1) (x := (g + 1, s7, l, .slice la l.length lc, Cl)) (g, s8, l, lv8, Cl8) (by simp only; omega) ⟨hb8, hlm, ho8, fun hh => absurd hh h8, fun _ => by rw [← hlp7]⟩ iS (fun w h => iH h)
    · have h7 : s7.e = 0 := by omega
      obtain ⟨hf7, h15, hlp7⟩ := hs7 h7
      have hlm : l.length = n1 + n2 := by omega
      have hq : lpS d o (n1 + n2) f s7 l = (s7, l) := by
        cases f with
        | zero => rfl
        | succ f => rw [lpS, if_neg (fun hh => by omega)]
      rw [hq] at hlp7
      rw [← hlp7, if_neg (show ¬ (s7, l).1.e ≠ 0 from fun hh => hh h7)] at hY
      unfold dyK at hY
      simp only at hY
      have hov2 := hov
      rcases hov2 with ⟨_, h0, _⟩ | ⟨b2, cap, rest, hve, rfl, hxl, hrl, hmc, hcm⟩
      · omega
      injection hve with q1 q2 q3
      subst q1 q3
      clear q2
      have hl4 : ∀ x ∈ l.take n1, x ≤ 15 := fun x hx => h15 x (List.mem_of_mem_take hx)
      have hd4 : ∀ x ∈ l.drop n1, x ≤ 15 := fun x hx => h15 x (List.mem_of_mem_drop hx)
      have hln : (l.take n1).length = n1 := by simp; omega
      have hdn : (l.drop n1).length = n2 := by simp; omega
      obtain ⟨x, hx⟩ : ∃ x, l[256]? = some x := ⟨l[256], List.getElem?_eq_getElem (by omega)⟩
      have hcell : (ivn l ++ rest).toArray[0 + 256 * 1]? = some (.int .i64 (x : Int)) := by
        have h5 := ivn_get hx
        have h6 := (List.getElem?_eq_some_iff.1 h5).1
        rw [List.getElem?_toArray, List.getElem?_append_left (by simpa using h6)]
        simpa using h5
      rw [show l.getD 256 0 = x from by simp [List.getD, hx]] at hY
      rw [hlm] at hmc
      rw [hlm]
      refine OW_EV (EV_sliceTo (h := n1) rfl rfl rfl (by omega)) rfl ?_
      (repeat' first|refine kW ?_|refine kU fun bk=>?_|refine kV fun hc=>?_|refine kZ (fun hc=>?_) fun hc=>?_|fail)
      refine OW_EV (EV_sliceFrom0 (l := n1) (h := n1 + n2) rfl rfl rfl (by omega) (by omega) (by omega)) rfl ?_
      rw [show n1 + n2 - n1 = n2 from by omega]
      (repeat' first|refine kW ?_|refine kU fun bk=>?_|refine kV fun hc=>?_|refine kZ (fun hc=>?_) fun hc=>?_|fail)
      obtain ⟨K, hK⟩ : ∃ K, K = [(p, cl [.pointer (some ⟨q, 0, none⟩), v, .int .i64 (most : Int), .int .i64 (s7.e : Int)] 61)] :: biC q fa d.length fc s7.t :: [(lp, cl [.slice (some ⟨b2, 0, none⟩) (n1 + n2) lc] 51)] :: [(b2, cl (ivn l ++ rest) 3)] :: [(b, cl (ivn o) 3)] :: L := ⟨_, rfl⟩
      have hS1 : ∀ L, Sl ([(b2, cl (ivn l ++ rest) 3)] :: L) 1 (.slice (some ⟨b2, 0, none⟩) (l.take n1).length lc) (l.take n1).length (intsN (icn (l.take n1))) := fun L => by
        rw [ivn_icn]
        exact .inr ⟨_, _, rfl, RdAt.cl' (l := ivn l ++ rest) Fnd.here (by
          rw [ivn_length]; unfold cut ivn
          rw [List.drop_zero, List.take_append_of_le_length (by simp; omega), List.map_take, List.length_take, Nat.min_eq_left (by omega)]), by rw [ivn_length]; simp⟩
      have hS2 : ∀ L, Sl ([(b2, cl (ivn l ++ rest) 3)] :: L) 1 (.slice (some ⟨b2, n1 * 1, none⟩) (l.drop n1).length (lc - n1)) (l.drop n1).length (intsN (icn (l.drop n1))) := fun L => by
        rw [ivn_icn]
        exact .inr ⟨_, _, rfl, RdAt.cl' (l := ivn l ++ rest) Fnd.here (by
          rw [ivn_length, hdn]; unfold cut ivn
          rw [List.drop_append_of_le_length (by simp; omega), List.take_append_of_le_length (by simp; omega), Nat.mul_one, ← List.map_drop, ← List.map_take, List.take_of_length_le (by omega)]), by rw [ivn_length]; simp⟩
      have hBd : ∀ o : List Nat, ((kS o : Int) == 32768) = decide (kS o = 32768) := fun o => by
        by_cases h : kS o = 32768
        · rw [h]; rfl
        · rw [decide_eq_false h]; simp; omega
      have hS1K : Sl K 1 (.slice (some ⟨b2, 0, none⟩) (l.take n1).length lc) (l.take n1).length (intsN (icn (l.take n1))) := by rw [hK]; exact sl_there (sl_there (sl_there (hS1 _)))
      have hS2K : Sl K 1 (.slice (some ⟨b2, n1 * 1, none⟩) (l.drop n1).length (lc - n1)) (l.drop n1).length (intsN (icn (l.drop n1))) := by rw [hK]; exact sl_there (sl_there (sl_there (hS2 _)))
      have hc1 := complete_n _ _ (icn (l.take n1)) K (by rw [icn_length]; exact hS1K) (by rw [icn_length]; omega)
      have hc2 := complete_n _ _ (icn (l.drop n1)) K (by rw [icn_length]; exact hS2K) (by rw [icn_length]; omega)
      have hsg := single_n _ _ (l.drop n1) K hS2K (by omega)
      rw [icn_length, wgt_icn hl4, hBd, hln] at hc1
      rw [icn_length, wgt_icn hd4, hBd, hdn] at hc2
      rw [hdn] at hsg
      have hf := wfail_n p q most 3 s7.e v (biC q fa d.length fc s7.t :: [(lp, cl [.slice (some ⟨b2, 0, none⟩) (n1 + n2) lc] 51)] :: [(b2, cl (ivn l ++ rest) 3)] :: [(b, cl (ivn o) 3)] :: L)
      rw [if_pos h7] at hf
      have hbad : ¬ (x ≠ 0 ∧ kS (l.take n1) = 32768 ∧ (kS (l.drop n1) = 32768 ∨ sgl (l.drop n1) = true)) → Y = (fl s7 3, [], 0) := fun h => by rw [hY, if_neg h]
      refine OW_EV (EV_indexAddr (j := 256) rfl rfl rfl (by omega)) rfl ?_
      (repeat' first|refine kW ?_|refine kU fun bk=>?_|refine kV fun hc=>?_|refine kZ (fun hc=>?_) fun hc=>?_|fail)
      refine OW_EV (EV_load rfl (by exact Fnd.there (Fnd.there (Fnd.there Fnd.here))) hcell) rfl ?_
      rw [← hK]
      (repeat' first|refine kW ?_|refine kU fun bk=>?_|refine kV fun hc=>?_|refine kZ (fun hc=>?_) fun hc=>?_|fail)
      · rw [hbad (fun hh => hh.1 (by omega))]
        simp only [fl3 h7, fl_t]
        rw [hK]
        refine OW_call rfl rfl rfl (Gv.holds hf (fun w h => iH h)) rfl (fun r L' hp => ?_)
        obtain ⟨rfl, rfl⟩ := hp
        (repeat' first|refine kW ?_|refine kU fun bk=>?_|refine kV fun hc=>?_|refine kZ (fun hc=>?_) fun hc=>?_|fail)
        refine kR ?_
        exact ⟨wkC p q v most 3 :: biC q fa d.length fc s7.t :: L, iD, hb7, .inl ⟨by decide, _, _, rfl, rfl⟩⟩
      by_cases hk1 : kS (l.take n1) = 32768
      · rw [decide_eq_true hk1] at hc1
        refine OW_callP rfl rfl rfl hc1 rfl ?_
        (repeat' first|refine kW ?_|refine kU fun bk=>?_|refine kV fun hc=>?_|refine kZ (fun hc=>?_) fun hc=>?_|fail)
        by_cases hk2 : kS (l.drop n1) = 32768
        · rw [decide_eq_true hk2] at hc2
          refine OW_callP rfl rfl rfl hc2 rfl ?_
          (repeat' first|refine kW ?_|refine kU fun bk=>?_|refine kV fun hc=>?_|refine kZ (fun hc=>?_) fun hc=>?_|fail)
          have hYo : Y = (s7, l, n1) := by rw [hY, if_pos ⟨show x ≠ 0 by omega, hk1, .inl hk2⟩]
          rw [hYo, hK]
          have hks := kS_sum (l.drop n1)
          have hkd : kS (l.drop n1) ≤ 32768 := by
            rcases (.inl hk2 : kS (l.drop n1) = 32768 ∨ sgl (l.drop n1) = true) with h | h
            · omega
            · rw [sgl_sum] at h
              have := of_decide_eq_true h
              omega
          refine kR ?_
          exact ⟨wkC p q v most s7.e :: biC q fa d.length fc s7.t :: [(b2, cl (ivn l ++ rest) 3)] :: L, iD, hb7, .inr ⟨h7, some ⟨b2, 0, none⟩, lc, some ⟨b2, n1 * 1, none⟩, lc - n1, l.take n1, l.drop n1, _, by rw [hln, hdn]; rfl, rfl, rfl, ⟨hS1⟩, ⟨hS2⟩, cdE_icn hl4 (by omega) (by omega), cdE_icn hd4 (by omega) hkd, by omega, rfl⟩⟩
        · rw [decide_eq_false hk2] at hc2
          refine OW_callP rfl rfl rfl hc2 rfl ?_
          (repeat' first|refine kW ?_|refine kU fun bk=>?_|refine kV fun hc=>?_|refine kZ (fun hc=>?_) fun hc=>?_|fail)
          cases hsb : sgl (l.drop n1) with
          | false =>
            rw [hsb] at hsg
            refine OW_callP rfl rfl rfl hsg rfl ?_
            (repeat' first|refine kW ?_|refine kU fun bk=>?_|refine kV fun hc=>?_|refine kZ (fun hc=>?_) fun hc=>?_|fail)
            rw [hbad (fun hh => by rcases hh.2.2 with h | h; exact hk2 h; rw [hsb] at h; cases h)]
            simp only [fl3 h7, fl_t]
            rw [hK]
            refine OW_call rfl rfl rfl (Gv.holds hf (fun w h => iH h)) rfl (fun r L' hp => ?_)
            obtain ⟨rfl, rfl⟩ := hp
            (repeat' first|refine kW ?_|refine kU fun bk=>?_|refine kV fun hc=>?_|refine kZ (fun hc=>?_) fun hc=>?_|fail)
            refine kR ?_
            exact ⟨wkC p q v most 3 :: biC q fa d.length fc s7.t :: L, iD, hb7, .inl ⟨by decide, _, _, rfl, rfl⟩⟩
          | true =>
            rw [hsb] at hsg
            refine OW_callP rfl rfl rfl hsg rfl ?_
            (repeat' first|refine kW ?_|refine kU fun bk=>?_|refine kV fun hc=>?_|refine kZ (fun hc=>?_) fun hc=>?_|fail)
            have hYo : Y = (s7, l, n1) := by rw [hY, if_pos ⟨show x ≠ 0 by omega, hk1, .inr hsb⟩]
            rw [hYo, hK]
            have hks := kS_sum (l.drop n1)
            have hkd : kS (l.drop n1) ≤ 32768 := by
              rcases (.inr hsb : kS (l.drop n1) = 32768 ∨ sgl (l.drop n1) = true) with h | h
              · omega
              · rw [sgl_sum] at h
                have := of_decide_eq_true h
                omega
            refine kR ?_
            exact ⟨wkC p q v most s7.e :: biC q fa d.length fc s7.t :: [(b2, cl (ivn l ++ rest) 3)] :: L, iD, hb7, .inr ⟨h7, some ⟨b2, 0, none⟩, lc, some ⟨b2, n1 * 1, none⟩, lc - n1, l.take n1, l.drop n1, _, by rw [hln, hdn]; rfl, rfl, rfl, ⟨hS1⟩, ⟨hS2⟩, cdE_icn hl4 (by omega) (by omega), cdE_icn hd4 (by omega) hkd, by omega, rfl⟩⟩
      · rw [decide_eq_false hk1] at hc1
        refine OW_callP rfl rfl rfl hc1 rfl ?_
        (repeat' first|refine kW ?_|refine kU fun bk=>?_|refine kV fun hc=>?_|refine kZ (fun hc=>?_) fun hc=>?_|fail)
        rw [hbad (fun hh => hk1 hh.2.1)]
        simp only [fl3 h7, fl_t]
        rw [hK]
        refine OW_call rfl rfl rfl (Gv.holds hf (fun w h => iH h)) rfl (fun r L' hp => ?_)
        obtain ⟨rfl, rfl⟩ := hp
        (repeat' first|refine kW ?_|refine kU fun bk=>?_|refine kV fun hc=>?_|refine kZ (fun hc=>?_) fun hc=>?_|fail)
        refine kR ?_
        exact ⟨wkC p q v most 3 :: biC q fa d.length fc s7.t :: L, iD, hb7, .inl ⟨by decide, _, _, rfl, rfl⟩⟩
    · have h7 : s7.e ≠ 0 := by omega
      have hL := he7 h7
      rw [hL, if_pos h7] at hY
      subst hY
      refine kR ?_
      exact ⟨wkC p q v most s7.e :: biC q fa d.length fc s7.t :: L, iD, hb7, .inl ⟨h7, _, _, rfl, rfl⟩⟩
  · rw [if_neg hk] at hLC
    rw [decide_eq_false hk] at hcc
    refine OW_callP rfl rfl rfl hcc rfl ?_
    have hf := wfail_n p q most 3 s5.e v (biC q fa d.length fc s5.t :: [(b, cl (ivn o) 3)] :: [(bo, cl OL 3)] :: L)
    rw [if_pos h5] at hf
    rw [hLC, if_pos (by rw [fl3 h5]; decide)] at hLG
    rw [hLG, if_pos (by rw [fl3 h5]; decide)] at hY
    subst hY
    simp only [fl3 h5, fl_t]
    (repeat' first|refine kW ?_|refine kU fun bk=>?_|refine kV fun hc=>?_|refine kZ (fun hc=>?_) fun hc=>?_|fail)
    refine OW_call rfl rfl rfl hf rfl (fun r L' hp => ?_)
    obtain ⟨rfl, rfl⟩ := hp
    rw [hw1 v 3]
    (repeat' first|refine kW ?_|refine kU fun bk=>?_|refine kV fun hc=>?_|refine kZ (fun hc=>?_) fun hc=>?_|fail)
    refine WC_loop (X := Unit) (fun _ => [(0, .pointer (some ⟨p, 0, none⟩))]) (fun _ => wkC p q v most 3 :: biC q fa d.length fc s5.t :: L) (fun _ => True) (fun _ => 0) () trivial iS (fun w h => iH h) ?_
    intro _ _
    rw [hw1 v 3]
    (repeat' first|refine kW ?_|refine kU fun bk=>?_|refine kV fun hc=>?_|refine kZ (fun hc=>?_) fun hc=>?_|fail)
    refine kR ?_
    exact ⟨wkC p q v most 3 :: biC q fa d.length fc s5.t :: L, iD, hb5, .inl ⟨by decide, _, _, rfl, rfl⟩⟩
end Go.Proofs.YtdcehmhelfohfaaGreatDoor
namespace Go.If
open Go.Vx Go.Hf
set_option linter.all false
theorem rpS_out [W0] (d : List UInt8) (own : List Nat) (m : Nat) (s : S6) (l : List Nat) : (rpS d own m s l).out = s.out := by
  unfold rpS
  repeat' split
  all_goals simp only [fl_out, tk_out, sy_o]
theorem lpS_out [W0] (d : List UInt8) (own : List Nat) (m : Nat) : ∀ f s l, (lpS d own m f s l).1.out = s.out
  | 0, s, l => rfl
  | f + 1, s, l => by
    rw [lpS]
    split
    · split
      · rw [lpS_out d own m f, rpS_out]
      · exact rpS_out _ _ _ _ _
    · rfl
theorem owS_out [W0] (d : List UInt8) : ∀ k i s o, (owS d k i s o).1.out = s.out
  | 0, i, s, o => rfl
  | k + 1, i, s, o => by
    rw [owS]
    split
    · exact tk_out _ _ _
    · rw [owS_out d k, tk_out]
theorem lcS_out [W0] (d : List UInt8) (s : S6) : (lcS d s).1.out = s.out := by
  unfold lcS
  repeat' split
  all_goals simp only [fl_out, tk_out, owS_out]
theorem lgS_out [W0] (d : List UInt8) (m : Nat) (s : S6) : (lgS d m s).1.out = s.out := by
  unfold lgS
  repeat' split
  all_goals simp only [lpS_out, lcS_out]
theorem dyT_out [W0] (d : List UInt8) (n1 n2 : Nat) (s : S6) : (dyT d n1 n2 s).1.out = s.out := by
  rw [dyT_eq]
  unfold dyK
  repeat' split
  all_goals simp only [fl_out, lgS_out]
theorem dyS_out [W0] (d : List UInt8) (s : S6) : (dyS d s).1.out = s.out := by
  unfold dyS
  repeat' split
  all_goals simp only [fl_out, tk_out, dyT_out]
end Go.If
namespace Go.Proofs.YtdcehmhelfohfaaGreatDoor
open Go Go.Vx Go.Hf Go.If
variable [W0]
set_option maxRecDepth 4000
set_option linter.all false
theorem fxL_length : fxL.length = 288 := by simp [fxL]
theorem fxD_length : fxD.length = 32 := by simp [fxD]
set_option maxHeartbeats 16000000 in
theorem wraw_n (a : Option Addr) (c : Nat) (d : List UInt8) (mo : Int) (most : Nat) (L : List Chunk) (hv : Sl L 1 (.slice a d.length c) d.length (bsv d)) (hl : d.length ≤ 1000000) (hm1 : max mo 0 = (most : Int)) (hm : most ≤ 1000000) :
    Gv Tryz.prog 11 [.slice a d.length c, .int .i64 mo].toArray L (fun r L' =>
      ((rawS d most).e ≠ 0 ∧ r = .agg #[.slice none 0 0, .int .i64 0, .int .i64 ((rawS d most).e : Int)] ∧ L' = L) ∨
      ((rawS d most).e = 0 ∧ ∃ v C, r = .agg #[v, .int .i64 (((rawS d most).t + 7) / 8 : Nat), .int .i64 0] ∧ Ow 5 1 v (rawS d most).out.length (bsv (rawS d most).out) C ∧ (rawS d most).t ≤ 8 * d.length ∧ L' = C :: L)) := by
  refine Gv.of_body Tryz.func11 rfl rfl ?_
  unfold rawS
  generalize hR : rwS d most (8 * d.length + 1) ⟨0, [], 0⟩ = R
  (repeat' first|refine kW ?_|refine kU fun bk=>?_|refine kV fun hc=>?_|refine kZ (fun hc=>?_) fun hc=>?_|fail)
  rename_i g q
  obtain ⟨p, hp⟩ : ∃ p, p = bk := ⟨_, rfl⟩
  rw [← hp, hm1]
  clear hp
  have hw1 : ∀ v e (L : List Chunk), wkC p q v most e :: L = [(p, cl [.pointer (some ⟨q, 0, none⟩), v, .int .i64 (most : Int), .int .i64 (e : Int)] 61)] :: L := fun _ _ _ => rfl
  refine WC_loop (X := Nat × S6 × Nat × Value × Chunk) (fun x => [(4, .pointer (some ⟨g, 0, none⟩)), (5, .pointer (some ⟨p, 0, none⟩)), (6, .int .i64 (x.2.2.1 : Int))])
    (fun x => wkC p q x.2.2.2.1 most x.2.1.e :: biC q a d.length c x.2.1.t :: x.2.2.2.2 :: [(g, cl [.slice none 0 0, .int .i64 0, .int .i64 0] 34)] :: L)
    (fun x => x.2.1.t ≤ 8 * d.length ∧ Ow 5 1 x.2.2.2.1 x.2.1.out.length (bsv x.2.1.out) x.2.2.2.2 ∧ (x.2.1.e = 0 → x.2.2.1 = 0 → 8 * d.length < x.1 + x.2.1.t ∧ rwS d most x.1 x.2.1 = R) ∧ ((x.2.1.e ≠ 0 ∨ x.2.2.1 ≠ 0) → x.2.1 = R)) (fun x => x.1)
    (8 * d.length + 1, ⟨0, [], 0⟩, 0, .slice none 0 0, []) ⟨Nat.zero_le _, .inl ⟨rfl, rfl, rfl, rfl⟩, fun _ _ => ⟨by simp, hR⟩, fun h => by simp at h⟩ iS (fun w h => ?_) ?_
  · show Holds w ([(p, cl [.pointer (some ⟨q, 0, none⟩), .slice none 0 0, .int .i64 (most : Int), .int .i64 (0 : Int)] 61)] :: [(q, cl [.slice a d.length c, .int .i64 (0 : Int)] 59)] :: [] :: [(g, cl [.slice none 0 0, .int .i64 0, .int .i64 0] 34)] :: L)
    have h' : Holds w ([(p, cl [.pointer (some ⟨q, 0, none⟩), .slice none 0 0, .int .i64 (most : Int), .int .i64 (0 : Int)] 61)] :: [(q, cl [.slice a d.length c, .int .i64 (0 : Int)] 59)] :: [(g, cl [.slice none 0 0, .int .i64 0, .int .i64 0] 34)] :: L) := h
    simpa only [Holds, List.flatten_cons, List.nil_append] using h'
  clear hR
  rintro ⟨f, s1, la, v1, C1⟩ ⟨hb1, ho1, hf1, hf2⟩
  simp only at hb1 ho1 hf1 hf2 ⊢
  rw [hw1 v1 s1.e]
  (repeat' first|refine kW ?_|refine kU fun bk=>?_|refine kV fun hc=>?_|refine kZ (fun hc=>?_) fun hc=>?_|fail)
  · have h1 : s1.e = 0 := by omega
    obtain ⟨hf3, hsl⟩ := hf1 h1 (by omega)
    clear hf1 hf2
    obtain ⟨f, rfl⟩ : ∃ g, f = g + 1 := ⟨f - 1, by omega⟩
    rw [rwS] at hsl
    have htk := wtake_n p q most 3 v1 a c d s1 (C1 :: [(g, cl [.slice none 0 0, .int .i64 0, .int .i64 0] 34)] :: L) (sl_there (sl_there hv)) (by omega) hb1 (by decide)
    have htv := tv_lt d s1 3
    have hto := tk_out d s1 3
    have htt : (tk d s1 3).e = 0 → (tk d s1 3).t = s1.t + 3 := fun h0 => by
      by_cases hc : s1.t + 3 ≤ 8 * d.length
      · rw [tk_ok hc]
      · rw [Go.If.tk_no hc h1] at h0; cases h0
    generalize tv d s1 3 = z at htk htv hsl
    generalize tk d s1 3 = s2 at htk hto htt hsl
    rw [← hto] at ho1
    refine OW_call rfl rfl rfl (Gv.holds htk (fun w h => h)) rfl (fun r L' hp => ?_)
    obtain ⟨rfl, rfl, hb2⟩ := hp
    rw [hw1 v1 s2.e]
    have hround : ∀ s3, s3 = bkS d most (z / 2) s2 → z ≤ 5 → s2.e = 0 → (s3.e = 0 → z % 2 = 0 → 8 * d.length < f + s3.t ∧ rwS d most f s3 = R) ∧ ((s3.e ≠ 0 ∨ z % 2 ≠ 0) → s3 = R) := by
      intro s3 h3 hz h2
      have hle := bkS_le d most (z / 2) s2
      rw [← h3] at hle hsl
      have hlt := hle.t
      have htt := htt h2
      rw [if_neg (show ¬ s2.e ≠ 0 from fun hh => hh h2), if_neg (show ¬ 5 < z by omega)] at hsl
      refine ⟨fun h0 h1 => ⟨by omega, ?_⟩, fun h0 => ?_⟩
      · rw [if_neg (show ¬ s3.e ≠ 0 from fun hh => hh h0), if_neg (show ¬ z % 2 = 1 by omega)] at hsl
        exact hsl
      · by_cases h4 : s3.e ≠ 0
        · rw [if_pos h4] at hsl; exact hsl
        · rw [if_neg h4, if_pos (by rcases h0 with h | h; exact absurd h h4; omega)] at hsl; exact hsl
    (repeat' first|refine kW ?_|refine kU fun bk=>?_|refine kV fun hc=>?_|refine kZ (fun hc=>?_) fun hc=>?_|fail)
    refine OW_EV (EV_bit rfl rfl (bit_and16 (a := z) (b := 1) (by omega) (by decide))) rfl ?_
    rw [Nat.and_one_is_mod]
    (repeat' first|refine kW ?_|refine kU fun bk=>?_|refine kV fun hc=>?_|refine kZ (fun hc=>?_) fun hc=>?_|fail)
    · have h2 : s2.e ≠ 0 := by omega
      rw [if_pos h2] at hsl
      refine WQ_round (X := Nat × S6 × Nat × Value × Chunk) (μ := fun x => x.1) (x := (f + 1, s1, la, v1, C1)) (f, s2, z % 2, v1, C1) (by simp only; omega) ⟨hb2, ho1, fun hh => absurd hh h2, fun _ => hsl⟩ iS (fun w h => iH h)
    · have h2 : s2.e = 0 := by omega
      have hJ := hround (stS d most s2) (by unfold bkS; rw [if_pos (by omega)]) (by omega) h2
      have hst := wstored_n p q most v1 a c d s2 C1 ([(g, cl [.slice none 0 0, .int .i64 0, .int .i64 0] 34)] :: L) (sl_there hv) hl hb2 hm ho1
      generalize stS d most s2 = s3 at hst hJ
      refine OW_call rfl rfl rfl (Gv.holds hst (fun w h => h)) rfl (fun r L' hp => ?_)
      obtain ⟨v3, C3, rfl, ho3, rfl, hb3⟩ := hp
      (repeat' first|refine kW ?_|refine kU fun bk=>?_|refine kV fun hc=>?_|refine kZ (fun hc=>?_) fun hc=>?_|fail)
      refine WQ_round (X := Nat × S6 × Nat × Value × Chunk) (μ := fun x => x.1) (x := (f + 1, s1, la, v1, C1)) (f, s3, z % 2, v3, C3) (by simp only; omega) ⟨hb3, ho3, hJ.1, hJ.2⟩ iS (fun w h => iH h)
    · have h2 : s2.e = 0 := by omega
      have hJ := hround (cdC d most fxL fxD (8 * d.length + 1) s2) (by unfold bkS; rw [if_neg (by omega), if_pos (by omega)]) (by omega) h2
      have hfx := fixed_n ([(p, cl [.pointer (some ⟨q, 0, none⟩), v1, .int .i64 (most : Int), .int .i64 (s2.e : Int)] 61)] :: biC q a d.length c s2.t :: C1 :: [(g, cl [.slice none 0 0, .int .i64 0, .int .i64 0] 34)] :: L)
      refine OW_call rfl rfl rfl hfx rfl (fun r L' hp => ?_)
      obtain ⟨u, w2, Cf, Df, rfl, rfl, hof, hod⟩ := hp
      obtain ⟨ua, uc, rfl⟩ := ow_slc hof
      obtain ⟨wa, wc, rfl⟩ := ow_slc hod
      (repeat' first|refine kW ?_|refine kU fun bk=>?_|refine kV fun hc=>?_|refine kZ (fun hc=>?_) fun hc=>?_|fail)
      have hco := wcoded_n p q most v1 ua wa uc wc fxL fxD a c d s2 C1 (Df :: Cf :: [(g, cl [.slice none 0 0, .int .i64 0, .int .i64 0] 34)] :: L) (by rw [fxL_length]; exact sl_there (ow_sl hof)) (by decide +kernel) (by rw [fxL_length]; omega) (by rw [fxD_length]; exact ow_sl hod) (by decide +kernel) (sl_there (sl_there (sl_there hv))) hl hb2 hm ho1
      rw [fxL_length, fxD_length] at hco
      generalize cdC d most fxL fxD (8 * d.length + 1) s2 = s3 at hco hJ
      refine OW_call rfl rfl rfl (Gv.holds hco (fun w h => iH h)) rfl (fun r L' hp => ?_)
      obtain ⟨v3, C3, rfl, ho3, rfl, hb3⟩ := hp
      (repeat' first|refine kW ?_|refine kU fun bk=>?_|refine kV fun hc=>?_|refine kZ (fun hc=>?_) fun hc=>?_|fail)
      refine WQ_round (X := Nat × S6 × Nat × Value × Chunk) (μ := fun x => x.1) (x := (f + 1, s1, la, v1, C1)) (f, s3, z % 2, v3, C3) (by simp only; omega) ⟨hb3, ho3, hJ.1, hJ.2⟩ iS (fun w h => iH h)
    · have h2 : s2.e = 0 := by omega
      have hJ := hround (dbS d most s2) (by unfold bkS; rw [if_neg (by omega), if_neg (by omega)]) (by omega) h2
      have hle := wlengths_n p q most v1 a c d s2 (C1 :: [(g, cl [.slice none 0 0, .int .i64 0, .int .i64 0] 34)] :: L) (sl_there (sl_there hv)) hl hb2 h2
      have hdo := dyS_out d s2
      unfold dbS at hJ
      generalize dyS d s2 = Y at hle hJ hdo
      obtain ⟨s4, ly, ny⟩ := Y
      simp only at hle hJ hdo
      refine OW_call rfl rfl rfl (Gv.holds hle (fun w h => h)) rfl (fun r L' hp => ?_)
      obtain ⟨hb4, ⟨h4, x, y, rfl, rfl⟩ | ⟨h4, a1, c1, a2, c2, l, dl, Cl, rfl, rfl, rfl, hS1, hS2, hd1, hd2, hll, rfl⟩⟩ := hp
      · rw [if_pos h4] at hJ
        rw [hw1 v1 s4.e]
        (repeat' first|refine kW ?_|refine kU fun bk=>?_|refine kV fun hc=>?_|refine kZ (fun hc=>?_) fun hc=>?_|fail)
        rw [← hdo] at ho1
        refine WQ_round (X := Nat × S6 × Nat × Value × Chunk) (μ := fun x => x.1) (x := (f + 1, s1, la, v1, C1)) (f, s4, z % 2, v1, C1) (by simp only; omega) ⟨hb4, ho1, hJ.1, hJ.2⟩ iS (fun w h => iH h)
      · rw [if_neg (show ¬ s4.e ≠ 0 by omega)] at hJ
        rw [hw1 v1 s4.e]
        (repeat' first|refine kW ?_|refine kU fun bk=>?_|refine kV fun hc=>?_|refine kZ (fun hc=>?_) fun hc=>?_|fail)
        rw [← hdo] at ho1
        have hco := wcoded_n p q most v1 a1 a2 c1 c2 (ly.take ny) (ly.drop ny) a c d s4 C1 (Cl :: [(g, cl [.slice none 0 0, .int .i64 0, .int .i64 0] 34)] :: L) (hS1.all _) hd1 hll (hS2.all _) hd2 (sl_there (sl_there hv)) hl hb4 hm ho1
        generalize cdC d most (ly.take ny) (ly.drop ny) (8 * d.length + 1) s4 = s3 at hco hJ
        refine OW_call rfl rfl rfl (Gv.holds hco (fun w h => iH h)) rfl (fun r L' hp => ?_)
        obtain ⟨v3, C3, rfl, ho3, rfl, hb3⟩ := hp
        (repeat' first|refine kW ?_|refine kU fun bk=>?_|refine kV fun hc=>?_|refine kZ (fun hc=>?_) fun hc=>?_|fail)
        refine WQ_round (X := Nat × S6 × Nat × Value × Chunk) (μ := fun x => x.1) (x := (f + 1, s1, la, v1, C1)) (f, s3, z % 2, v3, C3) (by simp only; omega) ⟨hb3, ho3, hJ.1, hJ.2⟩ iS (fun w h => iH h)
    · have h2 : s2.e = 0 := by omega
      rw [if_neg (show ¬ s2.e ≠ 0 by omega), if_pos (show 5 < z by omega)] at hsl
      have hf := wfail_n p q most 3 s2.e v1 (biC q a d.length c s2.t :: C1 :: [(g, cl [.slice none 0 0, .int .i64 0, .int .i64 0] 34)] :: L)
      rw [if_pos h2] at hf
      refine OW_call rfl rfl rfl hf rfl (fun r L' hp => ?_)
      obtain ⟨rfl, rfl⟩ := hp
      (repeat' first|refine kW ?_|refine kU fun bk=>?_|refine kV fun hc=>?_|refine kZ (fun hc=>?_) fun hc=>?_|fail)
      refine WQ_round (X := Nat × S6 × Nat × Value × Chunk) (μ := fun x => x.1) (x := (f + 1, s1, la, v1, C1)) (f, fl s2 3, z % 2, v1, C1) (by simp only; omega) ⟨by simp only [fl_t]; exact hb2, by simp only [fl_out]; exact ho1, fun hh => absurd hh (by show ¬ (fl s2 3).e = 0; rw [fl3 h2]; decide), fun _ => hsl⟩ iS (fun w h => ?_)
      simp only [fl_t, fl3 h2]
      exact iH h
  · have h1 : s1.e ≠ 0 := by omega
    obtain rfl : s1 = R := hf2 (.inl h1)
    first
      | (refine WQ_retC (vs := [.agg #[.slice none 0 0, .int .i64 0, .int .i64 (s1.e : Int)]]) rfl (.agg ⟨by kernel_rfl, by kernel_rfl⟩ rfl (RdAt.cl' (vs := [.slice none 0 0, .int .i64 0, .int .i64 (s1.e : Int)]) (by repeat (first | assumption | exact Fnd.here | refine Fnd.there ?_)) rfl) rfl .nil) ?_
         exact ⟨L, fun w h => iH h, .inl ⟨h1, rfl, rfl⟩⟩)
      | (refine WQ_endC (vs := [.agg #[.slice none 0 0, .int .i64 0, .int .i64 (s1.e : Int)]]) rfl (.agg ⟨by kernel_rfl, by kernel_rfl⟩ rfl (RdAt.cl' (vs := [.slice none 0 0, .int .i64 0, .int .i64 (s1.e : Int)]) (by repeat (first | assumption | exact Fnd.here | refine Fnd.there ?_)) rfl) rfl .nil) ?_
         exact ⟨L, fun w h => iH h, .inl ⟨h1, rfl, rfl⟩⟩)
  · have h1 : s1.e ≠ 0 := by omega
    obtain rfl : s1 = R := hf2 (.inl h1)
    first
      | (refine WQ_retC (vs := [.agg #[.slice none 0 0, .int .i64 0, .int .i64 (s1.e : Int)]]) rfl (.agg ⟨by kernel_rfl, by kernel_rfl⟩ rfl (RdAt.cl' (vs := [.slice none 0 0, .int .i64 0, .int .i64 (s1.e : Int)]) (by repeat (first | assumption | exact Fnd.here | refine Fnd.there ?_)) rfl) rfl .nil) ?_
         exact ⟨L, fun w h => iH h, .inl ⟨h1, rfl, rfl⟩⟩)
      | (refine WQ_endC (vs := [.agg #[.slice none 0 0, .int .i64 0, .int .i64 (s1.e : Int)]]) rfl (.agg ⟨by kernel_rfl, by kernel_rfl⟩ rfl (RdAt.cl' (vs := [.slice none 0 0, .int .i64 0, .int .i64 (s1.e : Int)]) (by repeat (first | assumption | exact Fnd.here | refine Fnd.there ?_)) rfl) rfl .nil) ?_
         exact ⟨L, fun w h => iH h, .inl ⟨h1, rfl, rfl⟩⟩)
  · have h1 : s1.e = 0 := by omega
    obtain rfl : s1 = R := hf2 (.inr (by omega))
    have hus := bused_n q s1.t (.slice a d.length c) 59 ([(p, cl [.pointer (some ⟨q, 0, none⟩), v1, .int .i64 (most : Int), .int .i64 (s1.e : Int)] 61)] :: biC q a d.length c s1.t :: C1 :: [(g, cl [.slice none 0 0, .int .i64 0, .int .i64 0] 34)] :: L) (by exact Fnd.there Fnd.here) (by omega)
    generalize hn : (s1.t + 7) / 8 = n at hus ⊢
    obtain ⟨va, vc, rfl⟩ := ow_slc ho1
    refine WC_draw [[(p, cl [.pointer (some ⟨q, 0, none⟩), .slice va s1.out.length vc, .int .i64 (most : Int), .int .i64 (s1.e : Int)] 61)]] [10] mixed ?_
    (refine WR_t 0 ?_; refine WR_t 1 ?_; refine WR_t 2 ?_; refine WR_t 3 ?_; refine WR_t 4 ?_; refine WR_t 5 ?_; refine WR_t 6 ?_; refine WR_t 7 ?_)
    (refine WR_one 8 (by kernel_rfl) rfl rfl ?_)
    refine OW_callP rfl rfl rfl hus rfl ?_
    refine ⟨iC, ?_⟩
    (refine WR_t 9 ?_)
    (refine WR_last 10 (by kernel_rfl) rfl rfl rfl ?_)
    refine OW_storeAggTo (l := [.slice none 0 0, .int .i64 0, .int .i64 0]) (vs := [.slice va s1.out.length vc, .int .i64 (n : Int), .int .i64 0]) [.slice va s1.out.length vc, .int .i64 (n : Int), .int .i64 0] rfl rfl (by rfl) (by rfl) (by rfl) iU (by simp) ?_
    (refine WR_done (by kernel_rfl) ?_)
    (repeat' first|refine kW ?_|refine kU fun bk=>?_|refine kV fun hc=>?_|refine kZ (fun hc=>?_) fun hc=>?_|fail)
    first
      | (refine WQ_retC (vs := [.agg #[.slice va s1.out.length vc, .int .i64 (n : Int), .int .i64 0]]) rfl (.agg ⟨by kernel_rfl, by kernel_rfl⟩ rfl (RdAt.cl' (vs := [.slice va s1.out.length vc, .int .i64 (n : Int), .int .i64 0]) (by repeat (first | assumption | exact Fnd.here | refine Fnd.there ?_)) rfl) rfl .nil) ?_
         exact ⟨C1 :: L, fun w h => iH h, .inr ⟨h1, _, C1, rfl, ho1, hb1, rfl⟩⟩)
      | (refine WQ_endC (vs := [.agg #[.slice va s1.out.length vc, .int .i64 (n : Int), .int .i64 0]]) rfl (.agg ⟨by kernel_rfl, by kernel_rfl⟩ rfl (RdAt.cl' (vs := [.slice va s1.out.length vc, .int .i64 (n : Int), .int .i64 0]) (by repeat (first | assumption | exact Fnd.here | refine Fnd.there ?_)) rfl) rfl .nil) ?_
         exact ⟨C1 :: L, fun w h => iH h, .inr ⟨h1, _, C1, rfl, ho1, hb1, rfl⟩⟩)
end Go.Proofs.YtdcehmhelfohfaaGreatDoor
namespace Go.Proofs.YtdcehmhelfohfaaGreatDoor
open Go Go.Vx Go.Hf Go.If Go.Df
variable [W0]
set_option maxRecDepth 4000
set_option linter.all false
theorem zl_ok {b o : List UInt8} {level : Int} (h : RwO b level o) (A : Nat) (hA : A = (adlV (adlN (1#32, 0#32) b)).toNat) :
    zlE ([120, flB level] ++ o ++ be4 A) b.length = 0 ∧ usd ([120, flB level] ++ o ++ be4 A) b.length = o.length ∧ (rawS (([120, flB level] ++ o ++ be4 A).drop 2) b.length).out = b := by
  obtain ⟨x, q, rfl, hx, hc9, _, _⟩ := h
  have hA2 : A < 4294967296 := by rw [hA]; exact (adlV (adlN (1#32, 0#32) b)).isLt
  have hd : ([120, flB level] ++ wrB x q ++ be4 A).drop 2 = wrB x q ++ be4 A := rfl
  have hr := raw_all (z := be4 A) hc9 hx (Nat.le_refl b.length)
  have hl : (wrB x q).length = (itL (wrI x q) + 7) / 8 := leB_length _ _
  have hu : usd ([120, flB level] ++ wrB x q ++ be4 A) b.length = (wrB x q).length := by
    unfold usd
    rw [hd, hr, hl]
  have ho : (rawS (([120, flB level] ++ wrB x q ++ be4 A).drop 2) b.length).out = b := by rw [hd, hr]
  refine ⟨?_, hu, ho⟩
  have hlen : ([120, flB level] ++ wrB x q ++ be4 A).length = 2 + (wrB x q).length + 4 := by
    simp [be4]; omega
  have hbt : ∀ k, byt ([120, flB level] ++ wrB x q ++ be4 A) (2 + (wrB x q).length + k) = ((be4 A).getD k 0).toNat := fun k => by
    unfold byt
    rw [List.getD_eq_getElem?_getD, List.getElem?_append_right (by simp; omega), show 2 + (wrB x q).length + k - ([120, flB level] ++ wrB x q).length = k from by simp; omega, ← List.getD_eq_getElem?_getD]
  have b0 := hbt 0
  rw [Nat.add_zero] at b0
  have hh : hdK (byt ([120, flB level] ++ wrB x q ++ be4 A) 0) (byt ([120, flB level] ++ wrB x q ++ be4 A) 1) = true := by
    show hdK 120 (flB level).toNat = true
    unfold flB
    split
    · decide
    · split <;> decide
  unfold zlE
  rw [if_neg (by omega), if_neg (by rw [hh]; decide), hd, hr, if_neg (fun h => h rfl), hu, if_neg (by omega), b0, hbt 1, hbt 2, hbt 3, if_neg]
  unfold adS
  rw [hd, hr, ← hA]
  intro hne
  apply hne
  simp only [be4, List.getD_cons_zero, List.getD_cons_succ, wdN, UInt8.toNat_ofNat']
  omega
set_option maxHeartbeats 8000000 in
theorem deflateback_n (v : Value) (b : List UInt8) (level : Int) (L : List Chunk) (ht : Rs L 1 v b.length (bsv b)) (hlv : -9223372036854775808 ≤ level ∧ level ≤ 9223372036854775807) (hbl : b.length ≤ 140737488351232) (hor : OrAt L) :
    GvP Tryz.prog 4 [v, .int .i64 level].toArray L (.bool true) := by
  refine Gv.of_body (args := [v, .int .i64 level]) Tryz.func4 rfl rfl ?_
  obtain ⟨va, vc, rfl, hroom⟩ := ht.room
  (repeat' first|refine kW ?_|refine kU fun bk=>?_|refine kV fun hc=>?_|refine kZ (fun hc=>?_) fun hc=>?_|fail)
  · refine OW_callP rfl rfl rfl (dawake_n _) rfl ?_
    (repeat' first|refine kW ?_|refine kU fun bk=>?_|refine kV fun hc=>?_|refine kZ (fun hc=>?_) fun hc=>?_|fail)
    exact kE
  have hb : b.length ≤ 20000 := by omega
  refine OW_call rfl rfl rfl (rawA_n (.slice va b.length vc) level b L ht (by omega) hor) rfl (fun r L' hp => ?_)
  obtain ⟨C1, o, hO, _, ho1, rfl⟩ := hp
  have hol := hO.len
  obtain ⟨oa, oc, rfl⟩ := ow_slc ho1
  (repeat' first|refine kW ?_|refine kU fun bk=>?_|refine kV fun hc=>?_|refine kZ (fun hc=>?_) fun hc=>?_|fail)
  refine OW_buildSlice (cs := []) rfl (by rfl) (by rfl) (by omega) rfl rfl (fun b1 => ?_)
  (repeat' first|refine kW ?_|refine kU fun bk=>?_|refine kV fun hc=>?_|refine kZ (fun hc=>?_) fun hc=>?_|fail)
  have he0 : Ow 5 1 (.slice (some ⟨b1, 0, none⟩) 0 0) 0 (bsv []) [(b1, cl (bsv []) 5)] := .inr ⟨b1, 0, [], rfl, rfl, rfl, rfl, Nat.le_refl _, by simp [maxLen]⟩
  refine OW_append rfl rfl he0 (c := o.length) (ys := bsv o) (sl_there (ow_sl (L := L) ho1)) (by repeat (first | exact Zip.here _ | apply Zip.there)) (by rfl) bsv_ones (by omega) (by simp [maxLen]; omega) rfl (fun v1 D1 hd1 _ _ => ?_)
  rw [← bsv_append, List.nil_append, Nat.zero_add] at hd1
  (repeat' first|refine kW ?_|refine kU fun bk=>?_|refine kV fun hc=>?_|refine kZ (fun hc=>?_) fun hc=>?_|fail)
  refine OW_buildSlice (cs := bsv [1, 2]) rfl (by rfl) (by first | (simp [fillL, patch, Value.cells, zeros]; done) | (simp [fillL, patch, Value.cells, zeros]; rfl)) (by omega) rfl rfl (fun b2 => ?_)
  refine jA ?_
  refine OW_append rfl rfl hd1 (sl_cells (k := 1) (c := (bsv [1, 2]).toArray) (xs := bsv [1, 2]) (m := 2) Fnd.here rfl (by simp)) (by repeat (first | exact Zip.here _ | apply Zip.there)) rfl bsv_ones (by omega) (by simp [maxLen]; omega) rfl (fun v2 D2 hd2 _ _ => ?_)
  rw [← bsv_append] at hd2
  have hl2 : (o ++ [1, 2]).length = o.length + 2 := by simp
  rw [← hl2] at hd2
  obtain ⟨d2, e2, rfl⟩ := ow_slc hd2
  (repeat' first|refine kW ?_|refine kU fun bk=>?_|refine kV fun hc=>?_|refine kZ (fun hc=>?_) fun hc=>?_|fail)
  have hM : max (b.length : Int) 0 = (b.length : Int) := by omega
  obtain ⟨x, q, ho9, hx3, hbc, hit, _⟩ := id hO
  have hr1 : rawS (o ++ [1, 2]) b.length = ⟨itL (wrI x q), b, 0⟩ := by rw [ho9]; exact raw_all hbc hx3 (Nat.le_refl _)
  have hr2 : rawS o b.length = ⟨itL (wrI x q), b, 0⟩ := by have := raw_all (z := []) hbc hx3 (Nat.le_refl b.length); rwa [List.append_nil, ← ho9] at this
  have hus : (itL (wrI x q) + 7) / 8 = o.length := by rw [ho9]; exact (leB_length _ _).symm
  have hp1 := fun H (hs : Sl H 1 (.slice d2 (o ++ [1, 2]).length e2) (o ++ [1, 2]).length (bsv (o ++ [1, 2]))) (h9 : OrAt H) => praw_n d2 e2 (o ++ [1, 2]) (b.length : Int) b.length H hs (by omega) hM (by omega) h9
  rw [hr1] at hp1
  refine OW_call rfl rfl rfl (hp1 _ (by repeat (first | exact ow_sl hd2 | apply sl_there)) (by repeat (first | exact hor | apply OrAt.there))) rfl (fun r L' hp => ?_)
  rcases hp with ⟨h0, _⟩ | ⟨_, v3, C3, rfl, ho3, _, _, rfl⟩
  · exact absurd rfl h0
  simp only at ho3
  rw [hus]
  obtain ⟨a3, c3, rfl⟩ := ow_slc ho3
  (repeat' first|refine kW ?_|refine kU fun bk=>?_|refine kV fun hc=>?_|refine kZ (fun hc=>?_) fun hc=>?_|fail)
  have hp2 := fun H (hs : Sl H 1 (.slice oa o.length oc) o.length (bsv o)) => wraw_n oa oc o (b.length : Int) b.length H hs (by omega) hM (by omega)
  rw [hr2] at hp2
  refine OW_call rfl rfl rfl (hp2 _ (by repeat (first | exact ow_sl ho1 | apply sl_there))) rfl (fun r L' hp => ?_)
  rcases hp with ⟨h0, _⟩ | ⟨_, v4, C4, rfl, ho4, _, rfl⟩
  · exact absurd rfl h0
  simp only at ho4
  rw [hus]
  obtain ⟨a4, c4, rfl⟩ := ow_slc ho4
  (repeat' first|refine kW ?_|refine kU fun bk=>?_|refine kV fun hc=>?_|refine kZ (fun hc=>?_) fun hc=>?_|fail)
  refine OW_call rfl rfl rfl (zlibA_n (.slice va b.length vc) level b _ (ht.sub iM) (by omega) (by repeat (first | exact hor | apply OrAt.there))) rfl (fun r L' hp => ?_)
  obtain ⟨C5, o5, hO5, _, ho5, rfl⟩ := hp
  obtain ⟨z1, z2, z3⟩ := zl_ok hO5 _ rfl
  have hol5 := hO5.len
  obtain ⟨z, hz⟩ : ∃ z, z = [120, flB level] ++ o5 ++ be4 (adlV (adlN (1#32, 0#32) b)).toNat := ⟨_, rfl⟩
  have hzl : z.length = 2 + o5.length + 4 := by rw [hz]; simp [be4]; omega
  rw [← hz] at z1 z2 z3 ho5
  rw [← hzl] at ho5
  obtain ⟨a5, c5, rfl⟩ := ow_slc ho5
  obtain ⟨a5', c5', h5', h5c⟩ := (Rs.ow (L := L) ho5).room
  injection h5' with q1 _ q2
  subst q1 q2
  (repeat' first|refine kW ?_|refine kU fun bk=>?_|refine kV fun hc=>?_|refine kZ (fun hc=>?_) fun hc=>?_|fail)
  have hp3 := fun H (hs : Sl H 1 (.slice a5 z.length c5) z.length (bsv z)) (h9 : OrAt H) => pzlib_n a5 c5 z (b.length : Int) b.length H hs (by omega) h5c hM (by omega) h9
  rw [z1, z2, z3, ← hzl] at hp3
  refine OW_call rfl rfl rfl (hp3 _ (by exact ow_sl ho5) (by repeat (first | exact hor | apply OrAt.there))) rfl (fun r L' hp => ?_)
  rcases hp with ⟨h0, _⟩ | ⟨_, v6, C6, rfl, ho6, _, rfl⟩
  · exact absurd rfl h0
  obtain ⟨a6, c6, rfl⟩ := ow_slc ho6
  (repeat' first|refine kW ?_|refine kU fun bk=>?_|refine kV fun hc=>?_|refine kZ (fun hc=>?_) fun hc=>?_|fail)
  · exact absurd trivial hc
  refine OW_EV (EV_convStr (m := b.length) (b := b) rfl (by repeat (first | exact ow_sl ho3 | apply sl_there))) rfl ?_
  (repeat' first|refine kW ?_|refine kU fun bk=>?_|refine kV fun hc=>?_|refine kZ (fun hc=>?_) fun hc=>?_|fail)
  refine OW_EV (EV_convStr (m := b.length) (b := b) rfl (ht.sub iM).sl) rfl ?_
  (repeat' first|refine kW ?_|refine kU fun bk=>?_|refine kV fun hc=>?_|refine kZ (fun hc=>?_) fun hc=>?_|fail)
  all_goals (try exact absurd trivial hc)
  refine OW_EV (EV_convStr (m := b.length) (b := b) rfl (by repeat (first | exact ow_sl ho4 | apply sl_there))) rfl ?_
  (repeat' first|refine kW ?_|refine kU fun bk=>?_|refine kV fun hc=>?_|refine kZ (fun hc=>?_) fun hc=>?_|fail)
  refine OW_EV (EV_convStr (m := b.length) (b := b) rfl (ht.sub iM).sl) rfl ?_
  (repeat' first|refine kW ?_|refine kU fun bk=>?_|refine kV fun hc=>?_|refine kZ (fun hc=>?_) fun hc=>?_|fail)
  all_goals (try exact absurd trivial hc)
  refine OW_EV (EV_convStr (m := b.length) (b := b) rfl (by repeat (first | exact ow_sl ho6 | apply sl_there))) rfl ?_
  (repeat' first|refine kW ?_|refine kU fun bk=>?_|refine kV fun hc=>?_|refine kZ (fun hc=>?_) fun hc=>?_|fail)
  refine OW_EV (EV_convStr (m := b.length) (b := b) rfl (ht.sub iM).sl) rfl ?_
  (repeat' first|refine kW ?_|refine kU fun bk=>?_|refine kV fun hc=>?_|refine kZ (fun hc=>?_) fun hc=>?_|fail)
  all_goals (try exact absurd trivial hc)
  refine OW_callP rfl rfl rfl (dawake_n _) rfl ?_
  (repeat' first|refine kW ?_|refine kU fun bk=>?_|refine kV fun hc=>?_|refine kZ (fun hc=>?_) fun hc=>?_|fail)
  exact kE
end Go.Proofs.YtdcehmhelfohfaaGreatDoor
namespace Go.Proofs.YtdcehmhelfohfaaGreatDoor
open Go Go.Vx Go.ChangeShapes Go.WideShapes Go.ChangeAt Go.RowKit
set_option maxRecDepth 4000
set_option linter.all false
theorem open_bytes {H : Type} {enc : TypeId × Value → H} {P : Program} {W : World} {t e : TypeId} {a : Option Addr} {len cap : Nat} {d : DataW H} {ps : List MemPlace} (ht : P.underlying t = some (.slice e)) (he : P.underlying e = some (.int .u8)) (hc : P.cellsOf e = 1)
    (h : DataW.Trod enc P W 0 (fun _ => true) true t (.slice a len cap) d ps) :
    ∃ xs : List UInt8, xs.length = len ∧ SlC [blks W] 1 (.slice a len cap) len (bsv xs) ∧ len ≤ Rows.uptoBulk d ∧ (len = 0 ∨ ∃ el sp, d = .slice el sp ∧ el.length = len) := by
  have hx : len ≤ cap ∧ (len = 0 ∨ ∃ el sp, d = .slice el sp ∧ el.length = len) := by
    obtain ⟨fuel, hf⟩ := h
    rcases open_ints ht he hc hf with ⟨hcs, _⟩ | ⟨x, l, c, zs, hcs, _, hl, hm, hz, hx, hcell, hwz⟩
    · simp [Value.cells] at hcs
      obtain ⟨rfl, rfl, rfl⟩ := hcs
      exact ⟨Nat.le_refl _, .inl rfl⟩
    · simp [Value.cells] at hcs
      obtain ⟨rfl, rfl, rfl⟩ := hcs
      have hzl : zs.length = cap := by simpa using hz
      have hd : d = .slice (lits .u8 (zs.take len)) (lits .u8 (zs.drop len)) := by injection hx
      exact ⟨hl, .inr ⟨_, _, hd, by simp [lits]; omega⟩⟩
  obtain ⟨xs, h1, h2, h3, h4⟩ := open_row ht he hc h
  refine ⟨xs.map fun n => UInt8.ofNat n.toNat, by simpa using h1, ⟨?_, _, _, rfl, hx.1⟩, h4, hx.2⟩
  rw [bytes_of xs h2]
  exact h3
theorem reach_len {H : Type} {P : Program} {ts : List TypeId} {ds : List (DataW H)} (h : (DataW.weightsEach P ts ds).all (· ≤ reachBytes) = true) {j : Nat} {t e : TypeId} {d : DataW H} {len : Nat} (ht : ts[j]? = some t) (hd : ds[j]? = some d) (hu : P.underlying t = some (.slice e)) (hb : P.bytesOf e = 1)
    (hl : len = 0 ∨ ∃ el sp, d = .slice el sp ∧ el.length = len) : len ≤ 140737488351232 := by
  rcases hl with rfl | ⟨el, sp, rfl, rfl⟩
  · omega
  · have := sized_slice h ht hd hu
    rw [hb, Nat.mul_one] at this
    simp [reachBytes] at this
    omega
def tabZ : List Int := [16, 17, 18, 0, 8, 7, 9, 6, 10, 5, 11, 4, 12, 3, 13, 2, 14, 1, 15]
theorem tabZ_eq {i : Nat} (h : i < 19) : tabZ.getD i 0 = ((Go.If.ordL.getD i 0 : Nat) : Int) := by
  have : ∀ i : Fin 19, tabZ.getD i.val 0 = ((Go.If.ordL.getD i.val 0 : Nat) : Int) := by decide
  exact this ⟨i, h⟩
theorem tab_met {W : World} (h : laidMetH Tryz.prog [("stemma/symbols.order", Rows.laid_stemma_symbols_order)] W) : OrAt [blks W] := by
  letI : W0 := ⟨W.os, W.output⟩
  have ht : Lib.TabIs Tryz.prog W "stemma/symbols.order" .i64 tabZ :=
    Lib.tabIs_of_head (rest := []) (show Tryz.prog.globalNamed "stemma/symbols.order" = some 0 by kernel_rfl) (show (Tryz.prog.globals[0]?).map (·.type) = some 233 by kernel_rfl)
      Tryz.underlying233 Tryz.underlying3 (show Tryz.prog.cellsOf 3 = 1 by kernel_rfl) (show Tryz.prog.cellsOf 233 = 19 by kernel_rfl) h
  have hg : Tryz.prog.globalNamed "stemma/symbols.order" = some 0 := by kernel_rfl
  have hc0 := ht.cell hg 0 (by decide)
  have hblk : ∃ C T fr, W.heap[0]? = some (.cells C T fr) := by
    unfold World.cell? at hc0
    split at hc0
    · rename_i C T fr hb; exact ⟨C, T, fr, hb⟩
    · cases hc0
  obtain ⟨C, T, fr, hb⟩ := hblk
  refine ⟨C, T, fr, by simpa [Fnd] using blks_mem.2 hb, fun i hi => ?_⟩
  have := ht.cell hg i hi
  rw [cell_of hb] at this
  rw [this, tabZ_eq hi]
end Go.Proofs.YtdcehmhelfohfaaGreatDoor
namespace Go.Proofs.YtdcehmhelfohfaaGreatDoor
open Go Go.Vx Go.ChangeShapes Go.WideShapes Go.ChangeAt Go.RowKit
set_option linter.all false
set_option maxRecDepth 4000
theorem top_row (H : Type) (enc : TypeId × Value → H) (W : World) (base : Nat) (args : Array Value) (ds gs : List (DataW H)) (before : List MemPlace)
    (hval : ∀ (j : Nat) t v, Tryz.f4.params[j]? = some t → args[j]? = some v → Value.okWide Tryz.prog W .any base t v)
    (hW : DataW.Whole enc Tryz.prog Tryz.f4.params.toList Rows.deflateBackSpec.vars false W args.toList ds gs before)
    (hz : (DataW.weightsEach Tryz.prog (Tryz.f4.params.toList ++ Rows.deflateBackSpec.plain.varTypes Tryz.prog) (ds ++ gs)).all (· ≤ reachBytes) = true) (hL : laidMetH Tryz.prog [("stemma/symbols.order", Rows.laid_stemma_symbols_order)] W) :
    Calls Tryz.prog 4 args W fun e W' => ∃ v, e = .returned v ∧ Rows.deflateBackSpec.post enc Tryz.prog Tryz.f4 false true false false W args v W' := by
  have hW' := hW
  obtain ⟨p, q, hA0, hV, rfl, hfz, hnd⟩ := hW
  have hA : DataW.TrodAll enc Tryz.prog W 0 (fun _ => true) true Tryz.f4.params.toList args.toList ds p := hA0
  rw [Tryz.params4] at hA hval hz
  obtain ⟨v0, vs0, d0, ds0, p0, q0, hargs, rfl, rfl, h0, r0⟩ := trodAll_cons hA
  obtain ⟨v1, vs1, d1, ds1, p1, q1, rfl, rfl, rfl, h1, r1⟩ := trodAll_cons r0
  obtain ⟨rfl, rfl, rfl⟩ := trodAll_nil r1
  obtain rfl : args = #[v0, v1] := by cases args; simp_all
  obtain ⟨rfl, rfl⟩ := trodVars_none hV
  obtain ⟨a0, l0, c0, rfl⟩ := okWide_slice Tryz.underlying22 (hval 0 _ v0 rfl rfl)
  obtain ⟨x0, e0, s0, b0, g0⟩ := open_bytes Tryz.underlying22 Tryz.underlying5 (by kernel_rfl) h0
  have r0 : l0 ≤ 140737488351232 := reach_len hz (j := 0) rfl rfl Tryz.underlying22 (by kernel_rfl) g0
  obtain ⟨n1, rfl, rfl, rfl, w1⟩ := open_int Tryz.underlying3 (hval 1 _ v1 rfl rfl) h1
  clear hA0
  have lt0 : ∀ x ∈ p0, x.block < W.heap.size := by obtain ⟨m, hm⟩ := h0; exact DataW.trod_lt m _ _ _ hm
  have hc : Calls Tryz.prog 4 #[.slice a0 l0 c0, .int .i64 n1] W fun e W' => e = .returned (.bool true) ∧ Kept W W' := by
    have ht := tab_met hL
    refine bridge (fun {i} => ?_)
    subst e0
    have hb1 := bounds_i64 w1
    exact deflateback_n (.slice a0 x0.length c0) x0 n1 [blks W] ⟨s0.sl, s0.room⟩ hb1 r0 ht
  refine hc.mono fun e W' ⟨he, bel⟩ => ?_
  subst he
  exact ⟨_, rfl, _, _, _, [], _, [], hW', trodAll_mk1 (shut_bool Tryz.underlying4 _), (trodAll_cons_mk (Kept.trod Tryz.laidOut (by kernel_rfl) (of_decide_eq_true (by kernel_rfl)) h0 bel lt0) (trodAll_cons_mk (shut_int Tryz.underlying3 w1) trodAll_mk0)), rfl, bel.frame _, fun h => by cases h⟩
noncomputable def laidWorld (os : Os) : World :=
  { World.holding Tryz.prog os ⟨#[], #[], []⟩ with heap := (World.holding Tryz.prog os ⟨#[], #[], []⟩).heap.modify 0 fun
      | .cells _ t frozen => .cells (tabZ.map (Value.int .i64)).toArray t frozen
      | o => o }
theorem laid_met (os : Os) : laidMet Tryz.prog Rows.deflateBackRow.laid ((laidWorld os).forCall (fun _ _ => 0) ⟨#[], #[.slice none 0 0, .int .i64 0], []⟩).memory :=
  laidMet_of_run' 8 (by kernel_rfl) (by kernel_rfl)
theorem reads (os : Os) {H : Type} (enc : TypeId × Value → H) : ∃ places, DataW.whole enc Tryz.prog ((laidWorld os).forCall (fun _ _ => 0) ⟨#[], #[.slice none 0 0, .int .i64 0], []⟩).memory Tryz.f4.params.toList Rows.deflateBackSpec.vars false #[.slice none 0 0, .int .i64 0].toList 8 = some ([.nil, .lit (.int .i64 0)], [], places) :=
  ⟨[], by kernel_rfl⟩
set_option maxRecDepth 100000 in
theorem top_lifted (os : Os) (started : os.Started) (H : Type) (enc : TypeId × Value → H) (F : Stop.Interp) :
    ReturnsInHanded {} Tryz.checked os 4 .any ((OpenSpec.ofChange Rows.deflateBackSpec).preRow enc Tryz.prog Tryz.f4 Rows.deflateBackRow.domain false Rows.deflateBackRow.laid) (((OpenSpec.ofChange Rows.deflateBackSpec).at F).post enc Tryz.prog Tryz.f4 false true false false) := by
  obtain ⟨places, hx⟩ := reads os enc
  refine returnsInHanded_of_row (C := Tryz.checked) (s := (OpenSpec.ofChange Rows.deflateBackSpec)) Tryz.own started (by kernel_rfl) Tryz.func4
    (witness_row_at (enc := enc) (C := Tryz.checked) false (laidWorld os) #[.slice none 0 0, .int .i64 0] rfl (by kernel_rfl) (by kernel_rfl) (by kernel_rfl)
      (OpenSpec.preRow_of_cond 8 hx (by kernel_rfl) (fun k hk => by cases hk) (by kernel_rfl) (laid_met os))) ?_
  intro W base args ds gs before hval hW _ hcond hz hL _ _
  exact top_row H enc W base args ds gs before hval hW hz hL
theorem top_over : Rows.DeflateBackSaid :=
  OpenClaim.holds_of_cond 4 Tryz.f4 rfl rfl rfl rfl rfl rfl rfl ⟨rfl, rfl, rfl, rfl, rfl⟩ rfl rfl rfl rfl rfl (by kernel_rfl) Tryz.func4 (by kernel_rfl)
    (of_decide_eq_true (by kernel_rfl)) (by unfold Func.isWrapper; first | (rw [if_pos (by decide +kernel)]; kernel_rfl) | (rw [if_neg (by decide +kernel)]; exact ⟨rfl, rfl⟩))
    (fun os started H enc _ F => by rw [OpenClaim.pre_eq_preRow]; exact top_lifted os started H enc F)
theorem top_plain (f : FuncId) (fn : Func) (hf : Tryz.pinned.checked.prog.funcNamed "stemma/stemmalaw7.DeflateBack" = some f) (hfn : Tryz.pinned.checked.prog.funcs[f]? = some fn) :
    true = Tryz.pinned.checked.prog.looks [] ∧ ∀ (j : Nat) t, fn.params[j]? = some t → Tryz.pinned.checked.prog.wantsStandIn t = false := by
  obtain rfl : f = 4 := Option.some.inj ((show Tryz.prog.funcNamed "stemma/stemmalaw7.DeflateBack" = some 4 by kernel_rfl).symm.trans hf) |>.symm
  obtain rfl : fn = Tryz.f4 := (Option.some.inj (Tryz.func4.symm.trans hfn)).symm
  have all : (Tryz.f4.params.toList.all fun t => !Tryz.prog.wantsStandIn t) = true := by kernel_rfl
  refine ⟨by kernel_rfl, fun j t ht => ?_⟩
  have hm : t ∈ Tryz.f4.params.toList := by
    have := Array.mem_of_getElem? ht
    simpa using this
  have := List.all_eq_true.1 all t hm
  show Tryz.prog.wantsStandIn t = false
  simpa using this
theorem top_holds : Rows.DeflateBackCardSaid :=
  Claim7.holds_tied_plain_at .later [] _ _ _ _ top_over (fun _ h => by cases h) (by kernel_rfl) (fun _ h => by cases h) deflateBack_row_tie rfl ⟨rfl, rfl⟩ (by kernel_rfl) rfl top_plain (by kernel_rfl)
end Go.Proofs.YtdcehmhelfohfaaGreatDoor
