/- HuffBack returns true and leaves its arguments as they were, for every argument that the row takes. No conditions beyond the row's. -/
import Derived.Test.YtbdpjbmfhnbheaaPY2
namespace Go.Hf
set_option linter.all false
def nxl (l : List Nat) (i : Nat) : List Nat := (List.range 16).map fun n => if n = 0 then 0 else fs l n + cn (l.take i) n
theorem nxl_length (l : List Nat) (i : Nat) : (nxl l i).length = 16 := by simp [nxl]
theorem nxl_get (l : List Nat) (i : Nat) {n : Nat} (h : n < 16) : (nxl l i)[n]? = some (if n = 0 then 0 else fs l n + cn (l.take i) n) := by simp [nxl, h]
theorem nxl_zero (l : List Nat) : nxl l 0 = fsl l 16 := by
  refine list_ext16 (nxl_length _ _) (fsl_length _ _) fun n hn => ?_
  rw [nxl_get _ _ hn, fsl_get _ _ hn, if_pos hn]
  by_cases h : n = 0
  · subst h; rfl
  · rw [if_neg h]; simp [cn]
theorem nxl_set {l : List Nat} {i : Nat} (hi : i < l.length) (h0 : 0 < l.getD i 0) (h15 : l.getD i 0 ≤ 15) : (nxl l i).set (l.getD i 0) (fs l (l.getD i 0) + cn (l.take i) (l.getD i 0) + 1) = nxl l (i + 1) := by
  refine list_ext16 (by simp [nxl]) (nxl_length _ _) fun n hn => ?_
  rw [nxl_get _ _ hn, cn_take_succ hi]
  by_cases he : l.getD i 0 = n
  · subst he
    rw [List.getElem?_set_self (by rw [nxl_length]; exact hn), if_neg (by omega), if_pos rfl, Nat.add_assoc]
  · rw [List.getElem?_set_ne he, nxl_get _ _ hn, if_neg he, Nat.add_zero]
theorem nxl_skip {l : List Nat} {i : Nat} (hi : i < l.length) (h0 : l.getD i 0 = 0) : nxl l i = nxl l (i + 1) := by
  refine list_ext16 (nxl_length _ _) (nxl_length _ _) fun n hn => ?_
  rw [nxl_get _ _ hn, nxl_get _ _ hn, cn_take_succ hi]
  by_cases he : n = 0
  · rw [if_pos he, if_pos he]
  · rw [if_neg he, if_neg he, if_neg (by omega), Nat.add_zero]
def cdp (l : List Nat) (i : Nat) : List Nat := (List.range l.length).map fun j => if j < i then cd l j else 0
theorem cdp_length (l : List Nat) (i : Nat) : (cdp l i).length = l.length := by simp [cdp]
theorem cdp_get {l : List Nat} {i j : Nat} (hj : j < l.length) : (cdp l i)[j]? = some (if j < i then cd l j else 0) := by simp [cdp, hj]
theorem cdp_ext {l A : List Nat} {i : Nat} (hl : A.length = l.length) (h : ∀ j, j < l.length → A[j]? = some (if j < i then cd l j else 0)) : A = cdp l i := by
  apply List.ext_getElem?
  intro j
  rcases Nat.lt_or_ge j l.length with hj | hj
  · rw [h j hj, cdp_get hj]
  · rw [List.getElem?_eq_none (by omega), List.getElem?_eq_none (by rw [cdp_length]; exact hj)]
theorem cdp_zero (l : List Nat) : cdp l 0 = List.replicate l.length 0 := by
  refine (cdp_ext (by simp) fun j hj => ?_).symm
  rw [List.getElem?_replicate, if_pos hj, if_neg (by omega)]
theorem cdp_set {l : List Nat} {i : Nat} (hi : i < l.length) : (cdp l i).set i (cd l i) = cdp l (i + 1) := by
  refine cdp_ext (by simp [cdp]) fun j hj => ?_
  by_cases he : i = j
  · subst he
    rw [List.getElem?_set_self (by rw [cdp_length]; exact hj), if_pos (by omega)]
  · rw [List.getElem?_set_ne he, cdp_get hj]
    congr 1
    have e : (j < i) = (j < i + 1) := by apply propext; omega
    simp only [e]
theorem cdp_skip {l : List Nat} {i : Nat} (h0 : l.getD i 0 = 0) : cdp l i = cdp l (i + 1) := by
  refine cdp_ext (cdp_length _ _) fun j hj => ?_
  rw [cdp_get hj]
  by_cases he : j = i
  · subst he
    rw [if_neg (by omega), if_pos (by omega)]
    unfold cd
    rw [if_pos h0]
  · congr 1
    have e : (j < i) = (j < i + 1) := by apply propext; omega
    simp only [e]
theorem cdp_end (l : List Nat) : cdp l l.length = cds l := by
  refine (cdp_ext (by simp [cds]) fun j hj => ?_).symm
  rw [if_pos hj]
  simp [cds, hj]
end Go.Hf
namespace Go.Proofs.Ytbdpjbmfhnbheaa
open Go Go.Vx Go.Hf
variable [W0]
set_option maxRecDepth 4000
set_option linter.all false
set_option maxHeartbeats 4000000 in
theorem hcodes_n (a : Option Addr) (c : Nat) (ls : List Int) (L : List Chunk) (h : Sl L 1 (.slice a ls.length c) ls.length (intsN ls)) (hl : ls.length ≤ 17592186044416) :
    Gv Try.prog 11 [.slice a ls.length c].toArray L (fun r L' => ∃ u C, r = .tuple #[u, .int .i64 (cdE ls : Int)] ∧ L' = C :: L ∧ Ow 38 1 u (cdL ls).length (wnv (cdL ls)) C) := by
  refine Gv.of_body Try.func11 rfl rfl ?_
  have hno : cdE ls ≠ 0 → ∀ (M : List (Nat × Value)) (D : Chunk), lk M 2 = some (.slice none 0 0) → lk M 3 = some (.int .i64 (cdE ls : Int)) →
      WQ Try.f11.ntmps (bodyPost Try.prog Try.f11 (fun e w' => ∃ v L', e = .returned v ∧ (∃ u C, v = .tuple #[u, .int .i64 (cdE ls : Int)] ∧ L' = C :: L ∧ Ow 38 1 u (cdL ls).length (wnv (cdL ls)) C) ∧ Holds w' L') .ret) M (D :: L) := by
    intro he M D h2 h3
    refine WQ_retH (rs := [.tmp 2, .tmp 3]) (vs := [.slice none 0 0, .int .i64 (cdE ls : Int)]) rfl (by simp [resT, h2, h3]) ?_
    have e : cdL ls = [] := if_neg he
    rw [e]
    exact ⟨[] :: L, fun w hw => Holds.nil.2 hw.drop, _, [], rfl, rfl, .inl ⟨rfl, rfl, rfl, rfl⟩⟩
  have ht := fun L' h' => checked_n a c ls L' h' hl
  have hf := fun L' (h0 : cdE ls = 0) => firsts_n (nl ls) L' (cdE_inv h0).2.2 (by rw [nl_length]; exact (cdE_inv h0).1)
  have hte : cdE ls = 0 → ivn (tal (nl ls)) = ivn (talC ls) := fun h0 => by unfold talC; rw [if_pos h0]
  have htl : (ivn (talC ls)).length = 16 := by rw [ivn_length, talC_length]
  have hto : ones (ivn (talC ls)) = true := ivn_ones
  generalize ivn (tal (nl ls)) = sv at hf hte
  generalize ivn (talC ls) = tv at ht hte htl hto
  (repeat' first|refine kX ?_|refine kU fun bk=>?_|refine kV fun hc=>?_|refine kZ (fun hc=>?_) fun hc=>?_|fail)
  refine OW_callP rfl rfl rfl (ht _ h) rfl ?_
  (repeat' first|refine kX ?_|refine kU fun bk=>?_|refine kV fun hc=>?_|refine kZ (fun hc=>?_) fun hc=>?_|fail)
  obtain ⟨b4, hb4⟩ : ∃ b4, b4 = bk := ⟨_, rfl⟩
  rw [← hb4]
  refine OW_holds (L' := [(b4, cl (ivn zI) 68)] :: L) (fun w h => h) ?_
  clear hb4
  refine OW_storeAggTo (l := ivn zI) (vs := tv) tv rfl rfl htl hto ?_ iU (by rw [htl]; decide) ?_
  · have e : (ivn zI).length = 16 := by decide
    simp [patch, htl, e]
  (repeat' first|refine kX ?_|refine kU fun bk=>?_|refine kV fun hc=>?_|refine kZ (fun hc=>?_) fun hc=>?_|fail)
  · exact hno (by omega) _ _ rfl rfl
  have h0 : cdE ls = 0 := by omega
  obtain ⟨h400, hok, hk⟩ := cdE_inv h0
  have hf := hf ([(b4, cl tv 68)] :: L) h0
  rw [hte h0] at hf
  have e2 : cdL ls = cds (nl ls) := if_pos h0
  obtain ⟨l, hll⟩ : ∃ l, l = nl ls := ⟨_, rfl⟩
  have hlen : l.length = ls.length := by rw [hll, nl_length]
  rw [← hll] at hk hf e2
  have h15 : ∀ x ∈ l, x ≤ 15 := fun x hx => okL_nl hok (by rw [← hll]; exact hx)
  have hfit : ∀ n, 1 ≤ n → n ≤ 15 → fs l n + cn l n ≤ 32768 := fun n h1 h2 => Nat.le_trans (fs_fit hk h1 h2) (Nat.le_trans (Nat.pow_le_pow_right (by decide) h2) (by decide))
  obtain ⟨F, hF⟩ : ∃ F : Nat → List Value, ∀ i, F i = wnv (nxl l i) := ⟨_, fun _ => rfl⟩
  have hFl : ∀ i, (F i).length = 16 := fun i => by rw [hF, wnv_length, nxl_length]
  have hFo : ones (F 0) = true := by rw [hF]; exact wnv_ones
  rw [← nxl_zero, ← hF] at hf
  refine OW_W ?_ (he := EV_loadAll (vs := tv) rfl Fnd.here htl)
  (repeat' first|refine kX ?_|refine kU fun bk=>?_|refine kV fun hc=>?_|refine kZ (fun hc=>?_) fun hc=>?_|fail)
  refine OW_callP rfl rfl rfl hf rfl ?_
  (repeat' first|refine kX ?_|refine kU fun bk=>?_|refine kV fun hc=>?_|refine kZ (fun hc=>?_) fun hc=>?_|fail)
  obtain ⟨b6, hb6⟩ : ∃ b6, b6 = bk := ⟨_, rfl⟩
  rw [← hb6]
  refine OW_holds (L' := [(b6, cl (wnv zI) 71)] :: [(b4, cl tv 68)] :: L) (fun w h => h) ?_
  clear hb6
  refine OW_storeAggTo (l := wnv zI) (vs := F 0) (F 0) rfl rfl (hFl 0) hFo ?_ iU (by rw [hFl]; decide) ?_
  · have e : (wnv zI).length = 16 := by decide
    simp [patch, hFl, e]
  (repeat' first|refine kX ?_|refine kU fun bk=>?_|refine kV fun hc=>?_|refine kZ (fun hc=>?_) fun hc=>?_|fail)
  refine OW_makeSlice (m := ls.length) (c := ls.length) rfl rfl (by rfl) (by omega) (by omega) (by omega) rfl (fun bn => ?_)
  rw [show zeros (Value.int .u32 0).cells.toList ls.length = wnv (cdp l 0) from by rw [cdp_zero, hlen]; exact zeros_wnv _]
  (repeat' first|refine kX ?_|refine kU fun bk=>?_|refine kV fun hc=>?_|refine kZ (fun hc=>?_) fun hc=>?_|fail)
  have hls : (nl ls).length = ls.length := nl_length ls
  refine WC_loop (X := Nat) (fun i => [(6, .pointer (some ⟨b6, 0, none⟩)), (7, .slice (some ⟨bn, 0, none⟩) ls.length ls.length), (23, .slice a ls.length c), (24, .int .i64 (ls.length : Int)), (25, .int .i64 (i : Int))])
    (fun i => [(bn, cl (wnv (cdp l i)) 38)] :: [(b6, cl (F i) 71)] :: [(b4, cl tv 68)] :: L) (fun i => i ≤ ls.length) (fun i => ls.length - i) 0 (Nat.zero_le _) iS (fun w h => h) ?_
  intro i hi
  (repeat' first|refine kX ?_|refine kU fun bk=>?_|refine kV fun hc=>?_|refine kZ (fun hc=>?_) fun hc=>?_|fail)
  · have hlt : i < ls.length := by omega
    obtain ⟨b, off, cap, cc, T, fr, hve, hfn, hcell⟩ := sl_at h (ints_get hlt)
    injection hve with q1 q2 q3
    subst q1 q3
    clear q2
    have hat := okL_at hok i
    rw [← hll] at hat
    rw [← hat.2.2] at hcell
    obtain ⟨x, hx⟩ : ∃ x, x = l.getD i 0 := ⟨_, rfl⟩
    have hx15 : x ≤ 15 := by omega
    have hset := nxl_set (l := l) (i := i) (by omega)
    have hskip := nxl_skip (l := l) (i := i) (by omega)
    have hskip2 := cdp_skip (l := l) (i := i)
    have hcd : 0 < x → cd l i = fs l x + cn (l.take i) x := fun h => by unfold cd; rw [← hx, if_neg (by omega)]
    rw [← hx] at hcell hset hskip hskip2
    refine OW_W ?_ (he := EV_indexAddr (j := i) rfl rfl rfl hlt)
    (repeat' first|refine kX ?_|refine kU fun bk=>?_|refine kV fun hc=>?_|refine kZ (fun hc=>?_) fun hc=>?_|fail)
    refine OW_W ?_ (he := EV_load rfl hfn.there.there.there hcell)
    (repeat' first|refine kX ?_|refine kU fun bk=>?_|refine kV fun hc=>?_|refine kZ (fun hc=>?_) fun hc=>?_|fail)
    · have hx0 : 0 < x := by omega
      have hsm := hfit x (by omega) hx15
      have hct := cn_take_le l i x
      have hct2 : cn (l.take i) x + 1 ≤ cn l x := by
        have h1 := cn_take_succ (l := l) (j := i) (by omega) x
        rw [if_pos hx.symm] at h1
        have h2 := cn_take_le l (i + 1) x
        omega
      have hcd := hcd hx0
      have hld : nth (F i) (0 + x * 1) = some (.int .u32 ((cd l i : Nat) : Int)) := by
        rw [hF, nth_eq, Nat.zero_add, Nat.mul_one]
        have := nxl_get l i (show x < 16 by omega)
        rw [if_neg (by omega), ← hcd] at this
        exact wnv_get this
      refine OW_W ?_ (he := EV_loadc rfl (by repeat (first | assumption | exact Fnd.here | refine Fnd.there ?_)) hld)
      (repeat' first|refine kX ?_|refine kU fun bk=>?_|refine kV fun hc=>?_|refine kZ (fun hc=>?_) fun hc=>?_|fail)
      refine OW_storeTo (l := wnv (cdp l i)) (wnv (cdp l (i + 1))) rfl rfl rfl (by rw [Nat.mul_one, ← cdp_set (by omega)]; simp [wnv, List.map_set]) iU (by rw [wnv_length, cdp_length]; omega) ?_
      (repeat' first|refine kX ?_|refine kU fun bk=>?_|refine kV fun hc=>?_|refine kZ (fun hc=>?_) fun hc=>?_|fail)
      refine OW_W ?_ (he := EV_loadc rfl (by repeat (first | assumption | exact Fnd.here | refine Fnd.there ?_)) hld)
      (repeat' first|refine kX ?_|refine kU fun bk=>?_|refine kV fun hc=>?_|refine kZ (fun hc=>?_) fun hc=>?_|fail)
      refine OW_storeTo (F (i + 1)) rfl rfl rfl ?_ iU (by rw [hFl]; omega) ?_
      · rw [Nat.zero_add, Nat.mul_one, hF, hF, ← hset hx0 hx15, ← hcd]
        simp only [wnv, List.map_set]
        refine congrArg _ (congrArg _ ?_)
        show (((BitVec.ofNat 32 (cd l i) + 1#32).toNat : Nat) : Int) = _
        rw [BitVec.toNat_add, BitVec.toNat_ofNat]
        show ((((cd l i) % 4294967296 + 1) % 4294967296 : Nat) : Int) = _
        omega
      (repeat' first|refine kX ?_|refine kU fun bk=>?_|refine kV fun hc=>?_|refine kZ (fun hc=>?_) fun hc=>?_|fail)
      refine WQ_round (X := Nat) (μ := fun i => ls.length - i) (x := i) (i + 1) (by omega) (by omega) iS (fun w h => h)
    · have hx0 : x = 0 := by omega
      refine WQ_round (X := Nat) (μ := fun i => ls.length - i) (x := i) (i + 1) (by omega) (by omega) iS (fun w h => ?_)
      rw [hF, ← hskip hx0, ← hskip2 hx0, ← hF]
      exact h
  · have hie : i = l.length := by omega
    rw [hie, cdp_end]
    refine kR ?_
    have hcl : (cds l).length = ls.length := by simp [cds, hlen]
    refine ⟨[(bn, cl (wnv (cds l)) 38)] :: L, iC, _, _, by rw [h0]; rfl, rfl, ?_⟩
    rw [e2, hcl]
    exact .inr ⟨bn, ls.length, [], rfl, by rw [List.append_nil], by rw [wnv_length, hcl, Nat.mul_one], by simp, Nat.le_refl _, by simp [maxLen]; omega⟩
end Go.Proofs.Ytbdpjbmfhnbheaa
namespace Go.Proofs.Ytbdpjbmfhnbheaa
open Go Go.Vx Go.So Go.Hf
variable [W0]
set_option maxRecDepth 4000
set_option linter.all false
omit [W0] in
/-- How many come. -/
def nC (ls : List Int) : Nat := (pos (nl ls) ls.length).length
omit [W0] in
def errL (ls : List Int) (most : Int) : Prop := most < 1 ∨ 15 < most ∨ 400 < ls.length ∨ ls.all okc = false ∨ 2 ^ most.toNat < nC ls
omit [W0] in
/-- What Lengths answers, of counts that it takes. -/
structure LenOf (cs : List Nat) (M : Nat) (lens : List Nat) : Prop where
  len : lens.length = cs.length
  m1 : 1 ≤ M
  m15 : M ≤ 15
  n400 : cs.length ≤ 400
  off : ∀ i, cs.getD i 0 = 0 → lens.getD i 0 = 0
  ex : ∃ N g, N = (pos cs cs.length).length ∧ Cn cs cs.length N g ∧ N ≤ 2 ^ M ∧ (N = 1 → ∀ r, r < N → lens.getD (g r).1 0 = 1) ∧
    (2 ≤ N → ∃ lv, Pm.Lv (coinsOf (fun i => cs.getD i 0) g N) lv ∧ ∀ r, r < N → lens.getD (g r).1 0 = Pm.ln (Pm.sel lv M (2 * N - 2)) r)
theorem zeros_ivn : ∀ n, zeros [.int .i64 0] n = ivn (List.replicate n 0)
  | 0 => rfl
  | n + 1 => by simp only [zeros, List.replicate_succ]; rw [zeros_ivn n]; rfl
theorem rep_getD (n i : Nat) : (List.replicate n 0).getD i 0 = 0 := by
  simp only [List.getD, List.getElem?_replicate]
  split <;> rfl
set_option maxHeartbeats 16000000 in
theorem lengths_n (a : Option Addr) (c : Nat) (ls : List Int) (most : Int) (L : List Chunk) (h : Sl L 1 (.slice a ls.length c) ls.length (intsN ls)) (hl : ls.length ≤ 17592186044416) :
    Gv Try.prog 9 [.slice a ls.length c, .int .i64 most].toArray L (fun r L' => (errL ls most ∧ r = .tuple #[.slice none 0 0, .int .i64 1] ∧ L' = L) ∨
      (¬ errL ls most ∧ ∃ lens v C, r = .tuple #[v, .int .i64 0] ∧ L' = C :: L ∧ Ow 3 1 v ls.length (ivn lens) C ∧ LenOf (nl ls) most.toNat lens)) := by
  refine Gv.of_body Try.func9 rfl rfl ?_
  obtain ⟨Q, hQ⟩ : ∃ Q : Value → List Chunk → Prop, ∀ r L', Q r L' ↔ ((errL ls most ∧ r = .tuple #[.slice none 0 0, .int .i64 1] ∧ L' = L) ∨
      (¬ errL ls most ∧ ∃ lens v C, r = .tuple #[v, .int .i64 0] ∧ L' = C :: L ∧ Ow 3 1 v ls.length (ivn lens) C ∧ LenOf (nl ls) most.toNat lens)) := ⟨fun r L' => _, fun _ _ => Iff.rfl⟩
  simp only [← hQ]
  have hno : errL ls most → ∀ (M : List (Nat × Value)) (L1 : List Chunk), lk M 4 = some (.slice none 0 0) → lk M 5 = some (.int .i64 1) → (∀ w, Holds w L1 → Holds w L) →
      WQ Try.f9.ntmps (bodyPost Try.prog Try.f9 (fun e w' => ∃ v L', e = .returned v ∧ Q v L' ∧ Holds w' L') .ret) M L1 := by
    intro he M L1 h2 h3 h4
    refine WQ_retH (rs := [.tmp 4, .tmp 5]) (vs := [.slice none 0 0, .int .i64 1]) rfl (by simp [resT, h2, h3]) ?_
    exact ⟨L, h4, (hQ _ _).2 (.inl ⟨he, rfl, rfl⟩)⟩
  (repeat' first|refine kW ?_|refine kU fun bk=>?_|refine kV fun hc=>?_|refine kZ (fun hc=>?_) fun hc=>?_|fail)
  · exact hno (.inl hc) _ _ rfl rfl (fun w h => h)
  · exact hno (.inr (.inl hc)) _ _ rfl rfl (fun w h => h)
  · exact hno (.inr (.inr (.inl (by omega)))) _ _ rfl rfl (fun w h => h)
  refine OW_callP rfl rfl rfl (countable_n a c ls L h hl) rfl ?_
  (repeat' first|refine kW ?_|refine kU fun bk=>?_|refine kV fun hc=>?_|refine kZ (fun hc=>?_) fun hc=>?_|fail)
  · exact hno (.inr (.inr (.inr (.inl (by simpa using hc))))) _ _ rfl rfl (fun w h => h)
  rename_i hm1 hm2 hm3
  have hok : ls.all okc = true := by simpa using hc
  obtain ⟨M, rfl⟩ : ∃ M : Nat, most = (M : Int) := ⟨most.toNat, by omega⟩
  refine OW_call rfl rfl rfl (coins_n a c ls L h (by omega) hok) rfl (fun r L' hp => ?_)
  obtain ⟨g, C, hcn, rfl, ho⟩ := hp
  obtain ⟨N, hN⟩ : ∃ N, N = (pos (nl ls) ls.length).length := ⟨_, rfl⟩
  rw [← hN] at hcn ho
  obtain ⟨va, vc, rfl⟩ := ow_slc ho
  have hp15 : 2 ^ M ≤ 2 ^ 15 := Nat.pow_le_pow_right (by decide) (by omega)
  (repeat' first|refine kW ?_|refine kU fun bk=>?_|refine kV fun hc=>?_|refine kZ (fun hc=>?_) fun hc=>?_|fail)
  refine OW_EV (EV_shl64 1 M rfl rfl rfl rfl (by omega) (by omega)) rfl ?_
  (repeat' first|refine kW ?_|refine kU fun bk=>?_|refine kV fun hc=>?_|refine kZ (fun hc=>?_) fun hc=>?_|fail)
  · refine hno (.inr (.inr (.inr (.inr ?_)))) _ _ rfl rfl (fun w h => h.drop)
    unfold nC
    rw [← hN, Int.toNat_natCast]
    omega
  have hNM : N ≤ 2 ^ M := by omega
  refine OW_makeSlice (m := ls.length) (c := ls.length) rfl rfl (by rfl) (by omega) (by omega) (by omega) rfl (fun bn => ?_)
  rw [show zeros (Value.int .i64 0).cells.toList ls.length = ivn (List.replicate ls.length 0) from zeros_ivn _]
  have hne : ¬ errL ls (M : Int) := by
    rintro (h1 | h1 | h1 | h1 | h1)
    · omega
    · omega
    · omega
    · rw [hok] at h1; cases h1
    · unfold nC at h1
      rw [← hN, Int.toNat_natCast] at h1
      omega
  have hfin : ∀ lens, lens.length = ls.length → LenOf (nl ls) M lens → ∀ (L1 : List Chunk), (∀ w, Holds w L1 → Holds w ([(bn, cl (ivn lens) 3)] :: L)) → ∃ L', (∀ w, Holds w L1 → Holds w L') ∧ Q (.tuple #[.slice (some ⟨bn, 0, none⟩) ls.length ls.length, .int .i64 0]) L' := by
    intro lens hll hlo L1 h1
    refine ⟨_, h1, (hQ _ _).2 (.inr ⟨hne, lens, _, _, rfl, rfl, .inr ⟨bn, ls.length, [], rfl, by rw [List.append_nil], by rw [ivn_length, hll, Nat.mul_one], by simp, Nat.le_refl _, by simp [maxLen]; omega⟩, by rw [Int.toNat_natCast]; exact hlo⟩)⟩
  (repeat' first|refine kW ?_|refine kU fun bk=>?_|refine kV fun hc=>?_|refine kZ (fun hc=>?_) fun hc=>?_|fail)
  · have hN1 : N = 1 := by omega
    rcases ho with ⟨_, h1, _⟩ | ⟨b, cap, rest, hv, rfl, hxl, hrl, hmc, hcm⟩
    · omega
    injection hv with e1 e2 e3
    subst e1 e3
    clear e2
    have hsy := hcn.sy 0 (by omega)
    have hld : nth (cvs g N ++ rest) (0 * 2 + 0) = some (.int .i64 ((g 0).1 : Int)) := by
      rw [hN1]; rfl
    refine OW_EV (EV_indexAddr0 (j := 0) (len := N) rfl rfl rfl (by omega)) rfl ?_
    (repeat' first|refine kW ?_|refine kU fun bk=>?_|refine kV fun hc=>?_|refine kZ (fun hc=>?_) fun hc=>?_|fail)
    refine OW_EV (EV_loadc rfl (Fnd.there Fnd.here) hld) rfl ?_
    (repeat' first|refine kW ?_|refine kU fun bk=>?_|refine kV fun hc=>?_|refine kZ (fun hc=>?_) fun hc=>?_|fail)
    refine OW_EV (EV_indexAddr0 (j := (g 0).1) (len := ls.length) rfl rfl rfl hsy.1) rfl ?_
    (repeat' first|refine kW ?_|refine kU fun bk=>?_|refine kV fun hc=>?_|refine kZ (fun hc=>?_) fun hc=>?_|fail)
    refine OW_storeTo (l := ivn (List.replicate ls.length 0)) (ivn ((List.replicate ls.length 0).set (g 0).1 1)) rfl rfl rfl (by rw [Nat.mul_one]; simp [ivn, List.map_set]) iU (by rw [ivn_length, List.length_replicate, Nat.mul_one]; exact hsy.1) ?_
    (repeat' first|refine kW ?_|refine kU fun bk=>?_|refine kV fun hc=>?_|refine kZ (fun hc=>?_) fun hc=>?_|fail)
    refine WQ_retH (rs := [.tmp 4, .tmp 5]) (vs := [.slice (some ⟨bn, 0, none⟩) ls.length ls.length, .int .i64 0]) rfl rfl ?_
    refine hfin ((List.replicate ls.length 0).set (g 0).1 1) (by simp) ⟨by simp [nl_length], by omega, by omega, by rw [nl_length]; omega, fun i hi => ?_, N, g, by rw [nl_length]; exact hN, by rw [nl_length]; exact hcn, hNM, fun _ r hr => ?_, fun h2 => by omega⟩ _ (fun w h => iH h)
    · have hne2 : (g 0).1 ≠ i := fun e => by rw [e] at hsy; omega
      simp only [List.getD, List.getElem?_set_ne hne2]
      exact rep_getD _ _
    · have e0 : r = 0 := by omega
      subst e0
      simp [List.getD, hsy.1]
  · have hN1 : 2 ≤ N := by omega
    rcases ho with ⟨_, h1, _⟩ | ⟨b, cap, rest, hv, rfl, hxl, hrl, hmc, hcm⟩
    · omega
    injection hv with e1 e2 e3
    subst e1 e3
    clear e2
    have hle := hcn.le
    have hgb : ∀ r, r < N → (g r).2 ≤ 1073741824 := by
      intro r hr
      obtain ⟨h1, h2, h3⟩ := hcn.sy r hr
      have hox : okc (ls.getD (g r).1 0) = true := List.all_eq_true.1 hok _ (by simp [List.getD, h1])
      have h4 := (okc_iff _).1 hox
      rw [h3, nl_get h1]
      omega
    refine OW_holds (L' := [(b, cl (cvs g N ++ rest) 63)] :: [(bn, cl (ivn (List.replicate ls.length 0)) 3)] :: L) (fun w h => iH h) ?_
    refine OW_call rfl rfl rfl (levels_c (fun i => (nl ls).getD i 0) g N b vc M rest _ (by omega) (by omega) hcn.up (fun r hr => (hcn.sy r hr).2.2) hgb) rfl (fun r L' hp => ?_)
    obtain ⟨lv, vs, Cs, Cl, rfl, hlv, hR, hO⟩ := hp
    rcases hO with ⟨_, h1, _⟩ | ⟨bv, cw, restv, rfl, rfl, hxl2, hrl2, hmc2, hcm2⟩
    · omega
    (repeat' first|refine kW ?_|refine kU fun bk=>?_|refine kV fun hc=>?_|refine kZ (fun hc=>?_) fun hc=>?_|fail)
    refine OW_holds (L' := [(bn, cl (ivn (List.replicate ls.length 0)) 3)] :: [(b, cl (cvs g N ++ rest) 63)] :: [(bv, cl (vs ++ restv) 101)] :: Cs.flatten :: L) (fun w h => iH h) ?_
    refine OW_call rfl rfl rfl (lengthen_c (fun i => (nl ls).getD i 0) g N ls.length b vc bn bv cw M rest restv lv vs Cs L hN1 (by omega) (by omega) hmc (by omega) (by omega) hNM hlv hR hcn.inj (fun r hr => (hcn.sy r hr).1)) rfl (fun r L' hp => ?_)
    obtain ⟨rfl, lst, hI, rfl⟩ := hp
    (repeat' first|refine kW ?_|refine kU fun bk=>?_|refine kV fun hc=>?_|refine kZ (fun hc=>?_) fun hc=>?_|fail)
    refine WQ_retH (rs := [.tmp 4, .tmp 5]) (vs := [.slice (some ⟨bn, 0, none⟩) ls.length ls.length, .int .i64 0]) rfl rfl ?_
    refine hfin lst hI.len ⟨by rw [hI.len, nl_length], by omega, by omega, by rw [nl_length]; omega, fun i hi => ?_, N, g, by rw [nl_length]; exact hN, by rw [nl_length]; exact hcn, hNM, fun h1 => by omega, fun _ => ⟨lv, hlv, fun r hr => ?_⟩⟩ _ (fun w h => h)
    · refine hI.off i fun r hr he => ?_
      have h1 := (hcn.sy r hr).2.1
      rw [he] at h1
      omega
    · have h1 := hI.on r hr
      rw [if_neg (by omega), Nat.add_zero] at h1
      exact h1
  · have hN0 : N = 0 := by omega
    refine WQ_retH (rs := [.tmp 4, .tmp 5]) (vs := [.slice (some ⟨bn, 0, none⟩) ls.length ls.length, .int .i64 0]) rfl rfl ?_
    refine hfin (List.replicate ls.length 0) (by simp) ⟨by simp [nl_length], by omega, by omega, by rw [nl_length]; omega, fun i hi => rep_getD _ _, N, g, by rw [nl_length]; exact hN, by rw [nl_length]; exact hcn, hNM, fun _ r hr => by omega, fun h2 => by omega⟩ _ (fun w h => iH h)
end Go.Proofs.Ytbdpjbmfhnbheaa
namespace Go.Hf
set_option linter.all false
def hit (l : List Nat) (n v i : Nat) : Bool := l.getD i 0 == n && decide (0 < n) && cd l i == v
def far (l : List Nat) (n v i : Nat) : Bool := decide (n < l.getD i 0) && cd l i / 2 ^ (l.getD i 0 - n) == v
def symAt (l : List Nat) (n v : Nat) : Option Nat := (List.range l.length).find? (hit l n v)
def extB (l : List Nat) (n v : Nat) : Bool := (List.range l.length).any (far l n v)
def hv (w t : Nat) : Nat → Nat
  | 0 => 0
  | n + 1 => 2 * hv w t n + w / 2 ^ (t + n) % 2
def rdS (l : List Nat) (w t z : Nat) : Nat → Nat → Nat × Nat × Nat
  | 0, n => (0, 3, n)
  | f + 1, n => match symAt l n (hv w t n) with
    | some i => (i, 0, n)
    | none => if extB l n (hv w t n) = false then (0, 3, n) else if z ≤ t + n then (0, 4, n) else rdS l w t z f (n + 1)
theorem hv_lt (w t : Nat) : ∀ n, hv w t n < 2 ^ n
  | 0 => by simp [hv]
  | n + 1 => by
    have := hv_lt w t n
    simp only [hv, Nat.pow_succ]
    omega
theorem find_range {f : Nat → Bool} {i n : Nat} (hi : i < n) (h : f i = true) (hb : ∀ j, j < i → f j = false) : (List.range n).find? f = some i := by
  obtain ⟨m, rfl⟩ := Nat.le.dest hi
  rw [show i + 1 + m = i + (1 + m) from by omega, List.range_add, List.find?_append]
  have h1 : (List.range i).find? f = none := by
    rw [List.find?_eq_none]
    intro j hj
    rw [hb j (List.mem_range.1 hj)]
    simp
  rw [h1, Nat.add_comm 1 m, List.range_succ_eq_map]
  simp [h]
theorem find_none {f : Nat → Bool} {n : Nat} (hb : ∀ j, j < n → f j = false) : (List.range n).find? f = none := by
  rw [List.find?_eq_none]
  intro j hj
  rw [hb j (List.mem_range.1 hj)]
  simp
theorem getD_lt {l : List Nat} {i : Nat} (h : 0 < l.getD i 0) : i < l.length := by
  rcases Nat.lt_or_ge i l.length with h' | h'
  · exact h'
  · simp [List.getD, List.getElem?_eq_none h'] at h
end Go.Hf
namespace Go.Vx
open Go
set_option linter.all false
variable [W0]
theorem ow_word {e m : Nat} {v : Value} {xs : List Nat} {C : Chunk} (h : Ow e 1 v m (wnv xs) C) {k : Nat} (hk : k < m) :
    ∃ b cap rest, v = .slice (some ⟨b, 0, none⟩) m cap ∧ C = [(b, cl (wnv xs ++ rest) e)] ∧ (wnv xs ++ rest).toArray[k * 1]? = some (.int .u32 (xs.getD k 0 : Int)) := by
  rcases h with ⟨rfl, rfl, _⟩ | ⟨b, cap, rest, rfl, rfl, hxl, hrl, hmc, hcm⟩
  · omega
  · refine ⟨b, cap, rest, rfl, rfl, ?_⟩
    have hlt : k < xs.length := by rw [wnv_length] at hxl; omega
    rw [Nat.mul_one]
    simpa using getE_app (r := rest) (wnv_get (l := xs) (i := k) (n := xs.getD k 0) (by simp [List.getD, hlt]))
end Go.Vx
namespace Go.Hf
open Go.Vx Go.Pm
set_option linter.all false
theorem hv_mir (w t : Nat) : ∀ n, hv w t n = mir (w / 2 ^ t) n
  | 0 => rfl
  | n + 1 => by
    rw [hv, mir, hv_mir w t n, Nat.div_div_eq_div_mul, ← Nat.pow_add]
theorem mir_bit (v : Nat) : ∀ (n j : Nat), j < n → mir v n / 2 ^ j % 2 = v / 2 ^ (n - 1 - j) % 2
  | 0, j, h => by omega
  | n + 1, 0, _ => by
    rw [mir, Nat.pow_zero, Nat.div_one, show n + 1 - 1 - 0 = n from by omega]
    omega
  | n + 1, j + 1, h => by
    have ih := mir_bit v n j (by omega)
    rw [mir, Nat.pow_succ, Nat.mul_comm (2 ^ j), ← Nat.div_div_eq_div_mul, show (2 * mir v n + v / 2 ^ n % 2) / 2 = mir v n from by omega, ih]
    congr 2
    congr 1
    omega
theorem mir_part (v n : Nat) : ∀ i, i ≤ n → mir (mir v n) i = v % 2 ^ n / 2 ^ (n - i)
  | 0, _ => by
    rw [mir, Nat.sub_zero, Nat.div_eq_of_lt (Nat.mod_lt _ (Nat.pow_pos (by decide)))]
  | i + 1, h => by
    rw [mir, mir_part v n i (by omega), mir_bit v n i (by omega)]
    have e : v % 2 ^ n / 2 ^ (n - (i + 1)) = v / 2 ^ (n - (i + 1)) % 2 ^ (i + 1) := by
      obtain ⟨k, rfl⟩ : ∃ k, n = k + (i + 1) := ⟨n - (i + 1), by omega⟩
      rw [show k + (i + 1) - (i + 1) = k from by omega, Nat.pow_add 2 k, Nat.mod_mul_right_div_self]
    have e2 : v % 2 ^ n / 2 ^ (n - i) = v / 2 ^ (n - (i + 1)) / 2 % 2 ^ i := by
      obtain ⟨k, rfl⟩ : ∃ k, n = k + (i + 1) := ⟨n - (i + 1), by omega⟩
      rw [show k + (i + 1) - (i + 1) = k from by omega, show k + (i + 1) - i = k + 1 from by omega, Nat.div_div_eq_div_mul, ← Nat.pow_succ,
        show k + (i + 1) = (k + 1) + i from by omega, Nat.pow_add 2 (k + 1) i, Nat.mod_mul_right_div_self]
    rw [e, e2, show n - 1 - i = n - (i + 1) from by omega, Nat.pow_succ, Nat.mul_comm (2 ^ i) 2, Nat.mod_mul]
    omega
theorem mir_mir (v n : Nat) : mir (mir v n) n = v % 2 ^ n := by
  rw [mir_part v n n (Nat.le_refl _), Nat.sub_self, Nat.pow_zero, Nat.div_one]
theorem hv_pre (w t : Nat) : ∀ (k m : Nat), hv w t m = hv w t (m + k) / 2 ^ k
  | 0, m => by simp
  | k + 1, m => by
    rw [hv_pre w t k m, ← Nat.add_assoc, hv, Nat.pow_succ, Nat.mul_comm (2 ^ k), ← Nat.div_div_eq_div_mul]
    congr 1
    omega
theorem hit_iff {l : List Nat} {n v i : Nat} : hit l n v i = true ↔ l.getD i 0 = n ∧ 0 < n ∧ cd l i = v := by
  simp [hit, and_assoc]
theorem getD_some {l : List Nat} {i n : Nat} (h : l.getD i 0 = n) (h0 : 0 < n) : l[i]? = some n := by
  have hi := getD_lt (l := l) (i := i) (by omega)
  rw [← h]
  simp [List.getD, hi]
theorem symAt_some {l : List Nat} {i n : Nat} (hi : l[i]? = some n) (h0 : 0 < n) : symAt l n (cd l i) = some i := by
  have hg : l.getD i 0 = n := by simp [List.getD, hi]
  have hl := getD_lt (l := l) (i := i) (by omega)
  refine find_range hl (hit_iff.2 ⟨hg, h0, rfl⟩) fun j hj => ?_
  cases hh : hit l n (cd l i) j with
  | false => rfl
  | true =>
    obtain ⟨h1, h2, h3⟩ := hit_iff.1 hh
    have := cd_inj (getD_some h1 h2) hi (by omega) h3
    omega
theorem symAt_none {l : List Nat} {n v : Nat} (h : v < fs l n ∨ fs l n + cn l n ≤ v) : symAt l n v = none := by
  refine find_none fun j hj => ?_
  cases hh : hit l n v j with
  | false => rfl
  | true =>
    obtain ⟨h1, h2, h3⟩ := hit_iff.1 hh
    have := cd_in (getD_some h1 h2) (by omega)
    omega
theorem symAt_none0 {l : List Nat} {v : Nat} : symAt l 0 v = none := by
  refine find_none fun j hj => ?_
  simp [hit]
theorem extB_iff {l : List Nat} {n v : Nat} : extB l n v = true ↔ ext l n v := by
  unfold extB ext
  rw [List.any_eq_true]
  constructor
  · rintro ⟨i, hi, hf⟩
    simp only [far, Bool.and_eq_true, decide_eq_true_eq, beq_iff_eq] at hf
    exact ⟨i, l.getD i 0, getD_some rfl (by omega), hf.1, hf.2⟩
  · rintro ⟨i, m, hi, hm, he⟩
    have hg : l.getD i 0 = m := by simp [List.getD, hi]
    refine ⟨i, List.mem_range.2 (getD_lt (by omega)), ?_⟩
    simp only [far, hg, Bool.and_eq_true, decide_eq_true_eq, beq_iff_eq]
    exact ⟨hm, he⟩
theorem rd_hit {l : List Nat} {i n w t z : Nat} (hi : l[i]? = some n) (h0 : 0 < n) (h15 : n ≤ 15) (hb : hv w t n = cd l i) (hz : t + n ≤ z) : rdS l w t z 16 0 = (i, 0, n) := by
  have key : ∀ m, m ≤ n → rdS l w t z 16 0 = rdS l w t z (16 - m) m := by
    intro m
    induction m with
    | zero => intro _; rfl
    | succ m ih =>
      intro hm
      rw [ih (by omega), show 16 - m = (16 - (m + 1)) + 1 from by omega, rdS]
      have hp : hv w t m = cd l i / 2 ^ (n - m) := by
        rw [← hb, hv_pre w t (n - m) m, show m + (n - m) = n from by omega]
      have hs : symAt l m (hv w t m) = none := by
        rcases Nat.eq_zero_or_pos m with h | h
        · subst h; exact symAt_none0
        · exact symAt_none (.inr (by rw [hp]; exact cd_prefix hi h (by omega)))
      have he : ¬ extB l m (hv w t m) = false := by
        have : extB l m (hv w t m) = true := extB_iff.2 ⟨i, n, hi, by omega, hp.symm⟩
        rw [this]; simp
      rw [hs]
      simp only
      rw [if_neg he, if_neg (by omega)]
  rw [key n (Nat.le_refl _), show 16 - n = (15 - n) + 1 from by omega, rdS, hb, symAt_some hi h0]
theorem kS_range (l : List Nat) : kS l = (((List.range l.length).filter fun i => decide (0 < l.getD i 0)).map fun i => 2 ^ (15 - l.getD i 0)).sum := by
  have key : ∀ n, n ≤ l.length → kS (l.take n) = (((List.range n).filter fun i => decide (0 < l.getD i 0)).map fun i => 2 ^ (15 - l.getD i 0)).sum := by
    intro n
    induction n with
    | zero => intro _; rfl
    | succ n ih =>
      intro hn
      have hlt : n < l.length := by omega
      have hg : l.getD n 0 = l[n] := by simp [List.getD, hlt]
      rw [List.take_add_one, List.getElem?_eq_getElem hlt, kS_app, ih (by omega), List.range_succ, List.filter_append, List.map_append, List.sum_append]
      congr 1
      simp only [Option.toList, kS, ← hg]
      generalize hq : (fun i => decide (0 < l.getD i 0)) = q
      have hqn : q n = decide (0 < l.getD n 0) := by rw [← hq]
      by_cases h : 0 < l.getD n 0
      · rw [if_pos h, List.filter_cons, hqn, if_pos (by simpa using h)]
        rfl
      · rw [if_neg h, List.filter_cons, hqn, if_neg (by simpa using h)]
        rfl
  have := key l.length (Nat.le_refl _)
  rwa [List.take_length] at this
theorem kS_perm {l is : List Nat} (h : is.Perm ((List.range l.length).filter fun i => decide (0 < l.getD i 0))) : kS l = (is.map fun i => 2 ^ (15 - l.getD i 0)).sum := by
  rw [kS_range]
  exact ((h.map _).sum_nat).symm
theorem sumTo_map (f : Nat → Nat) (is : List Nat) : sumTo (fun r => f (is.getD r 0)) is.length = (is.map f).sum := by
  have key : ∀ n, n ≤ is.length → sumTo (fun r => f (is.getD r 0)) n = ((is.take n).map f).sum := by
    intro n
    induction n with
    | zero => intro _; rfl
    | succ n ih =>
      intro hn
      have hlt : n < is.length := by omega
      rw [sumTo, ih (by omega), List.take_add_one, List.getElem?_eq_getElem hlt, List.map_append, List.sum_append]
      simp [List.getD, hlt]
  have := key is.length (Nat.le_refl _)
  rwa [List.take_length] at this
theorem sumTo_mul (c : Nat) (f : Nat → Nat) : ∀ n, sumTo (fun r => c * f r) n = c * sumTo f n
  | 0 => rfl
  | n + 1 => by simp only [sumTo, sumTo_mul c f n, Nat.mul_add]
theorem kS_whole {l is : List Nat} {L : Nat} {g : Nat → Nat} (h : is.Perm ((List.range l.length).filter fun i => decide (0 < l.getD i 0))) (hL : L ≤ 15) (hg : ∀ r, r < is.length → l.getD (is.getD r 0) 0 = g r) (hb : ∀ r, r < is.length → g r ≤ L)
    (hw : sumTo (fun r => 2 ^ (L - g r)) is.length = 2 ^ L) : kS l = 32768 := by
  rw [kS_perm h, ← sumTo_map]
  have e : sumTo (fun r => 2 ^ (15 - l.getD (is.getD r 0) 0)) is.length = 2 ^ (15 - L) * sumTo (fun r => 2 ^ (L - g r)) is.length := by
    rw [← sumTo_mul]
    refine sumTo_congr fun r hr => ?_
    rw [hg r hr, ← Nat.pow_add]
    have := hb r hr
    congr 1
    omega
  rw [e, hw, ← Nat.pow_add, show 15 - L + L = 15 from by omega]
end Go.Hf
namespace Go.Hf
open Go.Pm
set_option linter.all false
theorem sum_filter {p : Nat → Bool} {G : Nat → Nat} : ∀ {l : List Nat}, (∀ x ∈ l, p x = false → G x = 0) → (l.map G).sum = ((l.filter p).map G).sum
  | [], _ => rfl
  | x :: r, h => by
    have ih := sum_filter (l := r) fun y hy => h y (List.mem_cons_of_mem _ hy)
    rw [List.map_cons, List.sum_cons, ih, List.filter_cons]
    rcases hp : p x with _ | _
    · rw [if_neg (by simp), h x (List.mem_cons_self ..) hp, Nat.zero_add]
    · rw [if_pos rfl, List.map_cons, List.sum_cons]
theorem getD_map (is : List Nat) : (List.range is.length).map (fun i => is.getD i 0) = is := by
  apply List.ext_getElem?
  intro k
  rw [List.getElem?_map]
  rcases Nat.lt_or_ge k is.length with h | h
  · rw [List.getElem?_range h]
    simp [List.getD, h]
  · rw [List.getElem?_eq_none (by simpa using h), List.getElem?_eq_none h]
    rfl
theorem sumTo_range (G : Nat → Nat) (n : Nat) : sumTo G n = ((List.range n).map G).sum := by
  have h := sumTo_map G (List.range n)
  rw [List.length_range] at h
  rw [← h]
  refine sumTo_congr fun i hi => ?_
  congr 1
  simp [List.getD, List.getElem?_range hi]
section
variable {cs : List Nat} {n N : Nat} {g : Nat → Nat × Nat} (h : Cn cs n N g)
include h
theorem Cn.perm : ((List.range N).map fun r => (g r).1).Perm ((List.range n).filter fun i => decide (0 < cs.getD i 0)) := by
  have hn1 : ((List.range N).map fun r => (g r).1).Nodup := by
    unfold List.Nodup
    rw [List.pairwise_map]
    refine List.Pairwise.imp_of_mem (fun {a b} ha hb (hab : a ≠ b) he => hab ?_) List.nodup_range
    exact h.inj a b (List.mem_range.1 ha) (List.mem_range.1 hb) he
  refine (List.perm_ext_iff_of_nodup hn1 (List.nodup_range.filter _)).2 fun i => ?_
  rw [List.mem_map, List.mem_filter, List.mem_range]
  constructor
  · rintro ⟨r, hr, rfl⟩
    have h1 := h.sy r (List.mem_range.1 hr)
    exact ⟨h1.1, by simpa using h1.2.1⟩
  · rintro ⟨h1, h2⟩
    obtain ⟨r, hr, he⟩ := h.onto i h1 (by simpa using h2)
    exact ⟨r, List.mem_range.2 hr, he⟩
theorem Cn.sum {G : Nat → Nat} (hz : ∀ i, i < n → cs.getD i 0 = 0 → G i = 0) : sumTo G n = sumTo (fun r => G (g r).1) N := by
  rw [sumTo_range, sumTo_range, sum_filter (p := fun i => decide (0 < cs.getD i 0)) (fun i hi hp => hz i (List.mem_range.1 hi) (by have := of_decide_eq_false hp; omega)), ← (h.perm.map G).sum_nat, List.map_map]
  rfl
theorem Cn.ws (hl : cs.length = n) : ((List.range N).map fun r => cs.getD (g r).1 0).Perm (cs.filter fun x => decide (0 < x)) := by
  have h1 := h.perm.map fun i => cs.getD i 0
  rw [List.map_map] at h1
  refine h1.trans (List.Perm.of_eq ?_)
  subst hl
  conv => rhs; rw [← getD_map cs]
  rw [List.filter_map]
  rfl
end
end Go.Hf
namespace Go.Proofs.Ytbdpjbmfhnbheaa
open Go Go.Vx Go.So Go.Hf Go.Pm
variable [W0]
set_option maxRecDepth 4000
set_option linter.all false
theorem ow_int {e m : Nat} {v : Value} {xs : List Nat} {C : Chunk} (h : Ow e 1 v m (ivn xs) C) {k : Nat} (hk : k < m) :
    ∃ b cap rest, v = .slice (some ⟨b, 0, none⟩) m cap ∧ C = [(b, cl (ivn xs ++ rest) e)] ∧ (ivn xs ++ rest).toArray[k * 1]? = some (.int .i64 (xs.getD k 0 : Int)) := by
  rcases h with ⟨rfl, rfl, _⟩ | ⟨b, cap, rest, rfl, rfl, hxl, hrl, hmc, hcm⟩
  · omega
  · refine ⟨b, cap, rest, rfl, rfl, ?_⟩
    have hlt : k < xs.length := by rw [ivn_length] at hxl; omega
    rw [Nat.mul_one]
    simpa using getE_app (r := rest) (ivn_get (l := xs) (i := k) (n := xs.getD k 0) (by simp [List.getD, hlt]))
theorem LenOf.rank {cs lens : List Nat} {M : Nat} (h : LenOf cs M lens) {i k : Nat} (hi : i < cs.length) (hk : k < cs.length) (h0 : 0 < cs.getD k 0) (h1 : cs.getD k 0 < cs.getD i 0) : lens.getD i 0 ≤ lens.getD k 0 := by
  obtain ⟨N, g, hN, hcn, hNM, hone, htwo⟩ := h.ex
  obtain ⟨r, hr, rfl⟩ := hcn.onto i hi (by omega)
  obtain ⟨q, hq, rfl⟩ := hcn.onto k hk h0
  have hr3 := (hcn.sy r hr).2.2
  have hq3 := (hcn.sy q hq).2.2
  by_cases h2 : 2 ≤ N
  · obtain ⟨lv, _, hln⟩ := htwo h2
    rw [hln r hr, hln q hq]
    refine Pm.ln_anti _ ?_
    rcases Nat.lt_or_ge r q with hlt | hge
    · have : (g r).2 ≤ (g q).2 := hcn.up r q (Nat.zero_le _) (by omega) hq
      omega
    · exact hge
  · have e : r = q := by omega
    subst e
    omega
theorem coins_w {cs : List Nat} {n N : Nat} {g : Nat → Nat × Nat} (h : Cn cs n N g) : ∀ x ∈ coinsOf (fun i => cs.getD i 0) g N, 0 < x.w := by
  intro x hx
  obtain ⟨r, hr, rfl⟩ := List.mem_map.1 hx
  exact (h.sy r (List.mem_range.1 hr)).2.1
theorem LenOf.on {cs lens : List Nat} {M : Nat} (h : LenOf cs M lens) {i : Nat} (hi : i < cs.length) (h0 : 0 < cs.getD i 0) : 1 ≤ lens.getD i 0 ∧ lens.getD i 0 ≤ M := by
  obtain ⟨N, g, hN, hcn, hNM, hone, htwo⟩ := h.ex
  obtain ⟨r, hr, rfl⟩ := hcn.onto i hi h0
  have hm1 := h.m1
  by_cases h2 : 2 ≤ N
  · obtain ⟨lv, hlv, hln⟩ := htwo h2
    obtain ⟨k, rfl⟩ : ∃ k, M = k + 1 := ⟨M - 1, by omega⟩
    have hcl := coinsOf_length (fun i => cs.getD i 0) g N
    have h3 := taken hlv (coins_w hcn) k (by omega) (by omega) r (by omega)
    rw [hcl] at h3
    have h4 := ln_le (sel lv (k + 1) (2 * N - 2)) r
    rw [sel_length] at h4
    rw [hln r hr]
    exact ⟨h3, h4⟩
  · have := hone (by omega) r hr
    omega
theorem LenOf.pos {cs lens : List Nat} {M : Nat} (h : LenOf cs M lens) {i : Nat} (hi : i < cs.length) : 0 < lens.getD i 0 ↔ 0 < cs.getD i 0 := by
  rcases Nat.eq_zero_or_pos (cs.getD i 0) with h0 | h0
  · rw [h.off i h0, h0]
  · have := h.on hi h0
    omega
theorem LenOf.le {cs lens : List Nat} {M : Nat} (h : LenOf cs M lens) (i : Nat) : lens.getD i 0 ≤ M := by
  rcases Nat.lt_or_ge i cs.length with hi | hi
  · rcases Nat.eq_zero_or_pos (cs.getD i 0) with h0 | h0
    · rw [h.off i h0]; omega
    · exact (h.on hi h0).2
  · have : lens.getD i 0 = 0 := by simp [List.getD, List.getElem?_eq_none (show lens.length ≤ i by rw [h.len]; exact hi)]
    omega
theorem LenOf.nC {cs lens : List Nat} {M : Nat} (h : LenOf cs M lens) : (cs.filter fun x => decide (0 < x)).length = (Go.Hf.pos cs cs.length).length := by
  obtain ⟨N, g, hN, hcn, _⟩ := h.ex
  have := (hcn.ws rfl).length_eq
  rw [List.length_map, List.length_range] at this
  rw [← this, hN]
theorem LenOf.all {cs lens : List Nat} {M : Nat} (h : LenOf cs M lens) (h2 : 2 ≤ (Go.Hf.pos cs cs.length).length) : kS lens = 32768 := by
  have hle := h.le
  have hpos := fun i => h.pos (i := i)
  have hm1 := h.m1
  have hm15 := h.m15
  have hlen := h.len
  obtain ⟨N, g, hN, hcn, hNM, hone, htwo⟩ := h.ex
  rw [← hN] at h2
  obtain ⟨lv, hlv, hln⟩ := htwo h2
  have hcl := coinsOf_length (fun i => cs.getD i 0) g N
  have hgl : ((List.range N).map fun r => (g r).1).length = N := by simp
  obtain ⟨k, rfl⟩ : ∃ k, M = k + 1 := ⟨M - 1, by omega⟩
  have hw := whole hlv (coins_w hcn) k (by omega) (by omega)
  rw [hcl] at hw
  refine kS_whole (l := lens) (is := (List.range N).map fun r => (g r).1) (L := k + 1) (g := fun r => ln (sel lv (k + 1) (2 * N - 2)) r) ?_ hm15 (fun r hr => ?_) (fun r hr => ?_) ?_
  · refine hcn.perm.trans (List.Perm.of_eq ?_)
    rw [hlen]
    refine List.filter_congr fun i hi => ?_
    exact decide_eq_decide.2 (hpos i (List.mem_range.1 hi)).symm
  · rw [hgl] at hr
    have : ((List.range N).map fun r => (g r).1).getD r 0 = (g r).1 := by simp [List.getD, List.getElem?_range hr]
    rw [this]
    exact hln r hr
  · have h4 := ln_le (sel lv (k + 1) (2 * N - 2)) r
    rw [sel_length] at h4
    exact h4
  · rw [hgl]; exact hw
end Go.Proofs.Ytbdpjbmfhnbheaa
namespace Go.Hf
open Go.Vx Go.Pm
set_option linter.all false
theorem hv_high (V T x t : Nat) : ∀ n, t + n ≤ T → hv (V + 2 ^ T * x) t n = hv V t n
  | 0, _ => rfl
  | n + 1, h => by
    rw [hv, hv, hv_high V T x t n (by omega)]
    congr 1
    obtain ⟨k, rfl⟩ : ∃ k, T = (t + n) + (k + 1) := ⟨T - (t + n) - 1, by omega⟩
    have e : V + 2 ^ (t + n + (k + 1)) * x = V + 2 ^ (t + n) * (2 * (2 ^ k * x)) := by
      rw [Nat.pow_add 2 (t + n), Nat.pow_succ 2 k]
      congr 1
      rw [Nat.mul_assoc, Nat.mul_comm (2 ^ k) 2, Nat.mul_assoc]
    rw [e, Nat.add_mul_div_left _ _ (Nat.pow_pos (by decide))]
    omega
theorem hv_new {V T c n : Nat} (hV : V < 2 ^ T) (hc : c < 2 ^ n) : hv (V + 2 ^ T * mir c n) T n = c := by
  rw [hv_mir, Nat.add_mul_div_left _ _ (Nat.pow_pos (by decide)), Nat.div_eq_of_lt hV, Nat.zero_add, mir_mir, Nat.mod_eq_of_lt hc]
def bT (l : List Nat) (S : List Nat) : Nat := (S.map fun s => l.getD s 0).sum
theorem bT_app (l S : List Nat) (s : Nat) : bT l (S ++ [s]) = bT l S + l.getD s 0 := by simp [bT]
theorem bT_take (l S : List Nat) {j : Nat} (hj : j < S.length) : bT l (S.take (j + 1)) = bT l (S.take j) + l.getD (S.getD j 0) 0 := by
  have e : S.getD j 0 = S[j] := by simp [List.getD, hj]
  rw [List.take_add_one, List.getElem?_eq_getElem hj, e]
  exact bT_app l _ _
theorem bT_le (l S : List Nat) : ∀ j, bT l (S.take j) ≤ bT l S := by
  intro j
  have : bT l S = bT l (S.take j) + bT l (S.drop j) := by
    unfold bT
    conv => lhs; rw [← List.take_append_drop j S]
    rw [List.map_append, List.sum_append]
  omega
theorem bT_bound (l : List Nat) (h : ∀ i, l.getD i 0 ≤ 15) : ∀ S : List Nat, bT l S ≤ 15 * S.length
  | [] => by simp [bT]
  | s :: r => by
    have ih := bT_bound l h r
    have := h s
    simp only [bT, List.map_cons, List.sum_cons, List.length_cons] at *
    omega
structure Wrt (l S : List Nat) (V : Nat) : Prop where
  lt : V < 2 ^ bT l S
  in_ : ∀ s ∈ S, s < l.length ∧ 0 < l.getD s 0
  rd : ∀ j, j < S.length → hv V (bT l (S.take j)) (l.getD (S.getD j 0) 0) = cd l (S.getD j 0)
theorem Wrt.nil (l : List Nat) : Wrt l [] 0 := ⟨by simp [bT], fun s h => (by cases h), fun j h => (by simp at h)⟩
theorem cd_fit {l : List Nat} (hk : kS l ≤ 32768) (h15 : ∀ i, l.getD i 0 ≤ 15) {s : Nat} (hs : s < l.length) (h0 : 0 < l.getD s 0) : cd l s < 2 ^ l.getD s 0 := by
  have hi : l[s]? = some (l.getD s 0) := by simp [List.getD, hs]
  exact Nat.lt_of_lt_of_le (cd_in hi (by omega)).2 (fs_fit hk h0 (h15 s))
theorem Wrt.snoc [W0] {l S : List Nat} {V s : Nat} (h : Wrt l S V) (hk : kS l ≤ 32768) (h15 : ∀ i, l.getD i 0 ≤ 15) (hs : s < l.length) (h0 : 0 < l.getD s 0) : Wrt l (S ++ [s]) (V + 2 ^ bT l S * mir (cd l s) (l.getD s 0)) where
  lt := by
    rw [bT_app, Nat.pow_add]
    have h1 := h.lt
    have h2 := mir_lt (cd l s) (l.getD s 0)
    have h3 : 2 ^ bT l S * (mir (cd l s) (l.getD s 0) + 1) ≤ 2 ^ bT l S * 2 ^ l.getD s 0 := Nat.mul_le_mul_left _ h2
    rw [Nat.mul_add, Nat.mul_one] at h3
    omega
  in_ x hx := by
    rcases List.mem_append.1 hx with h1 | h1
    · exact h.in_ x h1
    · rw [List.mem_singleton.1 h1]; exact ⟨hs, h0⟩
  rd j hj := by
    rw [List.length_append, List.length_singleton] at hj
    by_cases e : j = S.length
    · subst e
      have e1 : (S ++ [s]).getD S.length 0 = s := by simp [List.getD]
      have e2 : (S ++ [s]).take S.length = S := by simp
      rw [e1, e2]
      exact hv_new h.lt (cd_fit hk h15 hs h0)
    · have hj' : j < S.length := by omega
      have e1 : (S ++ [s]).getD j 0 = S.getD j 0 := by simp only [List.getD, List.getElem?_append_left hj']
      have e2 : (S ++ [s]).take j = S.take j := by rw [List.take_append_of_le_length (by omega)]
      rw [e1, e2, hv_high _ _ _ _ _ (by
        have h1 := bT_take l S hj'
        have h2 := bT_le l S (j + 1)
        omega)]
      exact h.rd j hj'
end Go.Hf
namespace Go.Proofs.Ytbdpjbmfhnbheaa
open Go Go.Vx Go.So Go.Hf Go.Pm
variable [W0]
set_option maxRecDepth 4000
set_option linter.all false
theorem LenOf.fits {cs lens : List Nat} {M : Nat} (h : LenOf cs M lens) : kS lens ≤ 32768 := by
  by_cases h2 : 2 ≤ (Go.Hf.pos cs cs.length).length
  · exact Nat.le_of_eq (h.all h2)
  · have hpos := fun i => h.pos (i := i)
    have hlen := h.len
    obtain ⟨N, g, hN, hcn, hNM, hone, htwo⟩ := h.ex
    rw [← hN] at h2
    have hp : ((List.range N).map fun r => (g r).1).Perm ((List.range lens.length).filter fun i => decide (0 < lens.getD i 0)) := by
      refine hcn.perm.trans (List.Perm.of_eq ?_)
      rw [hlen]
      refine List.filter_congr fun i hi => ?_
      exact decide_eq_decide.2 (hpos i (List.mem_range.1 hi)).symm
    rw [kS_perm hp]
    rcases Nat.eq_zero_or_pos N with h0 | h0
    · subst h0; simp
    · obtain rfl : N = 1 := by omega
      have h3 := hone rfl 0 (by omega)
      show ((([0].map fun r => (g r).1).map fun i => 2 ^ (15 - lens.getD i 0)).sum) ≤ _
      simp only [List.map_cons, List.map_nil, List.sum_cons, List.sum_nil, h3]
      decide
end Go.Proofs.Ytbdpjbmfhnbheaa
namespace Go.Hf
set_option linter.all false
def smb (l : List Nat) (i n : Nat) : List Nat := (List.range i).filter fun j => l.getD j 0 == n && decide (0 < n)
theorem smb_succ (l : List Nat) (i n : Nat) : smb l (i + 1) n = smb l i n ++ (if l.getD i 0 = n ∧ 0 < n then [i] else []) := by
  unfold smb
  rw [List.range_succ, List.filter_append]
  congr 1
  by_cases h : l.getD i 0 = n ∧ 0 < n
  · rw [if_pos h, List.filter_cons, if_pos (by simp only [Bool.and_eq_true, beq_iff_eq, decide_eq_true_eq]; exact h)]; rfl
  · rw [if_neg h, List.filter_cons, if_neg (by simp only [Bool.and_eq_true, beq_iff_eq, decide_eq_true_eq]; exact h)]; rfl
theorem smb_le (l : List Nat) (i n : Nat) : (smb l i n).length ≤ i := by
  have := List.length_filter_le (fun j => l.getD j 0 == n && decide (0 < n)) (List.range i)
  rw [List.length_range] at this
  exact this
theorem smb_length {l : List Nat} {n : Nat} (h0 : 0 < n) : ∀ {i : Nat}, i ≤ l.length → (smb l i n).length = cn (l.take i) n
  | 0, _ => by simp [smb, cn]
  | i + 1, hi => by
    rw [smb_succ, List.length_append, smb_length h0 (by omega), cn_take_succ (by omega)]
    congr 1
    by_cases h : l.getD i 0 = n
    · rw [if_pos ⟨h, h0⟩, if_pos h]; rfl
    · rw [if_neg (fun hh => h hh.1), if_neg h]; rfl
theorem smb_app (l : List Nat) (n i : Nat) : ∀ k, ∃ r, smb l (i + k) n = smb l i n ++ r
  | 0 => ⟨[], by simp⟩
  | k + 1 => by
    obtain ⟨r, hr⟩ := smb_app l n i k
    rw [show i + (k + 1) = (i + k) + 1 from rfl, smb_succ, hr, List.append_assoc]
    exact ⟨_, rfl⟩
theorem smb_get {l : List Nat} {n i : Nat} (hi : l[i]? = some n) (h0 : 0 < n) : (smb l l.length n)[cn (l.take i) n]? = some i := by
  have hlt : i < l.length := (List.getElem?_eq_some_iff.1 hi).1
  have hg : l.getD i 0 = n := by simp [List.getD, hi]
  obtain ⟨r, hr⟩ := smb_app l n (i + 1) (l.length - (i + 1))
  rw [show i + 1 + (l.length - (i + 1)) = l.length from by omega] at hr
  rw [hr, smb_succ, if_pos ⟨hg, h0⟩, ← smb_length h0 (Nat.le_of_lt hlt)]
  simp
end Go.Hf
namespace Go.Proofs.Ytbdpjbmfhnbheaa
open Go Go.Vx Go.Hf
variable [W0]
set_option maxRecDepth 4000
set_option linter.all false
omit [W0] in
/-- The lists of symbols, one a length. -/
structure SyR (l : List Nat) (i : Nat) (vs : List Value) (Cs : List Chunk) : Prop where
  lv : vs.length = 16
  lc : Cs.length = 16
  at_ : ∀ n, n < 16 → ∃ v C, vs[n]? = some v ∧ Cs[n]? = some C ∧ Ow 3 1 v (smb l i n).length (ivn (smb l i n)) C
theorem flat_set {α : Type} : ∀ {Cs : List (List α)} {n : Nat} {C : List α}, Cs[n]? = some C → ∃ D1 D2, Cs.flatten = D1 ++ (C ++ D2) ∧ ∀ C', (Cs.set n C').flatten = D1 ++ (C' ++ D2)
  | [], n, C, h => by simp at h
  | D :: r, 0, C, h => by
    simp at h
    subst h
    exact ⟨[], r.flatten, by simp, fun C' => by simp⟩
  | D :: r, n + 1, C, h => by
    simp at h
    obtain ⟨D1, D2, h1, h2⟩ := flat_set h
    exact ⟨D ++ D1, D2, by simp [h1], fun C' => by simp [h2]⟩
theorem SyR.new (l : List Nat) : SyR l 0 (List.replicate 16 (.slice none 0 0)) (List.replicate 16 []) := by
  refine ⟨by simp, by simp, fun n hn => ⟨_, _, ?_, ?_, .inl ⟨rfl, rfl, rfl, rfl⟩⟩⟩
  · rw [List.getElem?_replicate, if_pos hn]
  · rw [List.getElem?_replicate, if_pos hn]
theorem SyR.step {l : List Nat} {i : Nat} {vs : List Value} {Cs : List Chunk} (h : SyR l i vs Cs) {v' : Value} {C' : Chunk} (h0 : 0 < l.getD i 0) (h15 : l.getD i 0 < 16)
    (ho : Ow 3 1 v' ((smb l i (l.getD i 0)).length + 1) (ivn (smb l i (l.getD i 0)) ++ ivn [i]) C') : SyR l (i + 1) (vs.set (l.getD i 0) v') (Cs.set (l.getD i 0) C') := by
  refine ⟨by rw [List.length_set]; exact h.lv, by rw [List.length_set]; exact h.lc, fun n hn => ?_⟩
  by_cases he : l.getD i 0 = n
  · subst he
    refine ⟨v', C', List.getElem?_set_self (by rw [h.lv]; exact hn), List.getElem?_set_self (by rw [h.lc]; exact hn), ?_⟩
    rw [smb_succ, if_pos ⟨rfl, h0⟩, List.length_append]
    have e : ivn (smb l i (l.getD i 0) ++ [i]) = ivn (smb l i (l.getD i 0)) ++ ivn [i] := by simp [ivn]
    rw [e]
    exact ho
  · obtain ⟨v, C, h1, h2, h3⟩ := h.at_ n hn
    refine ⟨v, C, by rw [List.getElem?_set_ne he]; exact h1, by rw [List.getElem?_set_ne he]; exact h2, ?_⟩
    rw [smb_succ, if_neg (fun hh => he hh.1), List.append_nil]
    exact h3
theorem SyR.put {l : List Nat} {vs : List Value} {Cs : List Chunk} (h : SyR l 0 vs Cs) (x : Nat) {v' : Value} {C' : Chunk} (ho : Ow 3 1 v' 0 [] C') : SyR l 0 (vs.set x v') (Cs.set x C') := by
  refine ⟨by rw [List.length_set]; exact h.lv, by rw [List.length_set]; exact h.lc, fun n hn => ?_⟩
  by_cases he : x = n
  · subst he
    exact ⟨v', C', List.getElem?_set_self (by rw [h.lv]; exact hn), List.getElem?_set_self (by rw [h.lc]; exact hn), ho⟩
  · obtain ⟨v, C, h1, h2, h3⟩ := h.at_ n hn
    exact ⟨v, C, by rw [List.getElem?_set_ne he]; exact h1, by rw [List.getElem?_set_ne he]; exact h2, h3⟩
theorem SyR.skip {l : List Nat} {i : Nat} {vs : List Value} {Cs : List Chunk} (h : SyR l i vs Cs) (h0 : l.getD i 0 = 0) : SyR l (i + 1) vs Cs := by
  refine ⟨h.lv, h.lc, fun n hn => ?_⟩
  obtain ⟨v, C, h1, h2, h3⟩ := h.at_ n hn
  refine ⟨v, C, h1, h2, ?_⟩
  rw [smb_succ, if_neg (fun hh => by omega), List.append_nil]
  exact h3
omit [W0] in
/-- The cells of a code. -/
def coC (l : List Nat) (vs : List Value) : List Value := wnv (fsl l 16) ++ (vs ++ [.int .i64 (kS l : Int)])
omit [W0] in
/-- A code lies at p. -/
def CoD (l : List Nat) (p : Nat) (C : Chunk) : Prop := ∃ vs Cs, C = [(p, cl (coC l vs) 77)] ++ Cs.flatten ∧ SyR l l.length vs Cs
theorem co_build (Fv : List Value) (h : Fv.length = 16) (k : Int) : fillL [(0, 16), (16, 16), (32, 1)] (wnv zI ++ (List.replicate 16 (.slice none 0 0) ++ [.int .i64 0])) [(0, .agg Fv.toArray), (2, .int .i64 k)] = some (Fv ++ (List.replicate 16 (.slice none 0 0) ++ [.int .i64 k])) := by
  have e : (wnv zI).length = 16 := by decide
  have p1 : patch (wnv zI ++ (List.replicate 16 (Value.slice none 0 0) ++ [.int .i64 0])) 0 Fv = Fv ++ (List.replicate 16 (.slice none 0 0) ++ [.int .i64 0]) := by
    unfold patch
    rw [Nat.zero_add, h, ← e, List.drop_left]
    simp
  have p2 : patch (Fv ++ (List.replicate 16 (Value.slice none 0 0) ++ [.int .i64 0])) 32 [.int .i64 k] = Fv ++ (List.replicate 16 (.slice none 0 0) ++ [.int .i64 k]) := by
    unfold patch
    rw [List.take_append, List.drop_append, h]
    rw [List.take_of_length_le (by omega), List.drop_of_length_le (by simp; omega)]
    simp
  have c1 : (Value.agg Fv.toArray).cells.toList = Fv := rfl
  have c2 : (Value.int .i64 k).cells.toList = [.int .i64 k] := rfl
  unfold fillL
  simp only [List.getElem?_cons_zero]
  rw [if_pos (by refine ⟨by rw [← Array.length_toList, c1, h], by simp [e]⟩), c1, p1]
  unfold fillL
  simp only [List.getElem?_cons_succ, List.getElem?_cons_zero]
  rw [if_pos (by refine ⟨rfl, by simp [h]⟩), c2, p2]
  rfl
theorem co_nth {Fv vs : List Value} {s v : Value} {x : Nat} (h : Fv.length = 16) (hv : vs[x]? = some v) : nth (Fv ++ (vs ++ [s])) (16 + x * 1) = some v := by
  have hlt := (List.getElem?_eq_some_iff.1 hv).1
  rw [nth_eq, Nat.mul_one, List.getElem?_append_right (by omega), h, show 16 + x - 16 = x from by omega, List.getElem?_append_left hlt]
  exact hv
theorem co_set {Fv vs : List Value} {s v : Value} {x : Nat} (h : Fv.length = 16) (hv : x < vs.length) : (Fv ++ (vs ++ [s])).set (16 + x * 1) v = Fv ++ (vs.set x v ++ [s]) := by
  rw [Nat.mul_one, List.set_append_right _ _ (by omega), h, show 16 + x - 16 = x from by omega, List.set_append_left _ _ hv]
set_option maxHeartbeats 4000000 in
theorem hnew_n (a : Option Addr) (c : Nat) (ls : List Int) (L : List Chunk) (h : Sl L 1 (.slice a ls.length c) ls.length (intsN ls)) (hl : ls.length ≤ 17592186044416) :
    Gv Try.prog 13 [.slice a ls.length c].toArray L (fun r L' => (cdE ls ≠ 0 ∧ r = .tuple #[.pointer none, .int .i64 (cdE ls : Int)] ∧ L' = L) ∨
      (cdE ls = 0 ∧ ∃ p C, r = .tuple #[.pointer (some ⟨p, 0, none⟩), .int .i64 0] ∧ L' = C :: L ∧ CoD (nl ls) p C)) := by
  refine Gv.of_body Try.func13 rfl rfl ?_
  have hno : cdE ls ≠ 0 → ∀ (M : List (Nat × Value)) (D : Chunk), lk M 2 = some (.pointer none) → lk M 3 = some (.int .i64 (cdE ls : Int)) →
      WQ Try.f13.ntmps (bodyPost Try.prog Try.f13 (fun e w' => ∃ v L', e = .returned v ∧ ((cdE ls ≠ 0 ∧ v = .tuple #[.pointer none, .int .i64 (cdE ls : Int)] ∧ L' = L) ∨
      (cdE ls = 0 ∧ ∃ p C, v = .tuple #[.pointer (some ⟨p, 0, none⟩), .int .i64 0] ∧ L' = C :: L ∧ CoD (nl ls) p C)) ∧ Holds w' L') .ret) M (D :: L) := by
    intro he M D h2 h3
    refine WQ_retH (rs := [.tmp 2, .tmp 3]) (vs := [.pointer none, .int .i64 (cdE ls : Int)]) rfl (by simp [resT, h2, h3]) ?_
    exact ⟨L, fun w hw => hw.drop, .inl ⟨he, rfl, rfl⟩⟩
  have ht := fun L' h' => checked_n a c ls L' h' hl
  have hf := fun L' (h0 : cdE ls = 0) => firsts_n (nl ls) L' (cdE_inv h0).2.2 (by rw [nl_length]; exact (cdE_inv h0).1)
  have hs := fun L' (h0 : cdE ls = 0) => share_n (nl ls) L' (by rw [nl_length]; exact hl) (fun x hx => okL_nl (cdE_inv h0).2.1 hx)
  have hte : cdE ls = 0 → ivn (tal (nl ls)) = ivn (talC ls) := fun h0 => by unfold talC; rw [if_pos h0]
  have htl : (ivn (talC ls)).length = 16 := by rw [ivn_length, talC_length]
  have hto : ones (ivn (talC ls)) = true := ivn_ones
  have htg : cdE ls = 0 → ∀ i, i < 16 → ∃ n : Nat, (ivn (talC ls))[i]? = some (.int .i64 (n : Int)) ∧ n ≤ ls.length := fun h0 i hi => by
    rw [← hte h0]
    refine ⟨_, ivn_get (tal_get _ hi), ?_⟩
    split
    · omega
    · unfold cn
      exact Nat.le_trans (List.length_filter_le _ _) (by rw [nl_length]; omega)
  generalize ivn (tal (nl ls)) = sv at hf hte hs
  generalize ivn (talC ls) = tv at ht hte htl hto htg
  (repeat' first|refine kX ?_|refine kU fun bk=>?_|refine kV fun hc=>?_|refine kZ (fun hc=>?_) fun hc=>?_|fail)
  refine OW_callP rfl rfl rfl (ht _ h) rfl ?_
  (repeat' first|refine kX ?_|refine kU fun bk=>?_|refine kV fun hc=>?_|refine kZ (fun hc=>?_) fun hc=>?_|fail)
  obtain ⟨b4, hb4⟩ : ∃ b4, b4 = bk := ⟨_, rfl⟩
  rw [← hb4]
  refine OW_holds (L' := [(b4, cl (ivn zI) 68)] :: L) (fun w h => h) ?_
  clear hb4
  refine OW_storeAggTo (l := ivn zI) (vs := tv) tv rfl rfl htl hto ?_ iU (by rw [htl]; decide) ?_
  · have e : (ivn zI).length = 16 := by decide
    simp [patch, htl, e]
  (repeat' first|refine kX ?_|refine kU fun bk=>?_|refine kV fun hc=>?_|refine kZ (fun hc=>?_) fun hc=>?_|fail)
  · exact hno (by omega) _ _ rfl rfl
  have h0 : cdE ls = 0 := by omega
  obtain ⟨h400, hok, hk⟩ := cdE_inv h0
  have hf := hf ([(b4, cl tv 68)] :: L) h0
  have hs := hs ([(b4, cl tv 68)] :: L) h0
  rw [hte h0] at hf hs
  obtain ⟨l, hll⟩ : ∃ l, l = nl ls := ⟨_, rfl⟩
  have hlen : l.length = ls.length := by rw [hll, nl_length]
  rw [← hll] at hk hf hs
  have h15 : ∀ x ∈ l, x ≤ 15 := fun x hx => okL_nl hok (by rw [← hll]; exact hx)
  have hco : ∀ vs, coC l vs = wnv (fsl l 16) ++ (vs ++ [.int .i64 (kS l : Int)]) := fun vs => rfl
  have hFl : (wnv (fsl l 16)).length = 16 := by rw [wnv_length, fsl_length]
  have hFo : ones (wnv (fsl l 16)) = true := wnv_ones
  generalize hFv : wnv (fsl l 16) = Fv at hf hco hFl hFo
  refine WC_drawAll [] mixed ?_
  refine WR_w 0 ?_ (he := EV_loadAll (vs := tv) rfl Fnd.here htl)
  refine WR_w 2 ?_ (he := EV_loadAll (vs := tv) rfl Fnd.here htl)
  (refine WR_one 1 (by kernel_rfl) rfl rfl ?_)
  refine OW_callP rfl rfl rfl hf rfl ?_
  refine ⟨iC, ?_⟩
  (refine WR_one 3 (by kernel_rfl) rfl rfl ?_)
  refine OW_callP rfl rfl rfl hs rfl ?_
  refine ⟨iC, ?_⟩
  (refine WR_take 4 rfl rfl (by kernel_rfl) iP iC (EV_build rfl (co_build Fv hFl (kS l : Int))) (by rfl) ?_)
  (refine WR_one 5 (by kernel_rfl) rfl rfl ?_)
  refine OW_box rfl rfl (fun p => ?_)
  refine ⟨iC, ?_⟩
  (refine WR_w 6 ?_)
  (refine WR_done (by kernel_rfl) ?_)
  (repeat' first|refine kX ?_|refine kU fun bk=>?_|refine kV fun hc=>?_|refine kZ (fun hc=>?_) fun hc=>?_|fail)
  have hls : (nl ls).length = ls.length := nl_length ls
  refine OW_W ?_ (he := EV_loadAll (vs := tv) rfl (by repeat (first | exact Fnd.here | refine Fnd.there ?_)) htl)
  (repeat' first|refine kX ?_|refine kU fun bk=>?_|refine kV fun hc=>?_|refine kZ (fun hc=>?_) fun hc=>?_|fail)
  refine WC_loop (X := Nat × List Value × List Chunk) (fun x => [(6, .pointer (some ⟨p, 0, none⟩)), (0, .slice a ls.length c), (25, .agg tv.toArray), (26, .int .i64 (x.1 : Int))])
    (fun x => [(p, cl (Fv ++ (x.2.1 ++ [.int .i64 (kS l : Int)])) 77)] :: x.2.2.flatten :: [(b4, cl tv 68)] :: L) (fun x => x.1 ≤ 16 ∧ SyR l 0 x.2.1 x.2.2) (fun x => 16 - x.1)
    (0, List.replicate 16 (.slice none 0 0), List.replicate 16 []) ⟨Nat.zero_le _, SyR.new l⟩ iS (fun w h => ?_) ?_
  · show Holds w (_ :: (List.replicate 16 ([] : Chunk)).flatten :: _)
    rw [show (List.replicate 16 ([] : Chunk)).flatten = [] from by decide]
    exact (iC : Inc _ _).holds (Holds.gap.2 h)
  intro x ⟨hx1, hx2⟩
  obtain ⟨i, vs, Cs⟩ := x
  simp only at hx1 hx2 ⊢
  (repeat' first|refine kX ?_|refine kU fun bk=>?_|refine kV fun hc=>?_|refine kZ (fun hc=>?_) fun hc=>?_|fail)
  · have hlt : i < 16 := by omega
    obtain ⟨n, hn, hnl⟩ := htg h0 i hlt
    refine OW_W ?_ (he := EV_indexAgg rfl rfl rfl hn hlt)
    (repeat' first|refine kX ?_|refine kU fun bk=>?_|refine kV fun hc=>?_|refine kZ (fun hc=>?_) fun hc=>?_|fail)
    obtain ⟨v, C, hv, hC, ho⟩ := hx2.at_ i hlt
    obtain ⟨D1, D2, hfl, hfl2⟩ := flat_set hC
    have hvl := hx2.lv
    refine WC_holds' (L' := [(p, cl (Fv ++ (vs ++ [.int .i64 (kS l : Int)])) 77)] :: D1 :: D2 :: [(b4, cl tv 68)] :: L) (fun w h => ?_) ?_
    · rw [hfl] at h
      have h2 : Holds w ([(p, cl (Fv ++ (vs ++ [.int .i64 (kS l : Int)])) 77)] :: D1 :: C :: D2 :: [(b4, cl tv 68)] :: L) := by simpa [Holds, List.append_assoc] using h
      exact iH h2
    refine WC_draw [[(p, cl (Fv ++ (vs ++ [.int .i64 (kS l : Int)])) 77)]] [7] mixed ?_
    (refine WR_w 0 ?_; refine WR_w 1 ?_; refine WR_w 2 ?_; refine WR_w 4 ?_; refine WR_w 5 ?_)
    (refine WR_one 3 (by kernel_rfl) rfl rfl ?_)
    refine OW_makeSlice (k := 1) (m := 0) (c := n) rfl rfl rfl (Nat.zero_le _) (by omega) (by omega) rfl (fun b => ?_)
    refine ⟨iC, ?_⟩
    (refine WR_w 6 ?_)
    (refine WR_last 7 (by kernel_rfl) rfl rfl rfl ?_)
    have ho' : Ow 3 1 (.slice (some ⟨b, 0, none⟩) 0 n) 0 [] [(b, cl (zeros [.int .i64 0] n) 3)] := .inr ⟨b, n, _, rfl, rfl, rfl, by simp [zeros_length], Nat.zero_le _, by unfold maxLen; omega⟩
    refine OW_storeTo (Fv ++ (vs.set i (.slice (some ⟨b, 0, none⟩) 0 n) ++ [.int .i64 (kS l : Int)])) rfl rfl rfl (co_set hFl (by omega)) iU (by rw [List.length_append, List.length_append, hFl, hvl]; simp; omega) ?_
    (refine WR_done (by kernel_rfl) ?_)
    (repeat' first|refine kX ?_|refine kU fun bk=>?_|refine kV fun hc=>?_|refine kZ (fun hc=>?_) fun hc=>?_|fail)
    refine WQ_round (X := Nat × List Value × List Chunk) (μ := fun x => 16 - x.1) (x := (i, vs, Cs)) (i + 1, _, _) (by simp only; omega) ⟨by simp only; omega, hx2.put i ho'⟩ iS (fun w h => ?_)
    have h2 := (iC : Inc ([(p, cl (Fv ++ (vs.set i (.slice (some ⟨b, 0, none⟩) 0 n) ++ [.int .i64 (kS l : Int)])) 77)] :: D1 :: [(b, cl (zeros [.int .i64 0] n) 3)] :: D2 :: [(b4, cl tv 68)] :: L) _).holds h
    simp only [hfl2]
    simpa [Holds, List.append_assoc] using h2
  refine WC_loop (X := Nat × List Value × List Chunk) (fun x => [(6, .pointer (some ⟨p, 0, none⟩)), (38, .slice a ls.length c), (39, .int .i64 (ls.length : Int)), (40, .int .i64 (x.1 : Int))])
    (fun x => [(p, cl (Fv ++ (x.2.1 ++ [.int .i64 (kS l : Int)])) 77)] :: x.2.2.flatten :: [(b4, cl tv 68)] :: L) (fun x => x.1 ≤ ls.length ∧ SyR l x.1 x.2.1 x.2.2) (fun x => ls.length - x.1)
    (0, vs, Cs) ⟨Nat.zero_le _, hx2⟩ iS (fun w h => h) ?_
  clear hx1 hx2
  intro x ⟨hx1, hx2⟩
  obtain ⟨i, vs, Cs⟩ := x
  simp only at hx1 hx2 ⊢
  (repeat' first|refine kX ?_|refine kU fun bk=>?_|refine kV fun hc=>?_|refine kZ (fun hc=>?_) fun hc=>?_|fail)
  · have hlt : i < ls.length := by omega
    obtain ⟨b, off, cap, cc, T, fr, hve, hfn, hcell⟩ := sl_at h (ints_get hlt)
    injection hve with q1 q2 q3
    subst q1 q3
    clear q2
    have hat := okL_at hok i
    rw [← hll] at hat
    rw [← hat.2.2] at hcell
    have hstep := @SyR.step _ l i vs Cs hx2
    have hskip := hx2.skip
    obtain ⟨x, hx⟩ : ∃ x, x = l.getD i 0 := ⟨_, rfl⟩
    have hx15 : x ≤ 15 := by omega
    rw [← hx] at hcell hstep hskip
    refine OW_W ?_ (he := EV_indexAddr (j := i) rfl rfl rfl hlt)
    (repeat' first|refine kX ?_|refine kU fun bk=>?_|refine kV fun hc=>?_|refine kZ (fun hc=>?_) fun hc=>?_|fail)
    refine OW_W ?_ (he := EV_load rfl hfn.there.there.there hcell)
    (repeat' first|refine kX ?_|refine kU fun bk=>?_|refine kV fun hc=>?_|refine kZ (fun hc=>?_) fun hc=>?_|fail)
    · have hx0 : 0 < x := by omega
      obtain ⟨v, C, hv, hC, ho⟩ := hx2.at_ x (by omega)
      obtain ⟨D1, D2, hfl, hfl2⟩ := flat_set hC
      have hsl := smb_le l i x
      refine WC_holds' (L' := [(p, cl (Fv ++ (vs ++ [.int .i64 (kS l : Int)])) 77)] :: D1 :: C :: D2 :: [(b4, cl tv 68)] :: L) (fun w h => ?_) ?_
      · rw [hfl] at h
        simpa [Holds, List.append_assoc] using h
      refine WC_draw [[(p, cl (Fv ++ (vs ++ [.int .i64 (kS l : Int)])) 77)]] [14] mixed ?_
      (refine WR_w 0 ?_; refine WR_w 1 ?_; refine WR_w 2 ?_; refine WR_w 3 ?_; refine WR_w 4 ?_; refine WR_w 5 ?_; refine WR_w 6 ?_)
      refine WR_w 7 ?_ (he := EV_loadc rfl (by repeat (first | exact Fnd.here | refine Fnd.there ?_)) (co_nth hFl hv))
      (refine WR_w 8 ?_; refine WR_w 11 ?_; refine WR_w 12 ?_)
      (refine WR_one 9 (by kernel_rfl) rfl rfl ?_)
      refine OW_buildSlice (cs := ivn [i]) rfl (by rfl) (by simp [fillL, patch, Value.cells, zeros]; rfl) (by omega) rfl rfl (fun bs => ?_)
      refine ⟨iC, ?_⟩
      (refine WR_one 10 (by kernel_rfl) rfl rfl ?_)
      refine OW_append rfl rfl ho (sl_cells (c := (ivn [i]).toArray) (xs := ivn [i]) (m := 1) Fnd.here rfl (by simp)) (by repeat (first | exact Zip.here _ | apply Zip.there)) rfl ivn_ones (by omega) (by simp [maxLen]; omega) rfl (fun v' C' ho' _ _ => ?_)
      refine ⟨iC, ?_⟩
      (refine WR_w 13 ?_)
      (refine WR_last 14 (by kernel_rfl) rfl rfl rfl ?_)
      refine OW_storeTo (Fv ++ (vs.set x v' ++ [.int .i64 (kS l : Int)])) rfl rfl (ow_one ho') (co_set hFl (by rw [hx2.lv]; omega)) iU (by rw [List.length_append, List.length_append, hFl, hx2.lv]; simp; omega) ?_
      (refine WR_done (by kernel_rfl) ?_)
      (repeat' first|refine kX ?_|refine kU fun bk=>?_|refine kV fun hc=>?_|refine kZ (fun hc=>?_) fun hc=>?_|fail)
      refine WQ_round (X := Nat × List Value × List Chunk) (μ := fun x => ls.length - x.1) (x := (i, vs, Cs)) (i + 1, vs.set x v', Cs.set x C') (by simp only; omega) ⟨by simp only; omega, hstep hx0 (by omega) ho'⟩ iS (fun w h => ?_)
      have h2 := (iC : Inc ([(p, cl (Fv ++ (vs.set x v' ++ [.int .i64 (kS l : Int)])) 77)] :: D1 :: C' :: D2 :: [(b4, cl tv 68)] :: L) _).holds h
      simp only [hfl2]
      simpa [Holds, List.append_assoc] using h2
    · have hx0 : x = 0 := by omega
      refine WQ_round (X := Nat × List Value × List Chunk) (μ := fun x => ls.length - x.1) (x := (i, vs, Cs)) (i + 1, vs, Cs) (by simp only; omega) ⟨by simp only; omega, hskip hx0⟩ iS (fun w h => h)
  · have hie : i = l.length := by omega
    rw [hie] at hx2
    first | refine WQ_retH rfl rfl ?_ | refine WQ_endH rfl rfl ?_
    refine ⟨(_ :: L), fun w h => ?_, .inr ⟨h0, p, _, rfl, rfl, vs, Cs, rfl, by rw [← hll]; exact hx2⟩⟩
    rw [← hll, hco]
    have h2 := (iC : Inc ([(p, cl (Fv ++ (vs ++ [.int .i64 (kS l : Int)])) 77)] :: Cs.flatten :: L) _).holds h
    exact Holds.split.2 h2
end Go.Proofs.Ytbdpjbmfhnbheaa
namespace Go.Proofs.Ytbdpjbmfhnbheaa
open Go Go.Vx
variable [W0]
set_option maxRecDepth 4000
set_option linter.all false
omit [W0] in
/-- A number of bits, clamped. -/
def clp (n : Int) : Nat := (min (max n 0) 32).toNat
theorem clp_le (n : Int) : clp n ≤ 32 := by unfold clp; omega
theorem clp_cast (n : Int) : min (max n 0) 32 = ((clp n : Nat) : Int) := by unfold clp; omega
theorem clp_nat {n : Nat} (h : n ≤ 32) : clp (n : Int) = n := by unfold clp; omega
theorem clamped_n (n : Int) (L : List Chunk) : GvP Try.prog 40 [.int .i64 n].toArray L (.int .i64 ((clp n : Nat) : Int)) := by
  refine Gv.of_body Try.func40 rfl rfl ?_
  (repeat' first|refine kW ?_|refine kU fun bk=>?_|refine kV fun hc=>?_|refine kZ (fun hc=>?_) fun hc=>?_|fail)
  rw [clp_cast]
  (repeat' first|refine kW ?_|refine kU fun bk=>?_|refine kV fun hc=>?_|refine kZ (fun hc=>?_) fun hc=>?_|fail)
  exact kE
theorem pow_le {a b : Nat} (h : a ≤ b) : 2 ^ a ≤ 2 ^ b := Nat.pow_le_pow_right (by decide) h
theorem lowest_n (n : Nat) (L : List Chunk) (h : n ≤ 32) : GvP Try.prog 52 [.int .i64 (n : Int)].toArray L (.int .u64 ((2 ^ n - 1 : Nat) : Int)) := by
  refine Gv.of_body Try.func52 rfl rfl ?_
  have h1 := pow_le h
  have h0 : 0 < 2 ^ n := Nat.pow_pos (by decide)
  (repeat' first|refine kW ?_|refine kU fun bk=>?_|refine kV fun hc=>?_|refine kZ (fun hc=>?_) fun hc=>?_|fail)
  refine OW_EV (EV_nshl 1 n rfl rfl rfl rfl rfl (by simp [IntKind.bits]; omega)) rfl ?_
  (repeat' first|refine kW ?_|refine kU fun bk=>?_|refine kV fun hc=>?_|refine kZ (fun hc=>?_) fun hc=>?_|fail)
  refine OW_EV (EV_ari rfl rfl rfl) rfl ?_
  rw [show ((1 * 2 ^ n : Nat) : Int) - 1 = ((2 ^ n - 1 : Nat) : Int) from by omega, wrap_nat rfl (by simp [IntKind.bits]; omega)]
  (repeat' first|refine kW ?_|refine kU fun bk=>?_|refine kV fun hc=>?_|refine kZ (fun hc=>?_) fun hc=>?_|fail)
  exact kE
theorem mirrored_n (v n : Nat) (L : List Chunk) (hv : v < 2 ^ 32) (h : n ≤ 32) : GvP Try.prog 42 [.int .u32 (v : Int), .int .i64 (n : Int)].toArray L (.int .u32 ((mir v n : Nat) : Int)) := by
  refine Gv.of_body Try.func42 rfl rfl ?_
  (repeat' first|refine kW ?_|refine kU fun bk=>?_|refine kV fun hc=>?_|refine kZ (fun hc=>?_) fun hc=>?_|fail)
  refine WC_loop (X := Nat) (fun k => [(0, .int .u32 ((v / 2 ^ k : Nat) : Int)), (5, .int .u32 ((mir v k : Nat) : Int)), (6, .int .i64 (n : Int)), (7, .int .i64 (k : Int))]) (fun k => L) (fun k => k ≤ n) (fun k => n - k) 0 (Nat.zero_le _)
    (Sub.cons (by rw [Nat.pow_zero, Nat.div_one]; rfl) iS) (fun w h => h) ?_
  intro k hk
  have hm := mir_lt v k
  (repeat' first|refine kW ?_|refine kU fun bk=>?_|refine kV fun hc=>?_|refine kZ (fun hc=>?_) fun hc=>?_|fail)
  · have h1 : 2 ^ (k + 1) ≤ 2 ^ 32 := pow_le (by omega)
    have h2 := Nat.pow_succ 2 k
    have h3 : v / 2 ^ k ≤ v := Nat.div_le_self _ _
    refine OW_EV (EV_nshl (mir v k) 1 rfl rfl rfl rfl rfl (by simp only [IntKind.bits]; omega)) rfl ?_
    (repeat' first|refine kW ?_|refine kU fun bk=>?_|refine kV fun hc=>?_|refine kZ (fun hc=>?_) fun hc=>?_|fail)
    refine OW_EV (EV_nand (v / 2 ^ k) 1 rfl rfl rfl rfl rfl (by simp only [IntKind.bits]; omega) (by decide)) rfl ?_
    (repeat' first|refine kW ?_|refine kU fun bk=>?_|refine kV fun hc=>?_|refine kZ (fun hc=>?_) fun hc=>?_|fail)
    refine OW_EV (EV_nor' (v / 2 ^ k % 2 ^ 1) (mir v k) 1 rfl rfl rfl rfl rfl (Nat.mod_lt _ (by decide)) (by simp only [IntKind.bits]; omega)) rfl ?_
    rw [show v / 2 ^ k % 2 ^ 1 + mir v k * 2 ^ 1 = mir v (k + 1) from by simp only [mir]; omega]
    (repeat' first|refine kW ?_|refine kU fun bk=>?_|refine kV fun hc=>?_|refine kZ (fun hc=>?_) fun hc=>?_|fail)
    refine OW_EV (EV_nshr (v / 2 ^ k) 1 rfl rfl rfl rfl (by simp only [IntKind.bits]; omega)) rfl ?_
    rw [Nat.div_div_eq_div_mul, ← Nat.pow_add]
    (repeat' first|refine kW ?_|refine kU fun bk=>?_|refine kV fun hc=>?_|refine kZ (fun hc=>?_) fun hc=>?_|fail)
    refine WQ_round (X := Nat) (μ := fun k => n - k) (x := k) (k + 1) (by omega) (by omega) iS (fun w h => h)
  · have hk2 : k = n := by omega
    subst hk2
    exact kE
omit [W0] in
/-- A writer of N bits, which make the number V. -/
def WrD (p V N : Nat) (D E : Chunk) : Prop := V < 2 ^ N ∧ ∃ v, D = [(p, cl [v, .int .u64 ((V / 2 ^ (8 * (N / 8)) : Nat) : Int), .int .i64 ((N % 8 : Nat) : Int)] 56)] ∧ Ow 5 1 v (N / 8) (bsv (leB V (N / 8))) E
theorem WrD.new (p : Nat) : WrD p 0 0 [(p, cl [.slice none 0 0, .int .u64 0, .int .i64 0] 56)] [] := ⟨by decide, _, rfl, .inl ⟨rfl, rfl, rfl, rfl⟩⟩
theorem add_lt {V N x c : Nat} (hV : V < 2 ^ N) (hx : x < 2 ^ c) : V + 2 ^ N * x < 2 ^ (N + c) := by
  rw [Nat.pow_add]
  have h : 2 ^ N * (x + 1) ≤ 2 ^ N * 2 ^ c := Nat.mul_le_mul_left _ hx
  rw [Nat.mul_add] at h
  omega
set_option maxHeartbeats 2000000 in
theorem put_n (p V N v : Nat) (n : Int) (D E : Chunk) (L : List Chunk) (h : WrD p V N D E) (hv : v < 2 ^ 32) (hN : N ≤ 1125899906841600) :
    Gv Try.prog 41 [.pointer (some ⟨p, 0, none⟩), .int .u32 (v : Int), .int .i64 n].toArray (D :: E :: L) (fun r L' => r = .tuple #[] ∧ ∃ D' E', WrD p (V + 2 ^ N * (v % 2 ^ clp n)) (N + clp n) D' E' ∧ L' = D' :: E' :: L) := by
  obtain ⟨hV, f, rfl, hf⟩ := h
  refine Gv.of_body Try.func41 rfl rfl ?_
  (repeat' first|refine kW ?_|refine kU fun bk=>?_|refine kV fun hc=>?_|refine kZ (fun hc=>?_) fun hc=>?_|fail)
  refine OW_callP rfl rfl rfl (clamped_n n _) rfl ?_
  have hc := clp_le n
  generalize clp n = c at hc ⊢
  obtain ⟨V', hV'⟩ : ∃ V', V' = V + 2 ^ N * (v % 2 ^ c) := ⟨_, rfl⟩
  obtain ⟨N', hN'⟩ : ∃ N', N' = N + c := ⟨_, rfl⟩
  rw [← hV', ← hN']
  have hlt : V' < 2 ^ N' := by rw [hV', hN']; exact add_lt hV (Nat.mod_lt _ (Nat.pow_pos (by decide)))
  have hw : V / 2 ^ (8 * (N / 8)) < 2 ^ (N % 8) := by
    rw [Nat.div_lt_iff_lt_mul (Nat.pow_pos (by decide)), ← Nat.pow_add, show N % 8 + 8 * (N / 8) = N from by omega]
    exact hV
  have hw' : V / 2 ^ (8 * (N / 8)) + v % 2 ^ c * 2 ^ (N % 8) = V' / 2 ^ (8 * (N / 8)) := by
    rw [hV', show 2 ^ N * (v % 2 ^ c) = 2 ^ (8 * (N / 8)) * (v % 2 ^ c * 2 ^ (N % 8)) from by
      rw [show 2 ^ N = 2 ^ (8 * (N / 8)) * 2 ^ (N % 8) from by rw [← Nat.pow_add]; congr 1; omega]; ac_rfl, Nat.add_mul_div_left _ _ (Nat.pow_pos (by decide))]
  have hb1 : v % 2 ^ c < 2 ^ 32 := Nat.lt_of_le_of_lt (Nat.mod_le _ _) hv
  have hb2 : v % 2 ^ c * 2 ^ (N % 8) < 2 ^ 32 * 2 ^ 8 := Nat.mul_lt_mul_of_lt_of_le hb1 (pow_le (by omega)) (Nat.pow_pos (by decide))
  have hb3 : 2 ^ (N % 8) ≤ 2 ^ 8 := pow_le (by omega)
  (repeat' first|refine kW ?_|refine kU fun bk=>?_|refine kV fun hc=>?_|refine kZ (fun hc=>?_) fun hc=>?_|fail)
  refine WC_drawAll [17] mixed ?_
  (refine WR_t 0 ?_; refine WR_t 1 ?_; refine WR_t 2 ?_; refine WR_t 3 ?_; refine WR_t 4 ?_)
  (refine WR_take 5 rfl rfl (by kernel_rfl) iP iC (EV_nconv v rfl rfl rfl (by simp only [IntKind.bits]; omega)) (by rfl) ?_)
  (refine WR_t 6 ?_; refine WR_t 9 ?_; refine WR_t 10 ?_; refine WR_t 11 ?_; refine WR_t 12 ?_)
  (refine WR_one 7 (by kernel_rfl) rfl rfl ?_)
  refine OW_callP rfl rfl rfl (lowest_n c _ hc) rfl ?_
  refine ⟨iC, ?_⟩
  (refine WR_take 8 rfl rfl (by kernel_rfl) iP iC (EV_nand v c rfl rfl rfl rfl rfl (by simp only [IntKind.bits]; omega) (by simp only [IntKind.bits]; omega)) (by rfl) ?_)
  (refine WR_take 13 rfl rfl (by kernel_rfl) iP iC (EV_nshl (v % 2 ^ c) (N % 8) rfl rfl rfl rfl rfl (by simp only [IntKind.bits]; omega)) (by rfl) ?_)
  (refine WR_take 14 rfl rfl (by kernel_rfl) iP iC (EV_nor (V / 2 ^ (8 * (N / 8))) (v % 2 ^ c) (N % 8) rfl rfl rfl rfl rfl hw (by simp only [IntKind.bits]; omega)) (by rfl) ?_)
  rw [hw']
  (refine WR_t 15 ?_; refine WR_t 16 ?_)
  (refine WR_last 17 (by kernel_rfl) rfl rfl rfl ?_)
  refine OW_store rfl rfl rfl iU (by simp) ?_
  (refine WR_done (by kernel_rfl) ?_)
  (repeat' first|refine kW ?_|refine kU fun bk=>?_|refine kV fun hc=>?_|refine kZ (fun hc=>?_) fun hc=>?_|fail)
  rw [show ((N % 8 : Nat) : Int) + (c : Int) = (N' : Int) - 8 * ((N / 8 : Nat) : Int) from by omega]
  (repeat' first|refine kW ?_|refine kU fun bk=>?_|refine kV fun hc=>?_|refine kZ (fun hc=>?_) fun hc=>?_|fail)
  refine WC_loop (X := Nat × Value × Chunk) (fun x => [(0, .pointer (some ⟨p, 0, none⟩))])
    (fun x => [(p, cl [x.2.1, .int .u64 ((V' / 2 ^ (8 * x.1) : Nat) : Int), .int .i64 ((N' : Int) - 8 * (x.1 : Int))] 56)] :: x.2.2 :: L)
    (fun x => 8 * x.1 ≤ N' ∧ N' ≤ 8 * x.1 + 40 ∧ Ow 5 1 x.2.1 x.1 (bsv (leB V' x.1)) x.2.2) (fun x => N' - 8 * x.1) (N / 8, f, E) ⟨by simp only; omega, by simp only; omega, by rw [hV', leB_add (by omega)]; exact hf⟩ iS (fun w h => h) ?_
  intro x ⟨hx1, hx3, hx2⟩
  obtain ⟨k, s, C⟩ := x
  simp only at hx1 hx2 hx3 ⊢
  (repeat' first|refine kW ?_|refine kU fun bk=>?_|refine kV fun hc=>?_|refine kZ (fun hc=>?_) fun hc=>?_|fail)
  · refine WC_draw ([(p, cl [s, .int .u64 ((V' / 2 ^ (8 * k) : Nat) : Int), .int .i64 ((N' : Int) - 8 * (k : Int))] 56)] :: L) [14] mixed ?_
    (refine WR_t 0 ?_; refine WR_t 1 ?_; refine WR_t 2 ?_; refine WR_t 3 ?_; refine WR_t 4 ?_; refine WR_t 5 ?_; refine WR_t 6 ?_; refine WR_t 7 ?_; refine WR_t 8 ?_)
    (refine WR_take 9 rfl rfl (by kernel_rfl) iP iC (EV_nbyte (V' / 2 ^ (8 * k)) rfl rfl) (by rfl) ?_)
    (refine WR_one 10 (by kernel_rfl) rfl rfl ?_)
    refine OW_buildSlice (cs := bsv [byB V' k]) rfl (by rfl) (by simp [fillL, patch, Value.cells, zeros]; rfl) (by omega) rfl rfl (fun bk => ?_)
    refine ⟨iC, ?_⟩
    (refine WR_one 11 (by kernel_rfl) rfl rfl ?_)
    refine OW_append rfl rfl hx2 (sl_cells (c := (bsv [byB V' k]).toArray) (xs := bsv [byB V' k]) (m := 1) Fnd.here rfl (by simp)) (by repeat (first | exact Zip.here _ | apply Zip.there)) (by rfl) bsv_ones (by omega) (by simp [maxLen]; omega) rfl (fun v' C' ho1 h1 h2 => ?_)
    rw [← bsv_append, ← leB_succ] at ho1
    refine ⟨iC, ?_⟩
    (refine WR_t 12 ?_; refine WR_t 13 ?_)
    (refine WR_last 14 (by kernel_rfl) rfl rfl rfl ?_)
    refine OW_store rfl rfl (ow_one ho1) iU (by simp) ?_
    (refine WR_done (by kernel_rfl) ?_)
    (repeat' first|refine kW ?_|refine kU fun bk=>?_|refine kV fun hc=>?_|refine kZ (fun hc=>?_) fun hc=>?_|fail)
    have hq : V' / 2 ^ (8 * k) < 2 ^ 64 := by
      rw [Nat.div_lt_iff_lt_mul (Nat.pow_pos (by decide)), ← Nat.pow_add]
      exact Nat.lt_of_lt_of_le hlt (pow_le (by omega))
    refine OW_EV (EV_nshr (V' / 2 ^ (8 * k)) 8 rfl rfl rfl rfl (by simp only [IntKind.bits]; exact hq)) rfl ?_
    rw [Nat.div_div_eq_div_mul, ← Nat.pow_add, show 8 * k + 8 = 8 * (k + 1) from by omega]
    (repeat' first|refine kW ?_|refine kU fun bk=>?_|refine kV fun hc=>?_|refine kZ (fun hc=>?_) fun hc=>?_|fail)
    rw [show ((N' : Int) - 8 * (k : Int)) - 8 = (N' : Int) - 8 * ((k + 1 : Nat) : Int) from by omega]
    (repeat' first|refine kW ?_|refine kU fun bk=>?_|refine kV fun hc=>?_|refine kZ (fun hc=>?_) fun hc=>?_|fail)
    refine WQ_round (X := Nat × Value × Chunk) (μ := fun x => N' - 8 * x.1) (x := (k, s, C)) (k + 1, v', C') (by simp only; omega) ⟨by simp only; omega, by simp only; omega, ho1⟩ iS (fun w h => iH h)
  · have hk : k = N' / 8 := by omega
    subst hk
    refine kR ?_
    refine ⟨[(p, cl [s, .int .u64 ((V' / 2 ^ (8 * (N' / 8)) : Nat) : Int), .int .i64 ((N' % 8 : Nat) : Int)] 56)] :: C :: L, ?_, rfl, _, _, ⟨hlt, s, rfl, hx2⟩, rfl⟩
    rw [show ((N' % 8 : Nat) : Int) = (N' : Int) - 8 * ((N' / 8 : Nat) : Int) from by omega]
    exact iC
theorem code_n (p V N v : Nat) (n : Int) (D E : Chunk) (L : List Chunk) (h : WrD p V N D E) (hv : v < 2 ^ 32) (hN : N ≤ 1125899906841600) :
    Gv Try.prog 23 [.pointer (some ⟨p, 0, none⟩), .int .u32 (v : Int), .int .i64 n].toArray (D :: E :: L) (fun r L' => r = .tuple #[] ∧ ∃ D' E', WrD p (V + 2 ^ N * mir v (clp n)) (N + clp n) D' E' ∧ L' = D' :: E' :: L) := by
  refine Gv.of_body Try.func23 rfl rfl ?_
  (repeat' first|refine kW ?_|refine kU fun bk=>?_|refine kV fun hc=>?_|refine kZ (fun hc=>?_) fun hc=>?_|fail)
  refine OW_callP rfl rfl rfl (clamped_n n _) rfl ?_
  have hc := clp_le n
  generalize clp n = c at hc ⊢
  (repeat' first|refine kW ?_|refine kU fun bk=>?_|refine kV fun hc=>?_|refine kZ (fun hc=>?_) fun hc=>?_|fail)
  refine OW_callP rfl rfl rfl (mirrored_n v c _ hv hc) rfl ?_
  (repeat' first|refine kW ?_|refine kU fun bk=>?_|refine kV fun hc=>?_|refine kZ (fun hc=>?_) fun hc=>?_|fail)
  have hm := mir_lt v c
  have h2 := pow_le hc
  refine OW_call rfl rfl rfl (put_n p V N (mir v c) (c : Int) D E L h (by omega) hN) rfl (fun r L' hp => ?_)
  obtain ⟨rfl, D', E', hw, rfl⟩ := hp
  rw [clp_nat hc, Nat.mod_eq_of_lt hm] at hw
  (repeat' first|refine kW ?_|refine kU fun bk=>?_|refine kV fun hc=>?_|refine kZ (fun hc=>?_) fun hc=>?_|fail)
  refine kR ?_
  exact ⟨_, iC, rfl, D', E', hw, rfl⟩
theorem WrD.cast {p V N N' : Nat} {D E : Chunk} (h : WrD p V N D E) (he : N = N') : WrD p V N' D E := he ▸ h
set_option maxHeartbeats 1000000 in
theorem wbytes_n (p V N : Nat) (D E : Chunk) (L : List Chunk) (h : WrD p V N D E) (hN : N ≤ 1125899906841600) :
    Gv Try.prog 24 [.pointer (some ⟨p, 0, none⟩)].toArray (D :: E :: L) (fun r L' => ∃ C, L' = C :: D :: E :: L ∧ Ow 5 1 r ((N + 7) / 8) (bsv (leB V ((N + 7) / 8))) C) := by
  refine Gv.of_body Try.func24 rfl rfl ?_
  obtain ⟨hV, f, rfl, hf⟩ := h
  obtain ⟨fa, fc, rfl⟩ := ow_slc hf
  (repeat' first|refine kW ?_|refine kU fun bk=>?_|refine kV fun hc=>?_|refine kZ (fun hc=>?_) fun hc=>?_|fail)
  refine WC_drawAll [] mixed ?_
  (refine WR_t 0 ?_; refine WR_t 1 ?_; refine WR_t 2 ?_; refine WR_t 3 ?_; refine WR_t 4 ?_; refine WR_t 5 ?_; refine WR_t 7 ?_; refine WR_t 8 ?_; refine WR_t 9 ?_; refine WR_t 10 ?_)
  (refine WR_one 6 (by kernel_rfl) rfl rfl ?_)
  refine OW_makeSlice (m := 0) (c := N / 8 + 1) rfl rfl (by rfl) (by omega) (by omega) (by omega) rfl (fun bn => ?_)
  refine ⟨iC, ?_⟩
  (refine WR_one 11 (by kernel_rfl) rfl rfl ?_)
  have ho : Ow 5 1 (.slice (some ⟨bn, 0, none⟩) 0 (N / 8 + 1)) 0 (bsv []) [(bn, cl (zeros [.int .u8 0] (N / 8 + 1)) 5)] :=
    .inr ⟨bn, N / 8 + 1, zeros [.int .u8 0] (N / 8 + 1), rfl, rfl, rfl, by simp [zeros_length], by omega, by simp [maxLen]; omega⟩
  refine OW_append rfl rfl ho (sl_there (sl_there (ow_sl hf))) (by repeat (first | exact Zip.here _ | apply Zip.there)) (by rfl) bsv_ones (by omega) (by simp [maxLen]; omega) rfl (fun v' C' ho1 h1 h2 => ?_)
  rw [← bsv_append, List.nil_append, Nat.zero_add] at ho1
  refine ⟨iC, ?_⟩
  (refine WR_t 12 ?_)
  (refine WR_done (by kernel_rfl) ?_)
  (repeat' first|refine kW ?_|refine kU fun bk=>?_|refine kV fun hc=>?_|refine kZ (fun hc=>?_) fun hc=>?_|fail)
  · rw [wrap_byte]
    refine OW_buildSlice (cs := bsv [byB V (N / 8)]) rfl (by rfl) (by simp [fillL, patch, Value.cells, zeros]; rfl) (by omega) rfl rfl (fun bk => ?_)
    (repeat' first|refine kW ?_|refine kU fun bk=>?_|refine kV fun hc=>?_|refine kZ (fun hc=>?_) fun hc=>?_|fail)
    refine OW_append rfl rfl ho1 (sl_cells (c := (bsv [byB V (N / 8)]).toArray) (xs := bsv [byB V (N / 8)]) (m := 1) Fnd.here rfl (by simp)) (by repeat (first | exact Zip.here _ | apply Zip.there)) (by rfl) bsv_ones (by omega) (by simp [maxLen]; omega) rfl (fun v2 C2 ho2 h1 h2 => ?_)
    rw [← bsv_append, ← leB_succ] at ho2
    (repeat' first|refine kW ?_|refine kU fun bk=>?_|refine kV fun hc=>?_|refine kZ (fun hc=>?_) fun hc=>?_|fail)
    refine kR ?_
    rw [show (N + 7) / 8 = N / 8 + 1 from by omega]
    exact ⟨C2 :: _, iC, C2, rfl, ho2⟩
  · refine kR ?_
    rw [show (N + 7) / 8 = N / 8 from by omega]
    exact ⟨C' :: _, iC, C', rfl, ho1⟩
end Go.Proofs.Ytbdpjbmfhnbheaa
namespace Go.Proofs.Ytbdpjbmfhnbheaa
open Go Go.Vx
variable [W0]
set_option maxRecDepth 4000
set_option linter.all false
omit [W0] in
/-- What a reader of the bytes d keeps, of which the bits before t are taken and the bytes before nx are begun. -/
def rdC (v : Value) (d : List UInt8) (t nx : Nat) : List Value := [v, .int .i64 (nx : Int), .int .u64 ((val d / 2 ^ t % 2 ^ (8 * nx - t) : Nat) : Int), .int .i64 ((8 * nx - t : Nat) : Int)]
omit [W0] in
def RdD (p : Nat) (d : List UInt8) (t nx : Nat) (D E : Chunk) : Prop := ∃ v, D = [(p, cl (rdC v d t nx) 81)] ∧ Ow 5 1 v d.length (bsv d) E
omit [W0] in
/-- The same between the calls. -/
def RdN (p : Nat) (d : List UInt8) (t : Nat) (D E : Chunk) : Prop := t ≤ 8 * d.length ∧ RdD p d t ((t + 7) / 8) D E
theorem read_n (b : List UInt8) (v : Value) (L : List Chunk) (hv : Sl L 1 v b.length (bsv b)) (hl : b.length ≤ 140737488355328) :
    Gv Try.prog 16 [v].toArray L (fun r L' => ∃ p D E, r = .pointer (some ⟨p, 0, none⟩) ∧ RdN p b 0 D E ∧ L' = D :: E :: L) := by
  refine Gv.of_body Try.func16 rfl rfl ?_
  (repeat' first|refine kW ?_|refine kU fun bk=>?_|refine kV fun hc=>?_|refine kZ (fun hc=>?_) fun hc=>?_|fail)
  refine OW_holds (L' := [] :: L) (fun w h => Holds.nil.2 h) ?_
  refine OW_append rfl rfl (.inl ⟨rfl, rfl, rfl, rfl⟩) (sl_there hv) (by repeat (first | exact Zip.here _ | apply Zip.there)) (by rfl) bsv_ones (by omega) (by simp [maxLen]; omega) rfl (fun v' C' ho1 h1 h2 => ?_)
  rw [List.nil_append, Nat.zero_add] at ho1
  obtain ⟨fa, fc, rfl⟩ := ow_slc ho1
  (repeat' first|refine kW ?_|refine kU fun bk=>?_|refine kV fun hc=>?_|refine kZ (fun hc=>?_) fun hc=>?_|fail)
  refine kR ?_
  refine ⟨[(bk, cl (rdC (.slice fa b.length fc) b 0 0) 81)] :: C' :: L, ?_, bk, _, C', rfl, ⟨Nat.zero_le _, _, rfl, ho1⟩, rfl⟩
  have e : ((val b / 2 ^ 0 % 2 ^ (8 * 0 - 0) : Nat) : Int) = 0 := by simp [Nat.mod_one]
  unfold rdC
  rw [e]
  exact iC
theorem left_n (p m nx : Nat) (a : Option Addr) (c : Nat) (w wt : Value) (T : TypeId) (L : List Chunk) (hf : Fnd L p (cl [.slice a m c, .int .i64 (nx : Int), w, wt] T)) (hm : m ≤ 140737488355328) (hn : nx ≤ m) :
    GvP Try.prog 59 [.pointer (some ⟨p, 0, none⟩)].toArray L (.int .i64 ((m - nx : Nat) : Int)) := by
  refine Gv.of_body Try.func59 rfl rfl ?_
  (repeat' first|refine kW ?_|refine kU fun bk=>?_|refine kV fun hc=>?_|refine kZ (fun hc=>?_) fun hc=>?_|fail)
  refine WC_drawAll [] mixed ?_
  (refine WR_t 0 ?_; refine WR_t 1 ?_; refine WR_t 2 ?_; refine WR_t 3 ?_; refine WR_t 4 ?_; refine WR_t 5 ?_; refine WR_t 6 ?_; refine WR_t 7 ?_; refine WR_t 8 ?_; refine WR_t 9 ?_)
  rw [show (m : Int) - (nx : Int) = ((m - nx : Nat) : Int) from by omega]
  (refine WR_t 10 ?_)
  (refine WR_done (by kernel_rfl) ?_)
  (repeat' first|refine kW ?_|refine kU fun bk=>?_|refine kV fun hc=>?_|refine kZ (fun hc=>?_) fun hc=>?_|fail)
  exact kE
theorem bytesOf_n (n : Int) (m : Nat) (L : List Chunk) (h : n + 7 = (m : Int)) (hm : m ≤ 1000) : GvP Try.prog 58 [.int .i64 n].toArray L (.int .i64 ((m / 8 : Nat) : Int)) := by
  refine Gv.of_body Try.func58 rfl rfl ?_
  (repeat' first|refine kW ?_|refine kU fun bk=>?_|refine kV fun hc=>?_|refine kZ (fun hc=>?_) fun hc=>?_|fail)
  refine OW_EV (EV_quoN m 8 rfl rfl (by omega) rfl (by decide) (by omega)) rfl ?_
  (repeat' first|refine kW ?_|refine kU fun bk=>?_|refine kV fun hc=>?_|refine kZ (fun hc=>?_) fun hc=>?_|fail)
  exact kE
theorem rd_step {d : List UInt8} {t w i : Nat} (hw : t + w = 8 * i) (hi : i < d.length) : val d / 2 ^ t % 2 ^ w + (d.getD i 0).toNat * 2 ^ w = val d / 2 ^ t % 2 ^ (w + 8) := by
  rw [Nat.pow_add, Nat.mod_mul, Nat.div_div_eq_div_mul, ← Nat.pow_add, hw, Nat.mul_comm (2 ^ w)]
  have := val_get d i hi
  rw [show (2 : Nat) ^ 8 = 256 from rfl, this]
set_option maxHeartbeats 2000000 in
theorem collect_n (p t n : Nat) (d : List UInt8) (D E : Chunk) (L : List Chunk) (h : RdN p d t D E) (hn : n ≤ 32) (hl : d.length ≤ 140737488355328) :
    Gv Try.prog 51 [.pointer (some ⟨p, 0, none⟩), .int .i64 (n : Int)].toArray (D :: E :: L) (fun r L' =>
      (t + n ≤ 8 * d.length ∧ r = .bool true ∧ ∃ D', RdD p d t ((t + 7) / 8 + (n + 7 - (8 * ((t + 7) / 8) - t)) / 8) D' E ∧ L' = D' :: E :: L) ∨ (8 * d.length < t + n ∧ r = .bool false ∧ L' = D :: E :: L)) := by
  obtain ⟨ht, v, rfl, ho⟩ := h
  refine Gv.of_body Try.func51 rfl rfl ?_
  obtain ⟨fa, fc, rfl⟩ := ow_slc ho
  obtain ⟨nx, hnx⟩ : ∃ nx, nx = (t + 7) / 8 := ⟨_, rfl⟩
  rw [← hnx]
  obtain ⟨nd, hnd⟩ : ∃ nd, nd = (n + 7 - (8 * nx - t)) / 8 := ⟨_, rfl⟩
  rw [← hnd]
  unfold rdC
  (repeat' first|refine kW ?_|refine kU fun bk=>?_|refine kV fun hc=>?_|refine kZ (fun hc=>?_) fun hc=>?_|fail)
  refine OW_callP rfl rfl rfl (bytesOf_n _ (n + 7 - (8 * nx - t)) _ (by omega) (by omega)) rfl ?_
  rw [← hnd]
  (repeat' first|refine kW ?_|refine kU fun bk=>?_|refine kV fun hc=>?_|refine kZ (fun hc=>?_) fun hc=>?_|fail)
  refine OW_callP rfl rfl rfl (left_n p d.length nx fa fc _ _ _ _ Fnd.here hl (by omega)) rfl ?_
  (repeat' first|refine kW ?_|refine kU fun bk=>?_|refine kV fun hc=>?_|refine kZ (fun hc=>?_) fun hc=>?_|fail)
  · refine kR ?_
    exact ⟨_, iC, .inr ⟨by omega, rfl, rfl⟩⟩
  · refine WC_loop (X := Nat) (fun k => [(0, .pointer (some ⟨p, 0, none⟩)), (17, .int .i64 (nd : Int)), (18, .int .i64 (k : Int))])
      (fun k => [(p, cl (rdC (.slice fa d.length fc) d t (nx + k)) 81)] :: E :: L) (fun k => k ≤ nd) (fun k => nd - k) 0 (Nat.zero_le _) iS (fun w h => h) ?_
    intro k hk
    unfold rdC
    obtain ⟨wt, hwt⟩ : ∃ wt, wt = 8 * (nx + k) - t := ⟨_, rfl⟩
    rw [← hwt]
    (repeat' first|refine kW ?_|refine kU fun bk=>?_|refine kV fun hc=>?_|refine kZ (fun hc=>?_) fun hc=>?_|fail)
    · obtain ⟨b, cap, rest, hve, rfl, hcell⟩ := ow_byte ho (k := nx + k) (by omega)
      injection hve with e1 e2 e3
      subst e1 e3
      clear e2
      have hwl : wt < 32 := by omega
      have hp := pow_le (Nat.le_of_lt hwl)
      have hml : val d / 2 ^ t % 2 ^ wt < 2 ^ wt := Nat.mod_lt _ (Nat.pow_pos (by decide))
      have hbl := (d.getD (nx + k) 0).toNat_lt
      have hst := rd_step (d := d) (t := t) (w := wt) (i := nx + k) (by omega) (by omega)
      obtain ⟨x, hx⟩ : ∃ x, x = (d.getD (nx + k) 0).toNat := ⟨_, rfl⟩
      rw [← hx] at hcell hbl hst
      have hxm : x * 2 ^ wt ≤ 255 * 2 ^ 32 := Nat.mul_le_mul (by omega) hp
      refine WC_drawAll [23] mixed ?_
      (refine WR_t 0 ?_; refine WR_t 1 ?_; refine WR_t 2 ?_; refine WR_t 3 ?_; refine WR_t 4 ?_; refine WR_t 5 ?_; refine WR_t 6 ?_; refine WR_t 7 ?_; refine WR_t 8 ?_; refine WR_t 9 ?_; refine WR_t 10 ?_; refine WR_t 11 ?_)
      (refine WR_take 12 rfl rfl (by kernel_rfl) iP iC (EV_indexAddr0 rfl rfl rfl (by omega)) (by rfl) ?_)
      (refine WR_take 13 rfl rfl (by kernel_rfl) iP iC (EV_load rfl (Fnd.there Fnd.here) hcell) (by rfl) ?_)
      (refine WR_take 14 rfl rfl (by kernel_rfl) iP iC (EV_nconv x rfl rfl rfl (by simp only [IntKind.bits]; omega)) (by rfl) ?_)
      (refine WR_t 15 ?_; refine WR_t 16 ?_; refine WR_t 17 ?_; refine WR_t 18 ?_)
      (refine WR_take 19 rfl rfl (by kernel_rfl) iP iC (EV_nshl x wt rfl rfl rfl rfl rfl (by simp only [IntKind.bits]; omega)) (by rfl) ?_)
      (refine WR_take 20 rfl rfl (by kernel_rfl) iP iC (EV_nor (val d / 2 ^ t % 2 ^ wt) x wt rfl rfl rfl rfl rfl hml (by simp only [IntKind.bits]; omega)) (by rfl) ?_)
      rw [hst]
      (refine WR_t 21 ?_; refine WR_t 22 ?_)
      (refine WR_last 23 (by kernel_rfl) rfl rfl rfl ?_)
      refine OW_store rfl rfl rfl iU (by simp) ?_
      (refine WR_done (by kernel_rfl) ?_)
      (repeat' first|refine kW ?_|refine kU fun bk=>?_|refine kV fun hc=>?_|refine kZ (fun hc=>?_) fun hc=>?_|fail)
      refine WQ_round (X := Nat) (μ := fun k => nd - k) (x := k) (k + 1) (by omega) (by omega) iS ?_
      rw [show 8 * (nx + (k + 1)) - t = wt + 8 from by omega, show ((wt + 8 : Nat) : Int) = (wt : Int) + 8 from by omega, show ((nx + (k + 1) : Nat) : Int) = ((nx + k : Nat) : Int) + 1 from by omega]
      exact fun w h => iH h
    · have hk2 : k = nd := by omega
      subst hk2
      refine kR ?_
      rw [hwt]
      exact ⟨_, iC, .inl ⟨by omega, rfl, _, ⟨_, rfl, ho⟩, rfl⟩⟩
omit [W0] in
/-- What a taking does: whether, what, and where the reader stands. -/
def tkB (d : List UInt8) (t : Nat) (n : Int) : Bool := decide (0 ≤ n) && decide (n ≤ 32) && decide (t + n.toNat ≤ 8 * d.length)
omit [W0] in
def tkV (d : List UInt8) (t : Nat) (n : Int) : Nat := if tkB d t n then val d / 2 ^ t % 2 ^ n.toNat else 0
omit [W0] in
def tkT (d : List UInt8) (t : Nat) (n : Int) : Nat := if tkB d t n then t + n.toNat else t
theorem tkB_nat {d : List UInt8} {t n : Nat} (h : n ≤ 32) (h2 : t + n ≤ 8 * d.length) : tkB d t (n : Int) = true := by
  simp only [tkB, Bool.and_eq_true, decide_eq_true_eq]; omega
theorem tkB_no {d : List UInt8} {t : Nat} {n : Int} (h : n < 0 ∨ 32 < n ∨ 8 * d.length < t + n.toNat) : tkB d t n = false := by
  simp only [tkB, Bool.and_eq_false_iff, decide_eq_false_iff_not]; omega
theorem tk_nat {d : List UInt8} {t n : Nat} (h : n ≤ 32) (h2 : t + n ≤ 8 * d.length) : tkV d t (n : Int) = val d / 2 ^ t % 2 ^ n ∧ tkT d t (n : Int) = t + n := by
  unfold tkV tkT
  rw [tkB_nat h h2]
  exact ⟨rfl, rfl⟩
theorem tk_no {d : List UInt8} {t : Nat} {n : Int} (h : tkB d t n = false) : tkV d t n = 0 ∧ tkT d t n = t := by
  unfold tkV tkT
  rw [h]
  exact ⟨rfl, rfl⟩
set_option maxHeartbeats 2000000 in
theorem take_n (p t : Nat) (n : Int) (d : List UInt8) (D E : Chunk) (L : List Chunk) (h : RdN p d t D E) (hl : d.length ≤ 140737488355328) :
    Gv Try.prog 35 [.pointer (some ⟨p, 0, none⟩), .int .i64 n].toArray (D :: E :: L) (fun r L' =>
      r = .tuple #[.int .u32 ((tkV d t n : Nat) : Int), .bool (tkB d t n)] ∧ ∃ D', RdN p d (tkT d t n) D' E ∧ L' = D' :: E :: L) := by
  refine Gv.of_body Try.func35 rfl rfl ?_
  have hno : ∀ M : List (Nat × Value), tkB d t n = false → lk M 4 = some (.int .u32 0) → lk M 5 = some (.bool false) →
      WQ Try.f35.ntmps (bodyPost Try.prog Try.f35 (fun e w' => ∃ v L', e = .returned v ∧ (v = .tuple #[.int .u32 ((tkV d t n : Nat) : Int), .bool (tkB d t n)] ∧ ∃ D', RdN p d (tkT d t n) D' E ∧ L' = D' :: E :: L) ∧ Holds w' L') .ret) M (D :: E :: L) := by
    intro M hb h4 h5
    refine WQ_retI (rs := [.tmp 4, .tmp 5]) (vs := [.int .u32 0, .bool false]) rfl (by simp [resT, h4, h5]) ?_
    obtain ⟨e1, e2⟩ := tk_no hb
    rw [e1, e2, hb]
    exact ⟨_, iC, rfl, D, h, rfl⟩
  (repeat' first|refine kW ?_|refine kU fun bk=>?_|refine kV fun hc=>?_|refine kZ (fun hc=>?_) fun hc=>?_|fail)
  · exact hno _ (tkB_no (by omega)) rfl rfl
  · exact hno _ (tkB_no (by omega)) rfl rfl
  obtain ⟨m, rfl⟩ : ∃ m : Nat, n = (m : Int) := ⟨n.toNat, by omega⟩
  have hm : m ≤ 32 := by omega
  refine OW_call rfl rfl rfl (collect_n p t m d D E L h hm hl) rfl (fun r L' hp => ?_)
  obtain ⟨hfit, rfl, D', ⟨v, rfl, ho⟩, rfl⟩ | ⟨hfit, rfl, rfl⟩ := hp
  · obtain ⟨e1, e2⟩ := tk_nat hm hfit
    rw [e1, e2, tkB_nat hm hfit]
    have hnx : (t + 7) / 8 + (m + 7 - (8 * ((t + 7) / 8) - t)) / 8 = (t + m + 7) / 8 := by omega
    rw [hnx]
    obtain ⟨nx, hq⟩ : ∃ nx, nx = (t + m + 7) / 8 := ⟨_, rfl⟩
    rw [← hq]
    obtain ⟨wt, hwt⟩ : ∃ wt, wt = 8 * nx - t := ⟨_, rfl⟩
    unfold rdC
    rw [← hwt]
    have hml : val d / 2 ^ t % 2 ^ wt < 2 ^ wt := Nat.mod_lt _ (Nat.pow_pos (by decide))
    have hp := pow_le (show wt ≤ 40 by omega)
    have hp2 := pow_le hm
    have hp3 : val d / 2 ^ t % 2 ^ wt % 2 ^ m < 2 ^ m := Nat.mod_lt _ (Nat.pow_pos (by decide))
    (repeat' first|refine kW ?_|refine kU fun bk=>?_|refine kV fun hc=>?_|refine kZ (fun hc=>?_) fun hc=>?_|fail)
    refine WC_drawAll [] mixed ?_
    (refine WR_t 0 ?_; refine WR_t 1 ?_; refine WR_t 2 ?_; refine WR_t 3 ?_; refine WR_t 4 ?_)
    (refine WR_one 5 (by kernel_rfl) rfl rfl ?_)
    refine OW_callP rfl rfl rfl (lowest_n m _ hm) rfl ?_
    refine ⟨iC, ?_⟩
    (refine WR_take 6 rfl rfl (by kernel_rfl) iP iC (EV_nand (val d / 2 ^ t % 2 ^ wt) m rfl rfl rfl rfl rfl (by simp only [IntKind.bits]; omega) (by simp only [IntKind.bits]; omega)) (by rfl) ?_)
    (refine WR_t 7 ?_)
    (refine WR_done (by kernel_rfl) ?_)
    (repeat' first|refine kW ?_|refine kU fun bk=>?_|refine kV fun hc=>?_|refine kZ (fun hc=>?_) fun hc=>?_|fail)
    refine OW_EV (EV_nshr (val d / 2 ^ t % 2 ^ wt) m rfl rfl rfl rfl (by simp only [IntKind.bits]; omega)) rfl ?_
    (repeat' first|refine kW ?_|refine kU fun bk=>?_|refine kV fun hc=>?_|refine kZ (fun hc=>?_) fun hc=>?_|fail)
    rw [wrap_nat (k := .u32) rfl (m := val d / 2 ^ t % 2 ^ wt % 2 ^ m) (by simp only [IntKind.bits]; omega)]
    (repeat' first|refine kW ?_|refine kU fun bk=>?_|refine kV fun hc=>?_|refine kZ (fun hc=>?_) fun hc=>?_|fail)
    refine kR ?_
    have f1 : val d / 2 ^ t % 2 ^ wt % 2 ^ m = val d / 2 ^ t % 2 ^ m := Nat.mod_mod_of_dvd _ (Nat.pow_dvd_pow 2 (by omega))
    have f2 : val d / 2 ^ t % 2 ^ wt / 2 ^ m = val d / 2 ^ (t + m) % 2 ^ (8 * nx - (t + m)) := by
      rw [show wt = m + (8 * nx - (t + m)) from by omega, Nat.pow_add, Nat.mod_mul_right_div_self, Nat.div_div_eq_div_mul, ← Nat.pow_add]
    rw [f1]
    refine ⟨[(p, cl (rdC v d (t + m) nx) 81)] :: E :: L, ?_, rfl, _, ⟨by omega, v, by rw [hq], ho⟩, rfl⟩
    unfold rdC
    rw [← f2, show ((8 * nx - (t + m) : Nat) : Int) = (wt : Int) - (m : Int) from by omega]
    exact iC
  · (repeat' first|refine kW ?_|refine kU fun bk=>?_|refine kV fun hc=>?_|refine kZ (fun hc=>?_) fun hc=>?_|fail)
    exact hno _ (tkB_no (by omega)) rfl rfl
end Go.Proofs.Ytbdpjbmfhnbheaa
namespace Go.Proofs.Ytbdpjbmfhnbheaa
open Go Go.Vx Go.Hf
variable [W0]
set_option maxRecDepth 4000
set_option linter.all false
set_option maxHeartbeats 1000000 in
theorem goesOn_n (p n v s : Nat) (Fv vs : List Value) (L : List Chunk) (hFl : Fv.length = 16) (hvl : vs.length = 16) (hf : Fnd L p (cl (Fv ++ (vs ++ [.int .i64 (s : Int)])) 77)) (hn : n ≤ 15) (hv : v < 65536) :
    GvP Try.prog 34 [.pointer (some ⟨p, 0, none⟩), .int .u32 (v : Int), .int .i64 (n : Int)].toArray L (.bool (decide (v * 2 ^ (15 - n) < s))) := by
  have hnt : nth (Fv ++ (vs ++ [Value.int .i64 (s : Int)])) 32 = some (.int .i64 (s : Int)) := by
    rw [nth_eq, List.getElem?_append_right (by omega), hFl, List.getElem?_append_right (by omega), hvl]; rfl
  have hpw : v * 2 ^ (15 - n) ≤ 65536 * 2 ^ 15 := Nat.mul_le_mul (by omega) (Nat.pow_le_pow_right (by decide) (by omega))
  refine Gv.of_body Try.func34 rfl rfl ?_
  (repeat' first|refine kX ?_|refine kU fun bk=>?_|refine kV fun hc=>?_|refine kZ (fun hc=>?_) fun hc=>?_|fail)
  refine WC_drawAll [] mixed ?_
  (refine WR_t 0 ?_; refine WR_t 1 ?_; refine WR_t 2 ?_; refine WR_t 3 ?_)
  (refine WR_take 4 rfl rfl (by kernel_rfl) iP iC (EV_shl64 v (15 - n) rfl rfl rfl (by omega) (by omega) (by omega)) (by rfl) ?_)
  (refine WR_t 5 ?_; refine WR_t 6 ?_; refine WR_t 7 ?_)
  (refine WR_take 8 rfl rfl (by kernel_rfl) iP iC (EV_loadc rfl hf hnt) (by rfl) ?_)
  (refine WR_t 9 ?_; refine WR_t 10 ?_)
  (refine WR_done (by kernel_rfl) ?_)
  (repeat' first|refine kX ?_|refine kU fun bk=>?_|refine kV fun hc=>?_|refine kZ (fun hc=>?_) fun hc=>?_|fail)
  refine kR ?_
  refine ⟨L, iC, ?_, rfl⟩
  exact congrArg Value.bool (decide_eq_decide.2 Int.ofNat_lt)
theorem rdS_at {l : List Nat} {w t z n : Nat} (hn : n ≤ 15) (hI : rdS l w t z 16 0 = rdS l w t z (16 - n) n) (hS : symAt l n (hv w t n) = none) :
    rdS l w t z 16 0 = if extB l n (hv w t n) = false then (0, 3, n) else if z ≤ t + n then (0, 4, n) else rdS l w t z (16 - (n + 1)) (n + 1) := by
  rw [hI, show 16 - n = (16 - (n + 1)) + 1 from by omega, rdS, hS]
theorem smb_fnd {l : List Nat} {vs : List Value} {Cs : List Chunk} {n : Nat} (h : SyR l l.length vs Cs) (h0 : 0 < n) (hn : n < 16) {i : Nat} (hi : l[i]? = some n) {D : Chunk} {L : List Chunk} :
    ∃ b cap c fr, vs[n]? = some (.slice (some ⟨b, 0, none⟩) (cn l n) cap) ∧ Fnd (D :: Cs.flatten :: L) b (.cells c 3 fr) ∧ c[cn (l.take i) n]? = some (.int .i64 (i : Int)) := by
  obtain ⟨v, C, h1, h2, h3⟩ := h.at_ n hn
  have hg := smb_get hi h0
  have hlen := smb_length h0 (Nat.le_refl l.length)
  rw [List.take_length] at hlen
  have hlt := cn_take_lt hi
  rcases h3 with ⟨_, h4, _⟩ | ⟨b, cap, rest, rfl, rfl, _⟩
  · omega
  · refine ⟨b, cap, (ivn (smb l l.length n) ++ rest).toArray, (0, 0), by rw [h1, hlen], ?_, ?_⟩
    · show Fnd _ b (cl (ivn (smb l l.length n) ++ rest) 3)
      refine Fnd.there (Fnd.mem ?_)
      exact List.mem_flatten.2 ⟨_, List.mem_of_getElem? h2, by simp⟩
    · have h5 := ivn_get hg
      have h6 := (List.getElem?_eq_some_iff.1 h5).1
      rw [List.getElem?_toArray, List.getElem?_append_left h6]
      exact h5
set_option maxHeartbeats 4000000 in
theorem hread_n (p q t : Nat) (l : List Nat) (d : List UInt8) (C D E : Chunk) (L : List Chunk) (hC : CoD l p C) (hk : kS l ≤ 32768) (h15 : ∀ x ∈ l, x ≤ 15) (h400 : l.length ≤ 400) (hR : RdN q d t D E) (hl : d.length ≤ 140737488355328) :
    Gv Try.prog 17 [.pointer (some ⟨p, 0, none⟩), .pointer (some ⟨q, 0, none⟩)].toArray (C :: D :: E :: L) (fun r L' => ∃ D', r = .tuple #[.int .i64 ((rdS l (val d) t (8 * d.length) 16 0).1 : Int), .int .i64 ((rdS l (val d) t (8 * d.length) 16 0).2.1 : Int)] ∧
      RdN q d (t + (rdS l (val d) t (8 * d.length) 16 0).2.2) D' E ∧ L' = C :: D' :: E :: L) := by
  obtain ⟨vs, Cs, rfl, hS⟩ := hC
  have hco : coC l vs = wnv (fsl l 16) ++ (vs ++ [.int .i64 (kS l : Int)]) := rfl
  have hFl : (wnv (fsl l 16)).length = 16 := by rw [wnv_length, fsl_length]
  have hFg : ∀ n, n < 16 → nth (wnv (fsl l 16) ++ (vs ++ [.int .i64 (kS l : Int)])) (0 + n * 1) = some (.int .u32 ((fs l n : Nat) : Int)) := fun n hn => by
    rw [Nat.zero_add, Nat.mul_one, nth_eq, List.getElem?_append_left (by omega)]
    have := fsl_get l 16 hn
    rw [if_pos hn] at this
    exact wnv_get this
  rw [hco]
  generalize wnv (fsl l 16) = Fv at hFl hFg
  obtain ⟨w, hw⟩ : ∃ w, w = val d := ⟨_, rfl⟩
  obtain ⟨z, hz⟩ : ∃ z, z = 8 * d.length := ⟨_, rfl⟩
  rw [← hw, ← hz]
  refine Gv.holds (L' := [(p, cl (Fv ++ (vs ++ [.int .i64 (kS l : Int)])) 77)] :: Cs.flatten :: D :: E :: L) ?_ (fun w h => Holds.split.1 h)
  refine Gv.of_body Try.func17 rfl rfl ?_
  (repeat' first|refine kX ?_|refine kU fun bk=>?_|refine kV fun hc=>?_|refine kZ (fun hc=>?_) fun hc=>?_|fail)
  refine WC_loop (X := Nat × Chunk) (fun x => [(0, .pointer (some ⟨p, 0, none⟩)), (1, .pointer (some ⟨q, 0, none⟩)), (6, .int .u32 ((hv w t x.1 : Nat) : Int)), (7, .int .i64 ((x.1 + 1 : Nat) : Int))])
    (fun x => [(p, cl (Fv ++ (vs ++ [.int .i64 (kS l : Int)])) 77)] :: Cs.flatten :: x.2 :: E :: L)
    (fun x => x.1 ≤ 15 ∧ RdN q d (t + x.1) x.2 E ∧ (if x.1 = 0 then 0 else fs l x.1 + cn l x.1) ≤ hv w t x.1 ∧ rdS l w t z 16 0 = rdS l w t z (16 - x.1) x.1 ∧ symAt l x.1 (hv w t x.1) = none) (fun x => 16 - x.1)
    (0, D) ⟨Nat.zero_le _, hR, Nat.zero_le _, rfl, symAt_none0⟩ iS (fun w h => h) ?_
  intro x ⟨hx1, hx2, hx3, hx4, hx5⟩
  obtain ⟨n, D1⟩ := x
  simp only at hx1 hx2 hx3 hx4 hx5 ⊢
  have hat := rdS_at hx1 hx4 hx5
  have hlt := hv_lt w t n
  have hp15 : 2 ^ n ≤ 2 ^ 15 := Nat.pow_le_pow_right (by decide) hx1
  have hext : extB l n (hv w t n) = decide (hv w t n * 2 ^ (15 - n) < kS l) := by
    rw [Bool.eq_iff_iff, extB_iff, ext_iff hk h15 hx1, decide_eq_true_eq]
    exact ⟨fun h => h.2, fun h => ⟨hx3, h⟩⟩
  have hend : ∀ (e m : Nat) (M : List (Nat × Value)) (D' : Chunk), rdS l w t z 16 0 = (0, e, m) → RdN q d (t + m) D' E → lk M 4 = some (.int .i64 0) → lk M 5 = some (.int .i64 (e : Int)) →
      WQ Try.f17.ntmps (bodyPost Try.prog Try.f17 (fun e w' => ∃ v L', e = .returned v ∧ (∃ D', v = .tuple #[.int .i64 ((rdS l w t z 16 0).1 : Int), .int .i64 ((rdS l w t z 16 0).2.1 : Int)] ∧
      RdN q d (t + (rdS l w t z 16 0).2.2) D' E ∧ L' = ([(p, cl (Fv ++ (vs ++ [.int .i64 (kS l : Int)])) 77)] ++ Cs.flatten) :: D' :: E :: L) ∧ Holds w' L') .ret) M ([(p, cl (Fv ++ (vs ++ [.int .i64 (kS l : Int)])) 77)] :: Cs.flatten :: D' :: E :: L) := by
    intro e m M D' he hr h4 h5
    refine WQ_retH (rs := [.tmp 4, .tmp 5]) (vs := [.int .i64 0, .int .i64 (e : Int)]) rfl (by simp [resT, h4, h5]) ?_
    rw [he]
    exact ⟨_, fun w h => Holds.split.2 h, D', rfl, hr, rfl⟩
  (repeat' first|refine kX ?_|refine kU fun bk=>?_|refine kV fun hc=>?_|refine kZ (fun hc=>?_) fun hc=>?_|fail)
  · have hn14 : n ≤ 14 := by omega
    rw [show (((n + 1 : Nat) : Nat) : Int) - 1 = (n : Int) from by omega]
    refine OW_callP rfl rfl rfl (goesOn_n p n (hv w t n) (kS l) Fv vs _ hFl hS.lv Fnd.here (by omega) (by omega)) rfl ?_
    by_cases hgo : ¬ hv w t n * 2 ^ (15 - n) < kS l
    · rw [decide_eq_false hgo] at hext ⊢
      rw [if_pos hext] at hat
      (repeat' first|refine kX ?_|refine kU fun bk=>?_|refine kV fun hc=>?_|refine kZ (fun hc=>?_) fun hc=>?_|fail)
      exact hend 3 n _ _ hat hx2 rfl rfl
    rw [decide_eq_true (Decidable.of_not_not hgo)] at hext ⊢
    rw [if_neg (by rw [hext]; simp)] at hat
    (repeat' first|refine kX ?_|refine kU fun bk=>?_|refine kV fun hc=>?_|refine kZ (fun hc=>?_) fun hc=>?_|fail)
    refine OW_call rfl rfl rfl (Gv.take2 (take_n q (t + n) 1 d D1 E ([(p, cl (Fv ++ (vs ++ [.int .i64 (kS l : Int)])) 77)] :: Cs.flatten :: L) hx2 hl) (by repeat (first | exact Take.here | apply Take.there)) (by repeat (first | exact Take.here | apply Take.there))) rfl (fun r L' hp => ?_)
    obtain ⟨rfl, D2, hr2, rfl⟩ := hp
    by_cases hz2 : z ≤ t + n
    · rw [if_pos hz2] at hat
      have hb : tkB d (t + n) 1 = false := tkB_no (by omega)
      have htt : tkT d (t + n) 1 = t + n := by unfold tkT; rw [hb]; rfl
      rw [htt] at hr2
      rw [hb]
      (repeat' first|refine kX ?_|refine kU fun bk=>?_|refine kV fun hc=>?_|refine kZ (fun hc=>?_) fun hc=>?_|fail)
      refine WQ_holds (L' := [(p, cl (Fv ++ (vs ++ [.int .i64 (kS l : Int)])) 77)] :: Cs.flatten :: D2 :: E :: L) (fun w h => iH h) ?_
      exact hend 4 n _ _ hat hr2 rfl rfl
    rw [if_neg hz2] at hat
    have hb : tkB d (t + n) 1 = true := tkB_nat (n := 1) (by omega) (by omega)
    obtain ⟨hv1, hv2⟩ := tk_nat (d := d) (t := t + n) (n := 1) (by omega) (by omega)
    have hv1 : tkV d (t + n) 1 = w / 2 ^ (t + n) % 2 := by rw [hw]; exact hv1
    have hv2 : tkT d (t + n) 1 = t + (n + 1) := hv2
    rw [hv2] at hr2
    rw [hb, hv1]
    have hvs : hv w t (n + 1) = 2 * hv w t n + w / 2 ^ (t + n) % 2 := rfl
    obtain ⟨bt, hbt⟩ : ∃ bt, bt = w / 2 ^ (t + n) % 2 := ⟨_, rfl⟩
    have hbt2 : bt < 2 := by omega
    rw [← hbt] at hvs ⊢
    have hvl := hv_lt w t (n + 1)
    have hp16 : 2 ^ (n + 1) ≤ 2 ^ 15 := Nat.pow_le_pow_right (by decide) (by omega)
    have hfsn : fs l (n + 1) = 2 * (fs l n + if n = 0 then 0 else cn l n) := rfl
    have hge : fs l (n + 1) ≤ hv w t (n + 1) := by
      rw [hvs, hfsn]
      by_cases h0 : n = 0
      · subst h0; simp [fs]
      · rw [if_neg h0] at hx3 ⊢; omega
    have hlast : rdS l w t z 16 0 = match symAt l (n + 1) (hv w t (n + 1)) with
        | some i => (i, 0, n + 1)
        | none => rdS l w t z (16 - (n + 1)) (n + 1) := by
      rw [hat]
      cases hs : symAt l (n + 1) (hv w t (n + 1)) with
      | none => rfl
      | some i => rw [show 16 - (n + 1) = (15 - (n + 1)) + 1 from by omega, rdS, hs]
    (repeat' first|refine kW ?_|refine kU fun bk=>?_|refine kV fun hc=>?_|refine kZ (fun hc=>?_) fun hc=>?_|fail)
    refine OW_EV (EV_nshl (hv w t n) 1 rfl rfl rfl rfl rfl (by simp only [IntKind.bits]; omega)) rfl ?_
    (repeat' first|refine kW ?_|refine kU fun bk=>?_|refine kV fun hc=>?_|refine kZ (fun hc=>?_) fun hc=>?_|fail)
    refine OW_EV (EV_nor' bt (hv w t n) 1 rfl rfl rfl rfl rfl (by omega) (by simp only [IntKind.bits]; omega)) rfl ?_
    rw [show bt + hv w t n * 2 ^ 1 = hv w t (n + 1) from by rw [hvs]; omega]
    (repeat' first|refine kW ?_|refine kU fun bk=>?_|refine kV fun hc=>?_|refine kZ (fun hc=>?_) fun hc=>?_|fail)
    refine OW_EV (EV_indexAddrA' (n + 1) rfl rfl rfl (by omega)) rfl ?_
    (repeat' first|refine kW ?_|refine kU fun bk=>?_|refine kV fun hc=>?_|refine kZ (fun hc=>?_) fun hc=>?_|fail)
    refine OW_EV (EV_loadc rfl (by repeat (first | assumption | exact Fnd.here | refine Fnd.there ?_)) (hFg (n + 1) (by omega))) rfl ?_
    (repeat' first|refine kW ?_|refine kU fun bk=>?_|refine kV fun hc=>?_|refine kZ (fun hc=>?_) fun hc=>?_|fail)
    refine OW_EV (EV_nsub (hv w t (n + 1)) (fs l (n + 1)) rfl rfl rfl rfl rfl hge (by simp only [IntKind.bits]; omega)) rfl ?_
    obtain ⟨x, hx⟩ : ∃ x, x = hv w t (n + 1) - fs l (n + 1) := ⟨_, rfl⟩
    rw [← hx]
    have hxb : x ≤ 32768 := by omega
    (repeat' first|refine kW ?_|refine kU fun bk=>?_|refine kV fun hc=>?_|refine kZ (fun hc=>?_) fun hc=>?_|fail)
    refine OW_EV (EV_indexAddrA' (n + 1) rfl rfl rfl (by omega)) rfl ?_
    (repeat' first|refine kW ?_|refine kU fun bk=>?_|refine kV fun hc=>?_|refine kZ (fun hc=>?_) fun hc=>?_|fail)
    obtain ⟨v, C1, hv1, hC1, ho1⟩ := hS.at_ (n + 1) (by omega)
    obtain ⟨sa, sc, rfl⟩ := ow_slc ho1
    have hsl := smb_length (l := l) (n := n + 1) (by omega) (Nat.le_refl l.length)
    rw [List.take_length] at hsl
    rw [hsl] at hv1
    refine OW_EV (EV_loadc rfl (by repeat (first | assumption | exact Fnd.here | refine Fnd.there ?_)) (co_nth hFl hv1)) rfl ?_
    (repeat' first|refine kW ?_|refine kU fun bk=>?_|refine kV fun hc=>?_|refine kZ (fun hc=>?_) fun hc=>?_|fail)
    · refine OW_EV (EV_indexAddrA' (n + 1) rfl rfl rfl (by omega)) rfl ?_
      (repeat' first|refine kW ?_|refine kU fun bk=>?_|refine kV fun hc=>?_|refine kZ (fun hc=>?_) fun hc=>?_|fail)
      obtain ⟨i, hi1, hi2⟩ := cd_surj (l := l) (n := n + 1) (by omega) hge (show hv w t (n + 1) < fs l (n + 1) + cn l (n + 1) by omega)
      obtain ⟨b, cap, cc, fr, hvb, hfn, hcell⟩ := smb_fnd hS (by omega) (by omega) hi1 (D := [(p, cl (Fv ++ (vs ++ [.int .i64 (kS l : Int)])) 77)]) (L := D2 :: E :: L)
      rw [hv1] at hvb
      injection hvb with hvb
      injection hvb with e1 e2 e3
      subst e1 e3
      refine OW_EV (EV_loadc rfl (by repeat (first | assumption | exact Fnd.here | refine Fnd.there ?_)) (co_nth hFl hv1)) rfl ?_
      (repeat' first|refine kW ?_|refine kU fun bk=>?_|refine kV fun hc=>?_|refine kZ (fun hc=>?_) fun hc=>?_|fail)
      have hcd : cd l i = fs l (n + 1) + cn (l.take i) (n + 1) := by
        have hg : l.getD i 0 = n + 1 := by simp [List.getD, hi1]
        unfold cd; rw [hg, if_neg (by omega)]
      have hxc : x = cn (l.take i) (n + 1) := by omega
      have hcell' : cc[x * 1]? = some (.int .i64 (i : Int)) := by rw [Nat.mul_one, hxc]; exact hcell
      have hsy := symAt_some hi1 (by omega)
      rw [hi2] at hsy
      rw [hsy] at hlast
      refine OW_holds (L' := [(p, cl (Fv ++ (vs ++ [.int .i64 (kS l : Int)])) 77)] :: Cs.flatten :: D2 :: E :: L) (fun w h => iH h) ?_
      refine OW_EV (EV_indexAddr0 (j := x) rfl rfl rfl (by omega)) rfl ?_
      (repeat' first|refine kW ?_|refine kU fun bk=>?_|refine kV fun hc=>?_|refine kZ (fun hc=>?_) fun hc=>?_|fail)
      refine OW_EV (EV_load rfl hfn hcell') rfl ?_
      (repeat' first|refine kW ?_|refine kU fun bk=>?_|refine kV fun hc=>?_|refine kZ (fun hc=>?_) fun hc=>?_|fail)
      first | refine WQ_retH rfl rfl ?_ | refine WQ_endH rfl rfl ?_
      rw [hlast]
      exact ⟨_, fun w h => Holds.split.2 h, D2, rfl, hr2, rfl⟩
    · have hs : symAt l (n + 1) (hv w t (n + 1)) = none := symAt_none (.inr (by omega))
      rw [hs] at hlast
      refine WQ_round (X := Nat × Chunk) (μ := fun x => 16 - x.1) (x := (n, D1)) (n + 1, D2) (by simp only; omega) ⟨by simp only; omega, hr2, ?_, hlast, hs⟩ iS (fun w h => iH h)
      simp only
      rw [if_neg (by omega)]
      omega
  · have hn15 : n = 15 := by omega
    subst hn15
    have hno : extB l 15 (hv w t 15) = false := by
      cases he : extB l 15 (hv w t 15) with
      | false => rfl
      | true =>
        obtain ⟨i, m, h1, h2, _⟩ := extB_iff.1 he
        have := h15 m (List.mem_of_getElem? h1)
        omega
    rw [if_pos hno] at hat
    exact hend 3 15 _ _ hat hx2 rfl rfl
end Go.Proofs.Ytbdpjbmfhnbheaa
namespace Go.Proofs.Ytbdpjbmfhnbheaa
open Go Go.Vx Go.Hf
variable [W0]
set_option maxRecDepth 4000
set_option linter.all false
theorem aw1 : cdE [2, 1, 3, 3] = 0 := by decide
theorem aw2 : cdL [2, 1, 3, 3] = [2, 0, 6, 7] := by decide
theorem aw3 : cdE [1, 1, 1] = 3 := by decide
theorem aw4 : wgt [1, 1] = 32768 := by decide
theorem sm3 (a b c : Nat) : ∀ i, [a, b, c].getD i 0 ≤ a + b + c := by
  intro i
  match i with
  | 0 => simp; omega
  | 1 => simp; omega
  | 2 => simp
  | n + 3 => simp
set_option maxHeartbeats 4000000 in
theorem hawake_n (L : List Chunk) : GvP Try.prog 10 [].toArray L (.bool true) := by
  refine Gv.of_body Try.func10 rfl rfl ?_
  (repeat' first|refine kW ?_|refine kU fun bk=>?_|refine kV fun hc=>?_|refine kZ (fun hc=>?_) fun hc=>?_|fail)
  refine OW_buildSlice (cs := intsN [2, 1, 3, 3]) rfl (by rfl) (by simp [fillL, patch, Value.cells, zeros]; rfl) (by omega) rfl rfl (fun b1 => ?_)
  (repeat' first|refine kW ?_|refine kU fun bk=>?_|refine kV fun hc=>?_|refine kZ (fun hc=>?_) fun hc=>?_|fail)
  refine OW_call rfl rfl rfl (hcodes_n (some ⟨b1, 0, none⟩) 4 [2, 1, 3, 3] _ (sl_cells (c := (intsN [2, 1, 3, 3]).toArray) (xs := intsN [2, 1, 3, 3]) (m := 4) Fnd.here rfl (by simp)) (by decide)) rfl (fun r L' hp => ?_)
  obtain ⟨u1, C1, rfl, rfl, ho1⟩ := hp
  rw [aw2, show [2, 0, 6, 7].length = 4 from rfl] at ho1
  rw [show ((cdE [2, 1, 3, 3] : Nat) : Int) = 0 from by rw [aw1]; rfl]
  (repeat' first|refine kW ?_|refine kU fun bk=>?_|refine kV fun hc=>?_|refine kZ (fun hc=>?_) fun hc=>?_|fail)
  refine OW_buildSlice (cs := intsN [1, 1, 1]) rfl (by rfl) (by simp [fillL, patch, Value.cells, zeros]; rfl) (by omega) rfl rfl (fun b2 => ?_)
  (repeat' first|refine kW ?_|refine kU fun bk=>?_|refine kV fun hc=>?_|refine kZ (fun hc=>?_) fun hc=>?_|fail)
  refine OW_call rfl rfl rfl (hcodes_n (some ⟨b2, 0, none⟩) 3 [1, 1, 1] _ (sl_cells (c := (intsN [1, 1, 1]).toArray) (xs := intsN [1, 1, 1]) (m := 3) Fnd.here rfl (by simp)) (by decide)) rfl (fun r L' hp => ?_)
  obtain ⟨u2, C2, rfl, rfl, ho2⟩ := hp
  rw [show ((cdE [1, 1, 1] : Nat) : Int) = 3 from by rw [aw3]; rfl]
  rcases ho1 with ⟨_, h, _⟩ | ⟨b, cap, rest, rfl, rfl, hxl, hrl, _⟩
  · exact absurd h (by decide)
  (repeat' first|refine kX ?_|refine kU fun bk=>?_|refine kV fun hc=>?_|refine kZ (fun hc=>?_) fun hc=>?_|fail)
  refine OW_buildSlice (cs := intsN [1, 1]) rfl (by rfl) (by simp [fillL, patch, Value.cells, zeros]; rfl) (by omega) rfl rfl (fun b3 => ?_)
  (repeat' first|refine kX ?_|refine kU fun bk=>?_|refine kV fun hc=>?_|refine kZ (fun hc=>?_) fun hc=>?_|fail)
  refine OW_callP rfl rfl rfl (hcomplete_n (some ⟨b3, 0, none⟩) 2 [1, 1] _ (sl_cells (c := (intsN [1, 1]).toArray) (xs := intsN [1, 1]) (m := 2) Fnd.here rfl (by simp)) (by decide)) rfl ?_
  rw [aw4]
  (repeat' first|refine kX ?_|refine kU fun bk=>?_|refine kV fun hc=>?_|refine kZ (fun hc=>?_) fun hc=>?_|fail)
  refine OW_buildSlice (cs := intsN (icn [5, 1, 1])) rfl (by rfl) (by simp [fillL, patch, Value.cells, zeros]; rfl) (by omega) rfl rfl (fun b4 => ?_)
  (repeat' first|refine kX ?_|refine kU fun bk=>?_|refine kV fun hc=>?_|refine kZ (fun hc=>?_) fun hc=>?_|fail)
  refine OW_buildSlice (cs := intsN (icn [1, 2, 2])) rfl (by rfl) (by simp [fillL, patch, Value.cells, zeros]; rfl) (by omega) rfl rfl (fun b5 => ?_)
  (repeat' first|refine kX ?_|refine kU fun bk=>?_|refine kV fun hc=>?_|refine kZ (fun hc=>?_) fun hc=>?_|fail)
  refine OW_callP rfl rfl rfl (hcost_n (some ⟨b4, 0, none⟩) (some ⟨b5, 0, none⟩) 3 3 [5, 1, 1] [1, 2, 2] _ (sl_cells (c := (intsN (icn [5, 1, 1])).toArray) (xs := intsN (icn [5, 1, 1])) (m := 3) (Fnd.there Fnd.here) rfl (by simp)) (sl_cells (c := (intsN (icn [1, 2, 2])).toArray) (xs := intsN (icn [1, 2, 2])) (m := 3) Fnd.here rfl (by simp)) (by decide) (fun i => Nat.le_trans (sm3 5 1 1 i) (by decide)) (fun i => Nat.le_trans (sm3 1 2 2 i) (by decide))) rfl ?_
  rw [show ((costN [5, 1, 1] [1, 2, 2] (min [5, 1, 1].length [1, 2, 2].length) : Nat) : Int) = 9 from by decide]
  (repeat' first|refine kX ?_|refine kU fun bk=>?_|refine kV fun hc=>?_|refine kZ (fun hc=>?_) fun hc=>?_|fail)
  exact kE
end Go.Proofs.Ytbdpjbmfhnbheaa
namespace Go.Proofs.Ytbdpjbmfhnbheaa
open Go Go.Vx Go.So Go.Hf
variable [W0]
set_option maxRecDepth 4000
set_option linter.all false
theorem cds_getD {l : List Nat} {s : Nat} (h : s < l.length) : (cds l).getD s 0 = cd l s := by simp [cds, List.getD, List.getElem?_range h]
set_option maxHeartbeats 16000000 in
theorem backL_n (a a1 : Option Addr) (c c1 : Nat) (ls ts : List Int) (L : List Chunk) (h : Sl L 1 (.slice a ls.length c) ls.length (intsN ls)) (hl : ls.length ≤ 17592186044416) (ht : Sl L 1 (.slice a1 ts.length c1) ts.length (intsN ts)) (htl : ts.length ≤ 17592186044416) :
    GvP Try.prog 8 [.slice a ls.length c, .slice a1 ts.length c1].toArray L (.bool true) := by
  refine Gv.of_body Try.func8 rfl rfl ?_
  (repeat' first|refine kW ?_|refine kU fun bk=>?_|refine kV fun hc=>?_|refine kZ (fun hc=>?_) fun hc=>?_|fail)
  · refine OW_callP rfl rfl rfl (hawake_n _) rfl ?_
    (repeat' first|refine kW ?_|refine kU fun bk=>?_|refine kV fun hc=>?_|refine kZ (fun hc=>?_) fun hc=>?_|fail)
    refine kR ?_
    exact ⟨L, iC, rfl, rfl⟩
  refine OW_call rfl rfl rfl (lengths_n a c ls 15 L h hl) rfl (fun r L' hp => ?_)
  rcases hp with ⟨he, rfl, rfl⟩ | ⟨hne, lens, v, C, rfl, rfl, ho, hlo⟩
  · (repeat' first|refine kW ?_|refine kU fun bk=>?_|refine kV fun hc=>?_|refine kZ (fun hc=>?_) fun hc=>?_|fail)
    refine OW_callP rfl rfl rfl (hawake_n _) rfl ?_
    (repeat' first|refine kW ?_|refine kU fun bk=>?_|refine kV fun hc=>?_|refine kZ (fun hc=>?_) fun hc=>?_|fail)
    refine kR ?_
    exact ⟨L', iC, rfl, rfl⟩
  have hlo : LenOf (nl ls) 15 lens := hlo
  obtain ⟨va, vc, rfl⟩ := ow_slc ho
  obtain ⟨n, hn⟩ : ∃ n, n = ls.length := ⟨_, rfl⟩
  have hlen : lens.length = n := by rw [hlo.len, nl_length, hn]
  have hk := hlo.fits
  have h15 : ∀ i, lens.getD i 0 ≤ 15 := hlo.le
  have h15m : ∀ x ∈ lens, x ≤ 15 := by
    intro x hx
    obtain ⟨j, hj, rfl⟩ := List.getElem_of_mem hx
    have := h15 j
    have e3 : lens.getD j 0 = lens[j] := by simp [List.getD, hj]
    omega
  have hnl : nl (icn lens) = lens := by simp [nl, icn, Function.comp_def]
  have hil : (icn lens).length = n := by rw [icn_length, hlen]
  have he0 : cdE (icn lens) = 0 := by
    have e2 : okL (icn lens) = true := by
      refine List.all_eq_true.2 fun x hx => ?_
      obtain ⟨y, hy, rfl⟩ := List.mem_map.1 hx
      have h3 := h15m y hy
      simp only [Bool.and_eq_true, decide_eq_true_eq]
      omega
    unfold cdE
    rw [if_neg (by rw [e2]; simp; omega), hnl, if_neg (by omega)]
  have hcl : cdL (icn lens) = cds lens := by unfold cdL; rw [if_pos he0, hnl]
  have hcll : (cds lens).length = n := by simp [cds, hlen]
  rw [← hn] at ho h
  have hsl : Sl (C :: L) 1 (.slice va n vc) n (intsN (icn lens)) := by
    have h1 := ow_sl (L := L) ho
    have e : intsN (icn lens) = ivn lens := by simp [intsN, icn, ivn]
    rw [e]; exact h1
  have hcod := hcodes_n va vc (icn lens) (C :: L) (by rw [hil]; exact hsl) (by omega)
  have hnew := fun Cc => hnew_n va vc (icn lens) (Cc :: C :: L) (by rw [hil]; exact sl_there hsl) (by omega)
  rw [hil, he0, hcl, hcll] at hcod
  rw [hil, he0, hnl] at hnew
  rw [← hn]
  (repeat' first|refine kW ?_|refine kU fun bk=>?_|refine kV fun hc=>?_|refine kZ (fun hc=>?_) fun hc=>?_|fail)
  refine OW_call rfl rfl rfl hcod rfl (fun r L' hp => ?_)
  obtain ⟨u, Cc, rfl, rfl, hoc⟩ := hp
  obtain ⟨ua, uc, rfl⟩ := ow_slc hoc
  (repeat' first|refine kW ?_|refine kU fun bk=>?_|refine kV fun hc=>?_|refine kZ (fun hc=>?_) fun hc=>?_|fail)
  refine OW_call rfl rfl rfl (hnew Cc) rfl (fun r L' hp => ?_)
  rcases hp with ⟨hx, _⟩ | ⟨_, p, Cx, rfl, rfl, hCx⟩
  · exact absurd rfl hx
  ((repeat' first|refine kW ?_|refine kU fun bk=>?_|refine kV fun hc=>?_|refine kZ (fun hc=>?_) fun hc=>?_|fail) <;> try exact absurd trivial hc)
  obtain ⟨pw, hpw⟩ : ∃ pw, pw = bk := ⟨_, rfl⟩
  rw [← hpw]
  clear hpw
  refine WC_loop (X := Nat × List Nat × Nat × Value × Chunk × Chunk × Chunk) (fun x => [(0, .slice a n c), (1, .slice a1 ts.length c1), (5, .slice va n vc), (7, .slice ua n uc), (9, .pointer (some ⟨p, 0, none⟩)), (11, .pointer (some ⟨pw, 0, none⟩)), (12, x.2.2.2.1), (13, .int .i64 (x.1 : Int))])
    (fun x => x.2.2.2.2.2.1 :: x.2.2.2.2.2.2 :: x.2.2.2.2.1 :: Cx :: Cc :: C :: L)
    (fun x => x.1 ≤ ts.length ∧ x.1 ≤ 100 ∧ x.2.1.length ≤ x.1 ∧ WrD pw x.2.2.1 (bT lens x.2.1) x.2.2.2.2.2.1 x.2.2.2.2.2.2 ∧ Ow 3 1 x.2.2.2.1 x.2.1.length (ivn x.2.1) x.2.2.2.2.1 ∧ Wrt lens x.2.1 x.2.2.1) (fun x => ts.length - x.1)
    (0, [], 0, .slice none 0 0, [], _, []) ⟨Nat.zero_le _, Nat.zero_le _, Nat.le_refl _, WrD.new pw, .inl ⟨rfl, rfl, rfl, rfl⟩, Wrt.nil _⟩ iS (fun w h => Holds.gap.2 (Holds.gap.2 h)) ?_
  rintro ⟨i, S, V, v, P, D, E⟩ ⟨hi, hi100, hSi, hW, hP, hWr⟩
  simp only at hi hi100 hSi hW hP hWr ⊢
  have hT := bT_bound lens h15 S
  (repeat' first|refine kW ?_|refine kU fun bk=>?_|refine kV fun hc=>?_|refine kZ (fun hc=>?_) fun hc=>?_|fail)
  · have hlt : i < ts.length := by omega
    obtain ⟨b, off, cap, cc, T, fr, hve, hfn, hcell⟩ := sl_at ht (ints_get hlt)
    injection hve with q1 q2 q3
    subst q1 q3
    clear q2
    have hfT : Fnd (D :: E :: P :: Cx :: Cc :: C :: L) b (.cells cc T fr) := hfn.there.there.there.there.there.there
    obtain ⟨x, hx⟩ : ∃ x, x = ts.getD i 0 := ⟨_, rfl⟩
    rw [← hx] at hcell
    by_cases hx0 : 0 ≤ x ∧ x < (n : Int)
    · obtain ⟨s, rfl⟩ : ∃ s : Nat, x = (s : Int) := ⟨x.toNat, by omega⟩
      have hs : s < n := by omega
      obtain ⟨b1, c1', r1, hv1, hC1, hg1⟩ := ow_int ho hs
      injection hv1 with e1 e2 e3
      subst e1 e3 hC1
      clear e2
      obtain ⟨b2, c2, r2, hv2, hC2, hg2⟩ := ow_word hoc hs
      injection hv2 with e1 e2 e3
      subst e1 e3 hC2
      clear e2
      rw [cds_getD (by omega)] at hg2
      have hsn := hWr.snoc (s := s) hk h15 (by omega)
      have h15s := h15 s
      have hfit := cd_fit (l := lens) hk h15 (s := s) (by omega)
      have hpw := Nat.pow_le_pow_right (n := 2) (by decide) h15s
      have hap := bT_app lens S s
      obtain ⟨q, hq⟩ : ∃ q, q = lens.getD s 0 := ⟨_, rfl⟩
      rw [← hq] at hg1 hsn h15s hfit hpw hap
      refine OW_EV (EV_indexAddr (j := i) rfl rfl rfl hlt) rfl ?_
      (repeat' first|refine kW ?_|refine kU fun bk=>?_|refine kV fun hc=>?_|refine kZ (fun hc=>?_) fun hc=>?_|fail)
      refine OW_EV (EV_load rfl hfT hcell) rfl ?_
      (repeat' first|refine kW ?_|refine kU fun bk=>?_|refine kV fun hc=>?_|refine kZ (fun hc=>?_) fun hc=>?_|fail)
      refine OW_EV (EV_indexAddr (j := i) rfl rfl rfl hlt) rfl ?_
      (repeat' first|refine kW ?_|refine kU fun bk=>?_|refine kV fun hc=>?_|refine kZ (fun hc=>?_) fun hc=>?_|fail)
      refine OW_EV (EV_load rfl hfT hcell) rfl ?_
      (repeat' first|refine kW ?_|refine kU fun bk=>?_|refine kV fun hc=>?_|refine kZ (fun hc=>?_) fun hc=>?_|fail)
      refine OW_EV (EV_indexAddr (j := i) rfl rfl rfl hlt) rfl ?_
      (repeat' first|refine kW ?_|refine kU fun bk=>?_|refine kV fun hc=>?_|refine kZ (fun hc=>?_) fun hc=>?_|fail)
      refine OW_EV (EV_load rfl hfT hcell) rfl ?_
      (repeat' first|refine kW ?_|refine kU fun bk=>?_|refine kV fun hc=>?_|refine kZ (fun hc=>?_) fun hc=>?_|fail)
      refine OW_EV (EV_indexAddr0 (j := s) (len := n) rfl rfl rfl hs) rfl ?_
      (repeat' first|refine kW ?_|refine kU fun bk=>?_|refine kV fun hc=>?_|refine kZ (fun hc=>?_) fun hc=>?_|fail)
      refine OW_EV (EV_load rfl (by exact Fnd.there (Fnd.there (Fnd.there (Fnd.there (Fnd.there Fnd.here))))) hg1) rfl ?_
      (repeat' first|refine kW ?_|refine kU fun bk=>?_|refine kV fun hc=>?_|refine kZ (fun hc=>?_) fun hc=>?_|fail)
      · have hq0 : 0 < q := by omega
        have hcd := code_n pw V (bT lens S) (cd lens s) (q : Int) D E (P :: Cx :: [(b2, cl (wnv (cds lens) ++ r2) 38)] :: [(b1, cl (ivn lens ++ r1) 3)] :: L) hW (Nat.lt_trans (hfit hq0) (Nat.lt_of_le_of_lt hpw (by decide))) (by omega)
        rw [clp_nat (by omega)] at hcd
        refine WC_drawAll [14] mixed ?_
        (refine WR_t 0 ?_; refine WR_t 1 ?_; refine WR_t 2 ?_)
        (refine WR_take 3 rfl rfl (by kernel_rfl) iP iC (EV_indexAddr (j := i) rfl rfl rfl hlt) (by rfl) ?_)
        (refine WR_take 4 rfl rfl (by kernel_rfl) iP iC (EV_load rfl hfT hcell) (by rfl) ?_)
        (refine WR_take 5 rfl rfl (by kernel_rfl) iP iC (EV_indexAddr0 (j := s) (len := n) rfl rfl rfl hs) (by rfl) ?_)
        (refine WR_take 6 rfl rfl (by kernel_rfl) iP iC (EV_load rfl (by exact Fnd.there (Fnd.there (Fnd.there (Fnd.there Fnd.here)))) hg2) (by rfl) ?_)
        (refine WR_t 7 ?_; refine WR_t 8 ?_; refine WR_t 9 ?_)
        (refine WR_take 10 rfl rfl (by kernel_rfl) iP iC (EV_indexAddr (j := i) rfl rfl rfl hlt) (by rfl) ?_)
        (refine WR_take 11 rfl rfl (by kernel_rfl) iP iC (EV_load rfl hfT hcell) (by rfl) ?_)
        (refine WR_take 12 rfl rfl (by kernel_rfl) iP iC (EV_indexAddr0 (j := s) (len := n) rfl rfl rfl hs) (by rfl) ?_)
        (refine WR_take 13 rfl rfl (by kernel_rfl) iP iC (EV_load rfl (by exact Fnd.there (Fnd.there (Fnd.there (Fnd.there (Fnd.there Fnd.here))))) hg1) (by rfl) ?_)
        (refine WR_last 14 (by kernel_rfl) rfl rfl rfl ?_)
        refine OW_call rfl rfl rfl hcd rfl (fun r L' hp => ?_)
        obtain ⟨rfl, D', E', hW', rfl⟩ := hp
        (refine WR_done (by kernel_rfl) ?_)
        have hfT' : Fnd (D' :: E' :: P :: Cx :: [(b2, cl (wnv (cds lens) ++ r2) 38)] :: [(b1, cl (ivn lens ++ r1) 3)] :: L) b (.cells cc T fr) := hfn.there.there.there.there.there.there
        (repeat' first|refine kW ?_|refine kU fun bk=>?_|refine kV fun hc=>?_|refine kZ (fun hc=>?_) fun hc=>?_|fail)
        refine OW_EV (EV_indexAddr (j := i) rfl rfl rfl hlt) rfl ?_
        (repeat' first|refine kW ?_|refine kU fun bk=>?_|refine kV fun hc=>?_|refine kZ (fun hc=>?_) fun hc=>?_|fail)
        refine OW_EV (EV_load rfl hfT' hcell) rfl ?_
        (repeat' first|refine kW ?_|refine kU fun bk=>?_|refine kV fun hc=>?_|refine kZ (fun hc=>?_) fun hc=>?_|fail)
        refine OW_buildSlice (cs := [.int .i64 (s : Int)]) rfl (by rfl) (by first | (simp [fillL, patch, Value.cells, zeros]; done) | (simp [fillL, patch, Value.cells, zeros]; rfl)) (by omega) rfl rfl (fun bn => ?_)
        (repeat' first|refine kW ?_|refine kU fun bk=>?_|refine kV fun hc=>?_|refine kZ (fun hc=>?_) fun hc=>?_|fail)
        refine OW_append rfl rfl hP (sl_cells (k := 1) (c := #[.int .i64 (s : Int)]) (xs := [.int .i64 (s : Int)]) (m := 1) Fnd.here rfl (by simp)) (by repeat (first | exact Zip.here _ | apply Zip.there)) rfl (by rfl) (by omega) (by simp [maxLen]; omega) rfl (fun v' P' hP' _ _ => ?_)
        (repeat' first|refine kW ?_|refine kU fun bk=>?_|refine kV fun hc=>?_|refine kZ (fun hc=>?_) fun hc=>?_|fail)
        refine WQ_round (X := Nat × List Nat × Nat × Value × Chunk × Chunk × Chunk) (μ := fun x => ts.length - x.1) (x := (i, S, V, v, P, D, E)) (i + 1, S ++ [s], V + 2 ^ bT lens S * mir (cd lens s) q, v', P', D', E') (by simp only; omega) ⟨by simp only; omega, by simp only; omega, by simp only [List.length_append, List.length_singleton]; omega, hW'.cast hap.symm, ?_, hsn hq0⟩ iS (fun w h => iH h)
        simp only [List.length_append, List.length_singleton]
        rw [show ivn (S ++ [s]) = ivn S ++ [Value.int .i64 (s : Int)] from by simp [ivn]]
        exact hP'
      · refine WQ_round (X := Nat × List Nat × Nat × Value × Chunk × Chunk × Chunk) (μ := fun x => ts.length - x.1) (x := (i, S, V, v, P, D, E)) (i + 1, S, V, v, P, D, E) (by simp only; omega) ⟨by simp only; omega, by simp only; omega, by simp only; omega, hW, hP, hWr⟩ iS (fun w h => h)
    · refine OW_EV (EV_indexAddr (j := i) rfl rfl rfl hlt) rfl ?_
      (repeat' first|refine kW ?_|refine kU fun bk=>?_|refine kV fun hc=>?_|refine kZ (fun hc=>?_) fun hc=>?_|fail)
      refine OW_EV (EV_load rfl hfT hcell) rfl ?_
      (repeat' first|refine kW ?_|refine kU fun bk=>?_|refine kV fun hc=>?_|refine kZ (fun hc=>?_) fun hc=>?_|fail)
      · refine OW_EV (EV_indexAddr (j := i) rfl rfl rfl hlt) rfl ?_
        (repeat' first|refine kW ?_|refine kU fun bk=>?_|refine kV fun hc=>?_|refine kZ (fun hc=>?_) fun hc=>?_|fail)
        refine OW_EV (EV_load rfl hfT hcell) rfl ?_
        (repeat' first|refine kW ?_|refine kU fun bk=>?_|refine kV fun hc=>?_|refine kZ (fun hc=>?_) fun hc=>?_|fail)
        refine WQ_round (X := Nat × List Nat × Nat × Value × Chunk × Chunk × Chunk) (μ := fun x => ts.length - x.1) (x := (i, S, V, v, P, D, E)) (i + 1, S, V, v, P, D, E) (by simp only; omega) ⟨by simp only; omega, by simp only; omega, by simp only; omega, hW, hP, hWr⟩ iS (fun w h => h)
      · refine WQ_round (X := Nat × List Nat × Nat × Value × Chunk × Chunk × Chunk) (μ := fun x => ts.length - x.1) (x := (i, S, V, v, P, D, E)) (i + 1, S, V, v, P, D, E) (by simp only; omega) ⟨by simp only; omega, by simp only; omega, by simp only; omega, hW, hP, hWr⟩ iS (fun w h => h)
  all_goals
    obtain ⟨pa, pc, rfl⟩ := ow_slc hP
    obtain ⟨T, hTe⟩ : ∃ T, T = bT lens S := ⟨_, rfl⟩
    have hlt := hWr.lt
    have hin := hWr.in_
    have hrd := hWr.rd
    have hble := bT_le lens S
    rw [← hTe] at hW hT hlt hble
    refine OW_call rfl rfl rfl (wbytes_n pw V T D E (P :: Cx :: Cc :: C :: L) hW (by omega)) rfl (fun r L' hp => ?_)
    obtain ⟨B, rfl, hB⟩ := hp
    obtain ⟨ba, bc, rfl⟩ := ow_slc hB
    have hbl : (leB V ((T + 7) / 8)).length = (T + 7) / 8 := leB_length _ _
    have hval : val (leB V ((T + 7) / 8)) = V := by
      rw [val_leB]
      exact Nat.mod_eq_of_lt (Nat.lt_of_lt_of_le hlt (Nat.pow_le_pow_right (by decide) (by omega)))
    obtain ⟨bts, hbts⟩ : ∃ bts, bts = leB V ((T + 7) / 8) := ⟨_, rfl⟩
    rw [← hbts] at hB hbl hval
    (repeat' first|refine kW ?_|refine kU fun bk=>?_|refine kV fun hc=>?_|refine kZ (fun hc=>?_) fun hc=>?_|fail)
    have hrn := read_n bts (.slice ba ((T + 7) / 8) bc) (B :: D :: E :: P :: Cx :: Cc :: C :: L) (by rw [hbl]; exact ow_sl hB) (by omega)
    refine OW_call rfl rfl rfl hrn rfl (fun r L' hp => ?_)
    obtain ⟨q, D2, E2, rfl, hR, rfl⟩ := hp
    (repeat' first|refine kW ?_|refine kU fun bk=>?_|refine kV fun hc=>?_|refine kZ (fun hc=>?_) fun hc=>?_|fail)
    refine WC_loop (X := Nat × Chunk) (fun x => [(9, .pointer (some ⟨p, 0, none⟩)), (12, .slice pa S.length pc), (14, .pointer (some ⟨q, 0, none⟩)), (15, .int .i64 (x.1 : Int))])
      (fun x => Cx :: x.2 :: E2 :: P :: B :: D :: E :: Cc :: C :: L) (fun x => x.1 ≤ S.length ∧ RdN q bts (bT lens (S.take x.1)) x.2 E2) (fun x => S.length - x.1) (0, D2) ⟨Nat.zero_le _, hR⟩ iS (fun w h => iH h) ?_
    rintro ⟨j, D3⟩ ⟨hj, hR3⟩
    simp only at hj hR3 ⊢
    (repeat' first|refine kW ?_|refine kU fun bk=>?_|refine kV fun hc=>?_|refine kZ (fun hc=>?_) fun hc=>?_|fail)
    · have hjl : j < S.length := by omega
      have hbt := bT_take lens S hjl
      have hble1 := hble (j + 1)
      have hsm : S.getD j 0 ∈ S := by simp [List.getD, hjl]
      obtain ⟨hs1, hs2⟩ := hin _ hsm
      have hhv := hrd j hjl
      have hr := hread_n p q (bT lens (S.take j)) lens bts Cx D3 E2 (P :: B :: D :: E :: Cc :: C :: L) hCx hk h15m (by omega) hR3 (by omega)
      have hh15 := h15 (S.getD j 0)
      obtain ⟨s, hs⟩ : ∃ s, s = S.getD j 0 := ⟨_, rfl⟩
      obtain ⟨b3, c3, r3, hv3, hC3, hg3⟩ := ow_int hP hjl
      rw [← hs] at hs1 hs2 hhv hbt hg3 hh15
      have hhit := rd_hit (l := lens) (i := s) (n := lens.getD s 0) (w := val bts) (t := bT lens (S.take j)) (z := 8 * bts.length) (by simp [List.getD, hs1]) hs2 hh15 (by rw [hval]; exact hhv) (by omega)
      rw [hhit, ← hbt] at hr
      injection hv3 with e1 e2 e3
      subst e1 e3 hC3
      clear e2
      refine OW_call rfl rfl rfl hr rfl (fun r L' hp => ?_)
      obtain ⟨D4, rfl, hR4, rfl⟩ := hp
      (repeat' first|refine kW ?_|refine kU fun bk=>?_|refine kV fun hc=>?_|refine kZ (fun hc=>?_) fun hc=>?_|fail)
      refine OW_EV (EV_indexAddr0 (j := j) (len := S.length) rfl rfl rfl hjl) rfl ?_
      (repeat' first|refine kW ?_|refine kU fun bk=>?_|refine kV fun hc=>?_|refine kZ (fun hc=>?_) fun hc=>?_|fail)
      refine OW_EV (EV_load rfl (by exact Fnd.there (Fnd.there (Fnd.there Fnd.here))) hg3) rfl ?_
      (repeat' first|refine kW ?_|refine kU fun bk=>?_|refine kV fun hc=>?_|refine kZ (fun hc=>?_) fun hc=>?_|fail)
      refine WQ_round (X := Nat × Chunk) (μ := fun x => S.length - x.1) (x := (j, D3)) (j + 1, D4) (by simp only; omega) ⟨by simp only; omega, hR4⟩ iS (fun w h => h)
    · refine OW_callP rfl rfl rfl (hawake_n _) rfl ?_
      (repeat' first|refine kW ?_|refine kU fun bk=>?_|refine kV fun hc=>?_|refine kZ (fun hc=>?_) fun hc=>?_|fail)
      refine kR ?_
      exact ⟨L, iC, rfl, rfl⟩
end Go.Proofs.Ytbdpjbmfhnbheaa
namespace Go.Proofs.Ytbdpjbmfhnbheaa
open Go Go.Vx Go.ChangeShapes Go.WideShapes Go.ChangeAt Go.RowKit
set_option maxRecDepth 4000
set_option linter.all false
def blks (W : World) : Chunk := W.heap.toList.zipIdx.map fun x => (x.2, x.1)
theorem blks_mem {W : World} {b : Nat} {o : Obj} : (b, o) ∈ blks W ↔ W.heap[b]? = some o := by
  unfold blks
  rw [List.mem_map]
  constructor
  · rintro ⟨⟨x, i⟩, hm, he⟩
    simp at he
    obtain ⟨rfl, rfl⟩ := he
    have := List.mk_mem_zipIdx_iff_getElem?.1 hm
    simpa using this
  · intro h
    exact ⟨(o, b), List.mk_mem_zipIdx_iff_getElem?.2 (by simpa using h), rfl⟩
theorem blks_keys (W : World) : ((blks W).map Prod.fst).Nodup := by
  have : (blks W).map Prod.fst = List.range' 0 W.heap.toList.length := by
    unfold blks
    rw [List.map_map]
    exact List.zipIdx_map_snd 0 _
  rw [this]
  exact List.nodup_range'
structure Kept (W W' : World) : Prop where
  os : W'.os = W.os
  output : W'.output = W.output
  block : ∀ k, k < W.heap.size → W'.heap[k]? = W.heap[k]?
theorem bridge {P : Program} {f : FuncId} {args : Array Value} {W : World} {v : Value} (h : ∀ [W0], GvP P f args [blks W] v) : Calls P f args W fun e W' => e = .returned v ∧ Kept W W' := by
  letI i : W0 := ⟨W.os, W.output⟩
  have h0 : GvP P f args [blks W] v := h
  have hH : Holds W [blks W] := ⟨by simpa using blks_keys W, fun x hx => blks_mem.1 (by simpa using hx), rfl, rfl⟩
  refine (h0.out W hH).mono fun e W' he => ?_
  obtain ⟨v', L', rfl, ⟨rfl, rfl⟩, hw⟩ := he
  refine ⟨rfl, hw.2.2.1, hw.2.2.2, fun k hk => ?_⟩
  have hm : W.heap[k]? = some W.heap[k] := by simp [hk]
  rw [hm]
  exact hw.2.1 (k, W.heap[k]) (by simpa using blks_mem.2 hm)
theorem Kept.frame {W W' : World} (h : Kept W W') (may : MemPlace → Prop) : W.keptBut W' may := by
  refine ⟨h.os, h.output, fun i hi => ?_⟩
  rw [h.block i hi]
  split <;> simp_all
theorem Kept.same {W W' : World} (h : Kept W W') {p : MemPlace} (hp : p.block < W.heap.size) : W.sameAt W' p := by
  cases p with
  | cell b o => exact World.cell?_of_block (w := W) (h.block b hp)
  | map b => exact h.block b hp
theorem Kept.trod {H : Type} {enc : TypeId × Value → H} {P : Program} {t : TypeId} (hl : laidOutB P = true) (hr : P.readableRec t = true) (hrow : t < P.types.size) {W W' : World} {v : Value} {d : DataW H} {ps : List MemPlace}
    (h : DataW.Trod enc P W 0 (fun _ => true) true t v d ps) (hb : Kept W W') (hlt : ∀ x ∈ ps, x.block < W.heap.size) :
    DataW.Trod enc P W' 0 (fun b => decide (b < W.heap.size)) true t v d ps :=
  WideElems.Trod_stays hl hr hrow h (fun x hx => hb.same (hlt x hx)) (fun x hx => by simpa using hlt x hx)
theorem bulk_lits {H : Type} (k : IntKind) : ∀ xs : List Int, Rows.uptoBulkAll (H := H) (lits k xs) = xs.length
  | [] => rfl
  | x :: r => by
    have := bulk_lits (H := H) k r
    simp only [lits, List.map_cons, Rows.uptoBulkAll, Rows.uptoBulk, List.length_cons] at *
    omega
theorem open_row {H : Type} {enc : TypeId × Value → H} {P : Program} {W : World} {t e : TypeId} {k : IntKind} {a : Option Addr} {len cap : Nat} {d : DataW H} {ps : List MemPlace} (ht : P.underlying t = some (.slice e)) (he : P.underlying e = some (.int k)) (hc : P.cellsOf e = 1)
    (h : DataW.Trod enc P W 0 (fun _ => true) true t (.slice a len cap) d ps) :
    ∃ xs : List Int, xs.length = len ∧ (∀ n ∈ xs, (Lit.int k n).wf = true) ∧ Sl [blks W] 1 (.slice a len cap) len (xs.map (Value.int k)) ∧ len ≤ Rows.uptoBulk d := by
  letI : W0 := ⟨W.os, W.output⟩
  obtain ⟨fuel, hf⟩ := h
  rcases open_ints ht he hc hf with ⟨hcs, _⟩ | ⟨x, l, c, zs, hcs, _, hl, hm, hz, hx, hcell, hwz⟩
  · simp [Value.cells] at hcs
    obtain ⟨rfl, rfl, rfl⟩ := hcs
    exact ⟨[], rfl, fun n h => by simp at h, .inl ⟨0, rfl, rfl, rfl⟩, Nat.zero_le _⟩
  · simp [Value.cells] at hcs
    obtain ⟨rfl, rfl, rfl⟩ := hcs
    have hzl : zs.length = cap := by simpa using hz
    have hd : d = .slice (lits k (zs.take len)) (lits k (zs.drop len)) := by injection hx
    refine ⟨zs.take len, by simp; omega, fun n hn => hwz n (List.mem_of_mem_take hn), ?_, ?_⟩
    · refine .inr ⟨x, cap, rfl, ?_, by simp; omega⟩
      rcases Nat.eq_zero_or_pos len with h0 | h0
      · subst h0; exact .inl (by simp)
      · have hc0 := hcell 0 (by omega)
        obtain ⟨b, off, spot⟩ := x
        have hspot : spot = none := by simpa [Addr.add] using World.cell?_spot hc0
        subst hspot
        have hblk : ∃ C T fr, W.heap[b]? = some (.cells C T fr) := by
          have : (⟨b, off, none⟩ : Addr).add 0 = ⟨b, off, none⟩ := by simp [Addr.add]
          rw [this] at hc0
          unfold World.cell? at hc0
          split at hc0
          · rename_i C T fr hb; exact ⟨C, T, fr, hb⟩
          · cases hc0
        obtain ⟨C, T, fr, hb⟩ := hblk
        refine .inr ⟨b, off, C, T, fr, rfl, by simpa [Fnd] using blks_mem.2 hb, fun j u hj => ?_⟩
        have hjl : j < len := by
          rcases Nat.lt_or_ge j len with h' | h'
          · exact h'
          · rw [List.getElem?_eq_none (by simp; omega)] at hj; simp at hj
        have hcj := hcell j (by omega)
        rw [addr_add, cell_of hb] at hcj
        rw [hcj, ← hj]
        simp [List.getElem?_take, hjl, List.getD, List.getElem?_eq_getElem (show j < zs.length by omega)]
    · rw [hd]
      simp only [Rows.uptoBulk, bulk_lits, List.length_take]
      omega
theorem Try.own : ownKnob Try.prog.godebug = none := by kernel_rfl
theorem Try.laidOut : laidOutB Try.prog = true := by kernel_rfl
end Go.Proofs.Ytbdpjbmfhnbheaa
namespace Go.Proofs.Ytbdpjbmfhnbheaa
open Go Go.Vx Go.ChangeShapes Go.WideShapes Go.ChangeAt Go.RowKit
set_option maxRecDepth 4000
set_option linter.all false
theorem open_intr {H : Type} {enc : TypeId × Value → H} {P : Program} {W : World} {t e : TypeId} {a : Option Addr} {len cap : Nat} {d : DataW H} {ps : List MemPlace} (ht : P.underlying t = some (.slice e)) (he : P.underlying e = some (.int .i64)) (hc : P.cellsOf e = 1)
    (h : DataW.Trod enc P W 0 (fun _ => true) true t (.slice a len cap) d ps) :
    ∃ xs : List Int, xs.length = len ∧ (Sl [blks W] 1 (.slice a len cap) len (intsN xs) ∧ ∀ n ∈ xs, (Lit.int .i64 n).wf = true) ∧ len ≤ Rows.uptoBulk d ∧ (len = 0 ∨ ∃ el sp, d = .slice el sp ∧ el.length = len) := by
  have hx : len = 0 ∨ ∃ el sp, d = .slice el sp ∧ el.length = len := by
    obtain ⟨fuel, hf⟩ := h
    rcases open_ints ht he hc hf with ⟨hcs, _⟩ | ⟨x, l, c, zs, hcs, _, hl, hm, hz, hx, hcell, hwz⟩
    · simp [Value.cells] at hcs
      obtain ⟨rfl, rfl, rfl⟩ := hcs
      exact .inl rfl
    · simp [Value.cells] at hcs
      obtain ⟨rfl, rfl, rfl⟩ := hcs
      have hzl : zs.length = cap := by simpa using hz
      have hd : d = .slice (lits .i64 (zs.take len)) (lits .i64 (zs.drop len)) := by injection hx
      exact .inr ⟨_, _, hd, by simp [lits]; omega⟩
  obtain ⟨xs, h1, h2, h3, h4⟩ := open_row ht he hc h
  exact ⟨xs, h1, ⟨h3, h2⟩, h4, hx⟩
theorem reach_of8 {H : Type} {P : Program} {ts : List TypeId} {ds : List (DataW H)} (h : (DataW.weightsEach P ts ds).all (· ≤ reachBytes) = true) {j : Nat} {t e : TypeId} {d : DataW H} {len : Nat} (ht : ts[j]? = some t) (hd : ds[j]? = some d) (hu : P.underlying t = some (.slice e)) (hb : P.bytesOf e = 8)
    (hl : len = 0 ∨ ∃ el sp, d = .slice el sp ∧ el.length = len) : len ≤ 17592186044416 := by
  rcases hl with rfl | ⟨el, sp, rfl, rfl⟩
  · omega
  · have := sized_slice h ht hd hu
    rw [hb] at this
    simp [reachBytes] at this
    omega
end Go.Proofs.Ytbdpjbmfhnbheaa
namespace Go.Proofs.Ytbdpjbmfhnbheaa
open Go Go.Vx Go.ChangeShapes Go.WideShapes Go.ChangeAt Go.RowKit
set_option linter.all false
set_option maxRecDepth 4000
theorem top_row (H : Type) (enc : TypeId × Value → H) (W : World) (base : Nat) (args : Array Value) (ds gs : List (DataW H)) (before : List MemPlace)
    (hval : ∀ (j : Nat) t v, Try.f8.params[j]? = some t → args[j]? = some v → Value.okWide Try.prog W .any base t v)
    (hW : DataW.Whole enc Try.prog Try.f8.params.toList Rows.huffBackSpec.vars false W args.toList ds gs before)
    (hz : (DataW.weightsEach Try.prog (Try.f8.params.toList ++ Rows.huffBackSpec.plain.varTypes Try.prog) (ds ++ gs)).all (· ≤ reachBytes) = true) (hL : laidMetH Try.prog [] W) :
    Calls Try.prog 8 args W fun e W' => ∃ v, e = .returned v ∧ Rows.huffBackSpec.post enc Try.prog Try.f8 false true false false W args v W' := by
  have hW' := hW
  obtain ⟨p, q, hA0, hV, rfl, hfz, hnd⟩ := hW
  have hA : DataW.TrodAll enc Try.prog W 0 (fun _ => true) true Try.f8.params.toList args.toList ds p := hA0
  rw [Try.params8] at hA hval hz
  obtain ⟨v0, vs0, d0, ds0, p0, q0, hargs, rfl, rfl, h0, r0⟩ := trodAll_cons hA
  obtain ⟨v1, vs1, d1, ds1, p1, q1, rfl, rfl, rfl, h1, r1⟩ := trodAll_cons r0
  obtain ⟨rfl, rfl, rfl⟩ := trodAll_nil r1
  obtain rfl : args = #[v0, v1] := by cases args; simp_all
  obtain ⟨rfl, rfl⟩ := trodVars_none hV
  obtain ⟨a0, l0, c0, rfl⟩ := okWide_slice Try.underlying23 (hval 0 _ v0 rfl rfl)
  obtain ⟨x0, e0, ⟨s0, w0⟩, b0, g0⟩ := open_intr Try.underlying23 Try.underlying3 (by kernel_rfl) h0
  have m0 : l0 ≤ 17592186044416 := reach_of8 hz (j := 0) rfl rfl Try.underlying23 (by kernel_rfl) g0
  obtain ⟨a1, l1, c1, rfl⟩ := okWide_slice Try.underlying23 (hval 1 _ v1 rfl rfl)
  obtain ⟨x1, e1, ⟨s1, w1⟩, b1, g1⟩ := open_intr Try.underlying23 Try.underlying3 (by kernel_rfl) h1
  have m1 : l1 ≤ 17592186044416 := reach_of8 hz (j := 1) rfl rfl Try.underlying23 (by kernel_rfl) g1
  clear hA0
  have lt0 : ∀ x ∈ p0, x.block < W.heap.size := by obtain ⟨m, hm⟩ := h0; exact DataW.trod_lt m _ _ _ hm
  have lt1 : ∀ x ∈ p1, x.block < W.heap.size := by obtain ⟨m, hm⟩ := h1; exact DataW.trod_lt m _ _ _ hm
  have hc : Calls Try.prog 8 #[.slice a0 l0 c0, .slice a1 l1 c1] W fun e W' => e = .returned (.bool true) ∧ Kept W W' := by
    refine bridge (fun {i} => ?_)
    subst e0
    subst e1
    exact backL_n a0 a1 c0 c1 x0 x1 _ s0 m0 s1 m1
  refine hc.mono fun e W' ⟨he, bel⟩ => ?_
  subst he
  exact ⟨_, rfl, _, _, _, [], _, [], hW', trodAll_mk1 (shut_bool Try.underlying4 _), (trodAll_cons_mk (Kept.trod Try.laidOut (by kernel_rfl) (of_decide_eq_true (by kernel_rfl)) h0 bel lt0) (trodAll_cons_mk (Kept.trod Try.laidOut (by kernel_rfl) (of_decide_eq_true (by kernel_rfl)) h1 bel lt1) trodAll_mk0)), rfl, bel.frame _, fun h => by cases h⟩
theorem reads (os : Os) {H : Type} (enc : TypeId × Value → H) : ∃ places, DataW.whole enc Try.prog ((World.holding Try.prog os ⟨#[], #[], []⟩).forCall (fun _ _ => 0) ⟨#[], #[.slice none 0 0, .slice none 0 0], []⟩).memory Try.f8.params.toList Rows.huffBackSpec.vars false #[.slice none 0 0, .slice none 0 0].toList 8 = some ([.nil, .nil], [], places) :=
  ⟨[], by kernel_rfl⟩
set_option maxRecDepth 100000 in
theorem top_lifted (os : Os) (started : os.Started) (H : Type) (enc : TypeId × Value → H) (F : Stop.Interp) :
    ReturnsInHanded {} Try.checked os 8 .any ((OpenSpec.ofChange Rows.huffBackSpec).preRow enc Try.prog Try.f8 Rows.huffBackRow.domain false Rows.huffBackRow.laid) (((OpenSpec.ofChange Rows.huffBackSpec).at F).post enc Try.prog Try.f8 false true false false) := by
  obtain ⟨places, hx⟩ := reads os enc
  refine returnsInHanded_of_row (C := Try.checked) (s := (OpenSpec.ofChange Rows.huffBackSpec)) Try.own started (by kernel_rfl) Try.func8
    (witness_row_at (enc := enc) (C := Try.checked) false (World.holding Try.prog os ⟨#[], #[], []⟩) #[.slice none 0 0, .slice none 0 0] rfl (by kernel_rfl) (by kernel_rfl) (by kernel_rfl)
      (OpenSpec.preRow_of_cond 8 hx (by kernel_rfl) (fun k hk => by cases hk) (by kernel_rfl) (laidMet_of_run' 8 (by kernel_rfl) (by kernel_rfl)))) ?_
  intro W base args ds gs before hval hW _ hcond hz hL _ _
  exact top_row H enc W base args ds gs before hval hW hz hL
theorem top_over : Rows.HuffBackSaid :=
  OpenClaim.holds_of_cond 8 Try.f8 rfl rfl rfl rfl rfl rfl rfl ⟨rfl, rfl, rfl, rfl, rfl⟩ rfl rfl rfl rfl rfl (by kernel_rfl) Try.func8 (by kernel_rfl)
    (of_decide_eq_true (by kernel_rfl)) (by unfold Func.isWrapper; first | (rw [if_pos (by decide +kernel)]; kernel_rfl) | (rw [if_neg (by decide +kernel)]; exact ⟨rfl, rfl⟩))
    (fun os started H enc _ F => by rw [OpenClaim.pre_eq_preRow]; exact top_lifted os started H enc F)
theorem top_holds : Rows.HuffBackSaid := top_over
end Go.Proofs.Ytbdpjbmfhnbheaa
