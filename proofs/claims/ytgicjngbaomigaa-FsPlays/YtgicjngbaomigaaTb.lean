/- The two file systems side by side: each call keeps them alike, and their answers are the same. Pure facts. It proves no statement by itself. No conditions. -/
import Derived.Test.YtgicjngbaomigaaTa
namespace Go.Proofs.Ytgicjngbaomigaa
open Go Go.Vx
set_option linter.all false
variable [W0]
set_option maxRecDepth 4000

theorem rel_note' {S : Fsy} {R : Rf} {φ : Nat → Nat} {c : Ch} {g : Cg} {F m : Nat} (h : Rel S R φ) (hrp : Rp F m S.durable S.journal S.names) (hc : rapply (mapE φ S.names) g = mapE φ (afterE S.names c)) :
    Rel { S with names := afterE S.names c, journal := S.journal ++ [c] } (rchange R g) φ := by
  have hfull : jr S S.journal.length = S.names := by
    unfold jr; rw [List.take_length]; exact rp_fold hrp
  refine ⟨h.q, h.d, h.f, h.files, h.inj, ?_, h.lasts, ?_, ?_, h.dl⟩
  · show rapply R.now g = _
    rw [h.now]; exact hc
  · show (R.wait ++ [g]).length = (S.journal ++ [c]).length
    simp [h.wl]
  · intro k hk
    simp only [List.length_append, List.length_cons, List.length_nil] at hk
    show ((R.wait ++ [g]).take k).foldl rapply R.lasts = mapE φ (((S.journal ++ [c]).take k).foldl afterE S.durable)
    rcases Nat.lt_or_ge k (S.journal.length + 1) with hlt | hge
    · rw [List.take_append_of_le_length (by rw [h.wl]; omega), List.take_append_of_le_length (by omega)]
      exact h.replay k (by omega)
    · have hk1 : k = S.journal.length + 1 := by omega
      have h1 := h.replay S.journal.length (Nat.le_refl _)
      rw [hfull] at h1
      unfold rfold at h1
      rw [List.take_of_length_le (by simp [h.wl]; omega), List.take_of_length_le (by simp; omega), List.foldl_append, List.foldl_append]
      rw [List.take_of_length_le (by rw [h.wl]; exact Nat.le_refl _)] at h1
      rw [h1]
      have h2 : S.journal.foldl afterE S.durable = S.names := rp_fold hrp
      rw [h2]
      exact hc

omit [W0] in
def extF (φ : Nat → Nat) (n k : Nat) : Nat → Nat := fun i => if i = n then k else φ i
theorem extF_old {φ : Nat → Nat} {n k i : Nat} (h : i < n) : extF φ n k i = φ i := by
  unfold extF; rw [if_neg (by omega)]
theorem extF_new {φ : Nat → Nat} {n k : Nat} : extF φ n k n = k := by simp [extF]
theorem mapE_ext {φ : Nat → Nat} {n k : Nat} {es : List En} (h : ∀ e ∈ es, e.file < n) : mapE (extF φ n k) es = mapE φ es :=
  mapE_congr fun e he => extF_old (h e he)

/-- One file more on both sides. -/
theorem rel_ext {S : Fsy} {R : Rf} {φ : Nat → Nat} {m : Nat} (h : Rel S R φ) (hG : Good S m) :
    Rel { S with files := S.files ++ [⟨[], 0⟩] } { R with files := R.files ++ [⟨[], 0⟩] } (extF φ S.files.length R.files.length) := by
  refine ⟨h.q, h.d, h.f, ?_, ?_, ?_, ?_, h.wl, ?_, ?_⟩
  · intro i hi
    have hi' : i < S.files.length + 1 := by simpa using hi
    show (R.files ++ [⟨[], 0⟩])[extF φ S.files.length R.files.length i]? = (S.files ++ [⟨[], 0⟩])[i]?
    rcases Nat.lt_or_ge i S.files.length with hlt | hge
    · rw [extF_old hlt, List.getElem?_append_left (h.rng hlt), List.getElem?_append_left hlt]
      exact h.files i hlt
    · have : i = S.files.length := by omega
      subst this
      rw [extF_new, List.getElem?_append_right (Nat.le_refl _), List.getElem?_append_right (Nat.le_refl _)]
      simp
  · intro i j hi hj he
    have hi' : i < S.files.length + 1 := by simpa using hi
    have hj' : j < S.files.length + 1 := by simpa using hj
    rcases Nat.lt_or_ge i S.files.length with h1 | h1 <;> rcases Nat.lt_or_ge j S.files.length with h2 | h2
    · rw [extF_old h1, extF_old h2] at he
      exact h.inj i j h1 h2 he
    · have : j = S.files.length := by omega
      subst this
      rw [extF_old h1, extF_new] at he
      have := h.rng h1; omega
    · have : i = S.files.length := by omega
      subst this
      rw [extF_old h2, extF_new] at he
      have := h.rng h2; omega
    · omega
  · show R.now = _
    rw [mapE_ext hG.rp.now.inn]; exact h.now
  · show R.lasts = _
    rw [mapE_ext hG.rp.was.inn]; exact h.lasts
  · intro k hk
    have h1 := h.replay k hk
    have h2 := (jr_wn hG k).inn
    show rfold R k = mapE _ (jr S k)
    rw [mapE_ext h2]; exact h1
  · intro f hf
    have hf' : f ∈ R.files ∨ f = ⟨[], 0⟩ := by simpa using hf
    rcases hf' with h1 | h1
    · exact h.dl f h1
    · subst h1; simp

theorem spendE_live {S : Fsy} (hd : S.dead = false) : spendE S = if S.left = 0 then 50 else 0 := by simp [spendE, hd]

theorem rel_create {S : Fsy} {R : Rf} {φ : Nat → Nat} {m : Nat} (s : ByteArray) (h : Rel S R φ) (hG : Good S m) :
    ∃ ψ, (createS S s).1 = (rcreate R s).1 ∧ Rel (createS S s).2 (rcreate R s).2 ψ ∧ (rcreate R s).2.files.length ≤ R.files.length + 1 := by
  unfold createS rcreate openE
  rw [h.d, h.now, mapE_has]
  cases hd : S.dead
  · cases hn : nameOk s
    · exact ⟨φ, by simp, by simpa using h, by simp⟩
    · cases hh : has S.names s
      · obtain ⟨h1, h2, h3⟩ := rel_spend h hd
        obtain ⟨e1, e2, e3, e4, e5⟩ := rburn_same R
        obtain ⟨f1, f2, f3, f4, f5⟩ := spend_same S
        cases hb : (rburn R).1
        · have h4 := h2 hb
          refine ⟨φ, ?_, ?_, ?_⟩
          · simp [h4]
          · simpa [h4] using h3
          · simp [e1]
        · have h4 := h1 hb
          have hG2 := good_spend hG
          have h5 := rel_ext h3 hG2
          rw [f1, e1] at h5
          have hw : ∀ e ∈ S.names, e.file < S.files.length := hG.rp.now.inn
          refine ⟨extF φ S.files.length R.files.length, ?_, ?_, ?_⟩
          · simp [h4]
          · have h6 := rel_note' (c := .cr s S.files.length) (g := ⟨s, ⟨#[]⟩, (R.files.length : Int)⟩) h5 (by exact hG2.rp) (by
              show rputE (mapE _ (spendS S).names) s (R.files.length : Int) = mapE _ (putE (spendS S).names s S.files.length)
              unfold rputE
              rw [if_neg (by omega), Int.toNat_natCast]
              have h7 := mapE_put (extF φ S.files.length R.files.length) (spendS S).names s S.files.length
              rw [extF_new] at h7
              exact h7)
            rw [f2, f4] at h6
            simpa [h4] using h6
          · simp [rchange, e1]
      · exact ⟨φ, by simp, by simpa using h, by simp⟩
  · exact ⟨φ, by simp, by simpa using h, by simp⟩

theorem rel_remove {S : Fsy} {R : Rf} {φ : Nat → Nat} {m : Nat} (s : ByteArray) (h : Rel S R φ) (hG : Good S m) :
    (removeS S s).1 = (rremove R s).1 ∧ Rel (removeS S s).2 (rremove R s).2 φ ∧ (rremove R s).2.files.length = R.files.length := by
  unfold removeS rremove openE
  rw [h.d, h.now, mapE_has]
  cases hd : S.dead
  · cases hn : nameOk s
    · exact ⟨by simp, by simpa using h, by simp⟩
    · cases hh : has S.names s
      · exact ⟨by simp, by simpa using h, by simp⟩
      · obtain ⟨h1, h2, h3⟩ := rel_spend h hd
        obtain ⟨e1, e2, e3, e4, e5⟩ := rburn_same R
        obtain ⟨f1, f2, f3, f4, f5⟩ := spend_same S
        cases hb : (rburn R).1
        · have h4 := h2 hb
          refine ⟨by simp [h4], by simpa [h4] using h3, by simp [e1]⟩
        · have h4 := h1 hb
          have hG2 := good_spend hG
          refine ⟨by simp [h4], ?_, by simp [rchange, e1]⟩
          have h6 := rel_note' (c := .rm s) (g := ⟨s, ⟨#[]⟩, -1⟩) h3 (by exact hG2.rp) (by
            show rputE (mapE _ (spendS S).names) s (-1) = mapE _ (dropE (spendS S).names s)
            unfold rputE
            rw [if_pos (by omega), if_pos (by rw [mapE_has, f2]; exact hh)]
            exact mapE_drop _ _ _)
          rw [f2, f4] at h6
          simpa [h4] using h6
  · exact ⟨by simp, by simpa using h, by simp⟩

theorem nm_ne {s : ByteArray} (h : nameOk s = true) : s ≠ ⟨#[]⟩ := by
  intro he; subst he
  have h1 := (nameOk_size h).1
  have h2 : ((⟨#[]⟩ : ByteArray)).size = 0 := rfl
  omega

theorem rel_rename {S : Fsy} {R : Rf} {φ : Nat → Nat} {m : Nat} (a b : ByteArray) (h : Rel S R φ) (hG : Good S m) :
    (renameS S a b).1 = (rrename R a b).1 ∧ Rel (renameS S a b).2 (rrename R a b).2 φ ∧ (rrename R a b).2.files.length = R.files.length := by
  unfold renameS rrename openE
  rw [h.d, h.now, mapE_has]
  cases hd : S.dead
  · cases hn : nameOk a
    · cases hnb : nameOk b <;> exact ⟨by simp, by simpa using h, by simp⟩
    · cases hnb : nameOk b
      · refine ⟨?_, ?_, by simp⟩
        · cases hh : has S.names a <;> simp
        · cases hh : has S.names a <;> simpa using h
      · cases hh : has S.names a
        · exact ⟨by simp, by simpa using h, by simp⟩
        · obtain ⟨h1, h2, h3⟩ := rel_spend h hd
          obtain ⟨e1, e2, e3, e4, e5⟩ := rburn_same R
          obtain ⟨f1, f2, f3, f4, f5⟩ := spend_same S
          cases hb : (rburn R).1
          · have h4 := h2 hb
            refine ⟨by simp [h4], by simpa [h4] using h3, by simp [e1]⟩
          · have h4 := h1 hb
            by_cases hab : a = b
            · refine ⟨by simp [h4, hab], by simpa [h4, hab] using h3, by simp [hab, e1]⟩
            · have hG2 := good_spend hG
              refine ⟨by simp [h4, hab], ?_, by simp [hab, rchange, e1]⟩
              have hfe := mapE_file (φ := φ) hG.rp.now.asc hh
              have h6 := rel_note' (c := .rn a b) (g := ⟨b, a, (fileE (mapE φ S.names) a : Int)⟩) h3 (by exact hG2.rp) (by
                show rputE (if a = ⟨#[]⟩ then mapE φ (spendS S).names else rputE (mapE φ (spendS S).names) a (-1)) b (fileE (mapE φ S.names) a : Int) = mapE _ (putE (dropE (spendS S).names a) b (fileE (spendS S).names a))
                rw [if_neg (nm_ne hn), f2]
                unfold rputE
                rw [if_neg (by omega), Int.toNat_natCast, if_pos (by omega), if_pos (by rw [mapE_has]; exact hh), mapE_drop, hfe]
                exact mapE_put _ _ _ _)
              rw [f2, f4] at h6
              simpa [h4, hab] using h6
  · exact ⟨by simp, by simpa using h, by simp⟩

/-- One file is written on both sides. -/
theorem rel_set {S : Fsy} {R : Rf} {φ : Nat → Nat} {i : Nat} {f : Fi} (h : Rel S R φ) (hi : i < S.files.length) (hf : f.data.length ≤ 16777216 ∧ f.synced ≤ f.data.length) :
    Rel { S with files := S.files.set i f } { R with files := R.files.set (φ i) f } φ := by
  refine ⟨h.q, h.d, h.f, ?_, ?_, h.now, h.lasts, h.wl, h.replay, ?_⟩
  · intro j hj
    have hj' : j < S.files.length := by simpa using hj
    show (R.files.set (φ i) f)[φ j]? = (S.files.set i f)[j]?
    by_cases hij : i = j
    · subst hij
      rw [List.getElem?_set_self hi, List.getElem?_set_self (h.rng hi)]
    · rw [List.getElem?_set_ne hij, List.getElem?_set_ne (fun he => hij (h.inj _ _ hi hj' he))]
      exact h.files j hj'
  · intro a b ha hb
    exact h.inj a b (by simpa using ha) (by simpa using hb)
  · intro g hg
    rcases List.mem_or_eq_of_mem_set hg with h1 | h1
    · exact h.dl g h1
    · subst h1; exact hf
theorem fi_named {S : Fsy} {R : Rf} {φ : Nat → Nat} {i : Nat} {s : ByteArray} (h : Rel S R φ) (hi : i < S.files.length) : fiAt R.files ⟨s, φ i⟩ = fiAt S.files ⟨s, i⟩ := h.fi (e := ⟨s, i⟩) hi

theorem rel_append {S : Fsy} {R : Rf} {φ : Nat → Nat} {m : Nat} (s : ByteArray) (b : List UInt8) (h : Rel S R φ) (hG : Good S m) :
    (appendS S s b).1 = (rappend R s b).1 ∧ Rel (appendS S s b).2 (rappend R s b).2 φ ∧ (rappend R s b).2.files.length = R.files.length := by
  have hGa := good_append s b hG
  revert hGa
  have hl := rel_lens h hG.rp.now.inn
  rw [← h.now] at hl
  unfold appendS rappend openE
  rw [hl, h.d, h.now, mapE_has, h.q]
  cases hd : S.dead
  · cases hn : nameOk s
    · exact fun _ => ⟨by simp, by simpa using h, by simp⟩
    · cases hh : has S.names s
      · exact fun _ => ⟨by simp, by simpa using h, by simp⟩
      · by_cases hq : usedN S + b.length > S.quota
        · have hq2 : (b.length : Int) > (S.quota : Int) - (lens S.files S.names : Int) := by unfold usedN at hq; omega
          exact fun _ => ⟨by simp [hq, hq2], by simpa [hq, hq2] using h, by simp [hq2]⟩
        · have hq2 : ¬ (b.length : Int) > (S.quota : Int) - (lens S.files S.names : Int) := by unfold usedN at hq; omega
          obtain ⟨h1, h2, h3⟩ := rel_spend h hd
          obtain ⟨e1, e2, e3, e4, e5⟩ := rburn_same R
          obtain ⟨f1, f2, f3, f4, f5⟩ := spend_same S
          cases hb : (rburn R).1
          · have h4 := h2 hb
            exact fun _ => ⟨by simp [hq, hq2, h4], by simpa [hq, hq2, h4] using h3, by simp [hq2, e1]⟩
          · have h4 := h1 hb
            intro hGa
            have hi := fileE_lt hG.rp.now hh
            have hfe := mapE_file (φ := φ) hG.rp.now.asc hh
            have hfi := fi_named (s := s) h hi
            simp only [hq, hq2, h4, if_false, ne_eq, not_true_eq_false, Bool.false_eq_true, Bool.true_eq_false, if_true, reduceCtorEq] at hGa ⊢
            rw [hfe, hfi]
            refine ⟨by first | rfl | trivial, ?_, by simp⟩
            have hmem : (⟨(fiAt S.files ⟨s, fileE S.names s⟩).data ++ b, (fiAt S.files ⟨s, fileE S.names s⟩).synced⟩ : Fi) ∈ S.files.set (fileE S.names s) ⟨(fiAt S.files ⟨s, fileE S.names s⟩).data ++ b, (fiAt S.files ⟨s, fileE S.names s⟩).synced⟩ := by
              apply List.mem_of_getElem? (i := fileE S.names s)
              rw [List.getElem?_set_self hi]
            have h5 := hGa.dl _ hmem
            have h6 := hGa.q
            have h7 := rel_set (i := fileE S.names s) (f := ⟨(fiAt S.files ⟨s, fileE S.names s⟩).data ++ b, (fiAt S.files ⟨s, fileE S.names s⟩).synced⟩) h3 (by rw [f1]; exact hi) ⟨by simp only at h5 h6 ⊢; omega, h5.2⟩
            rw [f1, e1] at h7
            exact h7
  · exact fun _ => ⟨by simp, by simpa using h, by simp⟩

theorem rel_sync {S : Fsy} {R : Rf} {φ : Nat → Nat} {m : Nat} (s : ByteArray) (h : Rel S R φ) (hG : Good S m) :
    (syncS S s).1 = (rsync R s).1 ∧ Rel (syncS S s).2 (rsync R s).2 φ ∧ (rsync R s).2.files.length = R.files.length := by
  unfold syncS rsync openE
  rw [h.d, h.now, mapE_has]
  cases hd : S.dead
  · cases hn : nameOk s
    · exact ⟨by simp, by simpa using h, by simp⟩
    · cases hh : has S.names s
      · exact ⟨by simp, by simpa using h, by simp⟩
      · obtain ⟨h1, h2, h3⟩ := rel_spend h hd
        obtain ⟨e1, e2, e3, e4, e5⟩ := rburn_same R
        obtain ⟨f1, f2, f3, f4, f5⟩ := spend_same S
        cases hb : (rburn R).1
        · have h4 := h2 hb
          exact ⟨by simp [h4], by simpa [h4] using h3, by simp [e1]⟩
        · have h4 := h1 hb
          have hi := fileE_lt hG.rp.now hh
          have hfe := mapE_file (φ := φ) hG.rp.now.asc hh
          have hfi := fi_named (s := s) h hi
          simp only [h4, if_false, ne_eq, not_true_eq_false, Bool.false_eq_true, Bool.true_eq_false, if_true, reduceCtorEq]
          rw [hfe, hfi]
          refine ⟨by first | rfl | trivial, ?_, by simp⟩
          have h5 := hG.dl _ (fi_mem (fs := S.files) (e := ⟨s, fileE S.names s⟩) hi)
          have h6 := hG.q
          have h7 := rel_set (i := fileE S.names s) (f := ⟨(fiAt S.files ⟨s, fileE S.names s⟩).data, (fiAt S.files ⟨s, fileE S.names s⟩).data.length⟩) h3 (by rw [f1]; exact hi) ⟨by simp only at h5 h6 ⊢; omega, Nat.le_refl _⟩
          rw [f1, e1] at h7
          exact h7
  · exact ⟨by simp, by simpa using h, by simp⟩

/-- The names are settled: the files' numbers are made anew. -/
theorem rel_settle {S : Fsy} {R : Rf} {φ : Nat → Nat} {m : Nat} (h : Rel S R φ) (hw : WN S.files.length m S.names) :
    Rel (settleS S) { R with lasts := R.now, wait := [] } (fun k => φ ((S.names[k]?.map En.file).getD 0)) := by
  have hmap : mapE (fun k => φ ((S.names[k]?.map En.file).getD 0)) (renum 0 S.names) = mapE φ S.names := by
    apply List.ext_getElem?
    intro k
    rw [mapE_get, mapE_get, renum_get]
    cases hk : S.names[k]? with
    | none => simp
    | some e => simp [hk]
  have hlen : (settleS S).files.length = S.names.length := by simp [settleS]
  refine ⟨h.q, h.d, h.f, ?_, ?_, ?_, ?_, rfl, ?_, h.dl⟩
  · intro i hi
    rw [hlen] at hi
    have hk : S.names[i]? = some S.names[i] := List.getElem?_eq_getElem hi
    have hin := hw.inn S.names[i] (List.getElem_mem hi)
    show R.files[φ ((S.names[i]?.map En.file).getD 0)]? = (S.names.map (fiAt S.files))[i]?
    rw [hk, List.getElem?_map, hk]
    simp only [Option.map_some, Option.getD_some]
    rw [h.files _ hin]
    simp [fiAt, List.getElem?_eq_getElem hin]
  · intro i j hi hj he
    rw [hlen] at hi hj
    have hki : S.names[i]? = some S.names[i] := List.getElem?_eq_getElem hi
    have hkj : S.names[j]? = some S.names[j] := List.getElem?_eq_getElem hj
    simp only [hki, hkj, Option.map_some, Option.getD_some] at he
    have h1 := h.inj _ _ (hw.inn _ (List.getElem_mem hi)) (hw.inn _ (List.getElem_mem hj)) he
    have h2 := hw.dist
    have h3 : (S.names.map En.file)[i]'(by simpa using hi) = (S.names.map En.file)[j]'(by simpa using hj) := by simpa using h1
    have h4 := List.pairwise_iff_getElem.1 h2
    rcases Nat.lt_trichotomy i j with h5 | h5 | h5
    · exact absurd h3 (h4 i j (by simpa using hi) (by simpa using hj) h5)
    · exact h5
    · exact absurd h3.symm (h4 j i (by simpa using hj) (by simpa using hi) h5)
  · show R.now = mapE _ (renum 0 S.names)
    rw [hmap]; exact h.now
  · show R.now = mapE _ (renum 0 S.names)
    rw [hmap]; exact h.now
  · intro k hk
    have hk0 : k = 0 := by simpa [settleS] using hk
    subst hk0
    show R.now = mapE _ (renum 0 S.names)
    rw [hmap]; exact h.now

theorem rel_syncN {S : Fsy} {R : Rf} {φ : Nat → Nat} {m : Nat} (h : Rel S R φ) (hG : Good S m) :
    ∃ ψ, (syncNamesS S).1 = (rsyncN R).1 ∧ Rel (syncNamesS S).2 (rsyncN R).2 ψ ∧ (rsyncN R).2.files.length = R.files.length := by
  unfold syncNamesS rsyncN
  rw [h.d]
  cases hd : S.dead
  · obtain ⟨h1, h2, h3⟩ := rel_spend h hd
    obtain ⟨e1, e2, e3, e4, e5⟩ := rburn_same R
    cases hb : (rburn R).1
    · have h4 := h2 hb
      exact ⟨φ, by simp [h4], by simpa [h4] using h3, by simp [e1]⟩
    · have h4 := h1 hb
      have h5 := rel_settle h3 (good_spend hG).rp.now
      rw [← e2]
      exact ⟨_, by simp [h4], by simpa [h4] using h5, by simp [e1]⟩
  · have hs : spendE S = 50 ∧ spendS S = S := by
      obtain ⟨q, fs, ns, ds, js, l, d⟩ := S
      cases hd
      simp [spendE, spendS]
    exact ⟨φ, by simp [hs.1], by simpa [hs.1, hs.2] using h, by simp⟩

theorem rel_fuse {S : Fsy} {R : Rf} {φ : Nat → Nat} (k : Int) (h : Rel S R φ) : Rel { S with left := k } { R with fuse := max k (-1) } φ :=
  ⟨h.q, h.d, by simp only; omega, h.files, h.inj, h.now, h.lasts, h.wl, h.replay, h.dl⟩

/-- Files cut on both sides. -/
theorem cut_both {φ : Nat → Nat} {n : Nat} (hinj : ∀ i j, i < n → j < n → φ i = φ j → i = j) (data : List Int) : ∀ (es : List En) (i : Nat) (fs gs : List Fi), fs.length = n → (∀ e ∈ es, e.file < n) →
    (∀ j, j < n → gs[φ j]? = fs[j]?) → ∀ j, j < n → (cutAll data i (mapE φ es) gs)[φ j]? = (cutAll data i es fs)[j]?
  | [], i, fs, gs, hl, hin, h, j, hj => h j hj
  | e :: r, i, fs, gs, hl, hin, h, j, hj => by
    have he : e.file < n := hin e (by simp)
    show (cutAll data (i + 1) (mapE φ r) (gs.set (φ e.file) (cutF (fiAt gs ⟨e.name, φ e.file⟩) (data.getD i 0))))[φ j]? = (cutAll data (i + 1) r (fs.set e.file (cutF (fiAt fs e) (data.getD i 0))))[j]?
    have hfi : fiAt gs ⟨e.name, φ e.file⟩ = fiAt fs e := by
      simp only [fiAt, List.getD_eq_getElem?_getD]
      rw [h e.file he]
    have hr : φ e.file < gs.length := by
      have h1 := h e.file he
      rw [List.getElem?_eq_getElem (show e.file < fs.length by rw [hl]; exact he)] at h1
      exact (get_split h1).1
    rw [hfi]
    refine cut_both hinj data r (i + 1) _ _ (by simp [hl]) (fun x hx => hin x (by simp [hx])) (fun k hk => ?_) j hj
    by_cases hek : e.file = k
    · subst hek
      rw [List.getElem?_set_self hr, List.getElem?_set_self (by rw [hl]; exact he)]
    · rw [List.getElem?_set_ne hek, List.getElem?_set_ne (fun h9 => hek (hinj _ _ he hk h9))]
      exact h k hk

theorem rel_crash {S : Fsy} {R : Rf} {φ : Nat → Nat} {m : Nat} (names : Int) (data : List Int) (h : Rel S R φ) (hG : Good S m) :
    ∃ ψ, Rel (crashS S names data) (rcrash R names data) ψ ∧ (rcrash R names data).files.length = R.files.length := by
  have hk : (min (max names 0) (R.wait.length : Int)).toNat = crashK S names := by unfold crashK; rw [h.wl]
  have hkl : crashK S names ≤ S.journal.length := by unfold crashK; omega
  have hrf := h.replay _ hkl
  have hw := jr_wn hG (crashK S names)
  have h1 : Rel { S with names := jr S (crashK S names), files := cutAll data 0 (jr S (crashK S names)) S.files, durable := jr S (crashK S names), journal := [], left := -1, dead := false }
      { R with files := cutAll data 0 (rfold R (crashK S names)) R.files, now := rfold R (crashK S names), lasts := rfold R (crashK S names), wait := [], fuse := -1, dead := false } φ := by
    refine ⟨h.q, rfl, .inl ⟨by simp, by simp⟩, ?_, ?_, hrf, hrf, rfl, ?_, ?_⟩
    · intro i hi
      have hi' : i < S.files.length := by simpa [cutAll_length] using hi
      show (cutAll data 0 (rfold R (crashK S names)) R.files)[φ i]? = _
      rw [hrf]
      exact cut_both h.inj data _ 0 _ _ rfl hw.inn h.files i hi'
    · intro i j hi hj
      exact h.inj i j (by simpa [cutAll_length] using hi) (by simpa [cutAll_length] using hj)
    · intro k hk
      have hk0 : k = 0 := by simpa using hk
      subst hk0
      exact hrf
    · have hr : ∀ e ∈ rfold R (crashK S names), e.file < R.files.length := by
        rw [hrf]
        intro e he
        simp only [mapE, List.mem_map] at he
        obtain ⟨x, hx, rfl⟩ := he
        exact h.rng (hw.inn x hx)
      exact cutAll_ok data 0 _ _ hr h.dl
  have h2 := rel_settle h1 (m := m) (by simpa [cutAll_length] using hw)
  refine ⟨fun k => φ (((jr S (crashK S names))[k]?.map En.file).getD 0), ?_, by simp [rcrash, cutAll_length]⟩
  have hc : rcrash R names data = { ({ R with files := cutAll data 0 (rfold R (crashK S names)) R.files, now := rfold R (crashK S names), lasts := rfold R (crashK S names), wait := [], fuse := -1, dead := false } : Rf) with lasts := rfold R (crashK S names), wait := [] } := by
    unfold rcrash; rw [hk]
  rw [hc]
  exact h2
/-- What the crash of the document's needs to know of its names. -/
theorem rel_fold {S : Fsy} {R : Rf} {φ : Nat → Nat} {m : Nat} (h : Rel S R φ) (hG : Good S m) : ∀ i, i ≤ R.wait.length → (rfold R i).length ≤ 98000 ∧ ∀ e ∈ rfold R i, e.file < R.files.length := by
  intro i hi
  have hw := jr_wn hG i
  have hm := hG.m
  rw [h.replay i (by rw [← h.wl]; exact hi)]
  refine ⟨by rw [mapE_len]; have := hw.len; omega, fun e he => ?_⟩
  simp only [mapE, List.mem_map] at he
  obtain ⟨x, hx, rfl⟩ := he
  exact h.rng (hw.inn x hx)
end Go.Proofs.Ytgicjngbaomigaa
