/- A file system stays whole; Read and List over a whole one. It proves no statement by itself. No conditions. -/
import Derived.Test.YtgicjngbaomigaaFl
namespace Go.Proofs.Ytgicjngbaomigaa
open Go Go.Vx
variable [W0]
set_option maxRecDepth 4000
set_option linter.all false

theorem good_spend {S : Fsy} {m : Nat} (h : Good S m) : Good (spendS S) m := by
  obtain ⟨e1, e2, e3, e4, e5⟩ := spend_same S
  refine ⟨by rw [e1, e2, e3, e4]; exact h.rp, by rw [e1]; exact h.lf, by rw [e4]; exact h.lj, h.m, by rw [e5]; exact h.q, ?_, by rw [e1, e5]; exact h.dl⟩
  have := h.left
  unfold spendS
  (repeat' split) <;> (try simp only) <;> omega
theorem Good.mono {S : Fsy} {m m' : Nat} (h : Good S m) (hm : m ≤ m') (h2 : m' ≤ 90000) : Good S m' :=
  ⟨h.rp.mono (Nat.le_refl _) hm, Nat.le_trans h.lf hm, Nat.le_trans h.lj hm, h2, h.q, h.left, h.dl⟩

theorem wn_cr {F m : Nat} {es : List En} (s : ByteArray) (h : WN F m es) : WN (F + 1) (m + 1) (afterE es (.cr s F)) :=
  wn_put s (h.mono (Nat.le_succ F) (Nat.le_refl m)) (Nat.lt_succ_self F) (fun hm => by
    obtain ⟨e, he, hf⟩ := List.mem_map.1 hm
    have := h.inn e he; omega)

theorem good_create {S : Fsy} {m : Nat} (s : ByteArray) (h : Good S m) (hm : m + 1 ≤ 90000) : Good (createS S s).2 (m + 1) := by
  have hmono := h.mono (Nat.le_succ m) hm
  unfold createS
  split
  · exact hmono
  · split
    · exact hmono
    · split
      · exact good_spend hmono
      · have hs := good_spend h
        obtain ⟨e1, e2, e3, e4, e5⟩ := spend_same S
        refine ⟨?_, ?_, ?_, hm, hs.q, hs.left, ?_⟩
        · simp only [List.length_append, List.length_cons, List.length_nil, e3]
          refine Rp.snoc ?_ rfl (wn_cr s h.rp.now)
          exact h.rp.mono (Nat.le_succ _) (Nat.le_succ _)
        · simp; exact h.lf
        · simp; exact h.lj
        · intro f hf
          simp only [List.mem_append, List.mem_singleton] at hf
          rcases hf with hf | hf
          · simp only [e5]; exact h.dl f hf
          · subst hf; simp

theorem fi_mem {fs : List Fi} {e : En} (h : e.file < fs.length) : fiAt fs e ∈ fs := by
  have : fs[e.file]? = some (fiAt fs e) := by simp [fiAt, List.getD, List.getElem?_eq_getElem h]
  exact List.mem_of_getElem? this

theorem lens_ge {fs : List Fi} : ∀ {es : List En} {e : En}, e ∈ es → (fiAt fs e).data.length ≤ lens fs es
  | [], _, h => by simp at h
  | x :: r, e, h => by
    have e1 : lens fs (x :: r) = (fiAt fs x).data.length + lens fs r := by simp [lens]
    rcases List.mem_cons.1 h with h2 | h2
    · subst h2; omega
    · have := lens_ge (fs := fs) h2; omega

theorem good_append {S : Fsy} {m : Nat} (s : ByteArray) (b : List UInt8) (h : Good S m) : Good (appendS S s b).2 m := by
  unfold appendS
  split
  · exact h
  · rename_i h0
    split
    · exact h
    · rename_i h1
      split
      · exact good_spend h
      · have h0' : openE S s = 0 := by simpa using h0
        obtain ⟨_, _, hh⟩ := openE_zero h0'
        have hnow := h.rp.now
        obtain ⟨g, hg, hfe, hlt⟩ := has_get hnow.asc hh
        have hmem : (⟨s, fileE S.names s⟩ : En) ∈ S.names := by rw [hfe]; exact List.mem_of_getElem? hg
        have hef := hnow.inn _ hmem
        have hge := lens_ge (fs := S.files) hmem
        have hs := good_spend h
        obtain ⟨e1, e2, e3, e4, e5⟩ := spend_same S
        refine ⟨?_, ?_, ?_, h.m, hs.q, hs.left, ?_⟩
        · simp only [List.length_set, e2, e3, e4]; exact h.rp
        · simp; exact h.lf
        · simp only [e4]; exact h.lj
        · intro f hf
          simp only [e5]
          rcases List.mem_or_eq_of_mem_set hf with hf | hf
          · exact h.dl f hf
          · subst hf
            have := h.dl _ (fi_mem hef)
            unfold usedN at h1
            simp only [List.length_append]
            omega

theorem asc_renum : ∀ {es : List En} (i : Nat), Asc es → Asc (renum i es)
  | [], _, _ => trivial
  | e :: r, i, h => by
    refine ⟨fun x hx => ?_, asc_renum (i + 1) h.2⟩
    have key : ∀ (l : List En) (j : Nat) (x : En), x ∈ renum j l → ∃ y ∈ l, y.name = x.name := by
      intro l
      induction l with
      | nil => intro j x hx; simp [renum] at hx
      | cons y r ih =>
        intro j x hx
        simp only [renum, List.mem_cons] at hx
        rcases hx with hx | hx
        · subst hx; exact ⟨y, by simp, rfl⟩
        · obtain ⟨z, hz, hn⟩ := ih (j + 1) x hx; exact ⟨z, by simp [hz], hn⟩
    obtain ⟨y, hy, hn⟩ := key r (i + 1) x hx
    show kcmp e.name x.name < 0
    rw [← hn]; exact h.1 y hy
theorem renum_files : ∀ (es : List En) (i : Nat), (renum i es).map En.file = List.range' i es.length
  | [], i => by simp [renum]
  | e :: r, i => by simp [renum, renum_files r (i + 1), List.range'_succ]
theorem wn_renum {F m : Nat} {es : List En} (h : WN F m es) : WN es.length m (renum 0 es) := by
  have hr := renum_files es 0
  refine ⟨asc_renum 0 h.asc, by rw [renum_length]; exact h.len, fun e he => ?_, by rw [hr]; exact List.nodup_range'⟩
  have : e.file ∈ (renum 0 es).map En.file := List.mem_map_of_mem he
  rw [hr, List.mem_range'_1] at this
  omega

theorem good_settle {S : Fsy} {m : Nat} (hw : WN S.files.length m S.names) (hm : m ≤ 90000) (hq : S.quota ≤ 16777216) (hl : -9223372036854775808 ≤ S.left ∧ S.left ≤ 9223372036854775807) (hd : ∀ f ∈ S.files, f.data.length ≤ S.quota ∧ f.synced ≤ f.data.length) : Good (settleS S) m := by
  refine ⟨⟨rfl, ?_⟩, by simp [settleS]; exact hw.len, by simp [settleS], hm, hq, hl, fun f hf => ?_⟩
  · simp only [settleS, List.length_map]; exact wn_renum hw
  · simp only [settleS, List.mem_map] at hf
    obtain ⟨e, he, rfl⟩ := hf
    exact hd _ (fi_mem (hw.inn e he))

theorem cutAll_length : ∀ (data : List Int) (i : Nat) (es : List En) (fs : List Fi), (cutAll data i es fs).length = fs.length
  | _, _, [], _ => rfl
  | d, i, e :: r, fs => by simp [cutAll, cutAll_length d (i + 1) r]
theorem cutAll_ok {q : Nat} : ∀ (data : List Int) (i : Nat) (es : List En) (fs : List Fi), (∀ e ∈ es, e.file < fs.length) → (∀ f ∈ fs, f.data.length ≤ q ∧ f.synced ≤ f.data.length) → ∀ f ∈ cutAll data i es fs, f.data.length ≤ q ∧ f.synced ≤ f.data.length
  | _, _, [], _, _, h => h
  | d, i, e :: r, fs, hi, h => by
    simp only [cutAll]
    refine cutAll_ok d (i + 1) r _ (fun x hx => by simp; exact hi x (by simp [hx])) (fun f hf => ?_)
    rcases List.mem_or_eq_of_mem_set hf with hf | hf
    · exact h f hf
    · subst hf
      have h1 := h _ (fi_mem (hi e (by simp)))
      have : cutN (fiAt fs e).data.length (fiAt fs e).synced (d.getD i 0) ≤ (fiAt fs e).data.length := by unfold cutN; omega
      simp only [cutF, List.length_take]
      omega
theorem good_crash {S : Fsy} {m : Nat} (names : Int) (data : List Int) (h : Good S m) : Good (crashS S names data) m := by
  have hw := jr_wn h (crashK S names)
  have := good_settle (S := { S with names := jr S (crashK S names), files := cutAll data 0 (jr S (crashK S names)) S.files }) (m := m) (by simp only [cutAll_length]; exact hw) h.m h.q h.left (cutAll_ok data 0 _ _ hw.inn h.dl)
  exact ⟨this.rp, this.lf, this.lj, this.m, this.q, by simp [crashS], this.dl⟩

theorem fsat_open {S : Fsy} {p m : Nat} {C : Chunk} {L : List Chunk} (hA : FsAt S p C) (hG : Good S m) : ∃ fv nv dv jv vs L', See L' S p fv nv dv jv vs ∧ (∀ w, Holds w (C :: L) ↔ Holds w L') ∧ (∀ C0 w, Holds w (C0 :: C :: L) ↔ Holds w (C0 :: L')) := by
  obtain ⟨fv, nv, dv, jv, vs, Cs, Cf, Cn, Cd, Cj, rfl, hf, hr, hn, hd, hj⟩ := hA
  refine ⟨fv, nv, dv, jv, vs, _, see_of (p := p) (dv := dv) (jv := jv) (Cd := Cd) (Cj := Cj) (L := L) hG hf hr hn, fun w => six, fun C0 w => ?_⟩
  simp [Holds, List.append_assoc]

theorem read_2 (S : Fsy) (p m : Nat) (s : ByteArray) (C : Chunk) (L : List Chunk) (hA : FsAt S p C) (hG : Good S m) :
    Gv Try.prog 17 [.pointer (some ⟨p, 0, none⟩), .string s].toArray (C :: L)
      (fun r L' => ∃ v C', r = .tuple #[v, .int .i64 (openE S s)] ∧ L' = C' :: C :: L ∧ (openE S s = 0 → Ow 5 1 v (fiAt S.files ⟨s, fileE S.names s⟩).data.length (bsv (fiAt S.files ⟨s, fileE S.names s⟩).data) C') ∧ (openE S s ≠ 0 → v = .slice none 0 0 ∧ C' = [])) := by
  obtain ⟨fv, nv, dv, jv, vs, L', hS, h1, h2⟩ := fsat_open (L := L) hA hG
  have base := read_1 S p fv nv dv jv vs s L' hS (fun f hf => by have := hG.dl f hf; have := hG.q; omega)
  refine ⟨fun w hw => (base.out w ((h1 w).1 hw)).mono fun _ w' he => ?_⟩
  obtain ⟨r, L2, e1, ⟨v, C', e2, e3, e4, e5⟩, hw'⟩ := he
  subst e3
  exact ⟨r, _, e1, ⟨v, C', e2, rfl, e4, e5⟩, (h2 C' w').2 hw'⟩
theorem list_2 (S : Fsy) (p m : Nat) (pre : ByteArray) (C : Chunk) (L : List Chunk) (hA : FsAt S p C) (hG : Good S m) :
    Gv Try.prog 16 [.pointer (some ⟨p, 0, none⟩), .string pre].toArray (C :: L)
      (fun r L' => ∃ C', L' = C' :: C :: L ∧ Ow 9 1 r (listS S pre).length (strsV (listS S pre)) C') := by
  obtain ⟨fv, nv, dv, jv, vs, L', hS, h1, h2⟩ := fsat_open (L := L) hA hG
  have base := list_1 S p fv nv dv jv vs pre L' hS
  refine ⟨fun w hw => (base.out w ((h1 w).1 hw)).mono fun _ w' he => ?_⟩
  obtain ⟨r, L2, e1, ⟨C', e3, e4⟩, hw'⟩ := he
  subst e3
  exact ⟨r, _, e1, ⟨C', rfl, e4⟩, (h2 C' w').2 hw'⟩
theorem used_2 (S : Fsy) (p m : Nat) (C : Chunk) (L : List Chunk) (hA : FsAt S p C) (hG : Good S m) :
    GvP Try.prog 26 [.pointer (some ⟨p, 0, none⟩)].toArray (C :: L) (.int .i64 (usedN S : Int)) := by
  obtain ⟨fv, nv, dv, jv, vs, L', hS, h1, h2⟩ := fsat_open (L := L) hA hG
  have base := used_1 S p fv nv dv jv vs L' hS (by have := used_le hG; omega)
  refine ⟨fun w hw => (base.out w ((h1 w).1 hw)).mono fun _ w' he => ?_⟩
  obtain ⟨r, L2, e1, ⟨e2, e3⟩, hw'⟩ := he
  subst e3
  exact ⟨r, _, e1, ⟨e2, rfl⟩, (h1 w').2 hw'⟩
end Go.Proofs.Ytgicjngbaomigaa
