/- FsRoom: what the files of all names hold together, over the pure file system. It proves no statement by itself. No conditions. -/
import Derived.Test.YtgicjngbaomigaaJs
namespace Go.Proofs.Ytgicjngbaomigaa
open Go Go.Vx
set_option linter.all false
variable [W0]
set_option maxRecDepth 4000

theorem get_split {α : Type} {l : List α} {k : Nat} {x : α} (h : l[k]? = some x) : k < l.length ∧ l = l.take k ++ (x :: l.drop (k + 1)) := by
  have hk : k < l.length := by
    rcases Nat.lt_or_ge k l.length with h' | h'
    · exact h'
    · simp [List.getElem?_eq_none h'] at h
  rw [List.getElem?_eq_getElem hk] at h
  refine ⟨hk, ?_⟩
  rw [← Option.some.inj h, ← List.drop_eq_getElem_cons hk, List.take_append_drop]
theorem lens_cons (fs : List Fi) (e : En) (r : List En) : lens fs (e :: r) = (fiAt fs e).data.length + lens fs r := by simp [lens]
theorem lens_erase {fs : List Fi} {es : List En} {i : Nat} {e : En} (h : es[i]? = some e) : lens fs (es.eraseIdx i) + (fiAt fs e).data.length = lens fs es := by
  obtain ⟨_, e1⟩ := get_split h
  rw [List.eraseIdx_eq_take_drop_succ, lens_append]
  conv => rhs; rw [e1]
  rw [lens_append, lens_cons]
  omega
theorem lens_set_en {fs : List Fi} {es : List En} {i : Nat} {e e' : En} (h : es[i]? = some e) : lens fs (es.set i e') + (fiAt fs e).data.length = lens fs es + (fiAt fs e').data.length := by
  obtain ⟨hk, e1⟩ := get_split h
  rw [List.set_eq_take_append_cons_drop, if_pos hk, lens_append, lens_cons]
  conv => rhs; rw [e1]
  rw [lens_append, lens_cons]
  omega
theorem lens_ins (fs : List Fi) (es : List En) (i : Nat) (e : En) : lens fs (insE es i e) = lens fs es + (fiAt fs e).data.length := by
  unfold insE
  rw [lens_append, lens_cons]
  have : lens fs es = lens fs (es.take i) + lens fs (es.drop i) := by rw [← lens_append, List.take_append_drop]
  omega
theorem lens_put_new {fs : List Fi} {es : List En} {s : ByteArray} {f : Nat} (h : has es s = false) : lens fs (putE es s f) = lens fs es + (fiAt fs ⟨s, f⟩).data.length := by
  unfold putE
  rw [h]
  simpa using lens_ins fs es _ _
theorem lens_put_le {fs : List Fi} {es : List En} {s : ByteArray} {f : Nat} (ha : Asc es) : lens fs (putE es s f) ≤ lens fs es + (fiAt fs ⟨s, f⟩).data.length := by
  cases h : has es s with
  | false => rw [lens_put_new h]; omega
  | true =>
    obtain ⟨g, hg, _, _⟩ := has_get ha h
    unfold putE
    rw [if_pos h]
    have := lens_set_en (fs := fs) (e' := ⟨s, f⟩) hg
    omega
theorem lens_drop_le (fs : List Fi) (es : List En) (s : ByteArray) : lens fs (dropE es s) ≤ lens fs es := by
  unfold dropE
  cases h : es[pos es s]? with
  | none =>
    rw [List.eraseIdx_of_length_le (by simpa using h)]
    exact Nat.le_refl _
  | some e => have := lens_erase (fs := fs) h; omega
theorem lens_rn {fs : List Fi} {es : List En} {a b : ByteArray} (ha : Asc es) (h : has es a = true) : lens fs (putE (dropE es a) b (fileE es a)) ≤ lens fs es := by
  obtain ⟨g, hg, hf, _⟩ := has_get ha h
  have h1 := lens_put_le (fs := fs) (s := b) (f := fileE es a) (asc_drop a ha)
  have h2 := lens_erase (fs := fs) hg
  have h3 : (fiAt fs ⟨b, fileE es a⟩).data.length = (fiAt fs ⟨a, g⟩).data.length := by rw [hf]; rfl
  unfold dropE at h1 ⊢
  omega
theorem lens_more {fs gs : List Fi} : ∀ {es : List En}, (∀ e ∈ es, e.file < fs.length) → lens (fs ++ gs) es = lens fs es
  | [], _ => rfl
  | e :: r, h => by
    have ih := lens_more (fs := fs) (gs := gs) (es := r) (fun x hx => h x (by simp [hx]))
    have h1 : fiAt (fs ++ gs) e = fiAt fs e := by
      have := h e (by simp)
      simp [fiAt, List.getD, List.getElem?_append_left this]
    rw [lens_cons, lens_cons, ih, h1]
theorem lens_other {fs : List Fi} {i : Nat} {f : Fi} : ∀ {es : List En}, i ∉ es.map En.file → lens (fs.set i f) es = lens fs es
  | [], _ => rfl
  | e :: r, h => by
    simp only [List.map_cons, List.mem_cons, not_or] at h
    have ih := lens_other (fs := fs) (f := f) h.2
    have h1 : fiAt (fs.set i f) e = fiAt fs e := by simp [fiAt, List.getD, List.getElem?_set_ne h.1]
    rw [lens_cons, lens_cons, ih, h1]
theorem lens_set_f {fs : List Fi} {i : Nat} {f : Fi} (hl : i < fs.length) : ∀ {es : List En} {e : En}, (es.map En.file).Nodup → e ∈ es → e.file = i → lens (fs.set i f) es + (fiAt fs e).data.length = lens fs es + f.data.length
  | [], _, _, h, _ => by simp at h
  | x :: r, e, hn, he, hi => by
    simp only [List.map_cons, List.nodup_cons] at hn
    rcases List.mem_cons.1 he with h2 | h2
    · subst h2
      have h1 : fiAt (fs.set i f) e = f := by simp [fiAt, List.getD, hi, hl]
      have h3 := lens_other (fs := fs) (f := f) (i := i) (es := r) (by rw [← hi]; exact hn.1)
      rw [lens_cons, lens_cons, h1, h3]; omega
    · have ih := lens_set_f hl (f := f) hn.2 h2 hi
      have hne : i ≠ x.file := fun h => hn.1 (by rw [← h, ← hi]; exact List.mem_map_of_mem h2)
      have h1 : fiAt (fs.set i f) x = fiAt fs x := by simp [fiAt, List.getD, List.getElem?_set_ne hne]
      rw [lens_cons, lens_cons, h1]; omega

structure Rm (S : Fsy) (q m : Nat) : Prop where
  g : Good S m
  n : NmOk S
  d : S.dead = false
  l : S.left = -1
  qq : S.quota = q
  u : usedN S ≤ q
theorem rm_spend {S : Fsy} {q m : Nat} (h : Rm S q m) : spendE S = 0 ∧ spendS S = S := by
  obtain ⟨_, _, hd, hl, _, _⟩ := h
  refine ⟨by simp [spendE, hd, hl], ?_⟩
  unfold spendS
  rw [if_neg (by rw [hd, hl]; simp), if_neg (by rw [hl]; decide)]
theorem Rm.mono {S : Fsy} {q m m' : Nat} (h : Rm S q m) (hm : m ≤ m') (h2 : m' ≤ 90000) : Rm S q m' := ⟨h.g.mono hm h2, h.n, h.d, h.l, h.qq, h.u⟩
theorem rm_new {q : Nat} (hq : q ≤ 16777216) : Rm (newS q) q 0 :=
  ⟨good_new q hq, ⟨fun e h => by simp [newS] at h, fun e h => by simp [newS] at h, fun e h => by simp [newS] at h⟩, rfl, rfl, rfl, by simp [usedN, newS, lens]⟩
theorem rm_rename {S : Fsy} {q m : Nat} (a b : ByteArray) (h : Rm S q m) (hm : m + 1 ≤ 90000) : Rm (renameS S a b).2 q (m + 1) := by
  have hg := good_rename a b h.g hm
  have hn := nm_rename (a := a) (b := b) h.n
  obtain ⟨s1, s2⟩ := rm_spend h
  have key : (renameS S a b).2 = S ∨ (openE S a = 0 ∧ (renameS S a b).2 = { S with names := afterE S.names (.rn a b), journal := S.journal ++ [.rn a b] }) := by
    unfold renameS
    rw [s1, s2]
    split
    · exact .inl rfl
    split
    · exact .inl rfl
    rename_i h2
    split
    · exact .inl rfl
    split
    · exact .inl rfl
    · exact .inr ⟨by simpa using h2, rfl⟩
  rcases key with hk | ⟨ho, hk⟩
  · rw [hk]; exact h.mono (Nat.le_succ m) hm
  · rw [hk] at hg hn ⊢
    refine ⟨hg, hn, h.d, h.l, h.qq, ?_⟩
    have := lens_rn (fs := S.files) (b := b) h.g.rp.now.asc (openE_zero ho).2.2
    exact Nat.le_trans this h.u
theorem rm_remove {S : Fsy} {q m : Nat} (a : ByteArray) (h : Rm S q m) (hm : m + 1 ≤ 90000) : Rm (removeS S a).2 q (m + 1) := by
  have hg := good_remove a h.g hm
  have hn := nm_remove (a := a) h.n
  obtain ⟨s1, s2⟩ := rm_spend h
  have key : (removeS S a).2 = S ∨ (removeS S a).2 = { S with names := afterE S.names (.rm a), journal := S.journal ++ [.rm a] } := by
    unfold removeS
    rw [s1, s2]
    split
    · exact .inl rfl
    split
    · exact .inl rfl
    · exact .inr rfl
  rcases key with hk | hk
  · rw [hk]; exact h.mono (Nat.le_succ m) hm
  · rw [hk] at hg hn ⊢
    exact ⟨hg, hn, h.d, h.l, h.qq, Nat.le_trans (lens_drop_le _ _ _) h.u⟩
theorem rm_create {S : Fsy} {q m : Nat} (s : ByteArray) (h : Rm S q m) (hm : m + 1 ≤ 90000) (hs : nameOk s = true) :
    Rm (createS S s).2 q (m + 1) ∧ usedN (createS S s).2 = usedN S ∧ openE (createS S s).2 s = 0 := by
  have hg := good_create s h.g hm
  have hn := nm_create (s := s) h.n
  obtain ⟨s1, s2⟩ := rm_spend h
  cases hh : has S.names s with
  | true =>
    have ho : openE S s = 0 := by simp [openE, h.d, hs, hh]
    have hk : (createS S s).2 = S := by simp [createS, ho]
    rw [hk]
    exact ⟨h.mono (Nat.le_succ m) hm, rfl, ho⟩
  | false =>
    have ho : openE S s = 61 := by simp [openE, h.d, hs, hh]
    have hk : (createS S s).2 = { S with files := S.files ++ [⟨[], 0⟩], names := afterE S.names (.cr s S.files.length), journal := S.journal ++ [.cr s S.files.length] } := by
      unfold createS
      rw [s1, s2, if_neg (by rw [ho]; decide), if_neg (by rw [ho]; decide), if_neg (by decide)]
    have hu : usedN (createS S s).2 = usedN S := by
      rw [hk]
      show lens (S.files ++ [⟨[], 0⟩]) (putE S.names s S.files.length) = lens S.files S.names
      rw [lens_put_new hh, lens_more h.g.rp.now.inn]
      simp [fiAt, List.getD]
    refine ⟨⟨hg, hn, by rw [hk]; exact h.d, by rw [hk]; exact h.l, by rw [hk]; exact h.qq, by rw [hu]; exact h.u⟩, hu, ?_⟩
    rw [hk]
    have hp : has (putE S.names s S.files.length) s = true := by
      unfold has putE
      rw [if_neg (by rw [hh]; decide), List.any_eq_true]
      exact ⟨⟨s, S.files.length⟩, by unfold insE; simp, by simp⟩
    show (if S.dead = true then (50 : Int) else if nameOk s = false then 1 else if has (putE S.names s S.files.length) s = false then 61 else 0) = 0
    rw [h.d, hs, hp]; rfl
theorem rm_append {S : Fsy} {q m : Nat} (s : ByteArray) (b : List UInt8) (h : Rm S q m) (ho : openE S s = 0) :
    Rm (appendS S s b).2 q m ∧ ((usedN S + b.length ≤ q ∧ (appendS S s b).1 = 0 ∧ usedN (appendS S s b).2 = usedN S + b.length) ∨ (q < usedN S + b.length ∧ (appendS S s b).1 = 60)) := by
  have hg := good_append s b h.g
  have hn := nm_append (s := s) (b := b) h.n
  obtain ⟨s1, s2⟩ := rm_spend h
  rcases Nat.lt_or_ge q (usedN S + b.length) with hf | hf
  · have hk : appendS S s b = (60, S) := by
      unfold appendS
      rw [if_neg (by rw [ho]; decide), if_pos (by rw [h.qq]; exact hf)]
    rw [hk]
    exact ⟨h, .inr ⟨hf, rfl⟩⟩
  · have hk : appendS S s b = (0, { S with files := S.files.set (fileE S.names s) ⟨(fiAt S.files ⟨s, fileE S.names s⟩).data ++ b, (fiAt S.files ⟨s, fileE S.names s⟩).synced⟩ }) := by
      unfold appendS
      rw [if_neg (by rw [ho]; decide), if_neg (by rw [h.qq]; omega), s1, s2, if_neg (by decide)]
    have hw := h.g.rp.now
    obtain ⟨g, hgt, hfe, _⟩ := has_get hw.asc (openE_zero ho).2.2
    have hm := List.mem_of_getElem? hgt
    have hlt : fileE S.names s < S.files.length := by rw [hfe]; exact hw.inn _ hm
    have hu : usedN (appendS S s b).2 = usedN S + b.length := by
      rw [hk]
      show lens (S.files.set _ _) S.names = lens S.files S.names + b.length
      have h1 := lens_set_f (f := ⟨(fiAt S.files ⟨s, fileE S.names s⟩).data ++ b, (fiAt S.files ⟨s, fileE S.names s⟩).synced⟩) hlt hw.dist hm hfe.symm
      have h2 : fiAt S.files ⟨s, g⟩ = fiAt S.files ⟨s, fileE S.names s⟩ := by rw [hfe]
      rw [h2] at h1
      simp only [List.length_append] at h1
      omega
    refine ⟨⟨hg, hn, by rw [hk]; exact h.d, by rw [hk]; exact h.l, by rw [hk]; exact h.qq, by rw [hu]; exact hf⟩, .inl ⟨hf, by rw [hk], hu⟩⟩
theorem takeWhile_all {α : Type} {p : α → Bool} : ∀ {l : List α}, (∀ x ∈ l, p x = true) → l.takeWhile p = l
  | [], _ => rfl
  | x :: r, h => by rw [List.takeWhile_cons, if_pos (h x (by simp)), takeWhile_all (fun y hy => h y (by simp [hy]))]
theorem hasP_nil (s : ByteArray) : hasP s ⟨#[]⟩ = true := by
  have h0 : (⟨#[]⟩ : ByteArray).size = 0 := rfl
  have h1 : s.extract 0 0 = ⟨#[]⟩ := by
    apply ByteArray.ext
    simp [ByteArray.data_extract]
  unfold hasP
  rw [h0, h1]
  simp
theorem pos_nil : ∀ es : List En, pos es ⟨#[]⟩ = 0
  | [] => rfl
  | e :: r => by
    unfold pos
    rw [if_neg]
    unfold kcmp
    cases e.name.data.toList <;> simp [Lib.compareBytes]
theorem list_all {S : Fsy} (hd : S.dead = false) : listS S ⟨#[]⟩ = S.names := by
  unfold listS listE
  rw [if_neg (by rw [hd]; decide), pos_nil, List.drop_zero]
  exact takeWhile_all fun e _ => hasP_nil e.name
theorem file_of {S : Fsy} {m : Nat} (h : Good S m) {k : Nat} {e : En} (he : S.names[k]? = some e) : fileE S.names e.name = e.file := by
  have hp := pos_at h.rp.now.asc he
  simp [fileE, hp, he]
theorem GvP.tk {P : Program} {f : FuncId} {args : Array Value} {v : Value} {C : Chunk} {L L' : List Chunk} (h : GvP P f args (C :: L') v) (ht : Take C L L') : GvP P f args L v :=
  ⟨fun w hw => (h.out w (hw.take ht)).mono fun _ _ he => by
    obtain ⟨v', L'', e1, ⟨e2, e3⟩, hw'⟩ := he
    subst e2 e3
    exact ⟨v', L, e1, ⟨rfl, rfl⟩, hw'.perm ht.perm.symm⟩⟩

end Go.Proofs.Ytgicjngbaomigaa
