/- Plain facts on names, files and the journal; what a file system is whole. It proves no statement by itself. No conditions. -/
import Derived.Test.YtgicjngbaomigaaFg
namespace Go.Proofs.Ytgicjngbaomigaa
open Go Go.Vx
variable [W0]
set_option maxRecDepth 4000
set_option linter.all false

theorem mem_insE {es : List En} {i : Nat} {e x : En} : x ∈ insE es i e ↔ x = e ∨ x ∈ es := by
  unfold insE
  rw [List.mem_append, List.mem_cons]
  constructor
  · rintro (h | h | h)
    · exact .inr (List.mem_of_mem_take h)
    · exact .inl h
    · exact .inr (List.mem_of_mem_drop h)
  · rintro (h | h)
    · exact .inr (.inl h)
    · rw [← List.take_append_drop i es, List.mem_append] at h
      rcases h with h | h
      · exact .inl h
      · exact .inr (.inr h)

theorem asc_append : ∀ {a b : List En}, Asc a → Asc b → (∀ x ∈ a, ∀ y ∈ b, kcmp x.name y.name < 0) → Asc (a ++ b)
  | [], b, _, hb, _ => hb
  | e :: r, b, ha, hb, h => by
    refine ⟨fun x hx => ?_, asc_append ha.2 hb (fun x hx => h x (by simp [hx]))⟩
    rcases List.mem_append.1 hx with h2 | h2
    · exact ha.1 x h2
    · exact h e (by simp) x h2
theorem asc_take : ∀ {es : List En} (i : Nat), Asc es → Asc (es.take i)
  | [], i, _ => by simp [Asc]
  | e :: r, 0, _ => by simp [Asc]
  | e :: r, i + 1, h => by
    simp only [List.take_succ_cons]
    exact ⟨fun x hx => h.1 x (List.mem_of_mem_take hx), asc_take i h.2⟩
theorem asc_dropn : ∀ {es : List En} (i : Nat), Asc es → Asc (es.drop i)
  | [], i, _ => by simp [Asc]
  | e :: r, 0, h => by simpa using h
  | e :: r, i + 1, h => by simpa using asc_dropn i h.2

theorem mem_take_idx {es : List En} {i : Nat} {x : En} (h : x ∈ es.take i) : ∃ k, k < i ∧ es[k]? = some x := by
  obtain ⟨k, hk⟩ := List.getElem?_of_mem h
  rw [List.getElem?_take] at hk
  split at hk
  · exact ⟨k, by assumption, hk⟩
  · simp at hk
theorem mem_drop_idx {es : List En} {i : Nat} {x : En} (h : x ∈ es.drop i) : ∃ k, i ≤ k ∧ es[k]? = some x := by
  obtain ⟨k, hk⟩ := List.getElem?_of_mem h
  rw [List.getElem?_drop] at hk
  exact ⟨i + k, by omega, hk⟩

theorem has_false {es : List En} {s : ByteArray} (h : has es s = false) {e : En} (he : e ∈ es) : e.name ≠ s := by
  intro hn
  have : has es s = true := by unfold has; rw [List.any_eq_true]; exact ⟨e, he, by simpa using hn⟩
  rw [h] at this; cases this

theorem asc_put {es : List En} (s : ByteArray) (f : Nat) (ha : Asc es) : Asc (putE es s f) := by
  unfold putE
  split
  · rename_i hh
    obtain ⟨g, hg, _, hlt⟩ := has_get ha hh
    have key : ∀ (l : List En) (i : Nat) (e e' : En), l[i]? = some e → e.name = e'.name → Asc l → Asc (l.set i e') := by
      intro l
      induction l with
      | nil => intro i e e' h; simp at h
      | cons x r ih =>
        intro i e e' h hn hl
        cases i with
        | zero =>
          simp at h; subst h
          exact ⟨fun y hy => by rw [← hn]; exact hl.1 y hy, hl.2⟩
        | succ i =>
          simp only [List.set_cons_succ]
          refine ⟨fun y hy => ?_, ih i e e' (by simpa using h) hn hl.2⟩
          rcases List.mem_or_eq_of_mem_set hy with h2 | h2
          · exact hl.1 y h2
          · subst h2
            rw [← hn]; exact hl.1 e (List.mem_of_getElem? (by simpa using h))
    exact key _ _ _ _ hg rfl ha
  · rename_i hh
    have hh' : has es s = false := by simpa using hh
    unfold insE
    refine asc_append (asc_take _ ha) ⟨fun y hy => ?_, asc_dropn _ ha⟩ (fun x hx y hy => ?_)
    · obtain ⟨k, hk, hky⟩ := mem_drop_idx hy
      have h1 : ¬ kcmp y.name s < 0 := fun h => by have := (pos_spec (s := s) ha hky).1 h; omega
      have h2 : kcmp y.name s ≠ 0 := fun h => has_false hh' (List.mem_of_getElem? hky) (kcmp_eq.1 h)
      rw [kcmp_neg]; simp only; omega
    · obtain ⟨k, hk, hkx⟩ := mem_take_idx hx
      have h1 : kcmp x.name s < 0 := (pos_spec (s := s) ha hkx).2 hk
      rcases List.mem_cons.1 hy with h2 | h2
      · subst h2; exact h1
      · obtain ⟨j, hj, hjy⟩ := mem_drop_idx h2
        exact asc_get ha (by omega) hkx hjy

theorem put_length {es : List En} {s : ByteArray} {f : Nat} : (putE es s f).length ≤ es.length + 1 := by
  unfold putE insE
  split
  · simp
  · simp; omega
theorem mem_put {es : List En} {s : ByteArray} {f : Nat} {x : En} (h : x ∈ putE es s f) : x = ⟨s, f⟩ ∨ x ∈ es := by
  unfold putE at h
  split at h
  · rcases List.mem_or_eq_of_mem_set h with h2 | h2
    · exact .inr h2
    · exact .inl h2
  · exact mem_insE.1 h
theorem nodup_put {es : List En} {s : ByteArray} {f : Nat} (hn : (es.map En.file).Nodup) (hf : f ∉ es.map En.file) : ((putE es s f).map En.file).Nodup := by
  unfold putE
  split
  · rw [List.map_set]
    have key : ∀ (l : List Nat) (i : Nat), l.Nodup → f ∉ l → (l.set i f).Nodup := by
      intro l
      induction l with
      | nil => intro i _ _; simp
      | cons x r ih =>
        intro i hl hf
        simp only [List.nodup_cons, List.mem_cons, not_or] at hl hf
        cases i with
        | zero => simp only [List.set_cons_zero, List.nodup_cons]; exact ⟨hf.2, hl.2⟩
        | succ i =>
          simp only [List.set_cons_succ, List.nodup_cons]
          refine ⟨fun hm => ?_, ih i hl.2 hf.2⟩
          rcases List.mem_or_eq_of_mem_set hm with h2 | h2
          · exact hl.1 h2
          · exact hf.1 h2.symm
    exact key _ _ hn hf
  · unfold insE
    rw [List.map_append, List.map_cons]
    have hsp : es.map En.file = (es.take (pos es s)).map En.file ++ (es.drop (pos es s)).map En.file := by rw [← List.map_append, List.take_append_drop]
    rw [hsp] at hn hf
    have hp : ((es.take (pos es s)).map En.file ++ f :: (es.drop (pos es s)).map En.file).Perm (f :: ((es.take (pos es s)).map En.file ++ (es.drop (pos es s)).map En.file)) := List.perm_middle
    exact hp.nodup_iff.2 (List.nodup_cons.2 ⟨hf, hn⟩)
theorem mem_dropE {es : List En} {s : ByteArray} {x : En} (h : x ∈ dropE es s) : x ∈ es := List.mem_of_mem_eraseIdx h
theorem drop_length {es : List En} {s : ByteArray} : (dropE es s).length ≤ es.length := List.length_eraseIdx_le _ _
theorem map_eraseIdx' {α β : Type} (f : α → β) : ∀ (l : List α) (i : Nat), (l.eraseIdx i).map f = (l.map f).eraseIdx i
  | [], i => by simp
  | x :: r, 0 => by simp
  | x :: r, i + 1 => by simp [map_eraseIdx' f r i]
theorem nodup_drop {es : List En} {s : ByteArray} (hn : (es.map En.file).Nodup) : ((dropE es s).map En.file).Nodup := by
  unfold dropE
  rw [map_eraseIdx']
  exact hn.sublist (List.eraseIdx_sublist _ _)
theorem file_not_drop {es : List En} {s : ByteArray} (ha : Asc es) (hh : has es s = true) (hn : (es.map En.file).Nodup) : fileE es s ∉ (dropE es s).map En.file := by
  obtain ⟨g, hg, hfe, hlt⟩ := has_get ha hh
  rw [hfe]
  unfold dropE
  rw [List.eraseIdx_eq_take_drop_succ, List.map_append, List.mem_append]
  have hsp : es = es.take (pos es s) ++ ⟨s, g⟩ :: es.drop (pos es s + 1) := by
    have h2 : es[pos es s] = ⟨s, g⟩ := by rw [List.getElem?_eq_getElem hlt] at hg; exact Option.some.inj hg
    rw [← h2, ← List.drop_eq_getElem_cons hlt, List.take_append_drop]
  have hn2 : (((es.take (pos es s)).map En.file) ++ g :: (es.drop (pos es s + 1)).map En.file).Nodup := by
    have := congrArg (List.map En.file) hsp
    rw [List.map_append, List.map_cons] at this
    rw [← this]; exact hn
  have hn3 := (List.perm_middle.nodup_iff).1 hn2
  simp only [List.nodup_cons, List.mem_append, not_or] at hn3
  intro h
  rcases h with h | h
  · exact hn3.1.1 h
  · exact hn3.1.2 h

omit [W0] in
/-- Names that are whole: over F files, at most m. -/
structure WN (F m : Nat) (es : List En) : Prop where
  asc : Asc es
  len : es.length ≤ m
  inn : ∀ e ∈ es, e.file < F
  dist : (es.map En.file).Nodup
theorem WN.mono {F m F' m' : Nat} {es : List En} (h : WN F m es) (hF : F ≤ F') (hm : m ≤ m') : WN F' m' es :=
  ⟨h.asc, Nat.le_trans h.len hm, fun e he => Nat.lt_of_lt_of_le (h.inn e he) hF, h.dist⟩

theorem fileE_lt {F m : Nat} {es : List En} {s : ByteArray} (h : WN F m es) (hh : has es s = true) : fileE es s < F := by
  obtain ⟨g, hg, hfe, hlt⟩ := has_get h.asc hh
  rw [hfe]; exact h.inn _ (List.mem_of_getElem? hg)

theorem wn_drop {F m : Nat} {es : List En} (s : ByteArray) (h : WN F m es) : WN F m (dropE es s) :=
  ⟨asc_drop s h.asc, Nat.le_trans drop_length h.len, fun e he => h.inn e (mem_dropE he), nodup_drop h.dist⟩
theorem wn_put {F m : Nat} {es : List En} (s : ByteArray) {f : Nat} (h : WN F m es) (hf : f < F) (hn : f ∉ es.map En.file) : WN F (m + 1) (putE es s f) :=
  ⟨asc_put s f h.asc, Nat.le_trans put_length (by have := h.len; omega), fun e he => by
    rcases mem_put he with h2 | h2
    · subst h2; exact hf
    · exact h.inn e h2, nodup_put h.dist hn⟩
theorem wn_rn {F m : Nat} {es : List En} {a : ByteArray} (b : ByteArray) (h : WN F m es) (hh : has es a = true) : WN F (m + 1) (afterE es (.rn a b)) :=
  wn_put b (wn_drop a h) (fileE_lt h hh) (file_not_drop h.asc hh h.dist)
theorem wn_rm {F m : Nat} {es : List En} (a : ByteArray) (h : WN F m es) : WN F m (afterE es (.rm a)) := wn_drop a h

omit [W0] in
/-- The journal leads from the durable names to the present ones. -/
def Rp (F m : Nat) : List En → List Ch → List En → Prop
  | ds, [], ns => ds = ns ∧ WN F m ds
  | ds, c :: j, ns => chOk ds c = true ∧ WN F m ds ∧ Rp F m (afterE ds c) j ns
theorem Rp.mono {F m F' m' : Nat} (hF : F ≤ F') (hm : m ≤ m') : ∀ {ds : List En} {j : List Ch} {ns : List En}, Rp F m ds j ns → Rp F' m' ds j ns
  | _, [], _, h => ⟨h.1, h.2.mono hF hm⟩
  | _, _ :: _, _, h => ⟨h.1, h.2.1.mono hF hm, Rp.mono hF hm h.2.2⟩
theorem Rp.snoc {F m : Nat} {c : Ch} : ∀ {ds : List En} {j : List Ch} {ns : List En}, Rp F m ds j ns → chOk ns c = true → WN F m (afterE ns c) → Rp F m ds (j ++ [c]) (afterE ns c)
  | _, [], _, h, hc, hw => by obtain ⟨h1, h2⟩ := h; subst h1; exact ⟨hc, h2, rfl, hw⟩
  | _, _ :: _, _, h, hc, hw => ⟨h.1, h.2.1, Rp.snoc h.2.2 hc hw⟩
theorem Rp.now {F m : Nat} : ∀ {ds : List En} {j : List Ch} {ns : List En}, Rp F m ds j ns → WN F m ns
  | _, [], _, h => by obtain ⟨h1, h2⟩ := h; subst h1; exact h2
  | _, _ :: _, _, h => Rp.now h.2.2
theorem Rp.was {F m : Nat} : ∀ {ds : List En} {j : List Ch} {ns : List En}, Rp F m ds j ns → WN F m ds
  | _, [], _, h => h.2
  | _, _ :: _, _, h => h.2.1
/-- A beginning of the journal. -/
theorem Rp.pre {F m : Nat} : ∀ {ds : List En} {j : List Ch} {ns : List En} (k : Nat), Rp F m ds j ns → Rp F m ds (j.take k) ((j.take k).foldl afterE ds)
  | _, [], _, k, h => by simp only [List.take_nil, List.foldl_nil]; exact ⟨rfl, h.2⟩
  | _, _ :: _, _, 0, h => ⟨rfl, h.2.1⟩
  | _, _ :: _, _, k + 1, h => by simp only [List.take_succ_cons, List.foldl_cons]; exact ⟨h.1, h.2.1, Rp.pre k h.2.2⟩

omit [W0] in
structure Good (S : Fsy) (m : Nat) : Prop where
  rp : Rp S.files.length m S.durable S.journal S.names
  lf : S.files.length ≤ m
  lj : S.journal.length ≤ m
  m : m ≤ 90000
  q : S.quota ≤ 16777216
  left : -9223372036854775808 ≤ S.left ∧ S.left ≤ 9223372036854775807
  dl : ∀ f ∈ S.files, f.data.length ≤ S.quota ∧ f.synced ≤ f.data.length

omit [W0] in
/-- A file system, whole, in one chunk. -/
def FsAt (S : Fsy) (p : Nat) (C : Chunk) : Prop := ∃ fv nv dv jv vs Cs Cf Cn Cd Cj,
  C = hdr S p fv nv dv jv ++ (Cf ++ (Cn ++ (Cd ++ (Cj ++ Cs.flatten)))) ∧ Ow 90 2 fv S.files.length (fcl S.files vs) Cf ∧ FR S.files vs Cs ∧
  Ow 99 2 nv S.names.length (ents S.names) Cn ∧ Ow 99 2 dv S.durable.length (ents S.durable) Cd ∧ Ow 97 1 jv S.journal.length (S.journal.map chV) Cj

theorem six {w : World} {A B C D E F : Chunk} {L : List Chunk} : Holds w ((A ++ (B ++ (C ++ (D ++ (E ++ F))))) :: L) ↔ Holds w (A :: B :: C :: D :: E :: F :: L) := by
  simp [Holds, List.append_assoc]

theorem sl_there {L : List Chunk} {C : Chunk} {k m : Nat} {v : Value} {xs : List Value} (h : Sl L k v m xs) : Sl (C :: L) k v m xs := by
  rcases h with h | ⟨a, cap, e1, h5, h6⟩
  · exact .inl h
  · refine .inr ⟨a, cap, e1, ?_, h6⟩
    rcases h5 with h | ⟨b, off, c, T, fr, e2, h7, h8⟩
    · exact .inl h
    · exact .inr ⟨b, off, c, T, fr, e2, h7.there, h8⟩

theorem used_le {S : Fsy} {m : Nat} (h : Good S m) : usedN S ≤ 1600000000000 := by
  have hw := h.rp.now
  have key : ∀ es : List En, (∀ e ∈ es, e.file < S.files.length) → lens S.files es ≤ es.length * 16777216 := by
    intro es
    induction es with
    | nil => intro _; simp [lens]
    | cons e r ih =>
      intro hin
      have h1 := ih (fun x hx => hin x (by simp [hx]))
      have he := hin e (by simp)
      have h2 : (fiAt S.files e).data.length ≤ 16777216 := by
        have : fiAt S.files e ∈ S.files := by
          have : S.files[e.file]? = some (fiAt S.files e) := by simp [fiAt, List.getD, List.getElem?_eq_getElem he]
          exact List.mem_of_getElem? this
        have h3 := (h.dl _ this).1
        have := h.q; omega
      have : lens S.files (e :: r) = (fiAt S.files e).data.length + lens S.files r := by simp [lens]
      rw [this]; simp only [List.length_cons]; omega
  have h1 := key S.names hw.inn
  have h2 := hw.len
  have h3 := h.m
  have h4 : S.names.length * 16777216 ≤ 90000 * 16777216 := Nat.mul_le_mul_right _ (by omega)
  unfold usedN
  omega

theorem FR.split {fs : List Fi} {vs : List Value} {Cs : List Chunk} {i : Nat} {f : Fi} (h : FR fs vs Cs) (hi : fs[i]? = some f) :
    ∃ v C D1 D2, vs[i]? = some v ∧ Ow 5 1 v f.data.length (bsv f.data) C ∧ Cs.flatten = D1 ++ (C ++ D2) ∧
      ∀ f' v' C', Ow 5 1 v' f'.data.length (bsv f'.data) C' → ∃ Cs', FR (fs.set i f') (vs.set i v') Cs' ∧ Cs'.flatten = D1 ++ (C' ++ D2) := by
  obtain ⟨v, C, h1, h2, h3⟩ := h.at_ i f hi
  have hlt : i < Cs.length := by
    rcases Nat.lt_or_ge i Cs.length with h' | h'
    · exact h'
    · simp [List.getElem?_eq_none h'] at h2
  have hC : Cs[i] = C := by rw [List.getElem?_eq_getElem hlt] at h2; exact Option.some.inj h2
  refine ⟨v, C, (Cs.take i).flatten, (Cs.drop (i + 1)).flatten, h1, h3, ?_, fun f' v' C' ho => ⟨Cs.set i C', ⟨by simp [h.lv], by simp [h.lc], fun j g hj => ?_⟩, ?_⟩⟩
  · conv => lhs; rw [← List.take_append_drop i Cs, List.drop_eq_getElem_cons hlt, hC]
    simp
  · by_cases hij : i = j
    · subst hij
      have hfl : i < fs.length := by rw [← h.lc]; exact hlt
      rw [List.getElem?_set_self hfl] at hj
      cases hj
      exact ⟨v', C', by rw [List.getElem?_set_self (by rw [h.lv]; exact hfl)], by rw [List.getElem?_set_self hlt], ho⟩
    · rw [List.getElem?_set_ne hij] at hj
      obtain ⟨u, D, a1, a2, a3⟩ := h.at_ j g hj
      exact ⟨u, D, by rw [List.getElem?_set_ne hij]; exact a1, by rw [List.getElem?_set_ne hij]; exact a2, a3⟩
  · rw [List.set_eq_take_append_cons_drop, if_pos hlt]
    simp

theorem fcl_set_v : ∀ {fs : List Fi} {vs : List Value} {i : Nat} {f : Fi} {v' : Value} {d : List UInt8}, fs[i]? = some f → vs.length = fs.length → (fcl fs vs).set (i * 2) v' = fcl (fs.set i ⟨d, f.synced⟩) (vs.set i v')
  | [], _, _, _, _, _, h, _ => by simp at h
  | _ :: _, [], _, _, _, _, _, h => by simp at h
  | g :: fs, u :: vs, 0, f, v', d, h, _ => by simp at h; subst h; simp [fcl]
  | g :: fs, u :: vs, i + 1, f, v', d, h, hl => by
    have := fcl_set_v (fs := fs) (vs := vs) (i := i) (f := f) (v' := v') (d := d) (by simpa using h) (by simpa using hl)
    rw [show (i + 1) * 2 = i * 2 + 1 + 1 from by omega]
    simp [fcl, this]
theorem fcl_set_s : ∀ {fs : List Fi} {vs : List Value} {i : Nat} {f : Fi} {n : Nat}, fs[i]? = some f → vs.length = fs.length → (fcl fs vs).set (i * 2 + 1) (.int .i64 (n : Int)) = fcl (fs.set i ⟨f.data, n⟩) vs
  | [], _, _, _, _, h, _ => by simp at h
  | _ :: _, [], _, _, _, _, h => by simp at h
  | g :: fs, u :: vs, 0, f, n, h, _ => by simp at h; subst h; simp [fcl]
  | g :: fs, u :: vs, i + 1, f, n, h, hl => by
    have := fcl_set_s (fs := fs) (vs := vs) (i := i) (f := f) (n := n) (by simpa using h) (by simpa using hl)
    rw [show (i + 1) * 2 + 1 = i * 2 + 1 + 1 + 1 from by omega]
    simp [fcl, this]
theorem set_same {α : Type} {l : List α} {i : Nat} {a : α} (h : l[i]? = some a) : l.set i a = l := by
  have hlt : i < l.length := by
    rcases Nat.lt_or_ge i l.length with h' | h'
    · exact h'
    · simp [List.getElem?_eq_none h'] at h
  rw [List.getElem?_eq_getElem hlt] at h
  rw [← Option.some.inj h]; simp
end Go.Proofs.Ytgicjngbaomigaa
