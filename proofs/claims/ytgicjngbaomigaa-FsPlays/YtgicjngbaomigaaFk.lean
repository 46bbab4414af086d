/- settle over a whole file system; Crash. It proves no statement by itself. No conditions. -/
import Derived.Test.YtgicjngbaomigaaFj
namespace Go.Proofs.Ytgicjngbaomigaa
open Go Go.Vx
variable [W0]
set_option maxRecDepth 4000
set_option linter.all false

theorem pick_perm {α : Type} [Inhabited α] (l : List α) (is : List Nat) (hn : is.Nodup) (hi : ∀ i ∈ is, i < l.length) : ∃ R, l.Perm (is.map (fun i => l.getD i default) ++ R) := by
  refine ⟨((List.range l.length).filter (fun i => !decide (i ∈ is))).map (fun i => l.getD i default), ?_⟩
  rw [← List.map_append]
  have h1 : l = (List.range l.length).map (fun i => l.getD i default) := by
    apply List.ext_getElem?
    intro i
    by_cases h : i < l.length
    · simp [h, List.getD]
    · simp [List.getElem?_eq_none (Nat.le_of_not_lt h), h]
  have h2 : (List.range l.length).Perm (is ++ (List.range l.length).filter (fun i => !decide (i ∈ is))) := by
    refine (List.filter_append_perm (fun i => decide (i ∈ is)) (List.range l.length)).symm.trans (List.Perm.append_right _ ?_)
    refine (List.perm_ext_iff_of_nodup (List.nodup_range.filter _) hn).2 (fun a => ?_)
    simp only [List.mem_filter, List.mem_range, decide_eq_true_eq]
    exact ⟨fun h => h.2, fun h => ⟨hi a h, h⟩⟩
  conv => lhs; rw [h1]
  exact h2.map _

theorem holds_pick {w : World} {D D' R : Chunk} {L : List Chunk} (hp : D.Perm (D' ++ R)) (h : Holds w (D :: L)) : Holds w (D' :: L) := by
  have h1 : Holds w ((D' ++ R) :: L) := by
    refine ⟨?_, fun x hx => h.2.1 x ?_, h.2.2⟩
    · have := h.1
      simp only [List.flatten_cons, List.map_append] at this ⊢
      have hpm := (hp.map Prod.fst).append_right (L.flatten.map Prod.fst)
      rw [List.map_append] at hpm
      exact hpm.nodup_iff.1 this
    · simp only [List.flatten_cons, List.mem_append] at hx ⊢
      rcases hx with hx | hx
      · exact .inl (hp.mem_iff.2 (List.mem_append.2 hx))
      · exact .inr hx
  have h2 := (Holds.split.1 h1)
  exact ((h2.perm (List.Perm.swap R D' L)).drop)

theorem settle_2 (S : Fsy) (p m : Nat) (fv nv dv jv : Value) (vs : List Value) (Cs : List Chunk) (Cf Cn : Chunk) (L : List Chunk) (hf : Ow 90 2 fv S.files.length (fcl S.files vs) Cf) (hr : FR S.files vs Cs) (hn : Ow 99 2 nv S.names.length (ents S.names) Cn)
    (hw : WN S.files.length m S.names) (hm : m ≤ 100000) :
    Gv Try.prog 55 [.pointer (some ⟨p, 0, none⟩)].toArray (hdr S p fv nv dv jv :: Cf :: Cn :: Cs.flatten :: L)
      (fun r L' => ∃ fv' nv' dv' Cf' Cn' Cd' vs' Cs', r = .tuple #[] ∧ L' = hdr (settleS S) p fv' nv' dv' (.slice none 0 0) :: Cf' :: Cn' :: Cd' :: [] :: Cs'.flatten :: L ∧
        Ow 90 2 fv' (settleS S).files.length (fcl (settleS S).files vs') Cf' ∧ FR (settleS S).files vs' Cs' ∧ Ow 99 2 nv' (settleS S).names.length (ents (settleS S).names) Cn' ∧ Ow 99 2 dv' (settleS S).durable.length (ents (settleS S).durable) Cd') := by
  have h1 : ∀ v ∈ vs, v.oneCell' = true := fun v hv => by
    obtain ⟨i, hi⟩ := List.getElem?_of_mem hv
    have hlt : i < S.files.length := by
      rw [← hr.lv]
      rcases Nat.lt_or_ge i vs.length with h' | h'
      · exact h'
      · simp [List.getElem?_eq_none h'] at hi
    obtain ⟨u, C, a1, a2, a3⟩ := hr.at_ i S.files[i] (by simp [hlt])
    rw [hi] at a1; cases a1
    exact ow_one a3
  have base := settle_1 S p fv nv dv jv vs Cf Cn (Cs.flatten :: L) hf hr.lv h1 hn (by have := hw.len; omega) hw.inn
  refine ⟨fun w hh => (base.out w hh).mono fun _ w' he => ?_⟩
  obtain ⟨v, L', e1, ⟨fv', nv', dv', Cf', Cn', Cd', e2, e3, e4, e5, e6⟩, hw'⟩ := he
  subst e2 e3
  have hnd : (S.names.map En.file).Nodup := hw.dist
  obtain ⟨R, hR⟩ := pick_perm Cs (S.names.map En.file) hnd (fun i hi => by
    obtain ⟨e, he, rfl⟩ := List.mem_map.1 hi
    rw [hr.lc]; exact hw.inn e he)
  have hRf := hR.flatten
  rw [List.flatten_append] at hRf
  refine ⟨_, _, e1, ⟨fv', nv', dv', Cf', Cn', Cd', S.names.map (vAt vs), (S.names.map En.file).map (fun i => Cs.getD i default), rfl, rfl, ?_, ?_, ?_, ?_⟩, ?_⟩
  · simpa [settleS] using e4
  · refine ⟨by simp [settleS], by simp [settleS], fun i f hi => ?_⟩
    simp only [settleS, List.getElem?_map] at hi
    cases hni : S.names[i]? with
    | none => simp [hni] at hi
    | some e =>
      simp [hni] at hi
      subst hi
      have hef := hw.inn e (List.mem_of_getElem? hni)
      have hfi : S.files[e.file]? = some (fiAt S.files e) := by simp [fiAt, List.getD, List.getElem?_eq_getElem hef]
      obtain ⟨u, C, a1, a2, a3⟩ := hr.at_ _ _ hfi
      refine ⟨u, C, ?_, ?_, a3⟩
      · simp [hni, vAt, List.getD, a1]
      · simp [hni, List.getD, a2]
  · simpa [settleS, renum_length] using e5
  · simpa [settleS, renum_length] using e6
  · have h5 : Holds w' (Cs.flatten :: hdr (settleS S) p fv' nv' dv' (.slice none 0 0) :: Cf' :: Cn' :: Cd' :: L) := ((by repeat (first | exact Inc.refl | exact Inc.nil | refine Inc.cons (by repeat (first | exact Take.here | apply Take.there)) ?_ | refine Inc.skip ?_)) : Inc _ _).holds hw'
    have h6 := holds_pick hRf h5
    have h7 := Holds.nil.2 h6
    exact ((by repeat (first | exact Inc.refl | exact Inc.nil | refine Inc.cons (by repeat (first | exact Take.here | apply Take.there)) ?_ | refine Inc.skip ?_)) : Inc _ _).holds h7

omit [W0] in
/-- The journal's beginning, carried out. -/
def jr (S : Fsy) (k : Nat) : List En := (S.journal.take k).foldl afterE S.durable
theorem Rp.step {F m : Nat} : ∀ {ds : List En} {j : List Ch} {ns : List En} {i : Nat} {c : Ch}, Rp F m ds j ns → j[i]? = some c → chOk ((j.take i).foldl afterE ds) c = true ∧ WN F m ((j.take i).foldl afterE ds) ∧ (j.take (i + 1)).foldl afterE ds = afterE ((j.take i).foldl afterE ds) c
  | _, [], _, _, _, _, h => by simp at h
  | ds, x :: j, ns, 0, c, h, hc => by simp at hc; subst hc; exact ⟨h.1, h.2.1, by simp⟩
  | ds, x :: j, ns, i + 1, c, h, hc => by
    simp only [List.take_succ_cons, List.foldl_cons]
    exact Rp.step h.2.2 (by simpa using hc)
theorem jr_wn {S : Fsy} {m : Nat} (h : Good S m) (k : Nat) : WN S.files.length m (jr S k) := (h.rp.pre k).now

omit [W0] in
def cutF (f : Fi) (more : Int) : Fi := ⟨f.data.take (cutN f.data.length f.synced more), cutN f.data.length f.synced more⟩
omit [W0] in
def cutAll (data : List Int) : Nat → List En → List Fi → List Fi
  | _, [], fs => fs
  | i, e :: r, fs => cutAll data (i + 1) r (fs.set e.file (cutF (fiAt fs e) (data.getD i 0)))
omit [W0] in
def crashK (S : Fsy) (names : Int) : Nat := (min (max names 0) (S.journal.length : Int)).toNat
omit [W0] in
def crashS (S : Fsy) (names : Int) (data : List Int) : Fsy :=
  let ns := jr S (crashK S names)
  { settleS { S with names := ns, files := cutAll data 0 ns S.files } with left := -1, dead := false }

omit [W0] in
def intsV (l : List Int) : List Value := l.map (Value.int .i64)
end Go.Proofs.Ytgicjngbaomigaa
