/- The two file systems, the program's and the document's, side by side: pure facts. It proves no statement by itself. No conditions. -/
import Derived.Test.YtgicjngbaomigaaSh
import Derived.Test.YtgicjngbaomigaaGp
namespace Go.Proofs.Ytgicjngbaomigaa
open Go Go.Vx
set_option linter.all false
variable [W0]
set_option maxRecDepth 4000

omit [W0] in
def mapE (φ : Nat → Nat) (es : List En) : List En := es.map fun e => ⟨e.name, φ e.file⟩
theorem mapE_len (φ : Nat → Nat) (es : List En) : (mapE φ es).length = es.length := by simp [mapE]
theorem mapE_get {φ : Nat → Nat} {es : List En} (k : Nat) : (mapE φ es)[k]? = (es[k]?).map fun e => ⟨e.name, φ e.file⟩ := by simp [mapE]
theorem mapE_has (φ : Nat → Nat) (es : List En) (s : ByteArray) : has (mapE φ es) s = has es s := by
  simp [has, mapE, List.any_map, Function.comp_def]
theorem mapE_pos (φ : Nat → Nat) (s : ByteArray) : ∀ es : List En, pos (mapE φ es) s = pos es s
  | [] => rfl
  | e :: r => by
    have ih := mapE_pos φ s r
    simp only [mapE, List.map_cons, pos] at *
    split <;> simp [ih]
theorem mapE_file {φ : Nat → Nat} {es : List En} {s : ByteArray} (ha : Asc es) (h : has es s = true) : fileE (mapE φ es) s = φ (fileE es s) := by
  obtain ⟨g, hg, hf, _⟩ := has_get ha h
  unfold fileE at *
  rw [mapE_pos, mapE_get, hg]
  simp
theorem mapE_drop (φ : Nat → Nat) (es : List En) (s : ByteArray) : dropE (mapE φ es) s = mapE φ (dropE es s) := by
  unfold dropE
  rw [mapE_pos]
  unfold mapE
  rw [map_eraseIdx']
theorem mapE_put (φ : Nat → Nat) (es : List En) (s : ByteArray) (f : Nat) : putE (mapE φ es) s (φ f) = mapE φ (putE es s f) := by
  unfold putE
  rw [mapE_has, mapE_pos]
  split
  · unfold mapE; rw [List.map_set]
  · unfold insE mapE; simp [List.map_take, List.map_drop]
theorem mapE_asc (φ : Nat → Nat) : ∀ {es : List En}, Asc es → Asc (mapE φ es)
  | [], _ => trivial
  | e :: r, h => by
    refine ⟨fun x hx => ?_, mapE_asc φ h.2⟩
    simp only [List.mem_map] at hx
    obtain ⟨y, hy, rfl⟩ := hx
    exact h.1 y hy
theorem mapE_congr {φ ψ : Nat → Nat} {es : List En} (h : ∀ e ∈ es, φ e.file = ψ e.file) : mapE φ es = mapE ψ es := by
  unfold mapE
  exact List.map_congr_left fun e he => by rw [h e he]
theorem strsV_map (φ : Nat → Nat) (es : List En) : strsV (mapE φ es) = strsV es := by simp [strsV, mapE, Function.comp_def]
theorem filter_map (φ : Nat → Nat) (P : ByteArray → Bool) (es : List En) : (mapE φ es).filter (fun e => P e.name) = mapE φ (es.filter fun e => P e.name) := by
  unfold mapE
  rw [List.filter_map]
  rfl

theorem rp_fold {F m : Nat} : ∀ {ds : List En} {j : List Ch} {ns : List En}, Rp F m ds j ns → j.foldl afterE ds = ns
  | ds, [], ns, h => by first | exact h.1 | (obtain ⟨h1, _⟩ := h; exact h1)
  | ds, c :: j, ns, h => by
    simp only [List.foldl_cons]
    exact rp_fold h.2.2

omit [W0] in
/-- The two stand alike. -/
structure Rel (S : Fsy) (R : Rf) (φ : Nat → Nat) : Prop where
  q : R.quota = S.quota
  d : R.dead = S.dead
  f : (S.left < 0 ∧ R.fuse < 0) ∨ (0 ≤ S.left ∧ R.fuse = S.left)
  files : ∀ i, i < S.files.length → R.files[φ i]? = S.files[i]?
  inj : ∀ i j, i < S.files.length → j < S.files.length → φ i = φ j → i = j
  now : R.now = mapE φ S.names
  lasts : R.lasts = mapE φ S.durable
  wl : R.wait.length = S.journal.length
  replay : ∀ k, k ≤ S.journal.length → rfold R k = mapE φ (jr S k)
  dl : ∀ f ∈ R.files, f.data.length ≤ 16777216 ∧ f.synced ≤ f.data.length

theorem Rel.rng {S : Fsy} {R : Rf} {φ : Nat → Nat} (h : Rel S R φ) {i : Nat} (hi : i < S.files.length) : φ i < R.files.length := by
  have h1 := h.files i hi
  rw [List.getElem?_eq_getElem hi] at h1
  exact (get_split h1).1
theorem Rel.fi {S : Fsy} {R : Rf} {φ : Nat → Nat} (h : Rel S R φ) {e : En} {s : ByteArray} (hi : e.file < S.files.length) : fiAt R.files ⟨s, φ e.file⟩ = fiAt S.files e := by
  have h1 := h.files e.file hi
  simp only [fiAt, List.getD_eq_getElem?_getD]
  rw [h1]
theorem rel_lens {S : Fsy} {R : Rf} {φ : Nat → Nat} (h : Rel S R φ) : ∀ {es : List En}, (∀ e ∈ es, e.file < S.files.length) → lens R.files (mapE φ es) = lens S.files es
  | [], _ => rfl
  | e :: r, hr => by
    have ih := rel_lens h (es := r) (fun x hx => hr x (by simp [hx]))
    show lens R.files (⟨e.name, φ e.file⟩ :: mapE φ r) = _
    rw [lens_cons, lens_cons, ih, h.fi (hr e (by simp))]
theorem rg_of {S : Fsy} {R : Rf} {φ : Nat → Nat} {m : Nat} (h : Rel S R φ) (hG : Good S m) (hf : R.files.length ≤ 98000) : RG R := by
  have hm := hG.m
  have hw := hG.rp.now
  have hd := hG.rp.was
  refine ⟨by rw [h.now]; exact mapE_asc φ hw.asc, by rw [h.now, mapE_len]; have := hw.len; omega, by rw [h.lasts, mapE_len]; have := hd.len; omega, by rw [h.lasts]; exact mapE_asc φ hd.asc, hf, by rw [h.wl]; have := hG.lj; omega, ?_, by rw [h.q]; exact hG.q, ?_, h.dl⟩
  · intro e he
    rw [h.now] at he
    simp only [mapE, List.mem_map] at he
    obtain ⟨x, hx, rfl⟩ := he
    exact h.rng (hw.inn x hx)
  · have := hG.left
    rcases h.f with ⟨_, h1⟩ | ⟨_, h1⟩ <;> omega
theorem rel_new (q : Nat) : Rel (newS q) (rnewS q) id :=
  ⟨rfl, rfl, .inl ⟨by simp [newS], by simp [rnewS]⟩, fun i h => by simp [newS] at h, fun i j h => by simp [newS] at h, rfl, rfl, rfl, fun k h => by
    have : k = 0 := by simpa [newS] using h
    subst this; rfl, fun f h => by simp [rnewS] at h⟩
theorem rel_open {S : Fsy} {R : Rf} {φ : Nat → Nat} (h : Rel S R φ) (s : ByteArray) : (if R.dead = true then (50 : Int) else if nameOk s = false then 1 else if has R.now s = false then 61 else 0) = openE S s := by
  unfold openE
  rw [h.d, h.now, mapE_has]
theorem rel_spend {S : Fsy} {R : Rf} {φ : Nat → Nat} (h : Rel S R φ) (hd : S.dead = false) :
    ((rburn R).1 = true → spendE S = 0) ∧ ((rburn R).1 = false → spendE S = 50) ∧ Rel (spendS S) (rburn R).2 φ := by
  have hre : ∀ (R2 : Rf) (k : Nat), R2.wait = R.wait → R2.lasts = R.lasts → rfold R2 k = rfold R k := fun R2 k h1 h2 => by unfold rfold; rw [h1, h2]
  rcases h.f with ⟨h1, h2⟩ | ⟨h1, h2⟩
  · have hb : rburn R = (true, R) := by simp [rburn, h2]
    have hs : spendE S = 0 ∧ spendS S = S := by
      refine ⟨by simp [spendE, hd]; omega, ?_⟩
      unfold spendS
      rw [if_neg (by rw [hd]; simp; omega), if_neg (by omega)]
    rw [hb, hs.1, hs.2]
    exact ⟨fun _ => rfl, (fun h => by cases h), h⟩
  · by_cases h0 : S.left = 0
    · have hb : rburn R = (false, { R with dead := true }) := by
        unfold rburn; rw [if_neg (by omega), if_pos (by omega)]
      have hs : spendE S = 50 ∧ spendS S = { S with dead := true } := by simp [spendE, spendS, h0]
      rw [hb, hs.1, hs.2]
      exact ⟨(fun h => by cases h), fun _ => rfl, ⟨h.q, rfl, h.f, h.files, h.inj, h.now, h.lasts, h.wl, h.replay, h.dl⟩⟩
    · have hb : rburn R = (true, { R with fuse := R.fuse - 1 }) := by
        unfold rburn; rw [if_neg (by omega), if_neg (by omega)]
      have hs : spendE S = 0 ∧ spendS S = { S with left := S.left - 1 } := by
        refine ⟨by simp [spendE, hd, h0], ?_⟩
        unfold spendS
        rw [if_neg (by rw [hd]; simp [h0]), if_pos (by omega)]
      rw [hb, hs.1, hs.2]
      exact ⟨fun _ => rfl, fun h => (by cases h), ⟨h.q, h.d, .inr ⟨(by simp only; omega), (by simp only; omega)⟩, h.files, h.inj, h.now, h.lasts, h.wl, h.replay, h.dl⟩⟩

/-- A change of names on both sides. -/
theorem rel_note {S : Fsy} {R : Rf} {φ : Nat → Nat} {c : Ch} {g : Cg} {m : Nat} (h : Rel S R φ) (hrp : Rp m m S.durable S.journal S.names) (hc : rapply (mapE φ S.names) g = mapE φ (afterE S.names c)) :
    Rel { S with names := afterE S.names c, journal := S.journal ++ [c] } (rchange R g) φ := by
  have hfull : jr S S.journal.length = S.names := by
    unfold jr; rw [List.take_length]; exact rp_fold hrp
  refine ⟨h.q, h.d, h.f, h.files, h.inj, ?_, h.lasts, ?_, ?_, h.dl⟩
  · show rapply R.now g = _
    rw [h.now]; exact hc
  · show (R.wait ++ [g]).length = (S.journal ++ [c]).length
    simp [h.wl]
  · intro k hk
    simp only [List.length_append, List.length_cons, List.length_nil] at hk
    show ((R.wait ++ [g]).take k).foldl rapply R.lasts = mapE φ (((S.journal ++ [c]).take k).foldl afterE S.durable)
    rcases Nat.lt_or_ge k (S.journal.length + 1) with hlt | hge
    · rw [List.take_append_of_le_length (by rw [h.wl]; omega), List.take_append_of_le_length (by omega)]
      exact h.replay k (by omega)
    · have hk1 : k = S.journal.length + 1 := by omega
      have h1 := h.replay S.journal.length (Nat.le_refl _)
      rw [hfull] at h1
      unfold rfold at h1
      rw [List.take_of_length_le (by simp [h.wl]; omega), List.take_of_length_le (by simp; omega), List.foldl_append, List.foldl_append]
      rw [List.take_of_length_le (by rw [h.wl]; exact Nat.le_refl _)] at h1
      rw [h1]
      have h2 : S.journal.foldl afterE S.durable = S.names := rp_fold hrp
      rw [h2]
      exact hc
end Go.Proofs.Ytgicjngbaomigaa
