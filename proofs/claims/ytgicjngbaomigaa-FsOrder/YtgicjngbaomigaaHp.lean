/- What was synced under a name that was synced stays, over the pure file system. It proves no statement by itself. No conditions. -/
import Derived.Test.YtgicjngbaomigaaGp
namespace Go.Proofs.Ytgicjngbaomigaa
open Go Go.Vx
set_option linter.all false
variable [W0]
set_option maxRecDepth 4000

omit [W0] in
abbrev nmO : ByteArray := ⟨#[111, 119, 110]⟩
theorem okO : nameOk nmO = true := by kernel_rfl

theorem mem_has {es : List En} {s : ByteArray} {f : Nat} (ha : Asc es) (h : (⟨s, f⟩ : En) ∈ es) : has es s = true ∧ fileE es s = f := by
  obtain ⟨k, hk⟩ := List.getElem?_of_mem h
  have hp : pos es s = k := pos_at ha hk
  refine ⟨?_, by simp [fileE, hp, hk]⟩
  unfold has
  rw [List.any_eq_true]
  exact ⟨_, h, by simp⟩
theorem keep_put {es : List En} {s : ByteArray} {f : Nat} {e : En} (ha : Asc es) (he : e ∈ es) (hne : e.name ≠ s) : e ∈ putE es s f := by
  unfold putE
  split
  · rename_i hh
    obtain ⟨g, hg, _, hlt⟩ := has_get ha hh
    obtain ⟨k, hk⟩ := List.getElem?_of_mem he
    have hkp : pos es s ≠ k := fun h => by
      rw [h, hk] at hg
      exact hne (by have := Option.some.inj hg; rw [this])
    exact List.mem_of_getElem? (i := k) (by rw [List.getElem?_set_ne hkp]; exact hk)
  · exact mem_insE.2 (.inr he)
theorem keep_drop {es : List En} {s : ByteArray} {e : En} (ha : Asc es) (hh : has es s = true) (he : e ∈ es) (hne : e.name ≠ s) : e ∈ dropE es s := by
  obtain ⟨g, hg, _, hlt⟩ := has_get ha hh
  obtain ⟨k, hk⟩ := List.getElem?_of_mem he
  unfold dropE
  rw [List.mem_eraseIdx_iff_getElem?]
  refine ⟨k, fun h => ?_, hk⟩
  subst h
  rw [hk] at hg
  exact hne (by have := Option.some.inj hg; rw [this])

theorem Rp.fold {F m : Nat} : ∀ {ds : List En} {j : List Ch} {ns : List En}, Rp F m ds j ns → j.foldl afterE ds = ns
  | _, [], _, h => h.1
  | _, c :: j, _, h => by simp only [List.foldl_cons]; exact Rp.fold h.2.2
theorem jr_all {S : Fsy} {m k : Nat} (hG : Good S m) (hk : S.journal.length ≤ k) : jr S k = S.names := by
  unfold jr
  rw [List.take_of_length_le hk]
  exact hG.rp.fold

/-- A file is there whole, whatever a crash loses. -/
structure Lst (S : Fsy) (data : List UInt8) : Prop where
  dead : S.dead = false
  left : S.left < 0
  own : ∃ g, S.files[g]? = some ⟨data, data.length⟩ ∧ ∀ k, (⟨nmO, g⟩ : En) ∈ jr S k

theorem spend_neg {S : Fsy} (h1 : S.dead = false) (h2 : S.left < 0) : spendE S = 0 ∧ spendS S = S := by
  obtain ⟨q, fs, ns, ds, js, l, dd⟩ := S
  simp only at h1 h2
  subst h1
  refine ⟨by simp [spendE]; omega, ?_⟩
  simp only [spendS]
  rw [if_neg (by simp; omega), if_neg (by omega)]

theorem lst_note {S S' : Fsy} {m : Nat} {c : Ch} {data : List UInt8} (hG : Good S m) (hL : Lst S data) (hd : S'.durable = S.durable) (hj : S'.journal = S.journal ++ [c]) (hf : ∀ (g : Nat) (f : Fi), S.files[g]? = some f → S'.files[g]? = some f) (hdd : S'.dead = false) (hl : S'.left < 0)
    (hk : ∀ e ∈ S.names, e.name = nmO → e ∈ afterE S.names c) : Lst S' data := by
  obtain ⟨g, hg, hm⟩ := hL.own
  refine ⟨hdd, hl, g, hf g _ hg, fun k => ?_⟩
  unfold jr
  rw [hd, hj]
  rcases Nat.lt_or_ge S.journal.length k with h | h
  · rw [List.take_of_length_le (by simp; omega), List.foldl_append]
    simp only [List.foldl_cons, List.foldl_nil]
    rw [hG.rp.fold]
    have := hm S.journal.length
    rw [jr_all hG (Nat.le_refl _)] at this
    exact hk _ this rfl
  · rw [List.take_append_of_le_length h]
    exact hm k
theorem lst_files {S S' : Fsy} {m : Nat} {data : List UInt8} {s : ByteArray} {x : Fi} (hG : Good S m) (hL : Lst S data) (hh : has S.names s = true) (hs : s ≠ nmO) (hf : S' = { S with files := S.files.set (fileE S.names s) x }) : Lst S' data := by
  obtain ⟨g, hg, hm⟩ := hL.own
  subst hf
  refine ⟨hL.dead, hL.left, g, ?_, hm⟩
  have h1 := hm S.journal.length
  rw [jr_all hG (Nat.le_refl _)] at h1
  have hnow := hG.rp.now
  obtain ⟨f, hf, hfe, hlt⟩ := has_get hnow.asc hh
  obtain ⟨k, hk⟩ := List.getElem?_of_mem h1
  have hne : fileE S.names s ≠ g := fun he => by
    have hd := hnow.dist
    have e1 : (S.names.map En.file)[k]? = some g := by simp [hk]
    have e2 : (S.names.map En.file)[pos S.names s]? = some g := by rw [List.getElem?_map, hf]; simp [← hfe, he]
    have hlt2 : k < (S.names.map En.file).length := by
      rcases Nat.lt_or_ge k (S.names.map En.file).length with h' | h'
      · exact h'
      · simp [List.getElem?_eq_none h'] at e1
    have := (List.getElem?_inj hlt2 hd).1 (e1.trans e2.symm)
    subst this
    rw [hk] at hf
    have := Option.some.inj hf
    injection this with h2 h3
    exact hs h2.symm
  rw [List.getElem?_set_ne hne]; exact hg

theorem lst_create {S : Fsy} {m : Nat} {data : List UInt8} {s : ByteArray} (hG : Good S m) (hL : Lst S data) (hs : s ≠ nmO) : Lst (createS S s).2 data := by
  obtain ⟨h1, h2⟩ := spend_neg hL.dead hL.left
  unfold createS
  rw [h1, h2]
  split
  · exact hL
  · split
    · exact hL
    · split
      · exact hL
      · refine lst_note (c := .cr s S.files.length) hG hL rfl rfl (fun g f hg => ?_) hL.dead hL.left (fun e he hn => keep_put hG.rp.now.asc he (fun h => hs (h.symm.trans hn)))
        have : g < S.files.length := by
          rcases Nat.lt_or_ge g S.files.length with h' | h'
          · exact h'
          · simp [List.getElem?_eq_none h'] at hg
        simp only
        rw [List.getElem?_append_left this]; exact hg
theorem lst_append {S : Fsy} {m : Nat} {data : List UInt8} {s : ByteArray} {b : List UInt8} (hG : Good S m) (hL : Lst S data) (hs : s ≠ nmO) : Lst (appendS S s b).2 data := by
  obtain ⟨h1, h2⟩ := spend_neg hL.dead hL.left
  unfold appendS
  rw [h1, h2]
  split
  · exact hL
  · rename_i h0
    split
    · exact hL
    · split
      · exact hL
      · exact lst_files hG hL (openE_zero (by simpa using h0)).2.2 hs rfl
theorem lst_sync {S : Fsy} {m : Nat} {data : List UInt8} {s : ByteArray} (hG : Good S m) (hL : Lst S data) (hs : s ≠ nmO) : Lst (syncS S s).2 data := by
  obtain ⟨h1, h2⟩ := spend_neg hL.dead hL.left
  unfold syncS
  rw [h1, h2]
  split
  · exact hL
  · rename_i h0
    split
    · exact hL
    · exact lst_files hG hL (openE_zero (by simpa using h0)).2.2 hs rfl
theorem lst_rename {S : Fsy} {m : Nat} {data : List UInt8} {a b : ByteArray} (hG : Good S m) (hL : Lst S data) (ha : a ≠ nmO) (hb : b ≠ nmO) : Lst (renameS S a b).2 data := by
  obtain ⟨h1, h2⟩ := spend_neg hL.dead hL.left
  unfold renameS
  rw [h1, h2]
  split
  · exact hL
  split
  · exact hL
  rename_i _ h0
  split
  · exact hL
  split
  · exact hL
  · have hh := (openE_zero (S := S) (s := a) (by simpa using h0)).2.2
    exact lst_note (c := .rn a b) hG hL rfl rfl (fun _ _ h => h) hL.dead hL.left (fun e he hn => keep_put (asc_drop a hG.rp.now.asc) (keep_drop hG.rp.now.asc hh he (fun h => ha (h.symm.trans hn))) (fun h => hb (h.symm.trans hn)))
theorem lst_remove {S : Fsy} {m : Nat} {data : List UInt8} {a : ByteArray} (hG : Good S m) (hL : Lst S data) (ha : a ≠ nmO) : Lst (removeS S a).2 data := by
  obtain ⟨h1, h2⟩ := spend_neg hL.dead hL.left
  unfold removeS
  rw [h1, h2]
  split
  · exact hL
  rename_i h0
  split
  · exact hL
  · have hh := (openE_zero (S := S) (s := a) (by simpa using h0)).2.2
    exact lst_note (c := .rm a) hG hL rfl rfl (fun _ _ h => h) hL.dead hL.left (fun e he hn => keep_drop hG.rp.now.asc hh he (fun h => ha (h.symm.trans hn)))
theorem lst_crash {S : Fsy} {m : Nat} {data : List UInt8} {n : Int} {d : List Int} (hG : Good S m) (hL : Lst S data) : Lst (crashS S n d) data := by
  obtain ⟨g, hg, hm⟩ := hL.own
  have hw := jr_wn hG (crashK S n)
  obtain ⟨i, hi⟩ := List.getElem?_of_mem (hm (crashK S n))
  have hfg : fiAt S.files ⟨nmO, g⟩ = ⟨data, data.length⟩ := by simp [fiAt, List.getD, hg]
  have hcut : fiAt (cutAll d 0 (jr S (crashK S n)) S.files) ⟨nmO, g⟩ = ⟨data, data.length⟩ := by
    rw [cutAll_at (d := d) (jr S (crashK S n)) 0 i S.files _ hw.dist hw.inn hi, hfg]
    have h1 : cutN data.length data.length (d.getD (0 + i) 0) = data.length := by unfold cutN; omega
    simp only [cutF, h1]
    simp
  refine ⟨rfl, by simp [crashS], i, ?_, fun k => ?_⟩
  · simp [crashS, settleS, hi, hcut]
  · have : jr (crashS S n d) k = renum 0 (jr S (crashK S n)) := by simp [jr, crashS, settleS]
    rw [this]
    exact List.mem_of_getElem? (i := i) (by rw [renum_get, hi]; simp)

theorem lst_read {S : Fsy} {m : Nat} {data : List UInt8} (hG : Good S m) (hL : Lst S data) : openE S nmO = 0 ∧ (fiAt S.files ⟨nmO, fileE S.names nmO⟩).data = data := by
  obtain ⟨g, hg, hm⟩ := hL.own
  have h1 := hm S.journal.length
  rw [jr_all hG (Nat.le_refl _)] at h1
  obtain ⟨hh, hfe⟩ := mem_has hG.rp.now.asc h1
  refine ⟨by simp [openE, hL.dead, okO, hh], ?_⟩
  rw [hfe]
  simp [fiAt, List.getD, hg]
end Go.Proofs.Ytgicjngbaomigaa
