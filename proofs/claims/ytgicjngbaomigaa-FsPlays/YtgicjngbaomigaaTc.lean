/- The list of names with a beginning: a run of the sorted names, or what a filter leaves. Pure facts. It proves no statement by itself. No conditions. -/
import Derived.Test.YtgicjngbaomigaaTb
namespace Go.Proofs.Ytgicjngbaomigaa
open Go Go.Vx
set_option linter.all false
variable [W0]
set_option maxRecDepth 4000

theorem hasP_pre (s pre : ByteArray) : hasP s pre = true ↔ pre.data.toList <+: s.data.toList := by
  have hsz : ∀ x : ByteArray, x.size = x.data.toList.length := fun x => rfl
  constructor
  · intro h
    simp only [hasP, Bool.and_eq_true, decide_eq_true_eq] at h
    obtain ⟨h1, h2⟩ := h
    have h3 : (s.extract 0 pre.size).data.toList = pre.data.toList := by rw [h2]
    rw [ByteArray.data_extract] at h3
    simp at h3
    rw [← h3]
    exact List.take_prefix _ _
  · rintro ⟨t, ht⟩
    simp only [hasP, Bool.and_eq_true, decide_eq_true_eq]
    have hl : pre.size ≤ s.size := by
      rw [hsz, hsz, ← ht]; simp
    refine ⟨hl, ?_⟩
    apply ByteArray.ext
    apply Array.ext'
    rw [ByteArray.data_extract]
    simp
    rw [← ht, hsz]
    simp
theorem cb_pre : ∀ (p t : List UInt8), ¬ Lib.compareBytes (p ++ t) p < 0
  | [], [] => by simp [Lib.compareBytes]
  | [], _ :: _ => by simp [Lib.compareBytes]
  | x :: p, t => by
    have ih := cb_pre p t
    simp only [List.cons_append]
    unfold Lib.compareBytes
    simpa [UInt8.lt_irrefl] using ih
theorem cb_mid : ∀ (p a t : List UInt8), ¬ Lib.compareBytes a p < 0 → Lib.compareBytes a (p ++ t) < 0 → p <+: a
  | [], a, _, _, _ => List.nil_prefix
  | x :: p, [], t, h, _ => by simp [Lib.compareBytes] at h
  | x :: p, y :: a, t, h1, h2 => by
    simp only [List.cons_append] at h2
    unfold Lib.compareBytes at h1 h2
    by_cases hlt : y < x
    · simp [hlt] at h1
    · by_cases hgt : x < y
      · simp [hlt, hgt] at h2
      · have : y = x := UInt8.le_antisymm (UInt8.not_lt.1 hgt) (UInt8.not_lt.1 hlt)
        subst this
        simp [UInt8.lt_irrefl] at h1 h2
        have := cb_mid p a t (by omega) h2
        exact List.cons_prefix_cons.2 ⟨rfl, this⟩
theorem hasP_ge {s pre : ByteArray} (h : hasP s pre = true) : ¬ kcmp s pre < 0 := by
  obtain ⟨t, ht⟩ := (hasP_pre s pre).1 h
  unfold kcmp
  rw [← ht]
  exact cb_pre _ _
theorem hasP_mid {a s pre : ByteArray} (h1 : ¬ kcmp a pre < 0) (h2 : kcmp a s < 0) (h : hasP s pre = true) : hasP a pre = true := by
  obtain ⟨t, ht⟩ := (hasP_pre s pre).1 h
  refine (hasP_pre a pre).2 (cb_mid _ _ t h1 ?_)
  unfold kcmp at h2
  rw [ht]
  exact h2
theorem while_filter (pre : ByteArray) : ∀ {es : List En}, Asc es → (∀ e ∈ es, ¬ kcmp e.name pre < 0) → (es.takeWhile fun e => hasP e.name pre) = es.filter fun e => hasP e.name pre
  | [], _, _ => rfl
  | e :: r, ha, h => by
    cases hp : hasP e.name pre
    · have hr : (r.filter fun e => hasP e.name pre) = [] := by
        rw [List.filter_eq_nil_iff]
        intro x hx hpx
        have := hasP_mid (h e (by simp)) (ha.1 x hx) hpx
        rw [hp] at this; cases this
      simp [hp, hr]
    · have ih := while_filter pre ha.2 (fun x hx => h x (by simp [hx]))
      simp [hp, ih]
theorem list_filter (pre : ByteArray) : ∀ {es : List En}, Asc es → listE es pre = es.filter fun e => hasP e.name pre
  | [], _ => rfl
  | e :: r, ha => by
    have ih := list_filter pre ha.2
    unfold listE at *
    unfold pos
    by_cases hlt : kcmp e.name pre < 0
    · have hp : hasP e.name pre = false := by
        cases hp : hasP e.name pre
        · rfl
        · exact absurd hlt (hasP_ge hp)
      rw [if_pos hlt]
      simp only [List.drop_succ_cons, ih, List.filter_cons, hp]
      simp
    · rw [if_neg hlt]
      simp only [List.drop_zero]
      refine while_filter pre ha (fun x hx => ?_)
      rcases List.mem_cons.1 hx with h1 | h1
      · subst h1; exact hlt
      · intro h2
        have := kcmp_trans (ha.1 x h1) h2
        exact hlt this
theorem rel_list {S : Fsy} {R : Rf} {φ : Nat → Nat} {m : Nat} (pre : ByteArray) (h : Rel S R φ) (hG : Good S m) : rlistS R pre = mapE φ (listS S pre) := by
  unfold rlistS listS
  rw [h.d]
  split
  · rfl
  · rw [h.now, list_filter pre hG.rp.now.asc]
    exact filter_map φ (fun s => hasP s pre) S.names
theorem rel_strs {S : Fsy} {R : Rf} {φ : Nat → Nat} {m : Nat} (pre : ByteArray) (h : Rel S R φ) (hG : Good S m) : strsV (rlistS R pre) = strsV (listS S pre) ∧ (rlistS R pre).length = (listS S pre).length := by
  rw [rel_list pre h hG]
  exact ⟨strsV_map φ _, mapE_len φ _⟩
theorem rel_read {S : Fsy} {R : Rf} {φ : Nat → Nat} {m : Nat} (s : ByteArray) (h : Rel S R φ) (hG : Good S m) :
    rreadE R s = openE S s ∧ (openE S s = 0 → fiAt R.files ⟨s, fileE R.now s⟩ = fiAt S.files ⟨s, fileE S.names s⟩) := by
  refine ⟨?_, fun h0 => ?_⟩
  · unfold rreadE; exact rel_open h s
  · obtain ⟨_, _, hh⟩ := openE_zero h0
    have hi := fileE_lt hG.rp.now hh
    rw [h.now, mapE_file hG.rp.now.asc hh]
    exact fi_named h hi
theorem rel_used {S : Fsy} {R : Rf} {φ : Nat → Nat} {m : Nat} (h : Rel S R φ) (hG : Good S m) : lens R.files R.now = usedN S := by
  rw [h.now]; exact rel_lens h hG.rp.now.inn
end Go.Proofs.Ytgicjngbaomigaa
