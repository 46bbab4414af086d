/- FsRenames: what its calls leave, over the pure file system; what a crash leaves under a name. It proves no statement by itself. No conditions. -/
import Derived.Test.YtgicjngbaomigaaGb
namespace Go.Proofs.Ytgicjngbaomigaa
open Go Go.Vx
variable [W0]
set_option maxRecDepth 4000
set_option linter.all false

theorem renum_get : ∀ (es : List En) (i k : Nat), (renum i es)[k]? = (es[k]?).map fun e => ⟨e.name, i + k⟩
  | [], _, _ => by simp [renum]
  | e :: r, i, 0 => by simp [renum]
  | e :: r, i, k + 1 => by simp [renum, renum_get r (i + 1) k]; congr 1; funext e; congr 1; omega
theorem pos_renum : ∀ (es : List En) (i : Nat) (s : ByteArray), pos (renum i es) s = pos es s
  | [], _, _ => by simp [renum]
  | e :: r, i, s => by simp [renum, pos, pos_renum r (i + 1) s]
theorem has_renum : ∀ (es : List En) (i : Nat) (s : ByteArray), has (renum i es) s = has es s
  | [], _, _ => by simp [renum]
  | e :: r, i, s => by have := has_renum r (i + 1) s; simp only [has, renum, List.any_cons] at *; rw [this]

theorem fiAt_set_ne {fs : List Fi} {i : Nat} {f : Fi} {e : En} (h : i ≠ e.file) : fiAt (fs.set i f) e = fiAt fs e := by
  simp [fiAt, List.getD, List.getElem?_set_ne h]
theorem fiAt_set_eq {fs : List Fi} {i : Nat} {f : Fi} {e : En} (h : i = e.file) (hl : i < fs.length) : fiAt (fs.set i f) e = f := by
  subst h; simp [fiAt, List.getD, hl]
theorem cutAll_other {d : List Int} {x : En} : ∀ (es : List En) (i : Nat) (fs : List Fi), x.file ∉ es.map En.file → fiAt (cutAll d i es fs) x = fiAt fs x
  | [], _, _, _ => rfl
  | e :: r, i, fs, h => by
    simp only [List.map_cons, List.mem_cons, not_or] at h
    simp only [cutAll]
    rw [cutAll_other r (i + 1) _ h.2, fiAt_set_ne (fun h2 => h.1 h2.symm)]
theorem cutAll_at {d : List Int} : ∀ (es : List En) (i k : Nat) (fs : List Fi) (e : En), (es.map En.file).Nodup → (∀ e ∈ es, e.file < fs.length) → es[k]? = some e → fiAt (cutAll d i es fs) e = cutF (fiAt fs e) (d.getD (i + k) 0)
  | [], _, _, _, _, _, _, h => by simp at h
  | x :: r, i, 0, fs, e, hn, hi, h => by
    simp at h; subst h
    simp only [List.map_cons, List.nodup_cons] at hn
    simp only [cutAll]
    rw [cutAll_other r (i + 1) _ hn.1, fiAt_set_eq rfl (hi _ (by simp))]
    simp
  | x :: r, i, k + 1, fs, e, hn, hi, h => by
    simp only [List.map_cons, List.nodup_cons] at hn
    have hr : r[k]? = some e := by simpa using h
    have hm : e ∈ r := List.mem_of_getElem? hr
    simp only [cutAll]
    rw [cutAll_at r (i + 1) k _ e hn.2 (fun y hy => by simp; exact hi y (by simp [hy])) hr]
    rw [fiAt_set_ne (fun h2 => hn.1 (by rw [h2]; exact List.mem_map_of_mem hm))]
    rw [show i + 1 + k = i + (k + 1) from by omega]

theorem crash_open (S : Fsy) (n : Int) (d : List Int) (s : ByteArray) : openE (crashS S n d) s = if nameOk s = false then 1 else if has (jr S (crashK S n)) s = false then 61 else 0 := by
  simp [openE, crashS, settleS, has_renum]
theorem crash_data {S : Fsy} {m : Nat} {n : Int} {d : List Int} {s : ByteArray} (hG : Good S m) (hh : has (jr S (crashK S n)) s = true) :
    fiAt (crashS S n d).files ⟨s, fileE (crashS S n d).names s⟩ = cutF (fiAt S.files ⟨s, fileE (jr S (crashK S n)) s⟩) (d.getD (pos (jr S (crashK S n)) s) 0) := by
  have hw := jr_wn hG (crashK S n)
  obtain ⟨g, hg, hfe, hlt⟩ := has_get hw.asc hh
  have e1 : fileE (crashS S n d).names s = pos (jr S (crashK S n)) s := by
    simp [crashS, settleS, fileE, pos_renum, renum_get, hg]
  rw [e1, hfe]
  have e2 : fiAt (crashS S n d).files ⟨s, pos (jr S (crashK S n)) s⟩ = fiAt (cutAll d 0 (jr S (crashK S n)) S.files) ⟨s, g⟩ := by
    simp [crashS, settleS, fiAt, List.getD, hg]
  rw [e2]
  have := cutAll_at (d := d) (jr S (crashK S n)) 0 _ S.files _ hw.dist hw.inn hg
  rw [this]; simp
theorem cut_whole {f : Fi} {more : Int} (h : f.synced = f.data.length) : (cutF f more).data = f.data := by
  have : cutN f.data.length f.synced more = f.data.length := by unfold cutN; omega
  simp [cutF, this]

omit [W0] in
def dec (l : Int) : Int := if l > 0 then l - 1 else l
theorem spend_live {S : Fsy} (h1 : S.dead = false) (h2 : S.left ≠ 0) : spendE S = 0 ∧ spendS S = { S with left := dec S.left } := by
  obtain ⟨q, fs, ns, ds, js, l, dd⟩ := S
  simp only at h1 h2
  subst h1
  refine ⟨by simp [spendE, h2], ?_⟩
  simp only [spendS, dec]
  rw [if_neg (by simp [h2])]
  split <;> rfl
theorem spend_gone {S : Fsy} (h2 : S.left = 0) : spendE S = 50 ∧ spendS S = { S with dead := true } := by
  exact ⟨by simp [spendE, h2], by simp [spendS, h2]⟩

omit [W0] in
abbrev N1 : List En := [⟨nmI, 0⟩]
omit [W0] in
abbrev N2 : List En := [⟨nmI, 0⟩, ⟨nmT, 1⟩]
omit [W0] in
abbrev N3 : List En := [⟨nmI, 1⟩]
omit [W0] in
def mk (fs : List Fi) (ns : List En) (js : List Ch) (l : Int) (d : Bool) : Fsy := ⟨1048576, fs, ns, N1, js, l, d⟩
theorem okT : nameOk nmT = true := by kernel_rfl
theorem okI : nameOk nmI = true := by kernel_rfl

theorem ev_new : createS (newS 1048576) nmT = (0, ⟨1048576, [⟨[], 0⟩], [⟨nmT, 0⟩], [], [.cr nmT 0], -1, false⟩) := by kernel_rfl
theorem ev_first (old : List UInt8) (h : old.length ≤ 100000) : putC (newS 1048576) old = (0, mk [⟨old, old.length⟩] N1 [] (-1) false) := by
  have e2 : appendS ⟨1048576, [⟨[], 0⟩], [⟨nmT, 0⟩], [], [.cr nmT 0], -1, false⟩ nmT old = (0, ⟨1048576, [⟨old, 0⟩], [⟨nmT, 0⟩], [], [.cr nmT 0], -1, false⟩) := by
    unfold appendS
    rw [if_neg (by rw [show openE (⟨1048576, [⟨[], 0⟩], [⟨nmT, 0⟩], [], [.cr nmT 0], -1, false⟩ : Fsy) nmT = 0 from by kernel_rfl]; simp), if_neg (by simp [usedN, lens, fiAt]; omega)]
    simp [spendE, spendS, fileE, pos, fiAt, kcmp_irrefl]
  have e3 : syncS ⟨1048576, [⟨old, 0⟩], [⟨nmT, 0⟩], [], [.cr nmT 0], -1, false⟩ nmT = (0, ⟨1048576, [⟨old, old.length⟩], [⟨nmT, 0⟩], [], [.cr nmT 0], -1, false⟩) := by kernel_rfl
  have e4 : renameS ⟨1048576, [⟨old, old.length⟩], [⟨nmT, 0⟩], [], [.cr nmT 0], -1, false⟩ nmT nmI = (0, ⟨1048576, [⟨old, old.length⟩], [⟨nmI, 0⟩], [], [.cr nmT 0, .rn nmT nmI], -1, false⟩) := by kernel_rfl
  have e5 : syncNamesS ⟨1048576, [⟨old, old.length⟩], [⟨nmI, 0⟩], [], [.cr nmT 0, .rn nmT nmI], -1, false⟩ = (0, mk [⟨old, old.length⟩] N1 [] (-1) false) := by kernel_rfl
  unfold putC
  simp only [ev_new, e2, e3, e4, e5]
  simp
theorem ev_c (f : Fi) (l : Int) : createS (mk [f] N1 [] l false) nmT = if l = 0 then (50, mk [f] N1 [] l true) else (0, mk [f, ⟨[], 0⟩] N2 [.cr nmT 1] (dec l) false) := by
  have h1 : openE (mk [f] N1 [] l false) nmT = 61 := by kernel_rfl
  by_cases hl : l = 0
  · obtain ⟨h2, h3⟩ := spend_gone (S := mk [f] N1 [] l false) hl
    simp only [createS, h1, h2, h3, if_pos hl]; rfl
  · obtain ⟨h2, h3⟩ := spend_live (S := mk [f] N1 [] l false) rfl hl
    simp only [createS, h1, h2, h3, if_neg hl]; rfl
theorem ev_a (f : Fi) (js : List Ch) (l : Int) (b : List UInt8) (h : f.data.length + b.length ≤ 100000) : appendS (mk [f, ⟨[], 0⟩] N2 js l false) nmT b = if l = 0 then (50, mk [f, ⟨[], 0⟩] N2 js l true) else (0, mk [f, ⟨b, 0⟩] N2 js (dec l) false) := by
  have h1 : openE (mk [f, ⟨[], 0⟩] N2 js l false) nmT = 0 := by kernel_rfl
  have hu : ¬ usedN (mk [f, ⟨[], 0⟩] N2 js l false) + b.length > (mk [f, ⟨[], 0⟩] N2 js l false).quota := by simp [mk, usedN, lens, fiAt]; omega
  by_cases hl : l = 0
  · obtain ⟨h2, h3⟩ := spend_gone (S := mk [f, ⟨[], 0⟩] N2 js l false) hl
    simp only [appendS, h1, h2, h3, if_pos hl, if_neg hu]; rfl
  · obtain ⟨h2, h3⟩ := spend_live (S := mk [f, ⟨[], 0⟩] N2 js l false) rfl hl
    simp only [appendS, h1, h2, h3, if_neg hl, if_neg hu]; rfl
theorem ev_s (f : Fi) (js : List Ch) (l : Int) (b : List UInt8) : syncS (mk [f, ⟨b, 0⟩] N2 js l false) nmT = if l = 0 then (50, mk [f, ⟨b, 0⟩] N2 js l true) else (0, mk [f, ⟨b, b.length⟩] N2 js (dec l) false) := by
  have h1 : openE (mk [f, ⟨b, 0⟩] N2 js l false) nmT = 0 := by kernel_rfl
  by_cases hl : l = 0
  · obtain ⟨h2, h3⟩ := spend_gone (S := mk [f, ⟨b, 0⟩] N2 js l false) hl
    simp only [syncS, h1, h2, h3, if_pos hl]; rfl
  · obtain ⟨h2, h3⟩ := spend_live (S := mk [f, ⟨b, 0⟩] N2 js l false) rfl hl
    simp only [syncS, h1, h2, h3, if_neg hl]; rfl
theorem ev_r (f g : Fi) (js : List Ch) (l : Int) : renameS (mk [f, g] N2 js l false) nmT nmI = if l = 0 then (50, mk [f, g] N2 js l true) else (0, mk [f, g] N3 (js ++ [.rn nmT nmI]) (dec l) false) := by
  have h1 : openE (mk [f, g] N2 js l false) nmT = 0 := by kernel_rfl
  have h4 : ¬ nmT = nmI := by decide
  have h5 : afterE N2 (.rn nmT nmI) = N3 := by kernel_rfl
  by_cases hl : l = 0
  · obtain ⟨h2, h3⟩ := spend_gone (S := mk [f, g] N2 js l false) hl
    simp only [renameS, h1, h2, h3, if_pos hl, okI]; rfl
  · obtain ⟨h2, h3⟩ := spend_live (S := mk [f, g] N2 js l false) rfl hl
    simp only [renameS, h1, h2, h3, if_neg hl, okI, if_neg h4, show (mk [f, g] N2 js (dec l) false).names = N2 from rfl, show ({ mk [f, g] N2 js l false with left := dec (mk [f, g] N2 js l false).left } : Fsy).names = N2 from rfl, h5]; rfl
theorem ev_n (f g : Fi) (js : List Ch) (l : Int) : syncNamesS (mk [f, g] N3 js l false) = if l = 0 then (50, mk [f, g] N3 js l true) else (0, mk [g] N1 [] (dec l) false) := by
  by_cases hl : l = 0
  · obtain ⟨h2, h3⟩ := spend_gone (S := mk [f, g] N3 js l false) hl
    simp only [syncNamesS, h2, h3, if_pos hl]; rfl
  · obtain ⟨h2, h3⟩ := spend_live (S := mk [f, g] N3 js l false) rfl hl
    simp only [syncNamesS, h2, h3, if_neg hl]; rfl

/-- What the second writing leaves. -/
theorem ev_put (f : Fi) (l : Int) (b : List UInt8) (h : f.data.length + b.length ≤ 100000) :
    (putC (mk [f] N1 [] l false) b = (50, mk [f] N1 [] l true)) ∨
    (∃ g l' d, (putC (mk [f] N1 [] l false) b) = (50, mk [f, g] N2 [.cr nmT 1] l' d)) ∨
    (∃ l' d, (putC (mk [f] N1 [] l false) b) = (50, mk [f, ⟨b, b.length⟩] N3 [.cr nmT 1, .rn nmT nmI] l' d)) ∨
    (∃ l', (putC (mk [f] N1 [] l false) b) = (0, mk [⟨b, b.length⟩] N1 [] l' false)) := by
  by_cases h1 : l = 0
  · refine .inl ?_
    simp only [putC, ev_c, if_pos h1]; simp
  by_cases h2 : dec l = 0
  · refine .inr (.inl ⟨⟨[], 0⟩, dec l, true, ?_⟩)
    simp only [putC, ev_c, if_neg h1, ev_a _ _ _ _ h, if_pos h2]; simp
  by_cases h3 : dec (dec l) = 0
  · refine .inr (.inl ⟨⟨b, 0⟩, dec (dec l), true, ?_⟩)
    simp only [putC, ev_c, if_neg h1, ev_a _ _ _ _ h, if_neg h2, ev_s, if_pos h3]; simp
  by_cases h4 : dec (dec (dec l)) = 0
  · refine .inr (.inl ⟨⟨b, b.length⟩, dec (dec (dec l)), true, ?_⟩)
    simp only [putC, ev_c, if_neg h1, ev_a _ _ _ _ h, if_neg h2, ev_s, if_neg h3, ev_r, if_pos h4]; simp
  by_cases h5 : dec (dec (dec (dec l))) = 0
  · refine .inr (.inr (.inl ⟨dec (dec (dec (dec l))), true, ?_⟩))
    simp only [putC, ev_c, if_neg h1, ev_a _ _ _ _ h, if_neg h2, ev_s, if_neg h3, ev_r, if_neg h4, ev_n, if_pos h5]; simp [ev_n, h5]
  · refine .inr (.inr (.inr ⟨dec (dec (dec (dec (dec l)))), ?_⟩))
    simp only [putC, ev_c, if_neg h1, ev_a _ _ _ _ h, if_neg h2, ev_s, if_neg h3, ev_r, if_neg h4]; simp [ev_n, h5]
omit [W0] in
def rnX (old : List UInt8) (fuse : Int) : Fsy := { (putC (newS 1048576) old).2 with left := fuse }
omit [W0] in
def rnZ (old new : List UInt8) (fuse names : Int) (keep : List Int) : Fsy := crashS (putC (rnX old fuse) new).2 names keep
omit [W0] in
def rnD (old new : List UInt8) (fuse names : Int) (keep : List Int) : List UInt8 := (fiAt (rnZ old new fuse names keep).files ⟨nmI, fileE (rnZ old new fuse names keep).names nmI⟩).data

theorem crash_has {S : Fsy} {m : Nat} {n : Int} {d : List Int} {s : ByteArray} {ff : Fi} (hG : Good S m) (ho : nameOk s = true) (hh : has (jr S (crashK S n)) s = true) (hf : fiAt S.files ⟨s, fileE (jr S (crashK S n)) s⟩ = ff) (hs : ff.synced = ff.data.length) :
    openE (crashS S n d) s = 0 ∧ (fiAt (crashS S n d).files ⟨s, fileE (crashS S n d).names s⟩).data = ff.data := by
  refine ⟨by rw [crash_open]; simp [ho, hh], ?_⟩
  rw [crash_data hG hh, hf, cut_whole hs]

theorem renames_pure (old new : List UInt8) (fuse names : Int) (keep : List Int) (hk : -9223372036854775808 ≤ fuse ∧ fuse ≤ 9223372036854775807) (h : old.length + new.length ≤ 100000) :
    (putC (newS 1048576) old).1 = 0 ∧ openE (rnZ old new fuse names keep) nmI = 0 ∧ (rnD old new fuse names keep = old ∨ rnD old new fuse names keep = new) ∧ ((putC (rnX old fuse) new).1 = 0 → rnD old new fuse names keep = new) := by

  have e1 := ev_first old (by omega)
  have g0 := good_new 1048576 (by omega)
  have g1 := good_putC old g0 (by omega)
  have hX : rnX old fuse = mk [⟨old, old.length⟩] N1 [] fuse false := by simp only [rnX, e1]; rfl
  refine ⟨by rw [e1], ?_⟩
  have hlf : (⟨old, old.length⟩ : Fi).data.length + new.length ≤ 100000 := h
  have g2 : Good (rnX old fuse) 2 := ⟨g1.rp, g1.lf, g1.lj, g1.m, g1.q, hk, g1.dl⟩
  have g3 := good_putC new g2 (by omega)
  rw [hX] at g3 ⊢
  have hZ : rnZ old new fuse names keep = crashS (putC (mk [⟨old, old.length⟩] N1 [] fuse false) new).2 names keep := by rw [rnZ, hX]
  unfold rnD
  rw [hZ]
  rcases ev_put ⟨old, old.length⟩ fuse new hlf with hp | ⟨g, l', d, hp⟩ | ⟨l', d, hp⟩ | ⟨l', hp⟩
  · rw [hp] at g3 ⊢
    have := crash_has (n := names) (d := keep) (s := nmI) (ff := ⟨old, old.length⟩) g3 okI (by simp [jr, mk]; kernel_rfl) (by simp [jr, mk]; kernel_rfl) rfl
    exact ⟨this.1, .inl this.2, fun h => by simp at h⟩
  · rw [hp] at g3 ⊢
    have hj : jr (mk [⟨old, old.length⟩, g] N2 [.cr nmT 1] l' d) (crashK (mk [⟨old, old.length⟩, g] N2 [.cr nmT 1] l' d) names) = N1 ∨ jr (mk [⟨old, old.length⟩, g] N2 [.cr nmT 1] l' d) (crashK (mk [⟨old, old.length⟩, g] N2 [.cr nmT 1] l' d) names) = N2 := by
      generalize crashK (mk [⟨old, old.length⟩, g] N2 [.cr nmT 1] l' d) names = k
      match k with
      | 0 => exact .inl rfl
      | k + 1 => refine .inr ?_; simp only [jr, mk, List.take_succ_cons, List.take_nil]; kernel_rfl
    have := crash_has (n := names) (d := keep) (s := nmI) (ff := ⟨old, old.length⟩) g3 okI (by rcases hj with h | h <;> rw [h] <;> kernel_rfl) (by rcases hj with h | h <;> rw [h] <;> kernel_rfl) rfl
    exact ⟨this.1, .inl this.2, fun h => by simp at h⟩
  · rw [hp] at g3 ⊢
    have hj : jr (mk [⟨old, old.length⟩, ⟨new, new.length⟩] N3 [.cr nmT 1, .rn nmT nmI] l' d) (crashK (mk [⟨old, old.length⟩, ⟨new, new.length⟩] N3 [.cr nmT 1, .rn nmT nmI] l' d) names) = N1 ∨ jr (mk [⟨old, old.length⟩, ⟨new, new.length⟩] N3 [.cr nmT 1, .rn nmT nmI] l' d) (crashK (mk [⟨old, old.length⟩, ⟨new, new.length⟩] N3 [.cr nmT 1, .rn nmT nmI] l' d) names) = N2 ∨ jr (mk [⟨old, old.length⟩, ⟨new, new.length⟩] N3 [.cr nmT 1, .rn nmT nmI] l' d) (crashK (mk [⟨old, old.length⟩, ⟨new, new.length⟩] N3 [.cr nmT 1, .rn nmT nmI] l' d) names) = N3 := by
      generalize crashK (mk [⟨old, old.length⟩, ⟨new, new.length⟩] N3 [.cr nmT 1, .rn nmT nmI] l' d) names = k
      match k with
      | 0 => exact .inl rfl
      | 1 => refine .inr (.inl ?_); simp only [jr, mk, List.take_succ_cons, List.take_nil, List.take_zero]; kernel_rfl
      | k + 2 => refine .inr (.inr ?_); simp only [jr, mk, List.take_succ_cons, List.take_nil]; kernel_rfl
    rcases hj with hj | hj | hj
    · have := crash_has (n := names) (d := keep) (s := nmI) (ff := ⟨old, old.length⟩) g3 okI (by rw [hj]; kernel_rfl) (by rw [hj]; kernel_rfl) rfl
      exact ⟨this.1, .inl this.2, fun h => by simp at h⟩
    · have := crash_has (n := names) (d := keep) (s := nmI) (ff := ⟨old, old.length⟩) g3 okI (by rw [hj]; kernel_rfl) (by rw [hj]; kernel_rfl) rfl
      exact ⟨this.1, .inl this.2, fun h => by simp at h⟩
    · have := crash_has (n := names) (d := keep) (s := nmI) (ff := ⟨new, new.length⟩) g3 okI (by rw [hj]; kernel_rfl) (by rw [hj]; kernel_rfl) rfl
      exact ⟨this.1, .inr this.2, fun h => by simp at h⟩
  · rw [hp] at g3 ⊢
    have := crash_has (n := names) (d := keep) (s := nmI) (ff := ⟨new, new.length⟩) g3 okI (by simp [jr, mk]; kernel_rfl) (by simp [jr, mk]; kernel_rfl) rfl
    exact ⟨this.1, .inr this.2, fun _ => this.2⟩
end Go.Proofs.Ytgicjngbaomigaa
