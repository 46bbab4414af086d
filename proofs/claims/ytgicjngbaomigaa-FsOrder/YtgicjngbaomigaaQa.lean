/- FsOrder: the file system behind each round, and behind the crash, over the pure file system. It proves no statement by itself. No conditions. -/
import Derived.Test.YtgicjngbaomigaaRa
import Derived.Test.YtgicjngbaomigaaGp
namespace Go.Proofs.Ytgicjngbaomigaa
open Go Go.Vx
set_option linter.all false
variable [W0]
set_option maxRecDepth 4000

omit [W0] in
def nmF (i : Nat) : ByteArray := ⟨#[102, UInt8.ofNat (97 + i)]⟩
omit [W0] in
def szO (xs : List Int) (i : Nat) : Nat := match xs[i]? with
  | some x => (x % 256).toNat
  | none => 5
omit [W0] in
def datO (xs : List Int) (i : Nat) : List UInt8 := (List.range (szO xs i)).map fun k => UInt8.ofNat (i + k)
omit [W0] in
def nmsL (k : Nat) : List En := (List.range k).map fun j => ⟨nmF j, j⟩
omit [W0] in
def filL (xs : List Int) (k : Nat) : List Fi := (List.range k).map fun j => ⟨datO xs j, 0⟩
omit [W0] in
def jouL (k : Nat) : List Ch := (List.range k).map fun j => .cr (nmF j) j
omit [W0] in
def ordS (xs : List Int) (k : Nat) : Fsy := ⟨1048576, filL xs k, nmsL k, [], jouL k, -1, false⟩
omit [W0] in
def ordM (xs : List Int) (k : Nat) : Fsy := ⟨1048576, filL xs k ++ [⟨[], 0⟩], nmsL (k + 1), [], jouL (k + 1), -1, false⟩

theorem szO_le (xs : List Int) (i : Nat) : szO xs i ≤ 255 := by
  unfold szO; split <;> omega
theorem datO_len (xs : List Int) (i : Nat) : (datO xs i).length = szO xs i := by simp [datO]
theorem nms_len (k : Nat) : (nmsL k).length = k := by simp [nmsL]
theorem fil_len (xs : List Int) (k : Nat) : (filL xs k).length = k := by simp [filL]
theorem nms_get {k j : Nat} (h : j < k) : (nmsL k)[j]? = some ⟨nmF j, j⟩ := by simp [nmsL, h]
theorem fil_get (xs : List Int) {k j : Nat} (h : j < k) : (filL xs k)[j]? = some ⟨datO xs j, 0⟩ := by simp [filL, h]
theorem nms_succ (k : Nat) : nmsL (k + 1) = nmsL k ++ [⟨nmF k, k⟩] := by simp [nmsL, List.range_succ]
theorem fil_succ (xs : List Int) (k : Nat) : filL xs (k + 1) = filL xs k ++ [⟨datO xs k, 0⟩] := by simp [filL, List.range_succ]
theorem jou_succ (k : Nat) : jouL (k + 1) = jouL k ++ [.cr (nmF k) k] := by simp [jouL, List.range_succ]
theorem nmF_lt : ∀ i : Fin 17, ∀ j : Fin 17, j < i → kcmp (nmF j) (nmF i) < 0 := by decide +kernel
theorem nmF_ok : ∀ i : Fin 17, nameOk (nmF i) = true := by decide +kernel
theorem nmF_kc {i j : Nat} (h : j < i) (hi : i < 17) : kcmp (nmF j) (nmF i) < 0 := nmF_lt ⟨i, hi⟩ ⟨j, by omega⟩ h
theorem mem_nms {k : Nat} {e : En} (h : e ∈ nmsL k) : ∃ j, j < k ∧ e = ⟨nmF j, j⟩ := by
  simp only [nmsL, List.mem_map, List.mem_range] at h
  obtain ⟨j, hj, rfl⟩ := h
  exact ⟨j, hj, rfl⟩
theorem pos_all {s : ByteArray} : ∀ {es : List En}, (∀ e ∈ es, kcmp e.name s < 0) → pos es s = es.length
  | [], _ => rfl
  | e :: r, h => by
    unfold pos
    rw [if_pos (h e (by simp)), pos_all (fun x hx => h x (by simp [hx]))]
    rfl
theorem nms_put {k : Nat} (hk : k < 16) : has (nmsL k) (nmF k) = false ∧ putE (nmsL k) (nmF k) k = nmsL (k + 1) := by
  have hl : ∀ e ∈ nmsL k, kcmp e.name (nmF k) < 0 := fun e he => by
    obtain ⟨j, hj, rfl⟩ := mem_nms he
    exact nmF_kc hj (by omega)
  have hh : has (nmsL k) (nmF k) = false := by
    unfold has
    rw [List.any_eq_false]
    intro e he
    have h1 := hl e he
    simp only [decide_eq_true_eq]
    intro h2
    rw [h2] at h1
    exact kcmp_irrefl h1
  refine ⟨hh, ?_⟩
  unfold putE
  rw [if_neg (by rw [hh]; decide), pos_all hl]
  unfold insE
  rw [nms_succ]
  simp
theorem jr_nms : ∀ (k : Nat), k ≤ 16 → (jouL k).foldl afterE [] = nmsL k
  | 0, _ => rfl
  | k + 1, h => by
    rw [jou_succ, List.foldl_append, jr_nms k (by omega)]
    show putE (nmsL k) (nmF k) k = nmsL (k + 1)
    exact (nms_put (by omega)).2
theorem asc_nms : ∀ k, k ≤ 16 → Asc (nmsL k)
  | 0, _ => trivial
  | k + 1, h => by
    rw [← (nms_put (show k < 16 by omega)).2]
    exact asc_put _ _ (asc_nms k (by omega))
theorem nms_at {k j : Nat} (hk : k ≤ 16) (h : j < k) : pos (nmsL k) (nmF j) = j ∧ has (nmsL k) (nmF j) = true ∧ fileE (nmsL k) (nmF j) = j := by
  have hp : pos (nmsL k) (nmF j) = j := pos_at (asc_nms k hk) (nms_get h)
  refine ⟨hp, ?_, ?_⟩
  · unfold has
    rw [List.any_eq_true]
    exact ⟨⟨nmF j, j⟩, List.mem_of_getElem? (nms_get h), by simp⟩
  · unfold fileE; rw [hp, nms_get h]; rfl
theorem lens_bound {fs : List Fi} {c : Nat} (h : ∀ f ∈ fs, f.data.length ≤ c) : ∀ es : List En, lens fs es ≤ c * es.length
  | [] => Nat.zero_le _
  | e :: r => by
    have ih := lens_bound h r
    have h1 : (fiAt fs e).data.length ≤ c := by
      unfold fiAt
      rw [List.getD_eq_getElem?_getD]
      cases hg : fs[e.file]? with
      | none => simp
      | some f => simpa using h f (List.mem_of_getElem? hg)
    rw [lens_cons, List.length_cons, Nat.mul_succ]
    omega
theorem ord_spend (S : Fsy) (hd : S.dead = false) (hl : S.left = -1) : spendE S = 0 ∧ spendS S = S := by
  refine ⟨by simp [spendE, hd, hl], ?_⟩
  unfold spendS
  rw [if_neg (by rw [hd, hl]; simp), if_neg (by rw [hl]; decide)]
theorem ord_create (xs : List Int) {k : Nat} (hk : k < 16) : createS (ordS xs k) (nmF k) = (0, ordM xs k) := by
  obtain ⟨s1, s2⟩ := ord_spend (ordS xs k) rfl rfl
  have ho : openE (ordS xs k) (nmF k) = 61 := by
    show (if (false : Bool) = true then (50 : Int) else if nameOk (nmF k) = false then 1 else if has (nmsL k) (nmF k) = false then 61 else 0) = 61
    rw [nmF_ok ⟨k, by omega⟩, (nms_put hk).1]; rfl
  unfold createS
  rw [s1, s2, if_neg (by rw [ho]; decide), if_neg (by rw [ho]; decide), if_neg (by decide)]
  have e1 : (ordS xs k).files.length = k := fil_len xs k
  rw [e1]
  show ((0 : Int), (⟨1048576, filL xs k ++ [⟨[], 0⟩], putE (nmsL k) (nmF k) k, [], jouL k ++ [.cr (nmF k) k], -1, false⟩ : Fsy)) = (0, ordM xs k)
  rw [(nms_put hk).2, ← jou_succ]
  rfl
theorem ord_append (xs : List Int) {k : Nat} (hk : k < 16) : appendS (ordM xs k) (nmF k) (datO xs k) = (0, ordS xs (k + 1)) := by
  obtain ⟨s1, s2⟩ := ord_spend (ordM xs k) rfl rfl
  obtain ⟨_, h2, h3⟩ := nms_at (show k + 1 ≤ 16 by omega) (Nat.lt_succ_self k)
  have ho : openE (ordM xs k) (nmF k) = 0 := by
    show (if (false : Bool) = true then (50 : Int) else if nameOk (nmF k) = false then 1 else if has (nmsL (k + 1)) (nmF k) = false then 61 else 0) = 0
    rw [nmF_ok ⟨k, by omega⟩, h2]; rfl
  have hf : ∀ f ∈ filL xs k ++ [⟨[], 0⟩], f.data.length ≤ 255 := fun f hf => by
    rcases List.mem_append.1 hf with hf | hf
    · simp only [filL, List.mem_map] at hf
      obtain ⟨j, _, rfl⟩ := hf
      rw [datO_len]; exact szO_le _ _
    · simp at hf; subst hf; simp
  have hu : usedN (ordM xs k) + (datO xs k).length ≤ 1048576 := by
    have h4 : usedN (ordM xs k) ≤ 255 * (nmsL (k + 1)).length := lens_bound hf _
    rw [nms_len] at h4
    have := szO_le xs k
    rw [datO_len]
    omega
  unfold appendS
  rw [if_neg (by rw [ho]; decide), if_neg (by show ¬ _ > 1048576; omega), s1, s2, if_neg (by decide)]
  have e3 : fileE (ordM xs k).names (nmF k) = k := h3
  rw [e3]
  have e4 : fiAt (ordM xs k).files ⟨nmF k, k⟩ = ⟨[], 0⟩ := by
    show (filL xs k ++ [(⟨[], 0⟩ : Fi)]).getD k ⟨[], 0⟩ = _
    simp [List.getD, fil_len]
  rw [e4]
  show ((0 : Int), (⟨1048576, (filL xs k ++ [(⟨[], 0⟩ : Fi)]).set k ⟨[] ++ datO xs k, 0⟩, nmsL (k + 1), [], jouL (k + 1), -1, false⟩ : Fsy)) = (0, ordS xs (k + 1))
  rw [List.set_append_right _ _ (by rw [fil_len]; exact Nat.le_refl _), fil_len, Nat.sub_self]
  simp only [List.set_cons_zero, List.nil_append]
  rw [← fil_succ]
  rfl
theorem ord_good (xs : List Int) : ∀ k, k ≤ 16 → Good (ordS xs k) k
  | 0, _ => good_new 1048576 (by omega)
  | k + 1, h => by
    have h1 := good_create (nmF k) (ord_good xs k (by omega)) (by omega)
    rw [ord_create xs (show k < 16 by omega)] at h1
    have h2 := good_append (nmF k) (datO xs k) h1
    rw [ord_append xs (show k < 16 by omega)] at h2
    exact h2
theorem ord_goodM (xs : List Int) {k : Nat} (h : k < 16) : Good (ordM xs k) (k + 1) := by
  have h1 := good_create (nmF k) (ord_good xs k (by omega)) (by omega)
  rwa [ord_create xs h] at h1

/- behind the crash -/
omit [W0] in
def keptN (xs ks : List Int) (j : Nat) : Nat := (min (max (ks.getD j 0) 0) (szO xs j : Int)).toNat
theorem ord_k (xs : List Int) (n : Nat) (names : Int) : crashK (ordS xs n) names = (min (max names 0) (n : Int)).toNat := by
  unfold crashK
  rw [show (ordS xs n).journal.length = n from by simp [ordS, jouL]]
theorem ord_jr (xs : List Int) {n k : Nat} (hn : n ≤ 16) (hk : k ≤ n) : jr (ordS xs n) k = nmsL k := by
  unfold jr
  have : (ordS xs n).journal.take k = jouL k := by
    show (jouL n).take k = jouL k
    unfold jouL
    rw [← List.map_take, List.take_range, Nat.min_eq_left hk]
  rw [this]
  exact jr_nms k (by omega)
theorem renum_nms (k : Nat) : renum 0 (nmsL k) = nmsL k := by
  apply List.ext_getElem?
  intro j
  rw [renum_get]
  rcases Nat.lt_or_ge j k with h | h
  · rw [nms_get h]; simp
  · rw [List.getElem?_eq_none (by rw [nms_len]; exact h)]; rfl
theorem ord_crash (xs ks : List Int) {n : Nat} (names : Int) (hn : n ≤ 16) : ∃ k : Nat, (k : Int) = min (max names 0) (n : Int) ∧ k ≤ n ∧ (crashS (ordS xs n) names ks).names = nmsL k ∧ (crashS (ordS xs n) names ks).dead = false ∧
    (∀ j, j < k → openE (crashS (ordS xs n) names ks) (nmF j) = 0 ∧ (fiAt (crashS (ordS xs n) names ks).files ⟨nmF j, fileE (crashS (ordS xs n) names ks).names (nmF j)⟩).data = (datO xs j).take (keptN xs ks j)) := by
  refine ⟨(min (max names 0) (n : Int)).toNat, by omega, by omega, ?_, rfl, fun j hj => ?_⟩
  · show renum 0 (jr (ordS xs n) (crashK (ordS xs n) names)) = _
    rw [ord_k, ord_jr xs hn (by omega), renum_nms]
  · have hjr : jr (ordS xs n) (crashK (ordS xs n) names) = nmsL (min (max names 0) (n : Int)).toNat := by rw [ord_k, ord_jr xs hn (by omega)]
    obtain ⟨h1, h2, h3⟩ := nms_at (show (min (max names 0) (n : Int)).toNat ≤ 16 by omega) hj
    refine ⟨?_, ?_⟩
    · rw [crash_open, hjr, h2, nmF_ok ⟨j, by omega⟩]; rfl
    · rw [crash_data (ord_good xs n hn) (by rw [hjr]; exact h2), hjr, h1, h3]
      have e1 : fiAt (ordS xs n).files ⟨nmF j, j⟩ = ⟨datO xs j, 0⟩ := by
        show (filL xs n).getD j ⟨[], 0⟩ = _
        simp [List.getD, fil_get xs (show j < n by omega)]
      rw [e1]
      unfold cutF cutN
      simp only [datO_len]
      congr 1
      unfold keptN
      omega
theorem kept_le (xs ks : List Int) (j : Nat) : keptN xs ks j ≤ szO xs j := by unfold keptN; omega
theorem dat_take {xs : List Int} {i c j : Nat} (hj : j < c) (hc : c ≤ szO xs i) : ((datO xs i).take c)[j]? = some (UInt8.ofNat (i + j)) := by
  rw [List.getElem?_take, if_pos hj]
  unfold datO
  rw [List.getElem?_map, List.getElem?_range (by omega)]
  rfl
theorem wrap8 (n : Nat) : IntKind.u8.wrap (n : Int) = ((UInt8.ofNat n).toNat : Int) := by
  simp [IntKind.wrap, IntKind.bits, IntKind.signed]
/- the bytes as they are laid -/
omit [W0] in
def layO (i sz k : Nat) : List UInt8 := (List.range sz).map fun j => if j < k then UInt8.ofNat (i + j) else 0
theorem lay_len (i sz k : Nat) : (layO i sz k).length = sz := by simp [layO]
theorem lay_zero (i sz : Nat) : layO i sz 0 = List.replicate sz 0 := by
  apply List.ext_getElem?
  intro j
  unfold layO
  rcases Nat.lt_or_ge j sz with h | h
  · simp [h]
  · rw [List.getElem?_eq_none (by simpa using h), List.getElem?_eq_none (by simpa using h)]
theorem lay_all (xs : List Int) (i : Nat) : layO i (szO xs i) (szO xs i) = datO xs i := by
  unfold layO datO
  refine List.map_congr_left fun j hj => ?_
  rw [if_pos (List.mem_range.1 hj)]
theorem lay_set {i sz k : Nat} (h : k < sz) : (bsv (layO i sz k)).set k (.int .u8 ((UInt8.ofNat (i + k)).toNat : Int)) = bsv (layO i sz (k + 1)) := by
  apply List.ext_getElem?
  intro j
  rw [List.getElem?_set, bsv_length, lay_len]
  unfold bsv
  rw [List.getElem?_map, List.getElem?_map]
  rcases Nat.lt_or_ge j sz with hj | hj
  · simp only [layO, List.getElem?_map, List.getElem?_range hj, Option.map_some]
    by_cases e : k = j
    · subst e; simp [h]
    · rw [if_neg e]
      have : (j < k ↔ j < k + 1) := by omega
      simp only [this]
  · rw [if_neg (by omega), List.getElem?_eq_none (by rw [lay_len]; exact hj), List.getElem?_eq_none (by rw [lay_len]; exact hj)]
end Go.Proofs.Ytgicjngbaomigaa
