/- DeflateRuns returns true and leaves its arguments as they were, for every argument; the table that the program reads is tied to its text (the card). No conditions beyond the row's. -/
import Derived.Test.YtdcehmhelfohfaaGreatDoorQD5
namespace Go.Df
open Go.Vx Go.If Go.Hf
set_option linter.all false
def chI [W0] : Nat → List Blk → List (Nat × Nat)
  | _, [] => []
  | n, B :: r => ((0, 1) :: blI (n + 1) B) ++ chI (n + 1 + itL (blI (n + 1) B)) r
theorem bsI_ch [W0] : ∀ (x : List Blk) (a : List (Nat × Nat)), bsI a x = a ++ chI (itL a) x
  | [], a => by rw [bsI, chI, List.append_nil]
  | B :: r, a => by
    rw [bsI, bsI_ch r, chI]
    have e : itL (a ++ [(0, 1)] ++ blI (itL a + 1) B) = itL a + 1 + itL (blI (itL a + 1) B) := by
      rw [itL_app, itL_app]; rfl
    rw [e]
    simp [List.append_assoc]
theorem wrI_ch [W0] (x : List Blk) (q : Blk) : wrI x q = chI 0 x ++ ((1, 1) :: blI (itL (chI 0 x) + 1) q) := by
  unfold wrI
  rw [bsI_ch]
  simp only [List.nil_append, show itL ([] : List (Nat × Nat)) = 0 from rfl]
  rw [List.append_assoc]
  rfl
end Go.Df
namespace Go.Proofs.YtdcehmhelfohfaaGreatDoor
open Go Go.Vx Go.Hf Go.If Go.Df
variable [W0]
set_option linter.all false
theorem tsI_lt' {l dl : List Nat} {b : List UInt8} {k : List (Nat × Nat)} {i j : Nat} (hk : Tks b i k j) (hp : ∀ t ∈ k, 0 < l.getD (tsy t) 0 ∧ (t.2 ≠ 0 → 0 < dl.getD (odN t.2) 0)) : ∀ x ∈ coI l dl k, x.1 < 2 ^ x.2 := fun x hx => by
  rcases List.mem_append.1 hx with hx | hx
  · exact tsI_lt (tks_ok hk hp).1 x hx
  · rw [List.mem_singleton.1 hx]; exact sc_lt _ _
theorem rnI_lt {own : List Nat} : ∀ {rs : List (Nat × Nat)}, (∀ r ∈ rs, RnOk r) → ∀ x ∈ rnI own rs, x.1 < 2 ^ x.2
  | [], _, x, hx => by cases hx
  | r :: q, h, x, hx => by
    rw [rnI] at hx
    rcases List.mem_cons.1 hx with rfl | hx
    · exact sc_lt _ _
    rcases List.mem_cons.1 hx with rfl | hx
    · exact (h r List.mem_cons_self).2
    · exact rnI_lt (fun y hy => h y (List.mem_cons_of_mem _ hy)) x hx
theorem blI_lt {b : List UInt8} {i j n : Nat} {B : Blk} (hB : BlO b i j B) (hij : i ≤ j) (hj : j ≤ b.length) : ∀ x ∈ blI n B, x.1 < 2 ^ x.2 := fun x hx => by
  cases B with
  | st t =>
    obtain ⟨hB, hf⟩ := hB
    have htl : t.length = j - i := by rw [hB, List.length_take, List.length_drop]; omega
    simp only [blI] at hx
    rcases List.mem_append.1 hx with hx | hx
    · simp only [List.mem_cons, List.not_mem_nil, or_false] at hx
      rcases hx with rfl | rfl | rfl | rfl
      · decide
      · exact Nat.pow_pos (by decide)
      · show t.length < 2 ^ 16; omega
      · show 65535 - t.length < 2 ^ 16; omega
    · obtain ⟨c, _, rfl⟩ := List.mem_map.1 hx
      exact c.toNat_lt
  | fx k =>
    have hk : Tks b i k j := hB
    simp only [blI] at hx
    rcases List.mem_cons.1 hx with rfl | hx
    · decide
    · exact tsI_lt' (l := fxL) (dl := fxD) hk (fun t ht => fx_pos (hk.ok t ht)) x hx
  | dn k l dl n1 n2 o own rs =>
    obtain ⟨hk, hne, h1, h2, h3, rfl, rfl, rfl, rfl⟩ := hB
    have hF := dn_facts hk.ok hne h1 h2 h3
    generalize trN l 257 l.length = n1 at *
    generalize trN dl 1 dl.length = n2 at *
    generalize (orN own).take (trN (orN own) 4 19) = o at *
    generalize rnS (hdL l dl) = rs at *
    simp only [blI] at hx
    rcases List.mem_cons.1 hx with rfl | hx
    · decide
    rcases List.mem_append.1 hx with hx | hx
    · unfold hwI at hx
      have b1 := hF.n1b
      have b2 := hF.n2b
      have b3 := hF.hd.zb
      rcases List.mem_append.1 hx with hx | hx
      · simp only [List.mem_cons, List.not_mem_nil, or_false] at hx
        rcases hx with rfl | rfl | rfl
        · show n1 - 257 < 2 ^ 5; omega
        · show n2 - 1 < 2 ^ 5; omega
        · show o.length - 4 < 2 ^ 4; omega
      · rcases List.mem_append.1 hx with hx | hx
        · rw [hF.oo] at hx
          exact owI_lt hF.hd.o7 _ _ x hx
        · exact rnI_lt hF.ro x hx
    · exact tsI_lt' hk hF.pl x hx
theorem chI_lt {b : List UInt8} : ∀ {x : List Blk} {i k n : Nat}, BlC b i x k → ∀ y ∈ chI n x, y.1 < 2 ^ y.2
  | [], _, _, _, _, y, hy => by cases hy
  | B :: r, i, k, n, h, y, hy => by
    obtain ⟨j, h1, h2, h3, h4⟩ := h
    rw [chI] at hy
    rcases List.mem_append.1 hy with hy | hy
    · rcases List.mem_cons.1 hy with rfl | hy
      · decide
      · exact blI_lt h3 h1 h2 y hy
    · exact chI_lt h4 y hy
theorem BlC.split {b : List UInt8} : ∀ {x y : List Blk} {i k : Nat}, BlC b i (x ++ y) k → ∃ j, BlC b i x j ∧ BlC b j y k
  | [], y, i, k, h => ⟨i, rfl, h⟩
  | B :: x, y, i, k, h => by
    obtain ⟨j, h1, h2, h3, h4⟩ := h
    obtain ⟨m, g1, g2⟩ := BlC.split h4
    exact ⟨m, ⟨j, h1, h2, h3, g1⟩, g2⟩
theorem wrI_lt {b : List UInt8} {x : List Blk} {q : Blk} {k : Nat} (h : BlC b 0 (x ++ [q]) k) : ∀ y ∈ wrI x q, y.1 < 2 ^ y.2 := fun y hy => by
  rw [wrI_ch] at hy
  obtain ⟨j, h1, m, h2, h3, h4, _⟩ := h.split
  rcases List.mem_append.1 hy with hy | hy
  · exact chI_lt h1 y hy
  · rcases List.mem_cons.1 hy with rfl | hy
    · decide
    · exact blI_lt h4 h2 h3 y hy
theorem run_at {d b : List UInt8} {most : Nat} (hm : b.length ≤ most) (q : Blk) : ∀ (x : List Blk) (i f : Nat) (s : S6), BlC b i (x ++ [q]) b.length → s.e = 0 → s.out = b.take i → x.length < f →
    Bi d s.t (chI s.t x ++ ((1, 1) :: blI (s.t + itL (chI s.t x) + 1) q)) → rwS d most f s = ⟨s.t + itL (chI s.t x ++ ((1, 1) :: blI (s.t + itL (chI s.t x) + 1) q)), b, 0⟩
  | [], i, f, s, h, he, ho, hf, hb => by
    obtain ⟨j, h1, h2, h3, h4⟩ := h
    have h4 : j = b.length := h4
    subst h4
    obtain ⟨g, rfl⟩ : ∃ g, f = g + 1 := ⟨f - 1, by simp at hf; omega⟩
    have hb : Bi d s.t ((1, 1) :: blI (s.t + 1) q) := hb
    rw [blk_at (f := g) h3 h1 h2 he ho hm (Nat.le_refl _) hb, if_pos rfl, List.take_length]
    simp only [chI, List.nil_append, itL, Nat.add_zero, Nat.add_assoc]
  | B :: r, i, f, s, h, he, ho, hf, hb => by
    obtain ⟨j, h1, h2, h3, h4⟩ := h
    obtain ⟨g, rfl⟩ : ∃ g, f = g + 1 := ⟨f - 1, by simp at hf; omega⟩
    have hlt : ∀ y ∈ ((0, 1) :: blI (s.t + 1) B : List (Nat × Nat)), y.1 < 2 ^ y.2 := fun y hy => by
      rcases List.mem_cons.1 hy with rfl | hy
      · decide
      · exact blI_lt h3 h1 h2 y hy
    rw [chI, List.append_assoc] at hb ⊢
    obtain ⟨b1, b2⟩ := Bi.app hb hlt
    rw [blk_at (f := g) h3 h1 h2 he ho hm (Nat.zero_le _) b1, if_neg (by decide)]
    have e1 : s.t + itL ((0, 1) :: blI (s.t + 1) B) = s.t + 1 + itL (blI (s.t + 1) B) := by simp only [itL]; omega
    have e2 : s.t + itL ((0, 1) :: blI (s.t + 1) B ++ chI (s.t + 1 + itL (blI (s.t + 1) B)) r) + 1 = s.t + 1 + itL (blI (s.t + 1) B) + itL (chI (s.t + 1 + itL (blI (s.t + 1) B)) r) + 1 := by
      rw [itL_app]; omega
    rw [e1, e2] at b2
    rw [e2, itL_app, ← Nat.add_assoc, e1]
    exact run_at hm q r j g ⟨s.t + 1 + itL (blI (s.t + 1) B), b.take j, 0⟩ h4 rfl rfl (by simp at hf; omega) b2
theorem raw_all {b z : List UInt8} {x : List Blk} {q : Blk} {most : Nat} (h : BlC b 0 (x ++ [q]) b.length) (hx : x.length ≤ 3) (hm : b.length ≤ most) : rawS (wrB x q ++ z) most = ⟨itL (wrI x q), b, 0⟩ := by
  have hb := bi_all (wrI_lt h) z
  have hpos : 1 ≤ itL (wrI x q) := by rw [wrI_ch, itL_app]; simp only [itL]; omega
  have hl : 1 ≤ (wrB x q ++ z).length := by
    rw [List.length_append, show (wrB x q).length = (itL (wrI x q) + 7) / 8 from leB_length _ _]; omega
  unfold rawS
  have hb2 : Bi (wrB x q ++ z) 0 (wrI x q) := hb
  rw [wrI_ch] at hb2
  have := run_at (d := wrB x q ++ z) hm q x 0 (8 * (wrB x q ++ z).length + 1) ⟨0, [], 0⟩ h rfl rfl (by omega) (by simpa using hb2)
  rw [this]
  simp only [Nat.zero_add]
  rw [← wrI_ch]
end Go.Proofs.YtdcehmhelfohfaaGreatDoor
namespace Go.Df
open Go.Vx Go.If Go.Hf
set_option linter.all false
theorem Tks.count {b : List UInt8} : ∀ {ts : List (Nat × Nat)} {i j : Nat}, Tks b i ts j → ts.length ≤ j - i
  | [], i, j, h => Nat.zero_le _
  | t :: r, i, j, h => by
    have h1 := h.2.2.2.2.count
    have h2 := h.2.2.2.2.le.1
    have h3 : 1 ≤ tsz t := by
      unfold tsz
      rcases h.1 with ⟨g1, g2⟩ | ⟨g1, g2, g3, g4⟩
      · rw [if_pos g1]; exact Nat.le_refl _
      · rw [if_neg (by omega)]; omega
    rw [List.length_cons]
    omega
end Go.Df
namespace Go.Proofs.YtdcehmhelfohfaaGreatDoor
open Go Go.Vx Go.Hf Go.If Go.Df
variable [W0]
set_option linter.all false
theorem rnS_count {l : List Nat} (h : ∀ x ∈ l, x ≤ 15) : (rnS l).length ≤ l.length := by
  have w := (rnS_W h).2.1
  have h1 := rsW_length ((rnS l).map rlOf) []
  rw [w, List.length_nil, Nat.zero_add] at h1
  have key : ∀ rs : List Rl, rs.length ≤ rsN rs := by
    intro rs
    induction rs with
    | nil => exact Nat.le_refl _
    | cons r q ih =>
      have := rlN_pos r
      rw [List.length_cons, rsN]; omega
  have := key ((rnS l).map rlOf)
  rw [List.length_map] at this
  omega
theorem coI_le {l dl : List Nat} (hl : Cok l) (hd : Cok dl) {ts : List (Nat × Nat)} (h : ∀ t ∈ ts, TkOk t) : itL (coI l dl ts) ≤ 48 * ts.length + 15 := by
  have h1 := tsI_le hl hd h
  have h2 := hl.at 256
  unfold coI
  rw [itL_app]
  simp only [itL, sc]
  omega
theorem blI_sz {b : List UInt8} {i j n : Nat} {B : Blk} (hB : BlO b i j B) (hij : i ≤ j) (hj : j ≤ b.length) : itL (blI n B) ≤ 48 * (j - i) + 10000 := by
  cases B with
  | st t =>
    obtain ⟨hB, hf⟩ := hB
    have htl : t.length = j - i := by rw [hB, List.length_take, List.length_drop]; omega
    simp only [blI]
    rw [itL_app, raI_L]
    simp only [itL]
    omega
  | fx k =>
    have hk : Tks b i k j := hB
    have := coI_le fxL_ok fxD_ok hk.ok
    have := hk.count
    simp only [blI, itL]
    unfold coI at *
    omega
  | dn k l dl n1 n2 o own rs =>
    obtain ⟨hk, hne, h1, h2, h3, rfl, rfl, rfl, rfl⟩ := hB
    have hF := dn_facts hk.ok hne h1 h2 h3
    have h15 := hF.h15
    have hcl : Cok l := ⟨by have := hF.hd.kl; rw [hF.w, List.take_append_of_le_length (by rw [List.length_take]; have := hF.n1b; have := hF.ll; omega), List.take_take, Nat.min_self, kS_trim hF.n1z] at this; omega, fun x hx => by
      obtain ⟨i, hi, rfl⟩ := List.getElem_of_mem hx
      have := h1.le i
      rwa [show l.getD i 0 = l[i] from by simp [List.getD, hi]] at this⟩
    have hcd : Cok dl := ⟨kd_le h2.one, fun x hx => by
      obtain ⟨i, hi, rfl⟩ := List.getElem_of_mem hx
      have := h2.le i
      rwa [show dl.getD i 0 = dl[i] from by simp [List.getD, hi]] at this⟩
    have c1 := coI_le hcl hcd hk.ok
    have c2 := hk.count
    have c3 := hwI_le (own := own) (o := (orN own).take (trN (orN own) 4 19)) hF.hd.own (by rw [List.length_take, orN_len]; omega) (rnS (hdL l dl)) (trN l 257 l.length) (trN dl 1 dl.length)
    have c4 := rnS_count (l := hdL l dl) h15
    have c5 : (hdL l dl).length ≤ 316 := by
      unfold hdL
      have := hF.ll
      have := hF.dll
      rw [List.length_append, List.length_take, List.length_take]; omega
    simp only [blI, itL]
    rw [itL_app]
    unfold coI at c1
    omega
theorem szB_sz {b : List UInt8} : ∀ {bs : List Blk} {i k n : Nat}, BlC b i bs k → szB n bs ≤ n + 48 * (k - i) + 10001 * bs.length
  | [], i, k, n, h => by simp [szB]
  | B :: r, i, k, n, h => by
    obtain ⟨j, h1, h2, h3, h4⟩ := h
    have e := blI_sz (n := n + 1) h3 h1 h2
    have ih := szB_sz (n := enB n B) h4
    have hle : j ≤ k := by
      clear ih e h3 h2 h1
      revert j
      induction r with
      | nil => intro j h4; exact Nat.le_of_eq h4
      | cons D q ihq =>
        intro j h4
        obtain ⟨m, g1, g2, g3, g4⟩ := h4
        exact Nat.le_trans g1 (ihq m g4)
    have hs : szB n (B :: r) = szB (enB n B) r := rfl
    rw [hs, List.length_cons]
    have he : enB n B = n + 1 + itL (blI (n + 1) B) := rfl
    omega
theorem RwO.len {b o : List UInt8} {level : Int} (h : RwO b level o) : o.length ≤ 6 * b.length + 5010 := by
  obtain ⟨x, q, rfl, hx, hc9, _, _⟩ := h
  have := szB_sz (n := 0) hc9
  rw [← wrI_sz, List.length_append, List.length_singleton] at this
  rw [show (wrB x q).length = (itL (wrI x q) + 7) / 8 from leB_length _ _]
  omega
end Go.Proofs.YtdcehmhelfohfaaGreatDoor
namespace Go.Df
open Go.Vx Go.If Go.Hf
set_option linter.all false
theorem tr_rep {c : UInt8} {n p : Nat} (h : p + 3 ≤ n) : tr (List.replicate n c) p = List.replicate 3 c := by
  unfold tr; rw [List.drop_replicate, List.take_replicate, Nat.min_eq_left (by omega)]
theorem getD_rep {c : UInt8} {n k : Nat} (h : k < n) : (List.replicate n c).getD k 0 = c := by
  rw [List.getD_eq_getElem?_getD, List.getElem?_replicate, if_pos h]; rfl
theorem nr_none {b : List UInt8} {i : Nat} (h : b.length < i + 3) : nr b i = none := by unfold nr; rw [if_neg (by omega)]
theorem lg_none {b : List UInt8} {R : Int} {i : Nat} (h : nr b i = none) : lg b R i = (0, 0) := by
  unfold lg
  rw [h]
  rfl
theorem lg_rep {c : UInt8} {n i : Nat} (h1 : 1 ≤ i) (h : i + 3 ≤ n) : lg (List.replicate n c) 32768 i = (min 258 (n - i), 1) := by
  obtain ⟨j, rfl⟩ : ∃ j, i = j + 1 := ⟨i - 1, by omega⟩
  have hn : nr (List.replicate n c) (j + 1) = some j := by
    unfold nr
    rw [if_pos (by rw [List.length_replicate]; omega), lastP, if_pos ⟨by rw [List.length_replicate]; omega, by rw [tr_rep (by omega), tr_rep (by omega)]⟩]
  have hm : mostL (List.replicate n c) (j + 1) = min 258 (n - (j + 1)) := by unfold mostL; rw [List.length_replicate]
  have hc : cm (List.replicate n c) j (j + 1) (mostL (List.replicate n c) (j + 1)) = mostL (List.replicate n c) (j + 1) := by
    have h9 := cmF_le (List.replicate n c) j (j + 1) (mostL (List.replicate n c) (j + 1)) 0
    have h8 := cmF_ge (List.replicate n c) j (j + 1) (mostL (List.replicate n c) (j + 1)) 0 (mostL (List.replicate n c) (j + 1)) (by omega) (fun k _ hk => by
      rw [hm] at hk
      rw [getD_rep (by omega), getD_rep (by omega)])
    unfold cm; omega
  have hp : 0 < mostL (List.replicate n c) (j + 1) := by rw [hm]; omega
  unfold lg
  rw [hn, show (256 : Nat) = 255 + 1 from rfl, lgF, if_pos ⟨hp, by omega⟩, hc, if_pos hp]
  have e : j + 1 - j = 1 := by omega
  rw [e, ← hm]
  cases nr (List.replicate n c) j with
  | none => rw [show (255 : Nat) = 254 + 1 from rfl, lgF]
  | some q => rw [show (255 : Nat) = 254 + 1 from rfl, lgF, if_neg (fun h => Nat.lt_irrefl _ h.1)]
def smL : List (Nat × Nat × Nat) → Nat
  | [] => 0
  | m :: r => m.2.1 + smL r
theorem smL_at : ∀ {l : List (Nat × Nat × Nat)} {i : Nat} {m : Nat × Nat × Nat}, l[i]? = some m → smL (l.drop i) = m.2.1 + smL (l.drop (i + 1))
  | [], i, m, h => by simp at h
  | x :: r, 0, m, h => by
    have hx : x = m := by simpa using h
    subst hx
    rfl
  | x :: r, i + 1, m, h => smL_at (l := r) (i := i) (by simpa using h)
theorem msF_end {b : List UInt8} {R : Int} : ∀ f i, b.length < i + 3 → msF b R f i = []
  | 0, i, _ => rfl
  | f + 1, i, h => by
    rw [msF, lg_none (nr_none h)]
    split
    · rw [if_neg (Nat.lt_irrefl _), msF_end f _ (by simp only; omega)]; rfl
    · rfl
def fxM (n : Nat) : Nat := fxL.getD (olN n) 0 + (lnB (olN n)).2 + fxD.getD (odN 1) 0 + exB (odN 1) 2 4
theorem fxM_le : ∀ n, n < 259 → 3 ≤ n → fxM n ≤ 19 := by decide +kernel
theorem fxL_le (i : Nat) : fxL.getD i 0 ≤ 9 := by
  have h : ∀ x ∈ fxL, x ≤ 9 := by decide +kernel
  rw [List.getD_eq_getElem?_getD]
  cases hx : fxL[i]? with
  | none => exact Nat.zero_le _
  | some x => exact h x (List.mem_of_getElem? hx)
def fxZ [W0] (ts : List (Nat × Nat)) : Nat := itL (tsI fxL fxD (ts.map tok))
theorem fxZ_app [W0] : ∀ (x y : List (Nat × Nat)), fxZ (x ++ y) = fxZ x + fxZ y
  | [], y => by simp [fxZ, tsI, itL]
  | t :: x, y => by
    have := fxZ_app x y
    unfold fxZ at *
    rw [List.cons_append, List.map_cons, List.map_cons, tsI, tsI, itL_app, itL_app, this]; omega
theorem fxZ_lits [W0] : ∀ (x : List UInt8), fxZ (lits x) ≤ 9 * x.length
  | [] => Nat.le_refl _
  | c :: x => by
    have := fxZ_lits x
    have h1 := tkI_lit (l := fxL) (dl := fxD) (t := (c.toNat, 0)) (.inl ⟨rfl, c.toNat_lt⟩) rfl
    have h2 := fxL_le (tsy (c.toNat, 0))
    unfold fxZ at *
    have e : lits (c :: x) = (c.toNat, 0) :: lits x := rfl
    rw [e, List.map_cons, tsI, itL_app, h1, List.length_cons]
    simp only [itL, sc]
    omega
theorem fxZ_mt [W0] (n : Nat) (y : List (Nat × Nat)) : fxZ ((n, 1) :: y) = fxM n + fxZ y := by
  have h1 := tkI_mt (l := fxL) (dl := fxD) (t := (n, 1)) (by simp)
  have e : tsy (n, 1) = olN n := rfl
  rw [e] at h1
  unfold fxZ fxM
  rw [List.map_cons, tsI, itL_app, h1]
  simp only [itL, sc, itL_app]
  omega
theorem rep_ms [W0] {c : UInt8} {n : Nat} : ∀ f i, 1 ≤ i → i ≤ n → n - i ≤ f → n - i ≤ smL (msF (List.replicate n c) 32768 f i) + 2 ∧ smL (msF (List.replicate n c) 32768 f i) ≤ n - i ∧ fxZ (pcF (List.replicate n c) i (msF (List.replicate n c) 32768 f i)) ≤ 19 * ((n - i + 257) / 258) + 18
  | f, i, h1, h2, h3 => by
    rcases Nat.lt_or_ge n (i + 3) with h | h
    · rw [msF_end f i (by rw [List.length_replicate]; exact h)]
      have h4 := fxZ_lits (List.drop i (List.replicate n c))
      rw [List.length_drop, List.length_replicate] at h4
      rw [pcF]
      simp only [smL]
      omega
    · obtain ⟨g, rfl⟩ : ∃ g, f = g + 1 := ⟨f - 1, by omega⟩
      obtain ⟨m, hm⟩ : ∃ m, m = min 258 (n - i) := ⟨_, rfl⟩
      have ih := rep_ms (c := c) (n := n) g (i + m) (by omega) (by omega) (by omega)
      rw [msF, if_pos (by rw [List.length_replicate]; omega), lg_rep h1 h, ← hm]
      simp only
      rw [if_pos (show 0 < m by omega), Nat.max_eq_left (show 1 ≤ m by omega)]
      rw [List.singleton_append, pcF]
      simp only [smL, Nat.sub_self, List.take_zero]
      rw [show lits [] = [] from rfl, List.nil_append, fxZ_mt]
      have h5 := fxM_le m (by omega) (by omega)
      have e : n - (i + m) = n - i - m := by omega
      rw [e] at ih
      refine ⟨by omega, by omega, ?_⟩
      have h6 := ih.2.2
      by_cases hd : n - i ≤ 258
      · rw [show n - i - m = 0 by omega] at h6
        omega
      · obtain rfl : m = 258 := by omega
        omega
theorem rep_all [W0] (c : UInt8) (n : Nat) : n ≤ smL (msR (List.replicate n c) 32768) + 3 ∧ smL (msR (List.replicate n c) 32768) ≤ n ∧ fxZ (pcT (List.replicate n c)) ≤ 19 * ((n + 256) / 258) + 27 := by
  unfold pcT
  rw [show msR (List.replicate n c) 32768 = msF (List.replicate n c) 32768 n 0 from by unfold msR; rw [List.length_replicate]; rfl]
  cases n with
  | zero => exact ⟨Nat.zero_le _, Nat.le_refl _, Nat.zero_le _⟩
  | succ k =>
    have h0 : lg (List.replicate (k + 1) c) 32768 0 = (0, 0) := lg_none (by unfold nr; rw [lastP]; split <;> rfl)
    have ih := rep_ms (c := c) (n := k + 1) k 1 (Nat.le_refl _) (by omega) (by omega)
    rw [msF, if_pos (by rw [List.length_replicate]; omega), h0]
    simp only
    rw [if_neg (Nat.lt_irrefl _), List.nil_append, show 0 + max 0 1 = 1 from rfl]
    obtain ⟨i1, i2, i3⟩ := ih
    refine ⟨by omega, by omega, ?_⟩
    have key : fxZ (pcF (List.replicate (k + 1) c) 0 (msF (List.replicate (k + 1) c) 32768 k 1)) ≤ 9 + fxZ (pcF (List.replicate (k + 1) c) 1 (msF (List.replicate (k + 1) c) 32768 k 1)) := by
      have hok := msF_ok (List.replicate (k + 1) c) 32768 k 1
      cases hms : msF (List.replicate (k + 1) c) 32768 k 1 with
      | nil =>
        rw [pcF, pcF, List.drop_zero, List.replicate_succ, List.drop_succ_cons, List.drop_zero, show c :: List.replicate k c = [c] ++ List.replicate k c from rfl, lits_app, fxZ_app]
        have := fxZ_lits [c]
        rw [List.length_singleton] at this
        omega
      | cons m r =>
        rw [hms] at hok
        have h1 := hok.1
        obtain ⟨q, hq⟩ : ∃ q, m.1 = q + 1 := ⟨m.1 - 1, by omega⟩
        rw [pcF, pcF, hq, List.drop_zero, List.replicate_succ, List.drop_succ_cons, List.drop_zero, Nat.sub_zero, List.take_succ_cons, Nat.add_sub_cancel, show c :: List.take q (List.replicate k c) = [c] ++ List.take q (List.replicate k c) from rfl, lits_app, List.append_assoc, fxZ_app]
        have := fxZ_lits [c]
        rw [List.length_singleton] at this
        omega
    have e : k + 1 - 1 = k := by omega
    rw [e] at i3
    omega
end Go.Df
namespace Go.Proofs.YtdcehmhelfohfaaGreatDoor
open Go Go.Vx Go.Hf Go.If Go.Df
variable [W0]
set_option linter.all false
theorem RwO.run {c : UInt8} {n : Nat} {o : List UInt8} {level : Int} (h : RwO (List.replicate n c) level o) (hl : 1 < level) : o.length ≤ 40 + n / 50 := by
  obtain ⟨x, q, rfl, hx, hc9, _, h2⟩ := h
  have h3 := (h2 hl).2
  rw [← wrI_sz] at h3
  have h4 : szB 0 [.fx (pcT (List.replicate n c))] = 3 + (fxZ (pcT (List.replicate n c)) + fxL.getD 256 0) := by
    show 0 + 1 + itL (blI (0 + 1) (.fx (pcT (List.replicate n c)))) = _
    simp only [blI, itL]
    rw [itL_app]
    simp only [itL, sc]
    unfold fxZ
    omega
  have h5 := (rep_all c n).2.2
  have h6 := fxL_le 256
  rw [show (wrB x q).length = (itL (wrI x q) + 7) / 8 from leB_length _ _]
  omega
end Go.Proofs.YtdcehmhelfohfaaGreatDoor
namespace Go.Proofs.YtdcehmhelfohfaaGreatDoor
open Go Go.Vx Go.Hf Go.If Go.Df
variable [W0]
set_option maxRecDepth 4000
set_option linter.all false
theorem awA_i : wrI [] (.st [97, 98]) = [(1, 1), (0, 2), (0, 5), (2, 16), (65533, 16), (97, 8), (98, 8)] := by simp [wrI, bsI, blI, raI, itL]
theorem awA_q : wrB [] (.st [97, 98]) = [1, 2, 0, 253, 255, 97, 98] := by
  unfold wrB
  rw [awA_i]
  simp only [itV, itL]
  decide +kernel
theorem awE_q : wrB [] (.st []) = [1, 0, 0, 255, 255] := by
  unfold wrB
  rw [show wrI [] (.st []) = [(1, 1), (0, 2), (0, 5), (0, 16), (65535, 16)] from by simp [wrI, bsI, blI, raI, itL]]
  simp only [itV, itL]
  decide +kernel
set_option maxHeartbeats 4000000 in
theorem dawake_n (L : List Chunk) : GvP Tryz.prog 7 [].toArray L (.bool true) := by
  refine Gv.of_body (args := []) Tryz.func7 rfl rfl ?_
  (repeat' first|refine kW ?_|refine kU fun bk=>?_|refine kV fun hc=>?_|refine kZ (fun hc=>?_) fun hc=>?_|fail)
  refine OW_buildSlice (cs := bsv [97, 98]) rfl (by rfl) (by simp [fillL, patch, Value.cells, zeros]; rfl) (by omega) rfl rfl (fun b1 => ?_)
  (repeat' first|refine kW ?_|refine kU fun bk=>?_|refine kV fun hc=>?_|refine kZ (fun hc=>?_) fun hc=>?_|fail)
  refine OW_convSame (l := bsv [97, 98]) rfl iU rfl ?_
  (repeat' first|refine kW ?_|refine kU fun bk=>?_|refine kV fun hc=>?_|refine kZ (fun hc=>?_) fun hc=>?_|fail)
  have hrs : Rs ([(b1, .cells (bsv [97, 98]).toArray 5 ((bsv [97, 98]).length, (bsv [97, 98]).length + 1))] :: L) 1 (.slice (some ⟨b1, 0, none⟩) 2 2) [(97 : UInt8), 98].length (bsv [97, 98]) := ⟨sl_cells (c := (bsv [97, 98]).toArray) (xs := bsv [97, 98]) (m := 2) Fnd.here rfl (by simp), _, _, rfl, Nat.le_refl _⟩
  have h1 := raw0_n (.slice (some ⟨b1, 0, none⟩) 2 2) 0 [97, 98] [] (.st [97, 98]) _ hrs (by decide) (by decide) (by unfold stB; rw [stF_stop (by decide)]; rfl) (by decide)
  rw [awA_q] at h1
  refine OW_call rfl rfl rfl h1 rfl (fun r L' hp => ?_)
  obtain ⟨C, ho, rfl⟩ := hp
  (repeat' first|refine kW ?_|refine kU fun bk=>?_|refine kV fun hc=>?_|refine kZ (fun hc=>?_) fun hc=>?_|fail)
  refine OW_EV (EV_convStr (m := 7) (b := [1, 2, 0, 253, 255, 97, 98]) rfl (by exact ow_sl ho)) rfl ?_
  (repeat' first|refine kW ?_|refine kU fun bk=>?_|refine kV fun hc=>?_|refine kZ (fun hc=>?_) fun hc=>?_|fail)
  have h2 := fun L => zlib_n (.slice none 0 0) 0 [] [] L (fun o => o = [1, 0, 0, 255, 255]) (fun _ => True) (fun _ _ _ => trivial) trivial Rs.nil (by decide) (fun L' _ h' => (raw0_n (.slice none 0 0) 0 [] [] (.st []) L' Rs.nil (by decide) (by decide) (by unfold stB; rw [stF_stop (by decide)]; rfl) (by decide)).mono fun r L2 hq => by
    obtain ⟨C, ho, rfl⟩ := hq
    rw [awE_q] at ho
    exact ⟨C, _, rfl, by decide, ho, rfl⟩)
  refine OW_call rfl rfl rfl (h2 _) rfl (fun r2 L' hp => ?_)
  obtain ⟨C2, o, rfl, _, ho2, rfl⟩ := hp
  have e2 : [120, flB 0] ++ [1, 0, 0, 255, 255] ++ be4 (adlV (adlN (1#32, 0#32) [])).toNat = [120, 1, 1, 0, 0, 255, 255, 0, 0, 0, 1] := by decide +kernel
  rw [e2] at ho2
  (repeat' first|refine kW ?_|refine kU fun bk=>?_|refine kV fun hc=>?_|refine kZ (fun hc=>?_) fun hc=>?_|fail)
  refine OW_EV (EV_convStr (m := 11) (b := [120, 1, 1, 0, 0, 255, 255, 0, 0, 0, 1]) rfl (by exact ow_sl ho2)) rfl ?_
  (repeat' first|refine kW ?_|refine kU fun bk=>?_|refine kV fun hc=>?_|refine kZ (fun hc=>?_) fun hc=>?_|fail)
  exact kE
end Go.Proofs.YtdcehmhelfohfaaGreatDoor
namespace Go.Proofs.YtdcehmhelfohfaaGreatDoor
open Go Go.Vx Go.Hf Go.If Go.Df
variable [W0]
set_option maxRecDepth 4000
set_option linter.all false
theorem owf_one {b n : Nat} {t : List UInt8} {e : Nat} (hn : t.length = n) (hm : n ≤ maxLen) : Ow e 1 (.slice (some ⟨b, 0, none⟩) n n) n (bsv t) [(b, cl (bsv t) e)] :=
  .inr ⟨b, n, [], rfl, by simp, by rw [bsv_length]; omega, by simp, Nat.le_refl _, hm⟩
theorem rep_st {c : UInt8} {n k : Nat} (h : k < n) : (bsv (List.replicate k c ++ List.replicate (n - k) 0)).set k (.int .u8 (c.toNat : Int)) = bsv (List.replicate (k + 1) c ++ List.replicate (n - (k + 1)) 0) := by
  obtain ⟨m, rfl⟩ : ∃ m, n = k + 1 + m := ⟨n - (k + 1), by omega⟩
  rw [show k + 1 + m - k = m + 1 from by omega, show k + 1 + m - (k + 1) = m from by omega, List.replicate_succ' (n := k), List.replicate_succ (n := m)]
  rw [bsv_append, List.set_append_right _ _ (by simp [bsv])]
  simp [bsv]
set_option maxHeartbeats 8000000 in
theorem deflateruns_n (c : UInt8) (n : Int) (L : List Chunk) (hor : OrAt L) :
    GvP Tryz.prog 5 [.int .u8 (c.toNat : Int), .int .i64 n].toArray L (.bool true) := by
  refine Gv.of_body (args := [.int .u8 (c.toNat : Int), .int .i64 n]) Tryz.func5 rfl rfl ?_
  (repeat' first|refine kW ?_|refine kU fun bk=>?_|refine kV fun hc=>?_|refine kZ (fun hc=>?_) fun hc=>?_|fail)
  · refine OW_callP rfl rfl rfl (dawake_n _) rfl ?_
    (repeat' first|refine kW ?_|refine kU fun bk=>?_|refine kV fun hc=>?_|refine kZ (fun hc=>?_) fun hc=>?_|fail)
    exact kE
  · refine OW_callP rfl rfl rfl (dawake_n _) rfl ?_
    (repeat' first|refine kW ?_|refine kU fun bk=>?_|refine kV fun hc=>?_|refine kZ (fun hc=>?_) fun hc=>?_|fail)
    exact kE
  obtain ⟨m, rfl⟩ : ∃ m : Nat, n = (m : Int) := ⟨n.toNat, by omega⟩
  have hm : m ≤ 100000 := by omega
  refine OW_makeSlice rfl rfl (by rfl) (Nat.le_refl _) (by omega) (by omega) rfl (fun bn => ?_)
  have hzb : zeros (Value.cells (.int .u8 0)).toList m = bsv (List.replicate 0 c ++ List.replicate (m - 0) 0) := zeros_bsv m
  rw [hzb]
  clear hzb
  (repeat' first|refine kW ?_|refine kU fun bk=>?_|refine kV fun hc=>?_|refine kZ (fun hc=>?_) fun hc=>?_|fail)
  refine WC_loop (X := Nat) (fun k => [(0, .int .u8 (c.toNat : Int)), (1, .int .i64 (m : Int)), (5, .slice (some ⟨bn, 0, none⟩) m m), (6, .int .i64 (k : Int))])
    (fun k => [(bn, cl (bsv (List.replicate k c ++ List.replicate (m - k) 0)) 5)] :: L) (fun k => k ≤ m) (fun k => m - k) 0 (Nat.zero_le _) iS (fun w h => h) ?_
  intro k hk
  replace hk : k ≤ m := hk
  (repeat' first|refine kW ?_|refine kU fun bk=>?_|refine kV fun hc=>?_|refine kZ (fun hc=>?_) fun hc=>?_|fail)
  · have hlt : k < m := by omega
    refine OW_EV (EV_indexAddr (j := k) rfl rfl rfl hlt) rfl ?_
    (repeat' first|refine kW ?_|refine kU fun bk=>?_|refine kV fun hc=>?_|refine kZ (fun hc=>?_) fun hc=>?_|fail)
    refine OW_storeTo (bsv (List.replicate (k + 1) c ++ List.replicate (m - (k + 1)) 0)) rfl rfl rfl (by rw [Nat.mul_one, Nat.zero_add]; exact rep_st hlt) iU (by simp [bsv_length]; omega) ?_
    (repeat' first|refine kW ?_|refine kU fun bk=>?_|refine kV fun hc=>?_|refine kZ (fun hc=>?_) fun hc=>?_|fail)
    exact WQ_round (X := Nat) (J := fun k => k ≤ m) (μ := fun k => m - k) (x := k) (k + 1) (by omega) (show k + 1 ≤ m by omega) iS (fun w h => h)
  obtain rfl : k = m := by omega
  obtain ⟨t, hteq⟩ : ∃ t, t = List.replicate k c := ⟨_, rfl⟩
  rw [show List.replicate k c ++ List.replicate (k - k) 0 = t from by simp [hteq]]
  have hl : k = t.length := by simp [hteq]
  have hall := rep_all c k
  have hrun : ∀ o, RwO t 2 o → o.length ≤ 40 + k / 50 := fun o h => by rw [hteq] at h; exact h.run (by omega)
  rw [← hteq] at hall
  clear hteq
  subst hl
  have ho0 := owf_one (b := bn) (t := t) (e := 5) rfl (by simp [maxLen]; omega)
  generalize [(bn, cl (bsv t) 5)] = C0 at ho0 ⊢
  generalize (some ⟨bn, 0, none⟩ : Option Addr) = va at ho0 ⊢
  have ht := Rs.ow (L := L) ho0
  refine OW_call rfl rfl rfl (rawA_n _ 2 t _ ht (by omega) hor.there) rfl (fun r L' hp => ?_)
  obtain ⟨C1, o, hO, _, ho1, rfl⟩ := hp
  have hol := hrun o hO
  obtain ⟨oa, oc, rfl⟩ := ow_slc ho1
  (repeat' first|refine kW ?_|refine kU fun bk=>?_|refine kV fun hc=>?_|refine kZ (fun hc=>?_) fun hc=>?_|fail)
  have hM : max (t.length : Int) 0 = (t.length : Int) := by omega
  obtain ⟨x, q, ho9, hx3, hbc, hit, _⟩ := id hO
  have hr1 : rawS o t.length = ⟨itL (wrI x q), t, 0⟩ := by have := raw_all (z := []) hbc hx3 (Nat.le_refl t.length); rwa [List.append_nil, ← ho9] at this
  have hp1 := fun H (hs : Sl H 1 (.slice oa o.length oc) o.length (bsv o)) (h9 : OrAt H) => praw_n oa oc o (t.length : Int) t.length H hs (by omega) hM (by omega) h9
  rw [hr1] at hp1
  refine OW_call rfl rfl rfl (hp1 _ (by repeat (first | exact ow_sl ho1 | apply sl_there)) (by repeat (first | exact hor | apply OrAt.there))) rfl (fun r L' hp => ?_)
  rcases hp with ⟨h0, _⟩ | ⟨_, v3, C3, rfl, ho3, _, _, rfl⟩
  · exact absurd rfl h0
  simp only at ho3
  obtain ⟨a3, c3, rfl⟩ := ow_slc ho3
  (repeat' first|refine kW ?_|refine kU fun bk=>?_|refine kV fun hc=>?_|refine kZ (fun hc=>?_) fun hc=>?_|fail)
  refine OW_EV (EV_quoN t.length 50 rfl rfl rfl rfl (by decide) (by omega)) rfl ?_
  (repeat' first|refine kW ?_|refine kU fun bk=>?_|refine kV fun hc=>?_|refine kZ (fun hc=>?_) fun hc=>?_|fail)
  refine OW_EV (EV_convStr (m := t.length) (b := t) rfl (by repeat (first | exact ow_sl ho3 | apply sl_there))) rfl ?_
  (repeat' first|refine kW ?_|refine kU fun bk=>?_|refine kV fun hc=>?_|refine kZ (fun hc=>?_) fun hc=>?_|fail)
  refine OW_EV (EV_convStr (m := t.length) (b := t) rfl (by repeat (first | exact ow_sl ho0 | apply sl_there))) rfl ?_
  (repeat' first|refine kW ?_|refine kU fun bk=>?_|refine kV fun hc=>?_|refine kZ (fun hc=>?_) fun hc=>?_|fail)
  all_goals (try exact absurd trivial hc)
  refine OW_call rfl rfl rfl (matches_n _ 32768 t _ (ht.sub iM) (by omega) (by omega)) rfl (fun r L' hp => ?_)
  obtain ⟨C, ho, rfl⟩ := hp
  obtain ⟨hs1, hs2, _⟩ := hall
  generalize msR t 32768 = ms at ho hs1 hs2
  rw [mtc_flt] at ho
  have hrs := Rs.ow (L := C3 :: C1 :: C0 :: L) ho
  have hml : ms.length ≤ 9223372036854775807 := by
    rcases ho with ⟨_, h0, _⟩ | ⟨_, cap, _, _, _, _, _, h1, h2⟩
    · omega
    · unfold maxLen at h2; omega
  obtain ⟨ra, rc, rfl, _⟩ := hrs.room
  (repeat' first|refine kW ?_|refine kU fun bk=>?_|refine kV fun hc=>?_|refine kZ (fun hc=>?_) fun hc=>?_|fail)
  refine WC_loop (X := Nat × Nat) (fun x => [(1, .int .i64 (t.length : Int)), (11, .int .i64 (x.2 : Int)), (12, .slice ra ms.length rc), (13, .int .i64 (x.1 : Int))]) (fun x => C :: C3 :: C1 :: C0 :: L)
    (fun x => x.1 ≤ ms.length ∧ x.2 + smL (ms.drop x.1) = smL ms) (fun x => ms.length - x.1) (0, 0) ⟨Nat.zero_le _, Nat.zero_add _⟩ iS (fun w h => h) ?_
  rintro ⟨i, en⟩ ⟨hi, hen⟩
  simp only at hi hen ⊢
  (repeat' first|refine kW ?_|refine kU fun bk=>?_|refine kV fun hc=>?_|refine kZ (fun hc=>?_) fun hc=>?_|fail)
  · have hil : i < ms.length := by omega
    obtain ⟨m, hm⟩ : ∃ m, ms[i]? = some m := ⟨ms[i], List.getElem?_eq_getElem hil⟩
    rw [smL_at hm] at hen
    obtain ⟨tb, toff, tcap, hv9, hrd⟩ := hrs.elem hil (by decide)
    injection hv9 with q1 q2 q3
    subst q1 q3
    clear q2
    rw [flt_at (k := 3) (fun _ => rfl) hm] at hrd
    obtain ⟨at9, n, d⟩ := m
    simp only at hen hrd
    obtain h0 | ⟨bb, off, cc, T, fr, hv9, hfn, hcs⟩ := hrd
    · exact absurd h0 (by simp [MtV])
    injection hv9 with q1 q2
    subst q1 q2
    have hc2 := hcs 1 (.int .i64 (n : Int)) rfl
    refine OW_EV (EV_indexAddr (j := i) rfl rfl rfl hil) rfl ?_
    (repeat' first|refine kW ?_|refine kU fun bk=>?_|refine kV fun hc=>?_|refine kZ (fun hc=>?_) fun hc=>?_|fail)
    refine OW_EV (EV_load rfl hfn hc2) rfl ?_
    (repeat' first|refine kW ?_|refine kU fun bk=>?_|refine kV fun hc=>?_|refine kZ (fun hc=>?_) fun hc=>?_|fail)
    refine WQ_round (X := Nat × Nat) (μ := fun x => ms.length - x.1) (x := (i, en)) (i + 1, en + n) (by simp only; omega) ⟨by simp only; omega, by simp only; omega⟩ iS (fun w h => h)
  all_goals (obtain rfl : i = ms.length := by omega)
  all_goals (rw [List.drop_length] at hen; have hen : en = smL ms := hen)
  · refine OW_callP rfl rfl rfl (dawake_n _) rfl ?_
    (repeat' first|refine kW ?_|refine kU fun bk=>?_|refine kV fun hc=>?_|refine kZ (fun hc=>?_) fun hc=>?_|fail)
    exact kE
  · refine OW_callP rfl rfl rfl (dawake_n _) rfl ?_
    (repeat' first|refine kW ?_|refine kU fun bk=>?_|refine kV fun hc=>?_|refine kZ (fun hc=>?_) fun hc=>?_|fail)
    exact kE
  · exfalso
    omega
end Go.Proofs.YtdcehmhelfohfaaGreatDoor
namespace Go.Proofs.YtdcehmhelfohfaaGreatDoor
open Go Go.Vx Go.ChangeShapes Go.WideShapes Go.ChangeAt Go.RowKit
set_option maxRecDepth 4000
set_option linter.all false
def tabZ : List Int := [16, 17, 18, 0, 8, 7, 9, 6, 10, 5, 11, 4, 12, 3, 13, 2, 14, 1, 15]
theorem tabZ_eq {i : Nat} (h : i < 19) : tabZ.getD i 0 = ((Go.If.ordL.getD i 0 : Nat) : Int) := by
  have : ∀ i : Fin 19, tabZ.getD i.val 0 = ((Go.If.ordL.getD i.val 0 : Nat) : Int) := by decide
  exact this ⟨i, h⟩
theorem tab_met {W : World} (h : laidMetH Tryz.prog [("stemma/symbols.order", Rows.laid_stemma_symbols_order)] W) : OrAt [blks W] := by
  letI : W0 := ⟨W.os, W.output⟩
  have ht : Lib.TabIs Tryz.prog W "stemma/symbols.order" .i64 tabZ :=
    Lib.tabIs_of_head (rest := []) (show Tryz.prog.globalNamed "stemma/symbols.order" = some 0 by kernel_rfl) (show (Tryz.prog.globals[0]?).map (·.type) = some 233 by kernel_rfl)
      Tryz.underlying233 Tryz.underlying3 (show Tryz.prog.cellsOf 3 = 1 by kernel_rfl) (show Tryz.prog.cellsOf 233 = 19 by kernel_rfl) h
  have hg : Tryz.prog.globalNamed "stemma/symbols.order" = some 0 := by kernel_rfl
  have hc0 := ht.cell hg 0 (by decide)
  have hblk : ∃ C T fr, W.heap[0]? = some (.cells C T fr) := by
    unfold World.cell? at hc0
    split at hc0
    · rename_i C T fr hb; exact ⟨C, T, fr, hb⟩
    · cases hc0
  obtain ⟨C, T, fr, hb⟩ := hblk
  refine ⟨C, T, fr, by simpa [Fnd] using blks_mem.2 hb, fun i hi => ?_⟩
  have := ht.cell hg i hi
  rw [cell_of hb] at this
  rw [this, tabZ_eq hi]
end Go.Proofs.YtdcehmhelfohfaaGreatDoor
namespace Go.Proofs.YtdcehmhelfohfaaGreatDoor
open Go Go.Vx Go.ChangeShapes Go.WideShapes Go.ChangeAt Go.RowKit
set_option linter.all false
set_option maxRecDepth 4000
theorem top_row (H : Type) (enc : TypeId × Value → H) (W : World) (base : Nat) (args : Array Value) (ds gs : List (DataW H)) (before : List MemPlace)
    (hval : ∀ (j : Nat) t v, Tryz.f5.params[j]? = some t → args[j]? = some v → Value.okWide Tryz.prog W .any base t v)
    (hW : DataW.Whole enc Tryz.prog Tryz.f5.params.toList Rows.deflateRunsSpec.vars false W args.toList ds gs before)
    (hz : (DataW.weightsEach Tryz.prog (Tryz.f5.params.toList ++ Rows.deflateRunsSpec.plain.varTypes Tryz.prog) (ds ++ gs)).all (· ≤ reachBytes) = true) (hL : laidMetH Tryz.prog [("stemma/symbols.order", Rows.laid_stemma_symbols_order)] W) :
    Calls Tryz.prog 5 args W fun e W' => ∃ v, e = .returned v ∧ Rows.deflateRunsSpec.post enc Tryz.prog Tryz.f5 false true false false W args v W' := by
  have hW' := hW
  obtain ⟨p, q, hA0, hV, rfl, hfz, hnd⟩ := hW
  have hA : DataW.TrodAll enc Tryz.prog W 0 (fun _ => true) true Tryz.f5.params.toList args.toList ds p := hA0
  rw [Tryz.params5] at hA hval hz
  obtain ⟨v0, vs0, d0, ds0, p0, q0, hargs, rfl, rfl, h0, r0⟩ := trodAll_cons hA
  obtain ⟨v1, vs1, d1, ds1, p1, q1, rfl, rfl, rfl, h1, r1⟩ := trodAll_cons r0
  obtain ⟨rfl, rfl, rfl⟩ := trodAll_nil r1
  obtain rfl : args = #[v0, v1] := by cases args; simp_all
  obtain ⟨rfl, rfl⟩ := trodVars_none hV
  obtain ⟨n0, rfl, rfl, rfl, w0⟩ := open_int Tryz.underlying5 (hval 0 _ v0 rfl rfl) h0
  obtain ⟨n1, rfl, rfl, rfl, w1⟩ := open_int Tryz.underlying3 (hval 1 _ v1 rfl rfl) h1
  clear hA0
  have hc : Calls Tryz.prog 5 #[.int .u8 n0, .int .i64 n1] W fun e W' => e = .returned (.bool true) ∧ Kept W W' := by
    have ht := tab_met hL
    refine bridge (fun {i} => ?_)
    obtain ⟨c, hcc⟩ : ∃ c : UInt8, n0 = (c.toNat : Int) := by
      have h0 := w0
      simp [Lit.wf, IntKind.min, IntKind.max, IntKind.signed, IntKind.bits] at h0
      refine ⟨UInt8.ofNat n0.toNat, ?_⟩
      simp only [UInt8.toNat_ofNat']
      omega
    subst hcc
    exact deflateruns_n c n1 _ ht
  refine hc.mono fun e W' ⟨he, bel⟩ => ?_
  subst he
  exact ⟨_, rfl, _, _, _, [], _, [], hW', trodAll_mk1 (shut_bool Tryz.underlying4 _), (trodAll_cons_mk (shut_int Tryz.underlying5 w0) (trodAll_cons_mk (shut_int Tryz.underlying3 w1) trodAll_mk0)), rfl, bel.frame _, fun h => by cases h⟩
noncomputable def laidWorld (os : Os) : World :=
  { World.holding Tryz.prog os ⟨#[], #[], []⟩ with heap := (World.holding Tryz.prog os ⟨#[], #[], []⟩).heap.modify 0 fun
      | .cells _ t frozen => .cells (tabZ.map (Value.int .i64)).toArray t frozen
      | o => o }
theorem laid_met (os : Os) : laidMet Tryz.prog Rows.deflateRunsRow.laid ((laidWorld os).forCall (fun _ _ => 0) ⟨#[], #[.int .u8 0, .int .i64 0], []⟩).memory :=
  laidMet_of_run' 8 (by kernel_rfl) (by kernel_rfl)
theorem reads (os : Os) {H : Type} (enc : TypeId × Value → H) : ∃ places, DataW.whole enc Tryz.prog ((laidWorld os).forCall (fun _ _ => 0) ⟨#[], #[.int .u8 0, .int .i64 0], []⟩).memory Tryz.f5.params.toList Rows.deflateRunsSpec.vars false #[.int .u8 0, .int .i64 0].toList 8 = some ([.lit (.int .u8 0), .lit (.int .i64 0)], [], places) :=
  ⟨[], by kernel_rfl⟩
set_option maxRecDepth 100000 in
theorem top_lifted (os : Os) (started : os.Started) (H : Type) (enc : TypeId × Value → H) (F : Stop.Interp) :
    ReturnsInHanded {} Tryz.checked os 5 .any ((OpenSpec.ofChange Rows.deflateRunsSpec).preRow enc Tryz.prog Tryz.f5 Rows.deflateRunsRow.domain false Rows.deflateRunsRow.laid) (((OpenSpec.ofChange Rows.deflateRunsSpec).at F).post enc Tryz.prog Tryz.f5 false true false false) := by
  obtain ⟨places, hx⟩ := reads os enc
  refine returnsInHanded_of_row (C := Tryz.checked) (s := (OpenSpec.ofChange Rows.deflateRunsSpec)) Tryz.own started (by kernel_rfl) Tryz.func5
    (witness_row_at (enc := enc) (C := Tryz.checked) false (laidWorld os) #[.int .u8 0, .int .i64 0] rfl (by kernel_rfl) (by kernel_rfl) (by kernel_rfl)
      (OpenSpec.preRow_of_cond 8 hx (by kernel_rfl) (fun k hk => by cases hk) (by kernel_rfl) (laid_met os))) ?_
  intro W base args ds gs before hval hW _ hcond hz hL _ _
  exact top_row H enc W base args ds gs before hval hW hz hL
theorem top_over : Rows.DeflateRunsSaid :=
  OpenClaim.holds_of_cond 5 Tryz.f5 rfl rfl rfl rfl rfl rfl rfl ⟨rfl, rfl, rfl, rfl, rfl⟩ rfl rfl rfl rfl rfl (by kernel_rfl) Tryz.func5 (by kernel_rfl)
    (of_decide_eq_true (by kernel_rfl)) (by unfold Func.isWrapper; first | (rw [if_pos (by decide +kernel)]; kernel_rfl) | (rw [if_neg (by decide +kernel)]; exact ⟨rfl, rfl⟩))
    (fun os started H enc _ F => by rw [OpenClaim.pre_eq_preRow]; exact top_lifted os started H enc F)
theorem top_plain (f : FuncId) (fn : Func) (hf : Tryz.pinned.checked.prog.funcNamed "stemma/stemmalaw7.DeflateRuns" = some f) (hfn : Tryz.pinned.checked.prog.funcs[f]? = some fn) :
    true = Tryz.pinned.checked.prog.looks [] ∧ ∀ (j : Nat) t, fn.params[j]? = some t → Tryz.pinned.checked.prog.wantsStandIn t = false := by
  obtain rfl : f = 5 := Option.some.inj ((show Tryz.prog.funcNamed "stemma/stemmalaw7.DeflateRuns" = some 5 by kernel_rfl).symm.trans hf) |>.symm
  obtain rfl : fn = Tryz.f5 := (Option.some.inj (Tryz.func5.symm.trans hfn)).symm
  have all : (Tryz.f5.params.toList.all fun t => !Tryz.prog.wantsStandIn t) = true := by kernel_rfl
  refine ⟨by kernel_rfl, fun j t ht => ?_⟩
  have hm : t ∈ Tryz.f5.params.toList := by
    have := Array.mem_of_getElem? ht
    simpa using this
  have := List.all_eq_true.1 all t hm
  show Tryz.prog.wantsStandIn t = false
  simpa using this
theorem top_holds : Rows.DeflateRunsCardSaid :=
  Claim7.holds_tied_plain_at .later [] _ _ _ _ top_over (fun _ h => by cases h) (by kernel_rfl) (fun _ h => by cases h) deflateRuns_row_tie rfl ⟨rfl, rfl⟩ (by kernel_rfl) rfl top_plain (by kernel_rfl)
end Go.Proofs.YtdcehmhelfohfaaGreatDoor
