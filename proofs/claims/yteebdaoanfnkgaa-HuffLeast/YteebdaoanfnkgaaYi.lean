/- The document's least cost, by packages of coins. It proves no statement by itself. No conditions. -/
import Derived.Test.YteebdaoanfnkgaaYh
namespace Go.Hf
open Go.Pm
set_option linter.all false
/-- The levels' worths, sorted. -/
def lwR (ws : List Nat) : Nat → List Nat
  | 0 => []
  | k + 1 => (ws ++ psum (lwR ws k)).mergeSort fun a b => decide (a ≤ b)
theorem lwR_up (l : List Nat) : (l.mergeSort fun a b => decide (a ≤ b)).Pairwise fun a b => a ≤ b := by
  have := List.pairwise_mergeSort (le := fun a b : Nat => decide (a ≤ b)) (by intro a b c; simp; omega) (by intro a b; simp; omega) l
  simpa using this
theorem lwR_Lw (ws : List Nat) : Lw ws (lwR ws) := ⟨rfl, fun k => lwR_up _, fun k => List.mergeSort_perm _ _⟩
theorem lwR_eq {ws R : List Nat} {k : Nat} (hs : R.Pairwise fun a b => a ≤ b) (hp : R.Perm (ws ++ psum (lwR ws k))) : R = lwR ws (k + 1) :=
  List.Perm.eq_of_pairwise (fun a b _ _ h1 h2 => Nat.le_antisymm h1 h2) hs (lwR_up _) (hp.trans (List.mergeSort_perm _ _).symm)
def leastN (cs : List Nat) (most : Nat) : Nat :=
  let ws := cs.filter fun x => decide (0 < x)
  if ws.length < 2 then ws.sum else ((lwR ws most).take (2 * ws.length - 2)).sum
/-- A list of numbers by their places. -/
def vec (m : Nat) (g : Nat → Nat) : List Nat := (List.range m).map g
theorem vec_length (m : Nat) (g : Nat → Nat) : (vec m g).length = m := by simp [vec]
theorem vec_get {m : Nat} {g : Nat → Nat} {j : Nat} (h : j < m) : (vec m g)[j]? = some (g j) := by simp [vec, List.getElem?_range h]
theorem vec_getD (m : Nat) (g : Nat → Nat) (j : Nat) : (vec m g).getD j 0 = if j < m then g j else 0 := by
  split
  · rename_i h; simp [List.getD, vec_get h]
  · rename_i h; simp [List.getD, List.getElem?_eq_none (show (vec m g).length ≤ j by rw [vec_length]; omega)]
theorem vec_congr {m : Nat} {g h : Nat → Nat} (hh : ∀ j, j < m → g j = h j) : vec m g = vec m h := List.map_congr_left fun j hj => hh j (List.mem_range.1 hj)
theorem vec_set {m : Nat} {g h : Nat → Nat} {i : Nat} (hi : i < m) (hh : ∀ j, j ≠ i → g j = h j) : (vec m g).set i (h i) = vec m h := by
  apply List.ext_getElem?
  intro j
  rcases Nat.lt_or_ge j m with hj | hj
  · by_cases h1 : j = i
    · subst h1; rw [List.getElem?_set_self (by rw [vec_length]; exact hj), vec_get hj]
    · rw [List.getElem?_set_ne (fun h2 => h1 h2.symm), vec_get hj, vec_get hj, hh j h1]
  · rw [List.getElem?_eq_none (by rw [List.length_set, vec_length]; exact hj), List.getElem?_eq_none (by rw [vec_length]; exact hj)]
def dotN (cs : List Nat) (m : Nat) (g : Nat → Nat) : Nat := sumTo (fun j => cs.getD j 0 * g j) m
theorem dotN_add (cs : List Nat) (m : Nat) (g h : Nat → Nat) : dotN cs m (fun j => g j + h j) = dotN cs m g + dotN cs m h := by
  unfold dotN
  rw [← sumTo_plus]
  exact sumTo_congr fun j _ => Nat.mul_add _ _ _
theorem dotN_zero (cs : List Nat) (m : Nat) : dotN cs m (fun _ => 0) = 0 := by
  unfold dotN
  rw [sumTo_congr (h := fun _ => 0) (fun j _ => Nat.mul_zero _), sumTo_const, Nat.mul_zero]
theorem sumTo_none {g : Nat → Nat} {n : Nat} (h : ∀ j, j < n → g j = 0) : sumTo g n = 0 := by
  rw [sumTo_congr (h := fun _ => 0) h, sumTo_const, Nat.mul_zero]
theorem dotN_unit (cs : List Nat) {m i : Nat} (h : i < m) : dotN cs m (fun j => if j = i then 1 else 0) = cs.getD i 0 := by
  obtain ⟨k, rfl⟩ := Nat.le.dest h
  unfold dotN
  have e1 : sumTo (fun j => cs.getD j 0 * (fun j => if j = i then 1 else 0) j) i = 0 := sumTo_none fun j hj => by
    have : j ≠ i := by omega
    simp [this]
  have e2 : sumTo (fun t => (fun j => cs.getD j 0 * (fun j => if j = i then 1 else 0) j) (i.succ + t)) k = 0 := sumTo_none fun j hj => by
    have : i + 1 + j ≠ i := by omega
    simp [this]
  rw [sumTo_add, e2]
  show sumTo (fun j => cs.getD j 0 * (fun j => if j = i then 1 else 0) j) i + cs.getD i 0 * (if i = i then 1 else 0) + 0 = _
  rw [e1]
  simp
theorem dotN_le {cs : List Nat} {m B : Nat} {g : Nat → Nat} (hc : ∀ i, cs.getD i 0 ≤ 1073741824) (hg : ∀ j, g j ≤ B) : dotN cs m g ≤ m * (1073741824 * B) := by
  unfold dotN
  induction m with
  | zero => simp [sumTo]
  | succ m ih =>
    have := Nat.mul_le_mul (hc m) (hg m)
    simp only [sumTo, Nat.add_mul, Nat.one_mul]
    omega
theorem psum_snoc : ∀ {l : List Nat} {p a b : Nat}, l[2 * p]? = some a → l[2 * p + 1]? = some b → psum (l.take (2 * (p + 1))) = psum (l.take (2 * p)) ++ [a + b]
  | [], p, a, b, h, _ => by simp at h
  | [x], p, a, b, _, h => by simp at h
  | x :: y :: r, 0, a, b, h1, h2 => by
    simp at h1 h2
    subst h1 h2
    simp [psum]
  | x :: y :: r, p + 1, a, b, h1, h2 => by
    rw [show 2 * (p + 1) = 2 * p + 1 + 1 from by omega] at h1 h2
    have ih := psum_snoc (l := r) (p := p) (a := a) (b := b) (by simpa using h1) (by simpa using h2)
    rw [show 2 * (p + 1 + 1) = 2 * (p + 1) + 1 + 1 from by omega, show 2 * (p + 1) = 2 * p + 1 + 1 from by omega]
    simp only [List.take_succ_cons, psum, List.cons_append]
    rw [← ih, show 2 * (p + 1) = 2 * p + 1 + 1 from by omega]
theorem psum_take : ∀ {l : List Nat} {p : Nat}, l.length ≤ 2 * p + 1 → 2 * p ≤ l.length → psum (l.take (2 * p)) = psum l
  | [], p, _, _ => by simp [psum]
  | [x], p, _, h => by
    have : p = 0 := by simp at h; omega
    subst this; rfl
  | x :: y :: r, 0, h, _ => by simp at h
  | x :: y :: r, p + 1, h1, h2 => by
    have ih := psum_take (l := r) (p := p) (by simp at h1; omega) (by simp at h2; omega)
    rw [show 2 * (p + 1) = 2 * p + 1 + 1 from by omega]
    simp only [List.take_succ_cons, psum, ih]
theorem psum_length : ∀ l : List Nat, (psum l).length = l.length / 2
  | [] => rfl
  | [_] => by simp [psum]
  | a :: b :: r => by
    have := psum_length r
    simp only [psum, List.length_cons, this]
    omega
end Go.Hf
namespace Go.Vx
open Go Go.Hf
set_option linter.all false
variable [W0]
omit [W0] in
/-- Numbers by their places, as cells. -/
def vecV (m : Nat) (g : Nat → Nat) : List Value := (vec m g).map fun (n : Nat) => Value.int .i64 (n : Int)
theorem vecV_eq (m : Nat) (g : Nat → Nat) : vecV m g = (vec m g).map (fun (n : Nat) => Value.int .i64 (n : Int)) := rfl
theorem vecV_length (m : Nat) (g : Nat → Nat) : (vecV m g).length = m := by simp [vecV, vec_length]
theorem vecV_get {m : Nat} {g : Nat → Nat} {j : Nat} (h : j < m) : (vecV m g)[j]? = some (.int .i64 (g j : Int)) := by simp [vecV, vec_get h]
theorem vecV_set {m : Nat} {g h : Nat → Nat} {i : Nat} (hi : i < m) (hh : ∀ j, j ≠ i → g j = h j) : (vecV m g).set i (.int .i64 (h i : Int)) = vecV m h := by
  unfold vecV
  rw [← vec_set hi hh, List.map_set]
theorem vecV_congr {m : Nat} {g h : Nat → Nat} (hh : ∀ j, j < m → g j = h j) : vecV m g = vecV m h := by unfold vecV; rw [vec_congr hh]
theorem vecV_zero (m : Nat) : zeros [.int .i64 0] m = vecV m fun _ => 0 := by
  apply List.ext_getElem?
  intro j
  rcases Nat.lt_or_ge j m with hj | hj
  · rw [zeros_get _ _ _ (by simpa using hj), vecV_get hj]
    simp [Nat.mod_one]
  · rw [List.getElem?_eq_none (by rw [zeros_length]; simpa using hj), List.getElem?_eq_none (by rw [vecV_length]; exact hj)]
theorem vecV_sl {L : List Chunk} {m b : Nat} {g : Nat → Nat} {T : TypeId} : Sl ([(b, cl (vecV m g) T)] :: L) 1 (.slice (some ⟨b, 0, none⟩) m m) m (vecV m g) :=
  sl_cells (c := (vecV m g).toArray) Fnd.here (by rw [vecV_length, Nat.mul_one]) (by simp)
omit [W0] in
/-- A coin whose inside lies in the blocks I. -/
def Gd (cs : List Nat) (m : Nat) (I : Chunk) (B : Nat) (x : Nat × Value) : Prop := ∃ g : Nat → Nat, Sl [I] 1 x.2 m (vecV m g) ∧ x.1 = dotN cs m g ∧ ∀ j, g j ≤ B
theorem Gd.more {cs : List Nat} {m B : Nat} {I D : Chunk} {x : Nat × Value} (h : Gd cs m I B x) : Gd cs m (D ++ I) B x := by
  obtain ⟨g, h1, h2, h3⟩ := h
  exact ⟨g, sl_part (fun y hy => List.mem_append_right _ hy) h1, h2, h3⟩
theorem Gd.mono {cs : List Nat} {m B B' : Nat} {I : Chunk} {x : Nat × Value} (h : Gd cs m I B x) (hb : B ≤ B') : Gd cs m I B' x := by
  obtain ⟨g, h1, h2, h3⟩ := h
  exact ⟨g, h1, h2, fun j => Nat.le_trans (h3 j) hb⟩
theorem Gd.one {cs : List Nat} {m B : Nat} {I : Chunk} {x : Nat × Value} (h : Gd cs m I B x) : x.2.oneCell' = true := by
  obtain ⟨g, h1, _⟩ := h
  exact sl_one h1
theorem Gd.ones {cs : List Nat} {m B : Nat} {I : Chunk} {l : List (Nat × Value)} (h : ∀ x ∈ l, Gd cs m I B x) : onesC l = true := by
  unfold onesC
  rw [List.all_eq_true]
  exact fun x hx => (h x hx).one
/-- The new block among the coins' insides. -/
theorem hold_join {w : World} {A C D : Chunk} {L : List Chunk} : Holds w (A :: (C ++ D) :: L) ↔ Holds w (A :: C :: D :: L) := by simp [Holds, List.append_assoc]
theorem hold_join2 {w : World} {A B C D : Chunk} {L : List Chunk} : Holds w (A :: B :: (C ++ D) :: L) ↔ Holds w (A :: B :: C :: D :: L) := by simp [Holds, List.append_assoc]
theorem hold_join3 {w : World} {A B E C D : Chunk} {L : List Chunk} : Holds w (A :: B :: E :: (C ++ D) :: L) ↔ Holds w (A :: B :: E :: C :: D :: L) := by simp [Holds, List.append_assoc]
theorem fnd_mem {C : Chunk} {b : Nat} {o : Obj} (h : Fnd [C] b o) : (b, o) ∈ C := by simpa [Fnd] using h
/-- A place of a coin's inside. -/
theorem in_at {I : Chunk} {v : Value} {m : Nat} {g : Nat → Nat} (h : Sl [I] 1 v m (vecV m g)) {j : Nat} (hj : j < m) :
    ∃ b off cap c T fr, v = .slice (some ⟨b, off, none⟩) m cap ∧ (b, Obj.cells c T fr) ∈ I ∧ c[off + j * 1]? = some (.int .i64 (g j : Int)) := by
  obtain ⟨b, off, cap, c, T, fr, h1, h2, h3⟩ := sl_at h (vecV_get hj)
  exact ⟨b, off, cap, c, T, fr, h1, fnd_mem h2, h3⟩
end Go.Vx
namespace Go.Proofs.Yteebdaoanfnkgaa
open Go Go.Vx Go.Hf Go.Pm
variable [W0]
set_option maxRecDepth 4000
set_option linter.all false

theorem icn_vec (m : Nat) (g : Nat → Nat) : intsN (icn (vec m g)) = vecV m g := by simp [intsN, icn, vecV]
theorem cost_vec (cs : List Nat) (g : Nat → Nat) : costN cs (vec cs.length g) (min cs.length (vec cs.length g).length) = dotN cs cs.length g := by
  rw [vec_length, Nat.min_self]
  exact sumTo_congr fun j hj => by rw [vec_getD, if_pos hj]
theorem cost_v (a0 a1 : Option Addr) (c0 c1 m : Nat) (cs : List Nat) (g : Nat → Nat) (L : List Chunk) (hm : m = cs.length) (h0 : Sl L 1 (.slice a0 m c0) m (intsN (icn cs))) (h1 : Sl L 1 (.slice a1 m c1) m (vecV m g))
    (hl : cs.length ≤ 1000) (hcB : ∀ i, cs.getD i 0 ≤ 2147483648) (hsB : ∀ i, g i ≤ 1048576) :
    GvP Try.prog 38 [.slice a0 m c0, .slice a1 m c1].toArray L (.int .i64 ((dotN cs m g : Nat) : Int)) := by
  subst hm
  have := cost_n a0 a1 c0 c1 cs (vec cs.length g) L h0 (by rw [vec_length, icn_vec]; exact h1) hl hcB (fun i => by rw [vec_getD]; split; exact hsB i; omega)
  rw [cost_vec, vec_length] at this
  exact this
theorem icn_get {l : List Nat} {i : Nat} (h : i < l.length) : (intsN (icn l))[i]? = some (.int .i64 (l.getD i 0 : Int)) := by simp [intsN, icn, List.getD, h]

set_option maxHeartbeats 16000000 in
theorem least_n (a0 : Option Addr) (c0 : Nat) (cs : List Nat) (most : Nat) (L : List Chunk) (h : Sl L 1 (.slice a0 cs.length c0) cs.length (intsN (icn cs))) (hl : cs.length ≤ 12) (hcB : ∀ i, cs.getD i 0 ≤ 1073741824) (hm1 : 1 ≤ most) (hm2 : most ≤ 15) :
    GvP Try.prog 22 [.slice a0 cs.length c0, .int .i64 (most : Int)].toArray L (.int .i64 ((leastN cs most : Nat) : Int)) := by
  obtain ⟨m, hm⟩ : ∃ m, m = cs.length := ⟨_, rfl⟩
  rw [← hm] at h hl ⊢
  refine Gv.of_body Try.func22 rfl rfl ?_
  (repeat' (first | (show WL _ _ _ _ _ _ _; first | (refine WL_plain rfl ?_) | (refine WL_nil ?_) | (refine WL_on rfl rfl ?_) | (refine WL_off rfl rfl rfl rfl ?_) | (refine WL_offu rfl rfl rfl rfl ?_) | (refine WL_off' rfl rfl rfl ?_) | ((refine WL_split rfl rfl (fun hc => ?_) (fun hc => ?_)) <;> (rw [hc]; (try simp only [nrB] at hc); (try (exfalso; first | omega | exact hc trivial | exact hc rfl))))) | (show OW _ _ _ _ _ _; refine OW_E ?_) | (show OW _ _ ⟨_, .store .., _, _, _, _⟩ _ _ _; first | (refine OW_store rfl rfl rfl (by repeat (first | exact Upd.here | apply Upd.there)) (by first | (simp; done) | (simp; omega)) ?_) | (refine OW_storeAgg rfl rfl rfl rfl (by repeat (first | exact Upd.here | apply Upd.there)) (by first | (simp [Value.cells]; done) | (simp [Value.cells]; omega)) ?_)) | (show OW _ _ ⟨_, .alloc _, _, _, _, _⟩ _ _ _; first | (refine OW_alloc rfl (fun bk => ?_))) | (show OW _ _ ⟨_, .box .., _, _, _, _⟩ _ _ _; first | (refine OW_box rfl rfl (fun bk => ?_))) | (show WC _ _ _ _ _ _; first | (refine WC_seq ?_) | (refine WC_region ?_) | (refine WC_true rfl ?_) | (refine WC_false rfl ?_) | ((refine WC_cond rfl (fun hc => ?_) (fun hc => ?_)) <;> (try simp only [nrB] at hc) <;> (try (exfalso; first | omega | exact hc trivial | exact hc rfl))) | (refine WC_skip ?_) | (refine WC_ret ?_) | (refine WC_exit ?_) | (refine WC_block ?_)) | (show WQ _ _ _ _; first | (with_reducible refine WQ_then_normal ?_) | (with_reducible refine WQ_code ?_) | (with_reducible refine WQ_then_ret ?_) | (with_reducible refine WQ_block_ret ?_) | (with_reducible refine WQ_then_exit ?_) | (with_reducible refine WQ_block_hit ?_) | (with_reducible refine WQ_block_miss rfl ?_) | (with_reducible refine WQ_block_normal ?_))))
  refine WC_holds' (L' := [] :: [] :: L) (fun w h => Holds.nil.2 (Holds.nil.2 h)) ?_
  refine WC_loop (X := Nat × Value × List (Nat × Value) × Chunk × Chunk) (fun x => [(0, .slice a0 m c0), (1, .int .i64 (most : Int)), (5, x.2.1), (6, .int .i64 (x.2.2.1.length : Int)), (7, .int .i64 (x.1 : Int))]) (fun x => x.2.2.2.1 :: x.2.2.2.2 :: L)
    (fun x => x.1 ≤ m ∧ Ow 88 2 x.2.1 x.2.2.1.length (coinsC x.2.2.1) x.2.2.2.1 ∧ (∀ y ∈ x.2.2.1, Gd cs m x.2.2.2.2 1 y) ∧ x.2.2.1.map Prod.fst = (cs.take x.1).filter fun z => decide (0 < z)) (fun x => m - x.1) (0, .slice none 0 0, [], [], [])
    ⟨Nat.zero_le _, .inl ⟨rfl, rfl, rfl, rfl⟩, fun y hy => by simp at hy, rfl⟩ (by repeat (first | exact Sub.nil | refine Sub.cons rfl ?_ | refine Sub.cons (lk_int rfl (by first | omega | (dsimp only; omega))) ?_)) (fun w h => h) ?_
  rintro ⟨i, v, ks, C, I⟩ ⟨hi, hO, hG, hws⟩
  simp only at hi hO hG hws ⊢
  have hkl : ks.length ≤ i := by
    have := congrArg List.length hws
    rw [List.length_map] at this
    rw [this]
    exact Nat.le_trans (List.length_filter_le _ _) (by simp; omega)
  (repeat' (first | (show WL _ _ _ _ _ _ _; first | (refine WL_plain rfl ?_) | (refine WL_nil ?_) | (refine WL_on rfl rfl ?_) | (refine WL_off rfl rfl rfl rfl ?_) | (refine WL_offu rfl rfl rfl rfl ?_) | (refine WL_off' rfl rfl rfl ?_) | ((refine WL_split rfl rfl (fun hc => ?_) (fun hc => ?_)) <;> (rw [hc]; (try simp only [nrB] at hc); (try (exfalso; first | omega | exact hc trivial | exact hc rfl))))) | (show OW _ _ _ _ _ _; refine OW_E ?_) | (show OW _ _ ⟨_, .store .., _, _, _, _⟩ _ _ _; first | (refine OW_store rfl rfl rfl (by repeat (first | exact Upd.here | apply Upd.there)) (by first | (simp; done) | (simp; omega)) ?_) | (refine OW_storeAgg rfl rfl rfl rfl (by repeat (first | exact Upd.here | apply Upd.there)) (by first | (simp [Value.cells]; done) | (simp [Value.cells]; omega)) ?_)) | (show OW _ _ ⟨_, .alloc _, _, _, _, _⟩ _ _ _; first | (refine OW_alloc rfl (fun bk => ?_))) | (show OW _ _ ⟨_, .box .., _, _, _, _⟩ _ _ _; first | (refine OW_box rfl rfl (fun bk => ?_))) | (show WC _ _ _ _ _ _; first | (refine WC_seq ?_) | (refine WC_region ?_) | (refine WC_true rfl ?_) | (refine WC_false rfl ?_) | ((refine WC_cond rfl (fun hc => ?_) (fun hc => ?_)) <;> (try simp only [nrB] at hc) <;> (try (exfalso; first | omega | exact hc trivial | exact hc rfl))) | (refine WC_skip ?_) | (refine WC_ret ?_) | (refine WC_exit ?_) | (refine WC_block ?_)) | (show WQ _ _ _ _; first | (with_reducible refine WQ_then_normal ?_) | (with_reducible refine WQ_code ?_) | (with_reducible refine WQ_then_ret ?_) | (with_reducible refine WQ_block_ret ?_) | (with_reducible refine WQ_then_exit ?_) | (with_reducible refine WQ_block_hit ?_) | (with_reducible refine WQ_block_miss rfl ?_) | (with_reducible refine WQ_block_normal ?_))))
  · have hlt : i < m := by omega
    obtain ⟨b, off, cap, cc, T, fr, hve, hfn, hcell⟩ := sl_at h (icn_get (hm ▸ hlt))
    injection hve with q1 q2 q3
    subst q1 q3
    clear q2
    have hci := hcB i
    have htk : cs.take (i + 1) = cs.take i ++ [cs.getD i 0] := by
      have hlt2 : i < cs.length := hm ▸ hlt
      rw [List.take_add_one, List.getElem?_eq_getElem hlt2]
      simp [List.getD, hlt2]
    obtain ⟨x, hx⟩ : ∃ x, x = cs.getD i 0 := ⟨_, rfl⟩
    rw [← hx] at hcell hci htk
    refine OW_EV (EV_indexAddr (j := i) rfl rfl rfl hlt) rfl ?_
    (repeat' (first | (show WL _ _ _ _ _ _ _; first | (refine WL_plain rfl ?_) | (refine WL_nil ?_) | (refine WL_on rfl rfl ?_) | (refine WL_off rfl rfl rfl rfl ?_) | (refine WL_offu rfl rfl rfl rfl ?_) | (refine WL_off' rfl rfl rfl ?_) | ((refine WL_split rfl rfl (fun hc => ?_) (fun hc => ?_)) <;> (rw [hc]; (try simp only [nrB] at hc); (try (exfalso; first | omega | exact hc trivial | exact hc rfl))))) | (show OW _ _ _ _ _ _; refine OW_E ?_) | (show OW _ _ ⟨_, .store .., _, _, _, _⟩ _ _ _; first | (refine OW_store rfl rfl rfl (by repeat (first | exact Upd.here | apply Upd.there)) (by first | (simp; done) | (simp; omega)) ?_) | (refine OW_storeAgg rfl rfl rfl rfl (by repeat (first | exact Upd.here | apply Upd.there)) (by first | (simp [Value.cells]; done) | (simp [Value.cells]; omega)) ?_)) | (show OW _ _ ⟨_, .alloc _, _, _, _, _⟩ _ _ _; first | (refine OW_alloc rfl (fun bk => ?_))) | (show OW _ _ ⟨_, .box .., _, _, _, _⟩ _ _ _; first | (refine OW_box rfl rfl (fun bk => ?_))) | (show WC _ _ _ _ _ _; first | (refine WC_seq ?_) | (refine WC_region ?_) | (refine WC_true rfl ?_) | (refine WC_false rfl ?_) | ((refine WC_cond rfl (fun hc => ?_) (fun hc => ?_)) <;> (try simp only [nrB] at hc) <;> (try (exfalso; first | omega | exact hc trivial | exact hc rfl))) | (refine WC_skip ?_) | (refine WC_ret ?_) | (refine WC_exit ?_) | (refine WC_block ?_)) | (show WQ _ _ _ _; first | (with_reducible refine WQ_then_normal ?_) | (with_reducible refine WQ_code ?_) | (with_reducible refine WQ_then_ret ?_) | (with_reducible refine WQ_block_ret ?_) | (with_reducible refine WQ_then_exit ?_) | (with_reducible refine WQ_block_hit ?_) | (with_reducible refine WQ_block_miss rfl ?_) | (with_reducible refine WQ_block_normal ?_))))
    refine OW_EV (EV_load rfl hfn.there.there hcell) rfl ?_
    (repeat' (first | (show WL _ _ _ _ _ _ _; first | (refine WL_plain rfl ?_) | (refine WL_nil ?_) | (refine WL_on rfl rfl ?_) | (refine WL_off rfl rfl rfl rfl ?_) | (refine WL_offu rfl rfl rfl rfl ?_) | (refine WL_off' rfl rfl rfl ?_) | ((refine WL_split rfl rfl (fun hc => ?_) (fun hc => ?_)) <;> (rw [hc]; (try simp only [nrB] at hc); (try (exfalso; first | omega | exact hc trivial | exact hc rfl))))) | (show OW _ _ _ _ _ _; refine OW_E ?_) | (show OW _ _ ⟨_, .store .., _, _, _, _⟩ _ _ _; first | (refine OW_store rfl rfl rfl (by repeat (first | exact Upd.here | apply Upd.there)) (by first | (simp; done) | (simp; omega)) ?_) | (refine OW_storeAgg rfl rfl rfl rfl (by repeat (first | exact Upd.here | apply Upd.there)) (by first | (simp [Value.cells]; done) | (simp [Value.cells]; omega)) ?_)) | (show OW _ _ ⟨_, .alloc _, _, _, _, _⟩ _ _ _; first | (refine OW_alloc rfl (fun bk => ?_))) | (show OW _ _ ⟨_, .box .., _, _, _, _⟩ _ _ _; first | (refine OW_box rfl rfl (fun bk => ?_))) | (show WC _ _ _ _ _ _; first | (refine WC_seq ?_) | (refine WC_region ?_) | (refine WC_true rfl ?_) | (refine WC_false rfl ?_) | ((refine WC_cond rfl (fun hc => ?_) (fun hc => ?_)) <;> (try simp only [nrB] at hc) <;> (try (exfalso; first | omega | exact hc trivial | exact hc rfl))) | (refine WC_skip ?_) | (refine WC_ret ?_) | (refine WC_exit ?_) | (refine WC_block ?_)) | (show WQ _ _ _ _; first | (with_reducible refine WQ_then_normal ?_) | (with_reducible refine WQ_code ?_) | (with_reducible refine WQ_then_ret ?_) | (with_reducible refine WQ_block_ret ?_) | (with_reducible refine WQ_then_exit ?_) | (with_reducible refine WQ_block_hit ?_) | (with_reducible refine WQ_block_miss rfl ?_) | (with_reducible refine WQ_block_normal ?_))))
    · refine OW_makeSlice (m := m) (c := m) rfl rfl (by rfl) (by omega) (by omega) (by omega) rfl (fun bn => ?_)
      rw [show zeros (Value.int .i64 0).cells.toList m = vecV m fun _ => 0 from vecV_zero _]
      (repeat' (first | (show WL _ _ _ _ _ _ _; first | (refine WL_plain rfl ?_) | (refine WL_nil ?_) | (refine WL_on rfl rfl ?_) | (refine WL_off rfl rfl rfl rfl ?_) | (refine WL_offu rfl rfl rfl rfl ?_) | (refine WL_off' rfl rfl rfl ?_) | ((refine WL_split rfl rfl (fun hc => ?_) (fun hc => ?_)) <;> (rw [hc]; (try simp only [nrB] at hc); (try (exfalso; first | omega | exact hc trivial | exact hc rfl))))) | (show OW _ _ _ _ _ _; refine OW_E ?_) | (show OW _ _ ⟨_, .store .., _, _, _, _⟩ _ _ _; first | (refine OW_store rfl rfl rfl (by repeat (first | exact Upd.here | apply Upd.there)) (by first | (simp; done) | (simp; omega)) ?_) | (refine OW_storeAgg rfl rfl rfl rfl (by repeat (first | exact Upd.here | apply Upd.there)) (by first | (simp [Value.cells]; done) | (simp [Value.cells]; omega)) ?_)) | (show OW _ _ ⟨_, .alloc _, _, _, _, _⟩ _ _ _; first | (refine OW_alloc rfl (fun bk => ?_))) | (show OW _ _ ⟨_, .box .., _, _, _, _⟩ _ _ _; first | (refine OW_box rfl rfl (fun bk => ?_))) | (show WC _ _ _ _ _ _; first | (refine WC_seq ?_) | (refine WC_region ?_) | (refine WC_true rfl ?_) | (refine WC_false rfl ?_) | ((refine WC_cond rfl (fun hc => ?_) (fun hc => ?_)) <;> (try simp only [nrB] at hc) <;> (try (exfalso; first | omega | exact hc trivial | exact hc rfl))) | (refine WC_skip ?_) | (refine WC_ret ?_) | (refine WC_exit ?_) | (refine WC_block ?_)) | (show WQ _ _ _ _; first | (with_reducible refine WQ_then_normal ?_) | (with_reducible refine WQ_code ?_) | (with_reducible refine WQ_then_ret ?_) | (with_reducible refine WQ_block_ret ?_) | (with_reducible refine WQ_then_exit ?_) | (with_reducible refine WQ_block_hit ?_) | (with_reducible refine WQ_block_miss rfl ?_) | (with_reducible refine WQ_block_normal ?_))))
      refine OW_EV (EV_indexAddr0 (j := i) (len := m) rfl rfl rfl (by omega)) rfl ?_
      (repeat' (first | (show WL _ _ _ _ _ _ _; first | (refine WL_plain rfl ?_) | (refine WL_nil ?_) | (refine WL_on rfl rfl ?_) | (refine WL_off rfl rfl rfl rfl ?_) | (refine WL_offu rfl rfl rfl rfl ?_) | (refine WL_off' rfl rfl rfl ?_) | ((refine WL_split rfl rfl (fun hc => ?_) (fun hc => ?_)) <;> (rw [hc]; (try simp only [nrB] at hc); (try (exfalso; first | omega | exact hc trivial | exact hc rfl))))) | (show OW _ _ _ _ _ _; refine OW_E ?_) | (show OW _ _ ⟨_, .store .., _, _, _, _⟩ _ _ _; first | (refine OW_store rfl rfl rfl (by repeat (first | exact Upd.here | apply Upd.there)) (by first | (simp; done) | (simp; omega)) ?_) | (refine OW_storeAgg rfl rfl rfl rfl (by repeat (first | exact Upd.here | apply Upd.there)) (by first | (simp [Value.cells]; done) | (simp [Value.cells]; omega)) ?_)) | (show OW _ _ ⟨_, .alloc _, _, _, _, _⟩ _ _ _; first | (refine OW_alloc rfl (fun bk => ?_))) | (show OW _ _ ⟨_, .box .., _, _, _, _⟩ _ _ _; first | (refine OW_box rfl rfl (fun bk => ?_))) | (show WC _ _ _ _ _ _; first | (refine WC_seq ?_) | (refine WC_region ?_) | (refine WC_true rfl ?_) | (refine WC_false rfl ?_) | ((refine WC_cond rfl (fun hc => ?_) (fun hc => ?_)) <;> (try simp only [nrB] at hc) <;> (try (exfalso; first | omega | exact hc trivial | exact hc rfl))) | (refine WC_skip ?_) | (refine WC_ret ?_) | (refine WC_exit ?_) | (refine WC_block ?_)) | (show WQ _ _ _ _; first | (with_reducible refine WQ_then_normal ?_) | (with_reducible refine WQ_code ?_) | (with_reducible refine WQ_then_ret ?_) | (with_reducible refine WQ_block_ret ?_) | (with_reducible refine WQ_then_exit ?_) | (with_reducible refine WQ_block_hit ?_) | (with_reducible refine WQ_block_miss rfl ?_) | (with_reducible refine WQ_block_normal ?_))))
      refine OW_storeTo (l := vecV m fun _ => 0) (vecV m fun j => if j = i then 1 else 0) rfl rfl rfl (by rw [Nat.mul_one]; have := vecV_set (m := m) (g := fun _ => 0) (h := fun j => if j = i then 1 else 0) (i := i) (by omega) (fun j hj => by simp [hj]); simpa using this) (by repeat (first | exact Upd.here | apply Upd.there)) (by rw [vecV_length]; omega) ?_
      (repeat' (first | (show WL _ _ _ _ _ _ _; first | (refine WL_plain rfl ?_) | (refine WL_nil ?_) | (refine WL_on rfl rfl ?_) | (refine WL_off rfl rfl rfl rfl ?_) | (refine WL_offu rfl rfl rfl rfl ?_) | (refine WL_off' rfl rfl rfl ?_) | ((refine WL_split rfl rfl (fun hc => ?_) (fun hc => ?_)) <;> (rw [hc]; (try simp only [nrB] at hc); (try (exfalso; first | omega | exact hc trivial | exact hc rfl))))) | (show OW _ _ _ _ _ _; refine OW_E ?_) | (show OW _ _ ⟨_, .store .., _, _, _, _⟩ _ _ _; first | (refine OW_store rfl rfl rfl (by repeat (first | exact Upd.here | apply Upd.there)) (by first | (simp; done) | (simp; omega)) ?_) | (refine OW_storeAgg rfl rfl rfl rfl (by repeat (first | exact Upd.here | apply Upd.there)) (by first | (simp [Value.cells]; done) | (simp [Value.cells]; omega)) ?_)) | (show OW _ _ ⟨_, .alloc _, _, _, _, _⟩ _ _ _; first | (refine OW_alloc rfl (fun bk => ?_))) | (show OW _ _ ⟨_, .box .., _, _, _, _⟩ _ _ _; first | (refine OW_box rfl rfl (fun bk => ?_))) | (show WC _ _ _ _ _ _; first | (refine WC_seq ?_) | (refine WC_region ?_) | (refine WC_true rfl ?_) | (refine WC_false rfl ?_) | ((refine WC_cond rfl (fun hc => ?_) (fun hc => ?_)) <;> (try simp only [nrB] at hc) <;> (try (exfalso; first | omega | exact hc trivial | exact hc rfl))) | (refine WC_skip ?_) | (refine WC_ret ?_) | (refine WC_exit ?_) | (refine WC_block ?_)) | (show WQ _ _ _ _; first | (with_reducible refine WQ_then_normal ?_) | (with_reducible refine WQ_code ?_) | (with_reducible refine WQ_then_ret ?_) | (with_reducible refine WQ_block_ret ?_) | (with_reducible refine WQ_then_exit ?_) | (with_reducible refine WQ_block_hit ?_) | (with_reducible refine WQ_block_miss rfl ?_) | (with_reducible refine WQ_block_normal ?_))))
      refine OW_EV (EV_indexAddr (j := i) rfl rfl rfl (by omega)) rfl ?_
      (repeat' (first | (show WL _ _ _ _ _ _ _; first | (refine WL_plain rfl ?_) | (refine WL_nil ?_) | (refine WL_on rfl rfl ?_) | (refine WL_off rfl rfl rfl rfl ?_) | (refine WL_offu rfl rfl rfl rfl ?_) | (refine WL_off' rfl rfl rfl ?_) | ((refine WL_split rfl rfl (fun hc => ?_) (fun hc => ?_)) <;> (rw [hc]; (try simp only [nrB] at hc); (try (exfalso; first | omega | exact hc trivial | exact hc rfl))))) | (show OW _ _ _ _ _ _; refine OW_E ?_) | (show OW _ _ ⟨_, .store .., _, _, _, _⟩ _ _ _; first | (refine OW_store rfl rfl rfl (by repeat (first | exact Upd.here | apply Upd.there)) (by first | (simp; done) | (simp; omega)) ?_) | (refine OW_storeAgg rfl rfl rfl rfl (by repeat (first | exact Upd.here | apply Upd.there)) (by first | (simp [Value.cells]; done) | (simp [Value.cells]; omega)) ?_)) | (show OW _ _ ⟨_, .alloc _, _, _, _, _⟩ _ _ _; first | (refine OW_alloc rfl (fun bk => ?_))) | (show OW _ _ ⟨_, .box .., _, _, _, _⟩ _ _ _; first | (refine OW_box rfl rfl (fun bk => ?_))) | (show WC _ _ _ _ _ _; first | (refine WC_seq ?_) | (refine WC_region ?_) | (refine WC_true rfl ?_) | (refine WC_false rfl ?_) | ((refine WC_cond rfl (fun hc => ?_) (fun hc => ?_)) <;> (try simp only [nrB] at hc) <;> (try (exfalso; first | omega | exact hc trivial | exact hc rfl))) | (refine WC_skip ?_) | (refine WC_ret ?_) | (refine WC_exit ?_) | (refine WC_block ?_)) | (show WQ _ _ _ _; first | (with_reducible refine WQ_then_normal ?_) | (with_reducible refine WQ_code ?_) | (with_reducible refine WQ_then_ret ?_) | (with_reducible refine WQ_block_ret ?_) | (with_reducible refine WQ_then_exit ?_) | (with_reducible refine WQ_block_hit ?_) | (with_reducible refine WQ_block_miss rfl ?_) | (with_reducible refine WQ_block_normal ?_))))
      refine OW_EV (EV_load rfl hfn.there.there.there hcell) rfl ?_
      (repeat' (first | (show WL _ _ _ _ _ _ _; first | (refine WL_plain rfl ?_) | (refine WL_nil ?_) | (refine WL_on rfl rfl ?_) | (refine WL_off rfl rfl rfl rfl ?_) | (refine WL_offu rfl rfl rfl rfl ?_) | (refine WL_off' rfl rfl rfl ?_) | ((refine WL_split rfl rfl (fun hc => ?_) (fun hc => ?_)) <;> (rw [hc]; (try simp only [nrB] at hc); (try (exfalso; first | omega | exact hc trivial | exact hc rfl))))) | (show OW _ _ _ _ _ _; refine OW_E ?_) | (show OW _ _ ⟨_, .store .., _, _, _, _⟩ _ _ _; first | (refine OW_store rfl rfl rfl (by repeat (first | exact Upd.here | apply Upd.there)) (by first | (simp; done) | (simp; omega)) ?_) | (refine OW_storeAgg rfl rfl rfl rfl (by repeat (first | exact Upd.here | apply Upd.there)) (by first | (simp [Value.cells]; done) | (simp [Value.cells]; omega)) ?_)) | (show OW _ _ ⟨_, .alloc _, _, _, _, _⟩ _ _ _; first | (refine OW_alloc rfl (fun bk => ?_))) | (show OW _ _ ⟨_, .box .., _, _, _, _⟩ _ _ _; first | (refine OW_box rfl rfl (fun bk => ?_))) | (show WC _ _ _ _ _ _; first | (refine WC_seq ?_) | (refine WC_region ?_) | (refine WC_true rfl ?_) | (refine WC_false rfl ?_) | ((refine WC_cond rfl (fun hc => ?_) (fun hc => ?_)) <;> (try simp only [nrB] at hc) <;> (try (exfalso; first | omega | exact hc trivial | exact hc rfl))) | (refine WC_skip ?_) | (refine WC_ret ?_) | (refine WC_exit ?_) | (refine WC_block ?_)) | (show WQ _ _ _ _; first | (with_reducible refine WQ_then_normal ?_) | (with_reducible refine WQ_code ?_) | (with_reducible refine WQ_then_ret ?_) | (with_reducible refine WQ_block_ret ?_) | (with_reducible refine WQ_then_exit ?_) | (with_reducible refine WQ_block_hit ?_) | (with_reducible refine WQ_block_miss rfl ?_) | (with_reducible refine WQ_block_normal ?_))))
      refine OW_buildSlice (cs := coinsC [(x, .slice (some ⟨bn, 0, none⟩) m m)]) rfl (by rfl) (by simp [fillL, patch, Value.cells, zeros]; rfl) (by omega) rfl rfl (fun bk => ?_)
      (repeat' (first | (show WL _ _ _ _ _ _ _; first | (refine WL_plain rfl ?_) | (refine WL_nil ?_) | (refine WL_on rfl rfl ?_) | (refine WL_off rfl rfl rfl rfl ?_) | (refine WL_offu rfl rfl rfl rfl ?_) | (refine WL_off' rfl rfl rfl ?_) | ((refine WL_split rfl rfl (fun hc => ?_) (fun hc => ?_)) <;> (rw [hc]; (try simp only [nrB] at hc); (try (exfalso; first | omega | exact hc trivial | exact hc rfl))))) | (show OW _ _ _ _ _ _; refine OW_E ?_) | (show OW _ _ ⟨_, .store .., _, _, _, _⟩ _ _ _; first | (refine OW_store rfl rfl rfl (by repeat (first | exact Upd.here | apply Upd.there)) (by first | (simp; done) | (simp; omega)) ?_) | (refine OW_storeAgg rfl rfl rfl rfl (by repeat (first | exact Upd.here | apply Upd.there)) (by first | (simp [Value.cells]; done) | (simp [Value.cells]; omega)) ?_)) | (show OW _ _ ⟨_, .alloc _, _, _, _, _⟩ _ _ _; first | (refine OW_alloc rfl (fun bk => ?_))) | (show OW _ _ ⟨_, .box .., _, _, _, _⟩ _ _ _; first | (refine OW_box rfl rfl (fun bk => ?_))) | (show WC _ _ _ _ _ _; first | (refine WC_seq ?_) | (refine WC_region ?_) | (refine WC_true rfl ?_) | (refine WC_false rfl ?_) | ((refine WC_cond rfl (fun hc => ?_) (fun hc => ?_)) <;> (try simp only [nrB] at hc) <;> (try (exfalso; first | omega | exact hc trivial | exact hc rfl))) | (refine WC_skip ?_) | (refine WC_ret ?_) | (refine WC_exit ?_) | (refine WC_block ?_)) | (show WQ _ _ _ _; first | (with_reducible refine WQ_then_normal ?_) | (with_reducible refine WQ_code ?_) | (with_reducible refine WQ_then_ret ?_) | (with_reducible refine WQ_block_ret ?_) | (with_reducible refine WQ_then_exit ?_) | (with_reducible refine WQ_block_hit ?_) | (with_reducible refine WQ_block_miss rfl ?_) | (with_reducible refine WQ_block_normal ?_))))
      refine OW_append rfl rfl hO (sl_cells (k := 2) (c := (coinsC [(x, .slice (some ⟨bn, 0, none⟩) m m)]).toArray) (xs := coinsC [(x, .slice (some ⟨bn, 0, none⟩) m m)]) (m := 1) Fnd.here rfl (by simp)) (by repeat (first | exact Zip.here _ | apply Zip.there)) (by rfl) (coinsC_ones rfl) (by omega) (by simp [maxLen]; omega) rfl (fun v' C' ho2 h1 h2 => ?_)
      rw [← coinsC_app] at ho2
      (repeat' (first | (show WL _ _ _ _ _ _ _; first | (refine WL_plain rfl ?_) | (refine WL_nil ?_) | (refine WL_on rfl rfl ?_) | (refine WL_off rfl rfl rfl rfl ?_) | (refine WL_offu rfl rfl rfl rfl ?_) | (refine WL_off' rfl rfl rfl ?_) | ((refine WL_split rfl rfl (fun hc => ?_) (fun hc => ?_)) <;> (rw [hc]; (try simp only [nrB] at hc); (try (exfalso; first | omega | exact hc trivial | exact hc rfl))))) | (show OW _ _ _ _ _ _; refine OW_E ?_) | (show OW _ _ ⟨_, .store .., _, _, _, _⟩ _ _ _; first | (refine OW_store rfl rfl rfl (by repeat (first | exact Upd.here | apply Upd.there)) (by first | (simp; done) | (simp; omega)) ?_) | (refine OW_storeAgg rfl rfl rfl rfl (by repeat (first | exact Upd.here | apply Upd.there)) (by first | (simp [Value.cells]; done) | (simp [Value.cells]; omega)) ?_)) | (show OW _ _ ⟨_, .alloc _, _, _, _, _⟩ _ _ _; first | (refine OW_alloc rfl (fun bk => ?_))) | (show OW _ _ ⟨_, .box .., _, _, _, _⟩ _ _ _; first | (refine OW_box rfl rfl (fun bk => ?_))) | (show WC _ _ _ _ _ _; first | (refine WC_seq ?_) | (refine WC_region ?_) | (refine WC_true rfl ?_) | (refine WC_false rfl ?_) | ((refine WC_cond rfl (fun hc => ?_) (fun hc => ?_)) <;> (try simp only [nrB] at hc) <;> (try (exfalso; first | omega | exact hc trivial | exact hc rfl))) | (refine WC_skip ?_) | (refine WC_ret ?_) | (refine WC_exit ?_) | (refine WC_block ?_)) | (show WQ _ _ _ _; first | (with_reducible refine WQ_then_normal ?_) | (with_reducible refine WQ_code ?_) | (with_reducible refine WQ_then_ret ?_) | (with_reducible refine WQ_block_ret ?_) | (with_reducible refine WQ_then_exit ?_) | (with_reducible refine WQ_block_hit ?_) | (with_reducible refine WQ_block_miss rfl ?_) | (with_reducible refine WQ_block_normal ?_))))
      refine WQ_round (X := Nat × Value × List (Nat × Value) × Chunk × Chunk) (μ := fun x => m - x.1) (x := (i, v, ks, C, I)) (i + 1, v', ks ++ [(x, .slice (some ⟨bn, 0, none⟩) m m)], C', [(bn, cl (vecV m fun j => if j = i then 1 else 0) 3)] ++ I) (by simp only; omega)
        ⟨by simp only; omega, by simp only; rw [List.length_append]; exact ho2, fun y hy => ?_, ?_⟩ (by simp only [List.length_append, List.length_cons, List.length_nil, Nat.zero_add]; exact (by repeat (first | exact Sub.nil | refine Sub.cons rfl ?_ | refine Sub.cons (lk_int rfl (by first | omega | (dsimp only; omega))) ?_))) (fun w h => hold_join.2 (((by repeat (first | exact Inc.refl | exact Inc.nil | refine Inc.cons (by repeat (first | exact Take.here | apply Take.there)) ?_ | refine Inc.skip ?_)) : Inc _ _).holds h))
      · simp only at hy ⊢
        rcases List.mem_append.1 hy with hy | hy
        · exact (hG y hy).more
        · simp only [List.mem_singleton] at hy
          subst hy
          refine ⟨fun j => if j = i then 1 else 0, ?_, ?_, fun j => by simp only; split <;> omega⟩
          · exact sl_part (fun z hz => List.mem_append_left _ hz) (vecV_sl (L := []))
          · simp only
            rw [dotN_unit cs (by omega), ← hx]
      · simp only
        rw [List.map_append, hws, htk, List.filter_append]
        have hx0 : 0 < x := by omega
        simp [hx0]
    · have hx0 : x = 0 := by omega
      refine WQ_round (X := Nat × Value × List (Nat × Value) × Chunk × Chunk) (μ := fun x => m - x.1) (x := (i, v, ks, C, I)) (i + 1, v, ks, C, I) (by simp only; omega) ⟨by simp only; omega, hO, hG, ?_⟩ (by repeat (first | exact Sub.nil | refine Sub.cons rfl ?_ | refine Sub.cons (lk_int rfl (by first | omega | (dsimp only; omega))) ?_)) (fun w h => ((by repeat (first | exact Inc.refl | exact Inc.nil | refine Inc.cons (by repeat (first | exact Take.here | apply Take.there)) ?_ | refine Inc.skip ?_)) : Inc _ _).holds h)
      simp only
      rw [hws, htk, List.filter_append, hx0]
      simp
  · have him : i = m := by omega
    rw [him, hm, List.take_length] at hws
    have hn : (cs.filter fun z => decide (0 < z)).length = ks.length := by rw [← hws, List.length_map]
    have hans : leastN cs most = dotN cs m fun _ => 1 := by
      unfold leastN
      simp only
      rw [if_pos (by omega)]
      have key : ∀ l : List Nat, (l.filter fun z => decide (0 < z)).sum = dotN l l.length fun _ => 1 := by
        intro l
        have h2 : ∀ l : List Nat, (l.filter fun z => decide (0 < z)).sum = l.sum := by
          intro l
          induction l with
          | nil => rfl
          | cons x r ih =>
            by_cases hx : 0 < x
            · simp [List.filter_cons, hx, ih]
            · have : x = 0 := by omega
              subst this
              simp [List.filter_cons, ih]
        rw [h2]
        have h3 : ∀ t, t ≤ l.length → (l.take t).sum = dotN l t fun _ => 1 := by
          intro t
          induction t with
          | zero => intro _; rfl
          | succ t ih =>
            intro ht
            rw [List.take_add_one, List.getElem?_eq_getElem (by omega), List.sum_append, ih (by omega)]
            simp [dotN, sumTo, List.getD, show t < l.length by omega]
        have := h3 l.length (Nat.le_refl _)
        rwa [List.take_length] at this
      rw [key, hm]
    rw [hans]
    refine OW_makeSlice (m := m) (c := m) rfl rfl (by rfl) (by omega) (by omega) (by omega) rfl (fun bn => ?_)
    rw [show zeros (Value.int .i64 0).cells.toList m = vecV m fun _ => 0 from vecV_zero _]
    (repeat' (first | (show WL _ _ _ _ _ _ _; first | (refine WL_plain rfl ?_) | (refine WL_nil ?_) | (refine WL_on rfl rfl ?_) | (refine WL_off rfl rfl rfl rfl ?_) | (refine WL_offu rfl rfl rfl rfl ?_) | (refine WL_off' rfl rfl rfl ?_) | ((refine WL_split rfl rfl (fun hc => ?_) (fun hc => ?_)) <;> (rw [hc]; (try simp only [nrB] at hc); (try (exfalso; first | omega | exact hc trivial | exact hc rfl))))) | (show OW _ _ _ _ _ _; refine OW_E ?_) | (show OW _ _ ⟨_, .store .., _, _, _, _⟩ _ _ _; first | (refine OW_store rfl rfl rfl (by repeat (first | exact Upd.here | apply Upd.there)) (by first | (simp; done) | (simp; omega)) ?_) | (refine OW_storeAgg rfl rfl rfl rfl (by repeat (first | exact Upd.here | apply Upd.there)) (by first | (simp [Value.cells]; done) | (simp [Value.cells]; omega)) ?_)) | (show OW _ _ ⟨_, .alloc _, _, _, _, _⟩ _ _ _; first | (refine OW_alloc rfl (fun bk => ?_))) | (show OW _ _ ⟨_, .box .., _, _, _, _⟩ _ _ _; first | (refine OW_box rfl rfl (fun bk => ?_))) | (show WC _ _ _ _ _ _; first | (refine WC_seq ?_) | (refine WC_region ?_) | (refine WC_true rfl ?_) | (refine WC_false rfl ?_) | ((refine WC_cond rfl (fun hc => ?_) (fun hc => ?_)) <;> (try simp only [nrB] at hc) <;> (try (exfalso; first | omega | exact hc trivial | exact hc rfl))) | (refine WC_skip ?_) | (refine WC_ret ?_) | (refine WC_exit ?_) | (refine WC_block ?_)) | (show WQ _ _ _ _; first | (with_reducible refine WQ_then_normal ?_) | (with_reducible refine WQ_code ?_) | (with_reducible refine WQ_then_ret ?_) | (with_reducible refine WQ_block_ret ?_) | (with_reducible refine WQ_then_exit ?_) | (with_reducible refine WQ_block_hit ?_) | (with_reducible refine WQ_block_miss rfl ?_) | (with_reducible refine WQ_block_normal ?_))))
    refine WC_loop (X := Nat) (fun j => [(0, .slice a0 m c0), (9, .slice (some ⟨bn, 0, none⟩) m m), (10, .int .i64 (j : Int))]) (fun j => [(bn, cl (vecV m fun t => if t < j then 1 else 0) 3)] :: L) (fun j => j ≤ m) (fun j => m - j) 0 (Nat.zero_le _) (by repeat (first | exact Sub.nil | refine Sub.cons rfl ?_ | refine Sub.cons (lk_int rfl (by first | omega | (dsimp only; omega))) ?_))
      (fun w h => by rw [show (vecV m fun t => if t < 0 then 1 else 0) = vecV m fun _ => 0 from vecV_congr (fun j hj => by simp)]; exact ((by repeat (first | exact Inc.refl | exact Inc.nil | refine Inc.cons (by repeat (first | exact Take.here | apply Take.there)) ?_ | refine Inc.skip ?_)) : Inc _ _).holds h) ?_
    intro j hj
    (repeat' (first | (show WL _ _ _ _ _ _ _; first | (refine WL_plain rfl ?_) | (refine WL_nil ?_) | (refine WL_on rfl rfl ?_) | (refine WL_off rfl rfl rfl rfl ?_) | (refine WL_offu rfl rfl rfl rfl ?_) | (refine WL_off' rfl rfl rfl ?_) | ((refine WL_split rfl rfl (fun hc => ?_) (fun hc => ?_)) <;> (rw [hc]; (try simp only [nrB] at hc); (try (exfalso; first | omega | exact hc trivial | exact hc rfl))))) | (show OW _ _ _ _ _ _; refine OW_E ?_) | (show OW _ _ ⟨_, .store .., _, _, _, _⟩ _ _ _; first | (refine OW_store rfl rfl rfl (by repeat (first | exact Upd.here | apply Upd.there)) (by first | (simp; done) | (simp; omega)) ?_) | (refine OW_storeAgg rfl rfl rfl rfl (by repeat (first | exact Upd.here | apply Upd.there)) (by first | (simp [Value.cells]; done) | (simp [Value.cells]; omega)) ?_)) | (show OW _ _ ⟨_, .alloc _, _, _, _, _⟩ _ _ _; first | (refine OW_alloc rfl (fun bk => ?_))) | (show OW _ _ ⟨_, .box .., _, _, _, _⟩ _ _ _; first | (refine OW_box rfl rfl (fun bk => ?_))) | (show WC _ _ _ _ _ _; first | (refine WC_seq ?_) | (refine WC_region ?_) | (refine WC_true rfl ?_) | (refine WC_false rfl ?_) | ((refine WC_cond rfl (fun hc => ?_) (fun hc => ?_)) <;> (try simp only [nrB] at hc) <;> (try (exfalso; first | omega | exact hc trivial | exact hc rfl))) | (refine WC_skip ?_) | (refine WC_ret ?_) | (refine WC_exit ?_) | (refine WC_block ?_)) | (show WQ _ _ _ _; first | (with_reducible refine WQ_then_normal ?_) | (with_reducible refine WQ_code ?_) | (with_reducible refine WQ_then_ret ?_) | (with_reducible refine WQ_block_ret ?_) | (with_reducible refine WQ_then_exit ?_) | (with_reducible refine WQ_block_hit ?_) | (with_reducible refine WQ_block_miss rfl ?_) | (with_reducible refine WQ_block_normal ?_))))
    · have hjm : j < m := by omega
      refine OW_EV (EV_indexAddr0 (j := j) (len := m) rfl rfl rfl hjm) rfl ?_
      (repeat' (first | (show WL _ _ _ _ _ _ _; first | (refine WL_plain rfl ?_) | (refine WL_nil ?_) | (refine WL_on rfl rfl ?_) | (refine WL_off rfl rfl rfl rfl ?_) | (refine WL_offu rfl rfl rfl rfl ?_) | (refine WL_off' rfl rfl rfl ?_) | ((refine WL_split rfl rfl (fun hc => ?_) (fun hc => ?_)) <;> (rw [hc]; (try simp only [nrB] at hc); (try (exfalso; first | omega | exact hc trivial | exact hc rfl))))) | (show OW _ _ _ _ _ _; refine OW_E ?_) | (show OW _ _ ⟨_, .store .., _, _, _, _⟩ _ _ _; first | (refine OW_store rfl rfl rfl (by repeat (first | exact Upd.here | apply Upd.there)) (by first | (simp; done) | (simp; omega)) ?_) | (refine OW_storeAgg rfl rfl rfl rfl (by repeat (first | exact Upd.here | apply Upd.there)) (by first | (simp [Value.cells]; done) | (simp [Value.cells]; omega)) ?_)) | (show OW _ _ ⟨_, .alloc _, _, _, _, _⟩ _ _ _; first | (refine OW_alloc rfl (fun bk => ?_))) | (show OW _ _ ⟨_, .box .., _, _, _, _⟩ _ _ _; first | (refine OW_box rfl rfl (fun bk => ?_))) | (show WC _ _ _ _ _ _; first | (refine WC_seq ?_) | (refine WC_region ?_) | (refine WC_true rfl ?_) | (refine WC_false rfl ?_) | ((refine WC_cond rfl (fun hc => ?_) (fun hc => ?_)) <;> (try simp only [nrB] at hc) <;> (try (exfalso; first | omega | exact hc trivial | exact hc rfl))) | (refine WC_skip ?_) | (refine WC_ret ?_) | (refine WC_exit ?_) | (refine WC_block ?_)) | (show WQ _ _ _ _; first | (with_reducible refine WQ_then_normal ?_) | (with_reducible refine WQ_code ?_) | (with_reducible refine WQ_then_ret ?_) | (with_reducible refine WQ_block_ret ?_) | (with_reducible refine WQ_then_exit ?_) | (with_reducible refine WQ_block_hit ?_) | (with_reducible refine WQ_block_miss rfl ?_) | (with_reducible refine WQ_block_normal ?_))))
      refine OW_storeTo (l := vecV m fun t => if t < j then 1 else 0) (vecV m fun t => if t < j + 1 then 1 else 0) rfl rfl rfl (by rw [Nat.mul_one]; have := vecV_set (m := m) (g := fun t => if t < j then 1 else 0) (h := fun t => if t < j + 1 then 1 else 0) (i := j) hjm (fun t ht => by by_cases h1 : t < j; rw [if_pos h1, if_pos (by omega)]; rw [if_neg h1, if_neg (by omega)]); simpa using this) (by repeat (first | exact Upd.here | apply Upd.there)) (by rw [vecV_length]; omega) ?_
      (repeat' (first | (show WL _ _ _ _ _ _ _; first | (refine WL_plain rfl ?_) | (refine WL_nil ?_) | (refine WL_on rfl rfl ?_) | (refine WL_off rfl rfl rfl rfl ?_) | (refine WL_offu rfl rfl rfl rfl ?_) | (refine WL_off' rfl rfl rfl ?_) | ((refine WL_split rfl rfl (fun hc => ?_) (fun hc => ?_)) <;> (rw [hc]; (try simp only [nrB] at hc); (try (exfalso; first | omega | exact hc trivial | exact hc rfl))))) | (show OW _ _ _ _ _ _; refine OW_E ?_) | (show OW _ _ ⟨_, .store .., _, _, _, _⟩ _ _ _; first | (refine OW_store rfl rfl rfl (by repeat (first | exact Upd.here | apply Upd.there)) (by first | (simp; done) | (simp; omega)) ?_) | (refine OW_storeAgg rfl rfl rfl rfl (by repeat (first | exact Upd.here | apply Upd.there)) (by first | (simp [Value.cells]; done) | (simp [Value.cells]; omega)) ?_)) | (show OW _ _ ⟨_, .alloc _, _, _, _, _⟩ _ _ _; first | (refine OW_alloc rfl (fun bk => ?_))) | (show OW _ _ ⟨_, .box .., _, _, _, _⟩ _ _ _; first | (refine OW_box rfl rfl (fun bk => ?_))) | (show WC _ _ _ _ _ _; first | (refine WC_seq ?_) | (refine WC_region ?_) | (refine WC_true rfl ?_) | (refine WC_false rfl ?_) | ((refine WC_cond rfl (fun hc => ?_) (fun hc => ?_)) <;> (try simp only [nrB] at hc) <;> (try (exfalso; first | omega | exact hc trivial | exact hc rfl))) | (refine WC_skip ?_) | (refine WC_ret ?_) | (refine WC_exit ?_) | (refine WC_block ?_)) | (show WQ _ _ _ _; first | (with_reducible refine WQ_then_normal ?_) | (with_reducible refine WQ_code ?_) | (with_reducible refine WQ_then_ret ?_) | (with_reducible refine WQ_block_ret ?_) | (with_reducible refine WQ_then_exit ?_) | (with_reducible refine WQ_block_hit ?_) | (with_reducible refine WQ_block_miss rfl ?_) | (with_reducible refine WQ_block_normal ?_))))
      refine WQ_round (X := Nat) (μ := fun j => m - j) (x := j) (j + 1) (by omega) (by omega) (by repeat (first | exact Sub.nil | refine Sub.cons rfl ?_ | refine Sub.cons (lk_int rfl (by first | omega | (dsimp only; omega))) ?_)) (fun w h => h)
    · have hjm : j = m := by omega
      subst hjm
      rw [show (vecV j fun t => if t < j then 1 else 0) = vecV j fun _ => 1 from vecV_congr fun t ht => by rw [if_pos ht]]
      refine OW_callP rfl rfl rfl (cost_v a0 (some ⟨bn, 0, none⟩) c0 j j cs (fun _ => 1) _ hm (sl_there h) vecV_sl (by omega) (fun i => Nat.le_trans (hcB i) (by decide)) (fun i => by decide)) rfl ?_
      (repeat' (first | (show WL _ _ _ _ _ _ _; first | (refine WL_plain rfl ?_) | (refine WL_nil ?_) | (refine WL_on rfl rfl ?_) | (refine WL_off rfl rfl rfl rfl ?_) | (refine WL_offu rfl rfl rfl rfl ?_) | (refine WL_off' rfl rfl rfl ?_) | ((refine WL_split rfl rfl (fun hc => ?_) (fun hc => ?_)) <;> (rw [hc]; (try simp only [nrB] at hc); (try (exfalso; first | omega | exact hc trivial | exact hc rfl))))) | (show OW _ _ _ _ _ _; refine OW_E ?_) | (show OW _ _ ⟨_, .store .., _, _, _, _⟩ _ _ _; first | (refine OW_store rfl rfl rfl (by repeat (first | exact Upd.here | apply Upd.there)) (by first | (simp; done) | (simp; omega)) ?_) | (refine OW_storeAgg rfl rfl rfl rfl (by repeat (first | exact Upd.here | apply Upd.there)) (by first | (simp [Value.cells]; done) | (simp [Value.cells]; omega)) ?_)) | (show OW _ _ ⟨_, .alloc _, _, _, _, _⟩ _ _ _; first | (refine OW_alloc rfl (fun bk => ?_))) | (show OW _ _ ⟨_, .box .., _, _, _, _⟩ _ _ _; first | (refine OW_box rfl rfl (fun bk => ?_))) | (show WC _ _ _ _ _ _; first | (refine WC_seq ?_) | (refine WC_region ?_) | (refine WC_true rfl ?_) | (refine WC_false rfl ?_) | ((refine WC_cond rfl (fun hc => ?_) (fun hc => ?_)) <;> (try simp only [nrB] at hc) <;> (try (exfalso; first | omega | exact hc trivial | exact hc rfl))) | (refine WC_skip ?_) | (refine WC_ret ?_) | (refine WC_exit ?_) | (refine WC_block ?_)) | (show WQ _ _ _ _; first | (with_reducible refine WQ_then_normal ?_) | (with_reducible refine WQ_code ?_) | (with_reducible refine WQ_then_ret ?_) | (with_reducible refine WQ_block_ret ?_) | (with_reducible refine WQ_then_exit ?_) | (with_reducible refine WQ_block_hit ?_) | (with_reducible refine WQ_block_miss rfl ?_) | (with_reducible refine WQ_block_normal ?_))))
      ((first | refine WQ_retI rfl rfl ?_ | refine WQ_endI rfl rfl ?_); exact ⟨_, (by repeat (first | exact Inc.refl | exact Inc.nil | refine Inc.cons (by repeat (first | exact Take.here | apply Take.there)) ?_ | refine Inc.skip ?_)), rfl, rfl⟩)
  · have him : i = m := by omega
    rw [him, hm, List.take_length] at hws
    obtain ⟨ws, hwsd⟩ : ∃ ws, ws = ks.map Prod.fst := ⟨_, rfl⟩
    have hwl : ws.length = ks.length := by rw [hwsd, List.length_map]
    have hn2 : 2 ≤ ks.length := by omega
    have hn12 : ks.length ≤ 12 := by omega
    have hans : leastN cs most = ((lwR ws most).take (2 * ks.length - 2)).sum := by
      unfold leastN
      simp only
      rw [← hws, ← hwsd, hwl, if_neg (by omega)]
    rw [hans]
    obtain ⟨va, vc, rfl⟩ := ow_slc hO
    refine WC_holds' (L' := [] :: C :: I :: L) (fun w h => Holds.nil.2 h) ?_
    refine WC_loop (X := Nat × Value × List (Nat × Value) × Chunk × Chunk) (fun x => [(0, .slice a0 m c0), (1, .int .i64 (most : Int)), (5, .slice va ks.length vc), (6, .int .i64 (ks.length : Int)), (11, x.2.1), (12, .int .i64 (x.1 : Int))]) (fun x => x.2.2.2.1 :: C :: x.2.2.2.2 :: L)
      (fun x => x.1 < most ∧ Ow 88 2 x.2.1 x.2.2.1.length (coinsC x.2.2.1) x.2.2.2.1 ∧ (∀ y ∈ ks, Gd cs m x.2.2.2.2 1 y) ∧ (∀ y ∈ x.2.2.1, Gd cs m x.2.2.2.2 (2 ^ x.1) y) ∧ x.2.2.1.map Prod.fst = psum (lwR ws x.1) ∧ x.2.2.1.length ≤ 12) (fun x => most - x.1) (0, .slice none 0 0, [], [], I)
      ⟨by simp only; omega, .inl ⟨rfl, rfl, rfl, rfl⟩, hG, fun y hy => by simp at hy, rfl, by simp⟩ (by repeat (first | exact Sub.nil | refine Sub.cons rfl ?_ | refine Sub.cons (lk_int rfl (by first | omega | (dsimp only; omega))) ?_)) (fun w h => h) ?_
    rintro ⟨k, lv, lk, Cl, I2⟩ ⟨hk, hOl, hGk, hGl, hlw, hll⟩
    simp only at hk hOl hGk hGl hlw hll ⊢
    have hp2 : 1 ≤ 2 ^ k := Nat.pow_pos (by decide)
    have hp14 : 2 ^ k ≤ 2 ^ 14 := Nat.pow_le_pow_right (by decide) (by omega)
    have hones : onesC (ks ++ lk) = true := by
      have h1 := Gd.ones hGk
      have h2 := Gd.ones hGl
      simp only [onesC, List.all_append, Bool.and_eq_true] at *
      exact ⟨h1, h2⟩
    (repeat' (first | (show WL _ _ _ _ _ _ _; first | (refine WL_plain rfl ?_) | (refine WL_nil ?_) | (refine WL_on rfl rfl ?_) | (refine WL_off rfl rfl rfl rfl ?_) | (refine WL_offu rfl rfl rfl rfl ?_) | (refine WL_off' rfl rfl rfl ?_) | ((refine WL_split rfl rfl (fun hc => ?_) (fun hc => ?_)) <;> (rw [hc]; (try simp only [nrB] at hc); (try (exfalso; first | omega | exact hc trivial | exact hc rfl))))) | (show OW _ _ _ _ _ _; refine OW_E ?_) | (show OW _ _ ⟨_, .store .., _, _, _, _⟩ _ _ _; first | (refine OW_store rfl rfl rfl (by repeat (first | exact Upd.here | apply Upd.there)) (by first | (simp; done) | (simp; omega)) ?_) | (refine OW_storeAgg rfl rfl rfl rfl (by repeat (first | exact Upd.here | apply Upd.there)) (by first | (simp [Value.cells]; done) | (simp [Value.cells]; omega)) ?_)) | (show OW _ _ ⟨_, .alloc _, _, _, _, _⟩ _ _ _; first | (refine OW_alloc rfl (fun bk => ?_))) | (show OW _ _ ⟨_, .box .., _, _, _, _⟩ _ _ _; first | (refine OW_box rfl rfl (fun bk => ?_))) | (show WC _ _ _ _ _ _; first | (refine WC_seq ?_) | (refine WC_region ?_) | (refine WC_true rfl ?_) | (refine WC_false rfl ?_) | ((refine WC_cond rfl (fun hc => ?_) (fun hc => ?_)) <;> (try simp only [nrB] at hc) <;> (try (exfalso; first | omega | exact hc trivial | exact hc rfl))) | (refine WC_skip ?_) | (refine WC_ret ?_) | (refine WC_exit ?_) | (refine WC_block ?_)) | (show WQ _ _ _ _; first | (with_reducible refine WQ_then_normal ?_) | (with_reducible refine WQ_code ?_) | (with_reducible refine WQ_then_ret ?_) | (with_reducible refine WQ_block_ret ?_) | (with_reducible refine WQ_then_exit ?_) | (with_reducible refine WQ_block_hit ?_) | (with_reducible refine WQ_block_miss rfl ?_) | (with_reducible refine WQ_block_normal ?_))))
    refine OW_buildSlice (cs := []) rfl (by rfl) (by simp [fillL, zeros]) (by omega) rfl rfl (fun be => ?_)
    (repeat' (first | (show WL _ _ _ _ _ _ _; first | (refine WL_plain rfl ?_) | (refine WL_nil ?_) | (refine WL_on rfl rfl ?_) | (refine WL_off rfl rfl rfl rfl ?_) | (refine WL_offu rfl rfl rfl rfl ?_) | (refine WL_off' rfl rfl rfl ?_) | ((refine WL_split rfl rfl (fun hc => ?_) (fun hc => ?_)) <;> (rw [hc]; (try simp only [nrB] at hc); (try (exfalso; first | omega | exact hc trivial | exact hc rfl))))) | (show OW _ _ _ _ _ _; refine OW_E ?_) | (show OW _ _ ⟨_, .store .., _, _, _, _⟩ _ _ _; first | (refine OW_store rfl rfl rfl (by repeat (first | exact Upd.here | apply Upd.there)) (by first | (simp; done) | (simp; omega)) ?_) | (refine OW_storeAgg rfl rfl rfl rfl (by repeat (first | exact Upd.here | apply Upd.there)) (by first | (simp [Value.cells]; done) | (simp [Value.cells]; omega)) ?_)) | (show OW _ _ ⟨_, .alloc _, _, _, _, _⟩ _ _ _; first | (refine OW_alloc rfl (fun bk => ?_))) | (show OW _ _ ⟨_, .box .., _, _, _, _⟩ _ _ _; first | (refine OW_box rfl rfl (fun bk => ?_))) | (show WC _ _ _ _ _ _; first | (refine WC_seq ?_) | (refine WC_region ?_) | (refine WC_true rfl ?_) | (refine WC_false rfl ?_) | ((refine WC_cond rfl (fun hc => ?_) (fun hc => ?_)) <;> (try simp only [nrB] at hc) <;> (try (exfalso; first | omega | exact hc trivial | exact hc rfl))) | (refine WC_skip ?_) | (refine WC_ret ?_) | (refine WC_exit ?_) | (refine WC_block ?_)) | (show WQ _ _ _ _; first | (with_reducible refine WQ_then_normal ?_) | (with_reducible refine WQ_code ?_) | (with_reducible refine WQ_then_ret ?_) | (with_reducible refine WQ_block_ret ?_) | (with_reducible refine WQ_then_exit ?_) | (with_reducible refine WQ_block_hit ?_) | (with_reducible refine WQ_block_miss rfl ?_) | (with_reducible refine WQ_block_normal ?_))))
    refine OW_append rfl rfl (m := 0) (xs := []) (C := [(be, cl [] 88)]) (.inr ⟨be, 0, [], rfl, rfl, rfl, rfl, Nat.le_refl _, by simp [maxLen]⟩) (c := ks.length) (ys := coinsC ks) (ow_in hO (L' := [(be, cl [] 88)] :: Cl :: I2 :: L) (by repeat (first | exact Take.here | apply Take.there))) (by repeat (first | exact Zip.here _ | apply Zip.there)) (by rfl) (coinsC_ones (Gd.ones hGk)) (by omega) (by simp [maxLen]; omega) rfl (fun v1 D1 hd1 _ _ => ?_)
    rw [List.nil_append, Nat.zero_add] at hd1
    (repeat' (first | (show WL _ _ _ _ _ _ _; first | (refine WL_plain rfl ?_) | (refine WL_nil ?_) | (refine WL_on rfl rfl ?_) | (refine WL_off rfl rfl rfl rfl ?_) | (refine WL_offu rfl rfl rfl rfl ?_) | (refine WL_off' rfl rfl rfl ?_) | ((refine WL_split rfl rfl (fun hc => ?_) (fun hc => ?_)) <;> (rw [hc]; (try simp only [nrB] at hc); (try (exfalso; first | omega | exact hc trivial | exact hc rfl))))) | (show OW _ _ _ _ _ _; refine OW_E ?_) | (show OW _ _ ⟨_, .store .., _, _, _, _⟩ _ _ _; first | (refine OW_store rfl rfl rfl (by repeat (first | exact Upd.here | apply Upd.there)) (by first | (simp; done) | (simp; omega)) ?_) | (refine OW_storeAgg rfl rfl rfl rfl (by repeat (first | exact Upd.here | apply Upd.there)) (by first | (simp [Value.cells]; done) | (simp [Value.cells]; omega)) ?_)) | (show OW _ _ ⟨_, .alloc _, _, _, _, _⟩ _ _ _; first | (refine OW_alloc rfl (fun bk => ?_))) | (show OW _ _ ⟨_, .box .., _, _, _, _⟩ _ _ _; first | (refine OW_box rfl rfl (fun bk => ?_))) | (show WC _ _ _ _ _ _; first | (refine WC_seq ?_) | (refine WC_region ?_) | (refine WC_true rfl ?_) | (refine WC_false rfl ?_) | ((refine WC_cond rfl (fun hc => ?_) (fun hc => ?_)) <;> (try simp only [nrB] at hc) <;> (try (exfalso; first | omega | exact hc trivial | exact hc rfl))) | (refine WC_skip ?_) | (refine WC_ret ?_) | (refine WC_exit ?_) | (refine WC_block ?_)) | (show WQ _ _ _ _; first | (with_reducible refine WQ_then_normal ?_) | (with_reducible refine WQ_code ?_) | (with_reducible refine WQ_then_ret ?_) | (with_reducible refine WQ_block_ret ?_) | (with_reducible refine WQ_then_exit ?_) | (with_reducible refine WQ_block_hit ?_) | (with_reducible refine WQ_block_miss rfl ?_) | (with_reducible refine WQ_block_normal ?_))))
    refine OW_append rfl rfl hd1 (c := lk.length) (ys := coinsC lk) (ow_in hOl (L' := D1 :: C :: I2 :: L) (by repeat (first | exact Take.here | apply Take.there))) (by repeat (first | exact Zip.here _ | apply Zip.there)) (by rfl) (coinsC_ones (Gd.ones hGl)) (by omega) (by simp [maxLen]; omega) rfl (fun v2 D2 hd2 _ _ => ?_)
    rw [← coinsC_app, ← List.length_append] at hd2
    obtain ⟨da, dc, rfl⟩ := ow_slc hd2
    have hRl24 : (ks ++ lk).length ≤ 24 := by rw [List.length_append]; omega
    (repeat' (first | (show WL _ _ _ _ _ _ _; first | (refine WL_plain rfl ?_) | (refine WL_nil ?_) | (refine WL_on rfl rfl ?_) | (refine WL_off rfl rfl rfl rfl ?_) | (refine WL_offu rfl rfl rfl rfl ?_) | (refine WL_off' rfl rfl rfl ?_) | ((refine WL_split rfl rfl (fun hc => ?_) (fun hc => ?_)) <;> (rw [hc]; (try simp only [nrB] at hc); (try (exfalso; first | omega | exact hc trivial | exact hc rfl))))) | (show OW _ _ _ _ _ _; refine OW_E ?_) | (show OW _ _ ⟨_, .store .., _, _, _, _⟩ _ _ _; first | (refine OW_store rfl rfl rfl (by repeat (first | exact Upd.here | apply Upd.there)) (by first | (simp; done) | (simp; omega)) ?_) | (refine OW_storeAgg rfl rfl rfl rfl (by repeat (first | exact Upd.here | apply Upd.there)) (by first | (simp [Value.cells]; done) | (simp [Value.cells]; omega)) ?_)) | (show OW _ _ ⟨_, .alloc _, _, _, _, _⟩ _ _ _; first | (refine OW_alloc rfl (fun bk => ?_))) | (show OW _ _ ⟨_, .box .., _, _, _, _⟩ _ _ _; first | (refine OW_box rfl rfl (fun bk => ?_))) | (show WC _ _ _ _ _ _; first | (refine WC_seq ?_) | (refine WC_region ?_) | (refine WC_true rfl ?_) | (refine WC_false rfl ?_) | ((refine WC_cond rfl (fun hc => ?_) (fun hc => ?_)) <;> (try simp only [nrB] at hc) <;> (try (exfalso; first | omega | exact hc trivial | exact hc rfl))) | (refine WC_skip ?_) | (refine WC_ret ?_) | (refine WC_exit ?_) | (refine WC_block ?_)) | (show WQ _ _ _ _; first | (with_reducible refine WQ_then_normal ?_) | (with_reducible refine WQ_code ?_) | (with_reducible refine WQ_then_ret ?_) | (with_reducible refine WQ_block_ret ?_) | (with_reducible refine WQ_then_exit ?_) | (with_reducible refine WQ_block_hit ?_) | (with_reducible refine WQ_block_miss rfl ?_) | (with_reducible refine WQ_block_normal ?_))))
    refine OW_call rfl rfl rfl (sorted_n da dc (ks ++ lk) _ (ow_sl hd2) hones (by omega)) rfl (fun r L' hp => ?_)
    obtain ⟨R, CR, hRp, hRs, rfl, hOR⟩ := hp
    rw [← hRp.length_eq] at hOR hRl24
    obtain ⟨ra, rc, rfl⟩ := ow_slc hOR
    have hRw : R.map Prod.fst = lwR ws (k + 1) := by
      refine lwR_eq (List.pairwise_map.2 hRs) ?_
      have := hRp.map Prod.fst
      rw [List.map_append, hlw, ← hwsd] at this
      exact this
    have hGR : ∀ y ∈ R, Gd cs m I2 (2 ^ k) y := fun y hy => by
      rcases List.mem_append.1 (hRp.mem_iff.1 hy) with hy | hy
      · exact (hGk y hy).mono hp2
      · exact hGl y hy
    have hRc : Sl [CR] 2 (.slice ra R.length rc) R.length (coinsC R) := ow_sl hOR
    have hRR : ∀ (i : Nat) (y : Nat × Value), R[i]? = some y → (lwR ws (k + 1))[i]? = some y.1 := fun i y hy => by rw [← hRw]; simp [hy]
    have hRwl : (lwR ws (k + 1)).length = R.length := by rw [← hRw, List.length_map]
    (repeat' (first | (show WL _ _ _ _ _ _ _; first | (refine WL_plain rfl ?_) | (refine WL_nil ?_) | (refine WL_on rfl rfl ?_) | (refine WL_off rfl rfl rfl rfl ?_) | (refine WL_offu rfl rfl rfl rfl ?_) | (refine WL_off' rfl rfl rfl ?_) | ((refine WL_split rfl rfl (fun hc => ?_) (fun hc => ?_)) <;> (rw [hc]; (try simp only [nrB] at hc); (try (exfalso; first | omega | exact hc trivial | exact hc rfl))))) | (show OW _ _ _ _ _ _; refine OW_E ?_) | (show OW _ _ ⟨_, .store .., _, _, _, _⟩ _ _ _; first | (refine OW_store rfl rfl rfl (by repeat (first | exact Upd.here | apply Upd.there)) (by first | (simp; done) | (simp; omega)) ?_) | (refine OW_storeAgg rfl rfl rfl rfl (by repeat (first | exact Upd.here | apply Upd.there)) (by first | (simp [Value.cells]; done) | (simp [Value.cells]; omega)) ?_)) | (show OW _ _ ⟨_, .alloc _, _, _, _, _⟩ _ _ _; first | (refine OW_alloc rfl (fun bk => ?_))) | (show OW _ _ ⟨_, .box .., _, _, _, _⟩ _ _ _; first | (refine OW_box rfl rfl (fun bk => ?_))) | (show WC _ _ _ _ _ _; first | (refine WC_seq ?_) | (refine WC_region ?_) | (refine WC_true rfl ?_) | (refine WC_false rfl ?_) | ((refine WC_cond rfl (fun hc => ?_) (fun hc => ?_)) <;> (try simp only [nrB] at hc) <;> (try (exfalso; first | omega | exact hc trivial | exact hc rfl))) | (refine WC_skip ?_) | (refine WC_ret ?_) | (refine WC_exit ?_) | (refine WC_block ?_)) | (show WQ _ _ _ _; first | (with_reducible refine WQ_then_normal ?_) | (with_reducible refine WQ_code ?_) | (with_reducible refine WQ_then_ret ?_) | (with_reducible refine WQ_block_ret ?_) | (with_reducible refine WQ_then_exit ?_) | (with_reducible refine WQ_block_hit ?_) | (with_reducible refine WQ_block_miss rfl ?_) | (with_reducible refine WQ_block_normal ?_))))
    · -- the last level
      have hkm : k + 1 = most := by omega
      refine OW_makeSlice (m := m) (c := m) rfl rfl (by rfl) (by omega) (by omega) (by omega) rfl (fun bl => ?_)
      rw [show zeros (Value.int .i64 0).cells.toList m = vecV m fun _ => 0 from vecV_zero _]
      (repeat' (first | (show WL _ _ _ _ _ _ _; first | (refine WL_plain rfl ?_) | (refine WL_nil ?_) | (refine WL_on rfl rfl ?_) | (refine WL_off rfl rfl rfl rfl ?_) | (refine WL_offu rfl rfl rfl rfl ?_) | (refine WL_off' rfl rfl rfl ?_) | ((refine WL_split rfl rfl (fun hc => ?_) (fun hc => ?_)) <;> (rw [hc]; (try simp only [nrB] at hc); (try (exfalso; first | omega | exact hc trivial | exact hc rfl))))) | (show OW _ _ _ _ _ _; refine OW_E ?_) | (show OW _ _ ⟨_, .store .., _, _, _, _⟩ _ _ _; first | (refine OW_store rfl rfl rfl (by repeat (first | exact Upd.here | apply Upd.there)) (by first | (simp; done) | (simp; omega)) ?_) | (refine OW_storeAgg rfl rfl rfl rfl (by repeat (first | exact Upd.here | apply Upd.there)) (by first | (simp [Value.cells]; done) | (simp [Value.cells]; omega)) ?_)) | (show OW _ _ ⟨_, .alloc _, _, _, _, _⟩ _ _ _; first | (refine OW_alloc rfl (fun bk => ?_))) | (show OW _ _ ⟨_, .box .., _, _, _, _⟩ _ _ _; first | (refine OW_box rfl rfl (fun bk => ?_))) | (show WC _ _ _ _ _ _; first | (refine WC_seq ?_) | (refine WC_region ?_) | (refine WC_true rfl ?_) | (refine WC_false rfl ?_) | ((refine WC_cond rfl (fun hc => ?_) (fun hc => ?_)) <;> (try simp only [nrB] at hc) <;> (try (exfalso; first | omega | exact hc trivial | exact hc rfl))) | (refine WC_skip ?_) | (refine WC_ret ?_) | (refine WC_exit ?_) | (refine WC_block ?_)) | (show WQ _ _ _ _; first | (with_reducible refine WQ_then_normal ?_) | (with_reducible refine WQ_code ?_) | (with_reducible refine WQ_then_ret ?_) | (with_reducible refine WQ_block_ret ?_) | (with_reducible refine WQ_then_exit ?_) | (with_reducible refine WQ_block_hit ?_) | (with_reducible refine WQ_block_miss rfl ?_) | (with_reducible refine WQ_block_normal ?_))))
      refine WC_loop (X := Nat × (Nat → Nat)) (fun x => [(0, .slice a0 m c0), (6, .int .i64 (ks.length : Int)), (11, .slice ra R.length rc), (17, .slice (some ⟨bl, 0, none⟩) m m), (18, .int .i64 (x.1 : Int))]) (fun x => [(bl, cl (vecV m x.2) 3)] :: CR :: I2 :: L)
        (fun x => x.1 ≤ 2 * ks.length - 2 ∧ x.1 ≤ R.length ∧ dotN cs m x.2 = ((lwR ws (k + 1)).take x.1).sum ∧ ∀ j, x.2 j ≤ x.1 * 16384) (fun x => 24 - x.1) (0, fun _ => 0) ⟨Nat.zero_le _, Nat.zero_le _, dotN_zero cs m, fun j => Nat.zero_le _⟩ (by repeat (first | exact Sub.nil | refine Sub.cons rfl ?_ | refine Sub.cons (lk_int rfl (by first | omega | (dsimp only; omega))) ?_)) (fun w h => ((by repeat (first | exact Inc.refl | exact Inc.nil | refine Inc.cons (by repeat (first | exact Take.here | apply Take.there)) ?_ | refine Inc.skip ?_)) : Inc _ _).holds h) ?_
      rintro ⟨i, acc⟩ ⟨hi1, hi2, hdot, hacc⟩
      simp only at hi1 hi2 hdot hacc ⊢
      (repeat' (first | (show WL _ _ _ _ _ _ _; first | (refine WL_plain rfl ?_) | (refine WL_nil ?_) | (refine WL_on rfl rfl ?_) | (refine WL_off rfl rfl rfl rfl ?_) | (refine WL_offu rfl rfl rfl rfl ?_) | (refine WL_off' rfl rfl rfl ?_) | ((refine WL_split rfl rfl (fun hc => ?_) (fun hc => ?_)) <;> (rw [hc]; (try simp only [nrB] at hc); (try (exfalso; first | omega | exact hc trivial | exact hc rfl))))) | (show OW _ _ _ _ _ _; refine OW_E ?_) | (show OW _ _ ⟨_, .store .., _, _, _, _⟩ _ _ _; first | (refine OW_store rfl rfl rfl (by repeat (first | exact Upd.here | apply Upd.there)) (by first | (simp; done) | (simp; omega)) ?_) | (refine OW_storeAgg rfl rfl rfl rfl (by repeat (first | exact Upd.here | apply Upd.there)) (by first | (simp [Value.cells]; done) | (simp [Value.cells]; omega)) ?_)) | (show OW _ _ ⟨_, .alloc _, _, _, _, _⟩ _ _ _; first | (refine OW_alloc rfl (fun bk => ?_))) | (show OW _ _ ⟨_, .box .., _, _, _, _⟩ _ _ _; first | (refine OW_box rfl rfl (fun bk => ?_))) | (show WC _ _ _ _ _ _; first | (refine WC_seq ?_) | (refine WC_region ?_) | (refine WC_true rfl ?_) | (refine WC_false rfl ?_) | ((refine WC_cond rfl (fun hc => ?_) (fun hc => ?_)) <;> (try simp only [nrB] at hc) <;> (try (exfalso; first | omega | exact hc trivial | exact hc rfl))) | (refine WC_skip ?_) | (refine WC_ret ?_) | (refine WC_exit ?_) | (refine WC_block ?_)) | (show WQ _ _ _ _; first | (with_reducible refine WQ_then_normal ?_) | (with_reducible refine WQ_code ?_) | (with_reducible refine WQ_then_ret ?_) | (with_reducible refine WQ_block_ret ?_) | (with_reducible refine WQ_then_exit ?_) | (with_reducible refine WQ_block_hit ?_) | (with_reducible refine WQ_block_miss rfl ?_) | (with_reducible refine WQ_block_normal ?_))))
      · have hiR : i < R.length := by omega
        obtain ⟨y, hy⟩ : ∃ y, R[i]? = some y := ⟨R[i], by simp [hiR]⟩
        obtain ⟨b, off, cap, cc, T, fr, hve, hfn, hcy, _, hcy2⟩ := sl_coin hRc hy
        injection hve with q1 q2 q3
        subst q1 q3
        clear q2
        have hfm := fnd_mem hfn
        obtain ⟨g, hgs, hgw, hgb⟩ := hGR y (List.mem_of_getElem? hy)
        have hyl := hRR i y hy
        refine WC_loop (X := Nat) (fun j => [(0, .slice a0 m c0), (6, .int .i64 (ks.length : Int)), (11, .slice (some ⟨b, off, none⟩) R.length rc), (17, .slice (some ⟨bl, 0, none⟩) m m), (18, .int .i64 (i : Int)), (19, .int .i64 (j : Int))]) (fun j => [(bl, cl (vecV m fun t => if t < j then acc t + g t else acc t) 3)] :: CR :: I2 :: L) (fun j => j ≤ m) (fun j => m - j) 0 (Nat.zero_le _) (by repeat (first | exact Sub.nil | refine Sub.cons rfl ?_ | refine Sub.cons (lk_int rfl (by first | omega | (dsimp only; omega))) ?_))
          (fun w h => by rw [show (vecV m fun t => if t < 0 then acc t + g t else acc t) = vecV m acc from vecV_congr (fun j hj => by simp)]; exact h) ?_
        intro j hj
        (repeat' (first | (show WL _ _ _ _ _ _ _; first | (refine WL_plain rfl ?_) | (refine WL_nil ?_) | (refine WL_on rfl rfl ?_) | (refine WL_off rfl rfl rfl rfl ?_) | (refine WL_offu rfl rfl rfl rfl ?_) | (refine WL_off' rfl rfl rfl ?_) | ((refine WL_split rfl rfl (fun hc => ?_) (fun hc => ?_)) <;> (rw [hc]; (try simp only [nrB] at hc); (try (exfalso; first | omega | exact hc trivial | exact hc rfl))))) | (show OW _ _ _ _ _ _; refine OW_E ?_) | (show OW _ _ ⟨_, .store .., _, _, _, _⟩ _ _ _; first | (refine OW_store rfl rfl rfl (by repeat (first | exact Upd.here | apply Upd.there)) (by first | (simp; done) | (simp; omega)) ?_) | (refine OW_storeAgg rfl rfl rfl rfl (by repeat (first | exact Upd.here | apply Upd.there)) (by first | (simp [Value.cells]; done) | (simp [Value.cells]; omega)) ?_)) | (show OW _ _ ⟨_, .alloc _, _, _, _, _⟩ _ _ _; first | (refine OW_alloc rfl (fun bk => ?_))) | (show OW _ _ ⟨_, .box .., _, _, _, _⟩ _ _ _; first | (refine OW_box rfl rfl (fun bk => ?_))) | (show WC _ _ _ _ _ _; first | (refine WC_seq ?_) | (refine WC_region ?_) | (refine WC_true rfl ?_) | (refine WC_false rfl ?_) | ((refine WC_cond rfl (fun hc => ?_) (fun hc => ?_)) <;> (try simp only [nrB] at hc) <;> (try (exfalso; first | omega | exact hc trivial | exact hc rfl))) | (refine WC_skip ?_) | (refine WC_ret ?_) | (refine WC_exit ?_) | (refine WC_block ?_)) | (show WQ _ _ _ _; first | (with_reducible refine WQ_then_normal ?_) | (with_reducible refine WQ_code ?_) | (with_reducible refine WQ_then_ret ?_) | (with_reducible refine WQ_block_ret ?_) | (with_reducible refine WQ_then_exit ?_) | (with_reducible refine WQ_block_hit ?_) | (with_reducible refine WQ_block_miss rfl ?_) | (with_reducible refine WQ_block_normal ?_))))
        · have hjm : j < m := by omega
          obtain ⟨b', off', cap', cc', T', fr', hve, hfn', hcg⟩ := in_at hgs hjm
          obtain ⟨yw, yv⟩ := y
          simp only at hve hcy2
          subst hve
          have ha1 := hacc j
          have hg1 := hgb j
          have hown : (vecV m fun t => if t < j then acc t + g t else acc t).toArray[j * 1]? = some (.int .i64 (acc j : Int)) := by
            rw [Nat.mul_one, List.getElem?_toArray, vecV_get hjm, if_neg (by omega)]
          refine WC_drawAll [16] mixed ?_
          (refine WR_t 0 ?_; refine WR_t 1 ?_; refine WR_t 2 ?_; refine WR_t 3 ?_)
          (refine WR_take 4 rfl rfl (by kernel_rfl) (by repeat (first | with_reducible exact PO.body | with_reducible refine PO.then ?_ | with_reducible refine PO.block ?_)) (by repeat (first | exact Inc.refl | exact Inc.nil | refine Inc.cons (by repeat (first | exact Take.here | apply Take.there)) ?_ | refine Inc.skip ?_)) (EV_indexAddr0 (j := j) (len := m) rfl rfl rfl hjm) (by rfl) ?_)
          (refine WR_take 5 rfl rfl (by kernel_rfl) (by repeat (first | with_reducible exact PO.body | with_reducible refine PO.then ?_ | with_reducible refine PO.block ?_)) (by repeat (first | exact Inc.refl | exact Inc.nil | refine Inc.cons (by repeat (first | exact Take.here | apply Take.there)) ?_ | refine Inc.skip ?_)) (EV_load rfl Fnd.here hown) (by rfl) ?_)
          (refine WR_t 6 ?_; refine WR_t 7 ?_)
          (refine WR_take 8 rfl rfl (by kernel_rfl) (by repeat (first | with_reducible exact PO.body | with_reducible refine PO.then ?_ | with_reducible refine PO.block ?_)) (by repeat (first | exact Inc.refl | exact Inc.nil | refine Inc.cons (by repeat (first | exact Take.here | apply Take.there)) ?_ | refine Inc.skip ?_)) (EV_indexAddr (j := i) rfl rfl rfl hiR) (by rfl) ?_)
          (refine WR_t 9 ?_)
          (refine WR_take 10 rfl rfl (by kernel_rfl) (by repeat (first | with_reducible exact PO.body | with_reducible refine PO.then ?_ | with_reducible refine PO.block ?_)) (by repeat (first | exact Inc.refl | exact Inc.nil | refine Inc.cons (by repeat (first | exact Take.here | apply Take.there)) ?_ | refine Inc.skip ?_)) (EV_load rfl (Fnd.there (Fnd.mem hfm)) hcy2) (by rfl) ?_)
          (refine WR_t 11 ?_)
          (refine WR_take 12 rfl rfl (by kernel_rfl) (by repeat (first | with_reducible exact PO.body | with_reducible refine PO.then ?_ | with_reducible refine PO.block ?_)) (by repeat (first | exact Inc.refl | exact Inc.nil | refine Inc.cons (by repeat (first | exact Take.here | apply Take.there)) ?_ | refine Inc.skip ?_)) (EV_indexAddr (j := j) rfl rfl rfl hjm) (by rfl) ?_)
          (refine WR_take 13 rfl rfl (by kernel_rfl) (by repeat (first | with_reducible exact PO.body | with_reducible refine PO.then ?_ | with_reducible refine PO.block ?_)) (by repeat (first | exact Inc.refl | exact Inc.nil | refine Inc.cons (by repeat (first | exact Take.here | apply Take.there)) ?_ | refine Inc.skip ?_)) (EV_load rfl (Fnd.there (Fnd.there (Fnd.mem hfn'))) hcg) (by rfl) ?_)
          (refine WR_t 14 ?_)
          (refine WR_take 15 rfl rfl (by kernel_rfl) (by repeat (first | with_reducible exact PO.body | with_reducible refine PO.then ?_ | with_reducible refine PO.block ?_)) (by repeat (first | exact Inc.refl | exact Inc.nil | refine Inc.cons (by repeat (first | exact Take.here | apply Take.there)) ?_ | refine Inc.skip ?_)) (EV_indexAddr0 (j := j) (len := m) rfl rfl rfl hjm) (by rfl) ?_)
          (refine WR_last 16 (by kernel_rfl) rfl rfl rfl ?_)
          rw [show (acc j : Int) + (g j : Int) = ((acc j + g j : Nat) : Int) from by omega]
          refine OW_storeTo (l := vecV m fun t => if t < j then acc t + g t else acc t) (vecV m fun t => if t < j + 1 then acc t + g t else acc t) rfl rfl rfl (by rw [Nat.mul_one]; have := vecV_set (m := m) (g := fun t => if t < j then acc t + g t else acc t) (h := fun t => if t < j + 1 then acc t + g t else acc t) (i := j) hjm (fun t ht => by by_cases h1 : t < j; rw [if_pos h1, if_pos (by omega)]; rw [if_neg h1, if_neg (by omega)]); simpa using this) (by repeat (first | exact Upd.here | apply Upd.there)) (by rw [vecV_length]; omega) ?_
          (refine WR_done (by kernel_rfl) ?_)
          (repeat' (first | (show WL _ _ _ _ _ _ _; first | (refine WL_plain rfl ?_) | (refine WL_nil ?_) | (refine WL_on rfl rfl ?_) | (refine WL_off rfl rfl rfl rfl ?_) | (refine WL_offu rfl rfl rfl rfl ?_) | (refine WL_off' rfl rfl rfl ?_) | ((refine WL_split rfl rfl (fun hc => ?_) (fun hc => ?_)) <;> (rw [hc]; (try simp only [nrB] at hc); (try (exfalso; first | omega | exact hc trivial | exact hc rfl))))) | (show OW _ _ _ _ _ _; refine OW_E ?_) | (show OW _ _ ⟨_, .store .., _, _, _, _⟩ _ _ _; first | (refine OW_store rfl rfl rfl (by repeat (first | exact Upd.here | apply Upd.there)) (by first | (simp; done) | (simp; omega)) ?_) | (refine OW_storeAgg rfl rfl rfl rfl (by repeat (first | exact Upd.here | apply Upd.there)) (by first | (simp [Value.cells]; done) | (simp [Value.cells]; omega)) ?_)) | (show OW _ _ ⟨_, .alloc _, _, _, _, _⟩ _ _ _; first | (refine OW_alloc rfl (fun bk => ?_))) | (show OW _ _ ⟨_, .box .., _, _, _, _⟩ _ _ _; first | (refine OW_box rfl rfl (fun bk => ?_))) | (show WC _ _ _ _ _ _; first | (refine WC_seq ?_) | (refine WC_region ?_) | (refine WC_true rfl ?_) | (refine WC_false rfl ?_) | ((refine WC_cond rfl (fun hc => ?_) (fun hc => ?_)) <;> (try simp only [nrB] at hc) <;> (try (exfalso; first | omega | exact hc trivial | exact hc rfl))) | (refine WC_skip ?_) | (refine WC_ret ?_) | (refine WC_exit ?_) | (refine WC_block ?_)) | (show WQ _ _ _ _; first | (with_reducible refine WQ_then_normal ?_) | (with_reducible refine WQ_code ?_) | (with_reducible refine WQ_then_ret ?_) | (with_reducible refine WQ_block_ret ?_) | (with_reducible refine WQ_then_exit ?_) | (with_reducible refine WQ_block_hit ?_) | (with_reducible refine WQ_block_miss rfl ?_) | (with_reducible refine WQ_block_normal ?_))))
          refine WQ_round (X := Nat) (μ := fun j => m - j) (x := j) (j + 1) (by omega) (by omega) (by repeat (first | exact Sub.nil | refine Sub.cons rfl ?_ | refine Sub.cons (lk_int rfl (by first | omega | (dsimp only; omega))) ?_)) (fun w h => h)
        · have hjm : j = m := by omega
          rw [hjm, show (vecV m fun t => if t < m then acc t + g t else acc t) = vecV m fun t => acc t + g t from vecV_congr fun t ht => by rw [if_pos ht]]
          refine WQ_round (X := Nat × (Nat → Nat)) (μ := fun x => 24 - x.1) (x := (i, acc)) (i + 1, fun t => acc t + g t) (by simp only; omega) ⟨by simp only; omega, by simp only; omega, ?_, fun t => ?_⟩ (by repeat (first | exact Sub.nil | refine Sub.cons rfl ?_ | refine Sub.cons (lk_int rfl (by first | omega | (dsimp only; omega))) ?_)) (fun w h => h)
          · simp only
            rw [dotN_add, hdot, ← hgw, List.take_add_one, hyl]
            simp
          · have := hacc t
            have := hgb t
            simp only
            omega
      all_goals
        have hie : ((lwR ws (k + 1)).take i).sum = ((lwR ws most).take (2 * ks.length - 2)).sum := by
          rw [← hkm]
          rcases Nat.lt_or_ge i (2 * ks.length - 2) with hlt | hge
          · have hiR : i = (lwR ws (k + 1)).length := by omega
            rw [List.take_of_length_le (by omega), List.take_of_length_le (by omega)]
          · rw [show i = 2 * ks.length - 2 from by omega]
        refine OW_callP rfl rfl rfl (cost_v a0 (some ⟨bl, 0, none⟩) c0 m m cs acc _ hm (sl_there (sl_there (sl_there h))) vecV_sl (by omega) (fun i => Nat.le_trans (hcB i) (by decide)) (fun t => by have := hacc t; omega)) rfl ?_
        rw [hdot, hie]
        (repeat' (first | (show WL _ _ _ _ _ _ _; first | (refine WL_plain rfl ?_) | (refine WL_nil ?_) | (refine WL_on rfl rfl ?_) | (refine WL_off rfl rfl rfl rfl ?_) | (refine WL_offu rfl rfl rfl rfl ?_) | (refine WL_off' rfl rfl rfl ?_) | ((refine WL_split rfl rfl (fun hc => ?_) (fun hc => ?_)) <;> (rw [hc]; (try simp only [nrB] at hc); (try (exfalso; first | omega | exact hc trivial | exact hc rfl))))) | (show OW _ _ _ _ _ _; refine OW_E ?_) | (show OW _ _ ⟨_, .store .., _, _, _, _⟩ _ _ _; first | (refine OW_store rfl rfl rfl (by repeat (first | exact Upd.here | apply Upd.there)) (by first | (simp; done) | (simp; omega)) ?_) | (refine OW_storeAgg rfl rfl rfl rfl (by repeat (first | exact Upd.here | apply Upd.there)) (by first | (simp [Value.cells]; done) | (simp [Value.cells]; omega)) ?_)) | (show OW _ _ ⟨_, .alloc _, _, _, _, _⟩ _ _ _; first | (refine OW_alloc rfl (fun bk => ?_))) | (show OW _ _ ⟨_, .box .., _, _, _, _⟩ _ _ _; first | (refine OW_box rfl rfl (fun bk => ?_))) | (show WC _ _ _ _ _ _; first | (refine WC_seq ?_) | (refine WC_region ?_) | (refine WC_true rfl ?_) | (refine WC_false rfl ?_) | ((refine WC_cond rfl (fun hc => ?_) (fun hc => ?_)) <;> (try simp only [nrB] at hc) <;> (try (exfalso; first | omega | exact hc trivial | exact hc rfl))) | (refine WC_skip ?_) | (refine WC_ret ?_) | (refine WC_exit ?_) | (refine WC_block ?_)) | (show WQ _ _ _ _; first | (with_reducible refine WQ_then_normal ?_) | (with_reducible refine WQ_code ?_) | (with_reducible refine WQ_then_ret ?_) | (with_reducible refine WQ_block_ret ?_) | (with_reducible refine WQ_then_exit ?_) | (with_reducible refine WQ_block_hit ?_) | (with_reducible refine WQ_block_miss rfl ?_) | (with_reducible refine WQ_block_normal ?_))))
        ((first | refine WQ_retI rfl rfl ?_ | refine WQ_endI rfl rfl ?_); exact ⟨_, (by repeat (first | exact Inc.refl | exact Inc.nil | refine Inc.cons (by repeat (first | exact Take.here | apply Take.there)) ?_ | refine Inc.skip ?_)), rfl, rfl⟩)
    · have hp15 : 2 ^ (k + 1) = 2 * 2 ^ k := by rw [Nat.pow_succ, Nat.mul_comm]
      refine WC_holds' (L' := [] :: CR :: C :: I2 :: L) (fun w h => Holds.nil.2 (((by repeat (first | exact Inc.refl | exact Inc.nil | refine Inc.cons (by repeat (first | exact Take.here | apply Take.there)) ?_ | refine Inc.skip ?_)) : Inc _ _).holds h)) ?_
      refine WC_loop (X := Nat × Value × List (Nat × Value) × Chunk × Chunk) (fun x => [(0, .slice a0 m c0), (1, .int .i64 (most : Int)), (5, .slice va ks.length vc), (6, .int .i64 (ks.length : Int)), (11, x.2.1), (12, .int .i64 (k : Int)), (13, .slice ra R.length rc), (14, .int .i64 ((2 * x.1 : Nat) : Int))]) (fun x => x.2.2.2.1 :: CR :: C :: x.2.2.2.2 :: L)
        (fun x => 2 * x.1 ≤ R.length ∧ Ow 88 2 x.2.1 x.2.2.1.length (coinsC x.2.2.1) x.2.2.2.1 ∧ (∀ y ∈ ks, Gd cs m x.2.2.2.2 1 y) ∧ (∀ y ∈ R, Gd cs m x.2.2.2.2 (2 ^ k) y) ∧ (∀ y ∈ x.2.2.1, Gd cs m x.2.2.2.2 (2 ^ (k + 1)) y) ∧ x.2.2.1.map Prod.fst = psum ((lwR ws (k + 1)).take (2 * x.1))) (fun x => R.length - x.1) (0, .slice none 0 0, [], [], I2)
        ⟨Nat.zero_le _, .inl ⟨rfl, rfl, rfl, rfl⟩, hGk, hGR, fun y hy => by simp at hy, rfl⟩ (by repeat (first | exact Sub.nil | refine Sub.cons rfl ?_ | refine Sub.cons (lk_int rfl (by first | omega | (dsimp only; omega))) ?_)) (fun w h => h) ?_
      rintro ⟨p, l4, m4, C4, I4⟩ ⟨hp1, hO4, hK4, hR4, hG4, hW4⟩
      simp only at hp1 hO4 hK4 hR4 hG4 hW4 ⊢
      have hl4 : m4.length = p := by
        have := congrArg List.length hW4
        rw [List.length_map, psum_length, List.length_take, hRwl] at this
        omega
      (repeat' (first | (show WL _ _ _ _ _ _ _; first | (refine WL_plain rfl ?_) | (refine WL_nil ?_) | (refine WL_on rfl rfl ?_) | (refine WL_off rfl rfl rfl rfl ?_) | (refine WL_offu rfl rfl rfl rfl ?_) | (refine WL_off' rfl rfl rfl ?_) | ((refine WL_split rfl rfl (fun hc => ?_) (fun hc => ?_)) <;> (rw [hc]; (try simp only [nrB] at hc); (try (exfalso; first | omega | exact hc trivial | exact hc rfl))))) | (show OW _ _ _ _ _ _; refine OW_E ?_) | (show OW _ _ ⟨_, .store .., _, _, _, _⟩ _ _ _; first | (refine OW_store rfl rfl rfl (by repeat (first | exact Upd.here | apply Upd.there)) (by first | (simp; done) | (simp; omega)) ?_) | (refine OW_storeAgg rfl rfl rfl rfl (by repeat (first | exact Upd.here | apply Upd.there)) (by first | (simp [Value.cells]; done) | (simp [Value.cells]; omega)) ?_)) | (show OW _ _ ⟨_, .alloc _, _, _, _, _⟩ _ _ _; first | (refine OW_alloc rfl (fun bk => ?_))) | (show OW _ _ ⟨_, .box .., _, _, _, _⟩ _ _ _; first | (refine OW_box rfl rfl (fun bk => ?_))) | (show WC _ _ _ _ _ _; first | (refine WC_seq ?_) | (refine WC_region ?_) | (refine WC_true rfl ?_) | (refine WC_false rfl ?_) | ((refine WC_cond rfl (fun hc => ?_) (fun hc => ?_)) <;> (try simp only [nrB] at hc) <;> (try (exfalso; first | omega | exact hc trivial | exact hc rfl))) | (refine WC_skip ?_) | (refine WC_ret ?_) | (refine WC_exit ?_) | (refine WC_block ?_)) | (show WQ _ _ _ _; first | (with_reducible refine WQ_then_normal ?_) | (with_reducible refine WQ_code ?_) | (with_reducible refine WQ_then_ret ?_) | (with_reducible refine WQ_block_ret ?_) | (with_reducible refine WQ_then_exit ?_) | (with_reducible refine WQ_block_hit ?_) | (with_reducible refine WQ_block_miss rfl ?_) | (with_reducible refine WQ_block_normal ?_))))
      · have hi0 : 2 * p < R.length := by omega
        have hi1 : 2 * p + 1 < R.length := by omega
        obtain ⟨y, hy⟩ : ∃ y, R[2 * p]? = some y := ⟨R[2 * p], by simp [hi0]⟩
        obtain ⟨z, hz⟩ : ∃ z, R[2 * p + 1]? = some z := ⟨R[2 * p + 1], by simp [hi1]⟩
        obtain ⟨b, off, cap, cc, T, fr, hve, hfn, hcy, _, hcy2⟩ := sl_coin hRc hy
        injection hve with q1 q2 q3
        subst q1 q3
        clear q2
        obtain ⟨b', off', cap', cc', T', fr', hve, hfn', hcz, _, hcz2⟩ := sl_coin hRc hz
        injection hve with q1 q2 q3
        injection q1 with q1
        injection q1 with q1 q4 _
        subst q1 q4
        clear q2 q3
        have hfm := fnd_mem hfn
        have hfm' := fnd_mem hfn'
        obtain ⟨ga, hgas, hgaw, hgab⟩ := hR4 y (List.mem_of_getElem? hy)
        obtain ⟨gb, hgbs, hgbw, hgbb⟩ := hR4 z (List.mem_of_getElem? hz)
        have hyl := hRR _ y hy
        have hzl := hRR _ z hz
        have hyw : y.1 ≤ m * (1073741824 * 2 ^ k) := by rw [hgaw]; exact dotN_le hcB hgab
        have hzw : z.1 ≤ m * (1073741824 * 2 ^ k) := by rw [hgbw]; exact dotN_le hcB hgbb
        have hbig : m * (1073741824 * 2 ^ k) ≤ 12 * (1073741824 * 2 ^ 14) := Nat.mul_le_mul hl (Nat.mul_le_mul_left _ hp14)
        refine OW_makeSlice (m := m) (c := m) rfl rfl (by rfl) (by omega) (by omega) (by omega) rfl (fun bn => ?_)
        rw [show zeros (Value.int .i64 0).cells.toList m = vecV m fun _ => 0 from vecV_zero _]
        (repeat' (first | (show WL _ _ _ _ _ _ _; first | (refine WL_plain rfl ?_) | (refine WL_nil ?_) | (refine WL_on rfl rfl ?_) | (refine WL_off rfl rfl rfl rfl ?_) | (refine WL_offu rfl rfl rfl rfl ?_) | (refine WL_off' rfl rfl rfl ?_) | ((refine WL_split rfl rfl (fun hc => ?_) (fun hc => ?_)) <;> (rw [hc]; (try simp only [nrB] at hc); (try (exfalso; first | omega | exact hc trivial | exact hc rfl))))) | (show OW _ _ _ _ _ _; refine OW_E ?_) | (show OW _ _ ⟨_, .store .., _, _, _, _⟩ _ _ _; first | (refine OW_store rfl rfl rfl (by repeat (first | exact Upd.here | apply Upd.there)) (by first | (simp; done) | (simp; omega)) ?_) | (refine OW_storeAgg rfl rfl rfl rfl (by repeat (first | exact Upd.here | apply Upd.there)) (by first | (simp [Value.cells]; done) | (simp [Value.cells]; omega)) ?_)) | (show OW _ _ ⟨_, .alloc _, _, _, _, _⟩ _ _ _; first | (refine OW_alloc rfl (fun bk => ?_))) | (show OW _ _ ⟨_, .box .., _, _, _, _⟩ _ _ _; first | (refine OW_box rfl rfl (fun bk => ?_))) | (show WC _ _ _ _ _ _; first | (refine WC_seq ?_) | (refine WC_region ?_) | (refine WC_true rfl ?_) | (refine WC_false rfl ?_) | ((refine WC_cond rfl (fun hc => ?_) (fun hc => ?_)) <;> (try simp only [nrB] at hc) <;> (try (exfalso; first | omega | exact hc trivial | exact hc rfl))) | (refine WC_skip ?_) | (refine WC_ret ?_) | (refine WC_exit ?_) | (refine WC_block ?_)) | (show WQ _ _ _ _; first | (with_reducible refine WQ_then_normal ?_) | (with_reducible refine WQ_code ?_) | (with_reducible refine WQ_then_ret ?_) | (with_reducible refine WQ_block_ret ?_) | (with_reducible refine WQ_then_exit ?_) | (with_reducible refine WQ_block_hit ?_) | (with_reducible refine WQ_block_miss rfl ?_) | (with_reducible refine WQ_block_normal ?_))))
        refine WC_loop (X := Nat) (fun j => [(0, .slice a0 m c0), (1, .int .i64 (most : Int)), (5, .slice va ks.length vc), (6, .int .i64 (ks.length : Int)), (11, l4), (12, .int .i64 (k : Int)), (13, .slice (some ⟨b, off, none⟩) R.length rc), (14, .int .i64 ((2 * p : Nat) : Int)), (15, .slice (some ⟨bn, 0, none⟩) m m), (16, .int .i64 (j : Int))])
          (fun j => [(bn, cl (vecV m fun t => if t < j then ga t + gb t else 0) 3)] :: C4 :: CR :: C :: I4 :: L) (fun j => j ≤ m) (fun j => m - j) 0 (Nat.zero_le _) (by repeat (first | exact Sub.nil | refine Sub.cons rfl ?_ | refine Sub.cons (lk_int rfl (by first | omega | (dsimp only; omega))) ?_))
          (fun w h => by rw [show (vecV m fun t => if t < 0 then ga t + gb t else 0) = vecV m fun _ => 0 from vecV_congr (fun j hj => by simp)]; exact h) ?_
        intro j hj
        (repeat' (first | (show WL _ _ _ _ _ _ _; first | (refine WL_plain rfl ?_) | (refine WL_nil ?_) | (refine WL_on rfl rfl ?_) | (refine WL_off rfl rfl rfl rfl ?_) | (refine WL_offu rfl rfl rfl rfl ?_) | (refine WL_off' rfl rfl rfl ?_) | ((refine WL_split rfl rfl (fun hc => ?_) (fun hc => ?_)) <;> (rw [hc]; (try simp only [nrB] at hc); (try (exfalso; first | omega | exact hc trivial | exact hc rfl))))) | (show OW _ _ _ _ _ _; refine OW_E ?_) | (show OW _ _ ⟨_, .store .., _, _, _, _⟩ _ _ _; first | (refine OW_store rfl rfl rfl (by repeat (first | exact Upd.here | apply Upd.there)) (by first | (simp; done) | (simp; omega)) ?_) | (refine OW_storeAgg rfl rfl rfl rfl (by repeat (first | exact Upd.here | apply Upd.there)) (by first | (simp [Value.cells]; done) | (simp [Value.cells]; omega)) ?_)) | (show OW _ _ ⟨_, .alloc _, _, _, _, _⟩ _ _ _; first | (refine OW_alloc rfl (fun bk => ?_))) | (show OW _ _ ⟨_, .box .., _, _, _, _⟩ _ _ _; first | (refine OW_box rfl rfl (fun bk => ?_))) | (show WC _ _ _ _ _ _; first | (refine WC_seq ?_) | (refine WC_region ?_) | (refine WC_true rfl ?_) | (refine WC_false rfl ?_) | ((refine WC_cond rfl (fun hc => ?_) (fun hc => ?_)) <;> (try simp only [nrB] at hc) <;> (try (exfalso; first | omega | exact hc trivial | exact hc rfl))) | (refine WC_skip ?_) | (refine WC_ret ?_) | (refine WC_exit ?_) | (refine WC_block ?_)) | (show WQ _ _ _ _; first | (with_reducible refine WQ_then_normal ?_) | (with_reducible refine WQ_code ?_) | (with_reducible refine WQ_then_ret ?_) | (with_reducible refine WQ_block_ret ?_) | (with_reducible refine WQ_then_exit ?_) | (with_reducible refine WQ_block_hit ?_) | (with_reducible refine WQ_block_miss rfl ?_) | (with_reducible refine WQ_block_normal ?_))))
        · have hjm : j < m := by omega
          obtain ⟨yw, yv⟩ := y
          obtain ⟨zw, zv⟩ := z
          obtain ⟨b1, off1, cap1, cc1, T1, fr1, hve1, hfn1, hcg1⟩ := in_at hgas hjm
          obtain ⟨b2, off2, cap2, cc2, T2, fr2, hve2, hfn2, hcg2⟩ := in_at hgbs hjm
          simp only at hve1 hve2 hcy2 hcz2
          subst hve1 hve2
          have ha1 := hgab j
          have hg1 := hgbb j
          refine WC_drawAll [21] mixed ?_
          (refine WR_t 0 ?_; refine WR_t 1 ?_; refine WR_t 2 ?_; refine WR_t 3 ?_)
          (refine WR_take 4 rfl rfl (by kernel_rfl) (by repeat (first | with_reducible exact PO.body | with_reducible refine PO.then ?_ | with_reducible refine PO.block ?_)) (by repeat (first | exact Inc.refl | exact Inc.nil | refine Inc.cons (by repeat (first | exact Take.here | apply Take.there)) ?_ | refine Inc.skip ?_)) (EV_indexAddr (j := 2 * p) rfl rfl rfl hi0) (by rfl) ?_)
          (refine WR_t 5 ?_)
          (refine WR_take 6 rfl rfl (by kernel_rfl) (by repeat (first | with_reducible exact PO.body | with_reducible refine PO.then ?_ | with_reducible refine PO.block ?_)) (by repeat (first | exact Inc.refl | exact Inc.nil | refine Inc.cons (by repeat (first | exact Take.here | apply Take.there)) ?_ | refine Inc.skip ?_)) (EV_load rfl (Fnd.there (Fnd.there (Fnd.mem hfm))) hcy2) (by rfl) ?_)
          (refine WR_t 7 ?_)
          (refine WR_take 8 rfl rfl (by kernel_rfl) (by repeat (first | with_reducible exact PO.body | with_reducible refine PO.then ?_ | with_reducible refine PO.block ?_)) (by repeat (first | exact Inc.refl | exact Inc.nil | refine Inc.cons (by repeat (first | exact Take.here | apply Take.there)) ?_ | refine Inc.skip ?_)) (EV_indexAddr (j := j) rfl rfl rfl hjm) (by rfl) ?_)
          (refine WR_take 9 rfl rfl (by kernel_rfl) (by repeat (first | with_reducible exact PO.body | with_reducible refine PO.then ?_ | with_reducible refine PO.block ?_)) (by repeat (first | exact Inc.refl | exact Inc.nil | refine Inc.cons (by repeat (first | exact Take.here | apply Take.there)) ?_ | refine Inc.skip ?_)) (EV_load rfl (Fnd.there (Fnd.there (Fnd.there (Fnd.there (Fnd.mem hfn1))))) hcg1) (by rfl) ?_)
          (refine WR_t 10 ?_; refine WR_t 11 ?_; refine WR_t 12 ?_)
          (refine WR_take 13 rfl rfl (by kernel_rfl) (by repeat (first | with_reducible exact PO.body | with_reducible refine PO.then ?_ | with_reducible refine PO.block ?_)) (by repeat (first | exact Inc.refl | exact Inc.nil | refine Inc.cons (by repeat (first | exact Take.here | apply Take.there)) ?_ | refine Inc.skip ?_)) (EV_indexAddr (j := 2 * p + 1) rfl rfl (by omega) hi1) (by rfl) ?_)
          (refine WR_t 14 ?_)
          (refine WR_take 15 rfl rfl (by kernel_rfl) (by repeat (first | with_reducible exact PO.body | with_reducible refine PO.then ?_ | with_reducible refine PO.block ?_)) (by repeat (first | exact Inc.refl | exact Inc.nil | refine Inc.cons (by repeat (first | exact Take.here | apply Take.there)) ?_ | refine Inc.skip ?_)) (EV_load rfl (Fnd.there (Fnd.there (Fnd.mem hfm'))) hcz2) (by rfl) ?_)
          (refine WR_t 16 ?_)
          (refine WR_take 17 rfl rfl (by kernel_rfl) (by repeat (first | with_reducible exact PO.body | with_reducible refine PO.then ?_ | with_reducible refine PO.block ?_)) (by repeat (first | exact Inc.refl | exact Inc.nil | refine Inc.cons (by repeat (first | exact Take.here | apply Take.there)) ?_ | refine Inc.skip ?_)) (EV_indexAddr (j := j) rfl rfl rfl hjm) (by rfl) ?_)
          (refine WR_take 18 rfl rfl (by kernel_rfl) (by repeat (first | with_reducible exact PO.body | with_reducible refine PO.then ?_ | with_reducible refine PO.block ?_)) (by repeat (first | exact Inc.refl | exact Inc.nil | refine Inc.cons (by repeat (first | exact Take.here | apply Take.there)) ?_ | refine Inc.skip ?_)) (EV_load rfl (Fnd.there (Fnd.there (Fnd.there (Fnd.there (Fnd.mem hfn2))))) hcg2) (by rfl) ?_)
          (refine WR_t 19 ?_)
          (refine WR_take 20 rfl rfl (by kernel_rfl) (by repeat (first | with_reducible exact PO.body | with_reducible refine PO.then ?_ | with_reducible refine PO.block ?_)) (by repeat (first | exact Inc.refl | exact Inc.nil | refine Inc.cons (by repeat (first | exact Take.here | apply Take.there)) ?_ | refine Inc.skip ?_)) (EV_indexAddr0 (j := j) (len := m) rfl rfl rfl hjm) (by rfl) ?_)
          (refine WR_last 21 (by kernel_rfl) rfl rfl rfl ?_)
          rw [show (ga j : Int) + (gb j : Int) = ((ga j + gb j : Nat) : Int) from by omega]
          refine OW_storeTo (l := vecV m fun t => if t < j then ga t + gb t else 0) (vecV m fun t => if t < j + 1 then ga t + gb t else 0) rfl rfl rfl (by rw [Nat.mul_one]; have := vecV_set (m := m) (g := fun t => if t < j then ga t + gb t else 0) (h := fun t => if t < j + 1 then ga t + gb t else 0) (i := j) hjm (fun t ht => by by_cases h1 : t < j; rw [if_pos h1, if_pos (by omega)]; rw [if_neg h1, if_neg (by omega)]); simpa using this) (by repeat (first | exact Upd.here | apply Upd.there)) (by rw [vecV_length]; omega) ?_
          (refine WR_done (by kernel_rfl) ?_)
          (repeat' (first | (show WL _ _ _ _ _ _ _; first | (refine WL_plain rfl ?_) | (refine WL_nil ?_) | (refine WL_on rfl rfl ?_) | (refine WL_off rfl rfl rfl rfl ?_) | (refine WL_offu rfl rfl rfl rfl ?_) | (refine WL_off' rfl rfl rfl ?_) | ((refine WL_split rfl rfl (fun hc => ?_) (fun hc => ?_)) <;> (rw [hc]; (try simp only [nrB] at hc); (try (exfalso; first | omega | exact hc trivial | exact hc rfl))))) | (show OW _ _ _ _ _ _; refine OW_E ?_) | (show OW _ _ ⟨_, .store .., _, _, _, _⟩ _ _ _; first | (refine OW_store rfl rfl rfl (by repeat (first | exact Upd.here | apply Upd.there)) (by first | (simp; done) | (simp; omega)) ?_) | (refine OW_storeAgg rfl rfl rfl rfl (by repeat (first | exact Upd.here | apply Upd.there)) (by first | (simp [Value.cells]; done) | (simp [Value.cells]; omega)) ?_)) | (show OW _ _ ⟨_, .alloc _, _, _, _, _⟩ _ _ _; first | (refine OW_alloc rfl (fun bk => ?_))) | (show OW _ _ ⟨_, .box .., _, _, _, _⟩ _ _ _; first | (refine OW_box rfl rfl (fun bk => ?_))) | (show WC _ _ _ _ _ _; first | (refine WC_seq ?_) | (refine WC_region ?_) | (refine WC_true rfl ?_) | (refine WC_false rfl ?_) | ((refine WC_cond rfl (fun hc => ?_) (fun hc => ?_)) <;> (try simp only [nrB] at hc) <;> (try (exfalso; first | omega | exact hc trivial | exact hc rfl))) | (refine WC_skip ?_) | (refine WC_ret ?_) | (refine WC_exit ?_) | (refine WC_block ?_)) | (show WQ _ _ _ _; first | (with_reducible refine WQ_then_normal ?_) | (with_reducible refine WQ_code ?_) | (with_reducible refine WQ_then_ret ?_) | (with_reducible refine WQ_block_ret ?_) | (with_reducible refine WQ_then_exit ?_) | (with_reducible refine WQ_block_hit ?_) | (with_reducible refine WQ_block_miss rfl ?_) | (with_reducible refine WQ_block_normal ?_))))
          refine WQ_round (X := Nat) (μ := fun j => m - j) (x := j) (j + 1) (by omega) (by omega) (by repeat (first | exact Sub.nil | refine Sub.cons rfl ?_ | refine Sub.cons (lk_int rfl (by first | omega | (dsimp only; omega))) ?_)) (fun w h => h)
        · have hjm : j = m := by omega
          rw [hjm, show (vecV m fun t => if t < m then ga t + gb t else 0) = vecV m fun t => ga t + gb t from vecV_congr fun t ht => by rw [if_pos ht]]
          refine WC_draw [CR] [] mixed ?_
          (refine WR_t 0 ?_; refine WR_t 1 ?_; refine WR_t 2 ?_)
          (refine WR_take 3 rfl rfl (by kernel_rfl) (by repeat (first | with_reducible exact PO.body | with_reducible refine PO.then ?_ | with_reducible refine PO.block ?_)) (by repeat (first | exact Inc.refl | exact Inc.nil | refine Inc.cons (by repeat (first | exact Take.here | apply Take.there)) ?_ | refine Inc.skip ?_)) (EV_indexAddr (j := 2 * p) rfl rfl rfl hi0) (by rfl) ?_)
          (refine WR_t 4 ?_)
          (refine WR_take 5 rfl rfl (by kernel_rfl) (by repeat (first | with_reducible exact PO.body | with_reducible refine PO.then ?_ | with_reducible refine PO.block ?_)) (by repeat (first | exact Inc.refl | exact Inc.nil | refine Inc.cons (by repeat (first | exact Take.here | apply Take.there)) ?_ | refine Inc.skip ?_)) (EV_load rfl (Fnd.mem hfm) hcy) (by rfl) ?_)
          (refine WR_t 6 ?_; refine WR_t 7 ?_; refine WR_t 8 ?_)
          (refine WR_take 9 rfl rfl (by kernel_rfl) (by repeat (first | with_reducible exact PO.body | with_reducible refine PO.then ?_ | with_reducible refine PO.block ?_)) (by repeat (first | exact Inc.refl | exact Inc.nil | refine Inc.cons (by repeat (first | exact Take.here | apply Take.there)) ?_ | refine Inc.skip ?_)) (EV_indexAddr (j := 2 * p + 1) rfl rfl (by omega) hi1) (by rfl) ?_)
          (refine WR_t 10 ?_)
          (refine WR_take 11 rfl rfl (by kernel_rfl) (by repeat (first | with_reducible exact PO.body | with_reducible refine PO.then ?_ | with_reducible refine PO.block ?_)) (by repeat (first | exact Inc.refl | exact Inc.nil | refine Inc.cons (by repeat (first | exact Take.here | apply Take.there)) ?_ | refine Inc.skip ?_)) (EV_load rfl (Fnd.mem hfm') hcz) (by rfl) ?_)
          (refine WR_t 12 ?_)
          rw [show (y.1 : Int) + (z.1 : Int) = ((y.1 + z.1 : Nat) : Int) from by omega]
          (refine WR_t 13 ?_; refine WR_t 14 ?_)
          (refine WR_one 15 (by kernel_rfl) rfl rfl ?_)
          refine OW_buildSlice (cs := coinsC [(y.1 + z.1, .slice (some ⟨bn, 0, none⟩) m m)]) rfl (by rfl) (by simp [fillL, patch, Value.cells, zeros]; rfl) (by omega) rfl rfl (fun bk => ?_)
          refine ⟨(by repeat (first | exact Inc.refl | exact Inc.nil | refine Inc.cons (by repeat (first | exact Take.here | apply Take.there)) ?_ | refine Inc.skip ?_)), ?_⟩
          (refine WR_one 16 (by kernel_rfl) rfl rfl ?_)
          refine OW_append rfl rfl hO4 (sl_cells (k := 2) (c := (coinsC [(y.1 + z.1, .slice (some ⟨bn, 0, none⟩) m m)]).toArray) (xs := coinsC [(y.1 + z.1, .slice (some ⟨bn, 0, none⟩) m m)]) (m := 1) Fnd.here rfl (by simp)) (by repeat (first | exact Zip.here _ | apply Zip.there)) (by rfl) (coinsC_ones rfl) (by omega) (by simp [maxLen]; omega) rfl (fun v' C' ho2 h1 h2 => ?_)
          rw [← coinsC_app] at ho2
          refine ⟨(by repeat (first | exact Inc.refl | exact Inc.nil | refine Inc.cons (by repeat (first | exact Take.here | apply Take.there)) ?_ | refine Inc.skip ?_)), ?_⟩
          (refine WR_t 17 ?_)
          (refine WR_done (by kernel_rfl) ?_)
          (repeat' (first | (show WL _ _ _ _ _ _ _; first | (refine WL_plain rfl ?_) | (refine WL_nil ?_) | (refine WL_on rfl rfl ?_) | (refine WL_off rfl rfl rfl rfl ?_) | (refine WL_offu rfl rfl rfl rfl ?_) | (refine WL_off' rfl rfl rfl ?_) | ((refine WL_split rfl rfl (fun hc => ?_) (fun hc => ?_)) <;> (rw [hc]; (try simp only [nrB] at hc); (try (exfalso; first | omega | exact hc trivial | exact hc rfl))))) | (show OW _ _ _ _ _ _; refine OW_E ?_) | (show OW _ _ ⟨_, .store .., _, _, _, _⟩ _ _ _; first | (refine OW_store rfl rfl rfl (by repeat (first | exact Upd.here | apply Upd.there)) (by first | (simp; done) | (simp; omega)) ?_) | (refine OW_storeAgg rfl rfl rfl rfl (by repeat (first | exact Upd.here | apply Upd.there)) (by first | (simp [Value.cells]; done) | (simp [Value.cells]; omega)) ?_)) | (show OW _ _ ⟨_, .alloc _, _, _, _, _⟩ _ _ _; first | (refine OW_alloc rfl (fun bk => ?_))) | (show OW _ _ ⟨_, .box .., _, _, _, _⟩ _ _ _; first | (refine OW_box rfl rfl (fun bk => ?_))) | (show WC _ _ _ _ _ _; first | (refine WC_seq ?_) | (refine WC_region ?_) | (refine WC_true rfl ?_) | (refine WC_false rfl ?_) | ((refine WC_cond rfl (fun hc => ?_) (fun hc => ?_)) <;> (try simp only [nrB] at hc) <;> (try (exfalso; first | omega | exact hc trivial | exact hc rfl))) | (refine WC_skip ?_) | (refine WC_ret ?_) | (refine WC_exit ?_) | (refine WC_block ?_)) | (show WQ _ _ _ _; first | (with_reducible refine WQ_then_normal ?_) | (with_reducible refine WQ_code ?_) | (with_reducible refine WQ_then_ret ?_) | (with_reducible refine WQ_block_ret ?_) | (with_reducible refine WQ_then_exit ?_) | (with_reducible refine WQ_block_hit ?_) | (with_reducible refine WQ_block_miss rfl ?_) | (with_reducible refine WQ_block_normal ?_))))
          rw [show ((2 * p : Nat) : Int) + 2 = ((2 * (p + 1) : Nat) : Int) from by omega]
          refine WQ_round (X := Nat × Value × List (Nat × Value) × Chunk × Chunk) (μ := fun x => R.length - x.1) (x := (p, l4, m4, C4, I4)) (p + 1, v', m4 ++ [(y.1 + z.1, .slice (some ⟨bn, 0, none⟩) m m)], C', [(bn, cl (vecV m fun t => ga t + gb t) 3)] ++ I4) (by simp only; omega)
            ⟨by simp only; omega, by simp only; rw [List.length_append]; exact ho2, fun u hu => (hK4 u hu).more, fun u hu => (hR4 u hu).more, fun u hu => ?_, ?_⟩ (by repeat (first | exact Sub.nil | refine Sub.cons rfl ?_ | refine Sub.cons (lk_int rfl (by first | omega | (dsimp only; omega))) ?_)) (fun w h => hold_join3.2 (((by repeat (first | exact Inc.refl | exact Inc.nil | refine Inc.cons (by repeat (first | exact Take.here | apply Take.there)) ?_ | refine Inc.skip ?_)) : Inc _ _).holds h))
          · simp only at hu ⊢
            rcases List.mem_append.1 hu with hu | hu
            · exact (hG4 u hu).more
            · simp only [List.mem_singleton] at hu
              subst hu
              refine ⟨fun t => ga t + gb t, sl_part (fun q hq => List.mem_append_left _ hq) (vecV_sl (L := [])), ?_, fun t => ?_⟩
              · simp only
                rw [dotN_add, hgaw, hgbw]
              · have := hgab t
                have := hgbb t
                simp only
                omega
          · simp only
            rw [List.map_append, hW4, psum_snoc hyl hzl]
            rfl
      · have hps := psum_take (l := lwR ws (k + 1)) (p := p) (by omega) (by omega)
        rw [hps] at hW4
        refine WQ_round (X := Nat × Value × List (Nat × Value) × Chunk × Chunk) (μ := fun x => most - x.1) (x := (k, lv, lk, Cl, I2)) (k + 1, l4, m4, C4, I4) (by simp only; omega) ⟨by simp only; omega, hO4, hK4, hG4, hW4, by simp only; omega⟩ (by repeat (first | exact Sub.nil | refine Sub.cons rfl ?_ | refine Sub.cons (lk_int rfl (by first | omega | (dsimp only; omega))) ?_)) (fun w h => ((by repeat (first | exact Inc.refl | exact Inc.nil | refine Inc.cons (by repeat (first | exact Take.here | apply Take.there)) ?_ | refine Inc.skip ?_)) : Inc _ _).holds h)
end Go.Proofs.Yteebdaoanfnkgaa
