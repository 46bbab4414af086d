/- The document's reading of a symbol. It proves no statement by itself. No conditions. -/
import Derived.Test.YtkiaegkojlhaeaaDoorYf
import Derived.Test.YtkiaegkojlhaeaaDoorBr
namespace Go.Hf
set_option linter.all false
/-- The symbol whose code these n bits are; whether a longer code begins with them. -/
def hit (l : List Nat) (n v i : Nat) : Bool := l.getD i 0 == n && decide (0 < n) && cd l i == v
def far (l : List Nat) (n v i : Nat) : Bool := decide (n < l.getD i 0) && cd l i / 2 ^ (l.getD i 0 - n) == v
def symAt (l : List Nat) (n v : Nat) : Option Nat := (List.range l.length).find? (hit l n v)
def extB (l : List Nat) (n v : Nat) : Bool := (List.range l.length).any (far l n v)
/-- The bits from t on, the first one as the highest. -/
def hv (w t : Nat) : Nat → Nat
  | 0 => 0
  | n + 1 => 2 * hv w t n + w / 2 ^ (t + n) % 2
/-- What is read: the symbol, the error, how many bits. -/
def rdS (l : List Nat) (w t z : Nat) : Nat → Nat → Nat × Nat × Nat
  | 0, n => (0, 3, n)
  | f + 1, n => match symAt l n (hv w t n) with
    | some i => (i, 0, n)
    | none => if extB l n (hv w t n) = false then (0, 3, n) else if z ≤ t + n then (0, 4, n) else rdS l w t z f (n + 1)
theorem beq_nat (a b : Nat) : ((a : Int) == (b : Int)) = (a == b) := by
  rw [Bool.eq_iff_iff]
  simp only [beq_iff_eq]
  omega
theorem hv_lt (w t : Nat) : ∀ n, hv w t n < 2 ^ n
  | 0 => by simp [hv]
  | n + 1 => by
    have := hv_lt w t n
    simp only [hv, Nat.pow_succ]
    omega
theorem find_range {f : Nat → Bool} {i n : Nat} (hi : i < n) (h : f i = true) (hb : ∀ j, j < i → f j = false) : (List.range n).find? f = some i := by
  obtain ⟨m, rfl⟩ := Nat.le.dest hi
  rw [show i + 1 + m = i + (1 + m) from by omega, List.range_add, List.find?_append]
  have h1 : (List.range i).find? f = none := by
    rw [List.find?_eq_none]
    intro j hj
    rw [hb j (List.mem_range.1 hj)]
    simp
  rw [h1, Nat.add_comm 1 m, List.range_succ_eq_map]
  simp [h]
theorem find_none {f : Nat → Bool} {n : Nat} (hb : ∀ j, j < n → f j = false) : (List.range n).find? f = none := by
  rw [List.find?_eq_none]
  intro j hj
  rw [hb j (List.mem_range.1 hj)]
  simp
theorem any_succ {f : Nat → Bool} (n : Nat) : (List.range (n + 1)).any f = ((List.range n).any f || f n) := by
  rw [List.range_succ, List.any_append]
  simp
theorem getD_lt {l : List Nat} {i : Nat} (h : 0 < l.getD i 0) : i < l.length := by
  rcases Nat.lt_or_ge i l.length with h' | h'
  · exact h'
  · simp [List.getD, List.getElem?_eq_none h'] at h
theorem cd_lt {l : List Nat} (hk : kS l ≤ 32768) (hl : ∀ x ∈ l, x ≤ 15) (i : Nat) : cd l i < 32769 := by
  by_cases h0 : l.getD i 0 = 0
  · unfold cd; rw [if_pos h0]; omega
  · have hi := getD_lt (l := l) (i := i) (by omega)
    have hg : l[i]? = some (l.getD i 0) := by simp [List.getD, hi]
    have h1 := (cd_in hg h0).2
    have h2 := fs_fit hk (n := l.getD i 0) (by omega) (hl _ (List.mem_of_getElem? hg))
    have h3 : 2 ^ (l.getD i 0) ≤ 2 ^ 15 := Nat.pow_le_pow_right (by decide) (hl _ (List.mem_of_getElem? hg))
    omega
end Go.Hf
namespace Go.Vx
open Go
set_option linter.all false
variable [W0]
theorem ow_word {e m : Nat} {v : Value} {xs : List Nat} {C : Chunk} (h : Ow e 1 v m (wnv xs) C) {k : Nat} (hk : k < m) :
    ∃ b cap rest, v = .slice (some ⟨b, 0, none⟩) m cap ∧ C = [(b, cl (wnv xs ++ rest) e)] ∧ (wnv xs ++ rest).toArray[k * 1]? = some (.int .u32 (xs.getD k 0 : Int)) := by
  rcases h with ⟨rfl, rfl, _⟩ | ⟨b, cap, rest, rfl, rfl, hxl, hrl, hmc, hcm⟩
  · omega
  · refine ⟨b, cap, rest, rfl, rfl, ?_⟩
    have hlt : k < xs.length := by rw [wnv_length] at hxl; omega
    rw [Nat.mul_one]
    simpa using getE_app (r := rest) (wnv_get (l := xs) (i := k) (n := xs.getD k 0) (by simp [List.getD, hlt]))
end Go.Vx
namespace Go.Proofs.YtkiaegkojlhaeaaDoor
open Go Go.Vx Go.Hf
variable [W0]
set_option maxRecDepth 4000
set_option linter.all false

set_option maxHeartbeats 8000000 in
theorem refread_n (a : Option Addr) (c : Nat) (ls : List Int) (q t : Nat) (d : List UInt8) (D E : Chunk) (L : List Chunk) (h : Sl L 1 (.slice a ls.length c) ls.length (intsN ls)) (hok : cdE ls = 0) (hB : BiD q d t D E) (hl : d.length ≤ 140737488355328) :
    Gv Tryd.prog 51 [.slice a ls.length c, .pointer (some ⟨q, 0, none⟩)].toArray (D :: E :: L) (fun r L' => ∃ D', r = .tuple #[.int .i64 ((rdS (nl ls) (val d) t (8 * d.length) 16 0).1 : Int), .int .i64 ((rdS (nl ls) (val d) t (8 * d.length) 16 0).2.1 : Int)] ∧
      BiD q d (t + (rdS (nl ls) (val d) t (8 * d.length) 16 0).2.2) D' E ∧ L' = D' :: E :: L) := by
  obtain ⟨h400, hoL, hk⟩ := cdE_inv hok
  refine Gv.of_body Tryd.func51 rfl rfl ?_
  (repeat' (first | (show WL _ _ _ _ _ _ _; first | refine jA ?_ | refine jB ?_ | refine jC ?_ | refine jD ?_ | refine jE ?_ | refine jF ?_) | (show OW _ _ _ _ _ _; first | refine OW_E ?_ | refine jI ?_ | refine jJ ?_ | refine jK (fun bk => ?_) | refine jL (fun bk => ?_)) | (show WC _ _ _ _ _ _; first | refine jM ?_ | refine jN ?_ | refine jO ?_ | refine jP ?_ | refine jR ?_ | refine jS ?_ | refine jT ?_ | refine jU ?_) | (show WQ _ _ _ _; with_reducible first | refine jV ?_ | refine jW ?_ | refine jX ?_ | refine jY ?_ | refine jZ ?_ | refine kA ?_ | refine kB ?_ | refine kC ?_) | ((first | (refine jG (fun hc => ?_) (fun hc => ?_) <;> rw [hc]) | refine jQ (fun hc => ?_) (fun hc => ?_)) <;> (try simp only [nrB] at hc) <;> (try (exfalso; first | omega | exact hc trivial | exact hc rfl)))))
  refine OW_call rfl rfl rfl (refcodes_n a c ls (D :: E :: L) (sl_there (sl_there h)) (by omega)) rfl (fun r L' hp => ?_)
  obtain ⟨u, C, rfl, rfl, ho⟩ := hp
  rw [(cdE_zero h400 hoL hk).2, hok] at *
  obtain ⟨l, hll⟩ : ∃ l, l = nl ls := ⟨_, rfl⟩
  rw [← hll] at ho hk ⊢
  have hlen : l.length = ls.length := by rw [hll, nl_length]
  have h15 : ∀ x ∈ l, x ≤ 15 := fun x hx => okL_nl hoL (by rw [← hll]; exact hx)
  have hcl : (cds l).length = ls.length := by simp [cds, hlen]
  rw [hcl] at ho
  have hcg : ∀ i, i < ls.length → (cds l).getD i 0 = cd l i := fun i hi => by
    have : i < l.length := by omega
    simp [cds, List.getD, List.getElem?_range this]
  obtain ⟨ua, uc, rfl⟩ := ow_slc ho
  (repeat' (first | (show WL _ _ _ _ _ _ _; first | refine jA ?_ | refine jB ?_ | refine jC ?_ | refine jD ?_ | refine jE ?_ | refine jF ?_) | (show OW _ _ _ _ _ _; first | refine OW_E ?_ | refine jI ?_ | refine jJ ?_ | refine jK (fun bk => ?_) | refine jL (fun bk => ?_)) | (show WC _ _ _ _ _ _; first | refine jM ?_ | refine jN ?_ | refine jO ?_ | refine jP ?_ | refine jR ?_ | refine jS ?_ | refine jT ?_ | refine jU ?_) | (show WQ _ _ _ _; with_reducible first | refine jV ?_ | refine jW ?_ | refine jX ?_ | refine jY ?_ | refine jZ ?_ | refine kA ?_ | refine kB ?_ | refine kC ?_) | ((first | (refine jG (fun hc => ?_) (fun hc => ?_) <;> rw [hc]) | refine jQ (fun hc => ?_) (fun hc => ?_)) <;> (try simp only [nrB] at hc) <;> (try (exfalso; first | omega | exact hc trivial | exact hc rfl)))))
  have hgd : ∀ i, l.getD i 0 ≤ 15 := fun i => by
    rcases Nat.eq_zero_or_pos (l.getD i 0) with h0 | h0
    · omega
    · have hi := getD_lt h0
      exact h15 _ (by rw [show l.getD i 0 = l[i] from by simp [List.getD, hi]]; exact List.getElem_mem hi)
  have hfin : ∀ (s e k : Nat) (D1 : Chunk) (M : List (Nat × Value)) (L1 : List Chunk), BiD q d (t + k) D1 E → rdS l (val d) t (8 * d.length) 16 0 = (s, e, k) → lk M 4 = some (.int .i64 (s : Int)) → lk M 5 = some (.int .i64 (e : Int)) → (∀ w, Holds w L1 → Holds w (D1 :: E :: L)) →
      WQ Tryd.f51.ntmps (bodyPost Tryd.prog Tryd.f51 (fun e w' => ∃ v L', e = .returned v ∧ (∃ D', v = .tuple #[.int .i64 ((rdS l (val d) t (8 * d.length) 16 0).1 : Int), .int .i64 ((rdS l (val d) t (8 * d.length) 16 0).2.1 : Int)] ∧
        BiD q d (t + (rdS l (val d) t (8 * d.length) 16 0).2.2) D' E ∧ L' = D' :: E :: L) ∧ Holds w' L') .ret) M L1 := by
    intro s e k D1 M L1 hB hr h4 h5 hL
    refine WQ_retH (rs := [.tmp 4, .tmp 5]) (vs := [.int .i64 (s : Int), .int .i64 (e : Int)]) rfl (by simp [resT, h4, h5]) ?_
    rw [hr]
    exact ⟨D1 :: E :: L, hL, D1, rfl, hB, rfl⟩
  refine WC_loop (X := Nat × Chunk) (fun x => [(0, .slice a ls.length c), (1, .pointer (some ⟨q, 0, none⟩)), (6, .slice ua ls.length uc), (9, .int .u32 ((hv (val d) t x.1 : Nat) : Int)), (10, .int .i64 (x.1 : Int))])
    (fun x => C :: x.2 :: E :: L) (fun x => x.1 ≤ 16 ∧ BiD q d (t + x.1) x.2 E ∧ rdS l (val d) t (8 * d.length) 16 0 = rdS l (val d) t (8 * d.length) (16 - x.1) x.1) (fun x => 16 - x.1) (0, D) ⟨by simp, hB, rfl⟩ (by repeat (first | exact Sub.nil | refine Sub.cons rfl ?_ | refine Sub.cons (lk_int rfl (by first | omega | (dsimp only; omega))) ?_)) (fun w h => h) ?_
  rintro ⟨n, D1⟩ ⟨hn, hB1, hrd⟩
  simp only at hn hB1 hrd ⊢
  have hvl := hv_lt (val d) t n
  have hv16 : 2 ^ n ≤ 2 ^ 16 := Nat.pow_le_pow_right (by decide) hn
  (repeat' (first | (show WL _ _ _ _ _ _ _; first | refine jA ?_ | refine jB ?_ | refine jC ?_ | refine jD ?_ | refine jE ?_ | refine jF ?_) | (show OW _ _ _ _ _ _; first | refine OW_E ?_ | refine jI ?_ | refine jJ ?_ | refine jK (fun bk => ?_) | refine jL (fun bk => ?_)) | (show WC _ _ _ _ _ _; first | refine jM ?_ | refine jN ?_ | refine jO ?_ | refine jP ?_ | refine jR ?_ | refine jS ?_ | refine jT ?_ | refine jU ?_) | (show WQ _ _ _ _; with_reducible first | refine jV ?_ | refine jW ?_ | refine jX ?_ | refine jY ?_ | refine jZ ?_ | refine kA ?_ | refine kB ?_ | refine kC ?_) | ((first | (refine jG (fun hc => ?_) (fun hc => ?_) <;> rw [hc]) | refine jQ (fun hc => ?_) (fun hc => ?_)) <;> (try simp only [nrB] at hc) <;> (try (exfalso; first | omega | exact hc trivial | exact hc rfl)))))
  · have hn15 : n ≤ 15 := by omega
    have hv15 : 2 ^ n ≤ 2 ^ 15 := Nat.pow_le_pow_right (by decide) hn15
    obtain ⟨v, hv0⟩ : ∃ v, v = hv (val d) t n := ⟨_, rfl⟩
    have hrs : rdS l (val d) t (8 * d.length) (16 - n) n = (match symAt l n v with
        | some i => (i, 0, n)
        | none => if extB l n v = false then (0, 3, n) else if 8 * d.length ≤ t + n then (0, 4, n) else rdS l (val d) t (8 * d.length) (16 - (n + 1)) (n + 1)) := by
      rw [show 16 - n = (16 - (n + 1)) + 1 from by omega, rdS, hv0]
    rw [hrs] at hrd
    rw [← hv0] at hvl ⊢
    refine WC_loop (X := Nat × Bool) (fun x => [(0, .slice a ls.length c), (1, .pointer (some ⟨q, 0, none⟩)), (6, .slice ua ls.length uc), (8, .bool x.2), (9, .int .u32 ((v : Nat) : Int)), (10, .int .i64 (n : Int)), (11, .int .i64 (x.1 : Int))])
      (fun _ => C :: D1 :: E :: L) (fun x => x.1 ≤ ls.length ∧ (∀ j, j < x.1 → hit l n v j = false) ∧ x.2 = (List.range x.1).any (far l n v)) (fun x => ls.length - x.1) (0, false) ⟨Nat.zero_le _, fun j hj => by simp at hj, rfl⟩ (by repeat (first | exact Sub.nil | refine Sub.cons rfl ?_ | refine Sub.cons (lk_int rfl (by first | omega | (dsimp only; omega))) ?_)) (fun w h => h) ?_
    rintro ⟨i, sm⟩ ⟨hi, hnone, hsm⟩
    simp only at hi hnone hsm ⊢
    (repeat' (first | (show WL _ _ _ _ _ _ _; first | refine jA ?_ | refine jB ?_ | refine jC ?_ | refine jD ?_ | refine jE ?_ | refine jF ?_) | (show OW _ _ _ _ _ _; first | refine OW_E ?_ | refine jI ?_ | refine jJ ?_ | refine jK (fun bk => ?_) | refine jL (fun bk => ?_)) | (show WC _ _ _ _ _ _; first | refine jM ?_ | refine jN ?_ | refine jO ?_ | refine jP ?_ | refine jR ?_ | refine jS ?_ | refine jT ?_ | refine jU ?_) | (show WQ _ _ _ _; with_reducible first | refine jV ?_ | refine jW ?_ | refine jX ?_ | refine jY ?_ | refine jZ ?_ | refine kA ?_ | refine kB ?_ | refine kC ?_) | ((first | (refine jG (fun hc => ?_) (fun hc => ?_) <;> rw [hc]) | refine jQ (fun hc => ?_) (fun hc => ?_)) <;> (try simp only [nrB] at hc) <;> (try (exfalso; first | omega | exact hc trivial | exact hc rfl)))))
    · have hlt : i < ls.length := by omega
      obtain ⟨b, off, cap, cc, T, fr, hve, hfn, hcell⟩ := sl_at h (ints_get hlt)
      injection hve with q1 q2 q3
      subst q1 q3
      clear q2
      have hat := (okL_at hoL i).2.2
      rw [← hll] at hat
      rw [← hat] at hcell
      obtain ⟨b2, cap2, rest2, hve, rfl, hword⟩ := ow_word ho (k := i) hlt
      injection hve with q1 q2 q3
      subst q1 q3
      clear q2
      rw [hcg i hlt] at hword
      have hcdl := cd_lt hk h15 i
      obtain ⟨x, hx⟩ : ∃ x, x = l.getD i 0 := ⟨_, rfl⟩
      obtain ⟨y, hy⟩ : ∃ y, y = cd l i := ⟨_, rfl⟩
      have hx15 := hgd i
      rw [← hx] at hcell hx15
      rw [← hy] at hword hcdl
      have hhit : hit l n v i = (x == n && decide (0 < n) && y == v) := by unfold hit; rw [← hx, ← hy]
      have hfar : far l n v i = (decide (n < x) && y / 2 ^ (x - n) == v) := by unfold far; rw [← hx, ← hy]
      have hsm1 : (List.range (i + 1)).any (far l n v) = (sm || far l n v i) := by rw [any_succ, ← hsm]
      have hnext : hit l n v i = false → ∀ j, j < i + 1 → hit l n v j = false := fun hh j hj => by
        rcases Nat.lt_or_ge j i with h' | h'
        · exact hnone j h'
        · rw [show j = i from by omega]; exact hh
      refine OW_EV (EV_indexAddr (j := i) rfl rfl rfl hlt) rfl ?_
      (repeat' (first | (show WL _ _ _ _ _ _ _; first | refine jA ?_ | refine jB ?_ | refine jC ?_ | refine jD ?_ | refine jE ?_ | refine jF ?_) | (show OW _ _ _ _ _ _; first | refine OW_E ?_ | refine jI ?_ | refine jJ ?_ | refine jK (fun bk => ?_) | refine jL (fun bk => ?_)) | (show WC _ _ _ _ _ _; first | refine jM ?_ | refine jN ?_ | refine jO ?_ | refine jP ?_ | refine jR ?_ | refine jS ?_ | refine jT ?_ | refine jU ?_) | (show WQ _ _ _ _; with_reducible first | refine jV ?_ | refine jW ?_ | refine jX ?_ | refine jY ?_ | refine jZ ?_ | refine kA ?_ | refine kB ?_ | refine kC ?_) | ((first | (refine jG (fun hc => ?_) (fun hc => ?_) <;> rw [hc]) | refine jQ (fun hc => ?_) (fun hc => ?_)) <;> (try simp only [nrB] at hc) <;> (try (exfalso; first | omega | exact hc trivial | exact hc rfl)))))
      refine OW_EV (EV_load rfl hfn.there.there.there hcell) rfl ?_
      (repeat' (first | (show WL _ _ _ _ _ _ _; first | refine jA ?_ | refine jB ?_ | refine jC ?_ | refine jD ?_ | refine jE ?_ | refine jF ?_) | (show OW _ _ _ _ _ _; first | refine OW_E ?_ | refine jI ?_ | refine jJ ?_ | refine jK (fun bk => ?_) | refine jL (fun bk => ?_)) | (show WC _ _ _ _ _ _; first | refine jM ?_ | refine jN ?_ | refine jO ?_ | refine jP ?_ | refine jR ?_ | refine jS ?_ | refine jT ?_ | refine jU ?_) | (show WQ _ _ _ _; with_reducible first | refine jV ?_ | refine jW ?_ | refine jX ?_ | refine jY ?_ | refine jZ ?_ | refine kA ?_ | refine kB ?_ | refine kC ?_) | ((first | (refine jG (fun hc => ?_) (fun hc => ?_) <;> rw [hc]) | refine jQ (fun hc => ?_) (fun hc => ?_)) <;> (try simp only [nrB] at hc) <;> (try (exfalso; first | omega | exact hc trivial | exact hc rfl)))))
      · refine OW_EV (EV_indexAddr0 (j := i) (len := ls.length) rfl rfl rfl hlt) rfl ?_
        (repeat' (first | (show WL _ _ _ _ _ _ _; first | refine jA ?_ | refine jB ?_ | refine jC ?_ | refine jD ?_ | refine jE ?_ | refine jF ?_) | (show OW _ _ _ _ _ _; first | refine OW_E ?_ | refine jI ?_ | refine jJ ?_ | refine jK (fun bk => ?_) | refine jL (fun bk => ?_)) | (show WC _ _ _ _ _ _; first | refine jM ?_ | refine jN ?_ | refine jO ?_ | refine jP ?_ | refine jR ?_ | refine jS ?_ | refine jT ?_ | refine jU ?_) | (show WQ _ _ _ _; with_reducible first | refine jV ?_ | refine jW ?_ | refine jX ?_ | refine jY ?_ | refine jZ ?_ | refine kA ?_ | refine kB ?_ | refine kC ?_) | ((first | (refine jG (fun hc => ?_) (fun hc => ?_) <;> rw [hc]) | refine jQ (fun hc => ?_) (fun hc => ?_)) <;> (try simp only [nrB] at hc) <;> (try (exfalso; first | omega | exact hc trivial | exact hc rfl)))))
        refine OW_EV (EV_load rfl Fnd.here hword) rfl ?_
        (repeat' (first | (show WL _ _ _ _ _ _ _; first | refine jA ?_ | refine jB ?_ | refine jC ?_ | refine jD ?_ | refine jE ?_ | refine jF ?_) | (show OW _ _ _ _ _ _; first | refine OW_E ?_ | refine jI ?_ | refine jJ ?_ | refine jK (fun bk => ?_) | refine jL (fun bk => ?_)) | (show WC _ _ _ _ _ _; first | refine jM ?_ | refine jN ?_ | refine jO ?_ | refine jP ?_ | refine jR ?_ | refine jS ?_ | refine jT ?_ | refine jU ?_) | (show WQ _ _ _ _; with_reducible first | refine jV ?_ | refine jW ?_ | refine jX ?_ | refine jY ?_ | refine jZ ?_ | refine kA ?_ | refine kB ?_ | refine kC ?_) | ((first | (refine jG (fun hc => ?_) (fun hc => ?_) <;> rw [hc]) | refine jQ (fun hc => ?_) (fun hc => ?_)) <;> (try simp only [nrB] at hc) <;> (try (exfalso; first | omega | exact hc trivial | exact hc rfl)))))
        · have hh : hit l n v i = true := by rw [hhit]; simp; omega
          have hsy : symAt l n v = some i := find_range (by omega) hh hnone
          rw [hsy] at hrd
          exact hfin i 0 n D1 _ _ hB1 hrd rfl rfl (fun w h => iH h)
        · have hh : hit l n v i = false := by rw [hhit]; simp; omega
          cases hsb : sm with
          | true =>
            refine WC_drawAll [] mixed ?_
            (refine WR_t 0 ?_; refine WR_t 1 ?_)
            (refine WR_v 2 ?_; refine WR_v 3 ?_; refine WR_v 4 ?_; refine WR_v 5 ?_; refine WR_v 6 ?_; refine WR_v 7 ?_; refine WR_v 8 ?_)
            (refine WR_x 9 ?_; refine WR_x 10 ?_; refine WR_x 11 ?_; refine WR_x 12 ?_; refine WR_x 13 ?_; refine WR_x 14 ?_; refine WR_x 15 ?_; refine WR_x 16 ?_; refine WR_x 17 ?_; refine WR_x 18 ?_; refine WR_x 19 ?_; refine WR_x 20 ?_; refine WR_x 21 ?_)
            (refine WR_v 22 ?_)
            (refine WR_t 23 ?_; refine WR_t 24 ?_)
            (refine WR_done (by kernel_rfl) ?_)
            (repeat' (first | (show WL _ _ _ _ _ _ _; first | refine jA ?_ | refine jB ?_ | refine jC ?_ | refine jD ?_ | refine jE ?_ | refine jF ?_) | (show OW _ _ _ _ _ _; first | refine OW_E ?_ | refine jI ?_ | refine jJ ?_ | refine jK (fun bk => ?_) | refine jL (fun bk => ?_)) | (show WC _ _ _ _ _ _; first | refine jM ?_ | refine jN ?_ | refine jO ?_ | refine jP ?_ | refine jR ?_ | refine jS ?_ | refine jT ?_ | refine jU ?_) | (show WQ _ _ _ _; with_reducible first | refine jV ?_ | refine jW ?_ | refine jX ?_ | refine jY ?_ | refine jZ ?_ | refine kA ?_ | refine kB ?_ | refine kC ?_) | ((first | (refine jG (fun hc => ?_) (fun hc => ?_) <;> rw [hc]) | refine jQ (fun hc => ?_) (fun hc => ?_)) <;> (try simp only [nrB] at hc) <;> (try (exfalso; first | omega | exact hc trivial | exact hc rfl)))))
            refine WQ_round (X := Nat × Bool) (μ := fun x => ls.length - x.1) (x := (i, true)) (i + 1, true) (by simp only; omega) ⟨by simp only; omega, hnext hh, by simp only; rw [hsm1, hsb]; rfl⟩ (by repeat (first | exact Sub.nil | refine Sub.cons rfl ?_ | refine Sub.cons (lk_int rfl (by first | omega | (dsimp only; omega))) ?_)) (fun w h => iH h)
          | false =>
            by_cases hxn : n < x
            · refine WC_drawAll [] mixed ?_
              (refine WR_t 0 ?_; refine WR_t 1 ?_)
              (refine WR_u 2 ?_; refine WR_u 3 ?_)
              (refine WR_takeOn 4 rfl rfl rfl (by kernel_rfl) (by repeat (first | with_reducible exact PO.body | with_reducible exact RP_po | with_reducible refine PO.then ?_ | with_reducible refine PO.block ?_)) iC (EV_indexAddr (j := i) rfl rfl rfl hlt) (by rfl) ?_)
              (refine WR_takeOn 5 rfl rfl rfl (by kernel_rfl) (by repeat (first | with_reducible exact PO.body | with_reducible exact RP_po | with_reducible refine PO.then ?_ | with_reducible refine PO.block ?_)) iC (EV_load rfl hfn.there.there.there hcell) (by rfl) ?_)
              (refine WR_u 6 ?_; refine WR_u 7 ?_)
              rw [show decide ((x : Int) > (n : Int)) = true from by simp; omega]
              (refine WR_u 8 ?_; refine WR_u 9 ?_; refine WR_u 10 ?_)
              (refine WR_takeOn 11 rfl rfl rfl (by kernel_rfl) (by repeat (first | with_reducible exact PO.body | with_reducible exact RP_po | with_reducible refine PO.then ?_ | with_reducible refine PO.block ?_)) iC (EV_indexAddr0 (j := i) (len := ls.length) rfl rfl rfl hlt) (by rfl) ?_)
              (refine WR_takeOn 12 rfl rfl rfl (by kernel_rfl) (by repeat (first | with_reducible exact PO.body | with_reducible exact RP_po | with_reducible refine PO.then ?_ | with_reducible refine PO.block ?_)) iC (EV_load rfl Fnd.here hword) (by rfl) ?_)
              (refine WR_u 13 ?_; refine WR_u 14 ?_)
              (refine WR_takeOn 15 rfl rfl rfl (by kernel_rfl) (by repeat (first | with_reducible exact PO.body | with_reducible exact RP_po | with_reducible refine PO.then ?_ | with_reducible refine PO.block ?_)) iC (EV_indexAddr (j := i) rfl rfl rfl hlt) (by rfl) ?_)
              (refine WR_takeOn 16 rfl rfl rfl (by kernel_rfl) (by repeat (first | with_reducible exact PO.body | with_reducible exact RP_po | with_reducible refine PO.then ?_ | with_reducible refine PO.block ?_)) iC (EV_load rfl hfn.there.there.there hcell) (by rfl) ?_)
              (refine WR_u 17 ?_; refine WR_u 18 ?_)
              rw [show (x : Int) - (n : Int) = ((x - n : Nat) : Int) from by omega]
              (refine WR_takeOn 19 rfl rfl rfl (by kernel_rfl) (by repeat (first | with_reducible exact PO.body | with_reducible exact RP_po | with_reducible refine PO.then ?_ | with_reducible refine PO.block ?_)) iC (EV_nshr y (x - n) rfl rfl rfl rfl (by simp only [IntKind.bits]; omega)) (by rfl) ?_)
              (refine WR_u 20 ?_; refine WR_u 21 ?_; refine WR_u 22 ?_)
              (refine WR_t 23 ?_; refine WR_t 24 ?_)
              (refine WR_done (by kernel_rfl) ?_)
              (repeat' (first | (show WL _ _ _ _ _ _ _; first | refine jA ?_ | refine jB ?_ | refine jC ?_ | refine jD ?_ | refine jE ?_ | refine jF ?_) | (show OW _ _ _ _ _ _; first | refine OW_E ?_ | refine jI ?_ | refine jJ ?_ | refine jK (fun bk => ?_) | refine jL (fun bk => ?_)) | (show WC _ _ _ _ _ _; first | refine jM ?_ | refine jN ?_ | refine jO ?_ | refine jP ?_ | refine jR ?_ | refine jS ?_ | refine jT ?_ | refine jU ?_) | (show WQ _ _ _ _; with_reducible first | refine jV ?_ | refine jW ?_ | refine jX ?_ | refine jY ?_ | refine jZ ?_ | refine kA ?_ | refine kB ?_ | refine kC ?_) | ((first | (refine jG (fun hc => ?_) (fun hc => ?_) <;> rw [hc]) | refine jQ (fun hc => ?_) (fun hc => ?_)) <;> (try simp only [nrB] at hc) <;> (try (exfalso; first | omega | exact hc trivial | exact hc rfl)))))
              refine WQ_round (X := Nat × Bool) (μ := fun x => ls.length - x.1) (x := (i, false)) (i + 1, ((y / 2 ^ (x - n) : Nat) : Int) == (v : Int)) (by simp only; omega) ⟨by simp only; omega, hnext hh, by simp only; rw [hsm1, hsb, hfar, decide_eq_true hxn, Bool.false_or, Bool.true_and, beq_nat]⟩ (by repeat (first | exact Sub.nil | refine Sub.cons rfl ?_ | refine Sub.cons (lk_int rfl (by first | omega | (dsimp only; omega))) ?_)) (fun w h => iH h)
            · refine WC_drawAll [] mixed ?_
              (refine WR_t 0 ?_; refine WR_t 1 ?_)
              (refine WR_u 2 ?_; refine WR_u 3 ?_)
              (refine WR_takeOn 4 rfl rfl rfl (by kernel_rfl) (by repeat (first | with_reducible exact PO.body | with_reducible exact RP_po | with_reducible refine PO.then ?_ | with_reducible refine PO.block ?_)) iC (EV_indexAddr (j := i) rfl rfl rfl hlt) (by rfl) ?_)
              (refine WR_takeOn 5 rfl rfl rfl (by kernel_rfl) (by repeat (first | with_reducible exact PO.body | with_reducible exact RP_po | with_reducible refine PO.then ?_ | with_reducible refine PO.block ?_)) iC (EV_load rfl hfn.there.there.there hcell) (by rfl) ?_)
              (refine WR_u 6 ?_; refine WR_u 7 ?_)
              rw [show decide ((x : Int) > (n : Int)) = false from by simp; omega]
              (refine WR_u 8 ?_)
              (refine WR_v 9 ?_; refine WR_v 10 ?_; refine WR_v 11 ?_; refine WR_v 12 ?_; refine WR_v 13 ?_; refine WR_v 14 ?_; refine WR_v 15 ?_; refine WR_v 16 ?_; refine WR_v 17 ?_; refine WR_v 18 ?_; refine WR_v 19 ?_; refine WR_v 20 ?_; refine WR_v 21 ?_)
              (refine WR_u 22 ?_)
              (refine WR_t 23 ?_; refine WR_t 24 ?_)
              (refine WR_done (by kernel_rfl) ?_)
              (repeat' (first | (show WL _ _ _ _ _ _ _; first | refine jA ?_ | refine jB ?_ | refine jC ?_ | refine jD ?_ | refine jE ?_ | refine jF ?_) | (show OW _ _ _ _ _ _; first | refine OW_E ?_ | refine jI ?_ | refine jJ ?_ | refine jK (fun bk => ?_) | refine jL (fun bk => ?_)) | (show WC _ _ _ _ _ _; first | refine jM ?_ | refine jN ?_ | refine jO ?_ | refine jP ?_ | refine jR ?_ | refine jS ?_ | refine jT ?_ | refine jU ?_) | (show WQ _ _ _ _; with_reducible first | refine jV ?_ | refine jW ?_ | refine jX ?_ | refine jY ?_ | refine jZ ?_ | refine kA ?_ | refine kB ?_ | refine kC ?_) | ((first | (refine jG (fun hc => ?_) (fun hc => ?_) <;> rw [hc]) | refine jQ (fun hc => ?_) (fun hc => ?_)) <;> (try simp only [nrB] at hc) <;> (try (exfalso; first | omega | exact hc trivial | exact hc rfl)))))
              refine WQ_round (X := Nat × Bool) (μ := fun x => ls.length - x.1) (x := (i, false)) (i + 1, false) (by simp only; omega) ⟨by simp only; omega, hnext hh, by simp only; rw [hsm1, hsb, hfar, decide_eq_false hxn]; rfl⟩ (by repeat (first | exact Sub.nil | refine Sub.cons rfl ?_ | refine Sub.cons (lk_int rfl (by first | omega | (dsimp only; omega))) ?_)) (fun w h => iH h)
      · have hh : hit l n v i = false := by rw [hhit]; simp; omega
        cases hsb : sm with
        | true =>
          refine WC_drawAll [] mixed ?_
          (refine WR_t 0 ?_; refine WR_t 1 ?_)
          (refine WR_v 2 ?_; refine WR_v 3 ?_; refine WR_v 4 ?_; refine WR_v 5 ?_; refine WR_v 6 ?_; refine WR_v 7 ?_; refine WR_v 8 ?_)
          (refine WR_x 9 ?_; refine WR_x 10 ?_; refine WR_x 11 ?_; refine WR_x 12 ?_; refine WR_x 13 ?_; refine WR_x 14 ?_; refine WR_x 15 ?_; refine WR_x 16 ?_; refine WR_x 17 ?_; refine WR_x 18 ?_; refine WR_x 19 ?_; refine WR_x 20 ?_; refine WR_x 21 ?_)
          (refine WR_v 22 ?_)
          (refine WR_t 23 ?_; refine WR_t 24 ?_)
          (refine WR_done (by kernel_rfl) ?_)
          (repeat' (first | (show WL _ _ _ _ _ _ _; first | refine jA ?_ | refine jB ?_ | refine jC ?_ | refine jD ?_ | refine jE ?_ | refine jF ?_) | (show OW _ _ _ _ _ _; first | refine OW_E ?_ | refine jI ?_ | refine jJ ?_ | refine jK (fun bk => ?_) | refine jL (fun bk => ?_)) | (show WC _ _ _ _ _ _; first | refine jM ?_ | refine jN ?_ | refine jO ?_ | refine jP ?_ | refine jR ?_ | refine jS ?_ | refine jT ?_ | refine jU ?_) | (show WQ _ _ _ _; with_reducible first | refine jV ?_ | refine jW ?_ | refine jX ?_ | refine jY ?_ | refine jZ ?_ | refine kA ?_ | refine kB ?_ | refine kC ?_) | ((first | (refine jG (fun hc => ?_) (fun hc => ?_) <;> rw [hc]) | refine jQ (fun hc => ?_) (fun hc => ?_)) <;> (try simp only [nrB] at hc) <;> (try (exfalso; first | omega | exact hc trivial | exact hc rfl)))))
          refine WQ_round (X := Nat × Bool) (μ := fun x => ls.length - x.1) (x := (i, true)) (i + 1, true) (by simp only; omega) ⟨by simp only; omega, hnext hh, by simp only; rw [hsm1, hsb]; rfl⟩ (by repeat (first | exact Sub.nil | refine Sub.cons rfl ?_ | refine Sub.cons (lk_int rfl (by first | omega | (dsimp only; omega))) ?_)) (fun w h => iH h)
        | false =>
          by_cases hxn : n < x
          · refine WC_drawAll [] mixed ?_
            (refine WR_t 0 ?_; refine WR_t 1 ?_)
            (refine WR_u 2 ?_; refine WR_u 3 ?_)
            (refine WR_takeOn 4 rfl rfl rfl (by kernel_rfl) (by repeat (first | with_reducible exact PO.body | with_reducible exact RP_po | with_reducible refine PO.then ?_ | with_reducible refine PO.block ?_)) iC (EV_indexAddr (j := i) rfl rfl rfl hlt) (by rfl) ?_)
            (refine WR_takeOn 5 rfl rfl rfl (by kernel_rfl) (by repeat (first | with_reducible exact PO.body | with_reducible exact RP_po | with_reducible refine PO.then ?_ | with_reducible refine PO.block ?_)) iC (EV_load rfl hfn.there.there.there hcell) (by rfl) ?_)
            (refine WR_u 6 ?_; refine WR_u 7 ?_)
            rw [show decide ((x : Int) > (n : Int)) = true from by simp; omega]
            (refine WR_u 8 ?_; refine WR_u 9 ?_; refine WR_u 10 ?_)
            (refine WR_takeOn 11 rfl rfl rfl (by kernel_rfl) (by repeat (first | with_reducible exact PO.body | with_reducible exact RP_po | with_reducible refine PO.then ?_ | with_reducible refine PO.block ?_)) iC (EV_indexAddr0 (j := i) (len := ls.length) rfl rfl rfl hlt) (by rfl) ?_)
            (refine WR_takeOn 12 rfl rfl rfl (by kernel_rfl) (by repeat (first | with_reducible exact PO.body | with_reducible exact RP_po | with_reducible refine PO.then ?_ | with_reducible refine PO.block ?_)) iC (EV_load rfl Fnd.here hword) (by rfl) ?_)
            (refine WR_u 13 ?_; refine WR_u 14 ?_)
            (refine WR_takeOn 15 rfl rfl rfl (by kernel_rfl) (by repeat (first | with_reducible exact PO.body | with_reducible exact RP_po | with_reducible refine PO.then ?_ | with_reducible refine PO.block ?_)) iC (EV_indexAddr (j := i) rfl rfl rfl hlt) (by rfl) ?_)
            (refine WR_takeOn 16 rfl rfl rfl (by kernel_rfl) (by repeat (first | with_reducible exact PO.body | with_reducible exact RP_po | with_reducible refine PO.then ?_ | with_reducible refine PO.block ?_)) iC (EV_load rfl hfn.there.there.there hcell) (by rfl) ?_)
            (refine WR_u 17 ?_; refine WR_u 18 ?_)
            rw [show (x : Int) - (n : Int) = ((x - n : Nat) : Int) from by omega]
            (refine WR_takeOn 19 rfl rfl rfl (by kernel_rfl) (by repeat (first | with_reducible exact PO.body | with_reducible exact RP_po | with_reducible refine PO.then ?_ | with_reducible refine PO.block ?_)) iC (EV_nshr y (x - n) rfl rfl rfl rfl (by simp only [IntKind.bits]; omega)) (by rfl) ?_)
            (refine WR_u 20 ?_; refine WR_u 21 ?_; refine WR_u 22 ?_)
            (refine WR_t 23 ?_; refine WR_t 24 ?_)
            (refine WR_done (by kernel_rfl) ?_)
            (repeat' (first | (show WL _ _ _ _ _ _ _; first | refine jA ?_ | refine jB ?_ | refine jC ?_ | refine jD ?_ | refine jE ?_ | refine jF ?_) | (show OW _ _ _ _ _ _; first | refine OW_E ?_ | refine jI ?_ | refine jJ ?_ | refine jK (fun bk => ?_) | refine jL (fun bk => ?_)) | (show WC _ _ _ _ _ _; first | refine jM ?_ | refine jN ?_ | refine jO ?_ | refine jP ?_ | refine jR ?_ | refine jS ?_ | refine jT ?_ | refine jU ?_) | (show WQ _ _ _ _; with_reducible first | refine jV ?_ | refine jW ?_ | refine jX ?_ | refine jY ?_ | refine jZ ?_ | refine kA ?_ | refine kB ?_ | refine kC ?_) | ((first | (refine jG (fun hc => ?_) (fun hc => ?_) <;> rw [hc]) | refine jQ (fun hc => ?_) (fun hc => ?_)) <;> (try simp only [nrB] at hc) <;> (try (exfalso; first | omega | exact hc trivial | exact hc rfl)))))
            refine WQ_round (X := Nat × Bool) (μ := fun x => ls.length - x.1) (x := (i, false)) (i + 1, ((y / 2 ^ (x - n) : Nat) : Int) == (v : Int)) (by simp only; omega) ⟨by simp only; omega, hnext hh, by simp only; rw [hsm1, hsb, hfar, decide_eq_true hxn, Bool.false_or, Bool.true_and, beq_nat]⟩ (by repeat (first | exact Sub.nil | refine Sub.cons rfl ?_ | refine Sub.cons (lk_int rfl (by first | omega | (dsimp only; omega))) ?_)) (fun w h => iH h)
          · refine WC_drawAll [] mixed ?_
            (refine WR_t 0 ?_; refine WR_t 1 ?_)
            (refine WR_u 2 ?_; refine WR_u 3 ?_)
            (refine WR_takeOn 4 rfl rfl rfl (by kernel_rfl) (by repeat (first | with_reducible exact PO.body | with_reducible exact RP_po | with_reducible refine PO.then ?_ | with_reducible refine PO.block ?_)) iC (EV_indexAddr (j := i) rfl rfl rfl hlt) (by rfl) ?_)
            (refine WR_takeOn 5 rfl rfl rfl (by kernel_rfl) (by repeat (first | with_reducible exact PO.body | with_reducible exact RP_po | with_reducible refine PO.then ?_ | with_reducible refine PO.block ?_)) iC (EV_load rfl hfn.there.there.there hcell) (by rfl) ?_)
            (refine WR_u 6 ?_; refine WR_u 7 ?_)
            rw [show decide ((x : Int) > (n : Int)) = false from by simp; omega]
            (refine WR_u 8 ?_)
            (refine WR_v 9 ?_; refine WR_v 10 ?_; refine WR_v 11 ?_; refine WR_v 12 ?_; refine WR_v 13 ?_; refine WR_v 14 ?_; refine WR_v 15 ?_; refine WR_v 16 ?_; refine WR_v 17 ?_; refine WR_v 18 ?_; refine WR_v 19 ?_; refine WR_v 20 ?_; refine WR_v 21 ?_)
            (refine WR_u 22 ?_)
            (refine WR_t 23 ?_; refine WR_t 24 ?_)
            (refine WR_done (by kernel_rfl) ?_)
            (repeat' (first | (show WL _ _ _ _ _ _ _; first | refine jA ?_ | refine jB ?_ | refine jC ?_ | refine jD ?_ | refine jE ?_ | refine jF ?_) | (show OW _ _ _ _ _ _; first | refine OW_E ?_ | refine jI ?_ | refine jJ ?_ | refine jK (fun bk => ?_) | refine jL (fun bk => ?_)) | (show WC _ _ _ _ _ _; first | refine jM ?_ | refine jN ?_ | refine jO ?_ | refine jP ?_ | refine jR ?_ | refine jS ?_ | refine jT ?_ | refine jU ?_) | (show WQ _ _ _ _; with_reducible first | refine jV ?_ | refine jW ?_ | refine jX ?_ | refine jY ?_ | refine jZ ?_ | refine kA ?_ | refine kB ?_ | refine kC ?_) | ((first | (refine jG (fun hc => ?_) (fun hc => ?_) <;> rw [hc]) | refine jQ (fun hc => ?_) (fun hc => ?_)) <;> (try simp only [nrB] at hc) <;> (try (exfalso; first | omega | exact hc trivial | exact hc rfl)))))
            refine WQ_round (X := Nat × Bool) (μ := fun x => ls.length - x.1) (x := (i, false)) (i + 1, false) (by simp only; omega) ⟨by simp only; omega, hnext hh, by simp only; rw [hsm1, hsb, hfar, decide_eq_false hxn]; rfl⟩ (by repeat (first | exact Sub.nil | refine Sub.cons rfl ?_ | refine Sub.cons (lk_int rfl (by first | omega | (dsimp only; omega))) ?_)) (fun w h => iH h)
      · have hh : hit l n v i = false := by rw [hhit]; simp; omega
        cases hsb : sm with
        | true =>
          refine WC_drawAll [] mixed ?_
          (refine WR_t 0 ?_; refine WR_t 1 ?_)
          (refine WR_v 2 ?_; refine WR_v 3 ?_; refine WR_v 4 ?_; refine WR_v 5 ?_; refine WR_v 6 ?_; refine WR_v 7 ?_; refine WR_v 8 ?_)
          (refine WR_x 9 ?_; refine WR_x 10 ?_; refine WR_x 11 ?_; refine WR_x 12 ?_; refine WR_x 13 ?_; refine WR_x 14 ?_; refine WR_x 15 ?_; refine WR_x 16 ?_; refine WR_x 17 ?_; refine WR_x 18 ?_; refine WR_x 19 ?_; refine WR_x 20 ?_; refine WR_x 21 ?_)
          (refine WR_v 22 ?_)
          (refine WR_t 23 ?_; refine WR_t 24 ?_)
          (refine WR_done (by kernel_rfl) ?_)
          (repeat' (first | (show WL _ _ _ _ _ _ _; first | refine jA ?_ | refine jB ?_ | refine jC ?_ | refine jD ?_ | refine jE ?_ | refine jF ?_) | (show OW _ _ _ _ _ _; first | refine OW_E ?_ | refine jI ?_ | refine jJ ?_ | refine jK (fun bk => ?_) | refine jL (fun bk => ?_)) | (show WC _ _ _ _ _ _; first | refine jM ?_ | refine jN ?_ | refine jO ?_ | refine jP ?_ | refine jR ?_ | refine jS ?_ | refine jT ?_ | refine jU ?_) | (show WQ _ _ _ _; with_reducible first | refine jV ?_ | refine jW ?_ | refine jX ?_ | refine jY ?_ | refine jZ ?_ | refine kA ?_ | refine kB ?_ | refine kC ?_) | ((first | (refine jG (fun hc => ?_) (fun hc => ?_) <;> rw [hc]) | refine jQ (fun hc => ?_) (fun hc => ?_)) <;> (try simp only [nrB] at hc) <;> (try (exfalso; first | omega | exact hc trivial | exact hc rfl)))))
          refine WQ_round (X := Nat × Bool) (μ := fun x => ls.length - x.1) (x := (i, true)) (i + 1, true) (by simp only; omega) ⟨by simp only; omega, hnext hh, by simp only; rw [hsm1, hsb]; rfl⟩ (by repeat (first | exact Sub.nil | refine Sub.cons rfl ?_ | refine Sub.cons (lk_int rfl (by first | omega | (dsimp only; omega))) ?_)) (fun w h => iH h)
        | false =>
          by_cases hxn : n < x
          · refine WC_drawAll [] mixed ?_
            (refine WR_t 0 ?_; refine WR_t 1 ?_)
            (refine WR_u 2 ?_; refine WR_u 3 ?_)
            (refine WR_takeOn 4 rfl rfl rfl (by kernel_rfl) (by repeat (first | with_reducible exact PO.body | with_reducible exact RP_po | with_reducible refine PO.then ?_ | with_reducible refine PO.block ?_)) iC (EV_indexAddr (j := i) rfl rfl rfl hlt) (by rfl) ?_)
            (refine WR_takeOn 5 rfl rfl rfl (by kernel_rfl) (by repeat (first | with_reducible exact PO.body | with_reducible exact RP_po | with_reducible refine PO.then ?_ | with_reducible refine PO.block ?_)) iC (EV_load rfl hfn.there.there.there hcell) (by rfl) ?_)
            (refine WR_u 6 ?_; refine WR_u 7 ?_)
            rw [show decide ((x : Int) > (n : Int)) = true from by simp; omega]
            (refine WR_u 8 ?_; refine WR_u 9 ?_; refine WR_u 10 ?_)
            (refine WR_takeOn 11 rfl rfl rfl (by kernel_rfl) (by repeat (first | with_reducible exact PO.body | with_reducible exact RP_po | with_reducible refine PO.then ?_ | with_reducible refine PO.block ?_)) iC (EV_indexAddr0 (j := i) (len := ls.length) rfl rfl rfl hlt) (by rfl) ?_)
            (refine WR_takeOn 12 rfl rfl rfl (by kernel_rfl) (by repeat (first | with_reducible exact PO.body | with_reducible exact RP_po | with_reducible refine PO.then ?_ | with_reducible refine PO.block ?_)) iC (EV_load rfl Fnd.here hword) (by rfl) ?_)
            (refine WR_u 13 ?_; refine WR_u 14 ?_)
            (refine WR_takeOn 15 rfl rfl rfl (by kernel_rfl) (by repeat (first | with_reducible exact PO.body | with_reducible exact RP_po | with_reducible refine PO.then ?_ | with_reducible refine PO.block ?_)) iC (EV_indexAddr (j := i) rfl rfl rfl hlt) (by rfl) ?_)
            (refine WR_takeOn 16 rfl rfl rfl (by kernel_rfl) (by repeat (first | with_reducible exact PO.body | with_reducible exact RP_po | with_reducible refine PO.then ?_ | with_reducible refine PO.block ?_)) iC (EV_load rfl hfn.there.there.there hcell) (by rfl) ?_)
            (refine WR_u 17 ?_; refine WR_u 18 ?_)
            rw [show (x : Int) - (n : Int) = ((x - n : Nat) : Int) from by omega]
            (refine WR_takeOn 19 rfl rfl rfl (by kernel_rfl) (by repeat (first | with_reducible exact PO.body | with_reducible exact RP_po | with_reducible refine PO.then ?_ | with_reducible refine PO.block ?_)) iC (EV_nshr y (x - n) rfl rfl rfl rfl (by simp only [IntKind.bits]; omega)) (by rfl) ?_)
            (refine WR_u 20 ?_; refine WR_u 21 ?_; refine WR_u 22 ?_)
            (refine WR_t 23 ?_; refine WR_t 24 ?_)
            (refine WR_done (by kernel_rfl) ?_)
            (repeat' (first | (show WL _ _ _ _ _ _ _; first | refine jA ?_ | refine jB ?_ | refine jC ?_ | refine jD ?_ | refine jE ?_ | refine jF ?_) | (show OW _ _ _ _ _ _; first | refine OW_E ?_ | refine jI ?_ | refine jJ ?_ | refine jK (fun bk => ?_) | refine jL (fun bk => ?_)) | (show WC _ _ _ _ _ _; first | refine jM ?_ | refine jN ?_ | refine jO ?_ | refine jP ?_ | refine jR ?_ | refine jS ?_ | refine jT ?_ | refine jU ?_) | (show WQ _ _ _ _; with_reducible first | refine jV ?_ | refine jW ?_ | refine jX ?_ | refine jY ?_ | refine jZ ?_ | refine kA ?_ | refine kB ?_ | refine kC ?_) | ((first | (refine jG (fun hc => ?_) (fun hc => ?_) <;> rw [hc]) | refine jQ (fun hc => ?_) (fun hc => ?_)) <;> (try simp only [nrB] at hc) <;> (try (exfalso; first | omega | exact hc trivial | exact hc rfl)))))
            refine WQ_round (X := Nat × Bool) (μ := fun x => ls.length - x.1) (x := (i, false)) (i + 1, ((y / 2 ^ (x - n) : Nat) : Int) == (v : Int)) (by simp only; omega) ⟨by simp only; omega, hnext hh, by simp only; rw [hsm1, hsb, hfar, decide_eq_true hxn, Bool.false_or, Bool.true_and, beq_nat]⟩ (by repeat (first | exact Sub.nil | refine Sub.cons rfl ?_ | refine Sub.cons (lk_int rfl (by first | omega | (dsimp only; omega))) ?_)) (fun w h => iH h)
          · refine WC_drawAll [] mixed ?_
            (refine WR_t 0 ?_; refine WR_t 1 ?_)
            (refine WR_u 2 ?_; refine WR_u 3 ?_)
            (refine WR_takeOn 4 rfl rfl rfl (by kernel_rfl) (by repeat (first | with_reducible exact PO.body | with_reducible exact RP_po | with_reducible refine PO.then ?_ | with_reducible refine PO.block ?_)) iC (EV_indexAddr (j := i) rfl rfl rfl hlt) (by rfl) ?_)
            (refine WR_takeOn 5 rfl rfl rfl (by kernel_rfl) (by repeat (first | with_reducible exact PO.body | with_reducible exact RP_po | with_reducible refine PO.then ?_ | with_reducible refine PO.block ?_)) iC (EV_load rfl hfn.there.there.there hcell) (by rfl) ?_)
            (refine WR_u 6 ?_; refine WR_u 7 ?_)
            rw [show decide ((x : Int) > (n : Int)) = false from by simp; omega]
            (refine WR_u 8 ?_)
            (refine WR_v 9 ?_; refine WR_v 10 ?_; refine WR_v 11 ?_; refine WR_v 12 ?_; refine WR_v 13 ?_; refine WR_v 14 ?_; refine WR_v 15 ?_; refine WR_v 16 ?_; refine WR_v 17 ?_; refine WR_v 18 ?_; refine WR_v 19 ?_; refine WR_v 20 ?_; refine WR_v 21 ?_)
            (refine WR_u 22 ?_)
            (refine WR_t 23 ?_; refine WR_t 24 ?_)
            (refine WR_done (by kernel_rfl) ?_)
            (repeat' (first | (show WL _ _ _ _ _ _ _; first | refine jA ?_ | refine jB ?_ | refine jC ?_ | refine jD ?_ | refine jE ?_ | refine jF ?_) | (show OW _ _ _ _ _ _; first | refine OW_E ?_ | refine jI ?_ | refine jJ ?_ | refine jK (fun bk => ?_) | refine jL (fun bk => ?_)) | (show WC _ _ _ _ _ _; first | refine jM ?_ | refine jN ?_ | refine jO ?_ | refine jP ?_ | refine jR ?_ | refine jS ?_ | refine jT ?_ | refine jU ?_) | (show WQ _ _ _ _; with_reducible first | refine jV ?_ | refine jW ?_ | refine jX ?_ | refine jY ?_ | refine jZ ?_ | refine kA ?_ | refine kB ?_ | refine kC ?_) | ((first | (refine jG (fun hc => ?_) (fun hc => ?_) <;> rw [hc]) | refine jQ (fun hc => ?_) (fun hc => ?_)) <;> (try simp only [nrB] at hc) <;> (try (exfalso; first | omega | exact hc trivial | exact hc rfl)))))
            refine WQ_round (X := Nat × Bool) (μ := fun x => ls.length - x.1) (x := (i, false)) (i + 1, false) (by simp only; omega) ⟨by simp only; omega, hnext hh, by simp only; rw [hsm1, hsb, hfar, decide_eq_false hxn]; rfl⟩ (by repeat (first | exact Sub.nil | refine Sub.cons rfl ?_ | refine Sub.cons (lk_int rfl (by first | omega | (dsimp only; omega))) ?_)) (fun w h => iH h)
    · have hil : i = l.length := by omega
      have hsy : symAt l n v = none := find_none (by rw [← hil]; exact hnone)
      have hex : extB l n v = false := by unfold extB; rw [← hil, ← hsm]; simpa using hc
      rw [hsy] at hrd
      simp only at hrd
      rw [if_pos hex] at hrd
      exact hfin 0 3 n D1 _ _ hB1 hrd rfl rfl (fun w h => iH h)
    · have hil : i = l.length := by omega
      have hsy : symAt l n v = none := find_none (by rw [← hil]; exact hnone)
      have hex : ¬ extB l n v = false := by unfold extB; rw [← hil, ← hsm]; simpa using hc
      rw [hsy] at hrd
      simp only at hrd
      rw [if_neg hex] at hrd
      have hB2 := hB1
      obtain ⟨ht, vb, rfl, hob⟩ := hB2
      obtain ⟨fa, fc, rfl⟩ := ow_slc hob
      refine OW_callP rfl rfl rfl (bleft_n q d.length (t + n) fa fc _ _ (by repeat (first | assumption | exact Fnd.here | refine Fnd.there ?_)) hl ht) rfl ?_
      (repeat' (first | (show WL _ _ _ _ _ _ _; first | refine jA ?_ | refine jB ?_ | refine jC ?_ | refine jD ?_ | refine jE ?_ | refine jF ?_) | (show OW _ _ _ _ _ _; first | refine OW_E ?_ | refine jI ?_ | refine jJ ?_ | refine jK (fun bk => ?_) | refine jL (fun bk => ?_)) | (show WC _ _ _ _ _ _; first | refine jM ?_ | refine jN ?_ | refine jO ?_ | refine jP ?_ | refine jR ?_ | refine jS ?_ | refine jT ?_ | refine jU ?_) | (show WQ _ _ _ _; with_reducible first | refine jV ?_ | refine jW ?_ | refine jX ?_ | refine jY ?_ | refine jZ ?_ | refine kA ?_ | refine kB ?_ | refine kC ?_) | ((first | (refine jG (fun hc => ?_) (fun hc => ?_) <;> rw [hc]) | refine jQ (fun hc => ?_) (fun hc => ?_)) <;> (try simp only [nrB] at hc) <;> (try (exfalso; first | omega | exact hc trivial | exact hc rfl)))))
      · rw [if_pos (by omega)] at hrd
        exact hfin 0 4 n _ _ _ hB1 hrd rfl rfl (fun w h => iH h)
      · rw [if_neg (by omega)] at hrd
        refine OW_EV (EV_nshl v 1 rfl rfl rfl rfl rfl (by simp only [IntKind.bits]; omega)) rfl ?_
        (repeat' (first | (show WL _ _ _ _ _ _ _; first | refine jA ?_ | refine jB ?_ | refine jC ?_ | refine jD ?_ | refine jE ?_ | refine jF ?_) | (show OW _ _ _ _ _ _; first | refine OW_E ?_ | refine jI ?_ | refine jJ ?_ | refine jK (fun bk => ?_) | refine jL (fun bk => ?_)) | (show WC _ _ _ _ _ _; first | refine jM ?_ | refine jN ?_ | refine jO ?_ | refine jP ?_ | refine jR ?_ | refine jS ?_ | refine jT ?_ | refine jU ?_) | (show WQ _ _ _ _; with_reducible first | refine jV ?_ | refine jW ?_ | refine jX ?_ | refine jY ?_ | refine jZ ?_ | refine kA ?_ | refine kB ?_ | refine kC ?_) | ((first | (refine jG (fun hc => ?_) (fun hc => ?_) <;> rw [hc]) | refine jQ (fun hc => ?_) (fun hc => ?_)) <;> (try simp only [nrB] at hc) <;> (try (exfalso; first | omega | exact hc trivial | exact hc rfl)))))
        refine OW_call rfl rfl rfl (Gv.take2 (bone_n q (t + n) d _ E (C :: L) hB1 hl (by omega)) (by repeat (first | exact Take.here | apply Take.there)) (by repeat (first | exact Take.here | apply Take.there))) rfl (fun r L' hp => ?_)
        obtain ⟨rfl, D2, hB3, rfl⟩ := hp
        have hbt : val d / 2 ^ (t + n) % 2 < 2 := Nat.mod_lt _ (by decide)
        (repeat' (first | (show WL _ _ _ _ _ _ _; first | refine jA ?_ | refine jB ?_ | refine jC ?_ | refine jD ?_ | refine jE ?_ | refine jF ?_) | (show OW _ _ _ _ _ _; first | refine OW_E ?_ | refine jI ?_ | refine jJ ?_ | refine jK (fun bk => ?_) | refine jL (fun bk => ?_)) | (show WC _ _ _ _ _ _; first | refine jM ?_ | refine jN ?_ | refine jO ?_ | refine jP ?_ | refine jR ?_ | refine jS ?_ | refine jT ?_ | refine jU ?_) | (show WQ _ _ _ _; with_reducible first | refine jV ?_ | refine jW ?_ | refine jX ?_ | refine jY ?_ | refine jZ ?_ | refine kA ?_ | refine kB ?_ | refine kC ?_) | ((first | (refine jG (fun hc => ?_) (fun hc => ?_) <;> rw [hc]) | refine jQ (fun hc => ?_) (fun hc => ?_)) <;> (try simp only [nrB] at hc) <;> (try (exfalso; first | omega | exact hc trivial | exact hc rfl)))))
        refine OW_EV (EV_nor' (val d / 2 ^ (t + n) % 2) v 1 rfl rfl rfl rfl rfl (by simpa using hbt) (by simp only [IntKind.bits]; omega)) rfl ?_
        rw [show val d / 2 ^ (t + n) % 2 + v * 2 ^ 1 = hv (val d) t (n + 1) from by simp only [hv]; rw [← hv0]; omega]
        (repeat' (first | (show WL _ _ _ _ _ _ _; first | refine jA ?_ | refine jB ?_ | refine jC ?_ | refine jD ?_ | refine jE ?_ | refine jF ?_) | (show OW _ _ _ _ _ _; first | refine OW_E ?_ | refine jI ?_ | refine jJ ?_ | refine jK (fun bk => ?_) | refine jL (fun bk => ?_)) | (show WC _ _ _ _ _ _; first | refine jM ?_ | refine jN ?_ | refine jO ?_ | refine jP ?_ | refine jR ?_ | refine jS ?_ | refine jT ?_ | refine jU ?_) | (show WQ _ _ _ _; with_reducible first | refine jV ?_ | refine jW ?_ | refine jX ?_ | refine jY ?_ | refine jZ ?_ | refine kA ?_ | refine kB ?_ | refine kC ?_) | ((first | (refine jG (fun hc => ?_) (fun hc => ?_) <;> rw [hc]) | refine jQ (fun hc => ?_) (fun hc => ?_)) <;> (try simp only [nrB] at hc) <;> (try (exfalso; first | omega | exact hc trivial | exact hc rfl)))))
        refine WQ_round (X := Nat × Chunk) (μ := fun x => 16 - x.1) (x := (n, D)) (n + 1, D2) (by simp only; omega) ⟨by simp only; omega, hB3, hrd⟩ (by repeat (first | exact Sub.nil | refine Sub.cons rfl ?_ | refine Sub.cons (lk_int rfl (by first | omega | (dsimp only; omega))) ?_)) (fun w h => iH h)
  · have hn16 : n = 16 := by omega
    subst hn16
    exact hfin 0 3 16 D1 _ _ hB1 hrd rfl rfl (fun w h => iH h)
end Go.Proofs.YtkiaegkojlhaeaaDoor
