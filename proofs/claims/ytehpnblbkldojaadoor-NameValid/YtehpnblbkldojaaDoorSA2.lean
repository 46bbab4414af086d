/- NameValid returns true and leaves its arguments as they were, for every argument; the table that the program reads is tied to its text (the card). No conditions beyond the row's. -/
import Derived.Test.YtehpnblbkldojaaDoorSA1
namespace Go.Proofs.YtehpnblbkldojaaDoor
open Go Go.Vx Go.Nm Go.Ob Go.Lib
set_option linter.all false
set_option maxRecDepth 4000
section
variable [W0]
variable {P : Program} {n : Nat} {M : List (Nat × Value)} {L : List Chunk} {d : Nat} {ty : TypeId} {ps : String} {af : Array Edge} {g : Option (Nat × Bool)} {x y : Operand} in
theorem EV_neT (a b : List UInt8) (h : a ≠ b) {t u : TypeId} (hx : ev M x = some (.string (str a))) (hy : ev M y = some (.string (str b))) : EV P n ⟨some d, .binOp .neq t x y u, ty, ps, af, g⟩ M L d (.bool true) := by
  have := EV_neL (P := P) (n := n) (M := M) (L := L) (d := d) (ty := ty) (ps := ps) (af := af) (g := g) (t := t) (u := u) a b hx hy
  simpa [h] using this
variable {P : Program} {n : Nat} {M : List (Nat × Value)} {L : List Chunk} {d : Nat} {ty : TypeId} {ps : String} {af : Array Edge} {g : Option (Nat × Bool)} {x y : Operand} in
theorem EV_neF (a b : List UInt8) (h : a = b) {t u : TypeId} (hx : ev M x = some (.string (str a))) (hy : ev M y = some (.string (str b))) : EV P n ⟨some d, .binOp .neq t x y u, ty, ps, af, g⟩ M L d (.bool false) := by
  have := EV_neL (P := P) (n := n) (M := M) (L := L) (d := d) (ty := ty) (ps := ps) (af := af) (g := g) (t := t) (u := u) a b hx hy
  simpa [h] using this
variable {P : Program} {n : Nat} {M : List (Nat × Value)} {L : List Chunk} {d : Nat} {ty : TypeId} {ps : String} {af : Array Edge} {g : Option (Nat × Bool)} {x y : Operand} in
theorem EV_eqT (a b : List UInt8) (h : a = b) {t u : TypeId} (hx : ev M x = some (.string (str a))) (hy : ev M y = some (.string (str b))) : EV P n ⟨some d, .binOp .eql t x y u, ty, ps, af, g⟩ M L d (.bool true) := by
  have := EV_eqL (P := P) (n := n) (M := M) (L := L) (d := d) (ty := ty) (ps := ps) (af := af) (g := g) (t := t) (u := u) a b hx hy
  simpa [h] using this
variable {P : Program} {n : Nat} {M : List (Nat × Value)} {L : List Chunk} {d : Nat} {ty : TypeId} {ps : String} {af : Array Edge} {g : Option (Nat × Bool)} {x y : Operand} in
theorem EV_eqF (a b : List UInt8) (h : a ≠ b) {t u : TypeId} (hx : ev M x = some (.string (str a))) (hy : ev M y = some (.string (str b))) : EV P n ⟨some d, .binOp .eql t x y u, ty, ps, af, g⟩ M L d (.bool false) := by
  have := EV_eqL (P := P) (n := n) (M := M) (L := L) (d := d) (ty := ty) (ps := ps) (af := af) (g := g) (t := t) (u := u) a b hx hy
  simpa [h] using this
theorem two_at {s : List UInt8} {i : Nat} {p c : UInt8} (hp : s[i]? = some p) (hc : s[i + 1]? = some c) : (s.drop i).take (i + 2 - i) = [p, c] := by
  have hi := (List.getElem?_eq_some_iff.1 hp)
  have hj := (List.getElem?_eq_some_iff.1 hc)
  obtain ⟨h1, e1⟩ := hi
  obtain ⟨h2, e2⟩ := hj
  rw [show i + 2 - i = 2 from by omega, List.drop_eq_getElem_cons h1, List.drop_eq_getElem_cons h2, e1, e2]
  rfl
theorem twoB_take : ∀ {s : List UInt8} {n : Nat}, twoB (s.take n) = false → twoB s = false
  | [], n, h => by simp [twoB] at h
  | [x], n, h => by
    rcases n with _ | n
    · simp [twoB] at h
    · simp [twoB] at h
  | x :: y :: s, n, h => by
    rcases n with _ | _ | n
    · simp [twoB] at h
    · simp [twoB] at h
    · simp only [List.take_succ_cons] at h
      unfold twoB at h ⊢
      cases hxy : twB x y with
      | false => rfl
      | true =>
        rw [hxy, Bool.true_and] at h
        rw [Bool.true_and]
        exact twoB_take (s := y :: s) (n := n + 1) (by simpa using h)
theorem ptA_mem : ∀ (r cur x : List UInt8), x ∈ ptA cur r → x.length ≤ cur.length + r.length
  | [], cur, x, h => by
    unfold ptA at h
    rw [List.mem_singleton] at h
    rw [h]; simp
  | c :: r, cur, x, h => by
    unfold ptA at h
    split at h
    · rw [List.mem_cons] at h
      rcases h with h | h
      · rw [h]; omega
      · have := ptA_mem r [] x h
        simp only [List.length_nil, List.length_cons] at this ⊢
        omega
    · have := ptA_mem r (cur ++ [c]) x h
      simp only [List.length_append, List.length_cons, List.length_nil] at this ⊢
      omega
theorem bad_get {k : Nat} (h : k < 7) : (str badL)[k]? = some (badL.getD k 0) := str_get (t := badL) h
theorem bad_has {c : UInt8} {k : Nat} (h : k < 7) (e : badL.getD k 0 = c) : chB c = false := by
  have hm : badL.contains c = true := by
    rw [← e, List.contains_iff_mem]
    have : ∀ k : Fin 7, badL.getD k.val 0 ∈ badL := by decide
    exact this ⟨k, h⟩
  unfold chB
  rw [hm]
  simp
theorem bad_no {c : UInt8} (h : ∀ k, k < 7 → badL.getD k 0 ≠ c) : badL.contains c = false := by
  rw [Bool.eq_false_iff]
  intro w
  rw [List.contains_iff_mem] at w
  obtain ⟨k, hk, e⟩ := List.getElem_of_mem w
  refine h k hk ?_
  rw [List.getD_eq_getElem?_getD, List.getElem?_eq_getElem hk, e]
  rfl
set_option maxHeartbeats 8000000 in
theorem rvalid_n (s : List UInt8) (L : List Chunk) (hs : s.length ≤ 9223372036854775000) : GvP Tryd.prog 12 [.string (str s)].toArray L (.bool (vlN s)) := by
  have z1 : (str s).size = s.length := str_size s
  refine Gv.of_body (args := [.string (str s)]) Tryd.func12 rfl rfl ?_
  by_cases h1 : 100 < s.length
  · rw [show vlN s = false from by unfold vlN; rw [decide_eq_false (by omega)]; rfl]
    (repeat' first|refine kW ?_|refine kU fun bk=>?_|refine kV fun hc=>?_|refine kZ (fun hc=>?_) fun hc=>?_|fail)
    exact kE
  by_cases h2 : s.length < 5
  · rw [show vlN s = false from by unfold vlN; rw [decide_eq_false (p := 5 ≤ s.length) (by omega)]; simp]
    (repeat' first|refine kW ?_|refine kU fun bk=>?_|refine kV fun hc=>?_|refine kZ (fun hc=>?_) fun hc=>?_|fail)
    exact kE
  by_cases h3 : s.take 5 = refsL
  rotate_left
  · rw [show vlN s = false from by unfold vlN; rw [decide_eq_false h3]; simp]
    (repeat' first|refine kW ?_|refine kU fun bk=>?_|refine kV fun hc=>?_|refine kZ (fun hc=>?_) fun hc=>?_|fail)
    refine OW_EV (EV_cutL s 0 5 rfl rfl rfl (by omega) (by omega)) rfl ?_
    rw [List.drop_zero, Nat.sub_zero]
    refine WL_on rfl rfl ?_
    refine OW_EV (EV_neT (s.take 5) refsL h3 rfl rfl) rfl ?_
    (repeat' first|refine kW ?_|refine kU fun bk=>?_|refine kV fun hc=>?_|refine kZ (fun hc=>?_) fun hc=>?_|fail)
    exact kE
  cases h4 : validD s with
  | false =>
    have hu := refutf8_n s L hs
    rw [h4] at hu
    rw [show vlN s = false from by unfold vlN; rw [h4]; simp]
    (repeat' first|refine kW ?_|refine kU fun bk=>?_|refine kV fun hc=>?_|refine kZ (fun hc=>?_) fun hc=>?_|fail)
    refine OW_EV (EV_cutL s 0 5 rfl rfl rfl (by omega) (by omega)) rfl ?_
    rw [List.drop_zero, Nat.sub_zero]
    refine WL_on rfl rfl ?_
    refine OW_EV (EV_neF (s.take 5) refsL h3 rfl rfl) rfl ?_
    (repeat' first|refine kW ?_|refine kU fun bk=>?_|refine kV fun hc=>?_|refine kZ (fun hc=>?_) fun hc=>?_|fail)
    refine OW_callP rfl rfl rfl hu rfl ?_
    (repeat' first|refine kW ?_|refine kU fun bk=>?_|refine kV fun hc=>?_|refine kZ (fun hc=>?_) fun hc=>?_|fail)
    exact kE
  | true =>
  have hu := refutf8_n s L hs
  rw [h4] at hu
  cases h5 : endB s [46] with
  | true =>
    have he := rends_n s [46] L hs (by simp)
    rw [h5] at he
    rw [show vlN s = false from by unfold vlN; rw [h5]; simp]
    (repeat' first|refine kW ?_|refine kU fun bk=>?_|refine kV fun hc=>?_|refine kZ (fun hc=>?_) fun hc=>?_|fail)
    refine OW_EV (EV_cutL s 0 5 rfl rfl rfl (by omega) (by omega)) rfl ?_
    rw [List.drop_zero, Nat.sub_zero]
    refine WL_on rfl rfl ?_
    refine OW_EV (EV_neF (s.take 5) refsL h3 rfl rfl) rfl ?_
    (repeat' first|refine kW ?_|refine kU fun bk=>?_|refine kV fun hc=>?_|refine kZ (fun hc=>?_) fun hc=>?_|fail)
    refine OW_callP rfl rfl rfl hu rfl ?_
    (repeat' first|refine kW ?_|refine kU fun bk=>?_|refine kV fun hc=>?_|refine kZ (fun hc=>?_) fun hc=>?_|fail)
    refine OW_callP rfl rfl rfl he rfl ?_
    (repeat' first|refine kW ?_|refine kU fun bk=>?_|refine kV fun hc=>?_|refine kZ (fun hc=>?_) fun hc=>?_|fail)
    exact kE
  | false =>
  have he := rends_n s [46] L hs (by simp)
  rw [h5] at he
  have hvl : vlN s = ((s.all chB && twoB s) && (ptL s).all ptB) := by
    unfold vlN
    rw [decide_eq_true (p := s.length ≤ 100) (by omega), decide_eq_true (p := 5 ≤ s.length) (by omega), decide_eq_true h3, h4, h5]
    rfl
  rw [hvl]
  (repeat' first|refine kW ?_|refine kU fun bk=>?_|refine kV fun hc=>?_|refine kZ (fun hc=>?_) fun hc=>?_|fail)
  refine OW_EV (EV_cutL s 0 5 rfl rfl rfl (by omega) (by omega)) rfl ?_
  rw [List.drop_zero, Nat.sub_zero]
  refine WL_on rfl rfl ?_
  refine OW_EV (EV_neF (s.take 5) refsL h3 rfl rfl) rfl ?_
  (repeat' first|refine kW ?_|refine kU fun bk=>?_|refine kV fun hc=>?_|refine kZ (fun hc=>?_) fun hc=>?_|fail)
  refine OW_callP rfl rfl rfl hu rfl ?_
  (repeat' first|refine kW ?_|refine kU fun bk=>?_|refine kV fun hc=>?_|refine kZ (fun hc=>?_) fun hc=>?_|fail)
  refine OW_callP rfl rfl rfl he rfl ?_
  (repeat' first|refine kW ?_|refine kU fun bk=>?_|refine kV fun hc=>?_|refine kZ (fun hc=>?_) fun hc=>?_|fail)
  refine WC_loop (X := Nat) (fun i => [(0, .string (str s)), (3, .int .i64 (i : Int))]) (fun _ => L) (fun i => i ≤ s.length ∧ (s.take i).all chB = true ∧ twoB (s.take i) = true) (fun i => s.length - i) 0 ⟨Nat.zero_le _, rfl, rfl⟩ iS (fun w h => h) ?_
  rintro i ⟨q1, q2, q3⟩
  by_cases hlt : i < s.length
  · obtain ⟨c, hc0⟩ : ∃ c, s[i]? = some c := ⟨s[i], by simp [hlt]⟩
    have hget := str_gt hc0
    have hcm : c ∈ s := List.mem_of_getElem? hc0
    have hbad : chB c = false → (s.all chB && twoB s) = false := fun w => by
      have : s.all chB = false := by
        rw [Bool.eq_false_iff]
        intro u
        have := List.all_eq_true.1 u c hcm
        rw [w] at this
        cases this
      rw [this]; rfl
    by_cases g1 : c.toNat < 33
    · rw [hbad (by unfold chB; rw [decide_eq_false (by omega)]; rfl)]
      (repeat' first|refine kW ?_|refine kU fun bk=>?_|refine kV fun hc=>?_|refine kZ (fun hc=>?_) fun hc=>?_|fail)
      refine OW_EV (EV_indexStr (j := i) (u := c) rfl rfl rfl hget) rfl ?_
      (repeat' first|refine kW ?_|refine kU fun bk=>?_|refine kV fun hc=>?_|refine kZ (fun hc=>?_) fun hc=>?_|fail)
      exact kE
    by_cases g2 : c.toNat = 127
    · rw [hbad (by unfold chB; rw [decide_eq_false (p := c.toNat ≠ 127) (by omega)]; simp)]
      (repeat' first|refine kW ?_|refine kU fun bk=>?_|refine kV fun hc=>?_|refine kZ (fun hc=>?_) fun hc=>?_|fail)
      refine OW_EV (EV_indexStr (j := i) (u := c) rfl rfl rfl hget) rfl ?_
      (repeat' first|refine kW ?_|refine kU fun bk=>?_|refine kV fun hc=>?_|refine kZ (fun hc=>?_) fun hc=>?_|fail)
      refine OW_EV (EV_indexStr (j := i) (u := c) rfl rfl rfl hget) rfl ?_
      (repeat' first|refine kW ?_|refine kU fun bk=>?_|refine kV fun hc=>?_|refine kZ (fun hc=>?_) fun hc=>?_|fail)
      exact kE
    (repeat' first|refine kW ?_|refine kU fun bk=>?_|refine kV fun hc=>?_|refine kZ (fun hc=>?_) fun hc=>?_|fail)
    refine OW_EV (EV_indexStr (j := i) (u := c) rfl rfl rfl hget) rfl ?_
    (repeat' first|refine kW ?_|refine kU fun bk=>?_|refine kV fun hc=>?_|refine kZ (fun hc=>?_) fun hc=>?_|fail)
    refine OW_EV (EV_indexStr (j := i) (u := c) rfl rfl rfl hget) rfl ?_
    (repeat' first|refine kW ?_|refine kU fun bk=>?_|refine kV fun hc=>?_|refine kZ (fun hc=>?_) fun hc=>?_|fail)
    refine WC_loop (X := Nat) (fun k => [(0, .string (str s)), (3, .int .i64 (i : Int)), (4, .int .i64 (k : Int))]) (fun _ => L) (fun k => k ≤ 7 ∧ ∀ j, j < k → badL.getD j 0 ≠ c) (fun k => 7 - k) 0 ⟨Nat.zero_le _, fun j hj => by omega⟩ iS (fun w h => h) ?_
    rintro k ⟨k1, k2⟩
    by_cases hk : k < 7
    · have hgk := bad_get hk
      have hbh := fun e => bad_has (c := c) hk e
      obtain ⟨e, hee⟩ : ∃ e, e = badL.getD k 0 := ⟨_, rfl⟩
      rw [← hee] at hgk hbh
      (repeat' first|refine kW ?_|refine kU fun bk=>?_|refine kV fun hc=>?_|refine kZ (fun hc=>?_) fun hc=>?_|fail)
      refine WC_drawAll [] mixed ?_
      (refine WR_t 0 ?_; refine WR_t 1 ?_)
      (refine WR_take 2 rfl rfl (by kernel_rfl) iP iC (EV_indexStr (j := i) (u := c) rfl rfl rfl hget) (by rfl) ?_)
      (refine WR_t 3 ?_)
      (refine WR_take 4 rfl rfl (by kernel_rfl) iP iC (EV_indexStr (s := str badL) (j := k) (u := e) rfl rfl rfl hgk) (by rfl) ?_)
      (refine WR_t 5 ?_)
      (refine WR_done (by kernel_rfl) ?_)
      (repeat' first|refine kW ?_|refine kU fun bk=>?_|refine kV fun hc=>?_|refine kZ (fun hc=>?_) fun hc=>?_|fail)
      · rw [hbad (hbh (UInt8.toNat_inj.1 (by omega)))]
        exact kE
      · refine WQ_round (X := Nat) (μ := fun k => 7 - k) (x := k) (k + 1) (by omega) ⟨by omega, fun j hj => ?_⟩ iS (fun w h => h)
        by_cases w : j = k
        · rw [w, ← hee]; intro u; rw [u] at hc; exact hc rfl
        · exact k2 j (by omega)
    obtain rfl : k = 7 := by omega
    have hch : chB c = true := by
      unfold chB
      rw [decide_eq_true (by omega), decide_eq_true g2, bad_no k2]
      rfl
    have hall1 : (s.take (i + 1)).all chB = true := by rw [List.take_add_one, hc0, List.all_append, q2]; simp [hch]
    by_cases h0 : i = 0
    · subst h0
      (repeat' first|refine kW ?_|refine kU fun bk=>?_|refine kV fun hc=>?_|refine kZ (fun hc=>?_) fun hc=>?_|fail)
      refine WQ_round (X := Nat) (μ := fun i => s.length - i) (x := 0) 1 (by omega) ⟨by omega, hall1, ?_⟩ iS (fun w h => h)
      rw [List.take_add_one, hc0]
      rfl
    obtain ⟨p, hp0⟩ : ∃ p, s[i - 1]? = some p := ⟨s[i - 1]'(by omega), List.getElem?_eq_getElem (by omega)⟩
    have hpc := two_at (i := i - 1) hp0 (by rw [show i - 1 + 1 = i from by omega]; exact hc0)
    rw [show i - 1 + 2 = i + 1 from by omega] at hpc
    have htk : s.take (i + 1) = s.take (i - 1) ++ [p, c] := by
      rw [List.take_add_one, hc0, show s.take i = s.take (i - 1 + 1) from by rw [show i - 1 + 1 = i from by omega], List.take_add_one, hp0, List.append_assoc]
      rfl
    have htk0 : s.take i = s.take (i - 1) ++ [p] := by
      rw [show s.take i = s.take (i - 1 + 1) from by rw [show i - 1 + 1 = i from by omega], List.take_add_one, hp0]
      rfl
    have hbad2 : twB p c = false → (s.all chB && twoB s) = false := fun w => by
      have h6 : twoB (s.take (i + 1)) = false := by rw [htk, twoB_snoc, w, Bool.and_false]
      have h7 := twoB_take (s := s) (n := i + 1) h6
      rw [h7, Bool.and_false]
    by_cases w1 : [p, c] = [46, 46]
    · rw [hbad2 (by unfold twB; rw [decide_eq_true w1]; rfl)]
      (repeat' first|refine kW ?_|refine kU fun bk=>?_|refine kV fun hc=>?_|refine kZ (fun hc=>?_) fun hc=>?_|fail)
      refine OW_EV (EV_cutL s (i - 1) (i + 1) rfl (bnd_int rfl (by omega)) (bnd_int rfl (by omega)) (by omega) (by omega)) rfl ?_
      rw [hpc]
      refine WL_on rfl rfl ?_
      refine OW_EV (EV_eqT [p, c] [46, 46] w1 rfl rfl) rfl ?_
      (repeat' first|refine kW ?_|refine kU fun bk=>?_|refine kV fun hc=>?_|refine kZ (fun hc=>?_) fun hc=>?_|fail)
      exact kE
    by_cases w2 : [p, c] = [64, 123]
    · rw [hbad2 (by unfold twB; rw [decide_eq_true w2, Bool.or_true]; rfl)]
      (repeat' first|refine kW ?_|refine kU fun bk=>?_|refine kV fun hc=>?_|refine kZ (fun hc=>?_) fun hc=>?_|fail)
      refine OW_EV (EV_cutL s (i - 1) (i + 1) rfl (bnd_int rfl (by omega)) (bnd_int rfl (by omega)) (by omega) (by omega)) rfl ?_
      rw [hpc]
      refine WL_on rfl rfl ?_
      refine OW_EV (EV_eqF [p, c] [46, 46] w1 rfl rfl) rfl ?_
      (repeat' first|refine kW ?_|refine kU fun bk=>?_|refine kV fun hc=>?_|refine kZ (fun hc=>?_) fun hc=>?_|fail)
      refine OW_EV (EV_cutL s (i - 1) (i + 1) rfl (bnd_int rfl (by omega)) (bnd_int rfl (by omega)) (by omega) (by omega)) rfl ?_
      rw [hpc]
      refine WL_on rfl rfl ?_
      refine OW_EV (EV_eqT [p, c] [64, 123] w2 rfl rfl) rfl ?_
      (repeat' first|refine kW ?_|refine kU fun bk=>?_|refine kV fun hc=>?_|refine kZ (fun hc=>?_) fun hc=>?_|fail)
      exact kE
    (repeat' first|refine kW ?_|refine kU fun bk=>?_|refine kV fun hc=>?_|refine kZ (fun hc=>?_) fun hc=>?_|fail)
    refine OW_EV (EV_cutL s (i - 1) (i + 1) rfl (bnd_int rfl (by omega)) (bnd_int rfl (by omega)) (by omega) (by omega)) rfl ?_
    rw [hpc]
    refine WL_on rfl rfl ?_
    refine OW_EV (EV_eqF [p, c] [46, 46] w1 rfl rfl) rfl ?_
    (repeat' first|refine kW ?_|refine kU fun bk=>?_|refine kV fun hc=>?_|refine kZ (fun hc=>?_) fun hc=>?_|fail)
    refine OW_EV (EV_cutL s (i - 1) (i + 1) rfl (bnd_int rfl (by omega)) (bnd_int rfl (by omega)) (by omega) (by omega)) rfl ?_
    rw [hpc]
    refine WL_on rfl rfl ?_
    refine OW_EV (EV_eqF [p, c] [64, 123] w2 rfl rfl) rfl ?_
    (repeat' first|refine kW ?_|refine kU fun bk=>?_|refine kV fun hc=>?_|refine kZ (fun hc=>?_) fun hc=>?_|fail)
    refine WQ_round (X := Nat) (μ := fun i => s.length - i) (x := i) (i + 1) (by omega) ⟨by omega, hall1, ?_⟩ iS (fun w h => h)
    rw [htk, twoB_snoc, ← htk0, q3]
    unfold twB
    rw [decide_eq_false w1, decide_eq_false w2]
    rfl
  obtain rfl : i = s.length := by omega
  rw [List.take_length] at q2 q3
  rw [q2, q3]
  (repeat' first|refine kW ?_|refine kU fun bk=>?_|refine kV fun hc=>?_|refine kZ (fun hc=>?_) fun hc=>?_|fail)
  refine OW_call rfl rfl rfl (rparts_n s _ (by omega)) rfl (fun r L' hp => ?_)
  obtain ⟨C, ho, rfl⟩ := hp
  obtain ⟨l, hl⟩ : ∃ l, l = ptL s := ⟨_, rfl⟩
  rw [← hl] at ho ⊢
  obtain ⟨oa, oc, rfl⟩ := ow_slc ho
  have hll : l.length ≤ s.length + 1 := by rw [hl]; exact ptA_len s []
  have hsl : Sl (C :: L) 1 (.slice oa l.length oc) l.length (ssv l) := ow_sl ho
  (repeat' first|refine kW ?_|refine kU fun bk=>?_|refine kV fun hc=>?_|refine kZ (fun hc=>?_) fun hc=>?_|fail)
  refine WC_loop (X := Nat) (fun k => [(0, .string (str s)), (5, .slice oa l.length oc), (6, .int .i64 (k : Int))]) (fun _ => C :: L) (fun k => k ≤ l.length ∧ (l.take k).all ptB = true) (fun k => l.length - k) 0 ⟨Nat.zero_le _, rfl⟩ iS (fun w h => h) ?_
  rintro k ⟨r1, r2⟩
  by_cases hk : k < l.length
  · obtain ⟨e, he⟩ : ∃ e, l[k]? = some e := ⟨l[k], by simp [hk]⟩
    obtain ⟨b, off, cap, c, T, fr, hv, hfn, g0⟩ := sl_at1 hsl he
    injection hv with e1 _ e3
    subst e1 e3
    have hel : e.length ≤ s.length := by
      have := ptA_mem s [] e (by rw [← show l = ptA [] s from hl]; exact List.mem_of_getElem? he)
      simpa using this
    have hbadp : ptB e = false → (true && true && l.all ptB) = false := fun w => by
      have : l.all ptB = false := by
        rw [Bool.eq_false_iff]
        intro u
        have := List.all_eq_true.1 u e (List.mem_of_getElem? he)
        rw [w] at this
        cases this
      rw [this]; rfl
    by_cases w1 : e = []
    · rw [hbadp (by unfold ptB; rw [decide_eq_false (p := e ≠ []) (by simpa using w1)]; rfl)]
      (repeat' first|refine kW ?_|refine kU fun bk=>?_|refine kV fun hc=>?_|refine kZ (fun hc=>?_) fun hc=>?_|fail)
      refine OW_EV (EV_indexAddr (j := k) rfl rfl rfl hk) rfl ?_
      (repeat' first|refine kW ?_|refine kU fun bk=>?_|refine kV fun hc=>?_|refine kZ (fun hc=>?_) fun hc=>?_|fail)
      refine OW_EV (EV_load rfl hfn g0) rfl ?_
      refine WL_plain rfl ?_
      refine OW_EV (EV_eqT e [] w1 rfl rfl) rfl ?_
      (repeat' first|refine kW ?_|refine kU fun bk=>?_|refine kV fun hc=>?_|refine kZ (fun hc=>?_) fun hc=>?_|fail)
      exact kE
    obtain ⟨c0, hc0⟩ : ∃ c0, e[0]? = some c0 := by
      cases e with
      | nil => exact absurd rfl w1
      | cons x r => exact ⟨x, rfl⟩
    have hget := str_gt hc0
    have hgd : e.getD 0 0 = c0 := by rw [List.getD_eq_getElem?_getD, hc0]; rfl
    by_cases w2 : c0.toNat = 46
    · rw [hbadp (by unfold ptB; rw [hgd, decide_eq_false (p := c0 ≠ 46) (by rw [show c0 = 46 from UInt8.toNat_inj.1 w2]; simp)]; simp)]
      (repeat' first|refine kW ?_|refine kU fun bk=>?_|refine kV fun hc=>?_|refine kZ (fun hc=>?_) fun hc=>?_|fail)
      refine OW_EV (EV_indexAddr (j := k) rfl rfl rfl hk) rfl ?_
      (repeat' first|refine kW ?_|refine kU fun bk=>?_|refine kV fun hc=>?_|refine kZ (fun hc=>?_) fun hc=>?_|fail)
      refine OW_EV (EV_load rfl hfn g0) rfl ?_
      refine WL_plain rfl ?_
      refine OW_EV (EV_eqF e [] w1 rfl rfl) rfl ?_
      (repeat' first|refine kW ?_|refine kU fun bk=>?_|refine kV fun hc=>?_|refine kZ (fun hc=>?_) fun hc=>?_|fail)
      refine OW_EV (EV_indexAddr (j := k) rfl rfl rfl hk) rfl ?_
      (repeat' first|refine kW ?_|refine kU fun bk=>?_|refine kV fun hc=>?_|refine kZ (fun hc=>?_) fun hc=>?_|fail)
      refine OW_EV (EV_load rfl hfn g0) rfl ?_
      (repeat' first|refine kW ?_|refine kU fun bk=>?_|refine kV fun hc=>?_|refine kZ (fun hc=>?_) fun hc=>?_|fail)
      refine OW_EV (EV_indexStr (j := 0) (u := c0) rfl rfl rfl hget) rfl ?_
      (repeat' first|refine kW ?_|refine kU fun bk=>?_|refine kV fun hc=>?_|refine kZ (fun hc=>?_) fun hc=>?_|fail)
      exact kE
    have hr := rends_n e lockL (C :: L) (by omega) (by simp [lockL])
    have hpb : ptB e = !endB e lockL := by
      unfold ptB
      rw [hgd, decide_eq_true w1, decide_eq_true (p := c0 ≠ 46) (fun u => w2 (by rw [u]; rfl))]
      rfl
    (repeat' first|refine kW ?_|refine kU fun bk=>?_|refine kV fun hc=>?_|refine kZ (fun hc=>?_) fun hc=>?_|fail)
    refine OW_EV (EV_indexAddr (j := k) rfl rfl rfl hk) rfl ?_
    (repeat' first|refine kW ?_|refine kU fun bk=>?_|refine kV fun hc=>?_|refine kZ (fun hc=>?_) fun hc=>?_|fail)
    refine OW_EV (EV_load rfl hfn g0) rfl ?_
    refine WL_plain rfl ?_
    refine OW_EV (EV_eqF e [] w1 rfl rfl) rfl ?_
    (repeat' first|refine kW ?_|refine kU fun bk=>?_|refine kV fun hc=>?_|refine kZ (fun hc=>?_) fun hc=>?_|fail)
    refine OW_EV (EV_indexAddr (j := k) rfl rfl rfl hk) rfl ?_
    (repeat' first|refine kW ?_|refine kU fun bk=>?_|refine kV fun hc=>?_|refine kZ (fun hc=>?_) fun hc=>?_|fail)
    refine OW_EV (EV_load rfl hfn g0) rfl ?_
    (repeat' first|refine kW ?_|refine kU fun bk=>?_|refine kV fun hc=>?_|refine kZ (fun hc=>?_) fun hc=>?_|fail)
    refine OW_EV (EV_indexStr (j := 0) (u := c0) rfl rfl rfl hget) rfl ?_
    (repeat' first|refine kW ?_|refine kU fun bk=>?_|refine kV fun hc=>?_|refine kZ (fun hc=>?_) fun hc=>?_|fail)
    refine OW_EV (EV_indexAddr (j := k) rfl rfl rfl hk) rfl ?_
    (repeat' first|refine kW ?_|refine kU fun bk=>?_|refine kV fun hc=>?_|refine kZ (fun hc=>?_) fun hc=>?_|fail)
    refine OW_EV (EV_load rfl hfn g0) rfl ?_
    (repeat' first|refine kW ?_|refine kU fun bk=>?_|refine kV fun hc=>?_|refine kZ (fun hc=>?_) fun hc=>?_|fail)
    cases hb : endB e lockL with
    | true =>
      rw [hb] at hr hpb
      rw [hbadp hpb]
      refine OW_callP rfl rfl rfl hr rfl ?_
      (repeat' first|refine kW ?_|refine kU fun bk=>?_|refine kV fun hc=>?_|refine kZ (fun hc=>?_) fun hc=>?_|fail)
      exact kE
    | false =>
      rw [hb] at hr hpb
      refine OW_callP rfl rfl rfl hr rfl ?_
      (repeat' first|refine kW ?_|refine kU fun bk=>?_|refine kV fun hc=>?_|refine kZ (fun hc=>?_) fun hc=>?_|fail)
      refine WQ_round (X := Nat) (μ := fun k => l.length - k) (x := k) (k + 1) (by omega) ⟨by omega, ?_⟩ iS (fun w h => h)
      rw [List.take_add_one, he, List.all_append, r2]
      simp [hpb]
  obtain rfl : k = l.length := by omega
  rw [List.take_length] at r2
  rw [r2]
  (repeat' first|refine kW ?_|refine kU fun bk=>?_|refine kV fun hc=>?_|refine kZ (fun hc=>?_) fun hc=>?_|fail)
  exact kE
end
end Go.Proofs.YtehpnblbkldojaaDoor
namespace Go.Vx
open Go
set_option linter.all false
variable [W0]
section
variable {P : Program} {n : Nat} {Q : Exit → Act → World → Prop} {M : List (Nat × Value)} {L S : List Chunk} {ops : List Oper} {T : List Nat} {fuel : Nat} {listed : Array Bool} {d : Nat} {v : Value}
variable {ty : TypeId} {ps : String} {af : Array Edge} {g : Option (Nat × Bool)} {x y : Operand}
theorem WC_cut {X : Type} {x y : Code} (MI : X → List (Nat × Value)) (LI : X → List Chunk) (J : X → Prop) (h1 : WC P n x (Exit.then (fun a' w' => ∃ z, J z ∧ St n (MI z) a' ∧ Holds w' (LI z)) Q) M L) (h2 : ∀ z, J z → WC P n y Q (MI z) (LI z)) : WC P n (.seq x y) Q M L := ⟨fun a w ha hw => by
  refine wp_seq (wp_mono (h1.out a w ha hw) ?_)
  intro e a' w' hq
  cases e with
  | normal =>
    obtain ⟨z, hz, hs, hw'⟩ := hq
    exact (h2 z hz).out a' w' hs hw'
  | exit id => exact hq
  | goto l => exact hq
  | ret => exact hq
  | panic c => exact hq
  | outgrown => exact hq⟩
theorem WQ_cut {X : Type} {MI : X → List (Nat × Value)} {LI : X → List Chunk} {J : X → Prop} (z : X) (hJ : J z) (hM : Sub (MI z) M) (hL : ∀ w, Holds w L → Holds w (LI z)) : WQ n (fun a' w' => ∃ z, J z ∧ St n (MI z) a' ∧ Holds w' (LI z)) M L := ⟨fun _ w ha hw => ⟨z, hJ, ha.sub hM, hL w hw⟩⟩
end
end Go.Vx
namespace Go.Proofs.YtehpnblbkldojaaDoor
open Go Go.Vx Go.Nm Go.Ob Go.Lib
set_option linter.all false
set_option maxRecDepth 4000
def spV (p : Sp) : List Value := [.bool p.force, .string (str p.src), .string (str p.dst)]
end Go.Proofs.YtehpnblbkldojaaDoor
namespace Go.Proofs.YtehpnblbkldojaaDoor
open Go Go.Vx Go.Nm Go.Ob Go.Lib
set_option linter.all false
set_option maxRecDepth 4000
section
variable [W0]
theorem fits_n (s : List UInt8) (L : List Chunk) (hb : UtAt L) (hs : s.length ≤ 2000000) : GvP Tryd.prog 34 [.string (str s)].toArray L (.bool (myN s).1) := by
  refine Gv.of_body (args := [.string (str s)]) Tryd.func34 rfl rfl ?_
  have hr := replace_n s [120] L hb hs (by decide)
  have hv := nvalid_n (rp1 s [120]) L hb (by rw [rp1_len]; omega)
  rw [fits_my] at hv
  generalize rp1 s [120] = t at *
  (repeat' first|refine kW ?_|refine kU fun bk=>?_|refine kV fun hc=>?_|refine kZ (fun hc=>?_) fun hc=>?_|fail)
  refine OW_callP rfl rfl rfl hr rfl ?_
  (repeat' first|refine kW ?_|refine kU fun bk=>?_|refine kV fun hc=>?_|refine kZ (fun hc=>?_) fun hc=>?_|fail)
  refine OW_callP rfl rfl rfl hv rfl ?_
  (repeat' first|refine kW ?_|refine kU fun bk=>?_|refine kV fun hc=>?_|refine kZ (fun hc=>?_) fun hc=>?_|fail)
  exact kE
set_option maxHeartbeats 4000000 in
theorem pvalid_n (p : Sp) (L : List Chunk) (hb : UtAt L) (h1 : p.src.length ≤ 2000000) (h2 : p.dst.length ≤ 2000000) : GvP Tryd.prog 22 [.agg (spV p).toArray].toArray L (.bool (pvN p.src p.dst)) := by
  obtain ⟨f, a, b⟩ := p
  simp only at h1 h2
  refine Gv.of_body (args := [.agg (spV ⟨f, a, b⟩).toArray]) Tryd.func22 rfl rfl ?_
  unfold spV
  have ha := fun C => fits_n a (C :: L) hb.there h1
  have hd := fun C => fits_n b (C :: L) hb.there h2
  have ca := fun C => contains_n a 42 (C :: L)
  have cb := fun C => contains_n b 42 (C :: L)
  have hpv : pvN a b = ((decide (a = []) || (myN a).1) && (myN b).1 && decide (decide (42 ∈ a) = decide (42 ∈ b))) := rfl
  rw [show (⟨f, a, b⟩ : Sp).src = a from rfl, show (⟨f, a, b⟩ : Sp).dst = b from rfl, hpv]
  clear hpv
  generalize (myN a).1 = ma at *
  generalize (myN b).1 = mb at *
  generalize decide (42 ∈ a) = sa at *
  generalize decide (42 ∈ b) = sb at *
  have heq : ∀ x y : Bool, (x == y) = decide (x = y) := by decide
  (repeat' first|refine kW ?_|refine kU fun bk=>?_|refine kV fun hc=>?_|refine kZ (fun hc=>?_) fun hc=>?_|fail)
  revert bk; intro q
  by_cases e1 : a = []
  · rw [decide_eq_true e1, Bool.true_or, Bool.true_and]
    cases mb with
    | false =>
      refine WC_drawAll [] mixed ?_
      (refine WR_t 0 ?_; refine WR_t 1 ?_)
      (refine WR_take 2 rfl rfl (by kernel_rfl) iP iC (EV_eqT a [] e1 rfl rfl) (by rfl) ?_)
      (refine WR_t 3 ?_)
      (refine WR_v 4 ?_; refine WR_v 5 ?_; refine WR_v 6 ?_)
      (refine WR_t 7 ?_; refine WR_t 8 ?_)
      (refine WR_u 9 ?_; refine WR_u 10 ?_)
      (refine WR_oneOn 11 (by kernel_rfl) rfl rfl rfl ?_)
      refine OW_callP rfl rfl rfl (hd _) rfl ?_
      refine ⟨iC, ?_⟩
      (refine WR_t 12 ?_; refine WR_t 13 ?_)
      (refine WR_v 14 ?_; refine WR_v 15 ?_; refine WR_v 16 ?_; refine WR_v 17 ?_; refine WR_v 18 ?_; refine WR_v 19 ?_; refine WR_v 20 ?_)
      (refine WR_t 21 ?_; refine WR_t 22 ?_)
      (refine WR_done (by kernel_rfl) ?_)
      (repeat' first|refine kW ?_|refine kU fun bk=>?_|refine kV fun hc=>?_|refine kZ (fun hc=>?_) fun hc=>?_|fail)
      exact kE
    | true =>
      refine WC_drawAll [] mixed ?_
      (refine WR_t 0 ?_; refine WR_t 1 ?_)
      (refine WR_take 2 rfl rfl (by kernel_rfl) iP iC (EV_eqT a [] e1 rfl rfl) (by rfl) ?_)
      (refine WR_t 3 ?_)
      (refine WR_v 4 ?_; refine WR_v 5 ?_; refine WR_v 6 ?_)
      (refine WR_t 7 ?_; refine WR_t 8 ?_)
      (refine WR_u 9 ?_; refine WR_u 10 ?_)
      (refine WR_oneOn 11 (by kernel_rfl) rfl rfl rfl ?_)
      refine OW_callP rfl rfl rfl (hd _) rfl ?_
      refine ⟨iC, ?_⟩
      (refine WR_t 12 ?_; refine WR_t 13 ?_)
      (refine WR_u 14 ?_; refine WR_u 15 ?_)
      (refine WR_u 17 ?_; refine WR_u 18 ?_)
      (refine WR_oneOn 16 (by kernel_rfl) rfl rfl rfl ?_)
      refine OW_callP rfl rfl rfl (ca _) rfl ?_
      refine ⟨iC, ?_⟩
      (refine WR_oneOn 19 (by kernel_rfl) rfl rfl rfl ?_)
      refine OW_callP rfl rfl rfl (cb _) rfl ?_
      refine ⟨iC, ?_⟩
      (refine WR_takeOn 20 rfl rfl rfl (by kernel_rfl) iP iC (EV_boolEq rfl rfl) (by rfl) ?_)
      rw [heq]
      (refine WR_t 21 ?_; refine WR_t 22 ?_)
      (refine WR_done (by kernel_rfl) ?_)
      (repeat' first|refine kW ?_|refine kU fun bk=>?_|refine kV fun hc=>?_|refine kZ (fun hc=>?_) fun hc=>?_|fail)
      exact kE
  · rw [decide_eq_false e1, Bool.false_or]
    cases ma with
    | false =>
      rw [Bool.false_and, Bool.false_and]
      refine WC_drawAll [] mixed ?_
      (refine WR_t 0 ?_; refine WR_t 1 ?_)
      (refine WR_take 2 rfl rfl (by kernel_rfl) iP iC (EV_eqF a [] e1 rfl rfl) (by rfl) ?_)
      (refine WR_t 3 ?_)
      (refine WR_u 4 ?_; refine WR_u 5 ?_)
      (refine WR_oneOn 6 (by kernel_rfl) rfl rfl rfl ?_)
      refine OW_callP rfl rfl rfl (ha _) rfl ?_
      refine ⟨iC, ?_⟩
      (refine WR_t 7 ?_; refine WR_t 8 ?_)
      (refine WR_v 9 ?_; refine WR_v 10 ?_; refine WR_v 11 ?_)
      (refine WR_t 12 ?_; refine WR_t 13 ?_)
      (refine WR_v 14 ?_; refine WR_v 15 ?_; refine WR_v 16 ?_; refine WR_v 17 ?_; refine WR_v 18 ?_; refine WR_v 19 ?_; refine WR_v 20 ?_)
      (refine WR_t 21 ?_; refine WR_t 22 ?_)
      (refine WR_done (by kernel_rfl) ?_)
      (repeat' first|refine kW ?_|refine kU fun bk=>?_|refine kV fun hc=>?_|refine kZ (fun hc=>?_) fun hc=>?_|fail)
      exact kE
    | true =>
      rw [Bool.true_and]
      cases mb with
      | false =>
        refine WC_drawAll [] mixed ?_
        (refine WR_t 0 ?_; refine WR_t 1 ?_)
        (refine WR_take 2 rfl rfl (by kernel_rfl) iP iC (EV_eqF a [] e1 rfl rfl) (by rfl) ?_)
        (refine WR_t 3 ?_)
        (refine WR_u 4 ?_; refine WR_u 5 ?_)
        (refine WR_oneOn 6 (by kernel_rfl) rfl rfl rfl ?_)
        refine OW_callP rfl rfl rfl (ha _) rfl ?_
        refine ⟨iC, ?_⟩
        (refine WR_t 7 ?_; refine WR_t 8 ?_)
        (refine WR_u 9 ?_; refine WR_u 10 ?_)
        (refine WR_oneOn 11 (by kernel_rfl) rfl rfl rfl ?_)
        refine OW_callP rfl rfl rfl (hd _) rfl ?_
        refine ⟨iC, ?_⟩
        (refine WR_t 12 ?_; refine WR_t 13 ?_)
        (refine WR_v 14 ?_; refine WR_v 15 ?_; refine WR_v 16 ?_; refine WR_v 17 ?_; refine WR_v 18 ?_; refine WR_v 19 ?_; refine WR_v 20 ?_)
        (refine WR_t 21 ?_; refine WR_t 22 ?_)
        (refine WR_done (by kernel_rfl) ?_)
        (repeat' first|refine kW ?_|refine kU fun bk=>?_|refine kV fun hc=>?_|refine kZ (fun hc=>?_) fun hc=>?_|fail)
        exact kE
      | true =>
        refine WC_drawAll [] mixed ?_
        (refine WR_t 0 ?_; refine WR_t 1 ?_)
        (refine WR_take 2 rfl rfl (by kernel_rfl) iP iC (EV_eqF a [] e1 rfl rfl) (by rfl) ?_)
        (refine WR_t 3 ?_)
        (refine WR_u 4 ?_; refine WR_u 5 ?_)
        (refine WR_oneOn 6 (by kernel_rfl) rfl rfl rfl ?_)
        refine OW_callP rfl rfl rfl (ha _) rfl ?_
        refine ⟨iC, ?_⟩
        (refine WR_t 7 ?_; refine WR_t 8 ?_)
        (refine WR_u 9 ?_; refine WR_u 10 ?_)
        (refine WR_oneOn 11 (by kernel_rfl) rfl rfl rfl ?_)
        refine OW_callP rfl rfl rfl (hd _) rfl ?_
        refine ⟨iC, ?_⟩
        (refine WR_t 12 ?_; refine WR_t 13 ?_)
        (refine WR_u 14 ?_; refine WR_u 15 ?_)
        (refine WR_u 17 ?_; refine WR_u 18 ?_)
        (refine WR_oneOn 16 (by kernel_rfl) rfl rfl rfl ?_)
        refine OW_callP rfl rfl rfl (ca _) rfl ?_
        refine ⟨iC, ?_⟩
        (refine WR_oneOn 19 (by kernel_rfl) rfl rfl rfl ?_)
        refine OW_callP rfl rfl rfl (cb _) rfl ?_
        refine ⟨iC, ?_⟩
        (refine WR_takeOn 20 rfl rfl rfl (by kernel_rfl) iP iC (EV_boolEq rfl rfl) (by rfl) ?_)
        rw [heq]
        (refine WR_t 21 ?_; refine WR_t 22 ?_)
        (refine WR_done (by kernel_rfl) ?_)
        (repeat' first|refine kW ?_|refine kU fun bk=>?_|refine kV fun hc=>?_|refine kZ (fun hc=>?_) fun hc=>?_|fail)
        exact kE
end
end Go.Proofs.YtehpnblbkldojaaDoor
namespace Go.Nm
open Go Go.Lib
set_option linter.all false
def tgP (a d s : List UInt8) : List UInt8 × Bool :=
  if 42 ∈ a then
    if ((cuS 42 a).1.length ≤ s.length ∧ s.take (cuS 42 a).1.length = (cuS 42 a).1) ∧ endB (s.drop (cuS 42 a).1.length) (cuS 42 a).2.1 = true ∧ 42 ∉ (cuS 42 a).2.1 ∧ 42 ∈ d then
      (rp1 d ((s.drop (cuS 42 a).1.length).take ((s.drop (cuS 42 a).1.length).length - (cuS 42 a).2.1.length)), true)
    else ([], false)
  else (d, decide (s = a))
theorem tg_p (a d s : List UInt8) : tgN a d s = if (tgP a d s).2 = true then some (tgP a d s).1 else none := by
  unfold tgN tgP
  split
  · split
    · rfl
    · rfl
  · simp only [decide_eq_true_eq]
theorem rp1_le (s x : List UInt8) : (rp1 s x).length ≤ s.length + x.length := by
  unfold rp1
  split
  · omega
  · simp only [List.length_append, List.length_take, List.length_drop]
    omega
theorem tgP_le (a d s : List UInt8) : (tgP a d s).1.length ≤ d.length + s.length := by
  unfold tgP
  split
  · split
    · refine Nat.le_trans (rp1_le _ _) ?_
      simp only [List.length_take, List.length_drop]
      omega
    · simp
  · simp
theorem mp_tg (f : Bool) (a d s : List UInt8) (h : pvN a d = true) : mpN ⟨f, a, d⟩ s = if (tgP a d s).2 = true ∧ vlN (tgP a d s).1 = true then some (tgP a d s).1 else none := by
  rw [mp_prog f a d s h, tg_p]
  generalize (tgP a d s).1 = y
  generalize (tgP a d s).2 = b
  cases b <;> cases hv : vlN y <;> simp [hv]
end Go.Nm
namespace Go.Proofs.YtehpnblbkldojaaDoor
open Go Go.Vx Go.Nm Go.Ob Go.Lib
set_option linter.all false
set_option maxRecDepth 4000
section
variable [W0]
theorem cut0_n (s : List UInt8) (c : UInt8) (L : List Chunk) (hs : s.length ≤ 9223372036854775000) : GvP Tryd.prog 33 [.string (str s), .string (str [c])].toArray L (.tuple #[.string (str (cuS c s).1), .string (str (cuS c s).2.1), .bool (cuS c s).2.2]) := by
  refine Gv.of_body (args := [.string (str s), .string (str [c])]) Tryd.func33 rfl rfl ?_
  have z1 : (str s).size = s.length := str_size s
  have z2 : (str [c]).size = 1 := rfl
  have hi := index0_n s c L
  rcases ix_cases c s with ⟨h1, h2⟩ | ⟨k, h1, h2, h3, h4⟩
  · rw [cu_none h1]
    rw [h2] at hi
    (repeat' first|refine kW ?_|refine kU fun bk=>?_|refine kV fun hc=>?_|refine kZ (fun hc=>?_) fun hc=>?_|fail)
    refine OW_callP rfl rfl rfl hi rfl ?_
    (repeat' first|refine kW ?_|refine kU fun bk=>?_|refine kV fun hc=>?_|refine kZ (fun hc=>?_) fun hc=>?_|fail)
    exact kE
  · have e : cuS c s = (s.take k, s.drop (k + 1), true) := by
      unfold cuS
      rw [h2, if_neg (by omega), Int.toNat_natCast]
    rw [e]
    rw [h2] at hi
    clear e
    (repeat' first|refine kW ?_|refine kU fun bk=>?_|refine kV fun hc=>?_|refine kZ (fun hc=>?_) fun hc=>?_|fail)
    refine OW_callP rfl rfl rfl hi rfl ?_
    (repeat' first|refine kW ?_|refine kU fun bk=>?_|refine kV fun hc=>?_|refine kZ (fun hc=>?_) fun hc=>?_|fail)
    refine WC_drawAll [] mixed ?_
    (refine WR_t 0 ?_; refine WR_t 1 ?_)
    (refine WR_take 2 rfl rfl (by kernel_rfl) iP iC (EV_cutL s 0 k rfl rfl (bnd_int rfl rfl) (Nat.zero_le _) (by omega)) (by rfl) ?_)
    rw [List.drop_zero, Nat.sub_zero]
    (refine WR_t 3 ?_; refine WR_t 4 ?_; refine WR_t 5 ?_; refine WR_t 6 ?_; refine WR_t 7 ?_)
    (refine WR_take 8 rfl rfl (by kernel_rfl) iP iC (EV_cutL s (k + 1) s.length rfl (bnd_int rfl (by omega)) rfl (by omega) (Nat.le_refl _)) (by rfl) ?_)
    rw [List.take_of_length_le (l := s.drop (k + 1)) (by simp)]
    (refine WR_t 9 ?_; refine WR_t 10 ?_; refine WR_t 11 ?_)
    (refine WR_done (by kernel_rfl) ?_)
    (repeat' first|refine kW ?_|refine kU fun bk=>?_|refine kV fun hc=>?_|refine kZ (fun hc=>?_) fun hc=>?_|fail)
    exact kE
theorem cut_n (s : List UInt8) (c : UInt8) (L : List Chunk) (hs : s.length ≤ 9223372036854775000) : GvP Tryd.prog 21 [.string (str s), .string (str [c])].toArray L (.tuple #[.string (str (cuS c s).1), .string (str (cuS c s).2.1), .bool (cuS c s).2.2]) := by
  refine Gv.of_body (args := [.string (str s), .string (str [c])]) Tryd.func21 rfl rfl ?_
  have h := cut0_n s c L hs
  generalize cuS c s = r at *
  (repeat' first|refine kW ?_|refine kU fun bk=>?_|refine kV fun hc=>?_|refine kZ (fun hc=>?_) fun hc=>?_|fail)
  refine OW_callP rfl rfl rfl h rfl ?_
  (repeat' first|refine kW ?_|refine kU fun bk=>?_|refine kV fun hc=>?_|refine kZ (fun hc=>?_) fun hc=>?_|fail)
  exact kE
omit [W0] in
theorem pl_cut (s : List UInt8) : (if [43].length ≤ s.length ∧ s.take [43].length = [43] then Value.tuple #[.string (str (s.drop [43].length)), .bool true] else .tuple #[.string (str s), .bool false]) = .tuple #[.string (str (plN s).2), .bool (plN s).1] := by
  rcases pl_cases s with ⟨r, rfl, e⟩ | ⟨e, h⟩
  · rw [e, if_pos (by simp)]
    rfl
  · rw [e, if_neg]
    rintro ⟨h1, h2⟩
    rcases s with _ | ⟨c, r⟩
    · simp at h1
    · exact h c r rfl (by simpa using h2)
omit [W0] in
theorem cu_le (c : UInt8) (u : List UInt8) : (cuS c u).1.length ≤ u.length ∧ (cuS c u).2.1.length ≤ u.length := by
  unfold cuS
  split
  · exact ⟨Nat.le_refl _, by simp⟩
  · exact ⟨by simp; omega, by simp⟩
set_option maxHeartbeats 8000000 in
theorem nparse_n (s : List UInt8) (L : List Chunk) (hb : UtAt L) (hs : s.length ≤ 2000000) : GvP Tryd.prog 8 [.string (str s)].toArray L (match psN s with | some p => .tuple #[.agg (spV p).toArray, .int .i64 0] | none => .tuple #[.agg (spV ⟨false, [], []⟩).toArray, .int .i64 3]) := by
  refine Gv.of_body (args := [.string (str s)]) Tryd.func8 rfl rfl ?_
  have hcp : ∀ L, GvP Tryd.prog 20 [.string (str s), .string (str [43])].toArray L (.tuple #[.string (str (plN s).2), .bool (plN s).1]) := fun L => by
    rw [← pl_cut]
    exact cutprefix_n s [43] L (by omega) (by decide)
  rw [ps_prog]
  have hul : (plN s).2.length ≤ s.length := by
    rcases pl_cases s with ⟨r, rfl, e⟩ | ⟨e, h⟩
    · rw [e]; simp
    · rw [e]; exact Nat.le_refl _
  generalize (plN s).1 = fo at *
  generalize (plN s).2 = u at *
  have hcu := fun L => cut_n u 58 L (by omega)
  obtain ⟨l1, l2⟩ := cu_le 58 u
  obtain ⟨a, ha⟩ : ∃ a, a = (cuS 58 u).1 := ⟨_, rfl⟩
  obtain ⟨b, hb0⟩ : ∃ b, b = (cuS 58 u).2.1 := ⟨_, rfl⟩
  obtain ⟨tw, htw⟩ : ∃ t, t = (cuS 58 u).2.2 := ⟨_, rfl⟩
  rw [← ha, ← hb0, ← htw] at hcu
  rw [← ha, ← hb0, ← htw]
  rw [← ha] at l1
  rw [← hb0] at l2
  clear ha hb0 htw
  obtain ⟨d, hd⟩ : ∃ d, d = (if tw = true then b else a) := ⟨_, rfl⟩
  rw [← hd]
  have ld : d.length ≤ u.length := by rw [hd]; split <;> assumption
  have hpv : ∀ L (h : UtAt L), GvP Tryd.prog 22 [.agg (spV ⟨fo, a, d⟩).toArray].toArray L (.bool (pvN a d)) := fun L h => pvalid_n ⟨fo, a, d⟩ L h (by simp only; omega) (by simp only; omega)
  refine WC_seq ?_
  (repeat' first|refine kY ?_|refine kU fun bk=>?_|refine kV fun hc=>?_|refine kZ (fun hc=>?_) fun hc=>?_|fail)
  revert bk; intro r
  refine WC_seq ?_
  (repeat' first|refine kY ?_|refine kU fun bk=>?_|refine kV fun hc=>?_|refine kZ (fun hc=>?_) fun hc=>?_|fail)
  refine OW_callP rfl rfl rfl (hcp _) rfl ?_
  (repeat' first|refine kY ?_|refine kU fun bk=>?_|refine kV fun hc=>?_|refine kZ (fun hc=>?_) fun hc=>?_|fail)
  refine WC_seq ?_
  (repeat' first|refine kY ?_|refine kU fun bk=>?_|refine kV fun hc=>?_|refine kZ (fun hc=>?_) fun hc=>?_|fail)
  refine OW_callP rfl rfl rfl (hcu _) rfl ?_
  (repeat' first|refine kY ?_|refine kU fun bk=>?_|refine kV fun hc=>?_|refine kZ (fun hc=>?_) fun hc=>?_|fail)
  refine WC_cut (X := Unit) (fun _ => [(2, .pointer (some ⟨r, 0, none⟩)), (3, .int .i64 0), (4, .string (str a)), (5, .bool fo), (6, .string (str d))]) (fun _ => [(r, cl [.bool false, .string (str []), .string (str [])] 25)] :: L) (fun _ => True) ?_ ?_
  · cases tw with
    | true =>
      rw [if_pos rfl] at hd
      subst hd
      (repeat' first|refine kW ?_|refine kU fun bk=>?_|refine kV fun hc=>?_|refine kZ (fun hc=>?_) fun hc=>?_|fail)
      exact WQ_cut () trivial iS (fun w h => h)
    | false =>
      rw [if_neg Bool.false_ne_true] at hd
      subst hd
      (repeat' first|refine kW ?_|refine kU fun bk=>?_|refine kV fun hc=>?_|refine kZ (fun hc=>?_) fun hc=>?_|fail)
      exact WQ_cut () trivial iS (fun w h => h)
  intro _ _
  clear hd hcp hcu
  cases hv : pvN a d with
  | true =>
    simp only [hv] at hpv
    rw [if_pos rfl]
    (repeat' first|refine kW ?_|refine kU fun bk=>?_|refine kV fun hc=>?_|refine kZ (fun hc=>?_) fun hc=>?_|fail)
    revert bk; intro q
    refine OW_callP rfl rfl rfl (hpv _ hb.there.there) rfl ?_
    (repeat' first|refine kW ?_|refine kU fun bk=>?_|refine kV fun hc=>?_|refine kZ (fun hc=>?_) fun hc=>?_|fail)
    first
      | (refine WQ_retC (vs := [.agg (spV ⟨fo, a, d⟩).toArray, .int .i64 0]) rfl (.agg ⟨by kernel_rfl, by kernel_rfl⟩ rfl (RdAt.cl' (vs := spV ⟨fo, a, d⟩) (by repeat (first | assumption | exact Fnd.here | refine Fnd.there ?_)) rfl) rfl (.tmp rfl .nil)) ?_
         exact ⟨_, fun w h => h.drop.drop, rfl, rfl⟩)
      | (refine WQ_endC (vs := [.agg (spV ⟨fo, a, d⟩).toArray, .int .i64 0]) rfl (.agg ⟨by kernel_rfl, by kernel_rfl⟩ rfl (RdAt.cl' (vs := spV ⟨fo, a, d⟩) (by repeat (first | assumption | exact Fnd.here | refine Fnd.there ?_)) rfl) rfl (.tmp rfl .nil)) ?_
         exact ⟨_, fun w h => h.drop.drop, rfl, rfl⟩)
  | false =>
    simp only [hv] at hpv
    rw [if_neg Bool.false_ne_true]
    (repeat' first|refine kW ?_|refine kU fun bk=>?_|refine kV fun hc=>?_|refine kZ (fun hc=>?_) fun hc=>?_|fail)
    revert bk; intro q
    refine OW_callP rfl rfl rfl (hpv _ hb.there.there) rfl ?_
    (repeat' first|refine kW ?_|refine kU fun bk=>?_|refine kV fun hc=>?_|refine kZ (fun hc=>?_) fun hc=>?_|fail)
    first
      | (refine WQ_retC (vs := [.agg (spV ⟨false, [], []⟩).toArray, .int .i64 3]) rfl (.agg ⟨by kernel_rfl, by kernel_rfl⟩ rfl (RdAt.cl' (vs := spV ⟨false, [], []⟩) (by repeat (first | assumption | exact Fnd.here | refine Fnd.there ?_)) rfl) rfl (.tmp rfl .nil)) ?_
         exact ⟨_, fun w h => h.drop.drop, rfl, rfl⟩)
      | (refine WQ_endC (vs := [.agg (spV ⟨false, [], []⟩).toArray, .int .i64 3]) rfl (.agg ⟨by kernel_rfl, by kernel_rfl⟩ rfl (RdAt.cl' (vs := spV ⟨false, [], []⟩) (by repeat (first | assumption | exact Fnd.here | refine Fnd.there ?_)) rfl) rfl (.tmp rfl .nil)) ?_
         exact ⟨_, fun w h => h.drop.drop, rfl, rfl⟩)
set_option maxHeartbeats 8000000 in
theorem ntarget_n (p : Sp) (s : List UInt8) (L : List Chunk) (hb : UtAt L) (h1 : p.src.length ≤ 2000000) (h2 : p.dst.length ≤ 2000000) (h3 : s.length ≤ 2000000) : GvP Tryd.prog 23 [.agg (spV p).toArray, .string (str s)].toArray L (.tuple #[.string (str (tgP p.src p.dst s).1), .bool (tgP p.src p.dst s).2]) := by
  obtain ⟨f, a, d⟩ := p
  simp only at h1 h2 ⊢
  refine Gv.of_body (args := [.agg (spV ⟨f, a, d⟩).toArray, .string (str s)]) Tryd.func23 rfl rfl ?_
  unfold spV
  have hcu := fun L => cut_n a 42 L (by omega)
  by_cases g : 42 ∈ a
  rotate_left
  · rw [show tgP a d s = (d, decide (s = a)) from by unfold tgP; rw [if_neg g]]
    simp only [cu_none g] at hcu
    (repeat' first|refine kW ?_|refine kU fun bk=>?_|refine kV fun hc=>?_|refine kZ (fun hc=>?_) fun hc=>?_|fail)
    revert bk; intro q
    refine OW_callP rfl rfl rfl (hcu _) rfl ?_
    (repeat' first|refine kW ?_|refine kU fun bk=>?_|refine kV fun hc=>?_|refine kZ (fun hc=>?_) fun hc=>?_|fail)
    refine WC_drawAll [] mixed ?_
    (refine WR_t 0 ?_; refine WR_t 1 ?_; refine WR_t 2 ?_; refine WR_t 3 ?_; refine WR_t 4 ?_)
    (refine WR_take 5 rfl rfl (by kernel_rfl) iP iC (EV_eqL s a rfl rfl) (by rfl) ?_)
    (refine WR_t 6 ?_; refine WR_t 7 ?_)
    (refine WR_done (by kernel_rfl) ?_)
    (repeat' first|refine kW ?_|refine kU fun bk=>?_|refine kV fun hc=>?_|refine kZ (fun hc=>?_) fun hc=>?_|fail)
    exact kE
  obtain ⟨l1, l2⟩ := cu_le 42 a
  have htw : (cuS 42 a).2.2 = true := by
    rcases ix_cases 42 a with h | ⟨k, k1, k2, k3, k4⟩
    · exact absurd g h.1
    · unfold cuS
      rw [k2, if_neg (by omega)]
  have htg : tgP a d s = if ((cuS 42 a).1.length ≤ s.length ∧ s.take (cuS 42 a).1.length = (cuS 42 a).1) ∧ endB (s.drop (cuS 42 a).1.length) (cuS 42 a).2.1 = true ∧ 42 ∉ (cuS 42 a).2.1 ∧ 42 ∈ d then
      (rp1 d ((s.drop (cuS 42 a).1.length).take ((s.drop (cuS 42 a).1.length).length - (cuS 42 a).2.1.length)), true)
    else ([], false) := by
    unfold tgP
    rw [if_pos g]
  rw [htg]
  simp only [htw] at hcu
  clear htg htw
  generalize (cuS 42 a).1 = bg at *
  generalize (cuS 42 a).2.1 = en at *
  have hcp := fun L => cutprefix_n s bg L (by omega) (by omega)
  by_cases c1 : bg.length ≤ s.length ∧ s.take bg.length = bg
  rotate_left
  · simp only [if_neg c1] at hcp
    rw [if_neg (fun w => c1 w.1)]
    have hcs := fun L => cutsuffix_n s en L (by omega) (by omega)
    obtain ⟨y, z, hyz⟩ : ∃ y z, (if endB s en = true then Value.tuple #[.string (str (s.take (s.length - en.length))), .bool true] else .tuple #[.string (str s), .bool false]) = .tuple #[.string y, .bool z] := by
      split
      · exact ⟨_, _, rfl⟩
      · exact ⟨_, _, rfl⟩
    simp only [hyz] at hcs
    (repeat' first|refine kW ?_|refine kU fun bk=>?_|refine kV fun hc=>?_|refine kZ (fun hc=>?_) fun hc=>?_|fail)
    revert bk; intro q
    refine OW_callP rfl rfl rfl (hcu _) rfl ?_
    (repeat' first|refine kW ?_|refine kU fun bk=>?_|refine kV fun hc=>?_|refine kZ (fun hc=>?_) fun hc=>?_|fail)
    refine OW_callP rfl rfl rfl (hcp _) rfl ?_
    (repeat' first|refine kW ?_|refine kU fun bk=>?_|refine kV fun hc=>?_|refine kZ (fun hc=>?_) fun hc=>?_|fail)
    refine OW_callP rfl rfl rfl (hcs _) rfl ?_
    (repeat' first|refine kW ?_|refine kU fun bk=>?_|refine kV fun hc=>?_|refine kZ (fun hc=>?_) fun hc=>?_|fail)
    exact kE
  simp only [if_pos c1] at hcp
  obtain ⟨re, hre⟩ : ∃ re, re = s.drop bg.length := ⟨_, rfl⟩
  have lre : re.length ≤ s.length := by rw [hre]; simp
  rw [← hre]
  simp only [← hre] at hcp
  have hcs := fun L => cutsuffix_n re en L (by omega) (by omega)
  by_cases c2 : endB re en = true
  rotate_left
  · simp only [if_neg c2] at hcs
    rw [if_neg (fun w => c2 w.2.1)]
    (repeat' first|refine kW ?_|refine kU fun bk=>?_|refine kV fun hc=>?_|refine kZ (fun hc=>?_) fun hc=>?_|fail)
    revert bk; intro q
    refine OW_callP rfl rfl rfl (hcu _) rfl ?_
    (repeat' first|refine kW ?_|refine kU fun bk=>?_|refine kV fun hc=>?_|refine kZ (fun hc=>?_) fun hc=>?_|fail)
    refine OW_callP rfl rfl rfl (hcp _) rfl ?_
    (repeat' first|refine kW ?_|refine kU fun bk=>?_|refine kV fun hc=>?_|refine kZ (fun hc=>?_) fun hc=>?_|fail)
    refine OW_callP rfl rfl rfl (hcs _) rfl ?_
    (repeat' first|refine kW ?_|refine kU fun bk=>?_|refine kV fun hc=>?_|refine kZ (fun hc=>?_) fun hc=>?_|fail)
    exact kE
  simp only [if_pos c2] at hcs
  obtain ⟨mi, hmi⟩ : ∃ mi, mi = re.take (re.length - en.length) := ⟨_, rfl⟩
  have lmi : mi.length ≤ s.length := by rw [hmi]; simp; omega
  rw [← hmi]
  simp only [← hmi] at hcs
  have ce := fun L => contains_n en 42 L
  have cd := fun L => contains_n d 42 L
  by_cases c3 : 42 ∈ en
  · simp only [decide_eq_true c3] at ce
    rw [if_neg (fun w => w.2.2.1 c3)]
    (repeat' first|refine kW ?_|refine kU fun bk=>?_|refine kV fun hc=>?_|refine kZ (fun hc=>?_) fun hc=>?_|fail)
    revert bk; intro q
    refine OW_callP rfl rfl rfl (hcu _) rfl ?_
    (repeat' first|refine kW ?_|refine kU fun bk=>?_|refine kV fun hc=>?_|refine kZ (fun hc=>?_) fun hc=>?_|fail)
    refine OW_callP rfl rfl rfl (hcp _) rfl ?_
    (repeat' first|refine kW ?_|refine kU fun bk=>?_|refine kV fun hc=>?_|refine kZ (fun hc=>?_) fun hc=>?_|fail)
    refine OW_callP rfl rfl rfl (hcs _) rfl ?_
    (repeat' first|refine kW ?_|refine kU fun bk=>?_|refine kV fun hc=>?_|refine kZ (fun hc=>?_) fun hc=>?_|fail)
    refine OW_callP rfl rfl rfl (ce _) rfl ?_
    (repeat' first|refine kW ?_|refine kU fun bk=>?_|refine kV fun hc=>?_|refine kZ (fun hc=>?_) fun hc=>?_|fail)
    exact kE
  simp only [decide_eq_false c3] at ce
  by_cases c4 : 42 ∈ d
  rotate_left
  · simp only [decide_eq_false c4] at cd
    rw [if_neg (fun w => c4 w.2.2.2)]
    (repeat' first|refine kW ?_|refine kU fun bk=>?_|refine kV fun hc=>?_|refine kZ (fun hc=>?_) fun hc=>?_|fail)
    revert bk; intro q
    refine OW_callP rfl rfl rfl (hcu _) rfl ?_
    (repeat' first|refine kW ?_|refine kU fun bk=>?_|refine kV fun hc=>?_|refine kZ (fun hc=>?_) fun hc=>?_|fail)
    refine OW_callP rfl rfl rfl (hcp _) rfl ?_
    (repeat' first|refine kW ?_|refine kU fun bk=>?_|refine kV fun hc=>?_|refine kZ (fun hc=>?_) fun hc=>?_|fail)
    refine OW_callP rfl rfl rfl (hcs _) rfl ?_
    (repeat' first|refine kW ?_|refine kU fun bk=>?_|refine kV fun hc=>?_|refine kZ (fun hc=>?_) fun hc=>?_|fail)
    refine OW_callP rfl rfl rfl (ce _) rfl ?_
    (repeat' first|refine kW ?_|refine kU fun bk=>?_|refine kV fun hc=>?_|refine kZ (fun hc=>?_) fun hc=>?_|fail)
    refine OW_callP rfl rfl rfl (cd _) rfl ?_
    (repeat' first|refine kW ?_|refine kU fun bk=>?_|refine kV fun hc=>?_|refine kZ (fun hc=>?_) fun hc=>?_|fail)
    exact kE
  simp only [decide_eq_true c4] at cd
  rw [if_pos ⟨c1, c2, c3, c4⟩]
  have hrp := fun C => replace_n d mi (C :: L) hb.there h2 (by omega)
  (repeat' first|refine kW ?_|refine kU fun bk=>?_|refine kV fun hc=>?_|refine kZ (fun hc=>?_) fun hc=>?_|fail)
  revert bk; intro q
  refine OW_callP rfl rfl rfl (hcu _) rfl ?_
  (repeat' first|refine kW ?_|refine kU fun bk=>?_|refine kV fun hc=>?_|refine kZ (fun hc=>?_) fun hc=>?_|fail)
  refine OW_callP rfl rfl rfl (hcp _) rfl ?_
  (repeat' first|refine kW ?_|refine kU fun bk=>?_|refine kV fun hc=>?_|refine kZ (fun hc=>?_) fun hc=>?_|fail)
  refine OW_callP rfl rfl rfl (hcs _) rfl ?_
  (repeat' first|refine kW ?_|refine kU fun bk=>?_|refine kV fun hc=>?_|refine kZ (fun hc=>?_) fun hc=>?_|fail)
  refine OW_callP rfl rfl rfl (ce _) rfl ?_
  (repeat' first|refine kW ?_|refine kU fun bk=>?_|refine kV fun hc=>?_|refine kZ (fun hc=>?_) fun hc=>?_|fail)
  refine OW_callP rfl rfl rfl (cd _) rfl ?_
  (repeat' first|refine kW ?_|refine kU fun bk=>?_|refine kV fun hc=>?_|refine kZ (fun hc=>?_) fun hc=>?_|fail)
  refine OW_callP rfl rfl rfl (hrp _) rfl ?_
  (repeat' first|refine kW ?_|refine kU fun bk=>?_|refine kV fun hc=>?_|refine kZ (fun hc=>?_) fun hc=>?_|fail)
  exact kE
theorem nmap_n (p : Sp) (s : List UInt8) (L : List Chunk) (hb : UtAt L) (hv : pvN p.src p.dst = true) (h3 : s.length ≤ 2000000) : GvP Tryd.prog 10 [.agg (spV p).toArray, .string (str s)].toArray L (match mpN p s with | some t => .tuple #[.string (str t), .bool true] | none => .tuple #[.string (str []), .bool false]) := by
  obtain ⟨f, a, d⟩ := p
  simp only at hv
  refine Gv.of_body (args := [.agg (spV ⟨f, a, d⟩).toArray, .string (str s)]) Tryd.func10 rfl rfl ?_
  have hl := pv_len hv
  have htg := fun C => ntarget_n ⟨f, a, d⟩ s (C :: L) hb.there (by simp only; omega) (by simp only; omega) h3
  have hle := tgP_le a d s
  rw [mp_tg f a d s hv]
  simp only at htg
  unfold spV at htg ⊢
  generalize (tgP a d s).1 = y at *
  generalize (tgP a d s).2 = b at *
  have hvy := fun C => nvalid_n y (C :: L) hb.there (by omega)
  cases b with
  | false =>
    rw [if_neg (fun w => Bool.noConfusion w.1)]
    (repeat' first|refine kW ?_|refine kU fun bk=>?_|refine kV fun hc=>?_|refine kZ (fun hc=>?_) fun hc=>?_|fail)
    revert bk; intro q
    refine OW_callP rfl rfl rfl (htg _) rfl ?_
    (repeat' first|refine kW ?_|refine kU fun bk=>?_|refine kV fun hc=>?_|refine kZ (fun hc=>?_) fun hc=>?_|fail)
    exact kE
  | true =>
  cases hy : vlN y with
  | false =>
    simp only [hy] at hvy
    rw [if_neg (fun w => Bool.noConfusion w.2)]
    (repeat' first|refine kW ?_|refine kU fun bk=>?_|refine kV fun hc=>?_|refine kZ (fun hc=>?_) fun hc=>?_|fail)
    revert bk; intro q
    refine OW_callP rfl rfl rfl (htg _) rfl ?_
    (repeat' first|refine kW ?_|refine kU fun bk=>?_|refine kV fun hc=>?_|refine kZ (fun hc=>?_) fun hc=>?_|fail)
    refine OW_callP rfl rfl rfl (hvy _) rfl ?_
    (repeat' first|refine kW ?_|refine kU fun bk=>?_|refine kV fun hc=>?_|refine kZ (fun hc=>?_) fun hc=>?_|fail)
    exact kE
  | true =>
    simp only [hy] at hvy
    rw [if_pos ⟨rfl, rfl⟩]
    (repeat' first|refine kW ?_|refine kU fun bk=>?_|refine kV fun hc=>?_|refine kZ (fun hc=>?_) fun hc=>?_|fail)
    revert bk; intro q
    refine OW_callP rfl rfl rfl (htg _) rfl ?_
    (repeat' first|refine kW ?_|refine kU fun bk=>?_|refine kV fun hc=>?_|refine kZ (fun hc=>?_) fun hc=>?_|fail)
    refine OW_callP rfl rfl rfl (hvy _) rfl ?_
    (repeat' first|refine kW ?_|refine kU fun bk=>?_|refine kV fun hc=>?_|refine kZ (fun hc=>?_) fun hc=>?_|fail)
    exact kE
end
end Go.Proofs.YtehpnblbkldojaaDoor
namespace Go.Vx
open Go
set_option linter.all false
section
variable [W0]
variable {P : Program} {n : Nat} {M : List (Nat × Value)} {L : List Chunk} {d : Nat} {ty : TypeId} {ps : String} {af : Array Edge} {g : Option (Nat × Bool)} {x y : Operand}
theorem EV_sameB (b : Bool) {t u : TypeId} [hb : BB P t] (hx : ev M x = some (.bool b)) (hy : ev M y = some (.bool b)) : EV P n ⟨some d, .binOp .eql t x y u, ty, ps, af, g⟩ M L d (.bool true) := by
  have := EV_boolEq (P := P) (n := n) (M := M) (L := L) (d := d) (ty := ty) (ps := ps) (af := af) (g := g) (t := t) (u := u) hx hy
  simpa using this
end
end Go.Vx
namespace Go.Proofs.YtehpnblbkldojaaDoor
open Go Go.Vx Go.Nm Go.Ob Go.Lib
set_option linter.all false
set_option maxRecDepth 4000
section
variable [W0]
def awS : List UInt8 := [43, 114, 101, 102, 115, 47, 104, 101, 97, 100, 115, 47, 42, 58, 114, 101, 102, 115, 47, 114, 101, 109, 111, 116, 101, 115, 47, 111, 47, 42]
def awP : Sp := ⟨true, [114, 101, 102, 115, 47, 104, 101, 97, 100, 115, 47, 42], [114, 101, 102, 115, 47, 114, 101, 109, 111, 116, 101, 115, 47, 111, 47, 42]⟩
def awN : List UInt8 := [114, 101, 102, 115, 47, 104, 101, 97, 100, 115, 47, 120, 47, 121]
def awT : List UInt8 := [114, 101, 102, 115, 47, 114, 101, 109, 111, 116, 101, 115, 47, 111, 47, 120, 47, 121]
def awA : List UInt8 := [114, 101, 102, 115, 47, 104, 101, 97, 100, 115, 47, 97]
def awB : List UInt8 := [114, 101, 102, 115, 47, 104, 101, 97, 100, 115, 47, 46, 97]
def awU : List UInt8 := [114, 101, 102, 115, 47, 97]
def awV : List UInt8 := [114, 101, 102, 115, 47, 97, 47, 98]
theorem aw_1 : psN awS = some awP := by kernel_rfl
theorem aw_2 : mpN awP awN = some awT := by kernel_rfl
theorem aw_3 : vlN awA = true := by kernel_rfl
theorem aw_4 : vlN awB = false := by kernel_rfl
theorem aw_5 : undB awU awV = true := by kernel_rfl
theorem aw_6 : pvN awP.src awP.dst = true := by kernel_rfl
set_option maxHeartbeats 4000000 in
theorem awake14_n (L : List Chunk) (hb : UtAt L) : GvP Tryd.prog 9 [].toArray L (.bool true) := by
  have h1 := nparse_n awS L hb (by decide)
  simp only [aw_1, spV] at h1
  have h2 := fun L' h => nmap_n awP awN L' h aw_6 (by decide)
  simp only [aw_2, spV] at h2
  have h3 := fun L' h => nvalid_n awA L' h (by decide)
  simp only [aw_3] at h3
  have h4 := fun L' h => nvalid_n awB L' h (by decide)
  simp only [aw_4] at h4
  have h5 := fun L' => nunder_n awU awV L' (by decide) (by decide)
  simp only [aw_5] at h5
  refine Gv.of_body (args := []) Tryd.func9 rfl rfl ?_
  (repeat' first|refine kW ?_|refine kU fun bk=>?_|refine kV fun hc=>?_|refine kZ (fun hc=>?_) fun hc=>?_|fail)
  refine OW_callP rfl rfl rfl h1 rfl ?_
  (repeat' first|refine kW ?_|refine kU fun bk=>?_|refine kV fun hc=>?_|refine kZ (fun hc=>?_) fun hc=>?_|fail)
  revert bk; intro q
  refine OW_callP rfl rfl rfl (h2 _ (by repeat (first | exact hb | apply UtAt.there))) rfl ?_
  (repeat' first|refine kW ?_|refine kU fun bk=>?_|refine kV fun hc=>?_|refine kZ (fun hc=>?_) fun hc=>?_|fail)
  refine OW_callP rfl rfl rfl (h3 _ (by repeat (first | exact hb | apply UtAt.there))) rfl ?_
  (repeat' first|refine kW ?_|refine kU fun bk=>?_|refine kV fun hc=>?_|refine kZ (fun hc=>?_) fun hc=>?_|fail)
  refine OW_callP rfl rfl rfl (h4 _ (by repeat (first | exact hb | apply UtAt.there))) rfl ?_
  (repeat' first|refine kW ?_|refine kU fun bk=>?_|refine kV fun hc=>?_|refine kZ (fun hc=>?_) fun hc=>?_|fail)
  refine OW_callP rfl rfl rfl (h5 _) rfl ?_
  (repeat' first|refine kW ?_|refine kU fun bk=>?_|refine kV fun hc=>?_|refine kZ (fun hc=>?_) fun hc=>?_|fail)
  exact kE
set_option maxHeartbeats 4000000 in
theorem namevalid_n (s t : List UInt8) (L : List Chunk) (hb : UtAt L) (hs : s.length ≤ 9223372036854770000) (ht : t.length ≤ 9223372036854770000) : GvP Tryd.prog 4 [.string (str s), .string (str t)].toArray L (.bool true) := by
  have h1 := nvalid_n s L hb (by omega)
  have h2 := rvalid_n s L (by omega)
  have h3 := nunder_n s t L (by omega) (by omega)
  have h4 := runder_n s t L (by omega) (by omega)
  have h5 := awake14_n L hb
  refine Gv.of_body (args := [.string (str s), .string (str t)]) Tryd.func4 rfl rfl ?_
  generalize vlN s = a at *
  generalize undB s t = b at *
  (repeat' first|refine kW ?_|refine kU fun bk=>?_|refine kV fun hc=>?_|refine kZ (fun hc=>?_) fun hc=>?_|fail)
  refine OW_callP rfl rfl rfl h1 rfl ?_
  (repeat' first|refine kW ?_|refine kU fun bk=>?_|refine kV fun hc=>?_|refine kZ (fun hc=>?_) fun hc=>?_|fail)
  refine OW_callP rfl rfl rfl h2 rfl ?_
  refine WL_plain rfl ?_
  refine OW_EV (EV_sameB a rfl rfl) rfl ?_
  (repeat' first|refine kW ?_|refine kU fun bk=>?_|refine kV fun hc=>?_|refine kZ (fun hc=>?_) fun hc=>?_|fail)
  refine OW_callP rfl rfl rfl h3 rfl ?_
  (repeat' first|refine kW ?_|refine kU fun bk=>?_|refine kV fun hc=>?_|refine kZ (fun hc=>?_) fun hc=>?_|fail)
  refine OW_callP rfl rfl rfl h4 rfl ?_
  refine WL_on rfl rfl ?_
  refine OW_EV (EV_sameB b rfl rfl) rfl ?_
  (repeat' first|refine kW ?_|refine kU fun bk=>?_|refine kV fun hc=>?_|refine kZ (fun hc=>?_) fun hc=>?_|fail)
  refine OW_callP rfl rfl rfl h5 rfl ?_
  (repeat' first|refine kW ?_|refine kU fun bk=>?_|refine kV fun hc=>?_|refine kZ (fun hc=>?_) fun hc=>?_|fail)
  exact kE
end
end Go.Proofs.YtehpnblbkldojaaDoor
namespace Go.Proofs.YtehpnblbkldojaaDoor
open Go Go.Vx Go.ChangeShapes Go.WideShapes Go.ChangeAt Go.RowKit Go.Lib
set_option maxRecDepth 100000
set_option linter.all false
def laid14 : List (String × DataW Unit) := [("unicode/utf8.acceptRanges", Rows.laid_unicode_utf8_acceptRanges), ("unicode/utf8.first", Rows.laid_unicode_utf8_first)]
def nums14 (k : IntKind) : List (DataW Unit) → List Value
  | [] => []
  | .lit (.int _ z) :: r => .int k z :: nums14 k r
  | .agg [.lit (.int _ z), .lit (.int _ y)] :: r => .int k z :: .int k y :: nums14 k r
  | _ :: r => nums14 k r
def parts14 : DataW Unit → List (DataW Unit)
  | .agg l => l
  | _ => []
def tabAc : List Value := nums14 .u8 (parts14 Rows.laid_unicode_utf8_acceptRanges)
def tabFi : List Value := nums14 .u8 (parts14 Rows.laid_unicode_utf8_first)
theorem first_eq : Rows.laid_unicode_utf8_first = firstData := by kernel_rfl
theorem accept_eq : Rows.laid_unicode_utf8_acceptRanges (H := Unit) = acceptData := by kernel_rfl
theorem met_plain {W : World} (h : laidMetH Tryd.prog laid14 W) : laidMet Tryd.prog laid14 W := by
  have e : laid14.filter (fun x => x.2.handleName?.isSome) = [] := by kernel_rfl
  unfold laidMetH at h
  rw [e] at h
  exact h
theorem u8extra : U8Extra Tryd.prog sh_v_ren := ⟨by kernel_rfl, by kernel_rfl, by kernel_rfl, by kernel_rfl, by kernel_rfl, by kernel_rfl, by kernel_rfl⟩
theorem ut_met {W : World} (hL : laidMetH Tryd.prog laid14 W) (hsh : W.ShapedOpen Tryd.prog) [W0] : UtAt [blks W] := by
  obtain ⟨ps, hv, _⟩ := met_plain hL
  have r3 := LaidVars_reads hv "unicode/utf8.first" Rows.laid_unicode_utf8_first (by simp [laid14])
  have r4 := LaidVars_reads hv "unicode/utf8.acceptRanges" Rows.laid_unicode_utf8_acceptRanges (by simp [laid14])
  rw [first_eq] at r3
  rw [accept_eq] at r4
  have hut := utf8Tabs_of_readsT (U8Types.of196 sh_v) u8extra r3 r4
  have hmx : ∃ m, W.cell? ⟨2, 0, none⟩ = some (.int .i64 m) :=
    cell_of_shapedOpen_int (t := 3) (zero := #[.int .i64 0]) hsh (of_decide_eq_true (by kernel_rfl)) (by kernel_rfl) (by kernel_rfl) (by kernel_rfl) (by kernel_rfl) Tryd.underlying3
  have hkeep : ∀ w, Vx.Holds w [blks W] → ∀ k, k < W.heap.size → w.heap[k]? = W.heap[k]? := fun w hw k hk => by
    have hm : W.heap[k]? = some W.heap[k] := by simp [hk]
    rw [hm]
    exact hw.2.1 (k, W.heap[k]) (by simpa using blks_mem.2 hm)
  have hlt : ∀ {a : Addr} {v : Value}, W.cell? a = some v → a.block < W.heap.size := fun {a} {v} h => by
    rcases Nat.lt_or_ge a.block W.heap.size with h' | h'
    · exact h'
    · have : W.heap[a.block]? = none := by simp; omega
      simp [World.cell?, this] at h
  have hcell : ∀ w, Vx.Holds w [blks W] → ∀ {a : Addr} {v : Value}, W.cell? a = some v → w.cell? a = some v := fun w hw {a} {v} h => by
    have hb := hkeep w hw a.block (hlt h)
    rw [← h]
    unfold World.cell?
    rw [hb]
  exact ⟨fun w hw => ⟨fun c hc => hcell w hw (hut.1 c hc), fun i hi => ⟨hcell w hw (hut.2 i hi).1, hcell w hw (hut.2 i hi).2⟩⟩, hmx.imp fun m hm w hw => hcell w hw hm⟩
theorem reach_str14 {H : Type} {ts : List TypeId} {ds : List (DataW H)} (h : (DataW.weightsEach Tryd.prog ts ds).all (· ≤ reachBytes) = true) {j : Nat} {t : TypeId} {s : ByteArray} (ht : ts[j]? = some t) (hd : ds[j]? = some (.lit (.string s.data.toList))) : s.data.toList.length ≤ 140737488351232 := by
  have := sized_string h ht hd
  have h3 : reachBytes = 140737488351232 := rfl
  omega
end Go.Proofs.YtehpnblbkldojaaDoor
namespace Go.Proofs.YtehpnblbkldojaaDoor
open Go Go.Vx Go.Ob Go.ChangeShapes Go.WideShapes Go.ChangeAt Go.RowKit
set_option linter.all false
set_option maxRecDepth 4000
theorem top_row (H : Type) (enc : TypeId × Value → H) (W : World) (base : Nat) (args : Array Value) (ds gs : List (DataW H)) (before : List MemPlace)
    (hval : ∀ (j : Nat) t v, Tryd.f4.params[j]? = some t → args[j]? = some v → Value.okWide Tryd.prog W .any base t v)
    (hW : DataW.Whole enc Tryd.prog Tryd.f4.params.toList Rows.nameValidSpec.vars false W args.toList ds gs before)
    (hz : (DataW.weightsEach Tryd.prog (Tryd.f4.params.toList ++ Rows.nameValidSpec.plain.varTypes Tryd.prog) (ds ++ gs)).all (· ≤ reachBytes) = true) (hL : laidMetH Tryd.prog laid14 W) (hsh : W.ShapedOpen Tryd.prog) :
    Calls Tryd.prog 4 args W fun e W' => ∃ v, e = .returned v ∧ Rows.nameValidSpec.post enc Tryd.prog Tryd.f4 false true false false W args v W' := by
  have hW' := hW
  obtain ⟨p, q, hA0, hV, rfl, hfz, hnd⟩ := hW
  have hA : DataW.TrodAll enc Tryd.prog W 0 (fun _ => true) true Tryd.f4.params.toList args.toList ds p := hA0
  rw [Tryd.params4] at hA hval hz
  obtain ⟨v0, vs0, d0, ds0, p0, q0, hargs, rfl, rfl, h0, r0⟩ := trodAll_cons hA
  obtain ⟨v1, vs1, d1, ds1, p1, q1, rfl, rfl, rfl, h1, r1⟩ := trodAll_cons r0
  obtain ⟨rfl, rfl, rfl⟩ := trodAll_nil r1
  obtain rfl : args = #[v0, v1] := by cases args; simp_all
  obtain ⟨rfl, rfl⟩ := trodVars_none hV
  obtain ⟨t0, rfl, rfl, rfl, w0⟩ := ChangeMaps.open_string Tryd.underlying9 (hval 0 _ v0 rfl rfl) h0
  have r0s : t0.data.toList.length ≤ 140737488351232 := reach_str14 hz (j := 0) rfl rfl
  obtain ⟨t1, rfl, rfl, rfl, w1⟩ := ChangeMaps.open_string Tryd.underlying9 (hval 1 _ v1 rfl rfl) h1
  have r1s : t1.data.toList.length ≤ 140737488351232 := reach_str14 hz (j := 1) rfl rfl
  clear hA0
  have hc : Calls Tryd.prog 4 #[.string t0, .string t1] W fun e W' => e = .returned (.bool true) ∧ Kept W W' := by
    refine bridge (fun {i} => ?_)
    have ht := ut_met hL hsh
    obtain ⟨s, rfl, hsl⟩ := str_of t0
    obtain ⟨t, rfl, htl⟩ := str_of t1
    rw [str_data] at r0s r1s
    exact namevalid_n s t _ ht (by omega) (by omega)
  refine hc.mono fun e W' ⟨he, bel⟩ => ?_
  subst he
  exact ⟨_, rfl, _, _, _, [], _, [], hW', trodAll_mk1 (shut_bool Tryd.underlying4 _), (trodAll_cons_mk (ChangeMaps.shut_string Tryd.underlying9 w0) (trodAll_cons_mk (ChangeMaps.shut_string Tryd.underlying9 w1) trodAll_mk0)), rfl, bel.frame _, fun h => by cases h⟩
def putT (w : World) (g : Nat) (zs : List Value) : World := { w with heap := w.heap.modify g fun
      | .cells _ t frozen => .cells zs.toArray t frozen
      | o => o }
noncomputable def laidWorld (os : Os) : World :=
  putT (putT (World.holding Tryd.prog os ⟨#[], #[], []⟩) 1 tabAc) 0 tabFi
theorem laid_met (os : Os) : laidMet Tryd.prog Rows.nameValidRow.laid ((laidWorld os).forCall (fun _ _ => 0) ⟨#[], #[.string .empty, .string .empty], []⟩).memory :=
  laidMet_of_run' 8 (by kernel_rfl) (by kernel_rfl)
theorem reads (os : Os) {H : Type} (enc : TypeId × Value → H) : ∃ places, DataW.whole enc Tryd.prog ((laidWorld os).forCall (fun _ _ => 0) ⟨#[], #[.string .empty, .string .empty], []⟩).memory Tryd.f4.params.toList Rows.nameValidSpec.vars false #[.string .empty, .string .empty].toList 8 = some ([.lit (.string []), .lit (.string [])], [], places) :=
  ⟨[], by kernel_rfl⟩
set_option maxRecDepth 100000 in
theorem top_lifted (os : Os) (started : os.Started) (H : Type) (enc : TypeId × Value → H) (F : Stop.Interp) :
    ReturnsInHanded {} Tryd.checked os 4 .any ((OpenSpec.ofChange Rows.nameValidSpec).preRow enc Tryd.prog Tryd.f4 Rows.nameValidRow.domain false Rows.nameValidRow.laid) (((OpenSpec.ofChange Rows.nameValidSpec).at F).post enc Tryd.prog Tryd.f4 false true false false) := by
  obtain ⟨places, hx⟩ := reads os enc
  refine returnsInHanded_of_row (C := Tryd.checked) (s := (OpenSpec.ofChange Rows.nameValidSpec)) Tryd.own started (by kernel_rfl) Tryd.func4
    (witness_row_at (enc := enc) (C := Tryd.checked) false (laidWorld os) #[.string .empty, .string .empty] rfl (by kernel_rfl) (by kernel_rfl) (by kernel_rfl)
      (OpenSpec.preRow_of_cond 8 hx (by kernel_rfl) (fun k hk => by cases hk) (by kernel_rfl) (laid_met os))) ?_
  intro W base args ds gs before hval hW _ hcond hz hL hsh _
  exact top_row H enc W base args ds gs before hval hW hz hL hsh
theorem top_over : Rows.NameValidSaid :=
  OpenClaim.holds_of_cond 4 Tryd.f4 rfl rfl rfl rfl rfl rfl rfl ⟨rfl, rfl, rfl, rfl, rfl⟩ rfl rfl rfl rfl rfl (by kernel_rfl) Tryd.func4 (by kernel_rfl)
    (of_decide_eq_true (by kernel_rfl)) (by unfold Func.isWrapper; first | (rw [if_pos (by decide +kernel)]; kernel_rfl) | (rw [if_neg (by decide +kernel)]; exact ⟨rfl, rfl⟩))
    (fun os started H enc _ F => by rw [OpenClaim.pre_eq_preRow]; exact top_lifted os started H enc F)
theorem top_plain (f : FuncId) (fn : Func) (hf : Tryd.pinned.checked.prog.funcNamed "stemma/stemmalaw14.NameValid" = some f) (hfn : Tryd.pinned.checked.prog.funcs[f]? = some fn) :
    false = Tryd.pinned.checked.prog.looks [] ∧ ∀ (j : Nat) t, fn.params[j]? = some t → Tryd.pinned.checked.prog.wantsStandIn t = false := by
  obtain rfl : f = 4 := Option.some.inj ((show Tryd.prog.funcNamed "stemma/stemmalaw14.NameValid" = some 4 by kernel_rfl).symm.trans hf) |>.symm
  obtain rfl : fn = Tryd.f4 := (Option.some.inj (Tryd.func4.symm.trans hfn)).symm
  have all : (Tryd.f4.params.toList.all fun t => !Tryd.prog.wantsStandIn t) = true := by kernel_rfl
  refine ⟨by kernel_rfl, fun j t ht => ?_⟩
  have hm : t ∈ Tryd.f4.params.toList := by
    have := Array.mem_of_getElem? ht
    simpa using this
  have := List.all_eq_true.1 all t hm
  show Tryd.prog.wantsStandIn t = false
  simpa using this
theorem top_holds : Rows.NameValidCardSaid :=
  Claim7.holds_tied_plain_at .later [] _ _ _ _ top_over (fun _ h => by cases h) (by kernel_rfl) (fun _ h => by cases h) nameValid_row_tie rfl ⟨rfl, rfl⟩ (by kernel_rfl) rfl top_plain (by kernel_rfl)
end Go.Proofs.YtehpnblbkldojaaDoor
