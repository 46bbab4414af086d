/- NameSpecs returns true and leaves its arguments as they were, for every argument; the table that the program reads is tied to its text (the card). No conditions beyond the row's. -/
import Derived.Test.YtehpnblbkldojaaDoorSD1
namespace Go.Proofs.YtehpnblbkldojaaDoor
open Go Go.Vx Go.Nm Go.Ob Go.Lib Go.RowKit
set_option linter.all false
set_option maxRecDepth 4000
variable [W0]
structure UtAt (L : List Chunk) : Prop where
  ut : ∀ w, Vx.Holds w L → utOk w
theorem UtAt.of {S L : List Chunk} (h : UtAt S) (hi : ∀ w, Vx.Holds w L → Vx.Holds w S) : UtAt L :=
  ⟨fun w hw => h.ut w (hi w hw)⟩
theorem UtAt.inc {S L : List Chunk} (h : UtAt S) (hi : Inc S L) : UtAt L := h.of fun w hw => hi.holds hw
theorem UtAt.there {L : List Chunk} {C : Chunk} (h : UtAt L) : UtAt (C :: L) := h.of fun w hw => hw.drop
theorem utf8_n (t : List UInt8) (L : List Chunk) (hb : UtAt L) (hl : t.length ≤ 9223372036854775807) : GvP Tryd.prog 24 [.string (str t)].toArray L (.bool (Lib.validD t)) :=
  GvP.of_below fun w hw => Any.utf8_ValidString sh_v (str t) w hl (hb.ut w hw)
set_option maxHeartbeats 2000000 in
theorem nvalid_n (s : List UInt8) (L : List Chunk) (hb : UtAt L) (hs : s.length ≤ 9223372036854775000) : GvP Tryd.prog 11 [.string (str s)].toArray L (.bool (vlN s)) := by
  have z1 : (str s).size = s.length := str_size s
  rw [vlN_ck]
  refine Gv.of_body (args := [.string (str s)]) Tryd.func11 rfl rfl ?_
  have hu := utf8_n s L hb (by omega)
  have hp := hasprefix_n s refsL L hs (by decide)
  have hh := hparts_n s L hs
  rw [show refsL.length = 5 from rfl] at hp
  by_cases h1 : s.length ≤ 100
  rotate_left
  · rw [decide_eq_false h1, Bool.false_and]
    (repeat' first|refine kW ?_|refine kU fun bk=>?_|refine kV fun hc=>?_|refine kZ (fun hc=>?_) fun hc=>?_|fail)
    exact kE
  rw [decide_eq_true h1, Bool.true_and]
  cases h2 : validD s with
  | false =>
    rw [h2] at hu
    rw [Bool.false_and]
    (repeat' first|refine kW ?_|refine kU fun bk=>?_|refine kV fun hc=>?_|refine kZ (fun hc=>?_) fun hc=>?_|fail)
    refine OW_callP rfl rfl rfl hu rfl ?_
    (repeat' first|refine kW ?_|refine kU fun bk=>?_|refine kV fun hc=>?_|refine kZ (fun hc=>?_) fun hc=>?_|fail)
    exact kE
  | true =>
  rw [h2] at hu
  rw [Bool.true_and]
  by_cases h3 : 5 ≤ s.length ∧ s.take 5 = refsL
  rotate_left
  · rw [decide_eq_false h3] at hp ⊢
    rw [Bool.false_and]
    (repeat' first|refine kW ?_|refine kU fun bk=>?_|refine kV fun hc=>?_|refine kZ (fun hc=>?_) fun hc=>?_|fail)
    refine OW_callP rfl rfl rfl hu rfl ?_
    (repeat' first|refine kW ?_|refine kU fun bk=>?_|refine kV fun hc=>?_|refine kZ (fun hc=>?_) fun hc=>?_|fail)
    refine OW_callP rfl rfl rfl hp rfl ?_
    (repeat' first|refine kW ?_|refine kU fun bk=>?_|refine kV fun hc=>?_|refine kZ (fun hc=>?_) fun hc=>?_|fail)
    exact kE
  rw [decide_eq_true h3] at hp ⊢
  rw [Bool.true_and]
  generalize ckN [] 47 s = V at *
  (repeat' first|refine kW ?_|refine kU fun bk=>?_|refine kV fun hc=>?_|refine kZ (fun hc=>?_) fun hc=>?_|fail)
  refine OW_callP rfl rfl rfl hu rfl ?_
  (repeat' first|refine kW ?_|refine kU fun bk=>?_|refine kV fun hc=>?_|refine kZ (fun hc=>?_) fun hc=>?_|fail)
  refine OW_callP rfl rfl rfl hp rfl ?_
  (repeat' first|refine kW ?_|refine kU fun bk=>?_|refine kV fun hc=>?_|refine kZ (fun hc=>?_) fun hc=>?_|fail)
  refine OW_callP rfl rfl rfl hh rfl ?_
  (repeat' first|refine kW ?_|refine kU fun bk=>?_|refine kV fun hc=>?_|refine kZ (fun hc=>?_) fun hc=>?_|fail)
  exact kE
theorem nunder_n (a b : List UInt8) (L : List Chunk) (ha : a.length ≤ 9223372036854775000) (hb : b.length ≤ 9223372036854775000) : GvP Tryd.prog 13 [.string (str a), .string (str b)].toArray L (.bool (undB a b)) := by
  have z1 : (str a).size = a.length := str_size a
  have z2 : (str b).size = b.length := str_size b
  refine Gv.of_body (args := [.string (str a), .string (str b)]) Tryd.func13 rfl rfl ?_
  by_cases h : a.length < b.length
  rotate_left
  · rw [show undB a b = false from by unfold undB; rw [decide_eq_false h]; rfl]
    (repeat' first|refine kW ?_|refine kU fun bk=>?_|refine kV fun hc=>?_|refine kZ (fun hc=>?_) fun hc=>?_|fail)
    exact kE
  obtain ⟨c, hc0⟩ : ∃ c, b[a.length]? = some c := ⟨_, List.getElem?_eq_getElem h⟩
  have htk : b.take (a.length + 1) = b.take a.length ++ [c] := by rw [List.take_add_one, hc0]; rfl
  have hun : undB a b = decide (b.take a.length = a ∧ c = 47) := by
    unfold undB
    rw [decide_eq_true h, Bool.true_and, decide_eq_decide, htk]
    constructor
    · intro e
      have := List.append_inj e (by rw [List.length_take]; omega)
      exact ⟨this.1, by simpa using this.2⟩
    · rintro ⟨e1, rfl⟩
      rw [e1]
  rw [hun]
  have hget := str_gt hc0
  by_cases hc47 : c = 47
  rotate_left
  · rw [decide_eq_false (fun w => hc47 w.2)]
    have hcn : ¬ (c.toNat : Int) = 47 := fun w => hc47 (UInt8.toNat_inj.1 (by show c.toNat = 47; omega))
    (repeat' first|refine kW ?_|refine kU fun bk=>?_|refine kV fun hc=>?_|refine kZ (fun hc=>?_) fun hc=>?_|fail)
    refine OW_EV (EV_indexStr (j := a.length) (u := c) rfl rfl (by first | rfl | omega) hget) rfl ?_
    (repeat' first|refine kW ?_|refine kU fun bk=>?_|refine kV fun hc=>?_|refine kZ (fun hc=>?_) fun hc=>?_|fail)
    exact kE
  rw [show decide (b.take a.length = a ∧ c = 47) = decide (b.take a.length = a) from by simp [hc47]]
  subst hc47
  (repeat' first|refine kW ?_|refine kU fun bk=>?_|refine kV fun hc=>?_|refine kZ (fun hc=>?_) fun hc=>?_|fail)
  refine OW_EV (EV_indexStr (j := a.length) (u := 47) rfl rfl (by first | rfl | omega) hget) rfl ?_
  (repeat' first|refine kW ?_|refine kU fun bk=>?_|refine kV fun hc=>?_|refine kZ (fun hc=>?_) fun hc=>?_|fail)
  refine OW_EV (EV_cutL b 0 a.length rfl rfl (bnd_int rfl (by omega)) (Nat.zero_le _) (by omega)) rfl ?_
  rw [List.drop_zero, Nat.sub_zero]
  (repeat' first|refine kW ?_|refine kU fun bk=>?_|refine kV fun hc=>?_|refine kZ (fun hc=>?_) fun hc=>?_|fail)
  refine kR ?_
  refine ⟨_, iC, ?_, rfl⟩
  show Value.bool _ = Value.bool _
  rw [dec_str]
end Go.Proofs.YtehpnblbkldojaaDoor
namespace Go.Proofs.YtehpnblbkldojaaDoor
open Go Go.Vx Go.Nm Go.Ob
set_option linter.all false
set_option maxRecDepth 4000
section
variable [W0]
theorem take_more {s : List UInt8} {f i : Nat} {c : UInt8} (hc : s[i]? = some c) (hf : f ≤ i) : (s.drop f).take (i + 1 - f) = (s.drop f).take (i - f) ++ [c] := by
  rw [show i + 1 - f = (i - f) + 1 from by omega, List.take_add_one, List.getElem?_drop, show f + (i - f) = i from by omega, hc]
  rfl
theorem ssv_snoc (d : List (List UInt8)) (x : List UInt8) : ssv d ++ [.string (str x)] = ssv (d ++ [x]) := by unfold ssv; rw [List.map_append]; rfl
set_option maxHeartbeats 4000000 in
theorem rparts_n (s : List UInt8) (L : List Chunk) (hs : s.length ≤ 1000000) : Gv Tryd.prog 29 [.string (str s)].toArray L (fun r L' => ∃ C, Ow 9 1 r (ptL s).length (ssv (ptL s)) C ∧ L' = C :: L) := by
  have z1 : (str s).size = s.length := str_size s
  refine Gv.of_body (args := [.string (str s)]) Tryd.func29 rfl rfl ?_
  (repeat' first|refine kW ?_|refine kU fun bk=>?_|refine kV fun hc=>?_|refine kZ (fun hc=>?_) fun hc=>?_|fail)
  refine WC_loop (X := Nat × Nat × List (List UInt8) × Value × Chunk) (fun x => [(0, .string (str s)), (3, x.2.2.2.1), (4, .int .i64 (x.2.1 : Int)), (5, .int .i64 (x.1 : Int))]) (fun x => x.2.2.2.2 :: L)
    (fun x => x.1 ≤ s.length + 1 ∧ x.2.1 ≤ x.1 ∧ x.2.2.1.length ≤ x.1 ∧ (x.1 ≤ s.length → x.2.2.1 ++ ptA ((s.drop x.2.1).take (x.1 - x.2.1)) (s.drop x.1) = ptL s) ∧ (s.length < x.1 → x.2.2.1 = ptL s) ∧ Ow 9 1 x.2.2.2.1 x.2.2.1.length (ssv x.2.2.1) x.2.2.2.2) (fun x => s.length + 1 - x.1) (0, 0, [], .slice none 0 0, [])
    ⟨Nat.zero_le _, Nat.le_refl _, Nat.le_refl _, fun _ => rfl, fun h => by simp only at h; omega, .inl ⟨rfl, rfl, rfl, rfl⟩⟩ iS (fun w h => Holds.nil.2 h) ?_
  rintro ⟨i, f, d, ov, C⟩ ⟨h1, h2, h3, h4, h5, ho⟩
  simp only at h1 h2 h3 h4 h5 ho ⊢
  obtain ⟨oa, oc, rfl⟩ := ow_slc ho
  by_cases hle : i ≤ s.length
  · have h4 := h4 hle
    obtain ⟨cur, hcur⟩ : ∃ cur, cur = (s.drop f).take (i - f) := ⟨_, rfl⟩
    rw [← hcur] at h4
    by_cases hlt : i < s.length
    · obtain ⟨c, hc0⟩ : ∃ c, s[i]? = some c := ⟨s[i], by simp [hlt]⟩
      have hget := str_gt hc0
      have hd : s.drop i = c :: s.drop (i + 1) := by
        rw [List.drop_eq_getElem_cons hlt]
        rw [List.getElem?_eq_getElem hlt] at hc0
        injection hc0 with e
        rw [e]
      rw [hd] at h4
      unfold ptA at h4
      by_cases hcc : c = 47
      · subst hcc
        rw [if_pos rfl] at h4
        (repeat' first|refine kW ?_|refine kU fun bk=>?_|refine kV fun hc=>?_|refine kZ (fun hc=>?_) fun hc=>?_|fail)
        refine OW_EV (EV_indexStr (j := i) (u := 47) rfl rfl rfl hget) rfl ?_
        (repeat' first|refine kW ?_|refine kU fun bk=>?_|refine kV fun hc=>?_|refine kZ (fun hc=>?_) fun hc=>?_|fail)
        refine OW_EV (EV_cutL s f i rfl rfl rfl h2 (by omega)) rfl ?_
        rw [← hcur]
        (repeat' first|refine kW ?_|refine kU fun bk=>?_|refine kV fun hc=>?_|refine kZ (fun hc=>?_) fun hc=>?_|fail)
        refine OW_buildSlice (cs := [.string (str cur)]) rfl (by rfl) (by first | rfl | (simp [fillL, patch, Value.cells, zeros]; done) | (simp [fillL, patch, Value.cells, zeros]; rfl)) (by omega) rfl rfl (fun b2 => ?_)
        (repeat' first|refine kW ?_|refine kU fun bk=>?_|refine kV fun hc=>?_|refine kZ (fun hc=>?_) fun hc=>?_|fail)
        refine OW_append rfl rfl ho (sl_cells (k := 1) (c := #[.string (str cur)]) (xs := [.string (str cur)]) (m := 1) Fnd.here rfl (by simp)) (by repeat (first | exact Zip.here _ | apply Zip.there)) rfl rfl (by omega) (by unfold maxLen; omega) rfl (fun v1 C1 g2 _ _ => ?_)
        rw [ssv_snoc, show d.length + 1 = (d ++ [cur]).length from by rw [List.length_append]; rfl] at g2
        have hone := ow_one g2
        (repeat' first|refine kW ?_|refine kU fun bk=>?_|refine kV fun hc=>?_|refine kZ (fun hc=>?_) fun hc=>?_|fail)
        exact WQ_round (X := Nat × Nat × List (List UInt8) × Value × Chunk) (μ := fun x => s.length + 1 - x.1) (x := (i, f, d, .slice oa d.length oc, C)) (i + 1, i + 1, d ++ [cur], v1, C1) (by simp only; omega) ⟨by simp only; omega, by simp only; omega, by simp only [List.length_append, List.length_cons, List.length_nil]; omega, fun _ => by simp only [Nat.sub_self, List.take_zero, List.append_assoc, List.cons_append, List.nil_append]; exact h4, fun h => by simp only at h; omega, g2⟩ iS (fun w h => (iC : Inc (C1 :: L) _).holds h)
      · rw [if_neg hcc] at h4
        have hn : c.toNat ≠ 47 := fun w => hcc (UInt8.toNat_inj.1 w)
        (repeat' first|refine kW ?_|refine kU fun bk=>?_|refine kV fun hc=>?_|refine kZ (fun hc=>?_) fun hc=>?_|fail)
        refine OW_EV (EV_indexStr (j := i) (u := c) rfl rfl rfl hget) rfl ?_
        (repeat' first|refine kW ?_|refine kU fun bk=>?_|refine kV fun hc=>?_|refine kZ (fun hc=>?_) fun hc=>?_|fail)
        exact WQ_round (X := Nat × Nat × List (List UInt8) × Value × Chunk) (μ := fun x => s.length + 1 - x.1) (x := (i, f, d, .slice oa d.length oc, C)) (i + 1, f, d, .slice oa d.length oc, C) (by simp only; omega) ⟨by simp only; omega, by simp only; omega, by simp only; omega, fun _ => by simp only; rw [take_more hc0 h2, ← hcur]; exact h4, fun h => by simp only at h; omega, ho⟩ iS (fun w h => h)
    · obtain rfl : i = s.length := by omega
      rw [List.drop_length] at h4
      unfold ptA at h4
      (repeat' first|refine kW ?_|refine kU fun bk=>?_|refine kV fun hc=>?_|refine kZ (fun hc=>?_) fun hc=>?_|fail)
      refine OW_EV (EV_cutL s f s.length rfl rfl rfl h2 (by omega)) rfl ?_
      rw [← hcur]
      (repeat' first|refine kW ?_|refine kU fun bk=>?_|refine kV fun hc=>?_|refine kZ (fun hc=>?_) fun hc=>?_|fail)
      refine OW_buildSlice (cs := [.string (str cur)]) rfl (by rfl) (by first | rfl | (simp [fillL, patch, Value.cells, zeros]; done) | (simp [fillL, patch, Value.cells, zeros]; rfl)) (by omega) rfl rfl (fun b2 => ?_)
      (repeat' first|refine kW ?_|refine kU fun bk=>?_|refine kV fun hc=>?_|refine kZ (fun hc=>?_) fun hc=>?_|fail)
      refine OW_append rfl rfl ho (sl_cells (k := 1) (c := #[.string (str cur)]) (xs := [.string (str cur)]) (m := 1) Fnd.here rfl (by simp)) (by repeat (first | exact Zip.here _ | apply Zip.there)) rfl rfl (by omega) (by unfold maxLen; omega) rfl (fun v1 C1 g2 _ _ => ?_)
      rw [ssv_snoc, show d.length + 1 = (d ++ [cur]).length from by rw [List.length_append]; rfl] at g2
      have hone := ow_one g2
      (repeat' first|refine kW ?_|refine kU fun bk=>?_|refine kV fun hc=>?_|refine kZ (fun hc=>?_) fun hc=>?_|fail)
      exact WQ_round (X := Nat × Nat × List (List UInt8) × Value × Chunk) (μ := fun x => s.length + 1 - x.1) (x := (s.length, f, d, .slice oa d.length oc, C)) (s.length + 1, s.length + 1, d ++ [cur], v1, C1) (by simp only; omega) ⟨by simp only; omega, by simp only; omega, by simp only [List.length_append, List.length_cons, List.length_nil]; omega, fun h => by simp only at h; omega, fun _ => h4, g2⟩ iS (fun w h => (iC : Inc (C1 :: L) _).holds h)
  · have hd := h5 (by omega)
    subst hd
    (repeat' first|refine kW ?_|refine kU fun bk=>?_|refine kV fun hc=>?_|refine kZ (fun hc=>?_) fun hc=>?_|fail)
    refine kR ?_
    exact ⟨C :: L, iC, C, ho, rfl⟩
end
end Go.Proofs.YtehpnblbkldojaaDoor
namespace Go.Proofs.YtehpnblbkldojaaDoor
open Go Go.Vx Go.Nm Go.Ob Go.Lib
set_option linter.all false
set_option maxRecDepth 4000
section
variable [W0]
variable {P : Program} {n : Nat} {M : List (Nat × Value)} {L : List Chunk} {d : Nat} {ty : TypeId} {ps : String} {af : Array Edge} {g : Option (Nat × Bool)} {x y : Operand} in
theorem EV_neT (a b : List UInt8) (h : a ≠ b) {t u : TypeId} (hx : ev M x = some (.string (str a))) (hy : ev M y = some (.string (str b))) : EV P n ⟨some d, .binOp .neq t x y u, ty, ps, af, g⟩ M L d (.bool true) := by
  have := EV_neL (P := P) (n := n) (M := M) (L := L) (d := d) (ty := ty) (ps := ps) (af := af) (g := g) (t := t) (u := u) a b hx hy
  simpa [h] using this
variable {P : Program} {n : Nat} {M : List (Nat × Value)} {L : List Chunk} {d : Nat} {ty : TypeId} {ps : String} {af : Array Edge} {g : Option (Nat × Bool)} {x y : Operand} in
theorem EV_neF (a b : List UInt8) (h : a = b) {t u : TypeId} (hx : ev M x = some (.string (str a))) (hy : ev M y = some (.string (str b))) : EV P n ⟨some d, .binOp .neq t x y u, ty, ps, af, g⟩ M L d (.bool false) := by
  have := EV_neL (P := P) (n := n) (M := M) (L := L) (d := d) (ty := ty) (ps := ps) (af := af) (g := g) (t := t) (u := u) a b hx hy
  simpa [h] using this
variable {P : Program} {n : Nat} {M : List (Nat × Value)} {L : List Chunk} {d : Nat} {ty : TypeId} {ps : String} {af : Array Edge} {g : Option (Nat × Bool)} {x y : Operand} in
theorem EV_eqT (a b : List UInt8) (h : a = b) {t u : TypeId} (hx : ev M x = some (.string (str a))) (hy : ev M y = some (.string (str b))) : EV P n ⟨some d, .binOp .eql t x y u, ty, ps, af, g⟩ M L d (.bool true) := by
  have := EV_eqL (P := P) (n := n) (M := M) (L := L) (d := d) (ty := ty) (ps := ps) (af := af) (g := g) (t := t) (u := u) a b hx hy
  simpa [h] using this
variable {P : Program} {n : Nat} {M : List (Nat × Value)} {L : List Chunk} {d : Nat} {ty : TypeId} {ps : String} {af : Array Edge} {g : Option (Nat × Bool)} {x y : Operand} in
theorem EV_eqF (a b : List UInt8) (h : a ≠ b) {t u : TypeId} (hx : ev M x = some (.string (str a))) (hy : ev M y = some (.string (str b))) : EV P n ⟨some d, .binOp .eql t x y u, ty, ps, af, g⟩ M L d (.bool false) := by
  have := EV_eqL (P := P) (n := n) (M := M) (L := L) (d := d) (ty := ty) (ps := ps) (af := af) (g := g) (t := t) (u := u) a b hx hy
  simpa [h] using this
theorem two_at {s : List UInt8} {i : Nat} {p c : UInt8} (hp : s[i]? = some p) (hc : s[i + 1]? = some c) : (s.drop i).take (i + 2 - i) = [p, c] := by
  have hi := (List.getElem?_eq_some_iff.1 hp)
  have hj := (List.getElem?_eq_some_iff.1 hc)
  obtain ⟨h1, e1⟩ := hi
  obtain ⟨h2, e2⟩ := hj
  rw [show i + 2 - i = 2 from by omega, List.drop_eq_getElem_cons h1, List.drop_eq_getElem_cons h2, e1, e2]
  rfl
theorem twoB_take : ∀ {s : List UInt8} {n : Nat}, twoB (s.take n) = false → twoB s = false
  | [], n, h => by simp [twoB] at h
  | [x], n, h => by
    rcases n with _ | n
    · simp [twoB] at h
    · simp [twoB] at h
  | x :: y :: s, n, h => by
    rcases n with _ | _ | n
    · simp [twoB] at h
    · simp [twoB] at h
    · simp only [List.take_succ_cons] at h
      unfold twoB at h ⊢
      cases hxy : twB x y with
      | false => rfl
      | true =>
        rw [hxy, Bool.true_and] at h
        rw [Bool.true_and]
        exact twoB_take (s := y :: s) (n := n + 1) (by simpa using h)
theorem ptA_mem : ∀ (r cur x : List UInt8), x ∈ ptA cur r → x.length ≤ cur.length + r.length
  | [], cur, x, h => by
    unfold ptA at h
    rw [List.mem_singleton] at h
    rw [h]; simp
  | c :: r, cur, x, h => by
    unfold ptA at h
    split at h
    · rw [List.mem_cons] at h
      rcases h with h | h
      · rw [h]; omega
      · have := ptA_mem r [] x h
        simp only [List.length_nil, List.length_cons] at this ⊢
        omega
    · have := ptA_mem r (cur ++ [c]) x h
      simp only [List.length_append, List.length_cons, List.length_nil] at this ⊢
      omega
theorem bad_get {k : Nat} (h : k < 7) : (str badL)[k]? = some (badL.getD k 0) := str_get (t := badL) h
theorem bad_has {c : UInt8} {k : Nat} (h : k < 7) (e : badL.getD k 0 = c) : chB c = false := by
  have hm : badL.contains c = true := by
    rw [← e, List.contains_iff_mem]
    have : ∀ k : Fin 7, badL.getD k.val 0 ∈ badL := by decide
    exact this ⟨k, h⟩
  unfold chB
  rw [hm]
  simp
theorem bad_no {c : UInt8} (h : ∀ k, k < 7 → badL.getD k 0 ≠ c) : badL.contains c = false := by
  rw [Bool.eq_false_iff]
  intro w
  rw [List.contains_iff_mem] at w
  obtain ⟨k, hk, e⟩ := List.getElem_of_mem w
  refine h k hk ?_
  rw [List.getD_eq_getElem?_getD, List.getElem?_eq_getElem hk, e]
  rfl
set_option maxHeartbeats 8000000 in
theorem rvalid_n (s : List UInt8) (L : List Chunk) (hs : s.length ≤ 9223372036854775000) : GvP Tryd.prog 12 [.string (str s)].toArray L (.bool (vlN s)) := by
  have z1 : (str s).size = s.length := str_size s
  refine Gv.of_body (args := [.string (str s)]) Tryd.func12 rfl rfl ?_
  by_cases h1 : 100 < s.length
  · rw [show vlN s = false from by unfold vlN; rw [decide_eq_false (by omega)]; rfl]
    (repeat' first|refine kW ?_|refine kU fun bk=>?_|refine kV fun hc=>?_|refine kZ (fun hc=>?_) fun hc=>?_|fail)
    exact kE
  by_cases h2 : s.length < 5
  · rw [show vlN s = false from by unfold vlN; rw [decide_eq_false (p := 5 ≤ s.length) (by omega)]; simp]
    (repeat' first|refine kW ?_|refine kU fun bk=>?_|refine kV fun hc=>?_|refine kZ (fun hc=>?_) fun hc=>?_|fail)
    exact kE
  by_cases h3 : s.take 5 = refsL
  rotate_left
  · rw [show vlN s = false from by unfold vlN; rw [decide_eq_false h3]; simp]
    (repeat' first|refine kW ?_|refine kU fun bk=>?_|refine kV fun hc=>?_|refine kZ (fun hc=>?_) fun hc=>?_|fail)
    refine OW_EV (EV_cutL s 0 5 rfl rfl rfl (by omega) (by omega)) rfl ?_
    rw [List.drop_zero, Nat.sub_zero]
    refine WL_on rfl rfl ?_
    refine OW_EV (EV_neT (s.take 5) refsL h3 rfl rfl) rfl ?_
    (repeat' first|refine kW ?_|refine kU fun bk=>?_|refine kV fun hc=>?_|refine kZ (fun hc=>?_) fun hc=>?_|fail)
    exact kE
  cases h4 : validD s with
  | false =>
    have hu := refutf8_n s L hs
    rw [h4] at hu
    rw [show vlN s = false from by unfold vlN; rw [h4]; simp]
    (repeat' first|refine kW ?_|refine kU fun bk=>?_|refine kV fun hc=>?_|refine kZ (fun hc=>?_) fun hc=>?_|fail)
    refine OW_EV (EV_cutL s 0 5 rfl rfl rfl (by omega) (by omega)) rfl ?_
    rw [List.drop_zero, Nat.sub_zero]
    refine WL_on rfl rfl ?_
    refine OW_EV (EV_neF (s.take 5) refsL h3 rfl rfl) rfl ?_
    (repeat' first|refine kW ?_|refine kU fun bk=>?_|refine kV fun hc=>?_|refine kZ (fun hc=>?_) fun hc=>?_|fail)
    refine OW_callP rfl rfl rfl hu rfl ?_
    (repeat' first|refine kW ?_|refine kU fun bk=>?_|refine kV fun hc=>?_|refine kZ (fun hc=>?_) fun hc=>?_|fail)
    exact kE
  | true =>
  have hu := refutf8_n s L hs
  rw [h4] at hu
  cases h5 : endB s [46] with
  | true =>
    have he := rends_n s [46] L hs (by simp)
    rw [h5] at he
    rw [show vlN s = false from by unfold vlN; rw [h5]; simp]
    (repeat' first|refine kW ?_|refine kU fun bk=>?_|refine kV fun hc=>?_|refine kZ (fun hc=>?_) fun hc=>?_|fail)
    refine OW_EV (EV_cutL s 0 5 rfl rfl rfl (by omega) (by omega)) rfl ?_
    rw [List.drop_zero, Nat.sub_zero]
    refine WL_on rfl rfl ?_
    refine OW_EV (EV_neF (s.take 5) refsL h3 rfl rfl) rfl ?_
    (repeat' first|refine kW ?_|refine kU fun bk=>?_|refine kV fun hc=>?_|refine kZ (fun hc=>?_) fun hc=>?_|fail)
    refine OW_callP rfl rfl rfl hu rfl ?_
    (repeat' first|refine kW ?_|refine kU fun bk=>?_|refine kV fun hc=>?_|refine kZ (fun hc=>?_) fun hc=>?_|fail)
    refine OW_callP rfl rfl rfl he rfl ?_
    (repeat' first|refine kW ?_|refine kU fun bk=>?_|refine kV fun hc=>?_|refine kZ (fun hc=>?_) fun hc=>?_|fail)
    exact kE
  | false =>
  have he := rends_n s [46] L hs (by simp)
  rw [h5] at he
  have hvl : vlN s = ((s.all chB && twoB s) && (ptL s).all ptB) := by
    unfold vlN
    rw [decide_eq_true (p := s.length ≤ 100) (by omega), decide_eq_true (p := 5 ≤ s.length) (by omega), decide_eq_true h3, h4, h5]
    rfl
  rw [hvl]
  (repeat' first|refine kW ?_|refine kU fun bk=>?_|refine kV fun hc=>?_|refine kZ (fun hc=>?_) fun hc=>?_|fail)
  refine OW_EV (EV_cutL s 0 5 rfl rfl rfl (by omega) (by omega)) rfl ?_
  rw [List.drop_zero, Nat.sub_zero]
  refine WL_on rfl rfl ?_
  refine OW_EV (EV_neF (s.take 5) refsL h3 rfl rfl) rfl ?_
  (repeat' first|refine kW ?_|refine kU fun bk=>?_|refine kV fun hc=>?_|refine kZ (fun hc=>?_) fun hc=>?_|fail)
  refine OW_callP rfl rfl rfl hu rfl ?_
  (repeat' first|refine kW ?_|refine kU fun bk=>?_|refine kV fun hc=>?_|refine kZ (fun hc=>?_) fun hc=>?_|fail)
  refine OW_callP rfl rfl rfl he rfl ?_
  (repeat' first|refine kW ?_|refine kU fun bk=>?_|refine kV fun hc=>?_|refine kZ (fun hc=>?_) fun hc=>?_|fail)
  refine WC_loop (X := Nat) (fun i => [(0, .string (str s)), (3, .int .i64 (i : Int))]) (fun _ => L) (fun i => i ≤ s.length ∧ (s.take i).all chB = true ∧ twoB (s.take i) = true) (fun i => s.length - i) 0 ⟨Nat.zero_le _, rfl, rfl⟩ iS (fun w h => h) ?_
  rintro i ⟨q1, q2, q3⟩
  by_cases hlt : i < s.length
  · obtain ⟨c, hc0⟩ : ∃ c, s[i]? = some c := ⟨s[i], by simp [hlt]⟩
    have hget := str_gt hc0
    have hcm : c ∈ s := List.mem_of_getElem? hc0
    have hbad : chB c = false → (s.all chB && twoB s) = false := fun w => by
      have : s.all chB = false := by
        rw [Bool.eq_false_iff]
        intro u
        have := List.all_eq_true.1 u c hcm
        rw [w] at this
        cases this
      rw [this]; rfl
    by_cases g1 : c.toNat < 33
    · rw [hbad (by unfold chB; rw [decide_eq_false (by omega)]; rfl)]
      (repeat' first|refine kW ?_|refine kU fun bk=>?_|refine kV fun hc=>?_|refine kZ (fun hc=>?_) fun hc=>?_|fail)
      refine OW_EV (EV_indexStr (j := i) (u := c) rfl rfl rfl hget) rfl ?_
      (repeat' first|refine kW ?_|refine kU fun bk=>?_|refine kV fun hc=>?_|refine kZ (fun hc=>?_) fun hc=>?_|fail)
      exact kE
    by_cases g2 : c.toNat = 127
    · rw [hbad (by unfold chB; rw [decide_eq_false (p := c.toNat ≠ 127) (by omega)]; simp)]
      (repeat' first|refine kW ?_|refine kU fun bk=>?_|refine kV fun hc=>?_|refine kZ (fun hc=>?_) fun hc=>?_|fail)
      refine OW_EV (EV_indexStr (j := i) (u := c) rfl rfl rfl hget) rfl ?_
      (repeat' first|refine kW ?_|refine kU fun bk=>?_|refine kV fun hc=>?_|refine kZ (fun hc=>?_) fun hc=>?_|fail)
      refine OW_EV (EV_indexStr (j := i) (u := c) rfl rfl rfl hget) rfl ?_
      (repeat' first|refine kW ?_|refine kU fun bk=>?_|refine kV fun hc=>?_|refine kZ (fun hc=>?_) fun hc=>?_|fail)
      exact kE
    (repeat' first|refine kW ?_|refine kU fun bk=>?_|refine kV fun hc=>?_|refine kZ (fun hc=>?_) fun hc=>?_|fail)
    refine OW_EV (EV_indexStr (j := i) (u := c) rfl rfl rfl hget) rfl ?_
    (repeat' first|refine kW ?_|refine kU fun bk=>?_|refine kV fun hc=>?_|refine kZ (fun hc=>?_) fun hc=>?_|fail)
    refine OW_EV (EV_indexStr (j := i) (u := c) rfl rfl rfl hget) rfl ?_
    (repeat' first|refine kW ?_|refine kU fun bk=>?_|refine kV fun hc=>?_|refine kZ (fun hc=>?_) fun hc=>?_|fail)
    refine WC_loop (X := Nat) (fun k => [(0, .string (str s)), (3, .int .i64 (i : Int)), (4, .int .i64 (k : Int))]) (fun _ => L) (fun k => k ≤ 7 ∧ ∀ j, j < k → badL.getD j 0 ≠ c) (fun k => 7 - k) 0 ⟨Nat.zero_le _, fun j hj => by omega⟩ iS (fun w h => h) ?_
    rintro k ⟨k1, k2⟩
    by_cases hk : k < 7
    · have hgk := bad_get hk
      have hbh := fun e => bad_has (c := c) hk e
      obtain ⟨e, hee⟩ : ∃ e, e = badL.getD k 0 := ⟨_, rfl⟩
      rw [← hee] at hgk hbh
      (repeat' first|refine kW ?_|refine kU fun bk=>?_|refine kV fun hc=>?_|refine kZ (fun hc=>?_) fun hc=>?_|fail)
      refine WC_drawAll [] mixed ?_
      (refine WR_t 0 ?_; refine WR_t 1 ?_)
      (refine WR_take 2 rfl rfl (by kernel_rfl) iP iC (EV_indexStr (j := i) (u := c) rfl rfl rfl hget) (by rfl) ?_)
      (refine WR_t 3 ?_)
      (refine WR_take 4 rfl rfl (by kernel_rfl) iP iC (EV_indexStr (s := str badL) (j := k) (u := e) rfl rfl rfl hgk) (by rfl) ?_)
      (refine WR_t 5 ?_)
      (refine WR_done (by kernel_rfl) ?_)
      (repeat' first|refine kW ?_|refine kU fun bk=>?_|refine kV fun hc=>?_|refine kZ (fun hc=>?_) fun hc=>?_|fail)
      · rw [hbad (hbh (UInt8.toNat_inj.1 (by omega)))]
        exact kE
      · refine WQ_round (X := Nat) (μ := fun k => 7 - k) (x := k) (k + 1) (by omega) ⟨by omega, fun j hj => ?_⟩ iS (fun w h => h)
        by_cases w : j = k
        · rw [w, ← hee]; intro u; rw [u] at hc; exact hc rfl
        · exact k2 j (by omega)
    obtain rfl : k = 7 := by omega
    have hch : chB c = true := by
      unfold chB
      rw [decide_eq_true (by omega), decide_eq_true g2, bad_no k2]
      rfl
    have hall1 : (s.take (i + 1)).all chB = true := by rw [List.take_add_one, hc0, List.all_append, q2]; simp [hch]
    by_cases h0 : i = 0
    · subst h0
      (repeat' first|refine kW ?_|refine kU fun bk=>?_|refine kV fun hc=>?_|refine kZ (fun hc=>?_) fun hc=>?_|fail)
      refine WQ_round (X := Nat) (μ := fun i => s.length - i) (x := 0) 1 (by omega) ⟨by omega, hall1, ?_⟩ iS (fun w h => h)
      rw [List.take_add_one, hc0]
      rfl
    obtain ⟨p, hp0⟩ : ∃ p, s[i - 1]? = some p := ⟨s[i - 1]'(by omega), List.getElem?_eq_getElem (by omega)⟩
    have hpc := two_at (i := i - 1) hp0 (by rw [show i - 1 + 1 = i from by omega]; exact hc0)
    rw [show i - 1 + 2 = i + 1 from by omega] at hpc
    have htk : s.take (i + 1) = s.take (i - 1) ++ [p, c] := by
      rw [List.take_add_one, hc0, show s.take i = s.take (i - 1 + 1) from by rw [show i - 1 + 1 = i from by omega], List.take_add_one, hp0, List.append_assoc]
      rfl
    have htk0 : s.take i = s.take (i - 1) ++ [p] := by
      rw [show s.take i = s.take (i - 1 + 1) from by rw [show i - 1 + 1 = i from by omega], List.take_add_one, hp0]
      rfl
    have hbad2 : twB p c = false → (s.all chB && twoB s) = false := fun w => by
      have h6 : twoB (s.take (i + 1)) = false := by rw [htk, twoB_snoc, w, Bool.and_false]
      have h7 := twoB_take (s := s) (n := i + 1) h6
      rw [h7, Bool.and_false]
    by_cases w1 : [p, c] = [46, 46]
    · rw [hbad2 (by unfold twB; rw [decide_eq_true w1]; rfl)]
      (repeat' first|refine kW ?_|refine kU fun bk=>?_|refine kV fun hc=>?_|refine kZ (fun hc=>?_) fun hc=>?_|fail)
      refine OW_EV (EV_cutL s (i - 1) (i + 1) rfl (bnd_int rfl (by omega)) (bnd_int rfl (by omega)) (by omega) (by omega)) rfl ?_
      rw [hpc]
      refine WL_on rfl rfl ?_
      refine OW_EV (EV_eqT [p, c] [46, 46] w1 rfl rfl) rfl ?_
      (repeat' first|refine kW ?_|refine kU fun bk=>?_|refine kV fun hc=>?_|refine kZ (fun hc=>?_) fun hc=>?_|fail)
      exact kE
    by_cases w2 : [p, c] = [64, 123]
    · rw [hbad2 (by unfold twB; rw [decide_eq_true w2, Bool.or_true]; rfl)]
      (repeat' first|refine kW ?_|refine kU fun bk=>?_|refine kV fun hc=>?_|refine kZ (fun hc=>?_) fun hc=>?_|fail)
      refine OW_EV (EV_cutL s (i - 1) (i + 1) rfl (bnd_int rfl (by omega)) (bnd_int rfl (by omega)) (by omega) (by omega)) rfl ?_
      rw [hpc]
      refine WL_on rfl rfl ?_
      refine OW_EV (EV_eqF [p, c] [46, 46] w1 rfl rfl) rfl ?_
      (repeat' first|refine kW ?_|refine kU fun bk=>?_|refine kV fun hc=>?_|refine kZ (fun hc=>?_) fun hc=>?_|fail)
      refine OW_EV (EV_cutL s (i - 1) (i + 1) rfl (bnd_int rfl (by omega)) (bnd_int rfl (by omega)) (by omega) (by omega)) rfl ?_
      rw [hpc]
      refine WL_on rfl rfl ?_
      refine OW_EV (EV_eqT [p, c] [64, 123] w2 rfl rfl) rfl ?_
      (repeat' first|refine kW ?_|refine kU fun bk=>?_|refine kV fun hc=>?_|refine kZ (fun hc=>?_) fun hc=>?_|fail)
      exact kE
    (repeat' first|refine kW ?_|refine kU fun bk=>?_|refine kV fun hc=>?_|refine kZ (fun hc=>?_) fun hc=>?_|fail)
    refine OW_EV (EV_cutL s (i - 1) (i + 1) rfl (bnd_int rfl (by omega)) (bnd_int rfl (by omega)) (by omega) (by omega)) rfl ?_
    rw [hpc]
    refine WL_on rfl rfl ?_
    refine OW_EV (EV_eqF [p, c] [46, 46] w1 rfl rfl) rfl ?_
    (repeat' first|refine kW ?_|refine kU fun bk=>?_|refine kV fun hc=>?_|refine kZ (fun hc=>?_) fun hc=>?_|fail)
    refine OW_EV (EV_cutL s (i - 1) (i + 1) rfl (bnd_int rfl (by omega)) (bnd_int rfl (by omega)) (by omega) (by omega)) rfl ?_
    rw [hpc]
    refine WL_on rfl rfl ?_
    refine OW_EV (EV_eqF [p, c] [64, 123] w2 rfl rfl) rfl ?_
    (repeat' first|refine kW ?_|refine kU fun bk=>?_|refine kV fun hc=>?_|refine kZ (fun hc=>?_) fun hc=>?_|fail)
    refine WQ_round (X := Nat) (μ := fun i => s.length - i) (x := i) (i + 1) (by omega) ⟨by omega, hall1, ?_⟩ iS (fun w h => h)
    rw [htk, twoB_snoc, ← htk0, q3]
    unfold twB
    rw [decide_eq_false w1, decide_eq_false w2]
    rfl
  obtain rfl : i = s.length := by omega
  rw [List.take_length] at q2 q3
  rw [q2, q3]
  (repeat' first|refine kW ?_|refine kU fun bk=>?_|refine kV fun hc=>?_|refine kZ (fun hc=>?_) fun hc=>?_|fail)
  refine OW_call rfl rfl rfl (rparts_n s _ (by omega)) rfl (fun r L' hp => ?_)
  obtain ⟨C, ho, rfl⟩ := hp
  obtain ⟨l, hl⟩ : ∃ l, l = ptL s := ⟨_, rfl⟩
  rw [← hl] at ho ⊢
  obtain ⟨oa, oc, rfl⟩ := ow_slc ho
  have hll : l.length ≤ s.length + 1 := by rw [hl]; exact ptA_len s []
  have hsl : Sl (C :: L) 1 (.slice oa l.length oc) l.length (ssv l) := ow_sl ho
  (repeat' first|refine kW ?_|refine kU fun bk=>?_|refine kV fun hc=>?_|refine kZ (fun hc=>?_) fun hc=>?_|fail)
  refine WC_loop (X := Nat) (fun k => [(0, .string (str s)), (5, .slice oa l.length oc), (6, .int .i64 (k : Int))]) (fun _ => C :: L) (fun k => k ≤ l.length ∧ (l.take k).all ptB = true) (fun k => l.length - k) 0 ⟨Nat.zero_le _, rfl⟩ iS (fun w h => h) ?_
  rintro k ⟨r1, r2⟩
  by_cases hk : k < l.length
  · obtain ⟨e, he⟩ : ∃ e, l[k]? = some e := ⟨l[k], by simp [hk]⟩
    obtain ⟨b, off, cap, c, T, fr, hv, hfn, g0⟩ := sl_at1 hsl he
    injection hv with e1 _ e3
    subst e1 e3
    have hel : e.length ≤ s.length := by
      have := ptA_mem s [] e (by rw [← show l = ptA [] s from hl]; exact List.mem_of_getElem? he)
      simpa using this
    have hbadp : ptB e = false → (true && true && l.all ptB) = false := fun w => by
      have : l.all ptB = false := by
        rw [Bool.eq_false_iff]
        intro u
        have := List.all_eq_true.1 u e (List.mem_of_getElem? he)
        rw [w] at this
        cases this
      rw [this]; rfl
    by_cases w1 : e = []
    · rw [hbadp (by unfold ptB; rw [decide_eq_false (p := e ≠ []) (by simpa using w1)]; rfl)]
      (repeat' first|refine kW ?_|refine kU fun bk=>?_|refine kV fun hc=>?_|refine kZ (fun hc=>?_) fun hc=>?_|fail)
      refine OW_EV (EV_indexAddr (j := k) rfl rfl rfl hk) rfl ?_
      (repeat' first|refine kW ?_|refine kU fun bk=>?_|refine kV fun hc=>?_|refine kZ (fun hc=>?_) fun hc=>?_|fail)
      refine OW_EV (EV_load rfl hfn g0) rfl ?_
      refine WL_plain rfl ?_
      refine OW_EV (EV_eqT e [] w1 rfl rfl) rfl ?_
      (repeat' first|refine kW ?_|refine kU fun bk=>?_|refine kV fun hc=>?_|refine kZ (fun hc=>?_) fun hc=>?_|fail)
      exact kE
    obtain ⟨c0, hc0⟩ : ∃ c0, e[0]? = some c0 := by
      cases e with
      | nil => exact absurd rfl w1
      | cons x r => exact ⟨x, rfl⟩
    have hget := str_gt hc0
    have hgd : e.getD 0 0 = c0 := by rw [List.getD_eq_getElem?_getD, hc0]; rfl
    by_cases w2 : c0.toNat = 46
    · rw [hbadp (by unfold ptB; rw [hgd, decide_eq_false (p := c0 ≠ 46) (by rw [show c0 = 46 from UInt8.toNat_inj.1 w2]; simp)]; simp)]
      (repeat' first|refine kW ?_|refine kU fun bk=>?_|refine kV fun hc=>?_|refine kZ (fun hc=>?_) fun hc=>?_|fail)
      refine OW_EV (EV_indexAddr (j := k) rfl rfl rfl hk) rfl ?_
      (repeat' first|refine kW ?_|refine kU fun bk=>?_|refine kV fun hc=>?_|refine kZ (fun hc=>?_) fun hc=>?_|fail)
      refine OW_EV (EV_load rfl hfn g0) rfl ?_
      refine WL_plain rfl ?_
      refine OW_EV (EV_eqF e [] w1 rfl rfl) rfl ?_
      (repeat' first|refine kW ?_|refine kU fun bk=>?_|refine kV fun hc=>?_|refine kZ (fun hc=>?_) fun hc=>?_|fail)
      refine OW_EV (EV_indexAddr (j := k) rfl rfl rfl hk) rfl ?_
      (repeat' first|refine kW ?_|refine kU fun bk=>?_|refine kV fun hc=>?_|refine kZ (fun hc=>?_) fun hc=>?_|fail)
      refine OW_EV (EV_load rfl hfn g0) rfl ?_
      (repeat' first|refine kW ?_|refine kU fun bk=>?_|refine kV fun hc=>?_|refine kZ (fun hc=>?_) fun hc=>?_|fail)
      refine OW_EV (EV_indexStr (j := 0) (u := c0) rfl rfl rfl hget) rfl ?_
      (repeat' first|refine kW ?_|refine kU fun bk=>?_|refine kV fun hc=>?_|refine kZ (fun hc=>?_) fun hc=>?_|fail)
      exact kE
    have hr := rends_n e lockL (C :: L) (by omega) (by simp [lockL])
    have hpb : ptB e = !endB e lockL := by
      unfold ptB
      rw [hgd, decide_eq_true w1, decide_eq_true (p := c0 ≠ 46) (fun u => w2 (by rw [u]; rfl))]
      rfl
    (repeat' first|refine kW ?_|refine kU fun bk=>?_|refine kV fun hc=>?_|refine kZ (fun hc=>?_) fun hc=>?_|fail)
    refine OW_EV (EV_indexAddr (j := k) rfl rfl rfl hk) rfl ?_
    (repeat' first|refine kW ?_|refine kU fun bk=>?_|refine kV fun hc=>?_|refine kZ (fun hc=>?_) fun hc=>?_|fail)
    refine OW_EV (EV_load rfl hfn g0) rfl ?_
    refine WL_plain rfl ?_
    refine OW_EV (EV_eqF e [] w1 rfl rfl) rfl ?_
    (repeat' first|refine kW ?_|refine kU fun bk=>?_|refine kV fun hc=>?_|refine kZ (fun hc=>?_) fun hc=>?_|fail)
    refine OW_EV (EV_indexAddr (j := k) rfl rfl rfl hk) rfl ?_
    (repeat' first|refine kW ?_|refine kU fun bk=>?_|refine kV fun hc=>?_|refine kZ (fun hc=>?_) fun hc=>?_|fail)
    refine OW_EV (EV_load rfl hfn g0) rfl ?_
    (repeat' first|refine kW ?_|refine kU fun bk=>?_|refine kV fun hc=>?_|refine kZ (fun hc=>?_) fun hc=>?_|fail)
    refine OW_EV (EV_indexStr (j := 0) (u := c0) rfl rfl rfl hget) rfl ?_
    (repeat' first|refine kW ?_|refine kU fun bk=>?_|refine kV fun hc=>?_|refine kZ (fun hc=>?_) fun hc=>?_|fail)
    refine OW_EV (EV_indexAddr (j := k) rfl rfl rfl hk) rfl ?_
    (repeat' first|refine kW ?_|refine kU fun bk=>?_|refine kV fun hc=>?_|refine kZ (fun hc=>?_) fun hc=>?_|fail)
    refine OW_EV (EV_load rfl hfn g0) rfl ?_
    (repeat' first|refine kW ?_|refine kU fun bk=>?_|refine kV fun hc=>?_|refine kZ (fun hc=>?_) fun hc=>?_|fail)
    cases hb : endB e lockL with
    | true =>
      rw [hb] at hr hpb
      rw [hbadp hpb]
      refine OW_callP rfl rfl rfl hr rfl ?_
      (repeat' first|refine kW ?_|refine kU fun bk=>?_|refine kV fun hc=>?_|refine kZ (fun hc=>?_) fun hc=>?_|fail)
      exact kE
    | false =>
      rw [hb] at hr hpb
      refine OW_callP rfl rfl rfl hr rfl ?_
      (repeat' first|refine kW ?_|refine kU fun bk=>?_|refine kV fun hc=>?_|refine kZ (fun hc=>?_) fun hc=>?_|fail)
      refine WQ_round (X := Nat) (μ := fun k => l.length - k) (x := k) (k + 1) (by omega) ⟨by omega, ?_⟩ iS (fun w h => h)
      rw [List.take_add_one, he, List.all_append, r2]
      simp [hpb]
  obtain rfl : k = l.length := by omega
  rw [List.take_length] at r2
  rw [r2]
  (repeat' first|refine kW ?_|refine kU fun bk=>?_|refine kV fun hc=>?_|refine kZ (fun hc=>?_) fun hc=>?_|fail)
  exact kE
end
end Go.Proofs.YtehpnblbkldojaaDoor
namespace Go.Proofs.YtehpnblbkldojaaDoor
open Go Go.Vx Go.Nm Go.Ob Go.Lib
set_option linter.all false
set_option maxRecDepth 4000
section
variable [W0]
set_option maxHeartbeats 4000000 in
theorem rmay_n (s : List UInt8) (L : List Chunk) (hs : s.length ≤ 9223372036854770000) : GvP Tryd.prog 30 [.string (str s)].toArray L (.tuple #[.bool (myN s).1, .bool (myN s).2]) := by
  have z1 : (str s).size = s.length := str_size s
  have hst := rstar_n s L (by omega)
  have hv := rvalid_n s L (by omega)
  refine Gv.of_body (args := [.string (str s)]) Tryd.func30 rfl rfl ?_
  by_cases h1 : stN s = -2
  · have e : myN s = (false, false) := by unfold myN; rw [if_pos h1]
    rw [e]
    rw [h1] at hst
    (repeat' first|refine kW ?_|refine kU fun bk=>?_|refine kV fun hc=>?_|refine kZ (fun hc=>?_) fun hc=>?_|fail)
    refine OW_callP rfl rfl rfl hst rfl ?_
    (repeat' first|refine kW ?_|refine kU fun bk=>?_|refine kV fun hc=>?_|refine kZ (fun hc=>?_) fun hc=>?_|fail)
    exact kE
  by_cases h2 : stN s < 0
  · have e : myN s = (vlN s, false) := by unfold myN; rw [if_neg h1, if_pos h2]
    rw [e]
    obtain ⟨j, hj⟩ : ∃ j, j = stN s := ⟨_, rfl⟩
    rw [← hj] at hst h1 h2
    (repeat' first|refine kW ?_|refine kU fun bk=>?_|refine kV fun hc=>?_|refine kZ (fun hc=>?_) fun hc=>?_|fail)
    refine OW_callP rfl rfl rfl hst rfl ?_
    (repeat' first|refine kW ?_|refine kU fun bk=>?_|refine kV fun hc=>?_|refine kZ (fun hc=>?_) fun hc=>?_|fail)
    refine OW_callP rfl rfl rfl hv rfl ?_
    (repeat' first|refine kW ?_|refine kU fun bk=>?_|refine kV fun hc=>?_|refine kZ (fun hc=>?_) fun hc=>?_|fail)
    exact kE
  obtain ⟨i, hi⟩ : ∃ i : Nat, stN s = (i : Int) := ⟨(stN s).toNat, by omega⟩
  have hlt := stN_lt (s := s) (by omega)
  have e : myN s = (vlN (s.take i ++ [120] ++ s.drop (i + 1)), true) := by unfold myN; rw [if_neg h1, if_neg h2, hi]; rfl
  rw [hi] at hst hlt
  have hil : i < s.length := by omega
  rw [e]
  have hv2 := rvalid_n (s.take i ++ [120] ++ s.drop (i + 1)) L (by simp only [List.length_append, List.length_take, List.length_drop, List.length_cons, List.length_nil]; omega)
  (repeat' first|refine kW ?_|refine kU fun bk=>?_|refine kV fun hc=>?_|refine kZ (fun hc=>?_) fun hc=>?_|fail)
  refine OW_callP rfl rfl rfl hst rfl ?_
  (repeat' first|refine kW ?_|refine kU fun bk=>?_|refine kV fun hc=>?_|refine kZ (fun hc=>?_) fun hc=>?_|fail)
  refine WC_drawAll [] mixed ?_
  (refine WR_t 0 ?_; refine WR_t 1 ?_)
  (refine WR_take 2 rfl rfl (by kernel_rfl) iP iC (EV_cutL s 0 i rfl rfl rfl (by omega) (by omega)) (by rfl) ?_)
  rw [List.drop_zero, Nat.sub_zero]
  (refine WR_take 3 rfl rfl (by kernel_rfl) iP iC (EV_catL (s.take i) [120] rfl rfl (by simp only [List.length_take, List.length_cons, List.length_nil]; omega)) (by rfl) ?_)
  (refine WR_t 4 ?_; refine WR_t 5 ?_; refine WR_t 6 ?_)
  (refine WR_take 7 rfl rfl (by kernel_rfl) iP iC (EV_cutL s (i + 1) s.length rfl (bnd_int rfl (by omega)) rfl (by omega) (by omega)) (by rfl) ?_)
  rw [List.take_of_length_le (l := s.drop (i + 1)) (by simp)]
  (refine WR_take 8 rfl rfl (by kernel_rfl) iP iC (EV_catL (s.take i ++ [120]) (s.drop (i + 1)) rfl rfl (by simp only [List.length_append, List.length_take, List.length_drop, List.length_cons, List.length_nil]; omega)) (by rfl) ?_)
  (refine WR_one 9 (by kernel_rfl) rfl rfl ?_)
  refine OW_callP rfl rfl rfl hv2 rfl ?_
  refine ⟨iC, ?_⟩
  (refine WR_t 10 ?_; refine WR_t 11 ?_)
  (refine WR_done (by kernel_rfl) ?_)
  (repeat' first|refine kW ?_|refine kU fun bk=>?_|refine kV fun hc=>?_|refine kZ (fun hc=>?_) fun hc=>?_|fail)
  exact kE
end
end Go.Proofs.YtehpnblbkldojaaDoor
namespace Go.Vx
open Go
set_option linter.all false
variable [W0]
section
variable {P : Program} {n : Nat} {Q : Exit → Act → World → Prop} {M : List (Nat × Value)} {L S : List Chunk} {ops : List Oper} {T : List Nat} {fuel : Nat} {listed : Array Bool} {d : Nat} {v : Value}
variable {ty : TypeId} {ps : String} {af : Array Edge} {g : Option (Nat × Bool)} {x y : Operand}
theorem WC_cut {X : Type} {x y : Code} (MI : X → List (Nat × Value)) (LI : X → List Chunk) (J : X → Prop) (h1 : WC P n x (Exit.then (fun a' w' => ∃ z, J z ∧ St n (MI z) a' ∧ Holds w' (LI z)) Q) M L) (h2 : ∀ z, J z → WC P n y Q (MI z) (LI z)) : WC P n (.seq x y) Q M L := ⟨fun a w ha hw => by
  refine wp_seq (wp_mono (h1.out a w ha hw) ?_)
  intro e a' w' hq
  cases e with
  | normal =>
    obtain ⟨z, hz, hs, hw'⟩ := hq
    exact (h2 z hz).out a' w' hs hw'
  | exit id => exact hq
  | goto l => exact hq
  | ret => exact hq
  | panic c => exact hq
  | outgrown => exact hq⟩
theorem WQ_cut {X : Type} {MI : X → List (Nat × Value)} {LI : X → List Chunk} {J : X → Prop} (z : X) (hJ : J z) (hM : Sub (MI z) M) (hL : ∀ w, Holds w L → Holds w (LI z)) : WQ n (fun a' w' => ∃ z, J z ∧ St n (MI z) a' ∧ Holds w' (LI z)) M L := ⟨fun _ w ha hw => ⟨z, hJ, ha.sub hM, hL w hw⟩⟩
end
end Go.Vx
namespace Go.Proofs.YtehpnblbkldojaaDoor
open Go Go.Vx Go.Nm Go.Ob Go.Lib
set_option linter.all false
set_option maxRecDepth 4000
def spV (p : Sp) : List Value := [.bool p.force, .string (str p.src), .string (str p.dst)]
section
variable [W0]
set_option maxHeartbeats 4000000 in
theorem rsptext_n (p : Sp) (L : List Chunk) (h1 : p.src.length ≤ 140737488355328) (h2 : p.dst.length ≤ 140737488355328) : GvP Tryd.prog 19 [.agg (spV p).toArray].toArray L (.string (str (txN p))) := by
  obtain ⟨f, a, b⟩ := p
  simp only at h1 h2
  refine Gv.of_body (args := [.agg (spV ⟨f, a, b⟩).toArray]) Tryd.func19 rfl rfl ?_
  unfold spV
  (repeat' first|refine kW ?_|refine kU fun bk=>?_|refine kV fun hc=>?_|refine kZ (fun hc=>?_) fun hc=>?_|fail)
  revert bk; intro q
  refine OW_EV (EV_catL a [58] rfl rfl (by simp only [List.length_cons, List.length_nil]; omega)) rfl ?_
  (repeat' first|refine kW ?_|refine kU fun bk=>?_|refine kV fun hc=>?_|refine kZ (fun hc=>?_) fun hc=>?_|fail)
  refine OW_EV (EV_catL (a ++ [58]) b rfl rfl (by simp only [List.length_append, List.length_cons, List.length_nil]; omega)) rfl ?_
  cases f with
  | true =>
    (repeat' first|refine kW ?_|refine kU fun bk=>?_|refine kV fun hc=>?_|refine kZ (fun hc=>?_) fun hc=>?_|fail)
    refine OW_EV (EV_catL [43] (a ++ [58] ++ b) rfl rfl (by simp only [List.length_append, List.length_cons, List.length_nil]; omega)) rfl ?_
    (repeat' first|refine kW ?_|refine kU fun bk=>?_|refine kV fun hc=>?_|refine kZ (fun hc=>?_) fun hc=>?_|fail)
    exact kE
  | false =>
    (repeat' first|refine kW ?_|refine kU fun bk=>?_|refine kV fun hc=>?_|refine kZ (fun hc=>?_) fun hc=>?_|fail)
    exact kE
omit [W0] in
theorem cl_hit {u : List UInt8} {k : Nat} (h : u[k]? = some 58) (hn : ∀ j, j < k → u[j]? ≠ some 58) : clN u = some k := by
  unfold clN
  obtain ⟨hk, e⟩ := List.getElem?_eq_some_iff.1 h
  rw [List.findIdx?_eq_some_iff_getElem]
  refine ⟨hk, by rw [e]; rfl, fun j hj => ?_⟩
  have := hn j hj
  rw [List.getElem?_eq_getElem (by omega)] at this
  intro w
  exact this (congrArg some (by simpa using w))
omit [W0] in
theorem cl_no {u : List UInt8} (hn : ∀ j, j < u.length → u[j]? ≠ some 58) : clN u = none := by
  unfold clN
  rw [List.findIdx?_eq_none_iff]
  intro x hx
  obtain ⟨j, hj, e⟩ := List.getElem_of_mem hx
  have := hn j hj
  rw [List.getElem?_eq_getElem hj, e] at this
  simp only [beq_eq_false_iff_ne, ne_eq]
  intro w
  exact this (by rw [w])
omit [W0] in
theorem cl_lt {u : List UInt8} {k : Nat} (h : clN u = some k) : k < u.length := by
  unfold clN at h
  rw [List.findIdx?_eq_some_iff_getElem] at h
  exact h.1
def clZ (u : List UInt8) : Int := match clN u with | none => -1 | some i => (i : Int)
set_option maxHeartbeats 8000000 in
theorem rparse_n (s : List UInt8) (L : List Chunk) (hs : s.length ≤ 140737488355328) : GvP Tryd.prog 15 [.string (str s)].toArray L (match psN s with | some p => .tuple #[.agg (spV p).toArray, .int .i64 0] | none => .tuple #[.agg (spV ⟨false, [], []⟩).toArray, .int .i64 3]) := by
  have z1 : (str s).size = s.length := str_size s
  refine Gv.of_body (args := [.string (str s)]) Tryd.func15 rfl rfl ?_
  refine WC_seq ?_
  (repeat' first|refine kY ?_|refine kU fun bk=>?_|refine kV fun hc=>?_|refine kZ (fun hc=>?_) fun hc=>?_|fail)
  revert bk; intro r
  refine WC_seq ?_
  (repeat' first|refine kY ?_|refine kU fun bk=>?_|refine kV fun hc=>?_|refine kZ (fun hc=>?_) fun hc=>?_|fail)
  revert bk; intro q
  refine WC_cut (X := Unit) (fun _ => [(0, .string (str (plN s).2)), (2, .pointer (some ⟨r, 0, none⟩)), (3, .int .i64 0), (4, .pointer (some ⟨q, 0, none⟩))]) (fun _ => [(q, cl [.bool (plN s).1, .string (str []), .string (str [])] 35)] :: [(r, cl [.bool false, .string (str []), .string (str [])] 35)] :: L) (fun _ => True) ?_ ?_
  · rcases s with _ | ⟨c, t⟩
    · (repeat' first|refine kW ?_|refine kU fun bk=>?_|refine kV fun hc=>?_|refine kZ (fun hc=>?_) fun hc=>?_|fail)
      exact WQ_cut () trivial iS (fun w h => h)
    · have hget : (str (c :: t))[0]? = some c := str_gt rfl
      by_cases hc43 : c.toNat = 43
      · have hpl : plN (c :: t) = (true, t) := by rw [show c = 43 from UInt8.toNat_inj.1 hc43]; rfl
        rw [hpl]
        have hz : (str (c :: t)).size = t.length + 1 := z1
        (repeat' first|refine kW ?_|refine kU fun bk=>?_|refine kV fun hc=>?_|refine kZ (fun hc=>?_) fun hc=>?_|fail)
        refine OW_EV (EV_indexStr (j := 0) (u := c) rfl rfl rfl hget) rfl ?_
        (repeat' first|refine kW ?_|refine kU fun bk=>?_|refine kV fun hc=>?_|refine kZ (fun hc=>?_) fun hc=>?_|fail)
        refine OW_store rfl rfl rfl iU (by first | rfl | trivial | simp) ?_
        (repeat' first|refine kW ?_|refine kU fun bk=>?_|refine kV fun hc=>?_|refine kZ (fun hc=>?_) fun hc=>?_|fail)
        refine OW_EV (EV_cutL (c :: t) 1 (c :: t).length rfl rfl rfl (by simp) (Nat.le_refl _)) rfl ?_
        rw [show ((c :: t).drop 1).take ((c :: t).length - 1) = t from by simp]
        (repeat' first|refine kW ?_|refine kU fun bk=>?_|refine kV fun hc=>?_|refine kZ (fun hc=>?_) fun hc=>?_|fail)
        exact WQ_cut () trivial iS (fun w h => h)
      · have hpl : plN (c :: t) = (false, c :: t) := by
          unfold plN
          split
          · rename_i heq
            injection heq with e1 _
            exact absurd (by rw [e1]; rfl) hc43
          · rfl
        rw [hpl]
        have hz : (str (c :: t)).size = t.length + 1 := z1
        (repeat' first|refine kW ?_|refine kU fun bk=>?_|refine kV fun hc=>?_|refine kZ (fun hc=>?_) fun hc=>?_|fail)
        refine OW_EV (EV_indexStr (j := 0) (u := c) rfl rfl rfl hget) rfl ?_
        (repeat' first|refine kW ?_|refine kU fun bk=>?_|refine kV fun hc=>?_|refine kZ (fun hc=>?_) fun hc=>?_|fail)
        exact WQ_cut () trivial iS (fun w h => h)
  intro _ _
  have hps : psN s = if (if (sdN (plN s).2).1 = [] ∧ (clN (plN s).2).isSome = true then (true, false) else myN (sdN (plN s).2).1).1 = true ∧ (myN (sdN (plN s).2).2).1 = true ∧ (if (sdN (plN s).2).1 = [] ∧ (clN (plN s).2).isSome = true then (true, false) else myN (sdN (plN s).2).1).2 = (myN (sdN (plN s).2).2).2 then some ⟨(plN s).1, (sdN (plN s).2).1, (sdN (plN s).2).2⟩ else none := rfl
  rw [hps]
  have hul : (plN s).2.length ≤ s.length := by
    unfold plN
    split
    · simp
    · exact Nat.le_refl _
  generalize (plN s).1 = fo at hps ⊢
  generalize (plN s).2 = u at hps hul ⊢
  clear hps
  have z2 : (str u).size = u.length := str_size u
  refine WC_seq ?_
  (repeat' first|refine kY ?_|refine kU fun bk=>?_|refine kV fun hc=>?_|refine kZ (fun hc=>?_) fun hc=>?_|fail)
  refine WC_cut (X := Unit) (fun _ => [(0, .string (str u)), (2, .pointer (some ⟨r, 0, none⟩)), (3, .int .i64 0), (4, .pointer (some ⟨q, 0, none⟩)), (5, .int .i64 (clZ u))]) (fun _ => [(q, cl [.bool fo, .string (str []), .string (str [])] 35)] :: [(r, cl [.bool false, .string (str []), .string (str [])] 35)] :: L) (fun _ => True) ?_ ?_
  · (repeat' first|refine kW ?_|refine kU fun bk=>?_|refine kV fun hc=>?_|refine kZ (fun hc=>?_) fun hc=>?_|fail)
    refine WC_loop (X := Nat) (fun k => [(0, .string (str u)), (2, .pointer (some ⟨r, 0, none⟩)), (3, .int .i64 0), (4, .pointer (some ⟨q, 0, none⟩)), (5, .int .i64 (-1)), (6, .int .i64 (k : Int))]) (fun _ => [(q, cl [.bool fo, .string (str []), .string (str [])] 35)] :: [(r, cl [.bool false, .string (str []), .string (str [])] 35)] :: L) (fun k => k ≤ u.length ∧ ∀ j, j < k → u[j]? ≠ some 58) (fun k => u.length - k) 0 ⟨Nat.zero_le _, fun j hj => by omega⟩ iS (fun w h => h) ?_
    rintro k ⟨k1, k2⟩
    by_cases hk : k < u.length
    · obtain ⟨c, hc0⟩ : ∃ c, u[k]? = some c := ⟨u[k], by simp [hk]⟩
      have hget := str_gt hc0
      by_cases hc58 : c.toNat = 58
      · have e : clZ u = (k : Int) := by unfold clZ; rw [cl_hit (by rw [hc0, show c = 58 from UInt8.toNat_inj.1 hc58]) k2]
        rw [e]
        (repeat' first|refine kW ?_|refine kU fun bk=>?_|refine kV fun hc=>?_|refine kZ (fun hc=>?_) fun hc=>?_|fail)
        refine OW_EV (EV_indexStr (j := k) (u := c) rfl rfl rfl hget) rfl ?_
        (repeat' first|refine kW ?_|refine kU fun bk=>?_|refine kV fun hc=>?_|refine kZ (fun hc=>?_) fun hc=>?_|fail)
        exact WQ_cut () trivial iS (fun w h => h)
      · (repeat' first|refine kW ?_|refine kU fun bk=>?_|refine kV fun hc=>?_|refine kZ (fun hc=>?_) fun hc=>?_|fail)
        refine OW_EV (EV_indexStr (j := k) (u := c) rfl rfl rfl hget) rfl ?_
        (repeat' first|refine kW ?_|refine kU fun bk=>?_|refine kV fun hc=>?_|refine kZ (fun hc=>?_) fun hc=>?_|fail)
        refine WQ_round (X := Nat) (μ := fun k => u.length - k) (x := k) (k + 1) (by omega) ⟨by omega, fun j hj => ?_⟩ iS (fun w h => h)
        by_cases w : j = k
        · rw [w, hc0]; intro v; injection v with v; exact hc58 (by rw [v]; rfl)
        · exact k2 j (by omega)
    obtain rfl : k = u.length := by omega
    have e : clZ u = -1 := by unfold clZ; rw [cl_no k2]
    rw [e]
    (repeat' first|refine kW ?_|refine kU fun bk=>?_|refine kV fun hc=>?_|refine kZ (fun hc=>?_) fun hc=>?_|fail)
    exact WQ_cut () trivial iS (fun w h => h)
  intro _ _
  refine WC_seq ?_
  (repeat' first|refine kY ?_|refine kU fun bk=>?_|refine kV fun hc=>?_|refine kZ (fun hc=>?_) fun hc=>?_|fail)
  refine WC_seq ?_
  (repeat' first|refine kY ?_|refine kU fun bk=>?_|refine kV fun hc=>?_|refine kZ (fun hc=>?_) fun hc=>?_|fail)
  refine WC_cut (X := Unit) (fun _ => [(0, .string (str u)), (2, .pointer (some ⟨r, 0, none⟩)), (3, .int .i64 0), (4, .pointer (some ⟨q, 0, none⟩)), (5, .int .i64 (clZ u))]) (fun _ => [(q, cl [.bool fo, .string (str (sdN u).1), .string (str (sdN u).2)] 35)] :: [(r, cl [.bool false, .string (str []), .string (str [])] 35)] :: L) (fun _ => True) ?_ ?_
  · cases hcl : clN u with
    | none =>
      rw [show clZ u = -1 from by unfold clZ; rw [hcl], show sdN u = (u, u) from by unfold sdN; rw [hcl]]
      (repeat' first|refine kW ?_|refine kU fun bk=>?_|refine kV fun hc=>?_|refine kZ (fun hc=>?_) fun hc=>?_|fail)
      exact WQ_cut () trivial iS (fun w h => h)
    | some i =>
      have hlt := cl_lt hcl
      rw [show clZ u = (i : Int) from by unfold clZ; rw [hcl], show sdN u = (u.take i, u.drop (i + 1)) from by unfold sdN; rw [hcl]]
      (repeat' first|refine kW ?_|refine kU fun bk=>?_|refine kV fun hc=>?_|refine kZ (fun hc=>?_) fun hc=>?_|fail)
      refine OW_EV (EV_cutL u 0 i rfl rfl rfl (by omega) (by omega)) rfl ?_
      rw [List.drop_zero, Nat.sub_zero]
      (repeat' first|refine kW ?_|refine kU fun bk=>?_|refine kV fun hc=>?_|refine kZ (fun hc=>?_) fun hc=>?_|fail)
      refine OW_EV (EV_cutL u (i + 1) u.length rfl (bnd_int rfl (by omega)) rfl (by omega) (by omega)) rfl ?_
      rw [List.take_of_length_le (l := u.drop (i + 1)) (by simp)]
      (repeat' first|refine kW ?_|refine kU fun bk=>?_|refine kV fun hc=>?_|refine kZ (fun hc=>?_) fun hc=>?_|fail)
      exact WQ_cut () trivial iS (fun w h => h)
  intro _ _
  have hd : (sdN u).1.length ≤ u.length ∧ (sdN u).2.length ≤ u.length := by
    unfold sdN
    split
    · exact ⟨Nat.le_refl _, Nat.le_refl _⟩
    · exact ⟨by simp; omega, by simp⟩
  have hm1 := fun L => rmay_n (sdN u).1 L (by omega)
  have hm2 := fun L => rmay_n (sdN u).2 L (by omega)
  have hz : (clN u).isSome = decide (0 ≤ clZ u) := by
    unfold clZ
    cases clN u with
    | none => rfl
    | some i => simp
  rw [hz]
  generalize (sdN u).1 = a at hm1 hd ⊢
  generalize (sdN u).2 = b at hm2 hd ⊢
  obtain ⟨ra, hra⟩ : ∃ x, x = myN a := ⟨_, rfl⟩
  obtain ⟨rb, hrb⟩ : ∃ x, x = myN b := ⟨_, rfl⟩
  rw [← hra] at hm1 ⊢
  rw [← hrb] at hm2 ⊢
  generalize clZ u = z at *
  refine WC_seq ?_
  (repeat' first|refine kY ?_|refine kU fun bk=>?_|refine kV fun hc=>?_|refine kZ (fun hc=>?_) fun hc=>?_|fail)
  refine OW_callP rfl rfl rfl (hm1 _) rfl ?_
  (repeat' first|refine kY ?_|refine kU fun bk=>?_|refine kV fun hc=>?_|refine kZ (fun hc=>?_) fun hc=>?_|fail)
  refine WC_seq ?_
  (repeat' first|refine kY ?_|refine kU fun bk=>?_|refine kV fun hc=>?_|refine kZ (fun hc=>?_) fun hc=>?_|fail)
  refine OW_callP rfl rfl rfl (hm2 _) rfl ?_
  (repeat' first|refine kY ?_|refine kU fun bk=>?_|refine kV fun hc=>?_|refine kZ (fun hc=>?_) fun hc=>?_|fail)
  obtain ⟨A, hA⟩ : ∃ A, A = (if a = [] ∧ decide (0 ≤ z) = true then (true, false) else ra) := ⟨_, rfl⟩
  rw [← hA]
  refine WC_cut (X := Unit) (fun _ => [(2, .pointer (some ⟨r, 0, none⟩)), (4, .pointer (some ⟨q, 0, none⟩)), (7, .bool A.1), (8, .bool A.2), (9, .bool rb.1), (10, .bool rb.2)]) (fun _ => [(q, cl [.bool fo, .string (str a), .string (str b)] 35)] :: [(r, cl [.bool false, .string (str []), .string (str [])] 35)] :: L) (fun _ => True) ?_ ?_
  · by_cases w1 : a = []
    · by_cases w2 : 0 ≤ z
      · rw [if_pos ⟨w1, decide_eq_true w2⟩] at hA
        subst hA
        (repeat' first|refine kW ?_|refine kU fun bk=>?_|refine kV fun hc=>?_|refine kZ (fun hc=>?_) fun hc=>?_|fail)
        · exact WQ_cut () trivial iS (fun w h => h)
        · exact absurd (by rw [w1]; rfl) hc
      · rw [if_neg (fun u => w2 (of_decide_eq_true u.2))] at hA
        subst hA
        (repeat' first|refine kW ?_|refine kU fun bk=>?_|refine kV fun hc=>?_|refine kZ (fun hc=>?_) fun hc=>?_|fail)
        · exact WQ_cut () trivial iS (fun w h => h)
        · exact absurd (by rw [w1]; rfl) hc
    · rw [if_neg (fun u => w1 u.1)] at hA
      subst hA
      have hne : str a ≠ { data := #[] } := fun h => w1 (List.length_eq_zero_iff.1 (by have := str_size a; rw [h] at this; exact this.symm))
      (repeat' first|refine kW ?_|refine kU fun bk=>?_|refine kV fun hc=>?_|refine kZ (fun hc=>?_) fun hc=>?_|fail)
      any_goals contradiction
      exact WQ_cut () trivial iS (fun w h => h)
  intro _ _
  clear hA
  obtain ⟨A1, A2⟩ := A
  obtain ⟨B1, B2⟩ := rb
  clear hm2 hrb hm1 hra
  by_cases hq : A1 = true ∧ B1 = true ∧ A2 = B2
  · obtain ⟨rfl, rfl, rfl⟩ := hq
    rw [if_pos ⟨rfl, rfl, rfl⟩]
    cases A2
    all_goals
      (repeat' first|refine kW ?_|refine kU fun bk=>?_|refine kV fun hc=>?_|refine kZ (fun hc=>?_) fun hc=>?_|fail)
      first
        | (refine WQ_retC (vs := [.agg (spV ⟨fo, a, b⟩).toArray, .int .i64 0]) rfl (.agg ⟨by kernel_rfl, by kernel_rfl⟩ rfl (RdAt.cl' (vs := spV ⟨fo, a, b⟩) (by repeat (first | assumption | exact Fnd.here | refine Fnd.there ?_)) rfl) rfl (.tmp rfl .nil)) ?_
           exact ⟨_, fun w h => h.drop.drop, rfl, rfl⟩)
        | (refine WQ_endC (vs := [.agg (spV ⟨fo, a, b⟩).toArray, .int .i64 0]) rfl (.agg ⟨by kernel_rfl, by kernel_rfl⟩ rfl (RdAt.cl' (vs := spV ⟨fo, a, b⟩) (by repeat (first | assumption | exact Fnd.here | refine Fnd.there ?_)) rfl) rfl (.tmp rfl .nil)) ?_
           exact ⟨_, fun w h => h.drop.drop, rfl, rfl⟩)
  · rw [if_neg hq]
    cases A1 <;> cases A2 <;> cases B1 <;> cases B2
    all_goals first
      | exact absurd ⟨rfl, rfl, rfl⟩ hq
      | skip
    all_goals
      clear hq
      (repeat' first|refine kW ?_|refine kU fun bk=>?_|refine kV fun hc=>?_|refine kZ (fun hc=>?_) fun hc=>?_|fail)
      first
        | (refine WQ_retC (vs := [.agg (spV ⟨false, [], []⟩).toArray, .int .i64 3]) rfl (.agg ⟨by kernel_rfl, by kernel_rfl⟩ rfl (RdAt.cl' (vs := spV ⟨false, [], []⟩) (by repeat (first | assumption | exact Fnd.here | refine Fnd.there ?_)) rfl) rfl (.tmp rfl .nil)) ?_
           exact ⟨_, fun w h => h.drop.drop, rfl, rfl⟩)
        | (refine WQ_endC (vs := [.agg (spV ⟨false, [], []⟩).toArray, .int .i64 3]) rfl (.agg ⟨by kernel_rfl, by kernel_rfl⟩ rfl (RdAt.cl' (vs := spV ⟨false, [], []⟩) (by repeat (first | assumption | exact Fnd.here | refine Fnd.there ?_)) rfl) rfl (.tmp rfl .nil)) ?_
           exact ⟨_, fun w h => h.drop.drop, rfl, rfl⟩)
end
end Go.Proofs.YtehpnblbkldojaaDoor
namespace Go.Vx
open Go Go.Lib
set_option linter.all false
section
variable [W0]
variable {P : Program} {n : Nat} {M : List (Nat × Value)} {L : List Chunk} {K : List (Nat × Value) → List Chunk → Prop}
variable {d : Nat} {ty : TypeId} {ps : String} {af : Array Edge} {g : Option (Nat × Bool)} {x y : Operand} {v : Value}
theorem Fnd.shape {L : List Chunk} {b : Nat} {c : Array Value} {T : TypeId} {fr : Nat × Nat} (h : Fnd L b (.cells c T fr)) {w : World} (hw : Holds w L) : w.shape? b = some (T, c.size) := by
  have hb := h.get hw
  simp [World.shape?, hb]
theorem EV_toU {s t u T : TypeId} {b : Nat} {c : Array Value} {fr : Nat × Nat} (hs : P.underlying s = some (.pointer u)) (hd : P.underlying t = some .unsafePointer) (hj : ∃ j, P.info? u = some j ∧ j.size ≠ 0) (hf : Fnd L b (.cells c T fr)) (hc : 0 < c.size)
    (hx : ev M x = some (.pointer (some ⟨b, 0, none⟩))) : EV P n ⟨some d, .convert s t x, ty, ps, af, g⟩ M L d (.pointer (some ⟨b, 0, none⟩)) :=
  ⟨rfl, fun a w ha hw => by
    obtain ⟨j, h1, h2⟩ := hj
    have hr := run_to_unsafe (P := P) (w := w) ⟨b, 0, none⟩ hs hd h1 h2 (hf.shape hw) hc
    simp [execOp, ha.eval hx, hr]⟩
theorem EV_fromU {s t u T : TypeId} {b : Nat} {c : Array Value} {fr : Nat × Nat} (hs : P.underlying s = some .unsafePointer) (hd : P.underlying t = some (.pointer u)) (hj : ∃ j, P.info? u = some j) (hf : Fnd L b (.cells c T fr)) (hl : liesAt P P.depth T (c.size / P.cellsOf T) 0 u 1 = true)
    (hx : ev M x = some (.pointer (some ⟨b, 0, none⟩))) : EV P n ⟨some d, .convert s t x, ty, ps, af, g⟩ M L d (.pointer (some ⟨b, 0, none⟩)) :=
  ⟨rfl, fun a w ha hw => by
    obtain ⟨j, h1⟩ := hj
    have hr := run_from_unsafe (P := P) (w := w) ⟨b, 0, none⟩ hs hd h1 (hf.shape hw) hl
    simp [execOp, ha.eval hx, hr]⟩
theorem EV_ptrSame {t u e : TypeId} {q : Addr} (hp : P.underlying t = some (.pointer e)) (hj : ∃ j, P.info? e = some j) (hx : ev M x = some (.pointer (some q))) (hy : ev M y = some (.pointer (some q))) :
    EV P n ⟨some d, .binOp .neq t x y u, ty, ps, af, g⟩ M L d (.bool false) :=
  ⟨rfl, fun a w ha hw => by
    obtain ⟨j, h1⟩ := hj
    have hr := run_neq_ptr_same (P := P) (w := w) q hp h1
    simp [execOp, ha.eval hx, ha.eval hy, eqGuard, hr]⟩
theorem OW_makeNZ {f : FuncId} {fn : Func} {ats tt : Array TypeId} {t e : TypeId} {m : Nat} (hx : ev M x = some (.func (.func f) #[] #[])) (hy : ev M y = some (.int .i64 (m : Int))) (hf : P.funcs[f]? = some fn) (hname : (fn.name == "runtime.NumGoroutine") = false)
    (hb : fn.body.isNone = true) (hnx : Extern.findNext fn = none) (he : Extern.find fn = some (Extern.BytealgMakeNoZero.makeNoZero tt #[t])) (ht : P.underlying t = some (.slice e)) (hm : m ≤ 281474976710656) (hn : Nat.blt d n = true)
    (h : ∀ b cs, m ≤ cs.length → cs.length ≤ maxLen → K ((d, .slice (some ⟨b, 0, none⟩) m cs.length) :: M) ([(b, cl cs e)] :: L)) :
    OW P n ⟨some d, .call ⟨.value x, #[y], ats⟩, ty, ps, af, g⟩ K M L := ⟨fun a w next Q ha hw hk => by
  obtain ⟨cs, hr, h1, h2⟩ := run_makeNoZero (P := P) (w := w) tt t e ht m hm
  have hc := run_callFunc_extern hf hname hb hnx he #[.int .i64 (m : Int)] w
  rw [hr] at hc
  have hrun : (execOp a.eval ⟨some d, .call ⟨.value x, #[y], ats⟩, ty, ps, af, g⟩).run P w = .ok (.value (.slice (some ⟨w.heap.size, 0, none⟩) m cs.size)) (w.drew.drew.alloc (.cells cs e)) := by
    simp only [execOp, resolve, ha.eval hx, List.map_toArray, List.map_cons, List.map_nil, ha.eval hy, Deferred.ofValue, Sem.run_bind, Sem.run_pure, Result.andThen_ok, invoke, Array.append_empty, Array.empty_append, hc]
  unfold Oper.wp
  rw [hrun, Oper.upon_value]
  have hH := (hw.same (w' := w.drew.drew) rfl rfl rfl).alloc (.cells cs e)
  have := h w.heap.size cs.toList (by simpa using h1) (by simpa using h2 (by unfold maxLen; omega))
  simp only [Array.length_toList] at this
  refine (hk _ _ this).out _ _ (ha.put _ hn) ?_
  have e1 : cl cs.toList e = .cells cs e := by simp [cl]
  rw [e1]
  exact hH⟩
theorem EV_copy0 {t e k by_ : TypeId} [hs : SL P t e k by_] (hs1 : (P.info? e).map (·.size) = some 1) {p q : Option Addr} {dc sl sc : Nat} (hx : ev M x = some (.slice p 0 dc)) (hy : ev M y = some (.slice q sl sc)) :
    EV P n ⟨some d, .call ⟨.builtin .copy, #[x, y], #[t, t]⟩, ty, ps, af, g⟩ M L d (.int .i64 0) :=
  ⟨rfl, fun a w ha hw => by
    obtain ⟨ht, i, hi, _⟩ := hs.parts
    have hr := run_copy_none (P := P) w t t ty e p q 0 dc sl sc ht hs1 (Nat.min_zero _)
    simp [execOp, resolve, invoke, builtin, ha.eval hx, ha.eval hy, hr, goInt]⟩
theorem EV_sliceData {ts : Array TypeId} {p : Addr} {m c : Nat} (hc : c ≠ 0) (hx : ev M x = some (.slice (some p) m c)) : EV P n ⟨some d, .call ⟨.builtin .unsafeSliceData, #[x], ts⟩, ty, ps, af, g⟩ M L d (.pointer (some p)) :=
  ⟨rfl, fun a w ha hw => by
    have hr := run_unsafeSliceData_row (P := P) (w := w) ts ty p m c hc
    simp [execOp, resolve, invoke, builtin, ha.eval hx, hr]⟩
theorem OW_unsafeStringD {pt it e : Nat} {b : Nat} {l : List UInt8} {rest : List Value} {fr : Nat × Nat} {A B : List Chunk} {i : Int} (hp : P.underlying pt = some (.pointer e)) (hc : P.cellsOf e = 1) (hx : ev M x = some (.pointer (some ⟨b, 0, none⟩))) (hy : ev M y = some (.int .i64 i)) (hi : i = (l.length : Int))
    (h0 : l ≠ []) (h63 : l.length ≤ 9223372036854775807) (hz : Zip [(b, .cells (bsv l ++ rest).toArray e fr)] L A B)
    (hn : Nat.blt d n = true) (h : K ((d, .string ⟨l.toArray⟩) :: M) (A ++ B)) :
    OW P n ⟨some d, .call ⟨.builtin .unsafeString, #[x, y], #[pt, it]⟩, ty, ps, af, g⟩ K M L := ⟨fun a w next Q ha hw0 hk => by
  have hL := hz.eq
  subst hL
  have hw := hw0.perm List.perm_middle
  subst hi
  have hb := (Fnd.here : Fnd ([(b, .cells (bsv l ++ rest).toArray e fr)] :: (A ++ B)) b _).get hw
  have hl : l.length ≠ 0 := by simpa using h0
  have hr := Lib.run_unsafeString_row (P := P) (w := w) pt it ty e hp hc b (bsv l ++ rest).length (by simp [World.shape?, hb]) l h0 (by simp [bsv]) h63 (fun j u hj => by
    rw [addr_add, cell_of hb]
    have hj' : j < l.length := by
      rcases Nat.lt_or_ge j l.length with h' | h'
      · exact h'
      · simp [List.getElem?_eq_none h'] at hj
    simp only [Nat.zero_add, List.getElem?_toArray]
    rw [List.getElem?_append_left (by simpa [bsv] using hj')]
    simp [bsv, hj])
  have hrun : (execOp a.eval ⟨some d, .call ⟨.builtin .unsafeString, #[x, y], #[pt, it]⟩, ty, ps, af, g⟩).run P w = .ok (.value (.string ⟨l.toArray⟩)) (w.freeze ⟨b, 0, none⟩ l.length) := by
    simp only [execOp, resolve, invoke, builtin, Sem.run_bind, Sem.run_pure, Result.andThen_ok, List.map_toArray, List.map_cons, List.map_nil, ha.eval hx, ha.eval hy, hr]
  unfold Oper.wp
  rw [hrun, Oper.upon_value]
  have hother : ∀ k, k ≠ b → (w.freeze ⟨b, 0, none⟩ l.length).heap[k]? = w.heap[k]? := fun k hk => by
    unfold World.freeze
    rw [if_neg hl]
    simp only [Array.getElem?_modify]
    rw [if_neg (fun e => hk e.symm)]
  refine (hk _ _ h).out _ _ (ha.put _ hn) ?_
  have hd := hw.drop
  refine ⟨hd.1, fun z hz' => ?_, (freeze_os _ _ _).1.trans hd.2.2.1, (freeze_os _ _ _).2.trans hd.2.2.2⟩
  have hne : z.1 ≠ b := by
    have hnd := hw.1
    simp only [List.flatten_cons, List.map_append, List.map_cons, List.map_nil] at hnd
    intro e0
    have := (List.nodup_append.1 hnd).2.2 b (by simp) z.1 (List.mem_map_of_mem hz')
    exact this e0.symm
  rw [hother _ hne]
  exact hd.2.1 z hz'⟩
end
end Go.Vx
namespace Go.Proofs.YtehpnblbkldojaaDoor
open Go Go.Vx Go.Lib Go.Ob
set_option linter.all false
set_option maxRecDepth 4000
theorem bd_info : ∃ j, Tryd.prog.info? 63 = some j ∧ j.size ≠ 0 := by
  have h : (Tryd.prog.info? 63).map (·.size) = some 2 := by kernel_rfl
  cases h2 : Tryd.prog.info? 63 with
  | none => rw [h2] at h; exact absurd h (by simp)
  | some j =>
    rw [h2] at h
    refine ⟨j, rfl, ?_⟩
    have : j.size = 2 := by simpa using h
    omega
theorem bd_info' : ∃ j, Tryd.prog.info? 63 = some j := bd_info.imp fun _ h => h.1
def bdC (q : Nat) (p v : Value) : Chunk := [(q, cl [p, v] 63)]
section
variable [W0]
theorem ccfresh_n (q : Nat) (v : Value) (L : List Chunk) : Gv Tryd.prog 58 [.pointer (some ⟨q, 0, none⟩)].toArray (bdC q (.pointer none) v :: L) (fun r L' => r = .tuple #[] ∧ L' = bdC q (.pointer (some ⟨q, 0, none⟩)) v :: L) := by
  refine Gv.of_body (args := [.pointer (some ⟨q, 0, none⟩)]) Tryd.func58 rfl rfl ?_
  unfold bdC
  (repeat' first|refine kW ?_|refine kU fun bk=>?_|refine kV fun hc=>?_|refine kZ (fun hc=>?_) fun hc=>?_|fail)
  refine OW_EV (EV_toU Tryd.underlying61 Tryd.underlying79 bd_info .here (by simp) rfl) rfl ?_
  (repeat' first|refine kW ?_|refine kU fun bk=>?_|refine kV fun hc=>?_|refine kZ (fun hc=>?_) fun hc=>?_|fail)
  refine OW_EV (OW_extern (f := 63) (v := .pointer (some ⟨q, 0, none⟩)) rfl rfl Tryd.func63 (by kernel_rfl) (by kernel_rfl) (by kernel_rfl) rfl (fun w _ => run_noEscape w _)) rfl ?_
  (repeat' first|refine kW ?_|refine kU fun bk=>?_|refine kV fun hc=>?_|refine kZ (fun hc=>?_) fun hc=>?_|fail)
  refine OW_EV (EV_fromU Tryd.underlying79 Tryd.underlying61 bd_info' .here (by kernel_rfl) rfl) rfl ?_
  (repeat' first|refine kW ?_|refine kU fun bk=>?_|refine kV fun hc=>?_|refine kZ (fun hc=>?_) fun hc=>?_|fail)
  refine kR ?_
  exact ⟨_, iC, rfl, rfl⟩
theorem ccused_n (q : Nat) (v : Value) (L : List Chunk) : GvP Tryd.prog 58 [.pointer (some ⟨q, 0, none⟩)].toArray (bdC q (.pointer (some ⟨q, 0, none⟩)) v :: L) (.tuple #[]) := by
  refine Gv.of_body (args := [.pointer (some ⟨q, 0, none⟩)]) Tryd.func58 rfl rfl ?_
  unfold bdC
  (repeat' first|refine kW ?_|refine kU fun bk=>?_|refine kV fun hc=>?_|refine kZ (fun hc=>?_) fun hc=>?_|fail)
  refine OW_EV (EV_ptrSame Tryd.underlying61 bd_info' rfl rfl) rfl ?_
  (repeat' first|refine kW ?_|refine kU fun bk=>?_|refine kV fun hc=>?_|refine kZ (fun hc=>?_) fun hc=>?_|fail)
  refine kR ?_
  exact ⟨_, iC, rfl, rfl⟩
theorem bgrow0_n (q n : Nat) (L : List Chunk) (h1 : 1 ≤ n) (h2 : n ≤ 281474976710656) : Gv Tryd.prog 59 [.pointer (some ⟨q, 0, none⟩), .int .i64 (n : Int)].toArray (bdC q (.pointer (some ⟨q, 0, none⟩)) (.slice none 0 0) :: L)
    (fun r L' => ∃ b cs, r = .tuple #[] ∧ n ≤ cs.length ∧ cs.length ≤ maxLen ∧ L' = [(b, cl cs 5)] :: bdC q (.pointer (some ⟨q, 0, none⟩)) (.slice (some ⟨b, 0, none⟩) 0 cs.length) :: L) := by
  refine Gv.of_body (args := [.pointer (some ⟨q, 0, none⟩), .int .i64 (n : Int)]) Tryd.func59 rfl rfl ?_
  unfold bdC
  (repeat' first|refine kW ?_|refine kU fun bk=>?_|refine kV fun hc=>?_|refine kZ (fun hc=>?_) fun hc=>?_|fail)
  refine WC_drawAll [] mixed ?_
  (refine WR_t 0 ?_; refine WR_t 1 ?_; refine WR_t 2 ?_; refine WR_t 3 ?_; refine WR_t 4 ?_; refine WR_t 5 ?_; refine WR_t 6 ?_; refine WR_t 7 ?_; refine WR_t 9 ?_; refine WR_t 10 ?_; refine WR_t 11 ?_; refine WR_t 12 ?_; refine WR_t 13 ?_)
  rw [show (2 : Int) * ((0 : Nat) : Int) + (n : Int) = (n : Int) from by omega]
  (refine WR_one 8 (by kernel_rfl) rfl rfl ?_)
  refine OW_makeNZ (f := 64) (t := 42) (e := 5) rfl rfl Tryd.func64 (by kernel_rfl) (by kernel_rfl) (by kernel_rfl) rfl Tryd.underlying42 h2 rfl (fun b cs c1 c2 => ?_)
  refine ⟨iC, ?_⟩
  have hc0 : ¬ cs.length = 0 := by omega
  (refine WR_take 14 rfl rfl (by kernel_rfl) iP iC (EV_sliceSl (l := 0) (h := 0) rfl rfl rfl (Nat.le_refl _) (Nat.zero_le _)) (by rfl) ?_)
  rw [if_neg hc0, Nat.zero_mul, Nat.add_zero, Nat.sub_zero, Nat.sub_zero]
  (refine WR_t 15 ?_)
  (refine WR_done (by kernel_rfl) ?_)
  (repeat' first|refine kW ?_|refine kU fun bk=>?_|refine kV fun hc=>?_|refine kZ (fun hc=>?_) fun hc=>?_|fail)
  refine OW_EV (EV_copy0 (by kernel_rfl) rfl rfl) rfl ?_
  (repeat' first|refine kW ?_|refine kU fun bk=>?_|refine kV fun hc=>?_|refine kZ (fun hc=>?_) fun hc=>?_|fail)
  refine kR ?_
  exact ⟨_, iC, b, cs, rfl, c1, c2, rfl⟩
theorem bgrow_nn (q n : Nat) (L : List Chunk) (h1 : 1 ≤ n) (h2 : n ≤ 281474976710656) : Gv Tryd.prog 47 [.pointer (some ⟨q, 0, none⟩), .int .i64 (n : Int)].toArray (bdC q (.pointer none) (.slice none 0 0) :: L)
    (fun r L' => ∃ b cs, r = .tuple #[] ∧ n ≤ cs.length ∧ cs.length ≤ maxLen ∧ L' = [(b, cl cs 5)] :: bdC q (.pointer (some ⟨q, 0, none⟩)) (.slice (some ⟨b, 0, none⟩) 0 cs.length) :: L) := by
  refine Gv.of_body (args := [.pointer (some ⟨q, 0, none⟩), .int .i64 (n : Int)]) Tryd.func47 rfl rfl ?_
  (repeat' first|refine kW ?_|refine kU fun bk=>?_|refine kV fun hc=>?_|refine kZ (fun hc=>?_) fun hc=>?_|fail)
  refine OW_call rfl rfl rfl (Gv.take (ccfresh_n q (.slice none 0 0) L) (by repeat (first | exact Take.here | apply Take.there))) rfl (fun r L' hp => ?_)
  obtain ⟨rfl, rfl⟩ := hp
  unfold bdC
  (repeat' first|refine kW ?_|refine kU fun bk=>?_|refine kV fun hc=>?_|refine kZ (fun hc=>?_) fun hc=>?_|fail)
  refine WC_drawAll [] mixed ?_
  (refine WR_t 0 ?_; refine WR_t 1 ?_; refine WR_t 2 ?_; refine WR_t 3 ?_; refine WR_t 4 ?_; refine WR_t 5 ?_; refine WR_t 6 ?_; refine WR_t 7 ?_; refine WR_t 8 ?_; refine WR_t 9 ?_; refine WR_t 10 ?_; refine WR_t 11 ?_; refine WR_t 12 ?_)
  (refine WR_done (by kernel_rfl) ?_)
  (repeat' first|refine kW ?_|refine kU fun bk=>?_|refine kV fun hc=>?_|refine kZ (fun hc=>?_) fun hc=>?_|fail)
  refine OW_call rfl rfl rfl (Gv.take (bgrow0_n q n L h1 h2) (by repeat (first | exact Take.here | apply Take.there))) rfl (fun r L' hp => ?_)
  obtain ⟨b, cs, rfl, c1, c2, rfl⟩ := hp
  (repeat' first|refine kW ?_|refine kU fun bk=>?_|refine kV fun hc=>?_|refine kZ (fun hc=>?_) fun hc=>?_|fail)
  refine kR ?_
  exact ⟨_, iC, b, cs, rfl, c1, c2, rfl⟩
theorem bwrite_n (q : Nat) (v : Value) (m : Nat) (xs : List Value) (s : List UInt8) (C : Chunk) (L : List Chunk) (hv : OwG 5 v m xs C) (hl : m + s.length ≤ 140737488355328) :
    Gv Tryd.prog 48 [.pointer (some ⟨q, 0, none⟩), .string (str s)].toArray (C :: bdC q (.pointer (some ⟨q, 0, none⟩)) v :: L)
    (fun r L' => ∃ v' C', r = .tuple #[.int .i64 (s.length : Int), .nilIface] ∧ OwG 5 v' (m + s.length) (xs ++ bsv s) C' ∧ L' = C' :: bdC q (.pointer (some ⟨q, 0, none⟩)) v' :: L) := by
  refine Gv.of_body (args := [.pointer (some ⟨q, 0, none⟩), .string (str s)]) Tryd.func48 rfl rfl ?_
  have z := str_size s
  (repeat' first|refine kW ?_|refine kU fun bk=>?_|refine kV fun hc=>?_|refine kZ (fun hc=>?_) fun hc=>?_|fail)
  refine OW_call rfl rfl rfl (Gv.take (ccused_n q v (C :: L)) (Take.there .here)) rfl (fun r L' hp => ?_)
  obtain ⟨rfl, rfl⟩ := hp
  unfold bdC
  (repeat' first|refine kW ?_|refine kU fun bk=>?_|refine kV fun hc=>?_|refine kZ (fun hc=>?_) fun hc=>?_|fail)
  refine OW_appGS rfl rfl hv (by repeat (first | exact Zip.here _ | apply Zip.there)) (by rw [z]; omega) (by rw [z]; simp only [maxLen]; omega) rfl (fun v' C' ho => ?_)
  rw [z, str_data] at ho
  have hv1 : v'.oneCell' = true := by
    rcases ho with ⟨rfl, _⟩ | ⟨b, cap, rest, fr, rfl, _⟩ <;> rfl
  (repeat' first|refine kW ?_|refine kU fun bk=>?_|refine kV fun hc=>?_|refine kZ (fun hc=>?_) fun hc=>?_|fail)
  refine OW_store rfl rfl hv1 iU (by first | rfl | trivial | simp) ?_
  (repeat' first|refine kW ?_|refine kU fun bk=>?_|refine kV fun hc=>?_|refine kZ (fun hc=>?_) fun hc=>?_|fail)
  refine kR ?_
  exact ⟨C' :: bdC q (.pointer (some ⟨q, 0, none⟩)) v' :: L, iC, v', C', by rw [← z]; rfl, ho, rfl⟩
theorem bstring_n (q : Nat) (v : Value) (l : List UInt8) (C : Chunk) (L : List Chunk) (hv : OwG 5 v l.length (bsv l) C) (h0 : l ≠ []) (hl : l.length ≤ 9223372036854775000) :
    Gv Tryd.prog 50 [.pointer (some ⟨q, 0, none⟩)].toArray (C :: bdC q (.pointer (some ⟨q, 0, none⟩)) v :: L) (fun r L' => r = .string (str l) ∧ L' = L) := by
  refine Gv.of_body (args := [.pointer (some ⟨q, 0, none⟩)]) Tryd.func50 rfl rfl ?_
  unfold bdC
  rcases hv with ⟨rfl, hm, _, _⟩ | ⟨b, cap, rest, fr, rfl, rfl, hxl, hrl, hmc, hcm, hfr⟩
  · exact absurd (List.eq_nil_of_length_eq_zero hm) h0
  have hpos : 0 < l.length := List.length_pos_iff.2 h0
  (repeat' first|refine kW ?_|refine kU fun bk=>?_|refine kV fun hc=>?_|refine kZ (fun hc=>?_) fun hc=>?_|fail)
  refine WC_draw ([(q, cl [.pointer (some ⟨q, 0, none⟩), .slice (some ⟨b, 0, none⟩) l.length cap] 63)] :: L) [11] mixed ?_
  (refine WR_t 0 ?_; refine WR_t 1 ?_; refine WR_t 2 ?_; refine WR_t 3 ?_)
  (refine WR_take 4 rfl rfl (by kernel_rfl) iP iC (EV_sliceData (by omega) rfl) (by rfl) ?_)
  (refine WR_t 5 ?_; refine WR_t 6 ?_; refine WR_t 7 ?_; refine WR_t 8 ?_; refine WR_t 9 ?_)
  (refine WR_one 10 (by kernel_rfl) rfl rfl ?_)
  refine OW_unsafeStringD (l := l) (rest := rest) (fr := fr) (e := 5) Tryd.underlying75 (by kernel_rfl) rfl rfl rfl h0 (by omega) (by repeat (first | exact Zip.here _ | apply Zip.there)) rfl ?_
  refine ⟨iC, ?_⟩
  (refine WR_last 11 (by kernel_rfl) rfl rfl rfl ?_)
  refine OW_EV (EV_assign rfl) rfl ?_
  (refine WR_done (by kernel_rfl) ?_)
  (repeat' first|refine kW ?_|refine kU fun bk=>?_|refine kV fun hc=>?_|refine kZ (fun hc=>?_) fun hc=>?_|fail)
  refine kR ?_
  exact ⟨L, iC, rfl, rfl⟩
end
end Go.Proofs.YtehpnblbkldojaaDoor
namespace Go.Proofs.YtehpnblbkldojaaDoor
open Go Go.Vx Go.Nm Go.Ob Go.Lib
set_option linter.all false
set_option maxRecDepth 4000
section
variable [W0]
theorem count1_n (s : List UInt8) (c : UInt8) (L : List Chunk) : GvP Tryd.prog 46 [.string (str s), .string (str [c])].toArray L (.int .i64 (s.count c : Nat)) := by
  refine Gv.of_body (args := [.string (str s), .string (str [c])]) Tryd.func46 rfl rfl ?_
  have z2 : (str [c]).size = 1 := rfl
  have e : Lib.countByte (str s).data.toList ((c.toNat : Int).toNat.toUInt8) = s.count c := by
    rw [Int.toNat_natCast, show c.toNat.toUInt8 = c from by simp]
    rfl
  (repeat' first|refine kW ?_|refine kU fun bk=>?_|refine kV fun hc=>?_|refine kZ (fun hc=>?_) fun hc=>?_|fail)
  refine OW_EV (EV_indexStr (j := 0) (u := c) rfl rfl rfl rfl) rfl ?_
  (repeat' first|refine kW ?_|refine kU fun bk=>?_|refine kV fun hc=>?_|refine kZ (fun hc=>?_) fun hc=>?_|fail)
  refine OW_EV (OW_extern (f := 57) (v := .int .i64 (s.count c : Nat)) rfl rfl Tryd.func57 (by kernel_rfl) (by kernel_rfl) (by kernel_rfl) rfl (fun w _ => by rw [← e]; exact Lib.run_countString (str s) (c.toNat : Int) w)) rfl ?_
  (repeat' first|refine kW ?_|refine kU fun bk=>?_|refine kV fun hc=>?_|refine kZ (fun hc=>?_) fun hc=>?_|fail)
  exact kE
set_option maxHeartbeats 4000000 in
theorem replace_nn (s x : List UInt8) (L : List Chunk) (hs : s.length ≤ 140737488351232) (hx : s.length + x.length ≤ 140737488355328) (hne : 42 ∈ s → 2 ≤ s.length + x.length) :
    GvP Tryd.prog 37 [.string (str s), .string (str [42]), .string (str x), .int .i64 1].toArray L (.string (str (rp1 s x))) := by
  have zs := str_size s
  have zx := str_size x
  have zo : (str [42]).size = 1 := rfl
  refine Gv.of_body (args := [.string (str s), .string (str [42]), .string (str x), .int .i64 1]) Tryd.func37 rfl rfl ?_
  have hcn := count1_n s 42 L
  by_cases hx42 : x = [42]
  · have e : rp1 s x = s := by
      rw [hx42]
      rcases star_cases s with h | ⟨u, v, rfl, hu⟩
      · rw [rp1_none h]
      · rw [rp1_app hu]; simp
    rw [e]
    have he : str [42] = str x := by rw [hx42]
    (repeat' first|refine kW ?_|refine kU fun bk=>?_|refine kV fun hc=>?_|refine kZ (fun hc=>?_) fun hc=>?_|fail)
    any_goals contradiction
    exact kE
  have hne2 : ¬ str [42] = str x := fun h => hx42 (str_inj.1 h).symm
  by_cases hm : 42 ∈ s
  rotate_left
  · rw [rp1_none hm]
    rw [List.count_eq_zero_of_not_mem hm] at hcn
    (repeat' first|refine kW ?_|refine kU fun bk=>?_|refine kV fun hc=>?_|refine kZ (fun hc=>?_) fun hc=>?_|fail)
    any_goals contradiction
    refine OW_callP rfl rfl rfl hcn rfl ?_
    (repeat' first|refine kW ?_|refine kU fun bk=>?_|refine kV fun hc=>?_|refine kZ (fun hc=>?_) fun hc=>?_|fail)
    exact kE
  obtain ⟨cn, hcn1⟩ : ∃ c, c = s.count 42 := ⟨_, rfl⟩
  have hcp : 1 ≤ cn := by rw [hcn1]; exact List.count_pos_iff.2 hm
  rw [← hcn1] at hcn
  clear hcn1
  obtain ⟨k, hk1, hk2, hk3⟩ : ∃ k, k < s.length ∧ ixS 42 s = (k : Int) ∧ rp1 s x = s.take k ++ x ++ s.drop (k + 1) := by
    rcases ix_cases 42 s with h | ⟨k, h1, h2, h3, h4⟩
    · exact absurd hm h.1
    · refine ⟨k, h1, h2, ?_⟩
      unfold rp1
      rw [h2, if_neg (by omega), Int.toNat_natCast]
  rw [hk3]
  have hlen := hne hm
  (repeat' first|refine kW ?_|refine kU fun bk=>?_|refine kV fun hc=>?_|refine kZ (fun hc=>?_) fun hc=>?_|fail)
  any_goals contradiction
  refine OW_callP rfl rfl rfl hcn rfl ?_
  (repeat' first|refine kW ?_|refine kU fun bk=>?_|refine kV fun hc=>?_|refine kZ (fun hc=>?_) fun hc=>?_|fail)
  obtain ⟨N, hN⟩ : ∃ N : Nat, N + 1 = s.length + x.length := ⟨s.length + x.length - 1, by omega⟩
  rw [show ((str s).size : Int) + 1 * (((str x).size : Int) - ((str [42]).size : Int)) = (N : Int) from by omega]
  revert bk; intro q
  refine OW_call rfl rfl rfl (Gv.take (bgrow_nn q N L (by omega) (by omega)) (by repeat (first | exact Take.here | apply Take.there))) rfl (fun r L' hp => ?_)
  obtain ⟨b, cs, rfl, c1, c2, rfl⟩ := hp
  have ho0 : OwG 5 (.slice (some ⟨b, 0, none⟩) 0 cs.length) 0 [] [(b, cl cs 5)] := .inr ⟨b, cs.length, cs, (0, 0), rfl, rfl, rfl, by simp, Nat.zero_le _, c2, FrOk.zero _⟩
  generalize (Value.slice (some ⟨b, 0, none⟩) 0 cs.length) = v0 at ho0 ⊢
  generalize [(b, cl cs 5)] = C0 at ho0 ⊢
  clear c1 c2
  (repeat' first|refine kW ?_|refine kU fun bk=>?_|refine kV fun hc=>?_|refine kZ (fun hc=>?_) fun hc=>?_|fail)
  refine WC_loop (X := Nat × Nat × List UInt8 × Value × Chunk) (fun y => [(0, .string (str s)), (1, .string (str [42])), (2, .string (str x)), (10, .pointer (some ⟨q, 0, none⟩)), (11, .int .i64 (y.2.1 : Int)), (52, .int .i64 1), (53, .int .i64 (y.1 : Int))])
    (fun y => y.2.2.2.2 :: bdC q (.pointer (some ⟨q, 0, none⟩)) y.2.2.2.1 :: L)
    (fun y => (y.1 = 0 ∧ y.2.1 = 0 ∧ y.2.2.1 = [] ∨ y.1 = 1 ∧ y.2.1 = k + 1 ∧ y.2.2.1 = s.take k ++ x) ∧ OwG 5 y.2.2.2.1 y.2.2.1.length (bsv y.2.2.1) y.2.2.2.2) (fun y => 1 - y.1) (0, 0, [], v0, C0) ⟨.inl ⟨rfl, rfl, rfl⟩, ho0⟩ iS (fun w h => h) ?_
  rintro ⟨i, st, l, v, C⟩ ⟨h1, h2⟩
  simp only at h1 h2 ⊢
  rcases h1 with ⟨rfl, rfl, rfl⟩ | ⟨rfl, rfl, rfl⟩
  · have hix := fun L' => index_n s 42 L'
    simp only [hk2] at hix
    have ltk : (s.take k).length = k := by rw [List.length_take]; omega
    (repeat' first|refine kW ?_|refine kU fun bk=>?_|refine kV fun hc=>?_|refine kZ (fun hc=>?_) fun hc=>?_|fail)
    refine OW_EV (EV_cutL s 0 s.length rfl (bnd_int rfl rfl) rfl (Nat.zero_le _) (Nat.le_refl _)) rfl ?_
    rw [List.drop_zero, List.take_of_length_le (l := s) (i := s.length - 0) (by omega)]
    (repeat' first|refine kW ?_|refine kU fun bk=>?_|refine kV fun hc=>?_|refine kZ (fun hc=>?_) fun hc=>?_|fail)
    refine OW_callP rfl rfl rfl (hix _) rfl ?_
    (repeat' first|refine kW ?_|refine kU fun bk=>?_|refine kV fun hc=>?_|refine kZ (fun hc=>?_) fun hc=>?_|fail)
    refine OW_EV (EV_cutL s 0 k rfl (bnd_int rfl rfl) (bnd_int rfl (by omega)) (Nat.zero_le _) (by omega)) rfl ?_
    rw [List.drop_zero, show s.take (k - 0) = s.take k from rfl]
    (repeat' first|refine kW ?_|refine kU fun bk=>?_|refine kV fun hc=>?_|refine kZ (fun hc=>?_) fun hc=>?_|fail)
    refine OW_call rfl rfl rfl (bwrite_n q v 0 [] (s.take k) C L h2 (by omega)) rfl (fun r L' hp => ?_)
    obtain ⟨v1, C1, rfl, ho1, rfl⟩ := hp
    rw [Nat.zero_add, List.nil_append] at ho1
    (repeat' first|refine kW ?_|refine kU fun bk=>?_|refine kV fun hc=>?_|refine kZ (fun hc=>?_) fun hc=>?_|fail)
    refine OW_call rfl rfl rfl (bwrite_n q v1 (s.take k).length (bsv (s.take k)) x C1 L ho1 (by omega)) rfl (fun r L' hp => ?_)
    obtain ⟨v2, C2, rfl, ho2, rfl⟩ := hp
    have ho3 : OwG 5 v2 (s.take k ++ x).length (bsv (s.take k ++ x)) C2 := by
      rw [List.length_append, show bsv (s.take k ++ x) = bsv (s.take k) ++ bsv x from by simp [bsv]]
      exact ho2
    (repeat' first|refine kW ?_|refine kU fun bk=>?_|refine kV fun hc=>?_|refine kZ (fun hc=>?_) fun hc=>?_|fail)
    exact WQ_round (X := Nat × Nat × List UInt8 × Value × Chunk) (μ := fun y => 1 - y.1) (x := (0, 0, [], v, C)) (1, k + 1, s.take k ++ x, v2, C2) (by simp) ⟨.inr ⟨rfl, rfl, rfl⟩, ho3⟩ iS (fun w h => h)
  · have ltk : (s.take k).length = k := by rw [List.length_take]; omega
    (repeat' first|refine kW ?_|refine kU fun bk=>?_|refine kV fun hc=>?_|refine kZ (fun hc=>?_) fun hc=>?_|fail)
    refine OW_EV (EV_cutL s (k + 1) s.length rfl (bnd_int rfl rfl) rfl (by omega) (Nat.le_refl _)) rfl ?_
    rw [List.take_of_length_le (l := s.drop (k + 1)) (by simp)]
    (repeat' first|refine kW ?_|refine kU fun bk=>?_|refine kV fun hc=>?_|refine kZ (fun hc=>?_) fun hc=>?_|fail)
    refine OW_call rfl rfl rfl (bwrite_n q v (s.take k ++ x).length (bsv (s.take k ++ x)) (s.drop (k + 1)) C L h2 (by rw [List.length_append, List.length_drop, ltk]; omega)) rfl (fun r L' hp => ?_)
    obtain ⟨v1, C1, rfl, ho1, rfl⟩ := hp
    have ho3 : OwG 5 v1 (s.take k ++ x ++ s.drop (k + 1)).length (bsv (s.take k ++ x ++ s.drop (k + 1))) C1 := by
      rw [List.length_append, show bsv (s.take k ++ x ++ s.drop (k + 1)) = bsv (s.take k ++ x) ++ bsv (s.drop (k + 1)) from by simp [bsv]]
      exact ho1
    have hl : (s.take k ++ x ++ s.drop (k + 1)).length + 1 = s.length + x.length := by
      rw [List.length_append, List.length_append, List.length_drop, ltk]; omega
    (repeat' first|refine kW ?_|refine kU fun bk=>?_|refine kV fun hc=>?_|refine kZ (fun hc=>?_) fun hc=>?_|fail)
    refine OW_call rfl rfl rfl (bstring_n q v1 (s.take k ++ x ++ s.drop (k + 1)) C1 L ho3 (fun e => by rw [e] at hl; simp at hl; omega) (by omega)) rfl (fun r L' hp => ?_)
    obtain ⟨rfl, rfl⟩ := hp
    (repeat' first|refine kW ?_|refine kU fun bk=>?_|refine kV fun hc=>?_|refine kZ (fun hc=>?_) fun hc=>?_|fail)
    exact kE
end
end Go.Proofs.YtehpnblbkldojaaDoor
namespace Go.Proofs.YtehpnblbkldojaaDoor
open Go Go.Vx Go.Nm Go.Ob Go.Lib
set_option linter.all false
set_option maxRecDepth 4000
section
variable [W0]
theorem fits_n (s : List UInt8) (L : List Chunk) (hb : UtAt L) (hs : s.length ≤ 140737488351232) : GvP Tryd.prog 34 [.string (str s)].toArray L (.bool (myN s).1) := by
  refine Gv.of_body (args := [.string (str s)]) Tryd.func34 rfl rfl ?_
  have hr := replace_nn s [120] L hs (by simp; omega) (fun h => by have := List.length_pos_of_mem h; simp; omega)
  have hv := nvalid_n (rp1 s [120]) L hb (by rw [rp1_len]; omega)
  rw [fits_my] at hv
  generalize rp1 s [120] = t at *
  (repeat' first|refine kW ?_|refine kU fun bk=>?_|refine kV fun hc=>?_|refine kZ (fun hc=>?_) fun hc=>?_|fail)
  refine OW_callP rfl rfl rfl hr rfl ?_
  (repeat' first|refine kW ?_|refine kU fun bk=>?_|refine kV fun hc=>?_|refine kZ (fun hc=>?_) fun hc=>?_|fail)
  refine OW_callP rfl rfl rfl hv rfl ?_
  (repeat' first|refine kW ?_|refine kU fun bk=>?_|refine kV fun hc=>?_|refine kZ (fun hc=>?_) fun hc=>?_|fail)
  exact kE
set_option maxHeartbeats 4000000 in
theorem pvalid_n (p : Sp) (L : List Chunk) (hb : UtAt L) (h1 : p.src.length ≤ 140737488351232) (h2 : p.dst.length ≤ 140737488351232) : GvP Tryd.prog 22 [.agg (spV p).toArray].toArray L (.bool (pvN p.src p.dst)) := by
  obtain ⟨f, a, b⟩ := p
  simp only at h1 h2
  refine Gv.of_body (args := [.agg (spV ⟨f, a, b⟩).toArray]) Tryd.func22 rfl rfl ?_
  unfold spV
  have ha := fun C => fits_n a (C :: L) hb.there h1
  have hd := fun C => fits_n b (C :: L) hb.there h2
  have ca := fun C => contains_n a 42 (C :: L)
  have cb := fun C => contains_n b 42 (C :: L)
  have hpv : pvN a b = ((decide (a = []) || (myN a).1) && (myN b).1 && decide (decide (42 ∈ a) = decide (42 ∈ b))) := rfl
  rw [show (⟨f, a, b⟩ : Sp).src = a from rfl, show (⟨f, a, b⟩ : Sp).dst = b from rfl, hpv]
  clear hpv
  generalize (myN a).1 = ma at *
  generalize (myN b).1 = mb at *
  generalize decide (42 ∈ a) = sa at *
  generalize decide (42 ∈ b) = sb at *
  have heq : ∀ x y : Bool, (x == y) = decide (x = y) := by decide
  (repeat' first|refine kW ?_|refine kU fun bk=>?_|refine kV fun hc=>?_|refine kZ (fun hc=>?_) fun hc=>?_|fail)
  revert bk; intro q
  by_cases e1 : a = []
  · rw [decide_eq_true e1, Bool.true_or, Bool.true_and]
    cases mb with
    | false =>
      refine WC_drawAll [] mixed ?_
      (refine WR_t 0 ?_; refine WR_t 1 ?_)
      (refine WR_take 2 rfl rfl (by kernel_rfl) iP iC (EV_eqT a [] e1 rfl rfl) (by rfl) ?_)
      (refine WR_t 3 ?_)
      (refine WR_v 4 ?_; refine WR_v 5 ?_; refine WR_v 6 ?_)
      (refine WR_t 7 ?_; refine WR_t 8 ?_)
      (refine WR_u 9 ?_; refine WR_u 10 ?_)
      (refine WR_oneOn 11 (by kernel_rfl) rfl rfl rfl ?_)
      refine OW_callP rfl rfl rfl (hd _) rfl ?_
      refine ⟨iC, ?_⟩
      (refine WR_t 12 ?_; refine WR_t 13 ?_)
      (refine WR_v 14 ?_; refine WR_v 15 ?_; refine WR_v 16 ?_; refine WR_v 17 ?_; refine WR_v 18 ?_; refine WR_v 19 ?_; refine WR_v 20 ?_)
      (refine WR_t 21 ?_; refine WR_t 22 ?_)
      (refine WR_done (by kernel_rfl) ?_)
      (repeat' first|refine kW ?_|refine kU fun bk=>?_|refine kV fun hc=>?_|refine kZ (fun hc=>?_) fun hc=>?_|fail)
      exact kE
    | true =>
      refine WC_drawAll [] mixed ?_
      (refine WR_t 0 ?_; refine WR_t 1 ?_)
      (refine WR_take 2 rfl rfl (by kernel_rfl) iP iC (EV_eqT a [] e1 rfl rfl) (by rfl) ?_)
      (refine WR_t 3 ?_)
      (refine WR_v 4 ?_; refine WR_v 5 ?_; refine WR_v 6 ?_)
      (refine WR_t 7 ?_; refine WR_t 8 ?_)
      (refine WR_u 9 ?_; refine WR_u 10 ?_)
      (refine WR_oneOn 11 (by kernel_rfl) rfl rfl rfl ?_)
      refine OW_callP rfl rfl rfl (hd _) rfl ?_
      refine ⟨iC, ?_⟩
      (refine WR_t 12 ?_; refine WR_t 13 ?_)
      (refine WR_u 14 ?_; refine WR_u 15 ?_)
      (refine WR_u 17 ?_; refine WR_u 18 ?_)
      (refine WR_oneOn 16 (by kernel_rfl) rfl rfl rfl ?_)
      refine OW_callP rfl rfl rfl (ca _) rfl ?_
      refine ⟨iC, ?_⟩
      (refine WR_oneOn 19 (by kernel_rfl) rfl rfl rfl ?_)
      refine OW_callP rfl rfl rfl (cb _) rfl ?_
      refine ⟨iC, ?_⟩
      (refine WR_takeOn 20 rfl rfl rfl (by kernel_rfl) iP iC (EV_boolEq rfl rfl) (by rfl) ?_)
      rw [heq]
      (refine WR_t 21 ?_; refine WR_t 22 ?_)
      (refine WR_done (by kernel_rfl) ?_)
      (repeat' first|refine kW ?_|refine kU fun bk=>?_|refine kV fun hc=>?_|refine kZ (fun hc=>?_) fun hc=>?_|fail)
      exact kE
  · rw [decide_eq_false e1, Bool.false_or]
    cases ma with
    | false =>
      rw [Bool.false_and, Bool.false_and]
      refine WC_drawAll [] mixed ?_
      (refine WR_t 0 ?_; refine WR_t 1 ?_)
      (refine WR_take 2 rfl rfl (by kernel_rfl) iP iC (EV_eqF a [] e1 rfl rfl) (by rfl) ?_)
      (refine WR_t 3 ?_)
      (refine WR_u 4 ?_; refine WR_u 5 ?_)
      (refine WR_oneOn 6 (by kernel_rfl) rfl rfl rfl ?_)
      refine OW_callP rfl rfl rfl (ha _) rfl ?_
      refine ⟨iC, ?_⟩
      (refine WR_t 7 ?_; refine WR_t 8 ?_)
      (refine WR_v 9 ?_; refine WR_v 10 ?_; refine WR_v 11 ?_)
      (refine WR_t 12 ?_; refine WR_t 13 ?_)
      (refine WR_v 14 ?_; refine WR_v 15 ?_; refine WR_v 16 ?_; refine WR_v 17 ?_; refine WR_v 18 ?_; refine WR_v 19 ?_; refine WR_v 20 ?_)
      (refine WR_t 21 ?_; refine WR_t 22 ?_)
      (refine WR_done (by kernel_rfl) ?_)
      (repeat' first|refine kW ?_|refine kU fun bk=>?_|refine kV fun hc=>?_|refine kZ (fun hc=>?_) fun hc=>?_|fail)
      exact kE
    | true =>
      rw [Bool.true_and]
      cases mb with
      | false =>
        refine WC_drawAll [] mixed ?_
        (refine WR_t 0 ?_; refine WR_t 1 ?_)
        (refine WR_take 2 rfl rfl (by kernel_rfl) iP iC (EV_eqF a [] e1 rfl rfl) (by rfl) ?_)
        (refine WR_t 3 ?_)
        (refine WR_u 4 ?_; refine WR_u 5 ?_)
        (refine WR_oneOn 6 (by kernel_rfl) rfl rfl rfl ?_)
        refine OW_callP rfl rfl rfl (ha _) rfl ?_
        refine ⟨iC, ?_⟩
        (refine WR_t 7 ?_; refine WR_t 8 ?_)
        (refine WR_u 9 ?_; refine WR_u 10 ?_)
        (refine WR_oneOn 11 (by kernel_rfl) rfl rfl rfl ?_)
        refine OW_callP rfl rfl rfl (hd _) rfl ?_
        refine ⟨iC, ?_⟩
        (refine WR_t 12 ?_; refine WR_t 13 ?_)
        (refine WR_v 14 ?_; refine WR_v 15 ?_; refine WR_v 16 ?_; refine WR_v 17 ?_; refine WR_v 18 ?_; refine WR_v 19 ?_; refine WR_v 20 ?_)
        (refine WR_t 21 ?_; refine WR_t 22 ?_)
        (refine WR_done (by kernel_rfl) ?_)
        (repeat' first|refine kW ?_|refine kU fun bk=>?_|refine kV fun hc=>?_|refine kZ (fun hc=>?_) fun hc=>?_|fail)
        exact kE
      | true =>
        refine WC_drawAll [] mixed ?_
        (refine WR_t 0 ?_; refine WR_t 1 ?_)
        (refine WR_take 2 rfl rfl (by kernel_rfl) iP iC (EV_eqF a [] e1 rfl rfl) (by rfl) ?_)
        (refine WR_t 3 ?_)
        (refine WR_u 4 ?_; refine WR_u 5 ?_)
        (refine WR_oneOn 6 (by kernel_rfl) rfl rfl rfl ?_)
        refine OW_callP rfl rfl rfl (ha _) rfl ?_
        refine ⟨iC, ?_⟩
        (refine WR_t 7 ?_; refine WR_t 8 ?_)
        (refine WR_u 9 ?_; refine WR_u 10 ?_)
        (refine WR_oneOn 11 (by kernel_rfl) rfl rfl rfl ?_)
        refine OW_callP rfl rfl rfl (hd _) rfl ?_
        refine ⟨iC, ?_⟩
        (refine WR_t 12 ?_; refine WR_t 13 ?_)
        (refine WR_u 14 ?_; refine WR_u 15 ?_)
        (refine WR_u 17 ?_; refine WR_u 18 ?_)
        (refine WR_oneOn 16 (by kernel_rfl) rfl rfl rfl ?_)
        refine OW_callP rfl rfl rfl (ca _) rfl ?_
        refine ⟨iC, ?_⟩
        (refine WR_oneOn 19 (by kernel_rfl) rfl rfl rfl ?_)
        refine OW_callP rfl rfl rfl (cb _) rfl ?_
        refine ⟨iC, ?_⟩
        (refine WR_takeOn 20 rfl rfl rfl (by kernel_rfl) iP iC (EV_boolEq rfl rfl) (by rfl) ?_)
        rw [heq]
        (refine WR_t 21 ?_; refine WR_t 22 ?_)
        (refine WR_done (by kernel_rfl) ?_)
        (repeat' first|refine kW ?_|refine kU fun bk=>?_|refine kV fun hc=>?_|refine kZ (fun hc=>?_) fun hc=>?_|fail)
        exact kE
end
end Go.Proofs.YtehpnblbkldojaaDoor
namespace Go.Nm
open Go Go.Lib
set_option linter.all false
def tgP (a d s : List UInt8) : List UInt8 × Bool :=
  if 42 ∈ a then
    if ((cuS 42 a).1.length ≤ s.length ∧ s.take (cuS 42 a).1.length = (cuS 42 a).1) ∧ endB (s.drop (cuS 42 a).1.length) (cuS 42 a).2.1 = true ∧ 42 ∉ (cuS 42 a).2.1 ∧ 42 ∈ d then
      (rp1 d ((s.drop (cuS 42 a).1.length).take ((s.drop (cuS 42 a).1.length).length - (cuS 42 a).2.1.length)), true)
    else ([], false)
  else (d, decide (s = a))
theorem tg_p (a d s : List UInt8) : tgN a d s = if (tgP a d s).2 = true then some (tgP a d s).1 else none := by
  unfold tgN tgP
  split
  · split
    · rfl
    · rfl
  · simp only [decide_eq_true_eq]
theorem pv_ge {a b : List UInt8} (h : pvN a b = true) : 2 ≤ b.length := by
  have h2 := (pv_parts h).2.1
  rw [← fits_my, vlN_ck, Bool.and_eq_true, Bool.and_eq_true, Bool.and_eq_true, decide_eq_true_eq, decide_eq_true_eq] at h2
  have := h2.2.2.1.1
  rw [rp1_len] at this
  omega
theorem rp1_le (s x : List UInt8) : (rp1 s x).length ≤ s.length + x.length := by
  unfold rp1
  split
  · omega
  · simp only [List.length_append, List.length_take, List.length_drop]
    omega
theorem tgP_le (a d s : List UInt8) : (tgP a d s).1.length ≤ d.length + s.length := by
  unfold tgP
  split
  · split
    · refine Nat.le_trans (rp1_le _ _) ?_
      simp only [List.length_take, List.length_drop]
      omega
    · simp
  · simp
theorem mp_tg (f : Bool) (a d s : List UInt8) (h : pvN a d = true) : mpN ⟨f, a, d⟩ s = if (tgP a d s).2 = true ∧ vlN (tgP a d s).1 = true then some (tgP a d s).1 else none := by
  rw [mp_prog f a d s h, tg_p]
  generalize (tgP a d s).1 = y
  generalize (tgP a d s).2 = b
  cases b <;> cases hv : vlN y <;> simp [hv]
end Go.Nm
namespace Go.Proofs.YtehpnblbkldojaaDoor
open Go Go.Vx Go.Nm Go.Ob Go.Lib
set_option linter.all false
set_option maxRecDepth 4000
section
variable [W0]
set_option maxHeartbeats 4000000 in
theorem ntext_n (p : Sp) (L : List Chunk) (h1 : p.src.length ≤ 1000000) (h2 : p.dst.length ≤ 1000000) : GvP Tryd.prog 18 [.agg (spV p).toArray].toArray L (.string (str (txN p))) := by
  obtain ⟨f, a, b⟩ := p
  simp only at h1 h2
  refine Gv.of_body (args := [.agg (spV ⟨f, a, b⟩).toArray]) Tryd.func18 rfl rfl ?_
  unfold spV
  (repeat' first|refine kW ?_|refine kU fun bk=>?_|refine kV fun hc=>?_|refine kZ (fun hc=>?_) fun hc=>?_|fail)
  revert bk; intro q
  refine OW_EV (EV_catL a [58] rfl rfl (by simp only [List.length_cons, List.length_nil]; omega)) rfl ?_
  (repeat' first|refine kW ?_|refine kU fun bk=>?_|refine kV fun hc=>?_|refine kZ (fun hc=>?_) fun hc=>?_|fail)
  refine OW_EV (EV_catL (a ++ [58]) b rfl rfl (by simp only [List.length_append, List.length_cons, List.length_nil]; omega)) rfl ?_
  cases f with
  | true =>
    (repeat' first|refine kW ?_|refine kU fun bk=>?_|refine kV fun hc=>?_|refine kZ (fun hc=>?_) fun hc=>?_|fail)
    refine OW_EV (EV_catL [43] (a ++ [58] ++ b) rfl rfl (by simp only [List.length_append, List.length_cons, List.length_nil]; omega)) rfl ?_
    (repeat' first|refine kW ?_|refine kU fun bk=>?_|refine kV fun hc=>?_|refine kZ (fun hc=>?_) fun hc=>?_|fail)
    exact kE
  | false =>
    (repeat' first|refine kW ?_|refine kU fun bk=>?_|refine kV fun hc=>?_|refine kZ (fun hc=>?_) fun hc=>?_|fail)
    exact kE
theorem cut0_n (s : List UInt8) (c : UInt8) (L : List Chunk) (hs : s.length ≤ 9223372036854775000) : GvP Tryd.prog 33 [.string (str s), .string (str [c])].toArray L (.tuple #[.string (str (cuS c s).1), .string (str (cuS c s).2.1), .bool (cuS c s).2.2]) := by
  refine Gv.of_body (args := [.string (str s), .string (str [c])]) Tryd.func33 rfl rfl ?_
  have z1 : (str s).size = s.length := str_size s
  have z2 : (str [c]).size = 1 := rfl
  have hi := index0_n s c L
  rcases ix_cases c s with ⟨h1, h2⟩ | ⟨k, h1, h2, h3, h4⟩
  · rw [cu_none h1]
    rw [h2] at hi
    (repeat' first|refine kW ?_|refine kU fun bk=>?_|refine kV fun hc=>?_|refine kZ (fun hc=>?_) fun hc=>?_|fail)
    refine OW_callP rfl rfl rfl hi rfl ?_
    (repeat' first|refine kW ?_|refine kU fun bk=>?_|refine kV fun hc=>?_|refine kZ (fun hc=>?_) fun hc=>?_|fail)
    exact kE
  · have e : cuS c s = (s.take k, s.drop (k + 1), true) := by
      unfold cuS
      rw [h2, if_neg (by omega), Int.toNat_natCast]
    rw [e]
    rw [h2] at hi
    clear e
    (repeat' first|refine kW ?_|refine kU fun bk=>?_|refine kV fun hc=>?_|refine kZ (fun hc=>?_) fun hc=>?_|fail)
    refine OW_callP rfl rfl rfl hi rfl ?_
    (repeat' first|refine kW ?_|refine kU fun bk=>?_|refine kV fun hc=>?_|refine kZ (fun hc=>?_) fun hc=>?_|fail)
    refine WC_drawAll [] mixed ?_
    (refine WR_t 0 ?_; refine WR_t 1 ?_)
    (refine WR_take 2 rfl rfl (by kernel_rfl) iP iC (EV_cutL s 0 k rfl rfl (bnd_int rfl rfl) (Nat.zero_le _) (by omega)) (by rfl) ?_)
    rw [List.drop_zero, Nat.sub_zero]
    (refine WR_t 3 ?_; refine WR_t 4 ?_; refine WR_t 5 ?_; refine WR_t 6 ?_; refine WR_t 7 ?_)
    (refine WR_take 8 rfl rfl (by kernel_rfl) iP iC (EV_cutL s (k + 1) s.length rfl (bnd_int rfl (by omega)) rfl (by omega) (Nat.le_refl _)) (by rfl) ?_)
    rw [List.take_of_length_le (l := s.drop (k + 1)) (by simp)]
    (refine WR_t 9 ?_; refine WR_t 10 ?_; refine WR_t 11 ?_)
    (refine WR_done (by kernel_rfl) ?_)
    (repeat' first|refine kW ?_|refine kU fun bk=>?_|refine kV fun hc=>?_|refine kZ (fun hc=>?_) fun hc=>?_|fail)
    exact kE
theorem cut_n (s : List UInt8) (c : UInt8) (L : List Chunk) (hs : s.length ≤ 9223372036854775000) : GvP Tryd.prog 21 [.string (str s), .string (str [c])].toArray L (.tuple #[.string (str (cuS c s).1), .string (str (cuS c s).2.1), .bool (cuS c s).2.2]) := by
  refine Gv.of_body (args := [.string (str s), .string (str [c])]) Tryd.func21 rfl rfl ?_
  have h := cut0_n s c L hs
  generalize cuS c s = r at *
  (repeat' first|refine kW ?_|refine kU fun bk=>?_|refine kV fun hc=>?_|refine kZ (fun hc=>?_) fun hc=>?_|fail)
  refine OW_callP rfl rfl rfl h rfl ?_
  (repeat' first|refine kW ?_|refine kU fun bk=>?_|refine kV fun hc=>?_|refine kZ (fun hc=>?_) fun hc=>?_|fail)
  exact kE
omit [W0] in
theorem pl_cut (s : List UInt8) : (if [43].length ≤ s.length ∧ s.take [43].length = [43] then Value.tuple #[.string (str (s.drop [43].length)), .bool true] else .tuple #[.string (str s), .bool false]) = .tuple #[.string (str (plN s).2), .bool (plN s).1] := by
  rcases pl_cases s with ⟨r, rfl, e⟩ | ⟨e, h⟩
  · rw [e, if_pos (by simp)]
    rfl
  · rw [e, if_neg]
    rintro ⟨h1, h2⟩
    rcases s with _ | ⟨c, r⟩
    · simp at h1
    · exact h c r rfl (by simpa using h2)
omit [W0] in
theorem cu_le (c : UInt8) (u : List UInt8) : (cuS c u).1.length ≤ u.length ∧ (cuS c u).2.1.length ≤ u.length := by
  unfold cuS
  split
  · exact ⟨Nat.le_refl _, by simp⟩
  · exact ⟨by simp; omega, by simp⟩
set_option maxHeartbeats 8000000 in
theorem nparse_n (s : List UInt8) (L : List Chunk) (hb : UtAt L) (hs : s.length ≤ 140737488351232) : GvP Tryd.prog 8 [.string (str s)].toArray L (match psN s with | some p => .tuple #[.agg (spV p).toArray, .int .i64 0] | none => .tuple #[.agg (spV ⟨false, [], []⟩).toArray, .int .i64 3]) := by
  refine Gv.of_body (args := [.string (str s)]) Tryd.func8 rfl rfl ?_
  have hcp : ∀ L, GvP Tryd.prog 20 [.string (str s), .string (str [43])].toArray L (.tuple #[.string (str (plN s).2), .bool (plN s).1]) := fun L => by
    rw [← pl_cut]
    exact cutprefix_n s [43] L (by omega) (by decide)
  rw [ps_prog]
  have hul : (plN s).2.length ≤ s.length := by
    rcases pl_cases s with ⟨r, rfl, e⟩ | ⟨e, h⟩
    · rw [e]; simp
    · rw [e]; exact Nat.le_refl _
  generalize (plN s).1 = fo at *
  generalize (plN s).2 = u at *
  have hcu := fun L => cut_n u 58 L (by omega)
  obtain ⟨l1, l2⟩ := cu_le 58 u
  obtain ⟨a, ha⟩ : ∃ a, a = (cuS 58 u).1 := ⟨_, rfl⟩
  obtain ⟨b, hb0⟩ : ∃ b, b = (cuS 58 u).2.1 := ⟨_, rfl⟩
  obtain ⟨tw, htw⟩ : ∃ t, t = (cuS 58 u).2.2 := ⟨_, rfl⟩
  rw [← ha, ← hb0, ← htw] at hcu
  rw [← ha, ← hb0, ← htw]
  rw [← ha] at l1
  rw [← hb0] at l2
  clear ha hb0 htw
  obtain ⟨d, hd⟩ : ∃ d, d = (if tw = true then b else a) := ⟨_, rfl⟩
  rw [← hd]
  have ld : d.length ≤ u.length := by rw [hd]; split <;> assumption
  have hpv : ∀ L (h : UtAt L), GvP Tryd.prog 22 [.agg (spV ⟨fo, a, d⟩).toArray].toArray L (.bool (pvN a d)) := fun L h => pvalid_n ⟨fo, a, d⟩ L h (by simp only; omega) (by simp only; omega)
  refine WC_seq ?_
  (repeat' first|refine kY ?_|refine kU fun bk=>?_|refine kV fun hc=>?_|refine kZ (fun hc=>?_) fun hc=>?_|fail)
  revert bk; intro r
  refine WC_seq ?_
  (repeat' first|refine kY ?_|refine kU fun bk=>?_|refine kV fun hc=>?_|refine kZ (fun hc=>?_) fun hc=>?_|fail)
  refine OW_callP rfl rfl rfl (hcp _) rfl ?_
  (repeat' first|refine kY ?_|refine kU fun bk=>?_|refine kV fun hc=>?_|refine kZ (fun hc=>?_) fun hc=>?_|fail)
  refine WC_seq ?_
  (repeat' first|refine kY ?_|refine kU fun bk=>?_|refine kV fun hc=>?_|refine kZ (fun hc=>?_) fun hc=>?_|fail)
  refine OW_callP rfl rfl rfl (hcu _) rfl ?_
  (repeat' first|refine kY ?_|refine kU fun bk=>?_|refine kV fun hc=>?_|refine kZ (fun hc=>?_) fun hc=>?_|fail)
  refine WC_cut (X := Unit) (fun _ => [(2, .pointer (some ⟨r, 0, none⟩)), (3, .int .i64 0), (4, .string (str a)), (5, .bool fo), (6, .string (str d))]) (fun _ => [(r, cl [.bool false, .string (str []), .string (str [])] 25)] :: L) (fun _ => True) ?_ ?_
  · cases tw with
    | true =>
      rw [if_pos rfl] at hd
      subst hd
      (repeat' first|refine kW ?_|refine kU fun bk=>?_|refine kV fun hc=>?_|refine kZ (fun hc=>?_) fun hc=>?_|fail)
      exact WQ_cut () trivial iS (fun w h => h)
    | false =>
      rw [if_neg Bool.false_ne_true] at hd
      subst hd
      (repeat' first|refine kW ?_|refine kU fun bk=>?_|refine kV fun hc=>?_|refine kZ (fun hc=>?_) fun hc=>?_|fail)
      exact WQ_cut () trivial iS (fun w h => h)
  intro _ _
  clear hd hcp hcu
  cases hv : pvN a d with
  | true =>
    simp only [hv] at hpv
    rw [if_pos rfl]
    (repeat' first|refine kW ?_|refine kU fun bk=>?_|refine kV fun hc=>?_|refine kZ (fun hc=>?_) fun hc=>?_|fail)
    revert bk; intro q
    refine OW_callP rfl rfl rfl (hpv _ hb.there.there) rfl ?_
    (repeat' first|refine kW ?_|refine kU fun bk=>?_|refine kV fun hc=>?_|refine kZ (fun hc=>?_) fun hc=>?_|fail)
    first
      | (refine WQ_retC (vs := [.agg (spV ⟨fo, a, d⟩).toArray, .int .i64 0]) rfl (.agg ⟨by kernel_rfl, by kernel_rfl⟩ rfl (RdAt.cl' (vs := spV ⟨fo, a, d⟩) (by repeat (first | assumption | exact Fnd.here | refine Fnd.there ?_)) rfl) rfl (.tmp rfl .nil)) ?_
         exact ⟨_, fun w h => h.drop.drop, rfl, rfl⟩)
      | (refine WQ_endC (vs := [.agg (spV ⟨fo, a, d⟩).toArray, .int .i64 0]) rfl (.agg ⟨by kernel_rfl, by kernel_rfl⟩ rfl (RdAt.cl' (vs := spV ⟨fo, a, d⟩) (by repeat (first | assumption | exact Fnd.here | refine Fnd.there ?_)) rfl) rfl (.tmp rfl .nil)) ?_
         exact ⟨_, fun w h => h.drop.drop, rfl, rfl⟩)
  | false =>
    simp only [hv] at hpv
    rw [if_neg Bool.false_ne_true]
    (repeat' first|refine kW ?_|refine kU fun bk=>?_|refine kV fun hc=>?_|refine kZ (fun hc=>?_) fun hc=>?_|fail)
    revert bk; intro q
    refine OW_callP rfl rfl rfl (hpv _ hb.there.there) rfl ?_
    (repeat' first|refine kW ?_|refine kU fun bk=>?_|refine kV fun hc=>?_|refine kZ (fun hc=>?_) fun hc=>?_|fail)
    first
      | (refine WQ_retC (vs := [.agg (spV ⟨false, [], []⟩).toArray, .int .i64 3]) rfl (.agg ⟨by kernel_rfl, by kernel_rfl⟩ rfl (RdAt.cl' (vs := spV ⟨false, [], []⟩) (by repeat (first | assumption | exact Fnd.here | refine Fnd.there ?_)) rfl) rfl (.tmp rfl .nil)) ?_
         exact ⟨_, fun w h => h.drop.drop, rfl, rfl⟩)
      | (refine WQ_endC (vs := [.agg (spV ⟨false, [], []⟩).toArray, .int .i64 3]) rfl (.agg ⟨by kernel_rfl, by kernel_rfl⟩ rfl (RdAt.cl' (vs := spV ⟨false, [], []⟩) (by repeat (first | assumption | exact Fnd.here | refine Fnd.there ?_)) rfl) rfl (.tmp rfl .nil)) ?_
         exact ⟨_, fun w h => h.drop.drop, rfl, rfl⟩)
set_option maxHeartbeats 8000000 in
theorem ntarget_n (p : Sp) (s : List UInt8) (L : List Chunk) (hb : UtAt L) (h1 : p.src.length ≤ 140737488351232) (h2 : p.dst.length ≤ 4000) (h4 : 2 ≤ p.dst.length) (h3 : s.length ≤ 140737488351232) : GvP Tryd.prog 23 [.agg (spV p).toArray, .string (str s)].toArray L (.tuple #[.string (str (tgP p.src p.dst s).1), .bool (tgP p.src p.dst s).2]) := by
  obtain ⟨f, a, d⟩ := p
  simp only at h1 h2 h4 ⊢
  refine Gv.of_body (args := [.agg (spV ⟨f, a, d⟩).toArray, .string (str s)]) Tryd.func23 rfl rfl ?_
  unfold spV
  have hcu := fun L => cut_n a 42 L (by omega)
  by_cases g : 42 ∈ a
  rotate_left
  · rw [show tgP a d s = (d, decide (s = a)) from by unfold tgP; rw [if_neg g]]
    simp only [cu_none g] at hcu
    (repeat' first|refine kW ?_|refine kU fun bk=>?_|refine kV fun hc=>?_|refine kZ (fun hc=>?_) fun hc=>?_|fail)
    revert bk; intro q
    refine OW_callP rfl rfl rfl (hcu _) rfl ?_
    (repeat' first|refine kW ?_|refine kU fun bk=>?_|refine kV fun hc=>?_|refine kZ (fun hc=>?_) fun hc=>?_|fail)
    refine WC_drawAll [] mixed ?_
    (refine WR_t 0 ?_; refine WR_t 1 ?_; refine WR_t 2 ?_; refine WR_t 3 ?_; refine WR_t 4 ?_)
    (refine WR_take 5 rfl rfl (by kernel_rfl) iP iC (EV_eqL s a rfl rfl) (by rfl) ?_)
    (refine WR_t 6 ?_; refine WR_t 7 ?_)
    (refine WR_done (by kernel_rfl) ?_)
    (repeat' first|refine kW ?_|refine kU fun bk=>?_|refine kV fun hc=>?_|refine kZ (fun hc=>?_) fun hc=>?_|fail)
    exact kE
  obtain ⟨l1, l2⟩ := cu_le 42 a
  have htw : (cuS 42 a).2.2 = true := by
    rcases ix_cases 42 a with h | ⟨k, k1, k2, k3, k4⟩
    · exact absurd g h.1
    · unfold cuS
      rw [k2, if_neg (by omega)]
  have htg : tgP a d s = if ((cuS 42 a).1.length ≤ s.length ∧ s.take (cuS 42 a).1.length = (cuS 42 a).1) ∧ endB (s.drop (cuS 42 a).1.length) (cuS 42 a).2.1 = true ∧ 42 ∉ (cuS 42 a).2.1 ∧ 42 ∈ d then
      (rp1 d ((s.drop (cuS 42 a).1.length).take ((s.drop (cuS 42 a).1.length).length - (cuS 42 a).2.1.length)), true)
    else ([], false) := by
    unfold tgP
    rw [if_pos g]
  rw [htg]
  simp only [htw] at hcu
  clear htg htw
  generalize (cuS 42 a).1 = bg at *
  generalize (cuS 42 a).2.1 = en at *
  have hcp := fun L => cutprefix_n s bg L (by omega) (by omega)
  by_cases c1 : bg.length ≤ s.length ∧ s.take bg.length = bg
  rotate_left
  · simp only [if_neg c1] at hcp
    rw [if_neg (fun w => c1 w.1)]
    have hcs := fun L => cutsuffix_n s en L (by omega) (by omega)
    obtain ⟨y, z, hyz⟩ : ∃ y z, (if endB s en = true then Value.tuple #[.string (str (s.take (s.length - en.length))), .bool true] else .tuple #[.string (str s), .bool false]) = .tuple #[.string y, .bool z] := by
      split
      · exact ⟨_, _, rfl⟩
      · exact ⟨_, _, rfl⟩
    simp only [hyz] at hcs
    (repeat' first|refine kW ?_|refine kU fun bk=>?_|refine kV fun hc=>?_|refine kZ (fun hc=>?_) fun hc=>?_|fail)
    revert bk; intro q
    refine OW_callP rfl rfl rfl (hcu _) rfl ?_
    (repeat' first|refine kW ?_|refine kU fun bk=>?_|refine kV fun hc=>?_|refine kZ (fun hc=>?_) fun hc=>?_|fail)
    refine OW_callP rfl rfl rfl (hcp _) rfl ?_
    (repeat' first|refine kW ?_|refine kU fun bk=>?_|refine kV fun hc=>?_|refine kZ (fun hc=>?_) fun hc=>?_|fail)
    refine OW_callP rfl rfl rfl (hcs _) rfl ?_
    (repeat' first|refine kW ?_|refine kU fun bk=>?_|refine kV fun hc=>?_|refine kZ (fun hc=>?_) fun hc=>?_|fail)
    exact kE
  simp only [if_pos c1] at hcp
  obtain ⟨re, hre⟩ : ∃ re, re = s.drop bg.length := ⟨_, rfl⟩
  have lre : re.length ≤ s.length := by rw [hre]; simp
  rw [← hre]
  simp only [← hre] at hcp
  have hcs := fun L => cutsuffix_n re en L (by omega) (by omega)
  by_cases c2 : endB re en = true
  rotate_left
  · simp only [if_neg c2] at hcs
    rw [if_neg (fun w => c2 w.2.1)]
    (repeat' first|refine kW ?_|refine kU fun bk=>?_|refine kV fun hc=>?_|refine kZ (fun hc=>?_) fun hc=>?_|fail)
    revert bk; intro q
    refine OW_callP rfl rfl rfl (hcu _) rfl ?_
    (repeat' first|refine kW ?_|refine kU fun bk=>?_|refine kV fun hc=>?_|refine kZ (fun hc=>?_) fun hc=>?_|fail)
    refine OW_callP rfl rfl rfl (hcp _) rfl ?_
    (repeat' first|refine kW ?_|refine kU fun bk=>?_|refine kV fun hc=>?_|refine kZ (fun hc=>?_) fun hc=>?_|fail)
    refine OW_callP rfl rfl rfl (hcs _) rfl ?_
    (repeat' first|refine kW ?_|refine kU fun bk=>?_|refine kV fun hc=>?_|refine kZ (fun hc=>?_) fun hc=>?_|fail)
    exact kE
  simp only [if_pos c2] at hcs
  obtain ⟨mi, hmi⟩ : ∃ mi, mi = re.take (re.length - en.length) := ⟨_, rfl⟩
  have lmi : mi.length ≤ s.length := by rw [hmi]; simp; omega
  rw [← hmi]
  simp only [← hmi] at hcs
  have ce := fun L => contains_n en 42 L
  have cd := fun L => contains_n d 42 L
  by_cases c3 : 42 ∈ en
  · simp only [decide_eq_true c3] at ce
    rw [if_neg (fun w => w.2.2.1 c3)]
    (repeat' first|refine kW ?_|refine kU fun bk=>?_|refine kV fun hc=>?_|refine kZ (fun hc=>?_) fun hc=>?_|fail)
    revert bk; intro q
    refine OW_callP rfl rfl rfl (hcu _) rfl ?_
    (repeat' first|refine kW ?_|refine kU fun bk=>?_|refine kV fun hc=>?_|refine kZ (fun hc=>?_) fun hc=>?_|fail)
    refine OW_callP rfl rfl rfl (hcp _) rfl ?_
    (repeat' first|refine kW ?_|refine kU fun bk=>?_|refine kV fun hc=>?_|refine kZ (fun hc=>?_) fun hc=>?_|fail)
    refine OW_callP rfl rfl rfl (hcs _) rfl ?_
    (repeat' first|refine kW ?_|refine kU fun bk=>?_|refine kV fun hc=>?_|refine kZ (fun hc=>?_) fun hc=>?_|fail)
    refine OW_callP rfl rfl rfl (ce _) rfl ?_
    (repeat' first|refine kW ?_|refine kU fun bk=>?_|refine kV fun hc=>?_|refine kZ (fun hc=>?_) fun hc=>?_|fail)
    exact kE
  simp only [decide_eq_false c3] at ce
  by_cases c4 : 42 ∈ d
  rotate_left
  · simp only [decide_eq_false c4] at cd
    rw [if_neg (fun w => c4 w.2.2.2)]
    (repeat' first|refine kW ?_|refine kU fun bk=>?_|refine kV fun hc=>?_|refine kZ (fun hc=>?_) fun hc=>?_|fail)
    revert bk; intro q
    refine OW_callP rfl rfl rfl (hcu _) rfl ?_
    (repeat' first|refine kW ?_|refine kU fun bk=>?_|refine kV fun hc=>?_|refine kZ (fun hc=>?_) fun hc=>?_|fail)
    refine OW_callP rfl rfl rfl (hcp _) rfl ?_
    (repeat' first|refine kW ?_|refine kU fun bk=>?_|refine kV fun hc=>?_|refine kZ (fun hc=>?_) fun hc=>?_|fail)
    refine OW_callP rfl rfl rfl (hcs _) rfl ?_
    (repeat' first|refine kW ?_|refine kU fun bk=>?_|refine kV fun hc=>?_|refine kZ (fun hc=>?_) fun hc=>?_|fail)
    refine OW_callP rfl rfl rfl (ce _) rfl ?_
    (repeat' first|refine kW ?_|refine kU fun bk=>?_|refine kV fun hc=>?_|refine kZ (fun hc=>?_) fun hc=>?_|fail)
    refine OW_callP rfl rfl rfl (cd _) rfl ?_
    (repeat' first|refine kW ?_|refine kU fun bk=>?_|refine kV fun hc=>?_|refine kZ (fun hc=>?_) fun hc=>?_|fail)
    exact kE
  simp only [decide_eq_true c4] at cd
  rw [if_pos ⟨c1, c2, c3, c4⟩]
  have hrp := fun C => replace_nn d mi (C :: L) (by omega) (by omega) (fun _ => by omega)
  (repeat' first|refine kW ?_|refine kU fun bk=>?_|refine kV fun hc=>?_|refine kZ (fun hc=>?_) fun hc=>?_|fail)
  revert bk; intro q
  refine OW_callP rfl rfl rfl (hcu _) rfl ?_
  (repeat' first|refine kW ?_|refine kU fun bk=>?_|refine kV fun hc=>?_|refine kZ (fun hc=>?_) fun hc=>?_|fail)
  refine OW_callP rfl rfl rfl (hcp _) rfl ?_
  (repeat' first|refine kW ?_|refine kU fun bk=>?_|refine kV fun hc=>?_|refine kZ (fun hc=>?_) fun hc=>?_|fail)
  refine OW_callP rfl rfl rfl (hcs _) rfl ?_
  (repeat' first|refine kW ?_|refine kU fun bk=>?_|refine kV fun hc=>?_|refine kZ (fun hc=>?_) fun hc=>?_|fail)
  refine OW_callP rfl rfl rfl (ce _) rfl ?_
  (repeat' first|refine kW ?_|refine kU fun bk=>?_|refine kV fun hc=>?_|refine kZ (fun hc=>?_) fun hc=>?_|fail)
  refine OW_callP rfl rfl rfl (cd _) rfl ?_
  (repeat' first|refine kW ?_|refine kU fun bk=>?_|refine kV fun hc=>?_|refine kZ (fun hc=>?_) fun hc=>?_|fail)
  refine OW_callP rfl rfl rfl (hrp _) rfl ?_
  (repeat' first|refine kW ?_|refine kU fun bk=>?_|refine kV fun hc=>?_|refine kZ (fun hc=>?_) fun hc=>?_|fail)
  exact kE
theorem nmap_n (p : Sp) (s : List UInt8) (L : List Chunk) (hb : UtAt L) (hv : pvN p.src p.dst = true) (h3 : s.length ≤ 140737488351232) : GvP Tryd.prog 10 [.agg (spV p).toArray, .string (str s)].toArray L (match mpN p s with | some t => .tuple #[.string (str t), .bool true] | none => .tuple #[.string (str []), .bool false]) := by
  obtain ⟨f, a, d⟩ := p
  simp only at hv
  refine Gv.of_body (args := [.agg (spV ⟨f, a, d⟩).toArray, .string (str s)]) Tryd.func10 rfl rfl ?_
  have hl := pv_len hv
  have htg := fun C => ntarget_n ⟨f, a, d⟩ s (C :: L) hb.there (by simp only; omega) (by simp only; omega) (by simp only; exact pv_ge hv) h3
  have hle := tgP_le a d s
  rw [mp_tg f a d s hv]
  simp only at htg
  unfold spV at htg ⊢
  generalize (tgP a d s).1 = y at *
  generalize (tgP a d s).2 = b at *
  have hvy := fun C => nvalid_n y (C :: L) hb.there (by omega)
  cases b with
  | false =>
    rw [if_neg (fun w => Bool.noConfusion w.1)]
    (repeat' first|refine kW ?_|refine kU fun bk=>?_|refine kV fun hc=>?_|refine kZ (fun hc=>?_) fun hc=>?_|fail)
    revert bk; intro q
    refine OW_callP rfl rfl rfl (htg _) rfl ?_
    (repeat' first|refine kW ?_|refine kU fun bk=>?_|refine kV fun hc=>?_|refine kZ (fun hc=>?_) fun hc=>?_|fail)
    exact kE
  | true =>
  cases hy : vlN y with
  | false =>
    simp only [hy] at hvy
    rw [if_neg (fun w => Bool.noConfusion w.2)]
    (repeat' first|refine kW ?_|refine kU fun bk=>?_|refine kV fun hc=>?_|refine kZ (fun hc=>?_) fun hc=>?_|fail)
    revert bk; intro q
    refine OW_callP rfl rfl rfl (htg _) rfl ?_
    (repeat' first|refine kW ?_|refine kU fun bk=>?_|refine kV fun hc=>?_|refine kZ (fun hc=>?_) fun hc=>?_|fail)
    refine OW_callP rfl rfl rfl (hvy _) rfl ?_
    (repeat' first|refine kW ?_|refine kU fun bk=>?_|refine kV fun hc=>?_|refine kZ (fun hc=>?_) fun hc=>?_|fail)
    exact kE
  | true =>
    simp only [hy] at hvy
    rw [if_pos ⟨rfl, rfl⟩]
    (repeat' first|refine kW ?_|refine kU fun bk=>?_|refine kV fun hc=>?_|refine kZ (fun hc=>?_) fun hc=>?_|fail)
    revert bk; intro q
    refine OW_callP rfl rfl rfl (htg _) rfl ?_
    (repeat' first|refine kW ?_|refine kU fun bk=>?_|refine kV fun hc=>?_|refine kZ (fun hc=>?_) fun hc=>?_|fail)
    refine OW_callP rfl rfl rfl (hvy _) rfl ?_
    (repeat' first|refine kW ?_|refine kU fun bk=>?_|refine kV fun hc=>?_|refine kZ (fun hc=>?_) fun hc=>?_|fail)
    exact kE
end
end Go.Proofs.YtehpnblbkldojaaDoor
namespace Go.Proofs.YtehpnblbkldojaaDoor
open Go Go.Vx Go.Nm Go.Ob Go.Lib
set_option linter.all false
set_option maxRecDepth 4000
section
variable [W0]
set_option maxHeartbeats 8000000 in
theorem rmap_n (p : Sp) (s : List UInt8) (L : List Chunk) (h1 : p.src.length ≤ 140737488355328) (h2 : p.dst.length ≤ 140737488355328) (h3 : s.length ≤ 140737488355328) : GvP Tryd.prog 17 [.agg (spV p).toArray, .string (str s)].toArray L (match mpN p s with | some t => .tuple #[.string (str t), .bool true] | none => .tuple #[.string (str []), .bool false]) := by
  obtain ⟨f, a, b⟩ := p
  simp only at h1 h2
  have za : (str a).size = a.length := str_size a
  have zb : (str b).size = b.length := str_size b
  have zs : (str s).size = s.length := str_size s
  refine Gv.of_body (args := [.agg (spV ⟨f, a, b⟩).toArray, .string (str s)]) Tryd.func17 rfl rfl ?_
  unfold spV
  have hsa := fun L => rstar_n a L (by omega)
  have hsb := fun L => rstar_n b L (by omega)
  have hvb := fun L => rvalid_n b L (by omega)
  by_cases g1 : stN a < 0
  · obtain ⟨j, hj⟩ : ∃ j, j = stN a := ⟨_, rfl⟩
    have hm : mpN ⟨f, a, b⟩ s = if s = a ∧ vlN b = true then some b else none := by unfold mpN; rw [if_pos g1]
    rw [hm]
    rw [← hj] at hsa
    have gj : j < 0 := by omega
    by_cases e1 : s = a
    · have hss : str s = str a := by rw [e1]
      cases e2 : vlN b with
      | true =>
        rw [if_pos ⟨e1, rfl⟩]
        rw [e2] at hvb
        (repeat' first|refine kW ?_|refine kU fun bk=>?_|refine kV fun hc=>?_|refine kZ (fun hc=>?_) fun hc=>?_|fail)
        revert bk; intro q
        refine OW_callP rfl rfl rfl (hsa _) rfl ?_
        (repeat' first|refine kW ?_|refine kU fun bk=>?_|refine kV fun hc=>?_|refine kZ (fun hc=>?_) fun hc=>?_|fail)
        any_goals contradiction
        refine OW_callP rfl rfl rfl (hvb _) rfl ?_
        (repeat' first|refine kW ?_|refine kU fun bk=>?_|refine kV fun hc=>?_|refine kZ (fun hc=>?_) fun hc=>?_|fail)
        exact kE
      | false =>
        rw [if_neg (fun u => Bool.noConfusion u.2)]
        rw [e2] at hvb
        (repeat' first|refine kW ?_|refine kU fun bk=>?_|refine kV fun hc=>?_|refine kZ (fun hc=>?_) fun hc=>?_|fail)
        revert bk; intro q
        refine OW_callP rfl rfl rfl (hsa _) rfl ?_
        (repeat' first|refine kW ?_|refine kU fun bk=>?_|refine kV fun hc=>?_|refine kZ (fun hc=>?_) fun hc=>?_|fail)
        any_goals contradiction
        refine OW_callP rfl rfl rfl (hvb _) rfl ?_
        (repeat' first|refine kW ?_|refine kU fun bk=>?_|refine kV fun hc=>?_|refine kZ (fun hc=>?_) fun hc=>?_|fail)
        exact kE
    · have hss : str s ≠ str a := fun h => e1 (of_decide_eq_true (by rw [← dec_str]; exact decide_eq_true h))
      rw [if_neg (fun u => e1 u.1)]
      (repeat' first|refine kW ?_|refine kU fun bk=>?_|refine kV fun hc=>?_|refine kZ (fun hc=>?_) fun hc=>?_|fail)
      revert bk; intro q
      refine OW_callP rfl rfl rfl (hsa _) rfl ?_
      (repeat' first|refine kW ?_|refine kU fun bk=>?_|refine kV fun hc=>?_|refine kZ (fun hc=>?_) fun hc=>?_|fail)
      any_goals contradiction
      exact kE
  obtain ⟨i, hi⟩ : ∃ i : Nat, stN a = (i : Int) := ⟨(stN a).toNat, by omega⟩
  have hlt := stN_lt (s := a) (by omega)
  obtain ⟨pr, hpr⟩ : ∃ pr, pr = a.take i := ⟨_, rfl⟩
  obtain ⟨po, hpo⟩ : ∃ po, po = a.drop (i + 1) := ⟨_, rfl⟩
  have hm : mpN ⟨f, a, b⟩ s = if s.length < pr.length + po.length ∨ s.take pr.length ≠ pr ∨ endB s po = false then none else if stN b < 0 then none else if vlN (b.take (stN b).toNat ++ (s.drop pr.length).take (s.length - po.length - pr.length) ++ b.drop ((stN b).toNat + 1)) = true then some (b.take (stN b).toNat ++ (s.drop pr.length).take (s.length - po.length - pr.length) ++ b.drop ((stN b).toNat + 1)) else none := by
    unfold mpN
    rw [if_neg g1, hpr, hpo, hi]
    rfl
  rw [hm]
  clear hm
  rw [hi] at hsa hlt
  have hil : i < a.length := by omega
  have lpr : pr.length ≤ a.length := by rw [hpr]; simp; omega
  have lpo : po.length ≤ a.length := by rw [hpo]; simp
  have zpr : (str pr).size = pr.length := str_size pr
  have zpo : (str po).size = po.length := str_size po
  have he := fun L => rends_n s po L (by omega) (by omega)
  (repeat' first|refine kW ?_|refine kU fun bk=>?_|refine kV fun hc=>?_|refine kZ (fun hc=>?_) fun hc=>?_|fail)
  revert bk; intro q
  refine OW_callP rfl rfl rfl (hsa _) rfl ?_
  (repeat' first|refine kW ?_|refine kU fun bk=>?_|refine kV fun hc=>?_|refine kZ (fun hc=>?_) fun hc=>?_|fail)
  refine OW_EV (EV_cutL a 0 i rfl rfl rfl (by omega) (by omega)) rfl ?_
  rw [List.drop_zero, Nat.sub_zero, ← hpr]
  (repeat' first|refine kW ?_|refine kU fun bk=>?_|refine kV fun hc=>?_|refine kZ (fun hc=>?_) fun hc=>?_|fail)
  refine OW_EV (EV_cutL a (i + 1) a.length rfl (bnd_int rfl (by omega)) rfl (by omega) (by omega)) rfl ?_
  rw [List.take_of_length_le (l := a.drop (i + 1)) (by simp), ← hpo]
  by_cases c1 : s.length < pr.length + po.length
  · rw [if_pos (.inl c1)]
    (repeat' first|refine kW ?_|refine kU fun bk=>?_|refine kV fun hc=>?_|refine kZ (fun hc=>?_) fun hc=>?_|fail)
    exact kE
  by_cases c2 : s.take pr.length ≠ pr
  · rw [if_pos (.inr (.inl c2))]
    (repeat' first|refine kW ?_|refine kU fun bk=>?_|refine kV fun hc=>?_|refine kZ (fun hc=>?_) fun hc=>?_|fail)
    refine OW_EV (EV_cutL s 0 pr.length rfl rfl (bnd_int rfl (by omega)) (by omega) (by omega)) rfl ?_
    rw [List.drop_zero, Nat.sub_zero]
    refine WL_on rfl rfl ?_
    refine OW_EV (EV_move rfl) rfl ?_
    refine WL_on rfl rfl ?_
    refine OW_EV (EV_neT (s.take pr.length) pr c2 rfl rfl) rfl ?_
    (repeat' first|refine kW ?_|refine kU fun bk=>?_|refine kV fun hc=>?_|refine kZ (fun hc=>?_) fun hc=>?_|fail)
    exact kE
  have c2' : s.take pr.length = pr := Classical.not_not.1 c2
  cases c3 : endB s po with
  | false =>
    rw [c3] at he
    rw [if_pos (.inr (.inr rfl))]
    (repeat' first|refine kW ?_|refine kU fun bk=>?_|refine kV fun hc=>?_|refine kZ (fun hc=>?_) fun hc=>?_|fail)
    refine OW_EV (EV_cutL s 0 pr.length rfl rfl (bnd_int rfl (by omega)) (by omega) (by omega)) rfl ?_
    rw [List.drop_zero, Nat.sub_zero]
    refine WL_on rfl rfl ?_
    refine OW_EV (EV_move rfl) rfl ?_
    refine WL_on rfl rfl ?_
    refine OW_EV (EV_neF (s.take pr.length) pr c2' rfl rfl) rfl ?_
    (repeat' first|refine kW ?_|refine kU fun bk=>?_|refine kV fun hc=>?_|refine kZ (fun hc=>?_) fun hc=>?_|fail)
    refine OW_callP rfl rfl rfl (he _) rfl ?_
    (repeat' first|refine kW ?_|refine kU fun bk=>?_|refine kV fun hc=>?_|refine kZ (fun hc=>?_) fun hc=>?_|fail)
    exact kE
  | true =>
  rw [c3] at he
  rw [if_neg (fun u => by rcases u with u | u | u; exact c1 u; exact c2 u; exact Bool.noConfusion u)]
  (repeat' first|refine kW ?_|refine kU fun bk=>?_|refine kV fun hc=>?_|refine kZ (fun hc=>?_) fun hc=>?_|fail)
  refine OW_EV (EV_cutL s 0 pr.length rfl rfl (bnd_int rfl (by omega)) (by omega) (by omega)) rfl ?_
  rw [List.drop_zero, Nat.sub_zero]
  refine WL_on rfl rfl ?_
  refine OW_EV (EV_move rfl) rfl ?_
  refine WL_on rfl rfl ?_
  refine OW_EV (EV_neF (s.take pr.length) pr c2' rfl rfl) rfl ?_
  (repeat' first|refine kW ?_|refine kU fun bk=>?_|refine kV fun hc=>?_|refine kZ (fun hc=>?_) fun hc=>?_|fail)
  refine OW_callP rfl rfl rfl (he _) rfl ?_
  (repeat' first|refine kW ?_|refine kU fun bk=>?_|refine kV fun hc=>?_|refine kZ (fun hc=>?_) fun hc=>?_|fail)
  refine OW_callP rfl rfl rfl (hsb _) rfl ?_
  by_cases g2 : stN b < 0
  · rw [if_pos g2]
    obtain ⟨j, hj⟩ : ∃ j, j = stN b := ⟨_, rfl⟩
    rw [← hj] at g2 ⊢
    (repeat' first|refine kW ?_|refine kU fun bk=>?_|refine kV fun hc=>?_|refine kZ (fun hc=>?_) fun hc=>?_|fail)
    exact kE
  rw [if_neg g2]
  obtain ⟨k, hk⟩ : ∃ k : Nat, stN b = (k : Int) := ⟨(stN b).toNat, by omega⟩
  have hlk := stN_lt (s := b) (by omega)
  rw [hk] at hlk ⊢
  have hkl : k < b.length := by omega
  rw [show ((k : Nat) : Int).toNat = k from rfl]
  obtain ⟨mi, hmi⟩ : ∃ mi, mi = (s.drop pr.length).take (s.length - po.length - pr.length) := ⟨_, rfl⟩
  rw [← hmi]
  have lmi : mi.length ≤ s.length := by rw [hmi]; simp; omega
  obtain ⟨d, hd⟩ : ∃ d, d = b.take k ++ mi ++ b.drop (k + 1) := ⟨_, rfl⟩
  rw [← hd]
  have ld : d.length ≤ b.length + s.length := by rw [hd]; simp only [List.length_append, List.length_take, List.length_drop]; omega
  have hvd := fun L => rvalid_n d L (by omega)
  (repeat' first|refine kW ?_|refine kU fun bk=>?_|refine kV fun hc=>?_|refine kZ (fun hc=>?_) fun hc=>?_|fail)
  refine WC_drawAll [] mixed ?_
  (refine WR_t 0 ?_; refine WR_t 1 ?_; refine WR_t 2 ?_)
  (refine WR_take 3 rfl rfl (by kernel_rfl) iP iC (EV_cutL b 0 k rfl rfl rfl (by omega) (by omega)) (by rfl) ?_)
  rw [List.drop_zero, Nat.sub_zero]
  (refine WR_t 4 ?_; refine WR_t 5 ?_; refine WR_t 6 ?_; refine WR_t 7 ?_; refine WR_t 8 ?_; refine WR_t 9 ?_; refine WR_t 10 ?_; refine WR_t 11 ?_)
  (refine WR_take 12 rfl rfl (by kernel_rfl) iP iC (EV_cutL s pr.length (s.length - po.length) rfl (bnd_int rfl (by omega)) (bnd_int rfl (by omega)) (by omega) (by omega)) (by rfl) ?_)
  rw [← hmi]
  (refine WR_take 13 rfl rfl (by kernel_rfl) iP iC (EV_catL (b.take k) mi rfl rfl (by simp only [List.length_take]; omega)) (by rfl) ?_)
  (refine WR_t 14 ?_; refine WR_t 15 ?_; refine WR_t 16 ?_; refine WR_t 17 ?_)
  (refine WR_take 18 rfl rfl (by kernel_rfl) iP iC (EV_cutL b (k + 1) b.length rfl (bnd_int rfl (by omega)) rfl (by omega) (by omega)) (by rfl) ?_)
  rw [List.take_of_length_le (l := b.drop (k + 1)) (by simp)]
  (refine WR_take 19 rfl rfl (by kernel_rfl) iP iC (EV_catL (b.take k ++ mi) (b.drop (k + 1)) rfl rfl (by simp only [List.length_append, List.length_take, List.length_drop]; omega)) (by rfl) ?_)
  rw [← hd]
  (refine WR_t 20 ?_)
  (refine WR_done (by kernel_rfl) ?_)
  (repeat' first|refine kW ?_|refine kU fun bk=>?_|refine kV fun hc=>?_|refine kZ (fun hc=>?_) fun hc=>?_|fail)
  refine OW_callP rfl rfl rfl (hvd _) rfl ?_
  cases hv : vlN d with
  | false =>
    rw [if_neg (fun u => Bool.noConfusion u)]
    (repeat' first|refine kW ?_|refine kU fun bk=>?_|refine kV fun hc=>?_|refine kZ (fun hc=>?_) fun hc=>?_|fail)
    exact kE
  | true =>
    rw [if_pos rfl]
    (repeat' first|refine kW ?_|refine kU fun bk=>?_|refine kV fun hc=>?_|refine kZ (fun hc=>?_) fun hc=>?_|fail)
    exact kE
end
end Go.Proofs.YtehpnblbkldojaaDoor
namespace Go.Vx
open Go
set_option linter.all false
section
variable [W0]
variable {P : Program} {n : Nat} {M : List (Nat × Value)} {L : List Chunk} {d : Nat} {ty : TypeId} {ps : String} {af : Array Edge} {g : Option (Nat × Bool)} {x y : Operand}
theorem EV_sameB (b : Bool) {t u : TypeId} [hb : BB P t] (hx : ev M x = some (.bool b)) (hy : ev M y = some (.bool b)) : EV P n ⟨some d, .binOp .eql t x y u, ty, ps, af, g⟩ M L d (.bool true) := by
  have := EV_boolEq (P := P) (n := n) (M := M) (L := L) (d := d) (ty := ty) (ps := ps) (af := af) (g := g) (t := t) (u := u) hx hy
  simpa using this
end
end Go.Vx
namespace Go.Proofs.YtehpnblbkldojaaDoor
open Go Go.Vx Go.Nm Go.Ob Go.Lib
set_option linter.all false
set_option maxRecDepth 4000
section
variable [W0]
theorem str_l14 (a : List UInt8) : (str a).toList = a := by rw [ByteArray.toList_eq]; rfl
theorem run_spR (x y : Sp) (w : World) : (Op.equalIn 10000 35 (.agg (spV x).toArray) (.agg (spV y).toArray)).run Tryd.prog w = .ok (decide (x = y)) w := by
  obtain ⟨k1, s1, d1⟩ := x
  obtain ⟨k2, s2, d2⟩ := y
  have e : (k1 == k2 && (s1 == s2 && d1 == d2)) = decide (Sp.mk k1 s1 d1 = Sp.mk k2 s2 d2) := by
    rw [Bool.eq_iff_iff]; simp
  have p0 : ∀ (k : Bool) (s d : List UInt8), (part 4 #[.bool k, .string (str s), .string (str d)] 0).run Tryd.prog w = .ok (.bool k) w := fun k s d => run_part_plain w (by kernel_rfl) rfl
  have p1 : ∀ (k : Bool) (s d : List UInt8), (part 9 #[.bool k, .string (str s), .string (str d)] 1).run Tryd.prog w = .ok (.string (str s)) w := fun k s d => run_part_plain w (by kernel_rfl) rfl
  have p2 : ∀ (k : Bool) (s d : List UInt8), (part 9 #[.bool k, .string (str s), .string (str d)] 2).run Tryd.prog w = .ok (.string (str d)) w := fun k s d => run_part_plain w (by kernel_rfl) rfl
  have q0 : ∀ a b : Bool, (Op.equalIn 9999 4 (.bool a) (.bool b)).run Tryd.prog w = .ok (a == b) w := fun a b => run_equalIn_bool w 9998 _ a b Tryd.underlying4
  have q1 : ∀ a b : List UInt8, (Op.equalIn 9999 9 (.string (str a)) (.string (str b))).run Tryd.prog w = .ok (a == b) w := fun a b => by
    rw [run_equalIn_string w 9998 _ _ _ Tryd.underlying9, str_l14, str_l14]
  show (Op.equalIn 10000 35 (.agg #[.bool k1, .string (str s1), .string (str d1)]) (.agg #[.bool k2, .string (str s2), .string (str d2)])).run Tryd.prog w = _
  rw [← e, show (10000 : Nat) = 9999 + 1 from rfl, run_equalIn_struct w 9999 _ _ _ (by kernel_rfl) (by kernel_rfl)]
  simp only [Program.fieldsOf, Tryd.underlying35, Op.eqFields]
  cases h1 : k1 == k2 <;> cases h2 : s1 == s2 <;> cases h3 : d1 == d2 <;> simp [p0, p1, p2, q0, q1, h1, h2, h3]
theorem EV_spR {n d : Nat} {M : List (Nat × Value)} {L : List Chunk} {x y : Operand} {ty u : TypeId} {ps : String} {af : Array Edge} {g : Option (Nat × Bool)} (a b : Sp) (hx : ev M x = some (.agg (spV a).toArray)) (hy : ev M y = some (.agg (spV b).toArray)) :
    EV Tryd.prog n ⟨some d, .binOp .neq 35 x y u, ty, ps, af, g⟩ M L d (.bool (!decide (a = b))) :=
  ⟨rfl, fun c w ha _ => by
    have hg : ∀ w : World, (eqGuard .neq 35 x y (.agg (spV a).toArray) (.agg (spV b).toArray)).run Tryd.prog w = .ok () w := fun w => run_eqGuard_agg w .neq _ x y _ _ (by kernel_rfl)
    simp [execOp, ha.eval hx, ha.eval hy, hg, run_neq_struct, run_spR]⟩
theorem to14_n (p : Sp) (L : List Chunk) : GvP Tryd.prog 16 [.agg (spV p).toArray].toArray L (.agg (spV p).toArray) := by
  obtain ⟨f, a, b⟩ := p
  refine Gv.of_body (args := [.agg (spV ⟨f, a, b⟩).toArray]) Tryd.func16 rfl rfl ?_
  unfold spV
  (repeat' first|refine kW ?_|refine kU fun bk=>?_|refine kV fun hc=>?_|refine kZ (fun hc=>?_) fun hc=>?_|fail)
  first
    | (refine WQ_retC (vs := [.agg (spV ⟨f, a, b⟩).toArray]) rfl (.agg ⟨by kernel_rfl, by kernel_rfl⟩ rfl (RdAt.cl' (vs := spV ⟨f, a, b⟩) (by repeat (first | assumption | exact Fnd.here | refine Fnd.there ?_)) rfl) rfl .nil) ?_
       exact ⟨_, fun w h => h.drop.drop, rfl, rfl⟩)
    | (refine WQ_endC (vs := [.agg (spV ⟨f, a, b⟩).toArray]) rfl (.agg ⟨by kernel_rfl, by kernel_rfl⟩ rfl (RdAt.cl' (vs := spV ⟨f, a, b⟩) (by repeat (first | assumption | exact Fnd.here | refine Fnd.there ?_)) rfl) rfl .nil) ?_
       exact ⟨_, fun w h => h.drop.drop, rfl, rfl⟩)
def awS : List UInt8 := [43, 114, 101, 102, 115, 47, 104, 101, 97, 100, 115, 47, 42, 58, 114, 101, 102, 115, 47, 114, 101, 109, 111, 116, 101, 115, 47, 111, 47, 42]
def awP : Sp := ⟨true, [114, 101, 102, 115, 47, 104, 101, 97, 100, 115, 47, 42], [114, 101, 102, 115, 47, 114, 101, 109, 111, 116, 101, 115, 47, 111, 47, 42]⟩
def awN : List UInt8 := [114, 101, 102, 115, 47, 104, 101, 97, 100, 115, 47, 120, 47, 121]
def awT : List UInt8 := [114, 101, 102, 115, 47, 114, 101, 109, 111, 116, 101, 115, 47, 111, 47, 120, 47, 121]
def awA : List UInt8 := [114, 101, 102, 115, 47, 104, 101, 97, 100, 115, 47, 97]
def awB : List UInt8 := [114, 101, 102, 115, 47, 104, 101, 97, 100, 115, 47, 46, 97]
def awU : List UInt8 := [114, 101, 102, 115, 47, 97]
def awV : List UInt8 := [114, 101, 102, 115, 47, 97, 47, 98]
theorem aw_1 : psN awS = some awP := by kernel_rfl
theorem aw_2 : mpN awP awN = some awT := by kernel_rfl
theorem aw_3 : vlN awA = true := by kernel_rfl
theorem aw_4 : vlN awB = false := by kernel_rfl
theorem aw_5 : undB awU awV = true := by kernel_rfl
theorem aw_6 : pvN awP.src awP.dst = true := by kernel_rfl
set_option maxHeartbeats 4000000 in
theorem awake14_n (L : List Chunk) (hb : UtAt L) : GvP Tryd.prog 9 [].toArray L (.bool true) := by
  have h1 := nparse_n awS L hb (by decide)
  simp only [aw_1, spV] at h1
  have h2 := fun L' h => nmap_n awP awN L' h aw_6 (by decide)
  simp only [aw_2, spV] at h2
  have h3 := fun L' h => nvalid_n awA L' h (by decide)
  simp only [aw_3] at h3
  have h4 := fun L' h => nvalid_n awB L' h (by decide)
  simp only [aw_4] at h4
  have h5 := fun L' => nunder_n awU awV L' (by decide) (by decide)
  simp only [aw_5] at h5
  refine Gv.of_body (args := []) Tryd.func9 rfl rfl ?_
  (repeat' first|refine kW ?_|refine kU fun bk=>?_|refine kV fun hc=>?_|refine kZ (fun hc=>?_) fun hc=>?_|fail)
  refine OW_callP rfl rfl rfl h1 rfl ?_
  (repeat' first|refine kW ?_|refine kU fun bk=>?_|refine kV fun hc=>?_|refine kZ (fun hc=>?_) fun hc=>?_|fail)
  revert bk; intro q
  refine OW_callP rfl rfl rfl (h2 _ (by repeat (first | exact hb | apply UtAt.there))) rfl ?_
  (repeat' first|refine kW ?_|refine kU fun bk=>?_|refine kV fun hc=>?_|refine kZ (fun hc=>?_) fun hc=>?_|fail)
  refine OW_callP rfl rfl rfl (h3 _ (by repeat (first | exact hb | apply UtAt.there))) rfl ?_
  (repeat' first|refine kW ?_|refine kU fun bk=>?_|refine kV fun hc=>?_|refine kZ (fun hc=>?_) fun hc=>?_|fail)
  refine OW_callP rfl rfl rfl (h4 _ (by repeat (first | exact hb | apply UtAt.there))) rfl ?_
  (repeat' first|refine kW ?_|refine kU fun bk=>?_|refine kV fun hc=>?_|refine kZ (fun hc=>?_) fun hc=>?_|fail)
  refine OW_callP rfl rfl rfl (h5 _) rfl ?_
  (repeat' first|refine kW ?_|refine kU fun bk=>?_|refine kV fun hc=>?_|refine kZ (fun hc=>?_) fun hc=>?_|fail)
  exact kE
end
end Go.Proofs.YtehpnblbkldojaaDoor
namespace Go.Proofs.YtehpnblbkldojaaDoor
open Go Go.Vx Go.Nm Go.Ob Go.Lib
set_option linter.all false
set_option maxRecDepth 4000
section
variable [W0]
omit [W0] in
theorem ps_pv {s : List UInt8} {p : Sp} (h : psN s = some p) : pvN p.src p.dst = true := (ps_back h).2
set_option maxHeartbeats 8000000 in
theorem namespecs_n (s t : List UInt8) (L : List Chunk) (hb : UtAt L) (hs : s.length ≤ 140737488351232) (ht : t.length ≤ 140737488351232) : GvP Tryd.prog 5 [.string (str s), .string (str t)].toArray L (.bool true) := by
  have h1 := nparse_n s L hb hs
  have h2 := fun L' => rparse_n s L' (by omega)
  have hto := fun p L' => to14_n p L'
  have haw := fun L' h => awake14_n L' h
  refine Gv.of_body (args := [.string (str s), .string (str t)]) Tryd.func5 rfl rfl ?_
  cases hp : psN s with
  | none =>
    simp only [hp, spV] at h1 h2
    have hto0 := hto ⟨false, [], []⟩
    simp only [spV] at hto0
    (repeat' first|refine kW ?_|refine kU fun bk=>?_|refine kV fun hc=>?_|refine kZ (fun hc=>?_) fun hc=>?_|fail)
    refine OW_callP rfl rfl rfl h1 rfl ?_
    (repeat' first|refine kW ?_|refine kU fun bk=>?_|refine kV fun hc=>?_|refine kZ (fun hc=>?_) fun hc=>?_|fail)
    revert bk; intro q1
    refine OW_callP rfl rfl rfl (h2 _) rfl ?_
    (repeat' first|refine kW ?_|refine kU fun bk=>?_|refine kV fun hc=>?_|refine kZ (fun hc=>?_) fun hc=>?_|fail)
    revert bk; intro q2
    refine WC_drawAll [] mixed ?_
    (refine WR_t 0 ?_; refine WR_t 2 ?_)
    (refine WR_one 1 (by kernel_rfl) rfl rfl ?_)
    refine OW_callP rfl rfl rfl (hto0 _) rfl ?_
    refine ⟨iC, ?_⟩
    (refine WR_take 3 rfl rfl (by kernel_rfl) iP iC (EV_spR ⟨false, [], []⟩ ⟨false, [], []⟩ rfl rfl) (by rfl) ?_)
    rw [show (!decide ((⟨false, [], []⟩ : Sp) = ⟨false, [], []⟩)) = false from rfl]
    (refine WR_t 4 ?_)
    (refine WR_u 5 ?_; refine WR_u 6 ?_; refine WR_u 7 ?_)
    (refine WR_t 8 ?_)
    (refine WR_done (by kernel_rfl) ?_)
    (repeat' first|refine kW ?_|refine kU fun bk=>?_|refine kV fun hc=>?_|refine kZ (fun hc=>?_) fun hc=>?_|fail)
    refine OW_callP rfl rfl rfl (haw _ (by repeat (first | exact hb | apply UtAt.there))) rfl ?_
    (repeat' first|refine kW ?_|refine kU fun bk=>?_|refine kV fun hc=>?_|refine kZ (fun hc=>?_) fun hc=>?_|fail)
    exact kE
  | some p =>
    have hv := ps_pv hp
    have hl := pv_len hv
    simp only [hp, spV] at h1 h2
    have hto0 := hto p
    simp only [spV] at hto0
    obtain ⟨y, b, hm1, hm2⟩ : ∃ y b, (∀ L', UtAt L' → GvP Tryd.prog 10 [.agg (spV p).toArray, .string (str t)].toArray L' (.tuple #[.string (str y), .bool b])) ∧ ∀ L', GvP Tryd.prog 17 [.agg (spV p).toArray, .string (str t)].toArray L' (.tuple #[.string (str y), .bool b]) := by
      have k1 := fun L' h => nmap_n p t L' h hv ht
      have k2 := fun L' => rmap_n p t L' (by omega) (by omega) (by omega)
      cases hm : mpN p t with
      | none =>
        simp only [hm] at k1 k2
        exact ⟨[], false, k1, k2⟩
      | some z =>
        simp only [hm] at k1 k2
        exact ⟨z, true, k1, k2⟩
    simp only [spV] at hm1 hm2
    have ht1 := fun L' => ntext_n p L' (by omega) (by omega)
    have ht2 := fun L' => rsptext_n p L' (by omega) (by omega)
    simp only [spV] at ht1 ht2
    (repeat' first|refine kW ?_|refine kU fun bk=>?_|refine kV fun hc=>?_|refine kZ (fun hc=>?_) fun hc=>?_|fail)
    refine OW_callP rfl rfl rfl h1 rfl ?_
    (repeat' first|refine kW ?_|refine kU fun bk=>?_|refine kV fun hc=>?_|refine kZ (fun hc=>?_) fun hc=>?_|fail)
    revert bk; intro q1
    refine OW_callP rfl rfl rfl (h2 _) rfl ?_
    (repeat' first|refine kW ?_|refine kU fun bk=>?_|refine kV fun hc=>?_|refine kZ (fun hc=>?_) fun hc=>?_|fail)
    revert bk; intro q2
    refine WC_drawAll [] mixed ?_
    (refine WR_t 0 ?_; refine WR_t 2 ?_)
    (refine WR_one 1 (by kernel_rfl) rfl rfl ?_)
    refine OW_callP rfl rfl rfl (hto0 _) rfl ?_
    refine ⟨iC, ?_⟩
    (refine WR_take 3 rfl rfl (by kernel_rfl) iP iC (EV_spR p p rfl rfl) (by rfl) ?_)
    rw [show (!decide (p = p)) = false from by simp]
    (refine WR_t 4 ?_)
    (refine WR_u 5 ?_; refine WR_u 6 ?_; refine WR_u 7 ?_)
    (refine WR_t 8 ?_)
    (refine WR_done (by kernel_rfl) ?_)
    (repeat' first|refine kW ?_|refine kU fun bk=>?_|refine kV fun hc=>?_|refine kZ (fun hc=>?_) fun hc=>?_|fail)
    refine OW_callP rfl rfl rfl (hm1 _ (by repeat (first | exact hb | apply UtAt.there))) rfl ?_
    (repeat' first|refine kW ?_|refine kU fun bk=>?_|refine kV fun hc=>?_|refine kZ (fun hc=>?_) fun hc=>?_|fail)
    refine OW_callP rfl rfl rfl (hm2 _) rfl ?_
    (repeat' first|refine kW ?_|refine kU fun bk=>?_|refine kV fun hc=>?_|refine kZ (fun hc=>?_) fun hc=>?_|fail)
    refine WC_drawAll [] mixed ?_
    (refine WR_t 0 ?_; refine WR_t 1 ?_)
    (refine WR_take 2 rfl rfl (by kernel_rfl) iP iC (EV_eqT y y rfl rfl rfl) (by rfl) ?_)
    (refine WR_t 3 ?_)
    (refine WR_u 4 ?_; refine WR_u 5 ?_)
    (refine WR_takeOn 6 rfl rfl rfl (by kernel_rfl) iP iC (EV_sameB b rfl rfl) (by rfl) ?_)
    (refine WR_t 7 ?_; refine WR_t 8 ?_)
    (refine WR_u 9 ?_; refine WR_u 11 ?_)
    (refine WR_oneOn 10 (by kernel_rfl) rfl rfl rfl ?_)
    refine OW_callP rfl rfl rfl (ht1 _) rfl ?_
    refine ⟨iC, ?_⟩
    (refine WR_oneOn 12 (by kernel_rfl) rfl rfl rfl ?_)
    refine OW_callP rfl rfl rfl (ht2 _) rfl ?_
    refine ⟨iC, ?_⟩
    (refine WR_takeOn 13 rfl rfl rfl (by kernel_rfl) iP iC (EV_eqT (txN p) (txN p) rfl rfl rfl) (by rfl) ?_)
    (refine WR_t 14 ?_; refine WR_t 15 ?_)
    (refine WR_oneOn 16 (by kernel_rfl) rfl rfl rfl ?_)
    refine OW_callP rfl rfl rfl (haw _ (by repeat (first | exact hb | apply UtAt.there))) rfl ?_
    refine ⟨iC, ?_⟩
    (refine WR_t 17 ?_; refine WR_t 18 ?_)
    (refine WR_done (by kernel_rfl) ?_)
    (repeat' first|refine kW ?_|refine kU fun bk=>?_|refine kV fun hc=>?_|refine kZ (fun hc=>?_) fun hc=>?_|fail)
    exact kE
end
end Go.Proofs.YtehpnblbkldojaaDoor
namespace Go.Proofs.YtehpnblbkldojaaDoor
open Go Go.Vx Go.ChangeShapes Go.WideShapes Go.ChangeAt Go.RowKit Go.Lib
set_option maxRecDepth 100000
set_option linter.all false
def laid14 : List (String × DataW Unit) := [("unicode/utf8.acceptRanges", Rows.laid_unicode_utf8_acceptRanges), ("unicode/utf8.first", Rows.laid_unicode_utf8_first)]
def nums14 (k : IntKind) : List (DataW Unit) → List Value
  | [] => []
  | .lit (.int _ z) :: r => .int k z :: nums14 k r
  | .agg [.lit (.int _ z), .lit (.int _ y)] :: r => .int k z :: .int k y :: nums14 k r
  | _ :: r => nums14 k r
def parts14 : DataW Unit → List (DataW Unit)
  | .agg l => l
  | _ => []
def tabAc : List Value := nums14 .u8 (parts14 Rows.laid_unicode_utf8_acceptRanges)
def tabFi : List Value := nums14 .u8 (parts14 Rows.laid_unicode_utf8_first)
theorem first_eq : Rows.laid_unicode_utf8_first = firstData := by kernel_rfl
theorem accept_eq : Rows.laid_unicode_utf8_acceptRanges (H := Unit) = acceptData := by kernel_rfl
theorem met_plain {W : World} (h : laidMetH Tryd.prog laid14 W) : laidMet Tryd.prog laid14 W := by
  have e : laid14.filter (fun x => x.2.handleName?.isSome) = [] := by kernel_rfl
  unfold laidMetH at h
  rw [e] at h
  exact h
theorem u8extra : U8Extra Tryd.prog sh_v_ren := ⟨by kernel_rfl, by kernel_rfl, by kernel_rfl, by kernel_rfl, by kernel_rfl, by kernel_rfl, by kernel_rfl⟩
theorem ut_met {W : World} (hL : laidMetH Tryd.prog laid14 W) [W0] : UtAt [blks W] := by
  obtain ⟨ps, hv, _⟩ := met_plain hL
  have r3 := LaidVars_reads hv "unicode/utf8.first" Rows.laid_unicode_utf8_first (by simp [laid14])
  have r4 := LaidVars_reads hv "unicode/utf8.acceptRanges" Rows.laid_unicode_utf8_acceptRanges (by simp [laid14])
  rw [first_eq] at r3
  rw [accept_eq] at r4
  have hut := utf8Tabs_of_readsT (U8Types.of196 sh_v) u8extra r3 r4
  have hkeep : ∀ w, Vx.Holds w [blks W] → ∀ k, k < W.heap.size → w.heap[k]? = W.heap[k]? := fun w hw k hk => by
    have hm : W.heap[k]? = some W.heap[k] := by simp [hk]
    rw [hm]
    exact hw.2.1 (k, W.heap[k]) (by simpa using blks_mem.2 hm)
  have hlt : ∀ {a : Addr} {v : Value}, W.cell? a = some v → a.block < W.heap.size := fun {a} {v} h => by
    rcases Nat.lt_or_ge a.block W.heap.size with h' | h'
    · exact h'
    · have : W.heap[a.block]? = none := by simp; omega
      simp [World.cell?, this] at h
  have hcell : ∀ w, Vx.Holds w [blks W] → ∀ {a : Addr} {v : Value}, W.cell? a = some v → w.cell? a = some v := fun w hw {a} {v} h => by
    have hb := hkeep w hw a.block (hlt h)
    rw [← h]
    unfold World.cell?
    rw [hb]
  exact ⟨fun w hw => ⟨fun c hc => hcell w hw (hut.1 c hc), fun i hi => ⟨hcell w hw (hut.2 i hi).1, hcell w hw (hut.2 i hi).2⟩⟩⟩
theorem reach_str14 {H : Type} {ts : List TypeId} {ds : List (DataW H)} (h : (DataW.weightsEach Tryd.prog ts ds).all (· ≤ reachBytes) = true) {j : Nat} {t : TypeId} {s : ByteArray} (ht : ts[j]? = some t) (hd : ds[j]? = some (.lit (.string s.data.toList))) : s.data.toList.length ≤ 140737488351232 := by
  have := sized_string h ht hd
  have h3 : reachBytes = 140737488351232 := rfl
  omega
end Go.Proofs.YtehpnblbkldojaaDoor
namespace Go.Proofs.YtehpnblbkldojaaDoor
open Go Go.Vx Go.Ob Go.ChangeShapes Go.WideShapes Go.ChangeAt Go.RowKit
set_option linter.all false
set_option maxRecDepth 4000
theorem top_row (H : Type) (enc : TypeId × Value → H) (W : World) (base : Nat) (args : Array Value) (ds gs : List (DataW H)) (before : List MemPlace)
    (hval : ∀ (j : Nat) t v, Tryd.f5.params[j]? = some t → args[j]? = some v → Value.okWide Tryd.prog W .any base t v)
    (hW : DataW.Whole enc Tryd.prog Tryd.f5.params.toList Rows.nameSpecsSpec.vars false W args.toList ds gs before)
    (hz : (DataW.weightsEach Tryd.prog (Tryd.f5.params.toList ++ Rows.nameSpecsSpec.plain.varTypes Tryd.prog) (ds ++ gs)).all (· ≤ reachBytes) = true) (hL : laidMetH Tryd.prog laid14 W) (hsh : W.ShapedOpen Tryd.prog) :
    Calls Tryd.prog 5 args W fun e W' => ∃ v, e = .returned v ∧ Rows.nameSpecsSpec.post enc Tryd.prog Tryd.f5 false true false false W args v W' := by
  have hW' := hW
  obtain ⟨p, q, hA0, hV, rfl, hfz, hnd⟩ := hW
  have hA : DataW.TrodAll enc Tryd.prog W 0 (fun _ => true) true Tryd.f5.params.toList args.toList ds p := hA0
  rw [Tryd.params5] at hA hval hz
  obtain ⟨v0, vs0, d0, ds0, p0, q0, hargs, rfl, rfl, h0, r0⟩ := trodAll_cons hA
  obtain ⟨v1, vs1, d1, ds1, p1, q1, rfl, rfl, rfl, h1, r1⟩ := trodAll_cons r0
  obtain ⟨rfl, rfl, rfl⟩ := trodAll_nil r1
  obtain rfl : args = #[v0, v1] := by cases args; simp_all
  obtain ⟨rfl, rfl⟩ := trodVars_none hV
  obtain ⟨t0, rfl, rfl, rfl, w0⟩ := ChangeMaps.open_string Tryd.underlying9 (hval 0 _ v0 rfl rfl) h0
  have r0s : t0.data.toList.length ≤ 140737488351232 := reach_str14 hz (j := 0) rfl rfl
  obtain ⟨t1, rfl, rfl, rfl, w1⟩ := ChangeMaps.open_string Tryd.underlying9 (hval 1 _ v1 rfl rfl) h1
  have r1s : t1.data.toList.length ≤ 140737488351232 := reach_str14 hz (j := 1) rfl rfl
  clear hA0
  have hc : Calls Tryd.prog 5 #[.string t0, .string t1] W fun e W' => e = .returned (.bool true) ∧ Kept W W' := by
    refine bridge (fun {i} => ?_)
    have ht := ut_met hL
    obtain ⟨s, rfl, hsl⟩ := str_of t0
    obtain ⟨t, rfl, htl⟩ := str_of t1
    rw [str_data] at r0s r1s
    exact namespecs_n s t _ ht (by omega) (by omega)
  refine hc.mono fun e W' ⟨he, bel⟩ => ?_
  subst he
  exact ⟨_, rfl, _, _, _, [], _, [], hW', trodAll_mk1 (shut_bool Tryd.underlying4 _), (trodAll_cons_mk (ChangeMaps.shut_string Tryd.underlying9 w0) (trodAll_cons_mk (ChangeMaps.shut_string Tryd.underlying9 w1) trodAll_mk0)), rfl, bel.frame _, fun h => by cases h⟩
def putT (w : World) (g : Nat) (zs : List Value) : World := { w with heap := w.heap.modify g fun
      | .cells _ t frozen => .cells zs.toArray t frozen
      | o => o }
noncomputable def laidWorld (os : Os) : World :=
  putT (putT (World.holding Tryd.prog os ⟨#[], #[], []⟩) 1 tabAc) 0 tabFi
theorem laid_met (os : Os) : laidMet Tryd.prog Rows.nameSpecsRow.laid ((laidWorld os).forCall (fun _ _ => 0) ⟨#[], #[.string .empty, .string .empty], []⟩).memory :=
  laidMet_of_run' 8 (by kernel_rfl) (by kernel_rfl)
theorem reads (os : Os) {H : Type} (enc : TypeId × Value → H) : ∃ places, DataW.whole enc Tryd.prog ((laidWorld os).forCall (fun _ _ => 0) ⟨#[], #[.string .empty, .string .empty], []⟩).memory Tryd.f5.params.toList Rows.nameSpecsSpec.vars false #[.string .empty, .string .empty].toList 8 = some ([.lit (.string []), .lit (.string [])], [], places) :=
  ⟨[], by kernel_rfl⟩
set_option maxRecDepth 100000 in
theorem top_lifted (os : Os) (started : os.Started) (H : Type) (enc : TypeId × Value → H) (F : Stop.Interp) :
    ReturnsInHanded {} Tryd.checked os 5 .any ((OpenSpec.ofChange Rows.nameSpecsSpec).preRow enc Tryd.prog Tryd.f5 Rows.nameSpecsRow.domain false Rows.nameSpecsRow.laid) (((OpenSpec.ofChange Rows.nameSpecsSpec).at F).post enc Tryd.prog Tryd.f5 false true false false) := by
  obtain ⟨places, hx⟩ := reads os enc
  refine returnsInHanded_of_row (C := Tryd.checked) (s := (OpenSpec.ofChange Rows.nameSpecsSpec)) Tryd.own started (by kernel_rfl) Tryd.func5
    (witness_row_at (enc := enc) (C := Tryd.checked) false (laidWorld os) #[.string .empty, .string .empty] rfl (by kernel_rfl) (by kernel_rfl) (by kernel_rfl)
      (OpenSpec.preRow_of_cond 8 hx (by kernel_rfl) (fun k hk => by cases hk) (by kernel_rfl) (laid_met os))) ?_
  intro W base args ds gs before hval hW _ hcond hz hL hsh _
  exact top_row H enc W base args ds gs before hval hW hz hL hsh
theorem top_over : Rows.NameSpecsSaid :=
  OpenClaim.holds_of_cond 5 Tryd.f5 rfl rfl rfl rfl rfl rfl rfl ⟨rfl, rfl, rfl, rfl, rfl⟩ rfl rfl rfl rfl rfl (by kernel_rfl) Tryd.func5 (by kernel_rfl)
    (of_decide_eq_true (by kernel_rfl)) (by unfold Func.isWrapper; first | (rw [if_pos (by decide +kernel)]; kernel_rfl) | (rw [if_neg (by decide +kernel)]; exact ⟨rfl, rfl⟩))
    (fun os started H enc _ F => by rw [OpenClaim.pre_eq_preRow]; exact top_lifted os started H enc F)
theorem top_plain (f : FuncId) (fn : Func) (hf : Tryd.pinned.checked.prog.funcNamed "stemma/stemmalaw14.NameSpecs" = some f) (hfn : Tryd.pinned.checked.prog.funcs[f]? = some fn) :
    false = Tryd.pinned.checked.prog.looks [] ∧ ∀ (j : Nat) t, fn.params[j]? = some t → Tryd.pinned.checked.prog.wantsStandIn t = false := by
  obtain rfl : f = 5 := Option.some.inj ((show Tryd.prog.funcNamed "stemma/stemmalaw14.NameSpecs" = some 5 by kernel_rfl).symm.trans hf) |>.symm
  obtain rfl : fn = Tryd.f5 := (Option.some.inj (Tryd.func5.symm.trans hfn)).symm
  have all : (Tryd.f5.params.toList.all fun t => !Tryd.prog.wantsStandIn t) = true := by kernel_rfl
  refine ⟨by kernel_rfl, fun j t ht => ?_⟩
  have hm : t ∈ Tryd.f5.params.toList := by
    have := Array.mem_of_getElem? ht
    simpa using this
  have := List.all_eq_true.1 all t hm
  show Tryd.prog.wantsStandIn t = false
  simpa using this
theorem top_holds : Rows.NameSpecsCardSaid :=
  Claim7.holds_tied_plain_at .later [] _ _ _ _ top_over (fun _ h => by cases h) (by kernel_rfl) (fun _ h => by cases h) nameSpecs_row_tie rfl ⟨rfl, rfl⟩ (by kernel_rfl) rfl top_plain (by kernel_rfl)
end Go.Proofs.YtehpnblbkldojaaDoor
