/- Package huff: lengths counted, shares, first codes. It proves no statement by itself. No conditions. -/
import Derived.Test.YtkiaegkojlhaeaaDoorYf
namespace Go.Vx
open Go
set_option linter.all false
variable [W0]
section
variable {P : Program} {n : Nat} {M : List (Nat × Value)} {L : List Chunk} {d : Nat} {ty : TypeId} {ps : String} {af : Array Edge} {g : Option (Nat × Bool)} {x y : Operand} {k : IntKind} {i j : Int} {t u : TypeId}
/-- Sums, products, differences of words as numbers. -/
theorem EV_nadd (a b : Nat) (hx : ev M x = some (.int k i)) (hy : ev M y = some (.int k j)) (hi : i = (a : Int)) (hj : j = (b : Int)) (hs : k.signed = false) (hr : a + b < 2 ^ k.bits) :
    EV P n ⟨some d, .binOp .add t x y u, ty, ps, af, g⟩ M L d (.int k ((a + b : Nat) : Int)) := by
  subst hi hj
  have h := EV_ari (P := P) (n := n) (L := L) (d := d) (ty := ty) (ps := ps) (af := af) (g := g) (op := .add) (t := t) (u := u) hx hy rfl
  rwa [show (a : Int) + (b : Int) = ((a + b : Nat) : Int) from by omega, wrap_nat hs hr] at h
theorem EV_nmul (a b : Nat) (hx : ev M x = some (.int k i)) (hy : ev M y = some (.int k j)) (hi : i = (a : Int)) (hj : j = (b : Int)) (hs : k.signed = false) (hr : a * b < 2 ^ k.bits) :
    EV P n ⟨some d, .binOp .mul t x y u, ty, ps, af, g⟩ M L d (.int k ((a * b : Nat) : Int)) := by
  subst hi hj
  have h := EV_ari (P := P) (n := n) (L := L) (d := d) (ty := ty) (ps := ps) (af := af) (g := g) (op := .mul) (t := t) (u := u) hx hy rfl
  rwa [show (a : Int) * (b : Int) = ((a * b : Nat) : Int) from by rw [Int.natCast_mul], wrap_nat hs hr] at h
theorem EV_nsub (a b : Nat) (hx : ev M x = some (.int k i)) (hy : ev M y = some (.int k j)) (hi : i = (a : Int)) (hj : j = (b : Int)) (hs : k.signed = false) (hle : b ≤ a) (hr : a < 2 ^ k.bits) :
    EV P n ⟨some d, .binOp .sub t x y u, ty, ps, af, g⟩ M L d (.int k ((a - b : Nat) : Int)) := by
  subst hi hj
  have h := EV_ari (P := P) (n := n) (L := L) (d := d) (ty := ty) (ps := ps) (af := af) (g := g) (op := .sub) (t := t) (u := u) hx hy rfl
  rwa [show (a : Int) - (b : Int) = ((a - b : Nat) : Int) from by omega, wrap_nat hs (by omega)] at h
theorem EV_loadAll {t k' : Nat} [hag : AG P t k'] {b : Nat} {T : TypeId} {vs : List Value} (hx : ev M x = some (.pointer (some ⟨b, 0, none⟩))) (hf : Fnd L b (cl vs T)) (hl : vs.length = k') :
    EV P n ⟨some d, .load t x, ty, ps, af, g⟩ M L d (.agg vs.toArray) := EV_loadAgg hx (RdAt.cl' hf (by simp [cut])) hl
end
omit [W0] in
def ivn (l : List Nat) : List Value := l.map fun (n : Nat) => Value.int .i64 (n : Int)
theorem ivn_length {l : List Nat} : (ivn l).length = l.length := by simp [ivn]
theorem ivn_ones {l : List Nat} : ones (ivn l) = true := by simp [ones, ivn, Value.oneCell']
theorem ivn_get {l : List Nat} {i n : Nat} (h : l[i]? = some n) : (ivn l)[i]? = some (.int .i64 (n : Int)) := by simp [ivn, h]
end Go.Vx
namespace Go.Hf
set_option linter.all false
/-- How many there are of each length. -/
def tal (l : List Nat) : List Nat := (List.range 16).map fun n => if n = 0 then 0 else cn l n
theorem tal_length (l : List Nat) : (tal l).length = 16 := by simp [tal]
theorem tal_get (l : List Nat) {n : Nat} (h : n < 16) : (tal l)[n]? = some (if n = 0 then 0 else cn l n) := by simp [tal, h]
theorem tal_nil : tal [] = List.replicate 16 0 := by decide
theorem list_ext16 {a b : List Nat} (ha : a.length = 16) (hb : b.length = 16) (h : ∀ n, n < 16 → a[n]? = b[n]?) : a = b := by
  apply List.ext_getElem?
  intro n
  rcases Nat.lt_or_ge n 16 with hn | hn
  · exact h n hn
  · rw [List.getElem?_eq_none (by omega), List.getElem?_eq_none (by omega)]
theorem tal_add (l : List Nat) {x : Nat} (h0 : 0 < x) (h : x ≤ 15) : (tal l).set x (cn l x + 1) = tal (l ++ [x]) := by
  refine list_ext16 (by simp [tal]) (by simp [tal]) fun n hn => ?_
  by_cases he : x = n
  · subst he
    rw [List.getElem?_set_self (by rw [tal_length]; exact hn), tal_get _ hn, if_neg (by omega), cn_app, cn_cons, if_pos rfl]
    simp [cn]
  · rw [List.getElem?_set_ne he, tal_get _ hn, tal_get _ hn, cn_app, cn_cons, if_neg he]
    simp [cn]
theorem tal_zero (l : List Nat) : tal (l ++ [0]) = tal l := by
  refine list_ext16 (by simp [tal]) (by simp [tal]) fun n hn => ?_
  rw [tal_get _ hn, tal_get _ hn]
  by_cases he : n = 0
  · simp [he]
  · rw [if_neg he, if_neg he, cn_app, cn_cons, if_neg (by omega)]
    simp [cn]
/-- The first codes of the lengths below i. -/
def fsl (l : List Nat) (i : Nat) : List Nat := (List.range 16).map fun n => if n < i then fs l n else 0
theorem fsl_length (l : List Nat) (i : Nat) : (fsl l i).length = 16 := by simp [fsl]
theorem fsl_get (l : List Nat) (i : Nat) {n : Nat} (h : n < 16) : (fsl l i)[n]? = some (if n < i then fs l n else 0) := by simp [fsl, h]
theorem fsl_set (l : List Nat) {i : Nat} (h : i < 16) : (fsl l i).set i (fs l i) = fsl l (i + 1) := by
  refine list_ext16 (by simp [fsl]) (by simp [fsl]) fun n hn => ?_
  by_cases he : i = n
  · subst he
    rw [List.getElem?_set_self (by rw [fsl_length]; exact hn), fsl_get _ _ hn, if_pos (by omega)]
  · rw [List.getElem?_set_ne he, fsl_get _ _ hn, fsl_get _ _ hn]
    congr 1
    have : (n < i) = (n < i + 1) := by apply propext; omega
    simp only [this]
theorem fsl_one (l : List Nat) : fsl l 1 = List.replicate 16 0 := by
  refine list_ext16 (fsl_length _ _) (by simp) fun n hn => ?_
  rw [fsl_get _ _ hn, List.getElem?_replicate, if_pos hn]
  by_cases h : n = 0
  · subst h; rfl
  · rw [if_neg (by omega)]
theorem nl_take (ls : List Int) {i : Nat} (hi : i < ls.length) : nl (ls.take (i + 1)) = nl (ls.take i) ++ [(ls.getD i 0).toNat] := by
  have hg : ls.getD i 0 = ls[i] := by simp [List.getD, hi]
  rw [List.take_add_one, List.getElem?_eq_getElem hi, hg]
  simp only [nl, List.map_append, List.map_cons, List.map_nil, Option.toList]
end Go.Hf
namespace Go.Proofs.YtkiaegkojlhaeaaDoor
open Go Go.Vx Go.Hf
variable [W0]
set_option maxRecDepth 4000
set_option linter.all false
omit [W0] in
def zI : List Nat := List.replicate 16 0
omit [W0] in
/-- What is counted of lengths. -/
def talE (ls : List Int) : List Nat := if okL ls then tal (nl ls) else zI
theorem talE_length (ls : List Int) : (talE ls).length = 16 := by unfold talE; split <;> simp [tal, zI]

set_option maxHeartbeats 2000000 in
theorem tallied_n (a : Option Addr) (c : Nat) (ls : List Int) (L : List Chunk) (h : Sl L 1 (.slice a ls.length c) ls.length (intsN ls)) (hl : ls.length ≤ 17592186044416) :
    GvP Tryd.prog 84 [.slice a ls.length c].toArray L (.tuple #[.agg (ivn (talE ls)).toArray, .bool (okL ls)]) := by
  refine Gv.of_body Tryd.func84 rfl rfl ?_
  have hout : ∀ (b : Bool) (l : List Nat) (M : List (Nat × Value)) (p q : Nat) (o : Obj), okL ls = b → talE ls = l → lk M 2 = some (.pointer (some ⟨p, 0, none⟩)) → lk M 3 = some (.bool b) →
      WQ Tryd.f84.ntmps (bodyPost Tryd.prog Tryd.f84 (fun e w' => ∃ v L', e = .returned v ∧ (v = .tuple #[.agg (ivn (talE ls)).toArray, .bool (okL ls)] ∧ L' = L) ∧ Holds w' L') .ret) M ([(q, o)] :: [(p, cl (ivn l) 125)] :: L) := by
    intro b l M p q o hb hl2 h2 h3
    have hlen : (ivn l).length = 16 := by rw [ivn_length, ← hl2, talE_length]
    refine WQ_retC (vs := [.agg (ivn l).toArray, .bool b]) rfl (.agg ⟨by kernel_rfl, by kernel_rfl⟩ h2 (RdAt.cl' (vs := ivn l) (Fnd.there Fnd.here) (by simp [cut])) hlen (.tmp h3 .nil)) ?_
    exact ⟨L, fun w h => (iC : Inc L _).holds h, by rw [hb, hl2]; rfl, rfl⟩
  (repeat' (first | (show WL _ _ _ _ _ _ _; first | refine jA ?_ | refine jB ?_ | refine jC ?_ | refine jD ?_ | refine jE ?_ | refine jF ?_) | (show OW _ _ _ _ _ _; first | refine OW_W ?_ | refine jI ?_ | refine jJ ?_ | refine jK (fun bk => ?_) | refine jL (fun bk => ?_)) | (show WC _ _ _ _ _ _; first | refine jM ?_ | refine jN ?_ | refine jO ?_ | refine jP ?_ | refine jR ?_ | refine jS ?_ | refine jT ?_ | refine jU ?_) | (show WQ _ _ _ _; with_reducible first | refine jV ?_ | refine jW ?_ | refine jX ?_ | refine jY ?_ | refine jZ ?_ | refine kA ?_ | refine kB ?_ | refine kC ?_) | ((first | (refine jG (fun hc => ?_) (fun hc => ?_) <;> rw [hc]) | refine jQ (fun hc => ?_) (fun hc => ?_)) <;> (try simp only [nrB] at hc) <;> (try (exfalso; first | omega | exact hc trivial | exact hc rfl)))))
  rename_i b2
  obtain ⟨b4, hb4⟩ : ∃ b4, b4 = bk := ⟨_, rfl⟩
  rw [← hb4]
  obtain ⟨F, hF⟩ : ∃ F : Nat → List Value, ∀ i, F i = ivn (tal (nl (ls.take i))) := ⟨_, fun _ => rfl⟩
  have hF0 : ivn zI = F 0 := by rw [hF]; rfl
  have hFl : ∀ i, (F i).length = 16 := fun i => by rw [hF, ivn_length, tal_length]
  refine WC_loop (X := Nat) (fun i => [(2, .pointer (some ⟨b2, 0, none⟩)), (4, .pointer (some ⟨b4, 0, none⟩)), (7, .slice a ls.length c), (8, .int .i64 (ls.length : Int)), (9, .int .i64 (i : Int))])
    (fun i => [(b4, cl (F i) 125)] :: [(b2, cl (ivn zI) 125)] :: L) (fun i => i ≤ ls.length ∧ okL (ls.take i) = true) (fun i => ls.length - i) 0 ⟨Nat.zero_le _, rfl⟩ (by repeat (first | exact Sub.nil | refine Sub.cons rfl ?_ | refine Sub.cons (lk_int rfl (by first | omega | (dsimp only; omega))) ?_)) (fun w h => by rw [← hF0]; exact h) ?_
  intro i ⟨hi, hok⟩
  (repeat' (first | (show WL _ _ _ _ _ _ _; first | refine jA ?_ | refine jB ?_ | refine jC ?_ | refine jD ?_ | refine jE ?_ | refine jF ?_) | (show OW _ _ _ _ _ _; first | refine OW_W ?_ | refine jI ?_ | refine jJ ?_ | refine jK (fun bk => ?_) | refine jL (fun bk => ?_)) | (show WC _ _ _ _ _ _; first | refine jM ?_ | refine jN ?_ | refine jO ?_ | refine jP ?_ | refine jR ?_ | refine jS ?_ | refine jT ?_ | refine jU ?_) | (show WQ _ _ _ _; with_reducible first | refine jV ?_ | refine jW ?_ | refine jX ?_ | refine jY ?_ | refine jZ ?_ | refine kA ?_ | refine kB ?_ | refine kC ?_) | ((first | (refine jG (fun hc => ?_) (fun hc => ?_) <;> rw [hc]) | refine jQ (fun hc => ?_) (fun hc => ?_)) <;> (try simp only [nrB] at hc) <;> (try (exfalso; first | omega | exact hc trivial | exact hc rfl)))))
  · have hlt : i < ls.length := by omega
    obtain ⟨b, off, cap, cc, T, fr, hve, hfn, hcell⟩ := sl_at h (ints_get hlt)
    injection hve with e1 e2 e3
    subst e1 e3
    clear e2
    have hbad := okL_bad hlt
    have hgood := okL_take hlt hok
    have hst := nl_take ls hlt
    obtain ⟨x, hx⟩ : ∃ x, x = ls.getD i 0 := ⟨_, rfl⟩
    rw [← hx] at hcell hst hbad hgood
    refine OW_EV (EV_indexAddr (j := i) rfl rfl rfl hlt) rfl ?_
    (repeat' (first | (show WL _ _ _ _ _ _ _; first | refine jA ?_ | refine jB ?_ | refine jC ?_ | refine jD ?_ | refine jE ?_ | refine jF ?_) | (show OW _ _ _ _ _ _; first | refine OW_W ?_ | refine jI ?_ | refine jJ ?_ | refine jK (fun bk => ?_) | refine jL (fun bk => ?_)) | (show WC _ _ _ _ _ _; first | refine jM ?_ | refine jN ?_ | refine jO ?_ | refine jP ?_ | refine jR ?_ | refine jS ?_ | refine jT ?_ | refine jU ?_) | (show WQ _ _ _ _; with_reducible first | refine jV ?_ | refine jW ?_ | refine jX ?_ | refine jY ?_ | refine jZ ?_ | refine kA ?_ | refine kB ?_ | refine kC ?_) | ((first | (refine jG (fun hc => ?_) (fun hc => ?_) <;> rw [hc]) | refine jQ (fun hc => ?_) (fun hc => ?_)) <;> (try simp only [nrB] at hc) <;> (try (exfalso; first | omega | exact hc trivial | exact hc rfl)))))
    refine OW_EV (EV_load rfl hfn.there.there hcell) rfl ?_
    have hcap : cn (nl (ls.take i)) x.toNat ≤ i := by
      have h1 : cn (nl (ls.take i)) x.toNat ≤ (nl (ls.take i)).length := List.length_filter_le _ _
      have h2 : (nl (ls.take i)).length = i := by rw [nl_length, List.length_take]; omega
      omega
    (repeat' (first | (show WL _ _ _ _ _ _ _; first | refine jA ?_ | refine jB ?_ | refine jC ?_ | refine jD ?_ | refine jE ?_ | refine jF ?_) | (show OW _ _ _ _ _ _; first | refine OW_W ?_ | refine jI ?_ | refine jJ ?_ | refine jK (fun bk => ?_) | refine jL (fun bk => ?_)) | (show WC _ _ _ _ _ _; first | refine jM ?_ | refine jN ?_ | refine jO ?_ | refine jP ?_ | refine jR ?_ | refine jS ?_ | refine jT ?_ | refine jU ?_) | (show WQ _ _ _ _; with_reducible first | refine jV ?_ | refine jW ?_ | refine jX ?_ | refine jY ?_ | refine jZ ?_ | refine kA ?_ | refine kB ?_ | refine kC ?_) | ((first | (refine jG (fun hc => ?_) (fun hc => ?_) <;> rw [hc]) | refine jQ (fun hc => ?_) (fun hc => ?_)) <;> (try simp only [nrB] at hc) <;> (try (exfalso; first | omega | exact hc trivial | exact hc rfl)))))
    all_goals first
      | (refine OW_storeAggTo (l := ivn zI) (vs := ivn zI) (ivn zI) rfl rfl (by rfl) ivn_ones (by rfl) (by repeat (first | exact Upd.here | apply Upd.there)) (by decide) ?_
         (repeat' (first | (show WL _ _ _ _ _ _ _; first | refine jA ?_ | refine jB ?_ | refine jC ?_ | refine jD ?_ | refine jE ?_ | refine jF ?_) | (show OW _ _ _ _ _ _; first | refine OW_W ?_ | refine jI ?_ | refine jJ ?_ | refine jK (fun bk => ?_) | refine jL (fun bk => ?_)) | (show WC _ _ _ _ _ _; first | refine jM ?_ | refine jN ?_ | refine jO ?_ | refine jP ?_ | refine jR ?_ | refine jS ?_ | refine jT ?_ | refine jU ?_) | (show WQ _ _ _ _; with_reducible first | refine jV ?_ | refine jW ?_ | refine jX ?_ | refine jY ?_ | refine jZ ?_ | refine kA ?_ | refine kB ?_ | refine kC ?_) | ((first | (refine jG (fun hc => ?_) (fun hc => ?_) <;> rw [hc]) | refine jQ (fun hc => ?_) (fun hc => ?_)) <;> (try simp only [nrB] at hc) <;> (try (exfalso; first | omega | exact hc trivial | exact hc rfl)))))
         exact hout false zI _ _ _ _ (hbad (by omega)) (by unfold talE; rw [hbad (by omega)]; rfl) rfl rfl)
      | skip
    · have hxt : 0 < x.toNat := by omega
      have hx15 : x.toNat ≤ 15 := by omega
      have hxn : x = (x.toNat : Int) := by omega
      have hadd := tal_add (nl (ls.take i)) hxt hx15
      rw [← hst] at hadd
      refine OW_W ?_ (he := EV_indexAddrA' x.toNat rfl rfl hxn (by omega))
      (repeat' (first | (show WL _ _ _ _ _ _ _; first | refine jA ?_ | refine jB ?_ | refine jC ?_ | refine jD ?_ | refine jE ?_ | refine jF ?_) | (show OW _ _ _ _ _ _; first | refine OW_W ?_ | refine jI ?_ | refine jJ ?_ | refine jK (fun bk => ?_) | refine jL (fun bk => ?_)) | (show WC _ _ _ _ _ _; first | refine jM ?_ | refine jN ?_ | refine jO ?_ | refine jP ?_ | refine jR ?_ | refine jS ?_ | refine jT ?_ | refine jU ?_) | (show WQ _ _ _ _; with_reducible first | refine jV ?_ | refine jW ?_ | refine jX ?_ | refine jY ?_ | refine jZ ?_ | refine kA ?_ | refine kB ?_ | refine kC ?_) | ((first | (refine jG (fun hc => ?_) (fun hc => ?_) <;> rw [hc]) | refine jQ (fun hc => ?_) (fun hc => ?_)) <;> (try simp only [nrB] at hc) <;> (try (exfalso; first | omega | exact hc trivial | exact hc rfl)))))
      have hld : nth (F i) (0 + x.toNat * 1) = some (.int .i64 ((cn (nl (ls.take i)) x.toNat : Nat) : Int)) := by
        rw [hF, nth_eq, Nat.zero_add, Nat.mul_one]
        have := tal_get (nl (ls.take i)) (show x.toNat < 16 by omega)
        rw [if_neg (by omega)] at this
        exact ivn_get this
      refine OW_W ?_ (he := EV_loadc rfl (by repeat (first | assumption | exact Fnd.here | refine Fnd.there ?_)) hld)
      (repeat' (first | (show WL _ _ _ _ _ _ _; first | refine jA ?_ | refine jB ?_ | refine jC ?_ | refine jD ?_ | refine jE ?_ | refine jF ?_) | (show OW _ _ _ _ _ _; first | refine OW_W ?_ | refine jI ?_ | refine jJ ?_ | refine jK (fun bk => ?_) | refine jL (fun bk => ?_)) | (show WC _ _ _ _ _ _; first | refine jM ?_ | refine jN ?_ | refine jO ?_ | refine jP ?_ | refine jR ?_ | refine jS ?_ | refine jT ?_ | refine jU ?_) | (show WQ _ _ _ _; with_reducible first | refine jV ?_ | refine jW ?_ | refine jX ?_ | refine jY ?_ | refine jZ ?_ | refine kA ?_ | refine kB ?_ | refine kC ?_) | ((first | (refine jG (fun hc => ?_) (fun hc => ?_) <;> rw [hc]) | refine jQ (fun hc => ?_) (fun hc => ?_)) <;> (try simp only [nrB] at hc) <;> (try (exfalso; first | omega | exact hc trivial | exact hc rfl)))))
      refine OW_W ?_ (he := EV_indexAddrA' x.toNat rfl rfl hxn (by omega))
      (repeat' (first | (show WL _ _ _ _ _ _ _; first | refine jA ?_ | refine jB ?_ | refine jC ?_ | refine jD ?_ | refine jE ?_ | refine jF ?_) | (show OW _ _ _ _ _ _; first | refine OW_W ?_ | refine jI ?_ | refine jJ ?_ | refine jK (fun bk => ?_) | refine jL (fun bk => ?_)) | (show WC _ _ _ _ _ _; first | refine jM ?_ | refine jN ?_ | refine jO ?_ | refine jP ?_ | refine jR ?_ | refine jS ?_ | refine jT ?_ | refine jU ?_) | (show WQ _ _ _ _; with_reducible first | refine jV ?_ | refine jW ?_ | refine jX ?_ | refine jY ?_ | refine jZ ?_ | refine kA ?_ | refine kB ?_ | refine kC ?_) | ((first | (refine jG (fun hc => ?_) (fun hc => ?_) <;> rw [hc]) | refine jQ (fun hc => ?_) (fun hc => ?_)) <;> (try simp only [nrB] at hc) <;> (try (exfalso; first | omega | exact hc trivial | exact hc rfl)))))
      refine OW_storeTo (F (i + 1)) rfl rfl rfl ?_ (by repeat (first | exact Upd.here | apply Upd.there)) (by rw [hFl]; omega) ?_
      · rw [Nat.zero_add, Nat.mul_one, hF, hF, ← hadd]
        simp [ivn, List.map_set]
      (repeat' (first | (show WL _ _ _ _ _ _ _; first | refine jA ?_ | refine jB ?_ | refine jC ?_ | refine jD ?_ | refine jE ?_ | refine jF ?_) | (show OW _ _ _ _ _ _; first | refine OW_W ?_ | refine jI ?_ | refine jJ ?_ | refine jK (fun bk => ?_) | refine jL (fun bk => ?_)) | (show WC _ _ _ _ _ _; first | refine jM ?_ | refine jN ?_ | refine jO ?_ | refine jP ?_ | refine jR ?_ | refine jS ?_ | refine jT ?_ | refine jU ?_) | (show WQ _ _ _ _; with_reducible first | refine jV ?_ | refine jW ?_ | refine jX ?_ | refine jY ?_ | refine jZ ?_ | refine kA ?_ | refine kB ?_ | refine kC ?_) | ((first | (refine jG (fun hc => ?_) (fun hc => ?_) <;> rw [hc]) | refine jQ (fun hc => ?_) (fun hc => ?_)) <;> (try simp only [nrB] at hc) <;> (try (exfalso; first | omega | exact hc trivial | exact hc rfl)))))
      refine WQ_round (X := Nat) (μ := fun i => ls.length - i) (x := i) (i + 1) (by omega) ⟨by omega, hgood (by omega) (by omega)⟩ (by repeat (first | exact Sub.nil | refine Sub.cons rfl ?_ | refine Sub.cons (lk_int rfl (by first | omega | (dsimp only; omega))) ?_)) (fun w h => h)
    · have hx0 : x.toNat = 0 := by omega
      rw [hx0] at hst
      have hz := tal_zero (nl (ls.take i))
      rw [← hst] at hz
      refine WQ_round (X := Nat) (μ := fun i => ls.length - i) (x := i) (i + 1) (by omega) ⟨by omega, hgood (by omega) (by omega)⟩ (by repeat (first | exact Sub.nil | refine Sub.cons rfl ?_ | refine Sub.cons (lk_int rfl (by first | omega | (dsimp only; omega))) ?_)) (fun w h => ?_)
      rw [hF, hz, ← hF]; exact h
  · have hil : i = ls.length := by omega
    rw [hil, List.take_length] at hok
    have hones : ones (F i) = true := by rw [hF]; exact ivn_ones
    have hFi : F i = ivn (tal (nl ls)) := by rw [hF, hil, List.take_length]
    refine OW_W ?_ (he := EV_loadAll (vs := F i) rfl Fnd.here (hFl i))
    (repeat' (first | (show WL _ _ _ _ _ _ _; first | refine jA ?_ | refine jB ?_ | refine jC ?_ | refine jD ?_ | refine jE ?_ | refine jF ?_) | (show OW _ _ _ _ _ _; first | refine OW_W ?_ | refine jI ?_ | refine jJ ?_ | refine jK (fun bk => ?_) | refine jL (fun bk => ?_)) | (show WC _ _ _ _ _ _; first | refine jM ?_ | refine jN ?_ | refine jO ?_ | refine jP ?_ | refine jR ?_ | refine jS ?_ | refine jT ?_ | refine jU ?_) | (show WQ _ _ _ _; with_reducible first | refine jV ?_ | refine jW ?_ | refine jX ?_ | refine jY ?_ | refine jZ ?_ | refine kA ?_ | refine kB ?_ | refine kC ?_) | ((first | (refine jG (fun hc => ?_) (fun hc => ?_) <;> rw [hc]) | refine jQ (fun hc => ?_) (fun hc => ?_)) <;> (try simp only [nrB] at hc) <;> (try (exfalso; first | omega | exact hc trivial | exact hc rfl)))))
    refine OW_storeAggTo (l := ivn zI) (vs := F i) (F i) rfl rfl (hFl i) hones ?_ (by repeat (first | exact Upd.here | apply Upd.there)) (by rw [hFl]; decide) ?_
    · have e : (ivn zI).length = 16 := by decide
      simp [patch, hFl, e]
    rw [hFi]
    (repeat' (first | (show WL _ _ _ _ _ _ _; first | refine jA ?_ | refine jB ?_ | refine jC ?_ | refine jD ?_ | refine jE ?_ | refine jF ?_) | (show OW _ _ _ _ _ _; first | refine OW_W ?_ | refine jI ?_ | refine jJ ?_ | refine jK (fun bk => ?_) | refine jL (fun bk => ?_)) | (show WC _ _ _ _ _ _; first | refine jM ?_ | refine jN ?_ | refine jO ?_ | refine jP ?_ | refine jR ?_ | refine jS ?_ | refine jT ?_ | refine jU ?_) | (show WQ _ _ _ _; with_reducible first | refine jV ?_ | refine jW ?_ | refine jX ?_ | refine jY ?_ | refine jZ ?_ | refine kA ?_ | refine kB ?_ | refine kC ?_) | ((first | (refine jG (fun hc => ?_) (fun hc => ?_) <;> rw [hc]) | refine jQ (fun hc => ?_) (fun hc => ?_)) <;> (try simp only [nrB] at hc) <;> (try (exfalso; first | omega | exact hc trivial | exact hc rfl)))))
    exact hout true (tal (nl ls)) _ _ _ _ hok (by unfold talE; rw [hok]; rfl) rfl rfl

set_option maxHeartbeats 2000000 in
theorem share_n (l : List Nat) (L : List Chunk) (hl : l.length ≤ 17592186044416) (h15 : ∀ x ∈ l, x ≤ 15) :
    GvP Tryd.prog 85 [.agg (ivn (tal l)).toArray].toArray L (.int .i64 ((kS l : Nat) : Int)) := by
  have htl : (ivn (tal l)).length = 16 := by rw [ivn_length, tal_length]
  have htg : ∀ i, i < 16 → (ivn (tal l))[i]? = some (.int .i64 ((if i = 0 then 0 else cn l i : Nat) : Int)) := fun i hi => ivn_get (tal_get l hi)
  generalize ivn (tal l) = tv at htl htg ⊢
  refine Gv.of_body Tryd.func85 rfl rfl ?_
  (repeat' (first | (show WL _ _ _ _ _ _ _; first | refine jA ?_ | refine jB ?_ | refine jC ?_ | refine jD ?_ | refine jE ?_ | refine jF ?_) | (show OW _ _ _ _ _ _; first | refine OW_W ?_ | refine jI ?_ | refine jJ ?_ | refine jK (fun bk => ?_) | refine jL (fun bk => ?_)) | (show WC _ _ _ _ _ _; first | refine jM ?_ | refine jN ?_ | refine jO ?_ | refine jP ?_ | refine jR ?_ | refine jS ?_ | refine jT ?_ | refine jU ?_) | (show WQ _ _ _ _; with_reducible first | refine jV ?_ | refine jW ?_ | refine jX ?_ | refine jY ?_ | refine jZ ?_ | refine kA ?_ | refine kB ?_ | refine kC ?_) | ((first | (refine jG (fun hc => ?_) (fun hc => ?_) <;> rw [hc]) | refine jQ (fun hc => ?_) (fun hc => ?_)) <;> (try simp only [nrB] at hc) <;> (try (exfalso; first | omega | exact hc trivial | exact hc rfl)))))
  refine OW_W ?_ (he := EV_loadAll (vs := tv) rfl Fnd.here htl)
  (repeat' (first | (show WL _ _ _ _ _ _ _; first | refine jA ?_ | refine jB ?_ | refine jC ?_ | refine jD ?_ | refine jE ?_ | refine jF ?_) | (show OW _ _ _ _ _ _; first | refine OW_W ?_ | refine jI ?_ | refine jJ ?_ | refine jK (fun bk => ?_) | refine jL (fun bk => ?_)) | (show WC _ _ _ _ _ _; first | refine jM ?_ | refine jN ?_ | refine jO ?_ | refine jP ?_ | refine jR ?_ | refine jS ?_ | refine jT ?_ | refine jU ?_) | (show WQ _ _ _ _; with_reducible first | refine jV ?_ | refine jW ?_ | refine jX ?_ | refine jY ?_ | refine jZ ?_ | refine kA ?_ | refine kB ?_ | refine kC ?_) | ((first | (refine jG (fun hc => ?_) (fun hc => ?_) <;> rw [hc]) | refine jQ (fun hc => ?_) (fun hc => ?_)) <;> (try simp only [nrB] at hc) <;> (try (exfalso; first | omega | exact hc trivial | exact hc rfl)))))
  refine WC_loop (X := Nat) (fun i => [(3, .int .i64 ((ks l (i - 1) : Nat) : Int)), (6, .agg tv.toArray), (7, .int .i64 (i : Int))])
    (fun i => L) (fun i => i ≤ 16) (fun i => 16 - i) 0 (Nat.zero_le _) (by rw [show 0 - 1 = 0 from rfl, ks_zero]; exact (by repeat (first | exact Sub.nil | refine Sub.cons rfl ?_ | refine Sub.cons (lk_int rfl (by first | omega | (dsimp only; omega))) ?_))) (fun w h => (iC : Inc L _).holds h) ?_
  intro i hi
  have hkl := kS_le l
  have hkb := ks_le l i
  have hkb1 := ks_le l (i - 1)
  have hst : ks l i = ks l (i - 1) + (if i = 0 then 0 else cn l i) * 2 ^ (15 - i) := by
    by_cases h0 : i = 0
    · subst h0; simp
    · have := ks_succ l (i - 1)
      rw [show i - 1 + 1 = i from by omega] at this
      rw [if_neg h0]; exact this
  (repeat' (first | (show WL _ _ _ _ _ _ _; first | refine jA ?_ | refine jB ?_ | refine jC ?_ | refine jD ?_ | refine jE ?_ | refine jF ?_) | (show OW _ _ _ _ _ _; first | refine OW_W ?_ | refine jI ?_ | refine jJ ?_ | refine jK (fun bk => ?_) | refine jL (fun bk => ?_)) | (show WC _ _ _ _ _ _; first | refine jM ?_ | refine jN ?_ | refine jO ?_ | refine jP ?_ | refine jR ?_ | refine jS ?_ | refine jT ?_ | refine jU ?_) | (show WQ _ _ _ _; with_reducible first | refine jV ?_ | refine jW ?_ | refine jX ?_ | refine jY ?_ | refine jZ ?_ | refine kA ?_ | refine kB ?_ | refine kC ?_) | ((first | (refine jG (fun hc => ?_) (fun hc => ?_) <;> rw [hc]) | refine jQ (fun hc => ?_) (fun hc => ?_)) <;> (try simp only [nrB] at hc) <;> (try (exfalso; first | omega | exact hc trivial | exact hc rfl)))))
  · have hi15 : i < 16 := by omega
    refine OW_W ?_ (he := EV_indexAgg rfl rfl rfl (htg i hi15) hi15)
    obtain ⟨q, hq⟩ : ∃ q, q = if i = 0 then 0 else cn l i := ⟨_, rfl⟩
    rw [← hq] at hst ⊢
    have hsz : q * 2 ^ (15 - i) ≤ ks l i := by omega
    (repeat' (first | (show WL _ _ _ _ _ _ _; first | refine jA ?_ | refine jB ?_ | refine jC ?_ | refine jD ?_ | refine jE ?_ | refine jF ?_) | (show OW _ _ _ _ _ _; first | refine OW_W ?_ | refine jI ?_ | refine jJ ?_ | refine jK (fun bk => ?_) | refine jL (fun bk => ?_)) | (show WC _ _ _ _ _ _; first | refine jM ?_ | refine jN ?_ | refine jO ?_ | refine jP ?_ | refine jR ?_ | refine jS ?_ | refine jT ?_ | refine jU ?_) | (show WQ _ _ _ _; with_reducible first | refine jV ?_ | refine jW ?_ | refine jX ?_ | refine jY ?_ | refine jZ ?_ | refine kA ?_ | refine kB ?_ | refine kC ?_) | ((first | (refine jG (fun hc => ?_) (fun hc => ?_) <;> rw [hc]) | refine jQ (fun hc => ?_) (fun hc => ?_)) <;> (try simp only [nrB] at hc) <;> (try (exfalso; first | omega | exact hc trivial | exact hc rfl)))))
    refine OW_W ?_ (he := EV_shl64 q (15 - i) rfl rfl rfl (by omega) (by omega) (by omega))
    (repeat' (first | (show WL _ _ _ _ _ _ _; first | refine jA ?_ | refine jB ?_ | refine jC ?_ | refine jD ?_ | refine jE ?_ | refine jF ?_) | (show OW _ _ _ _ _ _; first | refine OW_W ?_ | refine jI ?_ | refine jJ ?_ | refine jK (fun bk => ?_) | refine jL (fun bk => ?_)) | (show WC _ _ _ _ _ _; first | refine jM ?_ | refine jN ?_ | refine jO ?_ | refine jP ?_ | refine jR ?_ | refine jS ?_ | refine jT ?_ | refine jU ?_) | (show WQ _ _ _ _; with_reducible first | refine jV ?_ | refine jW ?_ | refine jX ?_ | refine jY ?_ | refine jZ ?_ | refine kA ?_ | refine kB ?_ | refine kC ?_) | ((first | (refine jG (fun hc => ?_) (fun hc => ?_) <;> rw [hc]) | refine jQ (fun hc => ?_) (fun hc => ?_)) <;> (try simp only [nrB] at hc) <;> (try (exfalso; first | omega | exact hc trivial | exact hc rfl)))))
    rw [show ((ks l (i - 1) : Nat) : Int) + ((q * 2 ^ (15 - i) : Nat) : Int) = ((ks l i : Nat) : Int) from by rw [hst]; omega]
    (repeat' (first | (show WL _ _ _ _ _ _ _; first | refine jA ?_ | refine jB ?_ | refine jC ?_ | refine jD ?_ | refine jE ?_ | refine jF ?_) | (show OW _ _ _ _ _ _; first | refine OW_W ?_ | refine jI ?_ | refine jJ ?_ | refine jK (fun bk => ?_) | refine jL (fun bk => ?_)) | (show WC _ _ _ _ _ _; first | refine jM ?_ | refine jN ?_ | refine jO ?_ | refine jP ?_ | refine jR ?_ | refine jS ?_ | refine jT ?_ | refine jU ?_) | (show WQ _ _ _ _; with_reducible first | refine jV ?_ | refine jW ?_ | refine jX ?_ | refine jY ?_ | refine jZ ?_ | refine kA ?_ | refine kB ?_ | refine kC ?_) | ((first | (refine jG (fun hc => ?_) (fun hc => ?_) <;> rw [hc]) | refine jQ (fun hc => ?_) (fun hc => ?_)) <;> (try simp only [nrB] at hc) <;> (try (exfalso; first | omega | exact hc trivial | exact hc rfl)))))
    refine WQ_round (X := Nat) (μ := fun i => 16 - i) (x := i) (i + 1) (by omega) (by omega) (by repeat (first | exact Sub.nil | refine Sub.cons rfl ?_ | refine Sub.cons (lk_int rfl (by first | omega | (dsimp only; omega))) ?_)) (fun w h => h)
  · have h16 : i = 16 := by omega
    have hka := ks_all (l := l) (n := 15) h15
    rw [h16, show 16 - 1 = 15 from rfl, hka]
    ((first | refine WQ_retI rfl rfl ?_ | refine WQ_endI rfl rfl ?_); exact ⟨_, iC, rfl, rfl⟩)

set_option maxHeartbeats 2000000 in
theorem firsts_n (l : List Nat) (L : List Chunk) (hk : kS l ≤ 32768) (hl : l.length ≤ 400) :
    GvP Tryd.prog 87 [.agg (ivn (tal l)).toArray].toArray L (.agg (wnv (fsl l 16)).toArray) := by
  have htl : (ivn (tal l)).length = 16 := by rw [ivn_length, tal_length]
  have htg : ∀ i, i < 16 → (ivn (tal l))[i]? = some (.int .i64 ((if i = 0 then 0 else cn l i : Nat) : Int)) := fun i hi => ivn_get (tal_get l hi)
  generalize ivn (tal l) = tv at htl htg ⊢
  obtain ⟨F, hF⟩ : ∃ F : Nat → List Value, ∀ i, F i = wnv (fsl l i) := ⟨_, fun _ => rfl⟩
  have hF1 : wnv zI = F 1 := by rw [hF, fsl_one]; rfl
  have hFl : ∀ i, (F i).length = 16 := fun i => by rw [hF, wnv_length, fsl_length]
  rw [← hF]
  refine Gv.of_body Tryd.func87 rfl rfl ?_
  (repeat' (first | (show WL _ _ _ _ _ _ _; first | refine jA ?_ | refine jB ?_ | refine jC ?_ | refine jD ?_ | refine jE ?_ | refine jF ?_) | (show OW _ _ _ _ _ _; first | refine OW_W ?_ | refine jI ?_ | refine jJ ?_ | refine jK (fun bk => ?_) | refine jL (fun bk => ?_)) | (show WC _ _ _ _ _ _; first | refine jM ?_ | refine jN ?_ | refine jO ?_ | refine jP ?_ | refine jR ?_ | refine jS ?_ | refine jT ?_ | refine jU ?_) | (show WQ _ _ _ _; with_reducible first | refine jV ?_ | refine jW ?_ | refine jX ?_ | refine jY ?_ | refine jZ ?_ | refine kA ?_ | refine kB ?_ | refine kC ?_) | ((first | (refine jG (fun hc => ?_) (fun hc => ?_) <;> rw [hc]) | refine jQ (fun hc => ?_) (fun hc => ?_)) <;> (try simp only [nrB] at hc) <;> (try (exfalso; first | omega | exact hc trivial | exact hc rfl)))))
  rename_i b1 b2
  obtain ⟨b3, hb3⟩ : ∃ b3, b3 = bk := ⟨_, rfl⟩
  rw [← hb3]
  refine WC_loop (X := Nat) (fun i => [(1, .pointer (some ⟨b1, 0, none⟩)), (2, .pointer (some ⟨b2, 0, none⟩)), (3, .pointer (some ⟨b3, 0, none⟩)), (4, .int .i64 (i : Int))])
    (fun i => [(b3, cl (F i) 117)] :: [(b2, cl (wnv zI) 117)] :: [(b1, cl tv 125)] :: L) (fun i => 1 ≤ i ∧ i ≤ 16) (fun i => 16 - i) 1 ⟨by omega, by omega⟩ (by repeat (first | exact Sub.nil | refine Sub.cons rfl ?_ | refine Sub.cons (lk_int rfl (by first | omega | (dsimp only; omega))) ?_)) (fun w h => by rw [← hF1]; exact h) ?_
  intro i ⟨hi1, hi2⟩
  (repeat' (first | (show WL _ _ _ _ _ _ _; first | refine jA ?_ | refine jB ?_ | refine jC ?_ | refine jD ?_ | refine jE ?_ | refine jF ?_) | (show OW _ _ _ _ _ _; first | refine OW_W ?_ | refine jI ?_ | refine jJ ?_ | refine jK (fun bk => ?_) | refine jL (fun bk => ?_)) | (show WC _ _ _ _ _ _; first | refine jM ?_ | refine jN ?_ | refine jO ?_ | refine jP ?_ | refine jR ?_ | refine jS ?_ | refine jT ?_ | refine jU ?_) | (show WQ _ _ _ _; with_reducible first | refine jV ?_ | refine jW ?_ | refine jX ?_ | refine jY ?_ | refine jZ ?_ | refine kA ?_ | refine kB ?_ | refine kC ?_) | ((first | (refine jG (fun hc => ?_) (fun hc => ?_) <;> rw [hc]) | refine jQ (fun hc => ?_) (fun hc => ?_)) <;> (try simp only [nrB] at hc) <;> (try (exfalso; first | omega | exact hc trivial | exact hc rfl)))))
  · have hi15 : i ≤ 15 := by omega
    have hfit : ∀ n, 1 ≤ n → n ≤ 15 → fs l n + cn l n ≤ 32768 := fun n h1 h2 => Nat.le_trans (fs_fit hk h1 h2) (Nat.le_trans (Nat.pow_le_pow_right (by decide) h2) (by decide))
    obtain ⟨p, hp⟩ : ∃ p, p = fs l (i - 1) := ⟨_, rfl⟩
    obtain ⟨q, hq⟩ : ∃ q, q = if i - 1 = 0 then 0 else cn l (i - 1) := ⟨_, rfl⟩
    have hpq : fs l i = 2 * (p + q) := by
      obtain ⟨m, rfl⟩ : ∃ m, i = m + 1 := ⟨i - 1, by omega⟩
      rw [hp, hq]; rfl
    have hsm : p + q ≤ 32768 := by
      by_cases h0 : i - 1 = 0
      · rw [hp, hq, if_pos h0, h0]; simp [fs]
      · rw [hp, hq, if_neg h0]; exact hfit _ (by omega) (by omega)
    have hld1 : nth (F i) (0 + (i - 1) * 1) = some (.int .u32 (p : Int)) := by
      rw [hF, nth_eq, Nat.zero_add, Nat.mul_one, hp]
      have := fsl_get l i (show i - 1 < 16 by omega)
      rw [if_pos (by omega)] at this
      exact wnv_get this
    have hld2 : nth tv (0 + (i - 1) * 1) = some (.int .i64 (q : Int)) := by
      rw [nth_eq, Nat.zero_add, Nat.mul_one, hq]
      exact htg _ (show i - 1 < 16 by omega)
    refine WC_drawAll [13] mixed ?_
    (refine WR_w 0 ?_; refine WR_w 1 ?_; refine WR_w 2 ?_)
    (refine WR_take 3 rfl rfl (by kernel_rfl) (by repeat (first | with_reducible exact PO.body | with_reducible exact RP_po | with_reducible refine PO.then ?_ | with_reducible refine PO.block ?_)) iC (EV_indexAddrA' (i - 1) rfl rfl (by omega) (by omega)) (by rfl) ?_)
    (refine WR_take 4 rfl rfl (by kernel_rfl) (by repeat (first | with_reducible exact PO.body | with_reducible exact RP_po | with_reducible refine PO.then ?_ | with_reducible refine PO.block ?_)) iC (EV_loadc rfl (by repeat (first | exact Fnd.here | refine Fnd.there ?_)) hld1) (by rfl) ?_)
    (refine WR_w 5 ?_; refine WR_w 6 ?_)
    (refine WR_take 7 rfl rfl (by kernel_rfl) (by repeat (first | with_reducible exact PO.body | with_reducible exact RP_po | with_reducible refine PO.then ?_ | with_reducible refine PO.block ?_)) iC (EV_indexAddrA' (i - 1) rfl rfl (by omega) (by omega)) (by rfl) ?_)
    (refine WR_take 8 rfl rfl (by kernel_rfl) (by repeat (first | with_reducible exact PO.body | with_reducible exact RP_po | with_reducible refine PO.then ?_ | with_reducible refine PO.block ?_)) iC (EV_loadc rfl (by repeat (first | exact Fnd.here | refine Fnd.there ?_)) hld2) (by rfl) ?_)
    (refine WR_take 9 rfl rfl (by kernel_rfl) (by repeat (first | with_reducible exact PO.body | with_reducible exact RP_po | with_reducible refine PO.then ?_ | with_reducible refine PO.block ?_)) iC (EV_nconv q rfl rfl rfl (by simp only [IntKind.bits]; omega)) (by rfl) ?_)
    (refine WR_take 10 rfl rfl (by kernel_rfl) (by repeat (first | with_reducible exact PO.body | with_reducible exact RP_po | with_reducible refine PO.then ?_ | with_reducible refine PO.block ?_)) iC (EV_nadd p q rfl rfl rfl rfl rfl (by simp only [IntKind.bits]; omega)) (by rfl) ?_)
    (refine WR_take 11 rfl rfl (by kernel_rfl) (by repeat (first | with_reducible exact PO.body | with_reducible exact RP_po | with_reducible refine PO.then ?_ | with_reducible refine PO.block ?_)) iC (EV_nmul 2 (p + q) rfl rfl rfl rfl rfl (by simp only [IntKind.bits]; omega)) (by rfl) ?_)
    rw [← hpq]
    (refine WR_take 12 rfl rfl (by kernel_rfl) (by repeat (first | with_reducible exact PO.body | with_reducible exact RP_po | with_reducible refine PO.then ?_ | with_reducible refine PO.block ?_)) iC (EV_indexAddrA' i rfl rfl rfl (by omega)) (by rfl) ?_)
    (refine WR_last 13 (by kernel_rfl) rfl rfl rfl ?_)
    refine OW_storeTo (F (i + 1)) rfl rfl rfl ?_ (by repeat (first | exact Upd.here | apply Upd.there)) (by rw [hFl]; omega) ?_
    · rw [Nat.zero_add, Nat.mul_one, hF, hF, ← fsl_set l (by omega)]
      simp [wnv, List.map_set]
    (refine WR_done (by kernel_rfl) ?_)
    (repeat' (first | (show WL _ _ _ _ _ _ _; first | refine jA ?_ | refine jB ?_ | refine jC ?_ | refine jD ?_ | refine jE ?_ | refine jF ?_) | (show OW _ _ _ _ _ _; first | refine OW_W ?_ | refine jI ?_ | refine jJ ?_ | refine jK (fun bk => ?_) | refine jL (fun bk => ?_)) | (show WC _ _ _ _ _ _; first | refine jM ?_ | refine jN ?_ | refine jO ?_ | refine jP ?_ | refine jR ?_ | refine jS ?_ | refine jT ?_ | refine jU ?_) | (show WQ _ _ _ _; with_reducible first | refine jV ?_ | refine jW ?_ | refine jX ?_ | refine jY ?_ | refine jZ ?_ | refine kA ?_ | refine kB ?_ | refine kC ?_) | ((first | (refine jG (fun hc => ?_) (fun hc => ?_) <;> rw [hc]) | refine jQ (fun hc => ?_) (fun hc => ?_)) <;> (try simp only [nrB] at hc) <;> (try (exfalso; first | omega | exact hc trivial | exact hc rfl)))))
    refine WQ_round (X := Nat) (μ := fun i => 16 - i) (x := i) (i + 1) (by omega) ⟨by omega, by omega⟩ (by repeat (first | exact Sub.nil | refine Sub.cons rfl ?_ | refine Sub.cons (lk_int rfl (by first | omega | (dsimp only; omega))) ?_)) (fun w h => h)
  · have h16 : i = 16 := by omega
    rw [h16]
    have hl16 : (F 16).length = 16 := hFl 16
    have ho16 : ones (F 16) = true := by rw [hF]; exact wnv_ones
    refine OW_W ?_ (he := EV_loadAll (vs := F 16) rfl Fnd.here hl16)
    (repeat' (first | (show WL _ _ _ _ _ _ _; first | refine jA ?_ | refine jB ?_ | refine jC ?_ | refine jD ?_ | refine jE ?_ | refine jF ?_) | (show OW _ _ _ _ _ _; first | refine OW_W ?_ | refine jI ?_ | refine jJ ?_ | refine jK (fun bk => ?_) | refine jL (fun bk => ?_)) | (show WC _ _ _ _ _ _; first | refine jM ?_ | refine jN ?_ | refine jO ?_ | refine jP ?_ | refine jR ?_ | refine jS ?_ | refine jT ?_ | refine jU ?_) | (show WQ _ _ _ _; with_reducible first | refine jV ?_ | refine jW ?_ | refine jX ?_ | refine jY ?_ | refine jZ ?_ | refine kA ?_ | refine kB ?_ | refine kC ?_) | ((first | (refine jG (fun hc => ?_) (fun hc => ?_) <;> rw [hc]) | refine jQ (fun hc => ?_) (fun hc => ?_)) <;> (try simp only [nrB] at hc) <;> (try (exfalso; first | omega | exact hc trivial | exact hc rfl)))))
    refine OW_storeAggTo (l := wnv zI) (vs := F 16) (F 16) rfl rfl hl16 ho16 ?_ (by repeat (first | exact Upd.here | apply Upd.there)) (by rw [hl16]; decide) ?_
    · have e : (wnv zI).length = 16 := by decide
      simp [patch, hl16, e]
    (repeat' (first | (show WL _ _ _ _ _ _ _; first | refine jA ?_ | refine jB ?_ | refine jC ?_ | refine jD ?_ | refine jE ?_ | refine jF ?_) | (show OW _ _ _ _ _ _; first | refine OW_W ?_ | refine jI ?_ | refine jJ ?_ | refine jK (fun bk => ?_) | refine jL (fun bk => ?_)) | (show WC _ _ _ _ _ _; first | refine jM ?_ | refine jN ?_ | refine jO ?_ | refine jP ?_ | refine jR ?_ | refine jS ?_ | refine jT ?_ | refine jU ?_) | (show WQ _ _ _ _; with_reducible first | refine jV ?_ | refine jW ?_ | refine jX ?_ | refine jY ?_ | refine jZ ?_ | refine kA ?_ | refine kB ?_ | refine kC ?_) | ((first | (refine jG (fun hc => ?_) (fun hc => ?_) <;> rw [hc]) | refine jQ (fun hc => ?_) (fun hc => ?_)) <;> (try simp only [nrB] at hc) <;> (try (exfalso; first | omega | exact hc trivial | exact hc rfl)))))
    refine WQ_retC (vs := [.agg (F 16).toArray]) rfl (.agg ⟨by kernel_rfl, by kernel_rfl⟩ rfl (RdAt.cl' (vs := F 16) (Fnd.there Fnd.here) (by simp [cut])) hl16 .nil) ?_
    exact ⟨L, fun w h => (iC : Inc L _).holds h, rfl, rfl⟩

set_option maxHeartbeats 1000000 in
theorem hcomplete_n (a : Option Addr) (c : Nat) (ls : List Int) (L : List Chunk) (h : Sl L 1 (.slice a ls.length c) ls.length (intsN ls)) (hl : ls.length ≤ 17592186044416) :
    GvP Tryd.prog 74 [.slice a ls.length c].toArray L (.bool (wgt ls == 32768)) := by
  refine Gv.of_body Tryd.func74 rfl rfl ?_
  have ht := fun L' h' => tallied_n a c ls L' h' hl
  have hs := fun L' (hok : okL ls = true) => share_n (nl ls) L' (by rw [nl_length]; exact hl) (fun x hx => okL_nl hok hx)
  have hte : okL ls = true → ivn (talE ls) = ivn (tal (nl ls)) := fun hok => by unfold talE; rw [hok]; rfl
  have htl : (ivn (talE ls)).length = 16 := by rw [ivn_length, talE_length]
  have hto : ones (ivn (talE ls)) = true := ivn_ones
  generalize ivn (tal (nl ls)) = sv at hs hte
  generalize ivn (talE ls) = tv at ht hte htl hto
  (repeat' (first | (show WL _ _ _ _ _ _ _; first | refine jA ?_ | refine jB ?_ | refine jC ?_ | refine jD ?_ | refine jE ?_ | refine jF ?_) | (show OW _ _ _ _ _ _; first | refine OW_W ?_ | refine jI ?_ | refine jJ ?_ | refine jK (fun bk => ?_) | refine jL (fun bk => ?_)) | (show WC _ _ _ _ _ _; first | refine jM ?_ | refine jN ?_ | refine jO ?_ | refine jP ?_ | refine jR ?_ | refine jS ?_ | refine jT ?_ | refine jU ?_) | (show WQ _ _ _ _; with_reducible first | refine jV ?_ | refine jW ?_ | refine jX ?_ | refine jY ?_ | refine jZ ?_ | refine kA ?_ | refine kB ?_ | refine kC ?_) | ((first | (refine jG (fun hc => ?_) (fun hc => ?_) <;> rw [hc]) | refine jQ (fun hc => ?_) (fun hc => ?_)) <;> (try simp only [nrB] at hc) <;> (try (exfalso; first | omega | exact hc trivial | exact hc rfl)))))
  refine OW_callP rfl rfl rfl (ht L h) rfl ?_
  (repeat' (first | (show WL _ _ _ _ _ _ _; first | refine jA ?_ | refine jB ?_ | refine jC ?_ | refine jD ?_ | refine jE ?_ | refine jF ?_) | (show OW _ _ _ _ _ _; first | refine OW_W ?_ | refine jI ?_ | refine jJ ?_ | refine jK (fun bk => ?_) | refine jL (fun bk => ?_)) | (show WC _ _ _ _ _ _; first | refine jM ?_ | refine jN ?_ | refine jO ?_ | refine jP ?_ | refine jR ?_ | refine jS ?_ | refine jT ?_ | refine jU ?_) | (show WQ _ _ _ _; with_reducible first | refine jV ?_ | refine jW ?_ | refine jX ?_ | refine jY ?_ | refine jZ ?_ | refine kA ?_ | refine kB ?_ | refine kC ?_) | ((first | (refine jG (fun hc => ?_) (fun hc => ?_) <;> rw [hc]) | refine jQ (fun hc => ?_) (fun hc => ?_)) <;> (try simp only [nrB] at hc) <;> (try (exfalso; first | omega | exact hc trivial | exact hc rfl)))))
  refine OW_holds (L' := [(bk, cl (ivn zI) 125)] :: L) (fun w h => h) ?_
  refine OW_storeAggTo (l := ivn zI) (vs := tv) tv rfl rfl htl hto ?_ (by repeat (first | exact Upd.here | apply Upd.there)) (by rw [htl]; decide) ?_
  · have e : (ivn zI).length = 16 := by decide
    simp [patch, htl, e]
  cases hok : okL ls with
  | false =>
    rw [show wgt ls = -1 from by unfold wgt; rw [hok]; rfl]
    (repeat' (first | (show WL _ _ _ _ _ _ _; first | refine jA ?_ | refine jB ?_ | refine jC ?_ | refine jD ?_ | refine jE ?_ | refine jF ?_) | (show OW _ _ _ _ _ _; first | refine OW_W ?_ | refine jI ?_ | refine jJ ?_ | refine jK (fun bk => ?_) | refine jL (fun bk => ?_)) | (show WC _ _ _ _ _ _; first | refine jM ?_ | refine jN ?_ | refine jO ?_ | refine jP ?_ | refine jR ?_ | refine jS ?_ | refine jT ?_ | refine jU ?_) | (show WQ _ _ _ _; with_reducible first | refine jV ?_ | refine jW ?_ | refine jX ?_ | refine jY ?_ | refine jZ ?_ | refine kA ?_ | refine kB ?_ | refine kC ?_) | ((first | (refine jG (fun hc => ?_) (fun hc => ?_) <;> rw [hc]) | refine jQ (fun hc => ?_) (fun hc => ?_)) <;> (try simp only [nrB] at hc) <;> (try (exfalso; first | omega | exact hc trivial | exact hc rfl)))))
    (first | refine WQ_retI rfl rfl ?_ | refine WQ_endI rfl rfl ?_)
    exact ⟨L, iC, rfl, rfl⟩
  | true =>
    have hs := hs ([(bk, cl tv 125)] :: L) hok
    rw [← hte hok] at hs
    rw [show wgt ls = ((kS (nl ls) : Nat) : Int) from by unfold wgt; rw [hok]; rfl]
    (repeat' (first | (show WL _ _ _ _ _ _ _; first | refine jA ?_ | refine jB ?_ | refine jC ?_ | refine jD ?_ | refine jE ?_ | refine jF ?_) | (show OW _ _ _ _ _ _; first | refine OW_W ?_ | refine jI ?_ | refine jJ ?_ | refine jK (fun bk => ?_) | refine jL (fun bk => ?_)) | (show WC _ _ _ _ _ _; first | refine jM ?_ | refine jN ?_ | refine jO ?_ | refine jP ?_ | refine jR ?_ | refine jS ?_ | refine jT ?_ | refine jU ?_) | (show WQ _ _ _ _; with_reducible first | refine jV ?_ | refine jW ?_ | refine jX ?_ | refine jY ?_ | refine jZ ?_ | refine kA ?_ | refine kB ?_ | refine kC ?_) | ((first | (refine jG (fun hc => ?_) (fun hc => ?_) <;> rw [hc]) | refine jQ (fun hc => ?_) (fun hc => ?_)) <;> (try simp only [nrB] at hc) <;> (try (exfalso; first | omega | exact hc trivial | exact hc rfl)))))
    refine OW_W ?_ (he := EV_loadAll (vs := tv) rfl Fnd.here htl)
    (repeat' (first | (show WL _ _ _ _ _ _ _; first | refine jA ?_ | refine jB ?_ | refine jC ?_ | refine jD ?_ | refine jE ?_ | refine jF ?_) | (show OW _ _ _ _ _ _; first | refine OW_W ?_ | refine jI ?_ | refine jJ ?_ | refine jK (fun bk => ?_) | refine jL (fun bk => ?_)) | (show WC _ _ _ _ _ _; first | refine jM ?_ | refine jN ?_ | refine jO ?_ | refine jP ?_ | refine jR ?_ | refine jS ?_ | refine jT ?_ | refine jU ?_) | (show WQ _ _ _ _; with_reducible first | refine jV ?_ | refine jW ?_ | refine jX ?_ | refine jY ?_ | refine jZ ?_ | refine kA ?_ | refine kB ?_ | refine kC ?_) | ((first | (refine jG (fun hc => ?_) (fun hc => ?_) <;> rw [hc]) | refine jQ (fun hc => ?_) (fun hc => ?_)) <;> (try simp only [nrB] at hc) <;> (try (exfalso; first | omega | exact hc trivial | exact hc rfl)))))
    refine OW_callP rfl rfl rfl hs rfl ?_
    (repeat' (first | (show WL _ _ _ _ _ _ _; first | refine jA ?_ | refine jB ?_ | refine jC ?_ | refine jD ?_ | refine jE ?_ | refine jF ?_) | (show OW _ _ _ _ _ _; first | refine OW_W ?_ | refine jI ?_ | refine jJ ?_ | refine jK (fun bk => ?_) | refine jL (fun bk => ?_)) | (show WC _ _ _ _ _ _; first | refine jM ?_ | refine jN ?_ | refine jO ?_ | refine jP ?_ | refine jR ?_ | refine jS ?_ | refine jT ?_ | refine jU ?_) | (show WQ _ _ _ _; with_reducible first | refine jV ?_ | refine jW ?_ | refine jX ?_ | refine jY ?_ | refine jZ ?_ | refine kA ?_ | refine kB ?_ | refine kC ?_) | ((first | (refine jG (fun hc => ?_) (fun hc => ?_) <;> rw [hc]) | refine jQ (fun hc => ?_) (fun hc => ?_)) <;> (try simp only [nrB] at hc) <;> (try (exfalso; first | omega | exact hc trivial | exact hc rfl)))))
    (first | refine WQ_retI rfl rfl ?_ | refine WQ_endI rfl rfl ?_)
    exact ⟨L, iC, rfl, rfl⟩

omit [W0] in
/-- The tally of lengths that give codes. -/
def talC (ls : List Int) : List Nat := if cdE ls = 0 then tal (nl ls) else zI
theorem talC_length (ls : List Int) : (talC ls).length = 16 := by unfold talC; split <;> simp [tal, zI]

set_option maxHeartbeats 2000000 in
theorem checked_n (a : Option Addr) (c : Nat) (ls : List Int) (L : List Chunk) (h : Sl L 1 (.slice a ls.length c) ls.length (intsN ls)) (hl : ls.length ≤ 17592186044416) :
    GvP Tryd.prog 86 [.slice a ls.length c].toArray L (.tuple #[.agg (ivn (talC ls)).toArray, .int .i64 (cdE ls : Int)]) := by
  refine Gv.of_body Tryd.func86 rfl rfl ?_
  have hout : ∀ (e : Nat) (l : List Nat) (M : List (Nat × Value)) (p q : Nat) (o : Obj), cdE ls = e → talC ls = l → lk M 2 = some (.pointer (some ⟨p, 0, none⟩)) → lk M 3 = some (.int .i64 (e : Int)) →
      WQ Tryd.f86.ntmps (bodyPost Tryd.prog Tryd.f86 (fun e w' => ∃ v L', e = .returned v ∧ (v = .tuple #[.agg (ivn (talC ls)).toArray, .int .i64 (cdE ls : Int)] ∧ L' = L) ∧ Holds w' L') .ret) M ([(q, o)] :: [(p, cl (ivn l) 125)] :: L) := by
    intro b l M p q o hb hl2 h2 h3
    have hlen : (ivn l).length = 16 := by rw [ivn_length, ← hl2, talC_length]
    refine WQ_retC (vs := [.agg (ivn l).toArray, .int .i64 (b : Int)]) rfl (.agg ⟨by kernel_rfl, by kernel_rfl⟩ h2 (RdAt.cl' (vs := ivn l) (Fnd.there Fnd.here) (by simp [cut])) hlen (.tmp h3 .nil)) ?_
    exact ⟨L, fun w h => (iC : Inc L _).holds h, by rw [hb, hl2]; rfl, rfl⟩
  have ht := fun L' h' => tallied_n a c ls L' h' hl
  have hs := fun L' (hok : okL ls = true) => share_n (nl ls) L' (by rw [nl_length]; exact hl) (fun x hx => okL_nl hok hx)
  have hte : okL ls = true → ivn (talE ls) = ivn (tal (nl ls)) := fun hok => by unfold talE; rw [hok]; rfl
  have htc : cdE ls = 0 → ivn (talE ls) = ivn (talC ls) := fun h0 => by unfold talC; rw [if_pos h0, hte (cdE_inv h0).2.1]
  have htl : (ivn (talE ls)).length = 16 := by rw [ivn_length, talE_length]
  have hto : ones (ivn (talE ls)) = true := ivn_ones
  generalize ivn (tal (nl ls)) = sv at hs hte
  generalize ivn (talE ls) = tv at ht hte htl hto htc
  have hkl := kS_le (nl ls)
  rw [nl_length] at hkl
  have hbad : ∀ (e : Nat), 0 < e → cdE ls = e → talC ls = zI := fun e h0 he => by unfold talC; rw [if_neg (by omega)]
  (repeat' (first | (show WL _ _ _ _ _ _ _; first | refine jA ?_ | refine jB ?_ | refine jC ?_ | refine jD ?_ | refine jE ?_ | refine jF ?_) | (show OW _ _ _ _ _ _; first | refine OW_W ?_ | refine jI ?_ | refine jJ ?_ | refine jK (fun bk => ?_) | refine jL (fun bk => ?_)) | (show WC _ _ _ _ _ _; first | refine jM ?_ | refine jN ?_ | refine jO ?_ | refine jP ?_ | refine jR ?_ | refine jS ?_ | refine jT ?_ | refine jU ?_) | (show WQ _ _ _ _; with_reducible first | refine jV ?_ | refine jW ?_ | refine jX ?_ | refine jY ?_ | refine jZ ?_ | refine kA ?_ | refine kB ?_ | refine kC ?_) | ((first | (refine jG (fun hc => ?_) (fun hc => ?_) <;> rw [hc]) | refine jQ (fun hc => ?_) (fun hc => ?_)) <;> (try simp only [nrB] at hc) <;> (try (exfalso; first | omega | exact hc trivial | exact hc rfl)))))
  obtain ⟨b2, hb2⟩ : ∃ b2, b2 = bk := ⟨_, rfl⟩
  rw [← hb2]
  clear hb2
  refine OW_callP rfl rfl rfl (ht _ (sl_there h)) rfl ?_
  (repeat' (first | (show WL _ _ _ _ _ _ _; first | refine jA ?_ | refine jB ?_ | refine jC ?_ | refine jD ?_ | refine jE ?_ | refine jF ?_) | (show OW _ _ _ _ _ _; first | refine OW_W ?_ | refine jI ?_ | refine jJ ?_ | refine jK (fun bk => ?_) | refine jL (fun bk => ?_)) | (show WC _ _ _ _ _ _; first | refine jM ?_ | refine jN ?_ | refine jO ?_ | refine jP ?_ | refine jR ?_ | refine jS ?_ | refine jT ?_ | refine jU ?_) | (show WQ _ _ _ _; with_reducible first | refine jV ?_ | refine jW ?_ | refine jX ?_ | refine jY ?_ | refine jZ ?_ | refine kA ?_ | refine kB ?_ | refine kC ?_) | ((first | (refine jG (fun hc => ?_) (fun hc => ?_) <;> rw [hc]) | refine jQ (fun hc => ?_) (fun hc => ?_)) <;> (try simp only [nrB] at hc) <;> (try (exfalso; first | omega | exact hc trivial | exact hc rfl)))))
  obtain ⟨b4, hb4⟩ : ∃ b4, b4 = bk := ⟨_, rfl⟩
  rw [← hb4]
  refine OW_holds (L' := [(b4, cl (ivn zI) 125)] :: [(b2, cl (ivn zI) 125)] :: L) (fun w h => h) ?_
  refine OW_storeAggTo (l := ivn zI) (vs := tv) tv rfl rfl htl hto ?_ (by repeat (first | exact Upd.here | apply Upd.there)) (by rw [htl]; decide) ?_
  · have e : (ivn zI).length = 16 := by decide
    simp [patch, htl, e]
  have hz : ∀ (M : List (Nat × Value)) (K : List (Nat × Value) → List Chunk → Prop) (o : Oper) (dst : Operand) (y : Operand) (ty : TypeId) (ps : String) (af : Array Edge) (g : Option (Nat × Bool)), ev M dst = some (.pointer (some ⟨b2, 0, none⟩)) → ev M y = some (.agg (ivn zI).toArray) →
      K M ([(b4, cl tv 125)] :: [(b2, cl (ivn zI) 125)] :: L) → OW Tryd.prog Tryd.f86.ntmps ⟨none, .store 125 dst y, ty, ps, af, g⟩ K M ([(b4, cl tv 125)] :: [(b2, cl (ivn zI) 125)] :: L) := by
    intro M K o dst y ty ps af g h1 h2 h3
    exact OW_storeAggTo (l := ivn zI) (vs := ivn zI) (ivn zI) h1 h2 (by rfl) ivn_ones (by rfl) (by repeat (first | exact Upd.here | apply Upd.there)) (by decide) h3
  cases hok : okL ls with
  | false =>
    have e1 := (cdE_one (ls := ls) (.inr hok)).1
    (repeat' (first | (show WL _ _ _ _ _ _ _; first | refine jA ?_ | refine jB ?_ | refine jC ?_ | refine jD ?_ | refine jE ?_ | refine jF ?_) | (show OW _ _ _ _ _ _; first | refine OW_W ?_ | refine jI ?_ | refine jJ ?_ | refine jK (fun bk => ?_) | refine jL (fun bk => ?_)) | (show WC _ _ _ _ _ _; first | refine jM ?_ | refine jN ?_ | refine jO ?_ | refine jP ?_ | refine jR ?_ | refine jS ?_ | refine jT ?_ | refine jU ?_) | (show WQ _ _ _ _; with_reducible first | refine jV ?_ | refine jW ?_ | refine jX ?_ | refine jY ?_ | refine jZ ?_ | refine kA ?_ | refine kB ?_ | refine kC ?_) | ((first | (refine jG (fun hc => ?_) (fun hc => ?_) <;> rw [hc]) | refine jQ (fun hc => ?_) (fun hc => ?_)) <;> (try simp only [nrB] at hc) <;> (try (exfalso; first | omega | exact hc trivial | exact hc rfl)))))
    refine hz _ _ default _ _ _ _ _ _ rfl rfl ?_
    (repeat' (first | (show WL _ _ _ _ _ _ _; first | refine jA ?_ | refine jB ?_ | refine jC ?_ | refine jD ?_ | refine jE ?_ | refine jF ?_) | (show OW _ _ _ _ _ _; first | refine OW_W ?_ | refine jI ?_ | refine jJ ?_ | refine jK (fun bk => ?_) | refine jL (fun bk => ?_)) | (show WC _ _ _ _ _ _; first | refine jM ?_ | refine jN ?_ | refine jO ?_ | refine jP ?_ | refine jR ?_ | refine jS ?_ | refine jT ?_ | refine jU ?_) | (show WQ _ _ _ _; with_reducible first | refine jV ?_ | refine jW ?_ | refine jX ?_ | refine jY ?_ | refine jZ ?_ | refine kA ?_ | refine kB ?_ | refine kC ?_) | ((first | (refine jG (fun hc => ?_) (fun hc => ?_) <;> rw [hc]) | refine jQ (fun hc => ?_) (fun hc => ?_)) <;> (try simp only [nrB] at hc) <;> (try (exfalso; first | omega | exact hc trivial | exact hc rfl)))))
    exact hout 1 zI _ _ _ _ e1 (hbad 1 (by omega) e1) rfl rfl
  | true =>
    have hs := hs ([(b4, cl tv 125)] :: [(b2, cl (ivn zI) 125)] :: L) hok
    rw [← hte hok] at hs
    (repeat' (first | (show WL _ _ _ _ _ _ _; first | refine jA ?_ | refine jB ?_ | refine jC ?_ | refine jD ?_ | refine jE ?_ | refine jF ?_) | (show OW _ _ _ _ _ _; first | refine OW_W ?_ | refine jI ?_ | refine jJ ?_ | refine jK (fun bk => ?_) | refine jL (fun bk => ?_)) | (show WC _ _ _ _ _ _; first | refine jM ?_ | refine jN ?_ | refine jO ?_ | refine jP ?_ | refine jR ?_ | refine jS ?_ | refine jT ?_ | refine jU ?_) | (show WQ _ _ _ _; with_reducible first | refine jV ?_ | refine jW ?_ | refine jX ?_ | refine jY ?_ | refine jZ ?_ | refine kA ?_ | refine kB ?_ | refine kC ?_) | ((first | (refine jG (fun hc => ?_) (fun hc => ?_) <;> rw [hc]) | refine jQ (fun hc => ?_) (fun hc => ?_)) <;> (try simp only [nrB] at hc) <;> (try (exfalso; first | omega | exact hc trivial | exact hc rfl)))))
    · have e1 := (cdE_one (ls := ls) (.inl (by omega))).1
      refine hz _ _ default _ _ _ _ _ _ rfl rfl ?_
      (repeat' (first | (show WL _ _ _ _ _ _ _; first | refine jA ?_ | refine jB ?_ | refine jC ?_ | refine jD ?_ | refine jE ?_ | refine jF ?_) | (show OW _ _ _ _ _ _; first | refine OW_W ?_ | refine jI ?_ | refine jJ ?_ | refine jK (fun bk => ?_) | refine jL (fun bk => ?_)) | (show WC _ _ _ _ _ _; first | refine jM ?_ | refine jN ?_ | refine jO ?_ | refine jP ?_ | refine jR ?_ | refine jS ?_ | refine jT ?_ | refine jU ?_) | (show WQ _ _ _ _; with_reducible first | refine jV ?_ | refine jW ?_ | refine jX ?_ | refine jY ?_ | refine jZ ?_ | refine kA ?_ | refine kB ?_ | refine kC ?_) | ((first | (refine jG (fun hc => ?_) (fun hc => ?_) <;> rw [hc]) | refine jQ (fun hc => ?_) (fun hc => ?_)) <;> (try simp only [nrB] at hc) <;> (try (exfalso; first | omega | exact hc trivial | exact hc rfl)))))
      exact hout 1 zI _ _ _ _ e1 (hbad 1 (by omega) e1) rfl rfl
    refine OW_W ?_ (he := EV_loadAll (vs := tv) rfl Fnd.here htl)
    (repeat' (first | (show WL _ _ _ _ _ _ _; first | refine jA ?_ | refine jB ?_ | refine jC ?_ | refine jD ?_ | refine jE ?_ | refine jF ?_) | (show OW _ _ _ _ _ _; first | refine OW_W ?_ | refine jI ?_ | refine jJ ?_ | refine jK (fun bk => ?_) | refine jL (fun bk => ?_)) | (show WC _ _ _ _ _ _; first | refine jM ?_ | refine jN ?_ | refine jO ?_ | refine jP ?_ | refine jR ?_ | refine jS ?_ | refine jT ?_ | refine jU ?_) | (show WQ _ _ _ _; with_reducible first | refine jV ?_ | refine jW ?_ | refine jX ?_ | refine jY ?_ | refine jZ ?_ | refine kA ?_ | refine kB ?_ | refine kC ?_) | ((first | (refine jG (fun hc => ?_) (fun hc => ?_) <;> rw [hc]) | refine jQ (fun hc => ?_) (fun hc => ?_)) <;> (try simp only [nrB] at hc) <;> (try (exfalso; first | omega | exact hc trivial | exact hc rfl)))))
    refine OW_callP rfl rfl rfl hs rfl ?_
    (repeat' (first | (show WL _ _ _ _ _ _ _; first | refine jA ?_ | refine jB ?_ | refine jC ?_ | refine jD ?_ | refine jE ?_ | refine jF ?_) | (show OW _ _ _ _ _ _; first | refine OW_W ?_ | refine jI ?_ | refine jJ ?_ | refine jK (fun bk => ?_) | refine jL (fun bk => ?_)) | (show WC _ _ _ _ _ _; first | refine jM ?_ | refine jN ?_ | refine jO ?_ | refine jP ?_ | refine jR ?_ | refine jS ?_ | refine jT ?_ | refine jU ?_) | (show WQ _ _ _ _; with_reducible first | refine jV ?_ | refine jW ?_ | refine jX ?_ | refine jY ?_ | refine jZ ?_ | refine kA ?_ | refine kB ?_ | refine kC ?_) | ((first | (refine jG (fun hc => ?_) (fun hc => ?_) <;> rw [hc]) | refine jQ (fun hc => ?_) (fun hc => ?_)) <;> (try simp only [nrB] at hc) <;> (try (exfalso; first | omega | exact hc trivial | exact hc rfl)))))
    · have e1 := (cdE_three (ls := ls) (by omega) hok (by omega)).1
      refine hz _ _ default _ _ _ _ _ _ rfl rfl ?_
      (repeat' (first | (show WL _ _ _ _ _ _ _; first | refine jA ?_ | refine jB ?_ | refine jC ?_ | refine jD ?_ | refine jE ?_ | refine jF ?_) | (show OW _ _ _ _ _ _; first | refine OW_W ?_ | refine jI ?_ | refine jJ ?_ | refine jK (fun bk => ?_) | refine jL (fun bk => ?_)) | (show WC _ _ _ _ _ _; first | refine jM ?_ | refine jN ?_ | refine jO ?_ | refine jP ?_ | refine jR ?_ | refine jS ?_ | refine jT ?_ | refine jU ?_) | (show WQ _ _ _ _; with_reducible first | refine jV ?_ | refine jW ?_ | refine jX ?_ | refine jY ?_ | refine jZ ?_ | refine kA ?_ | refine kB ?_ | refine kC ?_) | ((first | (refine jG (fun hc => ?_) (fun hc => ?_) <;> rw [hc]) | refine jQ (fun hc => ?_) (fun hc => ?_)) <;> (try simp only [nrB] at hc) <;> (try (exfalso; first | omega | exact hc trivial | exact hc rfl)))))
      exact hout 3 zI _ _ _ _ e1 (hbad 3 (by omega) e1) rfl rfl
    · have e1 := (cdE_zero (ls := ls) (by omega) hok (by omega)).1
      refine OW_W ?_ (he := EV_loadAll (vs := tv) rfl Fnd.here htl)
      (repeat' (first | (show WL _ _ _ _ _ _ _; first | refine jA ?_ | refine jB ?_ | refine jC ?_ | refine jD ?_ | refine jE ?_ | refine jF ?_) | (show OW _ _ _ _ _ _; first | refine OW_W ?_ | refine jI ?_ | refine jJ ?_ | refine jK (fun bk => ?_) | refine jL (fun bk => ?_)) | (show WC _ _ _ _ _ _; first | refine jM ?_ | refine jN ?_ | refine jO ?_ | refine jP ?_ | refine jR ?_ | refine jS ?_ | refine jT ?_ | refine jU ?_) | (show WQ _ _ _ _; with_reducible first | refine jV ?_ | refine jW ?_ | refine jX ?_ | refine jY ?_ | refine jZ ?_ | refine kA ?_ | refine kB ?_ | refine kC ?_) | ((first | (refine jG (fun hc => ?_) (fun hc => ?_) <;> rw [hc]) | refine jQ (fun hc => ?_) (fun hc => ?_)) <;> (try simp only [nrB] at hc) <;> (try (exfalso; first | omega | exact hc trivial | exact hc rfl)))))
      refine OW_storeAggTo (l := ivn zI) (vs := tv) tv rfl rfl htl hto ?_ (by repeat (first | exact Upd.here | apply Upd.there)) (by rw [htl]; decide) ?_
      · have e : (ivn zI).length = 16 := by decide
        simp [patch, htl, e]
      rw [htc e1]
      (repeat' (first | (show WL _ _ _ _ _ _ _; first | refine jA ?_ | refine jB ?_ | refine jC ?_ | refine jD ?_ | refine jE ?_ | refine jF ?_) | (show OW _ _ _ _ _ _; first | refine OW_W ?_ | refine jI ?_ | refine jJ ?_ | refine jK (fun bk => ?_) | refine jL (fun bk => ?_)) | (show WC _ _ _ _ _ _; first | refine jM ?_ | refine jN ?_ | refine jO ?_ | refine jP ?_ | refine jR ?_ | refine jS ?_ | refine jT ?_ | refine jU ?_) | (show WQ _ _ _ _; with_reducible first | refine jV ?_ | refine jW ?_ | refine jX ?_ | refine jY ?_ | refine jZ ?_ | refine kA ?_ | refine kB ?_ | refine kC ?_) | ((first | (refine jG (fun hc => ?_) (fun hc => ?_) <;> rw [hc]) | refine jQ (fun hc => ?_) (fun hc => ?_)) <;> (try simp only [nrB] at hc) <;> (try (exfalso; first | omega | exact hc trivial | exact hc rfl)))))
      exact hout 0 (talC ls) _ _ _ _ e1 rfl rfl rfl
end Go.Proofs.YtkiaegkojlhaeaaDoor
