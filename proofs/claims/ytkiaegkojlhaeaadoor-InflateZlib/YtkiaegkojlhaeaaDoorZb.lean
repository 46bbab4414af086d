/- Package huff: the codes of lengths. It proves no statement by itself. No conditions. -/
import Derived.Test.YtkiaegkojlhaeaaDoorZa
namespace Go.Hf
set_option linter.all false
/-- The next code of each length, behind i symbols. -/
def nxl (l : List Nat) (i : Nat) : List Nat := (List.range 16).map fun n => if n = 0 then 0 else fs l n + cn (l.take i) n
theorem nxl_length (l : List Nat) (i : Nat) : (nxl l i).length = 16 := by simp [nxl]
theorem nxl_get (l : List Nat) (i : Nat) {n : Nat} (h : n < 16) : (nxl l i)[n]? = some (if n = 0 then 0 else fs l n + cn (l.take i) n) := by simp [nxl, h]
theorem nxl_zero (l : List Nat) : nxl l 0 = fsl l 16 := by
  refine list_ext16 (nxl_length _ _) (fsl_length _ _) fun n hn => ?_
  rw [nxl_get _ _ hn, fsl_get _ _ hn, if_pos hn]
  by_cases h : n = 0
  · subst h; rfl
  · rw [if_neg h]; simp [cn]
theorem nxl_set {l : List Nat} {i : Nat} (hi : i < l.length) (h0 : 0 < l.getD i 0) (h15 : l.getD i 0 ≤ 15) : (nxl l i).set (l.getD i 0) (fs l (l.getD i 0) + cn (l.take i) (l.getD i 0) + 1) = nxl l (i + 1) := by
  refine list_ext16 (by simp [nxl]) (nxl_length _ _) fun n hn => ?_
  rw [nxl_get _ _ hn, cn_take_succ hi]
  by_cases he : l.getD i 0 = n
  · subst he
    rw [List.getElem?_set_self (by rw [nxl_length]; exact hn), if_neg (by omega), if_pos rfl, Nat.add_assoc]
  · rw [List.getElem?_set_ne he, nxl_get _ _ hn, if_neg he, Nat.add_zero]
theorem nxl_skip {l : List Nat} {i : Nat} (hi : i < l.length) (h0 : l.getD i 0 = 0) : nxl l i = nxl l (i + 1) := by
  refine list_ext16 (nxl_length _ _) (nxl_length _ _) fun n hn => ?_
  rw [nxl_get _ _ hn, nxl_get _ _ hn, cn_take_succ hi]
  by_cases he : n = 0
  · rw [if_pos he, if_pos he]
  · rw [if_neg he, if_neg he, if_neg (by omega), Nat.add_zero]
/-- The codes of the first i symbols. -/
def cdp (l : List Nat) (i : Nat) : List Nat := (List.range l.length).map fun j => if j < i then cd l j else 0
theorem cdp_length (l : List Nat) (i : Nat) : (cdp l i).length = l.length := by simp [cdp]
theorem cdp_get {l : List Nat} {i j : Nat} (hj : j < l.length) : (cdp l i)[j]? = some (if j < i then cd l j else 0) := by simp [cdp, hj]
theorem cdp_ext {l A : List Nat} {i : Nat} (hl : A.length = l.length) (h : ∀ j, j < l.length → A[j]? = some (if j < i then cd l j else 0)) : A = cdp l i := by
  apply List.ext_getElem?
  intro j
  rcases Nat.lt_or_ge j l.length with hj | hj
  · rw [h j hj, cdp_get hj]
  · rw [List.getElem?_eq_none (by omega), List.getElem?_eq_none (by rw [cdp_length]; exact hj)]
theorem cdp_zero (l : List Nat) : cdp l 0 = List.replicate l.length 0 := by
  refine (cdp_ext (by simp) fun j hj => ?_).symm
  rw [List.getElem?_replicate, if_pos hj, if_neg (by omega)]
theorem cdp_set {l : List Nat} {i : Nat} (hi : i < l.length) : (cdp l i).set i (cd l i) = cdp l (i + 1) := by
  refine cdp_ext (by simp [cdp]) fun j hj => ?_
  by_cases he : i = j
  · subst he
    rw [List.getElem?_set_self (by rw [cdp_length]; exact hj), if_pos (by omega)]
  · rw [List.getElem?_set_ne he, cdp_get hj]
    congr 1
    have e : (j < i) = (j < i + 1) := by apply propext; omega
    simp only [e]
theorem cdp_skip {l : List Nat} {i : Nat} (h0 : l.getD i 0 = 0) : cdp l i = cdp l (i + 1) := by
  refine cdp_ext (cdp_length _ _) fun j hj => ?_
  rw [cdp_get hj]
  by_cases he : j = i
  · subst he
    rw [if_neg (by omega), if_pos (by omega)]
    unfold cd
    rw [if_pos h0]
  · congr 1
    have e : (j < i) = (j < i + 1) := by apply propext; omega
    simp only [e]
theorem cdp_end (l : List Nat) : cdp l l.length = cds l := by
  refine (cdp_ext (by simp [cds]) fun j hj => ?_).symm
  rw [if_pos hj]
  simp [cds, hj]
end Go.Hf
namespace Go.Proofs.YtkiaegkojlhaeaaDoor
open Go Go.Vx Go.Hf
variable [W0]
set_option maxRecDepth 4000
set_option linter.all false

end Go.Proofs.YtkiaegkojlhaeaaDoor
