/- NetCounts: numbered datagrams and how often each is on its way; the body. It proves no statement by itself. No conditions. -/
import Derived.Test.YtgicjngbaomigaaNd
namespace Go.Proofs.Ytgicjngbaomigaa
open Go Go.Vx
variable [W0]
set_option maxRecDepth 4000
set_option linter.all false

omit [W0] in
def gr (k : Nat) : Dg := ⟨(k : Int), (k : Int) + 1, [UInt8.ofNat k, UInt8.ofNat (3 * k)]⟩
omit [W0] in
def mkN (ks : List Nat) : Nt := ⟨64, 200, ks.map gr, 0⟩
omit [W0] in
def cntL (ks : List Nat) : List Value := (List.range 32).map fun j => .int .i64 (ks.count j : Int)
theorem cntL_len (ks : List Nat) : (cntL ks).length = 32 := by simp [cntL]
theorem cnt_get (ks : List Nat) {j : Nat} (h : j < 32) : (cntL ks)[j]? = some (.int .i64 (ks.count j : Int)) := by simp [cntL, h]
theorem cnt_push (ks : List Nat) {k : Nat} (h : k < 32) : (cntL ks).set k (.int .i64 ((ks.count k : Int) + 1)) = cntL (ks ++ [k]) := by
  apply List.ext_getElem?
  intro j
  rw [List.getElem?_set]
  rcases Nat.lt_or_ge j 32 with hj | hj
  · rw [cnt_get _ hj, cnt_get _ hj, cntL_len]
    by_cases e : k = j
    · subst e; simp [h]
    · rw [if_neg e]; simp [List.count_append, e]
  · rw [if_neg (by omega), List.getElem?_eq_none (by rw [cntL_len]; omega), List.getElem?_eq_none (by rw [cntL_len]; omega)]
theorem count_erase {ks : List Nat} {q k : Nat} (h : ks[q]? = some k) (j : Nat) : (ks.count j : Int) = ((ks.eraseIdx q).count j : Int) + (if k = j then 1 else 0) := by
  rw [List.eraseIdx_eq_take_drop_succ]
  conv => lhs; rw [split_get h]
  rw [List.count_append, List.count_append, List.count_cons]
  by_cases e : k = j
  · simp [e]; omega
  · simp [e]
theorem cnt_erase {ks : List Nat} {q k : Nat} (h : ks[q]? = some k) (hk : k < 32) : (cntL ks).set k (.int .i64 ((ks.count k : Int) - 1)) = cntL (ks.eraseIdx q) := by
  apply List.ext_getElem?
  intro j
  rw [List.getElem?_set]
  rcases Nat.lt_or_ge j 32 with hj | hj
  · rw [cnt_get _ hj, cnt_get _ hj, cntL_len]
    have hc := count_erase h j
    by_cases e : k = j
    · subst e; rw [if_pos rfl] at hc; rw [if_pos rfl, if_pos hk]; congr 2 <;> omega
    · rw [if_neg e] at hc; rw [if_neg e]; congr 2 <;> omega
  · rw [if_neg (by omega), List.getElem?_eq_none (by rw [cntL_len]; omega), List.getElem?_eq_none (by rw [cntL_len]; omega)]
theorem mk_len (ks : List Nat) : (mkN ks).grams.length = ks.length := by simp [mkN]
theorem mk_send {ks : List Nat} {k : Nat} (h : ks.length < 200) : sendN (mkN ks) (k : Int) ((k : Int) + 1) [UInt8.ofNat k, UInt8.ofNat (3 * k)] = (0, mkN (ks ++ [k])) := by
  unfold sendN
  rw [if_neg (by omega), if_neg (by simp [mkN]), if_neg (by rw [mk_len]; simp [mkN]; omega)]
  simp [mkN, gr]
theorem mk_twice (ks : List Nat) (k : Nat) : twiceN (mkN ks) (gr k) = mkN (ks ++ [k]) := by simp [twiceN, mkN]
theorem mk_take (ks : List Nat) (q : Nat) : takeN (mkN ks) q = mkN (ks.eraseIdx q) := by
  simp [takeN, mkN, List.eraseIdx_eq_take_drop_succ, List.map_take, List.map_drop]
theorem mk_get {ks : List Nat} {q k : Nat} (h : ks[q]? = some k) : (mkN ks).grams[q]? = some (gr k) := by simp [mkN, h]
theorem mk_fit {ks : List Nat} (h : ks.length ≤ 200) : Fit (mkN ks) 0 :=
  ⟨by simp [mkN], by simp [mkN], by rw [mk_len]; omega, by simp [mkN], fun d hd => by
    simp only [mkN, List.mem_map] at hd
    obtain ⟨k, _, rfl⟩ := hd
    simp [gr]⟩
theorem wrap_u8 {k : Nat} (h : k < 256) : IntKind.u8.wrap (k : Int) = ((UInt8.ofNat k).toNat : Int) := by
  simp [IntKind.wrap, IntKind.bits, IntKind.signed]
theorem wrap_u8' {k : Nat} (h : 3 * k < 256) : IntKind.u8.wrap (3 * (k : Int)) = ((UInt8.ofNat (3 * k)).toNat : Int) := by
  have := wrap_u8 h
  rw [← this]; congr 1
theorem tmod_b (x : Int) {n : Nat} (h : 0 < n) : ∃ r, x.tmod (n : Int) = r ∧ -(n : Int) < r ∧ r < (n : Int) := by
  refine ⟨_, rfl, ?_, ?_⟩
  · have h1 := Int.lt_tmod_of_pos x (show (0 : Int) < (n : Int) by omega)
    omega
  · exact Int.tmod_lt_of_pos x (by omega)
theorem tmod_p {y : Int} {n : Nat} (h : 0 < n) (hy : 0 ≤ y) : ∃ q : Nat, y.tmod (n : Int) = (q : Int) ∧ q < n := by
  have h1 := Int.tmod_lt_of_pos y (show (0 : Int) < (n : Int) by omega)
  have h2 := Int.tmod_nonneg (n : Int) hy
  exact ⟨(y.tmod n).toNat, by omega, by omega⟩
end Go.Proofs.Ytgicjngbaomigaa
