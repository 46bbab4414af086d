/- DeflateMatches returns true and leaves its arguments as they were, for every argument; the table that the program reads is tied to its text (the card). No conditions beyond the row's. -/
import Derived.Test.YtdcehmhelfohfaaGreatDoorQA1
namespace Go.Df
open Go.Vx Go.If
set_option linter.all false
theorem tabQ (s : ByteArray) (h : (List.range 256).all (fun i => s[i]? == some (UInt8.ofNat (lenB i))) = true) {w : Nat} (hw : w < 256) : s[w]? = some (UInt8.ofNat (lenB w)) := by
  rw [List.all_eq_true] at h
  have := h w (by simpa using hw)
  simpa using this
theorem lenB_le : ∀ w, w < 256 → lenB w ≤ 8 := by decide +kernel
theorem lenB_256 {v : Nat} (h1 : 256 ≤ v) (h2 : v < 65536) : lenB v = 8 + lenB (v / 256) := by
  have h0 : v / 256 ≠ 0 := by omega
  have h3 := (Nat.log2_eq_iff h0).1 rfl
  obtain ⟨k, hk⟩ : ∃ k, k = Nat.log2 (v / 256) := ⟨_, rfl⟩
  rw [← hk] at h3
  have e1 : lenB (v / 256) = k + 1 := lenB_b h3.1 h3.2
  have a1 : 2 ^ k * 256 ≤ v := (Nat.le_div_iff_mul_le (by decide)).1 h3.1
  have a2 : v < 2 ^ (k + 1) * 256 := (Nat.div_lt_iff_lt_mul (by decide)).1 h3.2
  have e2 : lenB v = k + 8 + 1 := lenB_b (by rw [Nat.pow_add]; exact a1) (by rw [show k + 8 + 1 = (k + 1) + 8 from by omega, Nat.pow_add]; exact a2)
  omega
end Go.Df
namespace Go.Vx
variable [W0] {P : Program} {n : Nat} {M : List (Nat × Value)} {L : List Chunk} {d : Nat} {ty : TypeId} {ps : String} {af : Array Edge} {g : Option (Nat × Bool)} {x y : Operand}
theorem EV_shrN {t u : TypeId} {k k' : IntKind} {a s : Nat} (hx : ev M x = some (.int k (a : Int))) (hy : ev M y = some (.int k' (s : Int))) (hs : s ≤ k.bits) :
    EV P n ⟨some d, .binOp .shr t x y u, ty, ps, af, g⟩ M L d (.int k ((a / 2 ^ s : Nat) : Int)) := by
  refine EV_shr hx hy (by omega) ?_
  rw [Int.toNat_natCast, Nat.min_eq_left hs, Int.fdiv_eq_ediv_of_nonneg _ (by exact Int.le_of_lt (Int.pow_pos (by decide)))]
  simp
end Go.Vx
namespace Go.Proofs.YtdcehmhelfohfaaGreatDoor
open Go Go.Vx Go.Hf Go.If Go.Df
variable [W0]
set_option maxRecDepth 4000
set_option linter.all false
set_option maxHeartbeats 2000000 in
theorem len64_n (v : Nat) (L : List Chunk) (h : v < 65536) : GvP Tryz.prog 149 [.int .u64 (v : Int)].toArray L (.int .i64 ((lenB v : Nat) : Int)) := by
  refine Gv.of_body Tryz.func149 rfl rfl ?_
  (repeat' first|refine kW ?_|refine kU fun bk=>?_|refine kV fun hc=>?_|refine kZ (fun hc=>?_) fun hc=>?_|fail)
  · rw [lenB_256 (by omega) h]
    obtain ⟨w, hw9⟩ : ∃ w, w = v / 256 := ⟨_, rfl⟩
    have hw : w < 256 := by omega
    rw [← hw9]
    have hle := lenB_le w hw
    refine OW_EV (EV_indexStr (j := w) (u := UInt8.ofNat (lenB w)) rfl rfl (by rw [wrap_u8]; omega) (tabQ _ (by kernel_rfl) hw)) rfl ?_
    rw [show ((UInt8.ofNat (lenB w)).toNat : Int) = ((lenB w : Nat) : Int) from by rw [UInt8.toNat_ofNat', Nat.mod_eq_of_lt (by omega)]]
    generalize lenB w = z at hle ⊢
    refine jA ?_
    refine OW_EV (EV_convII (r := (z : Int)) rfl (wrap_i64 (by omega) (by omega))) rfl ?_
    (repeat' first|refine kW ?_|refine kU fun bk=>?_|refine kV fun hc=>?_|refine kZ (fun hc=>?_) fun hc=>?_|fail)
    refine kR ?_
    exact ⟨_, iC, by rw [Int.natCast_add]; rfl, rfl⟩
  · have hw : v < 256 := by omega
    have hle := lenB_le v hw
    refine OW_EV (EV_indexStr (j := v) (u := UInt8.ofNat (lenB v)) rfl rfl (by rw [wrap_u8]; omega) (tabQ _ (by kernel_rfl) hw)) rfl ?_
    rw [show ((UInt8.ofNat (lenB v)).toNat : Int) = ((lenB v : Nat) : Int) from by rw [UInt8.toNat_ofNat', Nat.mod_eq_of_lt (by omega)]]
    generalize lenB v = z at hle ⊢
    refine jA ?_
    refine OW_EV (EV_convII (r := (z : Int)) rfl (wrap_i64 (by omega) (by omega))) rfl ?_
    (repeat' first|refine kW ?_|refine kU fun bk=>?_|refine kV fun hc=>?_|refine kZ (fun hc=>?_) fun hc=>?_|fail)
    refine kR ?_
    exact ⟨_, iC, by simp [tupled], rfl⟩
theorem len_n (v : Nat) (L : List Chunk) (h : v < 65536) : GvP Tryz.prog 132 [.int .u64 (v : Int)].toArray L (.int .i64 ((lenB v : Nat) : Int)) := by
  refine Gv.of_body Tryz.func132 rfl rfl ?_
  have h6 := len64_n v L h
  (repeat' first|refine kW ?_|refine kU fun bk=>?_|refine kV fun hc=>?_|refine kZ (fun hc=>?_) fun hc=>?_|fail)
  refine OW_callP rfl rfl rfl h6 rfl ?_
  (repeat' first|refine kW ?_|refine kU fun bk=>?_|refine kV fun hc=>?_|refine kZ (fun hc=>?_) fun hc=>?_|fail)
  refine kR ?_
  exact ⟨_, iC, rfl, rfl⟩
set_option maxHeartbeats 2000000 in
theorem place_n (v st : Nat) (L : List Chunk) (hv : v < 65536) (h1 : 1 ≤ st) (h2 : st ≤ 4) : GvP Tryz.prog 117 [.int .i64 (v : Int), .int .i64 (st : Int)].toArray L (.int .i64 ((plF v st : Nat) : Int)) := by
  refine Gv.of_body Tryz.func117 rfl rfl ?_
  have hq : v / st ≤ v := Nat.div_le_self _ _
  have hl := len_n (v / st) L (by omega)
  have hb : lenB (v / st) ≤ 16 := by
    unfold lenB
    split
    · omega
    · rename_i h0
      have := (Nat.log2_lt h0).2 (show v / st < 2 ^ 16 by omega)
      omega
  unfold plF
  (repeat' first|refine kW ?_|refine kU fun bk=>?_|refine kV fun hc=>?_|refine kZ (fun hc=>?_) fun hc=>?_|fail)
  refine OW_EV (EV_quoN v st rfl rfl rfl rfl (by omega) (by omega)) rfl ?_
  generalize v / st = y at hl hb hq ⊢
  (repeat' first|refine kW ?_|refine kU fun bk=>?_|refine kV fun hc=>?_|refine kZ (fun hc=>?_) fun hc=>?_|fail)
  refine OW_callP rfl rfl rfl hl rfl ?_
  generalize lenB y = z at hb ⊢
  (repeat' first|refine kW ?_|refine kU fun bk=>?_|refine kV fun hc=>?_|refine kZ (fun hc=>?_) fun hc=>?_|fail)
  rw [show max (0 : Int) ((z : Int) - 1) = ((z - 1 : Nat) : Int) from by omega]
  obtain ⟨x, hx⟩ : ∃ x, x = z - 1 := ⟨_, rfl⟩
  rw [← hx]
  have hst : st * x ≤ 4 * 16 := Nat.mul_le_mul h2 (by omega)
  have hv2 : v / 2 ^ x ≤ v := Nat.div_le_self _ _
  refine OW_EV (EV_ari64 (r := ((st * x : Nat) : Int)) rfl rfl (by simp [ariI]) (by omega)) rfl ?_
  (repeat' first|refine kW ?_|refine kU fun bk=>?_|refine kV fun hc=>?_|refine kZ (fun hc=>?_) fun hc=>?_|fail)
  refine OW_EV (EV_shrN (k := .i64) (a := v) (s := x) rfl rfl (by simp only [IntKind.bits]; omega)) rfl ?_
  generalize st * x = A at hst ⊢
  generalize v / 2 ^ x = B at hv2 ⊢
  (repeat' first|refine kW ?_|refine kU fun bk=>?_|refine kV fun hc=>?_|refine kZ (fun hc=>?_) fun hc=>?_|fail)
  rw [show (A : Int) + (B : Int) = ((A + B : Nat) : Int) from by omega]
  refine kR ?_
  exact ⟨_, iC, rfl, rfl⟩
theorem olen_n (n : Nat) (L : List Chunk) (h3 : 3 ≤ n) (h : n ≤ 258) : GvP Tryz.prog 108 [.int .i64 (n : Int)].toArray L (.int .i64 ((olN n : Nat) : Int)) := by
  refine Gv.of_body Tryz.func108 rfl rfl ?_
  have hp := place_n (n - 3) 4 L (by omega) (by decide) (by decide)
  have hb := olN_ok h3 h
  unfold olN at *
  (repeat' first|refine kW ?_|refine kU fun bk=>?_|refine kV fun hc=>?_|refine kZ (fun hc=>?_) fun hc=>?_|fail)
  · rw [if_pos (show n = 258 by omega)]
    refine kR ?_
    exact ⟨_, iC, rfl, rfl⟩
  · rw [if_neg (show ¬ n = 258 by omega)] at hb ⊢
    rw [show (n : Int) - 3 = ((n - 3 : Nat) : Int) from by omega]
    refine OW_callP rfl rfl rfl hp rfl ?_
    generalize plF (n - 3) 4 = z at hb ⊢
    (repeat' first|refine kW ?_|refine kU fun bk=>?_|refine kV fun hc=>?_|refine kZ (fun hc=>?_) fun hc=>?_|fail)
    rw [show (257 : Int) + (z : Int) = ((257 + z : Nat) : Int) from by omega]
    refine kR ?_
    exact ⟨_, iC, rfl, rfl⟩
theorem odist_n (d : Nat) (L : List Chunk) (h1 : 1 ≤ d) (h : d ≤ 32768) : GvP Tryz.prog 96 [.int .i64 (d : Int)].toArray L (.int .i64 ((odN d : Nat) : Int)) := by
  refine Gv.of_body Tryz.func96 rfl rfl ?_
  have hp := place_n (d - 1) 2 L (by omega) (by decide) (by decide)
  unfold odN
  (repeat' first|refine kW ?_|refine kU fun bk=>?_|refine kV fun hc=>?_|refine kZ (fun hc=>?_) fun hc=>?_|fail)
  rw [show (d : Int) - 1 = ((d - 1 : Nat) : Int) from by omega]
  refine OW_callP rfl rfl rfl hp rfl ?_
  (repeat' first|refine kW ?_|refine kU fun bk=>?_|refine kV fun hc=>?_|refine kZ (fun hc=>?_) fun hc=>?_|fail)
  refine kR ?_
  exact ⟨_, iC, rfl, rfl⟩
end Go.Proofs.YtdcehmhelfohfaaGreatDoor
namespace Go.Proofs.YtdcehmhelfohfaaGreatDoor
open Go Go.Vx Go.Hf Go.If
variable [W0]
set_option maxRecDepth 4000
set_option linter.all false
omit [W0] in
/-- The two codes of a block. -/
def csC (pc pl pd : Nat) : Chunk := [(pc, cl [.pointer (some ⟨pl, 0, none⟩), .pointer (some ⟨pd, 0, none⟩)] 186)]
end Go.Proofs.YtdcehmhelfohfaaGreatDoor
namespace Go.Proofs.YtdcehmhelfohfaaGreatDoor
open Go Go.Vx Go.Hf Go.If
variable [W0]
set_option maxRecDepth 4000
set_option linter.all false
omit [W0] in
/-- The fixed codes, once they are known. -/
def KnD (kn : Value) (K : Chunk) : Prop := (kn = .pointer none ∧ K = []) ∨ ∃ pk pl pd Cl Cd, kn = .pointer (some ⟨pk, 0, none⟩) ∧ K = csC pk pl pd ++ (Cl ++ Cd) ∧ CoD fxL pl Cl ∧ CoD fxD pd Cd
theorem KnD.one {kn : Value} {K : Chunk} (h : KnD kn K) : kn.oneCell' = true := by
  rcases h with ⟨rfl, _⟩ | ⟨pk, _, _, _, _, rfl, _⟩ <;> rfl
end Go.Proofs.YtdcehmhelfohfaaGreatDoor
namespace Go.If
open Go.Vx Go.Hf
set_option linter.all false
structure Le (a b : S6) : Prop where
  t : a.t ≤ b.t
  o : a.out.length ≤ b.out.length
theorem Le.tr {a b c : S6} (h : Le a b) (h2 : Le b c) : Le a c := ⟨Nat.le_trans h.t h2.t, Nat.le_trans h.o h2.o⟩
end Go.If
namespace Go.If
open Go.Vx Go.Hf
set_option linter.all false
def At (d : List UInt8) (t v n : Nat) : Prop := val d / 2 ^ t % 2 ^ n = v ∧ t + n ≤ 8 * d.length
theorem At.split {d : List UInt8} {t v n r m : Nat} (h : At d t (v + 2 ^ n * r) (n + m)) (hv : v < 2 ^ n) : At d t v n ∧ At d (t + n) r m := by
  obtain ⟨h1, h2⟩ := h
  rw [Nat.pow_add, Nat.mod_mul] at h1
  generalize hx : val d / 2 ^ t = x at h1
  have hp : 0 < 2 ^ n := Nat.pow_pos (by decide)
  have hlt := Nat.mod_lt x hp
  have e1 : x % 2 ^ n = v := by
    have h3 := congrArg (· % 2 ^ n) h1
    simp only [Nat.add_mul_mod_self_left] at h3
    rwa [Nat.mod_eq_of_lt hlt, Nat.mod_eq_of_lt hv] at h3
  have e2 : x / 2 ^ n % 2 ^ m = r := by
    rw [e1] at h1
    have h4 : 2 ^ n * (x / 2 ^ n % 2 ^ m) = 2 ^ n * r := by omega
    exact Nat.eq_of_mul_eq_mul_left hp h4
  refine ⟨⟨by rw [hx]; exact e1, by omega⟩, ⟨?_, by omega⟩⟩
  rw [Nat.pow_add, ← Nat.div_div_eq_div_mul, hx]
  exact e2
def itV : List (Nat × Nat) → Nat
  | [] => 0
  | x :: r => x.1 + 2 ^ x.2 * itV r
def itL : List (Nat × Nat) → Nat
  | [] => 0
  | x :: r => x.2 + itL r
theorem itL_app : ∀ a b : List (Nat × Nat), itL (a ++ b) = itL a + itL b
  | [], b => by simp [itL]
  | x :: a, b => by rw [List.cons_append, itL, itL, itL_app a b]; omega
theorem itV_app : ∀ a b : List (Nat × Nat), itV (a ++ b) = itV a + 2 ^ itL a * itV b
  | [], b => by simp [itV, itL]
  | x :: a, b => by
    rw [List.cons_append, itV, itV, itL, itV_app a b, Nat.mul_add, Nat.pow_add, Nat.mul_assoc]
    omega
end Go.If
namespace Go.Df
open Go.Vx Go.Hf Go.If
set_option linter.all false
theorem cdFit {l : List Nat} (hk : kS l ≤ 32768) (h15 : ∀ i, l.getD i 0 ≤ 15) {s : Nat} (hs : s < l.length) (h0 : 0 < l.getD s 0) : cd l s < 2 ^ l.getD s 0 := by
  have hi : l[s]? = some (l.getD s 0) := by simp [List.getD, hs]
  exact Nat.lt_of_lt_of_le (cd_in hi (by omega)).2 (fs_fit hk h0 (h15 s))
def Bi (d : List UInt8) (t : Nat) (a : List (Nat × Nat)) : Prop := At d t (itV a) (itL a)
theorem Bi.cons [W0] {d : List UInt8} {t : Nat} {x : Nat × Nat} {a : List (Nat × Nat)} (h : Bi d t (x :: a)) (hx : x.1 < 2 ^ x.2) : At d t x.1 x.2 ∧ Bi d (t + x.2) a := At.split (v := x.1) (n := x.2) (r := itV a) (m := itL a) h hx
def sc [W0] (l : List Nat) (i : Nat) : Nat × Nat := (mir (cd l i) (l.getD i 0), l.getD i 0)
structure Cok (l : List Nat) : Prop where
  k : kS l ≤ 32768
  le : ∀ x ∈ l, x ≤ 15
theorem Cok.at {l : List Nat} (h : Cok l) (i : Nat) : l.getD i 0 ≤ 15 := by
  by_cases hi : i < l.length
  · have e : l.getD i 0 = l[i] := by simp [List.getD, hi]
    rw [e]; exact h.le _ (List.getElem_mem hi)
  · rw [show l.getD i 0 = 0 from by simp [List.getD, List.getElem?_eq_none (Nat.le_of_not_lt hi)]]; omega
inductive Tok
  | lit (c : UInt8)
  | mt (k x t y : Nat)
def lnT (k x : Nat) : Nat := (lnB k).1 + x
def tkI [W0] (l dl : List Nat) : Tok → List (Nat × Nat)
  | .lit c => [sc l c.toNat]
  | .mt k x t y => [sc l k, (x, (lnB k).2), sc dl t, (y, exB t 2 4)]
def tkN : Tok → Nat
  | .lit _ => 1
  | .mt k x _ _ => lnT k x
def tsI [W0] (l dl : List Nat) : List Tok → List (Nat × Nat)
  | [] => []
  | k :: r => tkI l dl k ++ tsI l dl r
end Go.Df
namespace Go.Df
open Go.Vx Go.Hf Go.If
set_option linter.all false
inductive Rl
  | len (v : Nat)
  | rep (x : Nat)
  | few (x : Nat)
  | more (x : Nat)
def rlW : Rl → List Nat → List Nat
  | .len v, l => l ++ [v]
  | .rep x, l => l ++ List.replicate (3 + x) (l.getD (l.length - 1) 0)
  | .few x, l => l ++ List.replicate (3 + x) 0
  | .more x, l => l ++ List.replicate (11 + x) 0
def rlN : Rl → Nat
  | .len _ => 1
  | .rep x => 3 + x
  | .few x => 3 + x
  | .more x => 11 + x
def rlOk (own : List Nat) (n : Nat) : Rl → Prop
  | .len v => v ≤ 15 ∧ 0 < own.getD v 0
  | .rep x => 0 < n ∧ x < 4 ∧ 0 < own.getD 16 0
  | .few x => x < 8 ∧ 0 < own.getD 17 0
  | .more x => x < 128 ∧ 0 < own.getD 18 0
def rsW : List Rl → List Nat → List Nat
  | [], l => l
  | r :: q, l => rsW q (rlW r l)
def rsN : List Rl → Nat
  | [] => 0
  | r :: q => rlN r + rsN q
def rsOk (own : List Nat) : Nat → List Rl → Prop
  | _, [] => True
  | n, r :: q => rlOk own n r ∧ rsOk own (n + rlN r) q
structure HdOk (own : List Nat) (n1 n2 z : Nat) (rs : List Rl) : Prop where
  n1a : 257 ≤ n1
  n1b : n1 ≤ 286
  n2a : 1 ≤ n2
  n2b : n2 ≤ 30
  ol : own.length = 19
  o7 : ∀ i, own.getD i 0 ≤ 7
  ok : kS own = 32768
  zb : z ≤ 15
  zz : ∀ i, 4 + z ≤ i → i < 19 → own.getD (ordL.getD i 0) 0 = 0
  ro : rsOk own 0 rs
  rn : rsN rs = n1 + n2
  e256 : (rsW rs []).getD 256 0 ≠ 0
  kl : kS ((rsW rs []).take n1) = 32768
  kd : kS ((rsW rs []).drop n1) = 32768 ∨ sgl ((rsW rs []).drop n1) = true
theorem HdOk.own {own : List Nat} {n1 n2 z : Nat} {rs : List Rl} (h : HdOk own n1 n2 z rs) : Cok own := ⟨by rw [h.ok]; exact Nat.le_refl _, fun x hx => by
  obtain ⟨i, hi, rfl⟩ := List.getElem_of_mem hx
  have := h.o7 i
  rw [show own.getD i 0 = own[i] from by simp [List.getD, hi]] at this
  omega⟩
end Go.Df
namespace Go.Vx
open Go
set_option linter.all false
def flt {α : Type} (f : α → List Value) : List α → List Value
  | [] => []
  | x :: r => f x ++ flt f r
theorem flt_drop {α : Type} {f : α → List Value} {k : Nat} (h : ∀ x, (f x).length = k) : ∀ (a : List α) (n : Nat), (flt f a).drop (n * k) = flt f (a.drop n)
  | a, 0 => by simp
  | [], n + 1 => by simp [flt]
  | x :: a, n + 1 => by
    rw [flt, List.drop_succ_cons, ← flt_drop h a n, Nat.succ_mul, List.drop_append, h, show n * k + k - k = n * k from by omega, List.drop_of_length_le (by rw [h]; omega), List.nil_append]
theorem flt_at {α : Type} {f : α → List Value} {k : Nat} (h : ∀ x, (f x).length = k) {a : List α} {j : Nat} {x : α} (hj : a[j]? = some x) : cut (flt f a) (j * k) k = f x := by
  unfold cut
  rw [flt_drop h]
  have hlt : j < a.length := by
    rcases Nat.lt_or_ge j a.length with h' | h'
    · exact h'
    · simp [List.getElem?_eq_none h'] at hj
  have hx : a[j] = x := by rw [List.getElem?_eq_getElem hlt] at hj; simpa using hj
  rw [List.drop_eq_getElem_cons hlt, hx, flt, List.take_append_of_le_length (by rw [h]; exact Nat.le_refl _), List.take_of_length_le (by rw [h]; exact Nat.le_refl _)]
theorem Rs.elem [W0] {L : List Chunk} {k m : Nat} {v : Value} {xs : List Value} (h : Rs L k v m xs) {j : Nat} (hj : j < m) (hk : 0 < k) :
    ∃ b off cap, v = .slice (some ⟨b, off, none⟩) m cap ∧ RdAt L ⟨b, off + j * k, none⟩ (cut xs (j * k) k) := by
  have hlen := h.len
  have hjk : j * k + k ≤ m * k := by rw [← Nat.succ_mul]; exact Nat.mul_le_mul_right k hj
  rcases h.sl with ⟨c, rfl, rfl, _⟩ | ⟨a, cap, rfl, hr, hl⟩
  · omega
  · rcases hr with h0 | ⟨b, off, cc, TT, fr, rfl, hf, hc⟩
    · rw [h0] at hlen
      simp only [List.length_nil] at hlen
      omega
    · refine ⟨b, off, cap, rfl, .inr ⟨b, off + j * k, cc, TT, fr, rfl, hf, fun q u hq => ?_⟩⟩
      unfold cut at hq
      rw [List.getElem?_take] at hq
      split at hq
      · rw [List.getElem?_drop] at hq
        rw [Nat.add_assoc]
        exact hc _ _ hq
      · cases hq
theorem RdAt.sub [W0] {L L' : List Chunk} (hs : ∀ x ∈ L.flatten, x ∈ L'.flatten) {a : Addr} {vs : List Value} (h : RdAt L a vs) : RdAt L' a vs := rd_sub hs h
end Go.Vx
namespace Go.Df
open Go.Vx Go.If Go.Hf
set_option linter.all false
def TkOk (t : Nat × Nat) : Prop := (t.2 = 0 ∧ t.1 < 256) ∨ (1 ≤ t.2 ∧ t.2 ≤ 32768 ∧ 3 ≤ t.1 ∧ t.1 ≤ 258)
def tsy (t : Nat × Nat) : Nat := if t.2 = 0 then t.1 else olN t.1
def tok (t : Nat × Nat) : Tok := if t.2 = 0 then .lit (UInt8.ofNat t.1) else .mt (olN t.1) (t.1 - (lnB (olN t.1)).1) (odN t.2) (t.2 - baB 1 2 4 (odN t.2))
theorem tsy_lt {t : Nat × Nat} (h : TkOk t) : tsy t < 286 ∧ (t.2 ≠ 0 → 257 ≤ tsy t) ∧ tsy t ≠ 256 := by
  unfold tsy
  rcases h with ⟨h1, h2⟩ | ⟨h1, h2, h3, h4⟩
  · rw [if_pos h1]; exact ⟨by omega, fun h => absurd h1 h, by omega⟩
  · rw [if_neg (by omega)]
    have := olN_ok h3 h4
    exact ⟨by omega, fun _ => this.1, by omega⟩
theorem tsI_app [W0] {l dl : List Nat} : ∀ (a b : List Tok), tsI l dl (a ++ b) = tsI l dl a ++ tsI l dl b
  | [], b => rfl
  | x :: a, b => by simp only [List.cons_append, tsI, tsI_app a b, List.append_assoc]
theorem takeSucc {α : Type} {l : List α} {j : Nat} {x : α} (h : l[j]? = some x) : l.take (j + 1) = l.take j ++ [x] := by
  rw [List.take_succ, h]; rfl
end Go.Df
namespace Go.Proofs.YtdcehmhelfohfaaGreatDoor
open Go Go.Vx Go.Hf Go.If Go.Df
variable [W0]
set_option maxRecDepth 4000
set_option linter.all false
theorem cvW {n : Nat} (h : n < 4294967296) : IntKind.u32.wrap (n : Int) = (n : Int) := wrap_nat (k := .u32) rfl (by simp only [IntKind.bits]; omega)
omit [W0] in
def TkV (t : Nat × Nat) : List Value := [.int .i64 (t.1 : Int), .int .i64 (t.2 : Int)]
omit [W0] in
theorem TkV_len (t : Nat × Nat) : (TkV t).length = 2 := rfl
structure TkR (L : List Chunk) (v : Value) (ts : List (Nat × Nat)) : Prop where
  rs : Rs L 2 v ts.length (flt TkV ts)
  ok : ∀ t ∈ ts, TkOk t
theorem TkR.sub {L L' : List Chunk} (hs : ∀ x ∈ L.flatten, x ∈ L'.flatten) {v : Value} {ts : List (Nat × Nat)} (h : TkR L v ts) : TkR L' v ts := ⟨h.rs.sub hs, h.ok⟩
structure CdR (L : List Chunk) (vl vc : Value) (ls : List Nat) : Prop where
  l : Rs L 1 vl ls.length (ivn ls)
  c : Rs L 1 vc ls.length (wnv (cds ls))
  ok : Cok ls
  n : ls.length ≤ 400
theorem CdR.sub {L L' : List Chunk} (hs : ∀ x ∈ L.flatten, x ∈ L'.flatten) {vl vc : Value} {ls : List Nat} (h : CdR L vl vc ls) : CdR L' vl vc ls := ⟨h.l.sub hs, h.c.sub hs, h.ok, h.n⟩
def WrI (p : Nat) (a : List (Nat × Nat)) (D E : Chunk) : Prop := WrD p (itV a) (itL a) D E
theorem WrI.add {p : Nat} {a : List (Nat × Nat)} {v n : Nat} {D E : Chunk} (h : WrD p (itV a + 2 ^ itL a * v) (itL a + n) D E) : WrI p (a ++ [(v, n)]) D E := by
  unfold WrI
  rw [itV_app, itL_app]
  simp only [itV, itL, Nat.mul_zero, Nat.add_zero]
  exact h
theorem WrI.new (p : Nat) : WrI p [] [(p, cl [.slice none 0 0, .int .u64 0, .int .i64 0] 74)] [] := WrD.new p
theorem iput_n (p v n : Nat) (a : List (Nat × Nat)) (D E : Chunk) (L : List Chunk) (h : WrI p a D E) (hn : n ≤ 32) (hv : v < 2 ^ n) (hN : itL a ≤ 1125899906841600) :
    Gv Tryz.prog 32 [.pointer (some ⟨p, 0, none⟩), .int .u32 (v : Int), .int .i64 (n : Int)].toArray (D :: E :: L) (fun r L' => r = .tuple #[] ∧ ∃ D' E', WrI p (a ++ [(v, n)]) D' E' ∧ L' = D' :: E' :: L) := by
  have hp := put_n p (itV a) (itL a) v (n : Int) D E L h (Nat.lt_of_lt_of_le hv (Nat.pow_le_pow_right (by decide) hn)) hN
  refine hp.mono fun r L' hq => ?_
  obtain ⟨rfl, D', E', hw, rfl⟩ := hq
  rw [clp_nat hn, Nat.mod_eq_of_lt hv] at hw
  exact ⟨rfl, D', E', WrI.add hw, rfl⟩
theorem tsym_n (t : Nat × Nat) (L : List Chunk) (h : TkOk t) : GvP Tryz.prog 86 [.agg (TkV t).toArray].toArray L (.int .i64 ((tsy t : Nat) : Int)) := by
  refine Gv.of_body Tryz.func86 rfl rfl ?_
  obtain ⟨v, d⟩ := t
  have ho := fun L => olen_n v L
  unfold TkV tsy
  unfold TkOk at h
  simp only at h ho ⊢
  (repeat' first|refine kW ?_|refine kU fun bk=>?_|refine kV fun hc=>?_|refine kZ (fun hc=>?_) fun hc=>?_|fail)
  · rw [if_pos (show d = 0 by omega)]
    refine kR ?_
    exact ⟨_, iC, rfl, rfl⟩
  · rw [if_neg (show ¬ d = 0 by omega)]
    refine OW_callP rfl rfl rfl (ho _ (by omega) (by omega)) rfl ?_
    (repeat' first|refine kW ?_|refine kU fun bk=>?_|refine kV fun hc=>?_|refine kZ (fun hc=>?_) fun hc=>?_|fail)
    refine kR ?_
    exact ⟨_, iC, rfl, rfl⟩
set_option maxHeartbeats 4000000 in
theorem cwrite_n (vl vc : Value) (ls : List Nat) (i p : Nat) (a : List (Nat × Nat)) (D E : Chunk) (L : List Chunk) (hc : CdR L vl vc ls) (hi : i < ls.length) (h : WrI p a D E) (hN : itL a ≤ 1125899906841600) :
    Gv Tryz.prog 87 [.agg #[vl, vc], .int .i64 (i : Int), .pointer (some ⟨p, 0, none⟩)].toArray (D :: E :: L) (fun r L' => r = .tuple #[] ∧ ∃ D' E', WrI p (a ++ [sc ls i]) D' E' ∧ L' = D' :: E' :: L) := by
  refine Gv.of_body Tryz.func87 rfl rfl ?_
  have h15 := hc.ok.at i
  have hcd : cd ls i < 2 ^ 32 := by
    by_cases h0 : 0 < ls.getD i 0
    · exact Nat.lt_of_lt_of_le (cdFit hc.ok.k hc.ok.at hi h0) (Nat.pow_le_pow_right (by decide) (by omega))
    · unfold cd; rw [if_pos (by omega)]; decide
  have hcode := fun B => code_n p (itV a) (itL a) (cd ls i) ((ls.getD i 0 : Nat) : Int) D E (B :: L) h hcd hN
  have hgl : (ivn ls)[i]? = some (.int .i64 ((ls.getD i 0 : Nat) : Int)) := ivn_get (by simp [List.getD, hi])
  have hgc : (wnv (cds ls))[i]? = some (.int .u32 ((cd ls i : Nat) : Int)) := by simp [wnv, cds, hi]
  obtain ⟨b1, o1, c1, cc1, T1, f1, rfl, hf1, hv1⟩ := sl_at hc.l.sl hgl
  obtain ⟨b2, o2, c2, cc2, T2, f2, rfl, hf2, hv2⟩ := sl_at hc.c.sl hgc
  unfold sc
  generalize ls.getD i 0 = n at h15 hcode hv1 ⊢
  generalize cd ls i = x at hcode hcd hv2 ⊢
  (repeat' first|refine kW ?_|refine kU fun bk=>?_|refine kV fun hc=>?_|refine kZ (fun hc=>?_) fun hc=>?_|fail)
  refine WC_drawAll [11] mixed ?_
  (refine WR_t 0 ?_; refine WR_t 1 ?_; refine WR_t 2 ?_; refine WR_t 3 ?_)
  (refine WR_take 4 rfl rfl (by kernel_rfl) iP iC (EV_indexAddr (j := i) rfl rfl rfl hi) (by rfl) ?_)
  (refine WR_take 5 rfl rfl (by kernel_rfl) iP iC (EV_load rfl (.there (.there (.there hf2))) hv2) (by rfl) ?_)
  (refine WR_t 6 ?_; refine WR_t 7 ?_; refine WR_t 8 ?_)
  (refine WR_take 9 rfl rfl (by kernel_rfl) iP iC (EV_indexAddr (j := i) rfl rfl rfl hi) (by rfl) ?_)
  (refine WR_take 10 rfl rfl (by kernel_rfl) iP iC (EV_load rfl (.there (.there (.there hf1))) hv1) (by rfl) ?_)
  (refine WR_last 11 (by kernel_rfl) rfl rfl rfl ?_)
  refine OW_call rfl rfl rfl (Gv.holds (hcode _) (fun w h => iH h)) rfl (fun r L' hp => ?_)
  obtain ⟨rfl, D', E', hw, rfl⟩ := hp
  rw [clp_nat (by omega)] at hw
  (refine WR_done (by kernel_rfl) ?_)
  (repeat' first|refine kW ?_|refine kU fun bk=>?_|refine kV fun hc=>?_|refine kZ (fun hc=>?_) fun hc=>?_|fail)
  refine kR ?_
  exact ⟨_, iC, rfl, D', E', WrI.add hw, rfl⟩
omit [W0] in
/-- A block's codes and tokens, as they lie. -/
def cdV (vt v1 v2 v3 v4 : Value) (size : Nat) : List Value := [vt, v1, v2, v3, v4, .int .i64 (size : Int)]
structure CoR (L : List Chunk) (vt v1 v2 v3 v4 : Value) (ts : List (Nat × Nat)) (l dl : List Nat) : Prop where
  t : TkR L vt ts
  a : CdR L v1 v2 l
  b : CdR L v3 v4 dl
  ll : 286 ≤ l.length
  dd : 30 ≤ dl.length
  nt : ts.length ≤ 200000
theorem CoR.sub {L L' : List Chunk} (hs : ∀ x ∈ L.flatten, x ∈ L'.flatten) {vt v1 v2 v3 v4 : Value} {ts : List (Nat × Nat)} {l dl : List Nat} (h : CoR L vt v1 v2 v3 v4 ts l dl) : CoR L' vt v1 v2 v3 v4 ts l dl :=
  ⟨h.t.sub hs, h.a.sub hs, h.b.sub hs, h.ll, h.dd, h.nt⟩
theorem sub_there {L : List Chunk} {C : Chunk} : ∀ x ∈ L.flatten, x ∈ (C :: L).flatten := fun x hx => by simp [hx]
set_option maxHeartbeats 4000000 in
theorem wdist_n (vt v1 v2 v3 v4 : Value) (size d p : Nat) (ts : List (Nat × Nat)) (l dl : List Nat) (a : List (Nat × Nat)) (D E : Chunk) (L : List Chunk) (hc : CoR L vt v1 v2 v3 v4 ts l dl) (h1 : 1 ≤ d) (h2 : d ≤ 32768) (h : WrI p a D E) (hN : itL a ≤ 1125899906841500) :
    Gv Tryz.prog 89 [.agg (cdV vt v1 v2 v3 v4 size).toArray, .int .i64 (d : Int), .pointer (some ⟨p, 0, none⟩)].toArray (D :: E :: L) (fun r L' => r = .tuple #[] ∧ ∃ D' E', WrI p (a ++ [sc dl (odN d), (d - baB 1 2 4 (odN d), exB (odN d) 2 4)]) D' E' ∧ L' = D' :: E' :: L) := by
  refine Gv.of_body Tryz.func89 rfl rfl ?_
  have hod := fun L => odist_n d L h1 h2
  obtain ⟨k1, k2, k3⟩ := odN_ok h1 h2
  have hb := dsB_b (odN d) (by omega)
  have hsd := fun L => sdistance_n (odN d) L (by omega)
  have hcw := fun B => cwrite_n v3 v4 dl (odN d) p a D E (B :: L) (hc.b.sub sub_there) (by have := hc.dd; omega) h (by omega)
  have hsl : (sc dl (odN d)).2 ≤ 15 := hc.b.ok.at _
  have hpu := fun D' E' B hw => iput_n p (d - baB 1 2 4 (odN d)) (exB (odN d) 2 4) (a ++ [sc dl (odN d)]) D' E' (B :: L) hw (by omega) k3 (by rw [itL_app]; simp only [itL]; omega)
  rw [List.append_assoc] at hpu
  generalize sc dl (odN d) = it at hcw hpu ⊢
  generalize baB 1 2 4 (odN d) = z at k2 k3 hsd hpu hb ⊢
  generalize exB (odN d) 2 4 = e at k3 hsd hpu hb ⊢
  generalize odN d = t at *
  unfold cdV
  (repeat' first|refine kW ?_|refine kU fun bk=>?_|refine kV fun hc=>?_|refine kZ (fun hc=>?_) fun hc=>?_|fail)
  refine OW_callP rfl rfl rfl (hod _) rfl ?_
  (repeat' first|refine kW ?_|refine kU fun bk=>?_|refine kV fun hc=>?_|refine kZ (fun hc=>?_) fun hc=>?_|fail)
  refine OW_call rfl rfl rfl (Gv.holds (hcw _) (fun w h => iH h)) rfl (fun r L' hp => ?_)
  obtain ⟨rfl, D', E', hw, rfl⟩ := hp
  have hpu := fun B => hpu D' E' B hw
  (repeat' first|refine kW ?_|refine kU fun bk=>?_|refine kV fun hc=>?_|refine kZ (fun hc=>?_) fun hc=>?_|fail)
  refine OW_callP rfl rfl rfl (hsd _) rfl ?_
  (repeat' first|refine kW ?_|refine kU fun bk=>?_|refine kV fun hc=>?_|refine kZ (fun hc=>?_) fun hc=>?_|fail)
  rw [show (d : Int) - (z : Int) = ((d - z : Nat) : Int) from by omega] 
  rw [cvW (show d - z < 4294967296 by omega)]
  refine OW_call rfl rfl rfl (Gv.holds (hpu _) (fun w h => iH h)) rfl (fun r L' hp => ?_)
  obtain ⟨rfl, D2, E2, hw2, rfl⟩ := hp
  (repeat' first|refine kW ?_|refine kU fun bk=>?_|refine kV fun hc=>?_|refine kZ (fun hc=>?_) fun hc=>?_|fail)
  refine kR ?_
  exact ⟨_, iC, rfl, D2, E2, hw2, rfl⟩
end Go.Proofs.YtdcehmhelfohfaaGreatDoor
namespace Go.Df
open Go.Vx Go.If Go.Hf
set_option linter.all false
theorem tkI_le [W0] {l dl : List Nat} (hl : Cok l) (hd : Cok dl) {t : Nat × Nat} (h : TkOk t) : itL (tkI l dl (tok t)) ≤ 48 := by
  unfold tok
  have h1 := hl.at
  have h2 := hd.at
  rcases h with ⟨h0, h3⟩ | ⟨h3, h4, h5, h6⟩
  · rw [if_pos h0]
    simp only [tkI, itL, sc]
    have := h1 (UInt8.ofNat t.1).toNat
    omega
  · rw [if_neg (by omega)]
    have k1 := olN_ok h5 h6
    have k2 := odN_ok h3 h4
    have k3 := lnB_b (olN t.1) (by omega) (by omega)
    have k4 := dsB_b (odN t.2) (by omega)
    simp only [tkI, itL, sc]
    have := h1 (olN t.1)
    have := h2 (odN t.2)
    omega
theorem tsI_le [W0] {l dl : List Nat} (hl : Cok l) (hd : Cok dl) : ∀ {ts : List (Nat × Nat)}, (∀ t ∈ ts, TkOk t) → itL (tsI l dl (ts.map tok)) ≤ 48 * ts.length
  | [], _ => by simp [tsI, itL]
  | t :: r, h => by
    have h1 := tkI_le hl hd (h t (by simp))
    have h2 := tsI_le hl hd (ts := r) (fun x hx => h x (by simp [hx]))
    rw [List.map_cons, tsI, itL_app, List.length_cons]
    omega
theorem tkI_lit [W0] {l dl : List Nat} {t : Nat × Nat} (h : TkOk t) (h0 : t.2 = 0) : tkI l dl (tok t) = [sc l (tsy t)] := by
  unfold tok tsy
  rw [if_pos h0, if_pos h0]
  simp only [tkI]
  have hlt : t.1 < 256 := by rcases h with ⟨_, h⟩ | ⟨h, _⟩; exact h; omega
  rw [UInt8.toNat_ofNat', Nat.mod_eq_of_lt hlt]
theorem tkI_mt [W0] {l dl : List Nat} {t : Nat × Nat} (h0 : t.2 ≠ 0) : tkI l dl (tok t) = [sc l (tsy t)] ++ ([(t.1 - (lnB (tsy t)).1, (lnB (tsy t)).2)] ++ [sc dl (odN t.2), (t.2 - baB 1 2 4 (odN t.2), exB (odN t.2) 2 4)]) := by
  unfold tok tsy
  rw [if_neg h0, if_neg h0]
  rfl
end Go.Df
namespace Go.Proofs.YtdcehmhelfohfaaGreatDoor
open Go Go.Vx Go.Hf Go.If Go.Df
variable [W0]
set_option maxRecDepth 4000
set_option linter.all false
def coI (l dl : List Nat) (ts : List (Nat × Nat)) : List (Nat × Nat) := tsI l dl (ts.map tok) ++ [sc l 256]
set_option maxHeartbeats 8000000 in
theorem cowrite_n (vt v1 v2 v3 v4 : Value) (size p : Nat) (ts : List (Nat × Nat)) (l dl : List Nat) (a : List (Nat × Nat)) (D E : Chunk) (L : List Chunk) (hK : CoR L vt v1 v2 v3 v4 ts l dl) (h : WrI p a D E) (hN : itL a ≤ 1125890000000000) :
    Gv Tryz.prog 60 [.agg (cdV vt v1 v2 v3 v4 size).toArray, .pointer (some ⟨p, 0, none⟩)].toArray (D :: E :: L) (fun r L' => r = .tuple #[] ∧ ∃ D' E', WrI p (a ++ coI l dl ts) D' E' ∧ L' = D' :: E' :: L) := by
  refine Gv.of_body Tryz.func60 rfl rfl ?_
  obtain ⟨ta, tc, hvt9⟩ : ∃ ta tc, vt = .slice ta ts.length tc := by obtain ⟨a, c, h, _⟩ := hK.t.rs.room; exact ⟨a, c, h⟩
  subst hvt9
  have hnt := hK.nt
  have hle := fun j => tsI_le hK.a.ok hK.b.ok (ts := ts.take j) (fun t ht => hK.t.ok t (List.mem_of_mem_take ht))
  unfold cdV
  (repeat' first|refine kW ?_|refine kU fun bk=>?_|refine kV fun hc=>?_|refine kZ (fun hc=>?_) fun hc=>?_|fail)
  refine WC_loop (X := Nat × Chunk × Chunk) (fun x => [(1, .pointer (some ⟨p, 0, none⟩)), (2, .pointer (some ⟨bk, 0, none⟩)), (10, .slice ta ts.length tc), (11, .int .i64 (ts.length : Int)), (12, .int .i64 (x.1 : Int))]) (fun x => [(bk, cl [.slice ta ts.length tc, v1, v2, v3, v4, .int .i64 (size : Int)] 89)] :: x.2.1 :: x.2.2 :: L)
    (fun x => x.1 ≤ ts.length ∧ WrI p (a ++ tsI l dl ((ts.take x.1).map tok)) x.2.1 x.2.2) (fun x => ts.length - x.1) (0, D, E) ⟨Nat.zero_le _, by simpa [tsI] using h⟩ iS (fun w h => h) ?_
  clear h D E
  rintro ⟨j, D, E⟩ ⟨hj, h⟩
  simp only at hj h ⊢
  have hlj := hle j
  rw [List.length_take, Nat.min_eq_left hj] at hlj
  generalize hA : a ++ tsI l dl ((ts.take j).map tok) = A at h
  have hAL : itL A ≤ 1125890000000000 + 48 * j := by rw [← hA, itL_app]; omega
  (repeat' first|refine kW ?_|refine kU fun bk=>?_|refine kV fun hc=>?_|refine kZ (fun hc=>?_) fun hc=>?_|fail)
  · have hjl : j < ts.length := by omega
    obtain ⟨t, ht⟩ : ∃ t, ts[j]? = some t := ⟨ts[j], List.getElem?_eq_getElem hjl⟩
    have hto := hK.t.ok t (List.mem_of_getElem? ht)
    have hsy := tsy_lt hto
    obtain ⟨tb, toff, tcap, hv9, hrd⟩ := hK.t.rs.elem hjl (by decide)
    injection hv9 with q1 q2 q3
    subst q1 q3
    clear q2
    rw [flt_at TkV_len ht] at hrd
    refine OW_EV (EV_indexAddr (j := j) rfl rfl rfl hjl) rfl ?_
    (repeat' first|refine kW ?_|refine kU fun bk=>?_|refine kV fun hc=>?_|refine kZ (fun hc=>?_) fun hc=>?_|fail)
    refine OW_EV (EV_loadAgg rfl (rd_there (rd_there (rd_there hrd))) rfl) rfl ?_
    unfold TkV
    (repeat' first|refine kW ?_|refine kU fun bk=>?_|refine kV fun hc=>?_|refine kZ (fun hc=>?_) fun hc=>?_|fail)
    refine OW_callP rfl rfl rfl (tsym_n t _ hto) rfl ?_
    have hcw := fun B1 B2 => cwrite_n v1 v2 l (tsy t) p A D E (B1 :: B2 :: L) ((hK.a.sub sub_there).sub sub_there) (by have := hK.ll; omega) h (by omega)
    (repeat' first|refine kW ?_|refine kU fun bk=>?_|refine kV fun hc=>?_|refine kZ (fun hc=>?_) fun hc=>?_|fail)
    refine OW_call rfl rfl rfl (Gv.holds (hcw _ _) (fun w h => iH h)) rfl (fun r L' hp => ?_)
    obtain ⟨rfl, D1, E1, hw1, rfl⟩ := hp
    (repeat' first|refine kW ?_|refine kU fun bk=>?_|refine kV fun hc=>?_|refine kZ (fun hc=>?_) fun hc=>?_|fail)
    · have h0 : t.2 ≠ 0 := by omega
      have hmt : 1 ≤ t.2 ∧ t.2 ≤ 32768 ∧ 3 ≤ t.1 ∧ t.1 ≤ 258 := by rcases hto with ⟨h1, _⟩ | h1; omega; exact h1
      have h257 := hsy.2.1 h0
      have hlb := lnB_b (tsy t) hsy.1 h257
      have hol := olN_ok hmt.2.2.1 hmt.2.2.2
      have hty : tsy t = olN t.1 := by unfold tsy; rw [if_neg h0]
      rw [← hty] at hol
      have hs1 := hK.a.ok.at (tsy t)
      have hs2 : (sc l (tsy t)).2 ≤ 15 := hs1
      have hsl := fun L => slength_n (tsy t) L h257 (by omega)
      have hpu := fun B1 B2 => iput_n p (t.1 - (lnB (tsy t)).1) (lnB (tsy t)).2 (A ++ [sc l (tsy t)]) D1 E1 (B1 :: B2 :: L) hw1 (by omega) hol.2.2.2 (by rw [itL_app]; simp only [itL]; omega)
      have hAL2 : itL ((A ++ [sc l (tsy t)]) ++ [(t.1 - (lnB (tsy t)).1, (lnB (tsy t)).2)]) ≤ 1125890000000000 + 48 * j + 20 := by rw [itL_app, itL_app]; simp only [itL]; omega
      have hwd := fun B1 B2 D2 E2 hw2 => wdist_n (.slice (some ⟨tb, toff, none⟩) ts.length tc) v1 v2 v3 v4 size t.2 p ts l dl ((A ++ [sc l (tsy t)]) ++ [(t.1 - (lnB (tsy t)).1, (lnB (tsy t)).2)]) D2 E2 (B1 :: B2 :: L) ((hK.sub sub_there).sub sub_there) hmt.1 hmt.2.1 hw2 (by omega)
      have hitems : ((A ++ [sc l (tsy t)]) ++ [(t.1 - (lnB (tsy t)).1, (lnB (tsy t)).2)]) ++ [sc dl (odN t.2), (t.2 - baB 1 2 4 (odN t.2), exB (odN t.2) 2 4)] = a ++ tsI l dl ((ts.take (j + 1)).map tok) := by
        rw [takeSucc ht, List.map_append, tsI_app, ← List.append_assoc, hA]
        simp only [List.map_cons, List.map_nil, tsI, List.append_nil]
        rw [tkI_mt h0]
        simp only [List.append_assoc]
      rw [hitems] at hwd
      clear hitems hAL2
      unfold cdV at hwd
      generalize lnB (tsy t) = lb at hol hlb hsl hpu hwd
      refine OW_callP rfl rfl rfl (hsl _) rfl ?_
      (repeat' first|refine kW ?_|refine kU fun bk=>?_|refine kV fun hc=>?_|refine kZ (fun hc=>?_) fun hc=>?_|fail)
      rw [show (t.1 : Int) - (lb.1 : Int) = ((t.1 - lb.1 : Nat) : Int) from by omega, cvW (show t.1 - lb.1 < 4294967296 by omega)]
      refine OW_call rfl rfl rfl (Gv.holds (hpu _ _) (fun w h => iH h)) rfl (fun r L' hp => ?_)
      obtain ⟨rfl, D2, E2, hw2, rfl⟩ := hp
      have hwd := fun B1 B2 => hwd B1 B2 D2 E2 hw2
      (repeat' first|refine kW ?_|refine kU fun bk=>?_|refine kV fun hc=>?_|refine kZ (fun hc=>?_) fun hc=>?_|fail)
      refine OW_call rfl rfl rfl (Gv.holds (hwd _ _) (fun w h => iH h)) rfl (fun r L' hp => ?_)
      obtain ⟨rfl, D3, E3, hw3, rfl⟩ := hp
      (repeat' first|refine kW ?_|refine kU fun bk=>?_|refine kV fun hc=>?_|refine kZ (fun hc=>?_) fun hc=>?_|fail)
      refine WQ_round (X := Nat × Chunk × Chunk) (μ := fun x => ts.length - x.1) (x := (j, D, E)) (j + 1, D3, E3) (by simp only; omega) ⟨by simp only; omega, hw3⟩ iS (fun w h => iH h)
    · have h0 : t.2 = 0 := by omega
      have hitems : A ++ [sc l (tsy t)] = a ++ tsI l dl ((ts.take (j + 1)).map tok) := by
        rw [takeSucc ht, List.map_append, tsI_app, ← List.append_assoc, hA]
        simp only [List.map_cons, List.map_nil, tsI, List.append_nil]
        rw [tkI_lit hto h0]
      rw [hitems] at hw1
      refine WQ_round (X := Nat × Chunk × Chunk) (μ := fun x => ts.length - x.1) (x := (j, D, E)) (j + 1, D1, E1) (by simp only; omega) ⟨by simp only; omega, hw1⟩ iS (fun w h => iH h)
  · obtain rfl : j = ts.length := by omega
    rw [List.take_length] at hA
    have hcw := fun B1 => cwrite_n v1 v2 l 256 p A D E (B1 :: L) (hK.a.sub sub_there) (by have := hK.ll; omega) h (by omega)
    (repeat' first|refine kW ?_|refine kU fun bk=>?_|refine kV fun hc=>?_|refine kZ (fun hc=>?_) fun hc=>?_|fail)
    refine OW_call rfl rfl rfl (Gv.holds (hcw _) (fun w h => iH h)) rfl (fun r L' hp => ?_)
    obtain ⟨rfl, D1, E1, hw1, rfl⟩ := hp
    rw [← hA, List.append_assoc] at hw1
    (repeat' first|refine kW ?_|refine kU fun bk=>?_|refine kV fun hc=>?_|refine kZ (fun hc=>?_) fun hc=>?_|fail)
    refine kR ?_
    exact ⟨_, iC, rfl, D1, E1, hw1, rfl⟩
end Go.Proofs.YtdcehmhelfohfaaGreatDoor
namespace Go.Df
open Go.Vx Go.If Go.Hf
set_option linter.all false
def rnI [W0] (own : List Nat) : List (Nat × Nat) → List (Nat × Nat)
  | [] => []
  | r :: q => sc own r.1 :: (r.2, rpB r.1) :: rnI own q
theorem rnI_app [W0] {own : List Nat} : ∀ a b, rnI own (a ++ b) = rnI own a ++ rnI own b
  | [], b => rfl
  | x :: a, b => by simp only [List.cons_append, rnI, rnI_app a b]
def orI (o : List Nat) : List (Nat × Nat) := o.map fun n => (n, 3)
theorem orI_L : ∀ o, itL (orI o) = 3 * o.length
  | [] => rfl
  | x :: o => by
    have := orI_L o
    simp only [orI] at this
    simp only [orI, List.map_cons, itL, List.length_cons, this]; omega
def hwI [W0] (n1 n2 : Nat) (o own : List Nat) (rs : List (Nat × Nat)) : List (Nat × Nat) := [(n1 - 257, 5), (n2 - 1, 5), (o.length - 4, 4)] ++ (orI o ++ rnI own rs)
theorem rnI_le [W0] {own : List Nat} (ho : Cok own) : ∀ rs : List (Nat × Nat), itL (rnI own rs) ≤ 22 * rs.length
  | [] => Nat.le_refl _
  | r :: q => by
    have h1 := rnI_le ho q
    have h2 := ho.at r.1
    have h3 : rpB r.1 ≤ 7 := by unfold rpB; split <;> (try split) <;> (try split) <;> omega
    simp only [rnI, itL, sc, List.length_cons]
    omega
end Go.Df
namespace Go.Proofs.YtdcehmhelfohfaaGreatDoor
open Go Go.Vx Go.Hf Go.If Go.Df
variable [W0]
set_option maxRecDepth 4000
set_option linter.all false
omit [W0] in
def hdV (n1 n2 : Nat) (vo v1 v2 vr : Value) : List Value := [.int .i64 (n1 : Int), .int .i64 (n2 : Int), vo, v1, v2, vr]
structure HdR (L : List Chunk) (vo v1 v2 vr : Value) (n1 n2 : Nat) (o own : List Nat) (rs : List (Nat × Nat)) : Prop where
  ord : Rs L 1 vo o.length (ivn o)
  c : CdR L v1 v2 own
  run : Rs L 2 vr rs.length (flt TkV rs)
  b1 : 257 ≤ n1 ∧ n1 ≤ 286
  b2 : 1 ≤ n2 ∧ n2 ≤ 30
  ol : 4 ≤ o.length ∧ o.length ≤ 19
  o7 : ∀ x ∈ o, x < 8
  o19 : own.length = 19
  rn : rs.length ≤ 400
  ro : ∀ x ∈ rs, x.1 < 19 ∧ x.2 < 2 ^ rpB x.1
theorem HdR.sub {L L' : List Chunk} (hs : ∀ x ∈ L.flatten, x ∈ L'.flatten) {vo v1 v2 vr : Value} {n1 n2 : Nat} {o own : List Nat} {rs : List (Nat × Nat)} (h : HdR L vo v1 v2 vr n1 n2 o own rs) : HdR L' vo v1 v2 vr n1 n2 o own rs :=
  ⟨h.ord.sub hs, h.c.sub hs, h.run.sub hs, h.b1, h.b2, h.ol, h.o7, h.o19, h.rn, h.ro⟩
set_option maxHeartbeats 8000000 in
theorem hdwrite_n (vo v1 v2 vr : Value) (n1 n2 p : Nat) (o own : List Nat) (rs a : List (Nat × Nat)) (D E : Chunk) (L : List Chunk) (hK : HdR L vo v1 v2 vr n1 n2 o own rs) (h : WrI p a D E) (hN : itL a ≤ 1125890000000000) :
    Gv Tryz.prog 61 [.agg (hdV n1 n2 vo v1 v2 vr).toArray, .pointer (some ⟨p, 0, none⟩)].toArray (D :: E :: L) (fun r L' => r = .tuple #[] ∧ ∃ D' E', WrI p (a ++ hwI n1 n2 o own rs) D' E' ∧ L' = D' :: E' :: L) := by
  refine Gv.of_body Tryz.func61 rfl rfl ?_
  obtain ⟨oa, oc, hvo9⟩ : ∃ ta tc, vo = .slice ta o.length tc := by obtain ⟨a, c, h, _⟩ := hK.ord.room; exact ⟨a, c, h⟩
  obtain ⟨ra, rc, hvr9⟩ : ∃ ta tc, vr = .slice ta rs.length tc := by obtain ⟨a, c, h, _⟩ := hK.run.room; exact ⟨a, c, h⟩
  subst hvo9 hvr9
  have hn1 := hK.b1
  have hn2 := hK.b2
  have hol := hK.ol
  have hrn := hK.rn
  unfold hdV
  (repeat' first|refine kW ?_|refine kU fun bk=>?_|refine kV fun hc=>?_|refine kZ (fun hc=>?_) fun hc=>?_|fail)
  rw [show (n1 : Int) - 257 = ((n1 - 257 : Nat) : Int) from by omega, cvW (show n1 - 257 < 4294967296 by omega)]
  refine OW_call rfl rfl rfl (Gv.holds (iput_n p (n1 - 257) 5 a D E ([(bk, cl (hdV n1 n2 (.slice oa o.length oc) v1 v2 (.slice ra rs.length rc)) 127)] :: L) h (by decide) (by omega) (by omega)) (fun w h => iH h)) rfl (fun r L' hp => ?_)
  obtain ⟨rfl, D1, E1, hw1, rfl⟩ := hp
  unfold hdV
  (repeat' first|refine kW ?_|refine kU fun bk=>?_|refine kV fun hc=>?_|refine kZ (fun hc=>?_) fun hc=>?_|fail)
  rw [show (n2 : Int) - 1 = ((n2 - 1 : Nat) : Int) from by omega, cvW (show n2 - 1 < 4294967296 by omega)]
  refine OW_call rfl rfl rfl (iput_n p (n2 - 1) 5 _ D1 E1 _ hw1 (by decide) (by omega) (by rw [itL_app]; simp only [itL]; omega)) rfl (fun r L' hp => ?_)
  obtain ⟨rfl, D2, E2, hw2, rfl⟩ := hp
  (repeat' first|refine kW ?_|refine kU fun bk=>?_|refine kV fun hc=>?_|refine kZ (fun hc=>?_) fun hc=>?_|fail)
  rw [show (o.length : Int) - 4 = ((o.length - 4 : Nat) : Int) from by omega, cvW (show o.length - 4 < 4294967296 by omega)]
  refine OW_call rfl rfl rfl (iput_n p (o.length - 4) 4 _ D2 E2 _ hw2 (by decide) (by omega) (by rw [itL_app, itL_app]; simp only [itL]; omega)) rfl (fun r L' hp => ?_)
  obtain ⟨rfl, D3, E3, hw3, rfl⟩ := hp
  rw [show a ++ [(n1 - 257, 5)] ++ [(n2 - 1, 5)] ++ [(o.length - 4, 4)] = a ++ [(n1 - 257, 5), (n2 - 1, 5), (o.length - 4, 4)] from by simp] at hw3
  generalize hA : a ++ [(n1 - 257, 5), (n2 - 1, 5), (o.length - 4, 4)] = A at hw3
  have hAL : itL A ≤ 1125890000000014 := by rw [← hA, itL_app]; simp only [itL]; omega
  (repeat' first|refine kW ?_|refine kU fun bk=>?_|refine kV fun hc=>?_|refine kZ (fun hc=>?_) fun hc=>?_|fail)
  refine WC_loop (X := Nat × Chunk × Chunk) (fun x => [(1, .pointer (some ⟨p, 0, none⟩)), (2, .pointer (some ⟨bk, 0, none⟩)), (30, .slice oa o.length oc), (31, .int .i64 (o.length : Int)), (32, .int .i64 (x.1 : Int))])
    (fun x => x.2.1 :: x.2.2 :: [(bk, cl [.int .i64 (n1 : Int), .int .i64 (n2 : Int), .slice oa o.length oc, v1, v2, .slice ra rs.length rc] 127)] :: L)
    (fun x => x.1 ≤ o.length ∧ WrI p (A ++ orI (o.take x.1)) x.2.1 x.2.2) (fun x => o.length - x.1) (0, D3, E3) ⟨Nat.zero_le _, by simpa [orI] using hw3⟩ iS (fun w h => iH h) ?_
  clear hw1 hw2 hw3 D1 D2 D3 E1 E2 E3 h D E
  rintro ⟨j, D, E⟩ ⟨hj, h⟩
  simp only at hj h ⊢
  have hlj := orI_L (o.take j)
  rw [List.length_take, Nat.min_eq_left hj] at hlj
  (repeat' first|refine kW ?_|refine kU fun bk=>?_|refine kV fun hc=>?_|refine kZ (fun hc=>?_) fun hc=>?_|fail)
  · have hjl : j < o.length := by omega
    obtain ⟨x, hx⟩ : ∃ x, o[j]? = some x := ⟨o[j], List.getElem?_eq_getElem hjl⟩
    have hx8 := hK.o7 x (List.mem_of_getElem? hx)
    obtain ⟨b1, o1, c1, cc1, T1, f1, hv9, hf1, hv1⟩ := sl_at hK.ord.sl (ivn_get hx)
    injection hv9 with q1 q2 q3
    subst q1 q3
    clear q2
    refine OW_EV (EV_indexAddr (j := j) rfl rfl rfl hjl) rfl ?_
    (repeat' first|refine kW ?_|refine kU fun bk=>?_|refine kV fun hc=>?_|refine kZ (fun hc=>?_) fun hc=>?_|fail)
    refine OW_EV (EV_load rfl (.there (.there (.there hf1))) hv1) rfl ?_
    (repeat' first|refine kW ?_|refine kU fun bk=>?_|refine kV fun hc=>?_|refine kZ (fun hc=>?_) fun hc=>?_|fail)
    rw [cvW (show x < 4294967296 by omega)]
    refine OW_call rfl rfl rfl (iput_n p x 3 _ D E _ h (by decide) (by omega) (by rw [itL_app]; omega)) rfl (fun r L' hp => ?_)
    obtain ⟨rfl, D1, E1, hw1, rfl⟩ := hp
    have hitems : A ++ orI (o.take j) ++ [(x, 3)] = A ++ orI (o.take (j + 1)) := by rw [takeSucc hx, List.append_assoc]; simp [orI]
    rw [hitems] at hw1
    (repeat' first|refine kW ?_|refine kU fun bk=>?_|refine kV fun hc=>?_|refine kZ (fun hc=>?_) fun hc=>?_|fail)
    refine WQ_round (X := Nat × Chunk × Chunk) (μ := fun x => o.length - x.1) (x := (j, D, E)) (j + 1, D1, E1) (by simp only; omega) ⟨by simp only; omega, hw1⟩ iS (fun w h => iH h)
  obtain rfl : j = o.length := by omega
  rw [List.take_length] at h
  generalize hB : A ++ orI o = B at h
  have hBL : itL B ≤ 1125890000000100 := by rw [← hB, itL_app, orI_L]; omega
  (repeat' first|refine kW ?_|refine kU fun bk=>?_|refine kV fun hc=>?_|refine kZ (fun hc=>?_) fun hc=>?_|fail)
  refine WC_loop (X := Nat × Chunk × Chunk) (fun x => [(1, .pointer (some ⟨p, 0, none⟩)), (2, .pointer (some ⟨bk, 0, none⟩)), (42, .slice ra rs.length rc), (43, .int .i64 (rs.length : Int)), (44, .int .i64 (x.1 : Int))])
    (fun x => x.2.1 :: x.2.2 :: [(bk, cl [.int .i64 (n1 : Int), .int .i64 (n2 : Int), .slice oa o.length oc, v1, v2, .slice ra rs.length rc] 127)] :: L)
    (fun x => x.1 ≤ rs.length ∧ WrI p (B ++ rnI own (rs.take x.1)) x.2.1 x.2.2) (fun x => rs.length - x.1) (0, D, E) ⟨Nat.zero_le _, by simpa [rnI] using h⟩ iS (fun w h => iH h) ?_
  clear hj hlj h D E
  rintro ⟨j, D, E⟩ ⟨hj, h⟩
  simp only at hj h ⊢
  have hlj := rnI_le hK.c.ok (rs.take j)
  rw [List.length_take, Nat.min_eq_left hj] at hlj
  (repeat' first|refine kW ?_|refine kU fun bk=>?_|refine kV fun hc=>?_|refine kZ (fun hc=>?_) fun hc=>?_|fail)
  · have hjl : j < rs.length := by omega
    obtain ⟨x, hx⟩ : ∃ x, rs[j]? = some x := ⟨rs[j], List.getElem?_eq_getElem hjl⟩
    have hxo := hK.ro x (List.mem_of_getElem? hx)
    have hx7 : rpB x.1 ≤ 7 := by unfold rpB; split <;> (try split) <;> (try split) <;> omega
    have hx2 : x.2 < 2 ^ 7 := Nat.lt_of_lt_of_le hxo.2 (Nat.pow_le_pow_right (by decide) hx7)
    obtain ⟨tb, toff, tcap, hv9, hrd⟩ := hK.run.elem hjl (by decide)
    injection hv9 with q1 q2 q3
    subst q1 q3
    clear q2
    rw [flt_at TkV_len hx] at hrd
    refine OW_EV (EV_indexAddr (j := j) rfl rfl rfl hjl) rfl ?_
    (repeat' first|refine kW ?_|refine kU fun bk=>?_|refine kV fun hc=>?_|refine kZ (fun hc=>?_) fun hc=>?_|fail)
    refine OW_EV (EV_loadAgg rfl (rd_there (rd_there (rd_there hrd))) rfl) rfl ?_
    unfold TkV
    (repeat' first|refine kW ?_|refine kU fun bk=>?_|refine kV fun hc=>?_|refine kZ (fun hc=>?_) fun hc=>?_|fail)
    have hcw := fun B1 B2 => cwrite_n v1 v2 own x.1 p _ D E (B1 :: B2 :: L) ((hK.c.sub sub_there).sub sub_there) (by have := hK.o19; omega) h (by rw [itL_app]; omega)
    refine OW_call rfl rfl rfl (Gv.holds (hcw _ _) (fun w h => iH h)) rfl (fun r L' hp => ?_)
    obtain ⟨rfl, D1, E1, hw1, rfl⟩ := hp
    (repeat' first|refine kW ?_|refine kU fun bk=>?_|refine kV fun hc=>?_|refine kZ (fun hc=>?_) fun hc=>?_|fail)
    refine OW_callP rfl rfl rfl (srun_n x.1 _ (by omega)) rfl ?_
    have hs2 : (sc own x.1).2 ≤ 15 := hK.c.ok.at _
    have hpu := fun B1 B2 => iput_n p x.2 (rpB x.1) _ D1 E1 (B1 :: B2 :: L) hw1 (by omega) hxo.2 (by rw [itL_app, itL_app]; simp only [itL]; omega)
    have hitems : B ++ rnI own (rs.take j) ++ [sc own x.1] ++ [(x.2, rpB x.1)] = B ++ rnI own (rs.take (j + 1)) := by rw [takeSucc hx, rnI_app]; simp [rnI]
    rw [hitems] at hpu
    (repeat' first|refine kW ?_|refine kU fun bk=>?_|refine kV fun hc=>?_|refine kZ (fun hc=>?_) fun hc=>?_|fail)
    rw [cvW (show x.2 < 4294967296 by omega)]
    refine OW_call rfl rfl rfl (Gv.holds (hpu _ _) (fun w h => iH h)) rfl (fun r L' hp => ?_)
    obtain ⟨rfl, D2, E2, hw2, rfl⟩ := hp
    (repeat' first|refine kW ?_|refine kU fun bk=>?_|refine kV fun hc=>?_|refine kZ (fun hc=>?_) fun hc=>?_|fail)
    refine WQ_round (X := Nat × Chunk × Chunk) (μ := fun x => rs.length - x.1) (x := (j, D, E)) (j + 1, D2, E2) (by simp only; omega) ⟨by simp only; omega, hw2⟩ iS (fun w h => iH h)
  · obtain rfl : j = rs.length := by omega
    rw [List.take_length, ← hB, ← hA] at h
    refine kR ?_
    exact ⟨_, iC, rfl, D, E, by unfold hwI; simpa [List.append_assoc] using h, rfl⟩
end Go.Proofs.YtdcehmhelfohfaaGreatDoor
namespace Go.Df
open Go.Vx Go.If Go.Hf
set_option linter.all false
inductive Blk
  | st (t : List UInt8)
  | fx (ts : List (Nat × Nat))
  | dn (ts : List (Nat × Nat)) (l dl : List Nat) (n1 n2 : Nat) (o own : List Nat) (rs : List (Nat × Nat))
def raI (b : List UInt8) : List (Nat × Nat) := b.map fun c => (c.toNat, 8)
theorem raI_L : ∀ b, itL (raI b) = 8 * b.length
  | [] => rfl
  | x :: b => by
    have := raI_L b
    simp only [raI] at this
    simp only [raI, List.map_cons, itL, List.length_cons, this]; omega
theorem raI_V : ∀ b, itV (raI b) = val b
  | [] => rfl
  | x :: b => by
    have := raI_V b
    simp only [raI] at this
    simp only [raI, List.map_cons, itV, this, val]
theorem hwI_le [W0] {own o : List Nat} (ho : Cok own) (hl : o.length ≤ 19) (rs : List (Nat × Nat)) (n1 n2 : Nat) : itL (hwI n1 n2 o own rs) ≤ 100 + 22 * rs.length := by
  have := rnI_le ho rs
  unfold hwI
  rw [itL_app, itL_app, orI_L]
  simp only [itL]
  omega
def blI [W0] (n : Nat) : Blk → List (Nat × Nat)
  | .st t => [(0, 2), (0, 8 * ((n + 2 + 7) / 8) - (n + 2)), (t.length, 16), (65535 - t.length, 16)] ++ raI t
  | .fx ts => (1, 2) :: (tsI fxL fxD (ts.map tok) ++ [sc fxL 256])
  | .dn ts l dl n1 n2 o own rs => (2, 2) :: (hwI n1 n2 o own rs ++ (tsI l dl (ts.map tok) ++ [sc l 256]))
end Go.Df
namespace Go.Vx
variable [W0] {P : Program} {n : Nat} {M : List (Nat × Value)} {L : List Chunk} {d : Nat} {ty : TypeId} {ps : String} {af : Array Edge} {g : Option (Nat × Bool)} {x y : Operand}
theorem EV_nnot {t : TypeId} {m : Nat} (hx : ev M x = some (.int .u32 (m : Int))) (hm : m < 4294967296) :
    EV P n ⟨some d, .unOp .xor t x, ty, ps, af, g⟩ M L d (.int .u32 ((4294967295 - m : Nat) : Int)) := by
  have := EV_wnot (P := P) (n := n) (L := L) (d := d) (ty := ty) (ps := ps) (af := af) (g := g) (t := t) hx (ha' := (⟨by rw [BitVec.ofInt_natCast]⟩ : WI (m : Int) (BitVec.ofNat 32 m)))
  rw [BitVec.toNat_not, BitVec.toNat_ofNat, Nat.mod_eq_of_lt (show m < 2 ^ 32 by omega)] at this
  exact this
end Go.Vx
namespace Go.Proofs.YtdcehmhelfohfaaGreatDoor
open Go Go.Vx Go.Hf Go.If Go.Df
variable [W0]
set_option maxRecDepth 4000
set_option linter.all false
def BlkR (L : List Chunk) (v : Value) : Blk → Prop
  | .st t => ∃ vt, v = .iface 121 (.agg #[vt]) ∧ Rs L 1 vt t.length (bsv t) ∧ t.length ≤ 65535
  | .fx ts => ∃ vt v1 v2 v3 v4, v = .iface 91 (.agg (cdV vt v1 v2 v3 v4 (itL (coI fxL fxD ts))).toArray) ∧ CoR L vt v1 v2 v3 v4 ts fxL fxD
  | .dn ts l dl n1 n2 o own rs => ∃ vt v1 v2 v3 v4 vo v5 v6 vr, v = .iface 129 (.agg (cdV vt v1 v2 v3 v4 (itL (coI l dl ts)) ++ hdV n1 n2 vo v5 v6 vr).toArray) ∧ CoR L vt v1 v2 v3 v4 ts l dl ∧ HdR L vo v5 v6 vr n1 n2 o own rs
theorem BlkR.sub {L L' : List Chunk} (hs : ∀ x ∈ L.flatten, x ∈ L'.flatten) {v : Value} {B : Blk} (h : BlkR L v B) : BlkR L' v B := by
  cases B with
  | st t => obtain ⟨vt, h1, h2, h3⟩ := h; exact ⟨vt, h1, h2.sub hs, h3⟩
  | fx ts => obtain ⟨vt, v1, v2, v3, v4, h1, h2⟩ := h; exact ⟨vt, v1, v2, v3, v4, h1, h2.sub hs⟩
  | dn ts l dl n1 n2 o own rs => obtain ⟨vt, v1, v2, v3, v4, vo, v5, v6, vr, h1, h2, h3⟩ := h; exact ⟨vt, v1, v2, v3, v4, vo, v5, v6, vr, h1, h2.sub hs, h3.sub hs⟩
set_option maxHeartbeats 4000000 in
theorem swrite_n (vt : Value) (t : List UInt8) (p : Nat) (a : List (Nat × Nat)) (D E : Chunk) (L : List Chunk) (hK : Rs L 1 vt t.length (bsv t)) (ht : t.length ≤ 65535) (h : WrI p a D E) (hN : itL a ≤ 1125890000000000) :
    Gv Tryz.prog 59 [.agg #[vt], .pointer (some ⟨p, 0, none⟩)].toArray (D :: E :: L) (fun r L' => r = .tuple #[] ∧ ∃ D' E', WrI p (a ++ ([(0, 8 * ((itL a + 7) / 8) - itL a), (t.length, 16), (65535 - t.length, 16)] ++ raI t)) D' E' ∧ L' = D' :: E' :: L) := by
  refine Gv.of_body (args := [.agg #[vt], .pointer (some ⟨p, 0, none⟩)]) Tryz.func59 rfl rfl ?_
  obtain ⟨ta, tc, hvt9⟩ : ∃ ta tc, vt = .slice ta t.length tc := by obtain ⟨a, c, h, _⟩ := hK.room; exact ⟨a, c, h⟩
  subst hvt9
  have hal := fun B => walign_n p (itV a) (itL a) D E (B :: L) h (by omega)
  (repeat' first|refine kW ?_|refine kU fun bk=>?_|refine kV fun hc=>?_|refine kZ (fun hc=>?_) fun hc=>?_|fail)
  refine OW_call rfl rfl rfl (Gv.holds (hal _) (fun w h => iH h)) rfl (fun r L' hp => ?_)
  obtain ⟨rfl, D1, E1, hw1, rfl⟩ := hp
  have hA1 : WrI p (a ++ [(0, 8 * ((itL a + 7) / 8) - itL a)]) D1 E1 := by
    refine WrI.add ?_
    rw [Nat.mul_zero, Nat.add_zero, show itL a + (8 * ((itL a + 7) / 8) - itL a) = 8 * ((itL a + 7) / 8) from by omega]
    exact hw1
  have hL1 : itL (a ++ [(0, 8 * ((itL a + 7) / 8) - itL a)]) = 8 * ((itL a + 7) / 8) := by rw [itL_app]; simp only [itL]; omega
  (repeat' first|refine kW ?_|refine kU fun bk=>?_|refine kV fun hc=>?_|refine kZ (fun hc=>?_) fun hc=>?_|fail)
  rw [cvW (show t.length < 4294967296 by omega)]
  have hpu := fun B => iput_n p t.length 16 _ D1 E1 (B :: L) hA1 (by decide) (by omega) (by rw [hL1]; omega)
  refine OW_call rfl rfl rfl (Gv.holds (hpu _) (fun w h => iH h)) rfl (fun r L' hp => ?_)
  obtain ⟨rfl, D2, E2, hw2, rfl⟩ := hp
  have hL2 : itL (a ++ [(0, 8 * ((itL a + 7) / 8) - itL a)] ++ [(t.length, 16)]) = 8 * ((itL a + 7) / 8) + 16 := by rw [itL_app, hL1]; simp only [itL]
  (repeat' first|refine kW ?_|refine kU fun bk=>?_|refine kV fun hc=>?_|refine kZ (fun hc=>?_) fun hc=>?_|fail)
  refine OW_EV (EV_nnot rfl (by omega)) rfl ?_
  (repeat' first|refine kW ?_|refine kU fun bk=>?_|refine kV fun hc=>?_|refine kZ (fun hc=>?_) fun hc=>?_|fail)
  have hpv := fun B => put_n p _ _ (4294967295 - t.length) ((16 : Nat) : Int) D2 E2 (B :: L) hw2 (by omega) (by rw [hL2]; omega)
  refine OW_call rfl rfl rfl (Gv.holds (hpv _) (fun w h => iH h)) rfl (fun r L' hp => ?_)
  obtain ⟨rfl, D3, E3, hw3, rfl⟩ := hp
  rw [clp_nat (by decide), show (4294967295 - t.length) % 2 ^ 16 = 65535 - t.length from by omega] at hw3
  have hw3 := WrI.add hw3
  have hL3 : itL (a ++ [(0, 8 * ((itL a + 7) / 8) - itL a)] ++ [(t.length, 16)] ++ [(65535 - t.length, 16)]) = 8 * ((itL a + 7) / 8 + 4) := by rw [itL_app, hL2]; simp only [itL]; omega
  (repeat' first|refine kW ?_|refine kU fun bk=>?_|refine kV fun hc=>?_|refine kZ (fun hc=>?_) fun hc=>?_|fail)
  have hra := fun B => raw_n p _ _ t (.slice ta t.length tc) D3 E3 (B :: L) hw3 (by rw [hL3]; omega) (sl_there hK.sl) (by rw [hL3]; omega)
  refine OW_call rfl rfl rfl (Gv.holds (hra _) (fun w h => iH h)) rfl (fun r L' hp => ?_)
  obtain ⟨rfl, D4, E4, hw4, rfl⟩ := hp
  rw [hL3, show (8 * ((itL a + 7) / 8 + 4) + 7) / 8 = (itL a + 7) / 8 + 4 from by omega] at hw4
  (repeat' first|refine kW ?_|refine kU fun bk=>?_|refine kV fun hc=>?_|refine kZ (fun hc=>?_) fun hc=>?_|fail)
  refine kR ?_
  refine ⟨_, iC, rfl, D4, E4, ?_, rfl⟩
  have e1 : a ++ ([(0, 8 * ((itL a + 7) / 8) - itL a), (t.length, 16), (65535 - t.length, 16)] ++ raI t) = (a ++ [(0, 8 * ((itL a + 7) / 8) - itL a)] ++ [(t.length, 16)] ++ [(65535 - t.length, 16)]) ++ raI t := by simp
  rw [e1]
  generalize a ++ [(0, 8 * ((itL a + 7) / 8) - itL a)] ++ [(t.length, 16)] ++ [(65535 - t.length, 16)] = A at hw4 hL3 ⊢
  unfold WrI
  rw [itV_app, itL_app, raI_V, raI_L, hL3]
  exact WrD.cast hw4 (by omega)
set_option maxHeartbeats 8000000 in
theorem bwrite_n (v : Value) (B : Blk) (p : Nat) (a : List (Nat × Nat)) (D E : Chunk) (L : List Chunk) (hK : BlkR L v B) (h : WrI p a D E) (hN : itL a ≤ 1125880000000000) :
    Gv Tryz.prog 33 [v, .pointer (some ⟨p, 0, none⟩)].toArray (D :: E :: L) (fun r L' => r = .tuple #[] ∧ ∃ D' E', WrI p (a ++ blI (itL a) B) D' E' ∧ L' = D' :: E' :: L) := by
  cases B with
  | st t =>
    obtain ⟨vt, rfl, hrs, ht⟩ := hK
    obtain ⟨ta, tc, rfl, _⟩ := hrs.room
    refine Gv.of_body (args := [.iface 121 (.agg #[.slice ta t.length tc]), .pointer (some ⟨p, 0, none⟩)]) Tryz.func33 rfl rfl ?_
    (repeat' first|refine kW ?_|refine kU fun bk=>?_|refine kV fun hc=>?_|refine kZ (fun hc=>?_) fun hc=>?_|fail)
    refine OW_call rfl rfl rfl (Gv.holds (iput_n p 0 2 a D E ([(bk, cl [.slice ta t.length tc] 121)] :: L) h (by decide) (by decide) (by omega)) (fun w h => iH h)) rfl (fun r L' hp => ?_)
    obtain ⟨rfl, D1, E1, hw1, rfl⟩ := hp
    have hL1 : itL (a ++ [(0, 2)]) = itL a + 2 := by rw [itL_app]; rfl
    have hsw := swrite_n (.slice ta t.length tc) t p _ D1 E1 ([(bk, cl [.slice ta t.length tc] 121)] :: L) hrs.there ht hw1 (by rw [hL1]; omega)
    rw [hL1] at hsw
    (repeat' first|refine kW ?_|refine kU fun bk=>?_|refine kV fun hc=>?_|refine kZ (fun hc=>?_) fun hc=>?_|fail)
    refine OW_call rfl rfl rfl (Gv.holds hsw (fun w h => iH h)) rfl (fun r L' hp => ?_)
    obtain ⟨rfl, D2, E2, hw2, rfl⟩ := hp
    (repeat' first|refine kW ?_|refine kU fun bk=>?_|refine kV fun hc=>?_|refine kZ (fun hc=>?_) fun hc=>?_|fail)
    refine kR ?_
    refine ⟨_, iC, rfl, D2, E2, ?_, rfl⟩
    simpa [blI] using hw2
  | fx ts =>
    obtain ⟨vt, v1, v2, v3, v4, rfl, hco⟩ := hK
    generalize itL (coI fxL fxD ts) = size
    obtain ⟨ta, tc, rfl, _⟩ := hco.t.rs.room
    obtain ⟨a1, c1, rfl, _⟩ := hco.a.l.room
    obtain ⟨a2, c2, rfl, _⟩ := hco.a.c.room
    obtain ⟨a3, c3, rfl, _⟩ := hco.b.l.room
    obtain ⟨a4, c4, rfl, _⟩ := hco.b.c.room
    unfold cdV
    refine Gv.of_body (args := [.iface 91 (.agg #[.slice ta ts.length tc, .slice a1 fxL.length c1, .slice a2 fxL.length c2, .slice a3 fxD.length c3, .slice a4 fxD.length c4, .int .i64 (size : Int)]), .pointer (some ⟨p, 0, none⟩)]) Tryz.func33 rfl rfl ?_
    (repeat' first|refine kW ?_|refine kU fun bk=>?_|refine kV fun hc=>?_|refine kZ (fun hc=>?_) fun hc=>?_|fail)
    have hpu := fun B1 B2 => iput_n p 1 2 a D E (B1 :: B2 :: L) h (by decide) (by decide) (by omega)
    refine OW_call rfl rfl rfl (Gv.holds (hpu _ _) (fun w h => iH h)) rfl (fun r L' hp => ?_)
    obtain ⟨rfl, D1, E1, hw1, rfl⟩ := hp
    have hL1 : itL (a ++ [(1, 2)]) = itL a + 2 := by rw [itL_app]; rfl
    have hsw := fun B1 B2 => cowrite_n (.slice ta ts.length tc) (.slice a1 fxL.length c1) (.slice a2 fxL.length c2) (.slice a3 fxD.length c3) (.slice a4 fxD.length c4) size p ts fxL fxD _ D1 E1 (B1 :: B2 :: L) ((hco.sub sub_there).sub sub_there) hw1 (by rw [hL1]; omega)
    unfold cdV at hsw
    (repeat' first|refine kW ?_|refine kU fun bk=>?_|refine kV fun hc=>?_|refine kZ (fun hc=>?_) fun hc=>?_|fail)
    refine OW_call rfl rfl rfl (Gv.holds (hsw _ _) (fun w h => iH h)) rfl (fun r L' hp => ?_)
    obtain ⟨rfl, D2, E2, hw2, rfl⟩ := hp
    (repeat' first|refine kW ?_|refine kU fun bk=>?_|refine kV fun hc=>?_|refine kZ (fun hc=>?_) fun hc=>?_|fail)
    refine kR ?_
    refine ⟨_, iC, rfl, D2, E2, ?_, rfl⟩
    simpa [blI, coI] using hw2
  | dn ts l dl n1 n2 o own rs =>
    obtain ⟨vt, v1, v2, v3, v4, vo, v5, v6, vr, rfl, hco, hhd⟩ := hK
    have hcl := hwI_le hhd.c.ok hhd.ol.2 rs n1 n2
    have hrn := hhd.rn
    generalize itL (coI l dl ts) = size
    obtain ⟨ta, tc, rfl, _⟩ := hco.t.rs.room
    obtain ⟨a1, c1, rfl, _⟩ := hco.a.l.room
    obtain ⟨a2, c2, rfl, _⟩ := hco.a.c.room
    obtain ⟨a3, c3, rfl, _⟩ := hco.b.l.room
    obtain ⟨a4, c4, rfl, _⟩ := hco.b.c.room
    obtain ⟨ao, co, rfl, _⟩ := hhd.ord.room
    obtain ⟨a5, c5, rfl, _⟩ := hhd.c.l.room
    obtain ⟨a6, c6, rfl, _⟩ := hhd.c.c.room
    obtain ⟨ar, cr, rfl, _⟩ := hhd.run.room
    unfold cdV hdV
    refine Gv.of_body (args := [.iface 129 (.agg #[.slice ta ts.length tc, .slice a1 l.length c1, .slice a2 l.length c2, .slice a3 dl.length c3, .slice a4 dl.length c4, .int .i64 (size : Int), .int .i64 (n1 : Int), .int .i64 (n2 : Int), .slice ao o.length co, .slice a5 own.length c5, .slice a6 own.length c6, .slice ar rs.length cr]), .pointer (some ⟨p, 0, none⟩)]) Tryz.func33 rfl rfl ?_
    (repeat' first|refine kW ?_|refine kU fun bk=>?_|refine kV fun hc=>?_|refine kZ (fun hc=>?_) fun hc=>?_|fail)
    have hpu := fun B1 B2 B3 => iput_n p 2 2 a D E (B1 :: B2 :: B3 :: L) h (by decide) (by decide) (by omega)
    refine OW_call rfl rfl rfl (Gv.holds (hpu _ _ _) (fun w h => iH h)) rfl (fun r L' hp => ?_)
    obtain ⟨rfl, D1, E1, hw1, rfl⟩ := hp
    have hL1 : itL (a ++ [(2, 2)]) = itL a + 2 := by rw [itL_app]; rfl
    have hhw := fun B1 B2 B3 => hdwrite_n (.slice ao o.length co) (.slice a5 own.length c5) (.slice a6 own.length c6) (.slice ar rs.length cr) n1 n2 p o own rs _ D1 E1 (B1 :: B2 :: B3 :: L) (((hhd.sub sub_there).sub sub_there).sub sub_there) hw1 (by rw [hL1]; omega)
    unfold hdV at hhw
    (repeat' first|refine kW ?_|refine kU fun bk=>?_|refine kV fun hc=>?_|refine kZ (fun hc=>?_) fun hc=>?_|fail)
    refine OW_call rfl rfl rfl (Gv.holds (hhw _ _ _) (fun w h => iH h)) rfl (fun r L' hp => ?_)
    obtain ⟨rfl, D2, E2, hw2, rfl⟩ := hp
    have hsw := fun B1 B2 B3 => cowrite_n (.slice ta ts.length tc) (.slice a1 l.length c1) (.slice a2 l.length c2) (.slice a3 dl.length c3) (.slice a4 dl.length c4) size p ts l dl _ D2 E2 (B1 :: B2 :: B3 :: L) (((hco.sub sub_there).sub sub_there).sub sub_there) hw2 (by rw [itL_app, hL1]; omega)
    unfold cdV at hsw
    (repeat' first|refine kW ?_|refine kU fun bk=>?_|refine kV fun hc=>?_|refine kZ (fun hc=>?_) fun hc=>?_|fail)
    refine OW_call rfl rfl rfl (Gv.holds (hsw _ _ _) (fun w h => iH h)) rfl (fun r L' hp => ?_)
    obtain ⟨rfl, D3, E3, hw3, rfl⟩ := hp
    (repeat' first|refine kW ?_|refine kU fun bk=>?_|refine kV fun hc=>?_|refine kZ (fun hc=>?_) fun hc=>?_|fail)
    refine kR ?_
    refine ⟨_, iC, rfl, D3, E3, ?_, rfl⟩
    simpa [blI, coI] using hw3
end Go.Proofs.YtdcehmhelfohfaaGreatDoor
namespace Go.Df
open Go.Vx Go.If Go.Hf
set_option linter.all false
def bsI [W0] (a : List (Nat × Nat)) : List Blk → List (Nat × Nat)
  | [] => a
  | B :: r => bsI ((a ++ [(0, 1)]) ++ blI (itL a + 1) B) r
theorem bsI_app [W0] (B : Blk) : ∀ (x : List Blk) (a : List (Nat × Nat)), bsI a (x ++ [B]) = (bsI a x ++ [(0, 1)]) ++ blI (itL (bsI a x) + 1) B
  | [], a => rfl
  | C :: x, a => by rw [List.cons_append, bsI, bsI, bsI_app B x]
def wrI [W0] (x : List Blk) (q : Blk) : List (Nat × Nat) := (bsI [] x ++ [(1, 1)]) ++ blI (itL (bsI [] x) + 1) q
end Go.Df
namespace Go.Proofs.YtdcehmhelfohfaaGreatDoor
open Go Go.Vx Go.Hf Go.If Go.Df
variable [W0]
set_option maxRecDepth 4000
set_option linter.all false
theorem BlkR.le {L : List Chunk} {v : Value} {B : Blk} (h : BlkR L v B) (n : Nat) : itL (blI n B) ≤ 10000000 := by
  cases B with
  | st t =>
    obtain ⟨vt, _, _, h3⟩ := h
    simp only [blI]
    rw [itL_app, raI_L]
    simp only [itL]
    omega
  | fx ts =>
    obtain ⟨vt, v1, v2, v3, v4, _, hc⟩ := h
    have h1 := tsI_le hc.a.ok hc.b.ok hc.t.ok
    have h2 : (sc fxL 256).2 ≤ 15 := hc.a.ok.at 256
    have h3 := hc.nt
    simp only [blI, itL]
    rw [itL_app]
    simp only [itL]
    omega
  | dn ts l dl n1 n2 o own rs =>
    obtain ⟨vt, v1, v2, v3, v4, vo, v5, v6, vr, _, hc, hh⟩ := h
    have h1 := tsI_le hc.a.ok hc.b.ok hc.t.ok
    have h2 : (sc l 256).2 ≤ 15 := hc.a.ok.at 256
    have h3 := hc.nt
    have h4 := hwI_le hh.c.ok hh.ol.2 rs n1 n2
    have h5 := hh.rn
    simp only [blI, itL]
    rw [itL_app, itL_app]
    simp only [itL]
    omega
structure BlsR (L : List Chunk) (v : Value) (bs : List Blk) : Prop where
  ex : ∃ vs : List Value, Rs L 1 v bs.length vs ∧ ones vs = true ∧ ∀ (i : Nat) (B : Blk), bs[i]? = some B → ∃ u, vs[i]? = some u ∧ BlkR L u B
theorem BlsR.sub {L L' : List Chunk} (hs : ∀ x ∈ L.flatten, x ∈ L'.flatten) {v : Value} {bs : List Blk} (h : BlsR L v bs) : BlsR L' v bs := by
  obtain ⟨vs, h1, h2, h3⟩ := h.ex
  exact ⟨vs, h1.sub hs, h2, fun i B hi => by obtain ⟨u, h4, h5⟩ := h3 i B hi; exact ⟨u, h4, h5.sub hs⟩⟩
theorem bsI_le {L : List Chunk} {v : Value} {bs : List Blk} (h : BlsR L v bs) (j : Nat) (hj : j ≤ bs.length) : itL (bsI [] (bs.take j)) ≤ 10000001 * j := by
  obtain ⟨vs, _, _, h3⟩ := h.ex
  induction j with
  | zero => simp [bsI, itL]
  | succ j ih =>
    have hjl : j < bs.length := hj
    obtain ⟨B, hB⟩ : ∃ B, bs[j]? = some B := ⟨bs[j], List.getElem?_eq_getElem hjl⟩
    obtain ⟨u, _, hu⟩ := h3 j B hB
    have h4 := hu.le (itL (bsI [] (bs.take j)) + 1)
    have h5 := ih (by omega)
    rw [takeSucc hB, bsI_app, itL_app, itL_app]
    simp only [itL]
    omega
set_option maxHeartbeats 8000000 in
theorem written_n (v : Value) (bs : List Blk) (q : Blk) (L : List Chunk) (hK : BlsR L v (bs ++ [q])) (hn : bs.length ≤ 1000) :
    Gv Tryz.prog 14 [v].toArray L (fun r L' => ∃ C, Ow 5 1 r ((itL (wrI bs q) + 7) / 8) (bsv (leB (itV (wrI bs q)) ((itL (wrI bs q) + 7) / 8))) C ∧ L' = C :: L) := by
  refine Gv.of_body (args := [v]) Tryz.func14 rfl rfl ?_
  obtain ⟨vs, hrs, hon, hbl⟩ := hK.ex
  rw [List.length_append, List.length_singleton] at hrs
  obtain ⟨r, hr, hev⟩ := EV_sliceRs (P := Tryz.prog) (T := 39) hrs (l := 0) (h := bs.length) (by omega) (by omega)
  obtain ⟨va, vc, rfl, _⟩ := hrs.room
  rw [Nat.zero_mul, List.drop_zero, Nat.sub_zero, Nat.mul_one] at hr
  obtain ⟨ra, rc, rfl, _⟩ := hr.room
  (repeat' first|refine kW ?_|refine kU fun bk=>?_|refine kV fun hc=>?_|refine kZ (fun hc=>?_) fun hc=>?_|fail)
  rw [show ((bs.length + 1 : Nat) : Int) - 1 = (bs.length : Int) from by omega]
  refine OW_EV (hev rfl rfl rfl) rfl ?_
  have hall : ∀ j, j ≤ bs.length → itL (bsI [] (bs.take j)) ≤ 10000001 * j := fun j hj => by
    have := bsI_le hK j (by simp; omega)
    rwa [List.take_append_of_le_length hj] at this
  (repeat' first|refine kW ?_|refine kU fun bk=>?_|refine kV fun hc=>?_|refine kZ (fun hc=>?_) fun hc=>?_|fail)
  refine WC_loop (X := Nat × Chunk × Chunk) (fun x => [(0, .slice va (bs.length + 1) vc), (3, .pointer (some ⟨bk, 0, none⟩)), (12, .slice ra (bs.length - 0) rc), (13, .int .i64 ((bs.length - 0 : Nat) : Int)), (14, .int .i64 (x.1 : Int))]) (fun x => x.2.1 :: x.2.2 :: L)
    (fun x => x.1 ≤ bs.length ∧ WrI bk (bsI [] (bs.take x.1)) x.2.1 x.2.2) (fun x => bs.length - x.1) (0, _, []) ⟨Nat.zero_le _, WrI.new bk⟩ iS (fun w h => Holds.gap.2 h) ?_
  rintro ⟨j, D, E⟩ ⟨hj, h⟩
  simp only at hj h ⊢
  have hlj := hall j hj
  (repeat' first|refine kW ?_|refine kU fun bk=>?_|refine kV fun hc=>?_|refine kZ (fun hc=>?_) fun hc=>?_|fail)
  · have hjl : j < bs.length := by omega
    obtain ⟨B, hB⟩ : ∃ B, bs[j]? = some B := ⟨bs[j], List.getElem?_eq_getElem hjl⟩
    obtain ⟨u, hu, hbu⟩ := hbl j B (by rw [List.getElem?_append_left hjl]; exact hB)
    obtain ⟨b1, o1, c1, cc1, T1, f1, hv9, hf1, hv1⟩ := sl_at hr.sl (k := j) (u := u) (by rw [List.getElem?_take, if_pos (by omega)]; exact hu)
    injection hv9 with q1 q2 q3
    subst q1 q3
    clear q2
    refine OW_EV (EV_indexAddr (j := j) rfl rfl rfl (by omega)) rfl ?_
    (repeat' first|refine kW ?_|refine kU fun bk=>?_|refine kV fun hc=>?_|refine kZ (fun hc=>?_) fun hc=>?_|fail)
    refine OW_EV (EV_load rfl (.there (.there hf1)) hv1) rfl ?_
    (repeat' first|refine kW ?_|refine kU fun bk=>?_|refine kV fun hc=>?_|refine kZ (fun hc=>?_) fun hc=>?_|fail)
    refine OW_call rfl rfl rfl (iput_n bk 0 1 _ D E L h (by decide) (by decide) (by omega)) rfl (fun r L' hp => ?_)
    obtain ⟨rfl, D1, E1, hw1, rfl⟩ := hp
    have hL1 : itL (bsI [] (bs.take j) ++ [(0, 1)]) = itL (bsI [] (bs.take j)) + 1 := by rw [itL_app]; rfl
    have hbw := bwrite_n u B bk _ D1 E1 L hbu hw1 (by rw [hL1]; omega)
    rw [hL1, ← bsI_app, ← takeSucc hB] at hbw
    (repeat' first|refine kW ?_|refine kU fun bk=>?_|refine kV fun hc=>?_|refine kZ (fun hc=>?_) fun hc=>?_|fail)
    refine OW_call rfl rfl rfl hbw rfl (fun r L' hp => ?_)
    obtain ⟨rfl, D2, E2, hw2, rfl⟩ := hp
    (repeat' first|refine kW ?_|refine kU fun bk=>?_|refine kV fun hc=>?_|refine kZ (fun hc=>?_) fun hc=>?_|fail)
    refine WQ_round (X := Nat × Chunk × Chunk) (μ := fun x => bs.length - x.1) (x := (j, D, E)) (j + 1, D2, E2) (by simp only; omega) ⟨by simp only; omega, hw2⟩ iS (fun w h => iH h)
  · obtain rfl : j = bs.length := by omega
    rw [List.take_length] at h hlj
    obtain ⟨u, hu, hbu⟩ := hbl bs.length q (by simp)
    obtain ⟨b1, o1, c1, cc1, T1, f1, hv9, hf1, hv1⟩ := sl_at hrs.sl hu
    injection hv9 with q1 q2 q3
    subst q1 q3
    clear q2
    refine OW_call rfl rfl rfl (iput_n bk 1 1 _ D E L h (by decide) (by decide) (by omega)) rfl (fun r L' hp => ?_)
    obtain ⟨rfl, D1, E1, hw1, rfl⟩ := hp
    have hL1 : itL (bsI [] bs ++ [(1, 1)]) = itL (bsI [] bs) + 1 := by rw [itL_app]; rfl
    have hle := hbu.le (itL (bsI [] bs) + 1)
    have hbw := bwrite_n u q bk _ D1 E1 L hbu hw1 (by rw [hL1]; omega)
    rw [hL1] at hbw
    have hwI : itL (wrI bs q) ≤ 1125880000000000 := by unfold wrI; rw [itL_app, hL1]; omega
    (repeat' first|refine kW ?_|refine kU fun bk=>?_|refine kV fun hc=>?_|refine kZ (fun hc=>?_) fun hc=>?_|fail)
    rw [show ((bs.length + 1 : Nat) : Int) - 1 = (bs.length : Int) from by omega]
    refine OW_EV (EV_indexAddr (j := bs.length) rfl rfl rfl (by omega)) rfl ?_
    (repeat' first|refine kW ?_|refine kU fun bk=>?_|refine kV fun hc=>?_|refine kZ (fun hc=>?_) fun hc=>?_|fail)
    refine OW_EV (EV_load rfl (.there (.there hf1)) hv1) rfl ?_
    (repeat' first|refine kW ?_|refine kU fun bk=>?_|refine kV fun hc=>?_|refine kZ (fun hc=>?_) fun hc=>?_|fail)
    refine OW_call rfl rfl rfl hbw rfl (fun r L' hp => ?_)
    obtain ⟨rfl, D2, E2, hw2, rfl⟩ := hp
    (repeat' first|refine kW ?_|refine kU fun bk=>?_|refine kV fun hc=>?_|refine kZ (fun hc=>?_) fun hc=>?_|fail)
    refine OW_call rfl rfl rfl (wbytes_n bk _ _ D2 E2 L hw2 (by show itL (wrI bs q) ≤ _; omega)) rfl (fun r L' hp => ?_)
    obtain ⟨C, rfl, ho⟩ := hp
    (repeat' first|refine kW ?_|refine kU fun bk=>?_|refine kV fun hc=>?_|refine kZ (fun hc=>?_) fun hc=>?_|fail)
    refine kR ?_
    exact ⟨_, iC, C, ho, rfl⟩
end Go.Proofs.YtdcehmhelfohfaaGreatDoor
namespace Go.Proofs.YtdcehmhelfohfaaGreatDoor
open Go Go.Vx Go.ChangeShapes Go.WideShapes Go.ChangeAt Go.RowKit
set_option maxRecDepth 4000
set_option linter.all false
def blks (W : World) : Chunk := W.heap.toList.zipIdx.map fun x => (x.2, x.1)
theorem blks_mem {W : World} {b : Nat} {o : Obj} : (b, o) ∈ blks W ↔ W.heap[b]? = some o := by
  unfold blks
  rw [List.mem_map]
  constructor
  · rintro ⟨⟨x, i⟩, hm, he⟩
    simp at he
    obtain ⟨rfl, rfl⟩ := he
    have := List.mk_mem_zipIdx_iff_getElem?.1 hm
    simpa using this
  · intro h
    exact ⟨(o, b), List.mk_mem_zipIdx_iff_getElem?.2 (by simpa using h), rfl⟩
theorem blks_keys (W : World) : ((blks W).map Prod.fst).Nodup := by
  have : (blks W).map Prod.fst = List.range' 0 W.heap.toList.length := by
    unfold blks
    rw [List.map_map]
    exact List.zipIdx_map_snd 0 _
  rw [this]
  exact List.nodup_range'
structure Kept (W W' : World) : Prop where
  os : W'.os = W.os
  output : W'.output = W.output
  block : ∀ k, k < W.heap.size → W'.heap[k]? = W.heap[k]?
theorem bridge {P : Program} {f : FuncId} {args : Array Value} {W : World} {v : Value} (h : ∀ [W0], GvP P f args [blks W] v) : Calls P f args W fun e W' => e = .returned v ∧ Kept W W' := by
  letI i : W0 := ⟨W.os, W.output⟩
  have h0 : GvP P f args [blks W] v := h
  have hH : Holds W [blks W] := ⟨by simpa using blks_keys W, fun x hx => blks_mem.1 (by simpa using hx), rfl, rfl⟩
  refine (h0.out W hH).mono fun e W' he => ?_
  obtain ⟨v', L', rfl, ⟨rfl, rfl⟩, hw⟩ := he
  refine ⟨rfl, hw.2.2.1, hw.2.2.2, fun k hk => ?_⟩
  have hm : W.heap[k]? = some W.heap[k] := by simp [hk]
  rw [hm]
  exact hw.2.1 (k, W.heap[k]) (by simpa using blks_mem.2 hm)
theorem Kept.frame {W W' : World} (h : Kept W W') (may : MemPlace → Prop) : W.keptBut W' may := by
  refine ⟨h.os, h.output, fun i hi => ?_⟩
  rw [h.block i hi]
  split <;> simp_all
theorem Kept.same {W W' : World} (h : Kept W W') {p : MemPlace} (hp : p.block < W.heap.size) : W.sameAt W' p := by
  cases p with
  | cell b o => exact World.cell?_of_block (w := W) (h.block b hp)
  | map b => exact h.block b hp
theorem Kept.trod {H : Type} {enc : TypeId × Value → H} {P : Program} {t : TypeId} (hl : laidOutB P = true) (hr : P.readableRec t = true) (hrow : t < P.types.size) {W W' : World} {v : Value} {d : DataW H} {ps : List MemPlace}
    (h : DataW.Trod enc P W 0 (fun _ => true) true t v d ps) (hb : Kept W W') (hlt : ∀ x ∈ ps, x.block < W.heap.size) :
    DataW.Trod enc P W' 0 (fun b => decide (b < W.heap.size)) true t v d ps :=
  WideElems.Trod_stays hl hr hrow h (fun x hx => hb.same (hlt x hx)) (fun x hx => by simpa using hlt x hx)
theorem bulk_lits {H : Type} (k : IntKind) : ∀ xs : List Int, Rows.uptoBulkAll (H := H) (lits k xs) = xs.length
  | [] => rfl
  | x :: r => by
    have := bulk_lits (H := H) k r
    simp only [lits, List.map_cons, Rows.uptoBulkAll, Rows.uptoBulk, List.length_cons] at *
    omega
theorem open_row {H : Type} {enc : TypeId × Value → H} {P : Program} {W : World} {t e : TypeId} {k : IntKind} {a : Option Addr} {len cap : Nat} {d : DataW H} {ps : List MemPlace} (ht : P.underlying t = some (.slice e)) (he : P.underlying e = some (.int k)) (hc : P.cellsOf e = 1)
    (h : DataW.Trod enc P W 0 (fun _ => true) true t (.slice a len cap) d ps) :
    ∃ xs : List Int, xs.length = len ∧ (∀ n ∈ xs, (Lit.int k n).wf = true) ∧ Sl [blks W] 1 (.slice a len cap) len (xs.map (Value.int k)) ∧ len ≤ Rows.uptoBulk d := by
  letI : W0 := ⟨W.os, W.output⟩
  obtain ⟨fuel, hf⟩ := h
  rcases open_ints ht he hc hf with ⟨hcs, _⟩ | ⟨x, l, c, zs, hcs, _, hl, hm, hz, hx, hcell, hwz⟩
  · simp [Value.cells] at hcs
    obtain ⟨rfl, rfl, rfl⟩ := hcs
    exact ⟨[], rfl, fun n h => by simp at h, .inl ⟨0, rfl, rfl, rfl⟩, Nat.zero_le _⟩
  · simp [Value.cells] at hcs
    obtain ⟨rfl, rfl, rfl⟩ := hcs
    have hzl : zs.length = cap := by simpa using hz
    have hd : d = .slice (lits k (zs.take len)) (lits k (zs.drop len)) := by injection hx
    refine ⟨zs.take len, by simp; omega, fun n hn => hwz n (List.mem_of_mem_take hn), ?_, ?_⟩
    · refine .inr ⟨x, cap, rfl, ?_, by simp; omega⟩
      rcases Nat.eq_zero_or_pos len with h0 | h0
      · subst h0; exact .inl (by simp)
      · have hc0 := hcell 0 (by omega)
        obtain ⟨b, off, spot⟩ := x
        have hspot : spot = none := by simpa [Addr.add] using World.cell?_spot hc0
        subst hspot
        have hblk : ∃ C T fr, W.heap[b]? = some (.cells C T fr) := by
          have : (⟨b, off, none⟩ : Addr).add 0 = ⟨b, off, none⟩ := by simp [Addr.add]
          rw [this] at hc0
          unfold World.cell? at hc0
          split at hc0
          · rename_i C T fr hb; exact ⟨C, T, fr, hb⟩
          · cases hc0
        obtain ⟨C, T, fr, hb⟩ := hblk
        refine .inr ⟨b, off, C, T, fr, rfl, by simpa [Fnd] using blks_mem.2 hb, fun j u hj => ?_⟩
        have hjl : j < len := by
          rcases Nat.lt_or_ge j len with h' | h'
          · exact h'
          · rw [List.getElem?_eq_none (by simp; omega)] at hj; simp at hj
        have hcj := hcell j (by omega)
        rw [addr_add, cell_of hb] at hcj
        rw [hcj, ← hj]
        simp [List.getElem?_take, hjl, List.getD, List.getElem?_eq_getElem (show j < zs.length by omega)]
    · rw [hd]
      simp only [Rows.uptoBulk, bulk_lits, List.length_take]
      omega
theorem bytes_of (xs : List Int) (h : ∀ n ∈ xs, (Lit.int .u8 n).wf = true) : bsv (xs.map fun n => UInt8.ofNat n.toNat) = xs.map (Value.int .u8) := by
  unfold bsv
  rw [List.map_map]
  refine List.map_congr_left fun n hn => ?_
  have := h n hn
  simp [Lit.wf, IntKind.min, IntKind.max, IntKind.signed, IntKind.bits] at this
  have h2 : n.toNat < 256 := by omega
  simp [UInt8.toNat_ofNat, Nat.mod_eq_of_lt h2]
  omega
theorem Tryz.own : ownKnob Tryz.prog.godebug = none := by kernel_rfl
theorem Tryz.laidOut : laidOutB Tryz.prog = true := by kernel_rfl
end Go.Proofs.YtdcehmhelfohfaaGreatDoor
namespace Go.Proofs.YtdcehmhelfohfaaGreatDoor
open Go Go.Vx
variable [W0]
set_option maxRecDepth 4000
set_option linter.all false
omit [W0] in
/-- A word turned to the left. -/
def rol (w : BitVec 32) (s : Nat) : BitVec 32 := w <<< s ||| w >>> (32 - s)
omit [W0] in
def stChoice (b c d : BitVec 32) : BitVec 32 := (b &&& c ||| ~~~ b &&& d) + 1518500249#32
omit [W0] in
def stParity (b c d : BitVec 32) : BitVec 32 := (b ^^^ c ^^^ d) + 1859775393#32
omit [W0] in
def stMajority (b c d : BitVec 32) : BitVec 32 := (b &&& c ||| b &&& d ||| c &&& d) + 2400959708#32
omit [W0] in
def stLast (b c d : BitVec 32) : BitVec 32 := (b ^^^ c ^^^ d) + 3395469782#32
abbrev w32 (w : BitVec 32) : Value := .int .u32 (w.toNat : Int)
end Go.Proofs.YtdcehmhelfohfaaGreatDoor
namespace Go.Proofs.YtdcehmhelfohfaaGreatDoor
open Go Go.Vx
variable [W0]
set_option maxRecDepth 4000
set_option linter.all false
omit [W0] in
/-- Word i of a block. -/
def wordAt (blk : List UInt8) (i : Nat) : BitVec 32 :=
  b2w (blk.getD (4 * i) 0) <<< 24 ||| b2w (blk.getD (4 * i + 1) 0) <<< 16 ||| b2w (blk.getD (4 * i + 2) 0) <<< 8 ||| b2w (blk.getD (4 * i + 3) 0)
omit [W0] in
def schedNext (blk : List UInt8) (l : List (BitVec 32)) : BitVec 32 :=
  if l.length < 16 then wordAt blk l.length
  else rol (l.getD (l.length - 3) 0 ^^^ l.getD (l.length - 8) 0 ^^^ l.getD (l.length - 14) 0 ^^^ l.getD (l.length - 16) 0) 1
omit [W0] in
/-- The first t words of a block's schedule. -/
def sched (blk : List UInt8) : Nat → List (BitVec 32)
  | 0 => []
  | t + 1 => sched blk t ++ [schedNext blk (sched blk t)]
omit [W0] in
/-- The chain. -/
structure H5 where
  a : BitVec 32
  b : BitVec 32
  c : BitVec 32
  d : BitVec 32
  e : BitVec 32
end Go.Proofs.YtdcehmhelfohfaaGreatDoor
namespace Go.Proofs.YtdcehmhelfohfaaGreatDoor
open Go Go.Vx
variable [W0]
set_option maxRecDepth 4000
set_option linter.all false
omit [W0] in
def kindF : Nat → BitVec 32 → BitVec 32 → BitVec 32 → BitVec 32
  | 0 => stChoice
  | 1 => stParity
  | 2 => stMajority
  | _ => stLast
omit [W0] in
/-- One step. -/
def rnd (k : Nat) (h : H5) (w : BitVec 32) : H5 := ⟨rol h.a 5 + kindF k h.b h.c h.d + h.e + w, h.a, rol h.b 30, h.c, h.d⟩
omit [W0] in
/-- The first t steps. -/
def rounds (ws : List (BitVec 32)) (h : H5) : Nat → H5
  | 0 => h
  | t + 1 => rnd (t / 20) (rounds ws h t) (ws.getD t 0)
omit [W0] in
def add5 (h r : H5) : H5 := ⟨h.a + r.a, h.b + r.b, h.c + r.c, h.d + r.d, h.e + r.e⟩
omit [W0] in
/-- A block taken into the chain. -/
def mixN (h : H5) (blk : List UInt8) : H5 := add5 h (rounds (sched blk 80) h 80)
end Go.Proofs.YtdcehmhelfohfaaGreatDoor
namespace Go.Proofs.YtdcehmhelfohfaaGreatDoor
open Go Go.Vx
variable [W0]
set_option maxRecDepth 4000
set_option linter.all false
omit [W0] in
def h50 : H5 := ⟨1732584193#32, 4023233417#32, 2562383102#32, 271733878#32, 3285377520#32⟩
omit [W0] in
/-- The chain behind the first k blocks of a text. -/
def chainN (t : List UInt8) : Nat → H5
  | 0 => h50
  | k + 1 => mixN (chainN t k) ((t.drop (64 * k)).take 64)
theorem chainN_app (t u : List UInt8) : ∀ k, 64 * k ≤ t.length → chainN (t ++ u) k = chainN t k
  | 0, _ => rfl
  | k + 1, h => by
    have e : ((t ++ u).drop (64 * k)).take 64 = (t.drop (64 * k)).take 64 := by
      rw [List.drop_append_of_le_length (by omega), List.take_append_of_le_length (by simp; omega)]
    simp only [chainN, chainN_app t u k (by omega), e]
omit [W0] in
/-- What a digest in progress is of a text. -/
structure ShaI (t : List UInt8) (h : H5) (blk : List UInt8) : Prop where
  len : blk.length = 64
  chain : h = chainN t (t.length / 64)
  rest : blk.take (t.length % 64) = t.drop (64 * (t.length / 64))
omit [W0] in
def fillB (blk : List UInt8) (r : Nat) (u : List UInt8) : List UInt8 := blk.take r ++ (u ++ blk.drop (r + u.length))
theorem fillB_length {blk u : List UInt8} {r : Nat} (hb : blk.length = 64) (h : r + u.length ≤ 64) : (fillB blk r u).length = 64 := by
  simp [fillB]; omega
theorem fillB_take {blk u : List UInt8} {r : Nat} (hb : blk.length = 64) (h : r + u.length ≤ 64) : (fillB blk r u).take (r + u.length) = blk.take r ++ u := by
  unfold fillB
  have e : (blk.take r ++ u).length = r + u.length := by simp; omega
  rw [← List.append_assoc, ← e, List.take_left]
theorem ShaI.full {t u : List UInt8} {h : H5} {blk : List UInt8} (hi : ShaI t h blk) (hu : t.length % 64 + u.length = 64) : ShaI (t ++ u) (mixN h (fillB blk (t.length % 64) u)) (fillB blk (t.length % 64) u) := by
  have e1 : (t ++ u).length / 64 = t.length / 64 + 1 := by simp; omega
  have e2 : (t ++ u).length % 64 = 0 := by simp; omega
  have hl := fillB_length (u := u) hi.len (show t.length % 64 + u.length ≤ 64 by omega)
  have ht := fillB_take (u := u) hi.len (show t.length % 64 + u.length ≤ 64 by omega)
  rw [hu, List.take_of_length_le (by omega), hi.rest] at ht
  have e3 : ((t ++ u).drop (64 * (t.length / 64))).take 64 = fillB blk (t.length % 64) u := by
    rw [ht, List.drop_append_of_le_length (by omega), List.take_of_length_le]
    simp; omega
  refine ⟨hl, ?_, ?_⟩
  · rw [e1]
    simp only [chainN]
    rw [chainN_app _ _ _ (by omega), ← hi.chain, e3]
  · rw [e1, e2, List.take_zero, List.drop_of_length_le (by simp; omega)]
theorem ShaI.new : ShaI [] h50 (List.replicate 64 0) := ⟨by simp, rfl, rfl⟩
omit [W0] in
/-- A slice that can be read, and its room. -/
structure SlC (L : List Chunk) (k : Nat) (v : Value) (m : Nat) (xs : List Value) : Prop where
  sl : Sl L k v m xs
  room : ∃ a c, v = .slice a m c ∧ m ≤ c
theorem SlC.there {L : List Chunk} {C : Chunk} {k m : Nat} {v : Value} {xs : List Value} (h : SlC L k v m xs) : SlC (C :: L) k v m xs := ⟨sl_there h.sl, h.room⟩
theorem SlC.ow {e k m : Nat} {v : Value} {xs : List Value} {C : Chunk} {L : List Chunk} (h : Ow e k v m xs C) : SlC (C :: L) k v m xs := by
  refine ⟨ow_sl h, ?_⟩
  rcases h with ⟨rfl, rfl, _⟩ | ⟨b, cap, rest, rfl, _, _, _, hmc, _⟩
  · exact ⟨_, _, rfl, Nat.le_refl _⟩
  · exact ⟨_, _, rfl, hmc⟩
theorem SlC.cut {L : List Chunk} {bb off m cap q : Nat} {l : List UInt8} {c : Array Value} {T : TypeId} {fr : Nat × Nat} (hf : Fnd L bb (.cells c T fr)) (hc : ∀ j u, (bsv l)[j]? = some u → c[off + j]? = some u) (hm : l.length = m) (hq : q ≤ m) (hmc : m ≤ cap) :
    SlC L 1 (.slice (some ⟨bb, if cap = q then off else off + q * 1, none⟩) (m - q) (cap - q)) (m - q) (bsv (l.drop q)) := by
  refine ⟨.inr ⟨_, _, rfl, ?_, by simp [bsv_length, hm]⟩, _, _, rfl, by omega⟩
  by_cases h0 : m = q
  · refine .inl ?_
    rw [List.drop_of_length_le (by omega)]; rfl
  · refine .inr ⟨bb, _, c, T, fr, rfl, hf, fun j u hj => ?_⟩
    rw [if_neg (by omega), Nat.mul_one, Nat.add_assoc]
    refine hc _ _ ?_
    rw [← hj]
    simp [bsv]
end Go.Proofs.YtdcehmhelfohfaaGreatDoor
namespace Go.Proofs.YtdcehmhelfohfaaGreatDoor
open Go Go.Vx
variable [W0]
set_option maxRecDepth 4000
set_option linter.all false
theorem sl_byte {L : List Chunk} {v : Value} {m k : Nat} {t : List UInt8} (h : Sl L 1 v m (bsv t)) (hk : k < m) :
    ∃ bb off cap c T fr, v = .slice (some ⟨bb, off, none⟩) m cap ∧ Fnd L bb (.cells c T fr) ∧ c[off + k * 1]? = some (.int .u8 ((t.getD k 0).toNat : Int)) := by
  rcases h with ⟨c, rfl, rfl, h0⟩ | ⟨a, cap, rfl, hr, hl⟩
  · omega
  · have hlt : k < t.length := by rw [bsv_length] at hl; omega
    have hg : (bsv t)[k]? = some (.int .u8 ((t.getD k 0).toNat : Int)) := bsv_get (by simp [List.getD, hlt])
    rcases hr with h0 | ⟨b, off, c, T, fr, rfl, h1, h2⟩
    · rw [h0] at hg; simp at hg
    · exact ⟨b, off, cap, c, T, fr, rfl, h1, by rw [Nat.mul_one]; exact h2 _ _ hg⟩
theorem take_succ {α : Type} {t : List α} {k : Nat} (d : α) (h : k < t.length) : t.take (k + 1) = t.take k ++ [t.getD k d] := by
  rw [List.take_add_one, List.getElem?_eq_getElem h]
  simp [List.getD, h]
omit [W0] in
def adlA (a : BitVec 32) (x : UInt8) : BitVec 32 := (a + b2w x) % 65521#32
omit [W0] in
def adlN (s : BitVec 32 × BitVec 32) (t : List UInt8) : BitVec 32 × BitVec 32 := t.foldl (fun s x => (adlA s.1 x, (s.2 + adlA s.1 x) % 65521#32)) s
theorem adlN_snoc (s : BitVec 32 × BitVec 32) (t : List UInt8) (x : UInt8) : adlN s (t ++ [x]) = (adlA (adlN s t).1 x, ((adlN s t).2 + adlA (adlN s t).1 x) % 65521#32) := by simp [adlN]
omit [W0] in
def adlV (s : BitVec 32 × BitVec 32) : BitVec 32 := s.2 <<< 16 ||| s.1
theorem newAdler_n (L : List Chunk) : Gv Tryz.prog 54 [].toArray L (fun r L' => ∃ p, r = .pointer (some ⟨p, 0, none⟩) ∧ L' = [(p, cl [w32 1#32, w32 0#32] 153)] :: L) := by
  refine Gv.of_body Tryz.func54 rfl rfl ?_
  (repeat' first|refine kX ?_|refine kU fun bk=>?_|refine kV fun hc=>?_|refine kZ (fun hc=>?_) fun hc=>?_|fail)
  first | refine WQ_retH rfl rfl ?_ | refine WQ_endH rfl rfl ?_
  exact ⟨[(bk, cl [w32 1#32, w32 0#32] 153)] :: L, fun w h => h, bk, rfl, rfl⟩
theorem adlerwrite_n (s : BitVec 32 × BitVec 32) (t : List UInt8) (v : Value) (p : Nat) (L : List Chunk) (hlen : t.length < 576460752303423488) (hv : SlC L 1 v t.length (bsv t)) :
    Gv Tryz.prog 55 [.pointer (some ⟨p, 0, none⟩), v].toArray ([(p, cl [w32 s.1, w32 s.2] 153)] :: L)
      (fun z L' => z = .tuple #[] ∧ L' = [(p, cl [w32 (adlN s t).1, w32 (adlN s t).2] 153)] :: L) := by
  refine Gv.of_body Tryz.func55 rfl rfl ?_
  obtain ⟨a, c, rfl, hmc⟩ := hv.room
  (repeat' first|refine kX ?_|refine kU fun bk=>?_|refine kV fun hc=>?_|refine kZ (fun hc=>?_) fun hc=>?_|fail)
  refine WC_drawAll [] mixed ?_
  (refine WR_w 0 ?_; refine WR_w 1 ?_; refine WR_w 2 ?_; refine WR_w 3 ?_; refine WR_w 4 ?_; refine WR_w 5 ?_; refine WR_w 6 ?_; refine WR_w 7 ?_; refine WR_w 8 ?_; refine WR_w 9 ?_)
  (refine WR_done (by kernel_rfl) ?_)
  (repeat' first|refine kX ?_|refine kU fun bk=>?_|refine kV fun hc=>?_|refine kZ (fun hc=>?_) fun hc=>?_|fail)
  refine WC_loop (X := Nat) (fun k => [(0, .pointer (some ⟨p, 0, none⟩)), (4, w32 (adlN s (t.take k)).1), (5, w32 (adlN s (t.take k)).2), (16, .slice a t.length c), (17, .int .i64 (t.length : Int)), (18, .int .i64 (k : Int))])
    (fun k => [(p, cl [w32 s.1, w32 s.2] 153)] :: L) (fun k => k ≤ t.length) (fun k => t.length - k) 0 (Nat.zero_le _) (by repeat (first | exact Sub.nil | refine Sub.cons rfl ?_ | refine Sub.cons (lk_int rfl (by first | omega | (dsimp only; omega))) ?_)) (fun w h => h) ?_
  intro k hk
  replace hk : k ≤ t.length := hk
  (repeat' first|refine kX ?_|refine kU fun bk=>?_|refine kV fun hc=>?_|refine kZ (fun hc=>?_) fun hc=>?_|fail)
  · have hlt : k < t.length := by omega
    obtain ⟨bb, off, cap, cc, bT, bfr, hve, hfn, hcell⟩ := sl_byte hv.sl hlt
    injection hve with e1 e2 e3
    subst e1 e3
    clear e2
    (repeat' first|refine kX ?_|refine kU fun bk=>?_|refine kV fun hc=>?_|refine kZ (fun hc=>?_) fun hc=>?_|fail)
    refine OW_W ?_ (he := EV_load rfl hfn.there hcell)
    (repeat' first|refine kX ?_|refine kU fun bk=>?_|refine kV fun hc=>?_|refine kZ (fun hc=>?_) fun hc=>?_|fail)
    refine WQ_round (X := Nat) (J := fun k => k ≤ t.length) (μ := fun k => t.length - k) (x := k) (k + 1) (by omega) (show k + 1 ≤ t.length by omega) ?_ (fun w h => h)
    rw [take_succ 0 hlt, adlN_snoc]
    exact (by repeat (first | exact Sub.nil | refine Sub.cons rfl ?_ | refine Sub.cons (lk_int rfl (by first | omega | (dsimp only; omega))) ?_))
  · have hk : k = t.length := by omega
    subst hk
    rw [List.take_length]
    (first | refine WQ_retI rfl rfl ?_ | refine WQ_endI rfl rfl ?_)
    exact ⟨_, iC, rfl, rfl⟩
theorem adlervalue_n (s : BitVec 32 × BitVec 32) (p : Nat) (L : List Chunk) (hf : Fnd L p (cl [w32 s.1, w32 s.2] 153)) : GvP Tryz.prog 56 [.pointer (some ⟨p, 0, none⟩)].toArray L (w32 (adlV s)) := by
  refine Gv.of_body Tryz.func56 rfl rfl ?_
  (repeat' first|refine kX ?_|refine kU fun bk=>?_|refine kV fun hc=>?_|refine kZ (fun hc=>?_) fun hc=>?_|fail)
  refine WC_drawAll [] mixed ?_
  (refine WR_w 0 ?_; refine WR_w 1 ?_; refine WR_w 2 ?_; refine WR_w 3 ?_; refine WR_w 4 ?_; refine WR_w 5 ?_; refine WR_w 6 ?_; refine WR_w 7 ?_; refine WR_w 8 ?_; refine WR_w 9 ?_; refine WR_w 10 ?_)
  (refine WR_done (by kernel_rfl) ?_)
  (repeat' first|refine kX ?_|refine kU fun bk=>?_|refine kV fun hc=>?_|refine kZ (fun hc=>?_) fun hc=>?_|fail)
  ((first | refine WQ_retI rfl rfl ?_ | refine WQ_endI rfl rfl ?_); exact ⟨_, iC, rfl, rfl⟩)
theorem adler_n (t : List UInt8) (v : Value) (L : List Chunk) (hlen : t.length < 576460752303423488) (hv : SlC L 1 v t.length (bsv t)) :
    GvP Tryz.prog 29 [v].toArray L (w32 (adlV (adlN (1#32, 0#32) t))) := by
  refine Gv.of_body Tryz.func29 rfl rfl ?_
  (repeat' first|refine kX ?_|refine kU fun bk=>?_|refine kV fun hc=>?_|refine kZ (fun hc=>?_) fun hc=>?_|fail)
  refine OW_call rfl rfl rfl (newAdler_n L) rfl (fun r L' hp => ?_)
  obtain ⟨p, rfl, rfl⟩ := hp
  (repeat' first|refine kX ?_|refine kU fun bk=>?_|refine kV fun hc=>?_|refine kZ (fun hc=>?_) fun hc=>?_|fail)
  refine OW_call rfl rfl rfl (adlerwrite_n (1#32, 0#32) t v p L hlen hv) rfl (fun r L' hp => ?_)
  obtain ⟨rfl, rfl⟩ := hp
  (repeat' first|refine kX ?_|refine kU fun bk=>?_|refine kV fun hc=>?_|refine kZ (fun hc=>?_) fun hc=>?_|fail)
  refine OW_callP rfl rfl rfl (adlervalue_n (adlN (1#32, 0#32) t) p _ Fnd.here) rfl ?_
  (repeat' first|refine kX ?_|refine kU fun bk=>?_|refine kV fun hc=>?_|refine kZ (fun hc=>?_) fun hc=>?_|fail)
  ((first | refine WQ_retI rfl rfl ?_ | refine WQ_endI rfl rfl ?_); exact ⟨_, iC, rfl, rfl⟩)
end Go.Proofs.YtdcehmhelfohfaaGreatDoor
namespace Go.Vx
open Go
set_option linter.all false
variable [W0]
omit [W0] in
/-- No cell of the row is marked. -/
def FrOk (fr : Nat × Nat) (n : Nat) : Prop := ∀ j, j < n → ¬ (fr.1 ≤ j ∧ j < fr.2)
theorem FrOk.zero (n : Nat) : FrOk (0, 0) n := fun j _ h => by simp at h
theorem FrOk.behind (n : Nat) : FrOk (n, n + 1) n := fun j hj h => by simp at h; omega
end Go.Vx
namespace Go.Df
open Go.Vx Go.If Go.Hf
set_option linter.all false
def stF : Nat → List UInt8 → List Blk
  | 0, b => [.st b]
  | f + 1, b => if 65535 < b.length then .st (b.take 65535) :: stF f (b.drop 65535) else [.st b]
def stB (b : List UInt8) : List Blk := stF b.length b
theorem stF_stop {b : List UInt8} (h : ¬ 65535 < b.length) : ∀ f, stF f b = [.st b]
  | 0 => rfl
  | f + 1 => by rw [stF, if_neg h]
end Go.Df
namespace Go.Proofs.YtdcehmhelfohfaaGreatDoor
open Go Go.Vx Go.Hf Go.If Go.Df
variable [W0]
set_option maxRecDepth 4000
set_option linter.all false
structure BlsO (L : List Chunk) (v : Value) (bs : List Blk) (C : Chunk) : Prop where
  ex : ∃ vs : List Value, Ow 76 1 v bs.length vs C ∧ ones vs = true ∧ ∀ (i : Nat) (B : Blk), bs[i]? = some B → ∃ u, vs[i]? = some u ∧ BlkR L u B
theorem BlsO.r {L : List Chunk} {v : Value} {bs : List Blk} {C : Chunk} (h : BlsO L v bs C) : BlsR (C :: L) v bs := by
  obtain ⟨vs, h1, h2, h3⟩ := h.ex
  exact ⟨vs, Rs.ow h1, h2, fun i B hi => by obtain ⟨u, h4, h5⟩ := h3 i B hi; exact ⟨u, h4, h5.sub sub_there⟩⟩
theorem BlsO.sub {L L' : List Chunk} (hs : ∀ x ∈ L.flatten, x ∈ L'.flatten) {v : Value} {bs : List Blk} {C : Chunk} (h : BlsO L v bs C) : BlsO L' v bs C := by
  obtain ⟨vs, h1, h2, h3⟩ := h.ex
  exact ⟨vs, h1, h2, fun i B hi => by obtain ⟨u, h4, h5⟩ := h3 i B hi; exact ⟨u, h4, h5.sub hs⟩⟩
theorem BlsO.nil (L : List Chunk) : BlsO L (.slice none 0 0) [] [] := ⟨[], .inl ⟨rfl, rfl, rfl, rfl⟩, rfl, fun i B h => by simp at h⟩
theorem BlsO.push {L : List Chunk} {v' u : Value} {bs : List Blk} {B : Blk} {C' : Chunk} {vs : List Value} (h2 : ones vs = true) (h3 : ∀ (i : Nat) (B : Blk), bs[i]? = some B → ∃ u, vs[i]? = some u ∧ BlkR L u B) (hl : vs.length = bs.length)
    (ho : Ow 76 1 v' (bs.length + 1) (vs ++ [u]) C') (h1 : u.oneCell' = true) (hB : BlkR L u B) : BlsO L v' (bs ++ [B]) C' := by
  refine ⟨vs ++ [u], by simpa using ho, ?_, fun i B' hi => ?_⟩
  · simp only [ones, List.all_append, List.all_cons, List.all_nil, Bool.and_true, h1] at h2 ⊢
    exact h2
  · rcases Nat.lt_or_ge i bs.length with hlt | hge
    · rw [List.getElem?_append_left hlt] at hi
      obtain ⟨u', h4, h5⟩ := h3 i B' hi
      exact ⟨u', by rw [List.getElem?_append_left (by omega)]; exact h4, h5⟩
    · rw [List.getElem?_append_right hge] at hi
      have h0 : i - bs.length = 0 := by
        rcases Nat.eq_zero_or_pos (i - bs.length) with h | h
        · exact h
        · rw [List.getElem?_eq_none (show [B].length ≤ i - bs.length from h)] at hi
          cases hi
      rw [h0] at hi
      simp only [List.getElem?_cons_zero, Option.some.injEq] at hi
      subst hi
      exact ⟨u, by rw [List.getElem?_append_right (by omega), show i - vs.length = 0 from by omega]; rfl, hB⟩
theorem flags_n (level : Int) (L : List Chunk) : GvP Tryz.prog 28 [.int .i64 level].toArray L (.int .u8 (if level ≤ 0 then 1 else if level = 1 then 94 else 156)) := by
  refine Gv.of_body Tryz.func28 rfl rfl ?_
  (repeat' first|refine kW ?_|refine kU fun bk=>?_|refine kV fun hc=>?_|refine kZ (fun hc=>?_) fun hc=>?_|fail)
  · rw [if_pos (by omega)]
    refine kR ?_
    exact ⟨_, iC, rfl, rfl⟩
  · rw [if_neg (by omega), if_pos (by omega)]
    refine kR ?_
    exact ⟨_, iC, rfl, rfl⟩
  · rw [if_neg (by omega), if_neg (by omega)]
    refine kR ?_
    exact ⟨_, iC, rfl, rfl⟩
set_option maxHeartbeats 8000000 in
theorem storedOf_n (v : Value) (b : List UInt8) (S L : List Chunk) (ht : Rs S 1 v b.length (bsv b)) (hb : b.length ≤ 200000) :
    Gv Tryz.prog 35 [v].toArray L (fun r L' => ∃ C, BlsO S r (stB b) C ∧ L' = C :: L) := by
  refine Gv.of_body (args := [v]) Tryz.func35 rfl rfl ?_
  (repeat' first|refine kW ?_|refine kU fun bk=>?_|refine kV fun hc=>?_|refine kZ (fun hc=>?_) fun hc=>?_|fail)
  refine WC_loop (X := Nat × List UInt8 × Value × List Blk × Value × Chunk) (fun x => [(0, x.2.2.1), (3, x.2.2.2.2.1)]) (fun x => x.2.2.2.2.2 :: L)
    (fun x => Rs S 1 x.2.2.1 x.2.1.length (bsv x.2.1) ∧ x.2.1.length ≤ x.1 ∧ x.1 ≤ 200000 ∧ BlsO S x.2.2.2.2.1 x.2.2.2.1 x.2.2.2.2.2 ∧ x.2.2.2.1.length + x.1 ≤ 200000 ∧ x.2.2.2.1 ++ stF x.1 x.2.1 = stB b) (fun x => x.1) (b.length, b, v, [], .slice none 0 0, [])
    ⟨ht, Nat.le_refl _, hb, BlsO.nil S, by simpa using hb, rfl⟩ iS (fun w h => Holds.nil.2 h) ?_
  clear ht v
  rintro ⟨f, t, v, bs, vl, Cl⟩ ⟨ht, htf, hf2, hbl, hbn, hst⟩
  simp only at ht htf hf2 hbl hbn hst ⊢
  obtain ⟨va, vc, rfl, hroom⟩ := ht.room
  obtain ⟨vs, hov, hon, hex⟩ := hbl.ex
  have hvl : vs.length = bs.length := by rcases hov with ⟨_, h0, rfl, _⟩ | ⟨_, _, _, _, _, h, _⟩; simpa using h0.symm; omega
  (repeat' first|refine kW ?_|refine kU fun bk=>?_|refine kV fun hc=>?_|refine kZ (fun hc=>?_) fun hc=>?_|fail)
  · have hlt : 65535 < t.length := by omega
    obtain ⟨g, rfl⟩ : ∃ g, f = g + 1 := ⟨f - 1, by omega⟩
    rw [stF, if_pos hlt] at hst
    obtain ⟨r1, hr1, hev1⟩ := EV_sliceRs (P := Tryz.prog) (T := 22) ht (l := 0) (h := 65535) (by omega) (by omega)
    obtain ⟨r2, hr2, hev2⟩ := EV_sliceRs (P := Tryz.prog) (T := 22) ht (l := 65535) (h := t.length) (by omega) (by omega)
    have e1 : (((bsv t).drop (0 * 1)).take ((65535 - 0) * 1)) = bsv (t.take 65535) := by simp [bsv, List.map_take]
    have e2 : (((bsv t).drop (65535 * 1)).take ((t.length - 65535) * 1)) = bsv (t.drop 65535) := by
      rw [Nat.mul_one, Nat.mul_one, List.take_of_length_le (by rw [List.length_drop, bsv_length]; exact Nat.le_refl _)]
      simp [bsv, List.map_drop]
    rw [e1] at hr1
    rw [e2] at hr2
    refine OW_EV (hev1 rfl rfl rfl) rfl ?_
    obtain ⟨ra, rc, rfl, _⟩ := hr1.room
    (repeat' first|refine kW ?_|refine kU fun bk=>?_|refine kV fun hc=>?_|refine kZ (fun hc=>?_) fun hc=>?_|fail)
    refine OW_buildSlice (cs := [.iface 121 (.agg #[.slice ra (65535 - 0) rc])]) rfl (by rfl) (by first | (simp [fillL, patch, Value.cells, zeros]; done) | (simp [fillL, patch, Value.cells, zeros]; rfl)) (by omega) rfl rfl (fun bn => ?_)
    (repeat' first|refine kW ?_|refine kU fun bk=>?_|refine kV fun hc=>?_|refine kZ (fun hc=>?_) fun hc=>?_|fail)
    refine OW_append rfl rfl hov (sl_cells (k := 1) (c := #[.iface 121 (.agg #[.slice ra (65535 - 0) rc])]) (xs := [.iface 121 (.agg #[.slice ra (65535 - 0) rc])]) (m := 1) Fnd.here rfl (by simp)) (by repeat (first | exact Zip.here _ | apply Zip.there)) rfl (by rfl) (by omega) (by simp [maxLen]; omega) rfl (fun v' C' ho' _ _ => ?_)
    have hbl' := BlsO.push (B := .st (t.take 65535)) hon hex hvl ho' rfl ⟨_, rfl, by rw [List.length_take, Nat.min_eq_left (by omega)]; exact hr1, by rw [List.length_take]; omega⟩
    (repeat' first|refine kW ?_|refine kU fun bk=>?_|refine kV fun hc=>?_|refine kZ (fun hc=>?_) fun hc=>?_|fail)
    refine OW_EV (hev2 rfl rfl rfl) rfl ?_
    (repeat' first|refine kW ?_|refine kU fun bk=>?_|refine kV fun hc=>?_|refine kZ (fun hc=>?_) fun hc=>?_|fail)
    refine WQ_round (X := Nat × List UInt8 × Value × List Blk × Value × Chunk) (μ := fun x => x.1) (x := (g + 1, t, .slice va t.length vc, bs, vl, Cl)) (g, t.drop 65535, r2, bs ++ [.st (t.take 65535)], v', C') (by simp only; omega) ⟨by simp only; rw [List.length_drop]; exact hr2, by simp only [List.length_drop]; omega, by simp only; omega, hbl', by simp only [List.length_append, List.length_singleton]; omega, by simp only; rw [List.append_assoc]; exact hst⟩ iS (fun w h => iH h)
  · rw [stF_stop (by omega)] at hst
    refine OW_buildSlice (cs := [.iface 121 (.agg #[.slice va t.length vc])]) rfl (by rfl) (by first | (simp [fillL, patch, Value.cells, zeros]; done) | (simp [fillL, patch, Value.cells, zeros]; rfl)) (by omega) rfl rfl (fun bn => ?_)
    (repeat' first|refine kW ?_|refine kU fun bk=>?_|refine kV fun hc=>?_|refine kZ (fun hc=>?_) fun hc=>?_|fail)
    refine OW_append rfl rfl hov (sl_cells (k := 1) (c := #[.iface 121 (.agg #[.slice va t.length vc])]) (xs := [.iface 121 (.agg #[.slice va t.length vc])]) (m := 1) Fnd.here rfl (by simp)) (by repeat (first | exact Zip.here _ | apply Zip.there)) rfl (by rfl) (by omega) (by simp [maxLen]; omega) rfl (fun v' C' ho' _ _ => ?_)
    have hbl' := BlsO.push (B := .st t) hon hex hvl ho' rfl ⟨_, rfl, ht, by omega⟩
    rw [hst] at hbl'
    (repeat' first|refine kW ?_|refine kU fun bk=>?_|refine kV fun hc=>?_|refine kZ (fun hc=>?_) fun hc=>?_|fail)
    refine kR ?_
    exact ⟨_, iC, C', hbl', rfl⟩
end Go.Proofs.YtdcehmhelfohfaaGreatDoor
namespace Go.Df
open Go.Vx Go.If Go.Hf
set_option linter.all false
def be4 (n : Nat) : List UInt8 := [UInt8.ofNat (n / 16777216), UInt8.ofNat (n / 65536), UInt8.ofNat (n / 256), UInt8.ofNat n]
def flB (level : Int) : UInt8 := if level ≤ 0 then 1 else if level = 1 then 94 else 156
def wrB [W0] (x : List Blk) (q : Blk) : List UInt8 := leB (itV (wrI x q)) ((itL (wrI x q) + 7) / 8)
theorem u8w [W0] (m : Nat) : IntKind.u8.wrap (m : Int) = ((UInt8.ofNat m).toNat : Int) := by rw [wrap_u8, UInt8.toNat_ofNat']; omega
end Go.Df
namespace Go.Proofs.YtdcehmhelfohfaaGreatDoor
open Go Go.Vx Go.Hf Go.If Go.Df
variable [W0]
set_option maxRecDepth 4000
set_option linter.all false
theorem raw0_n (v : Value) (level : Int) (b : List UInt8) (x : List Blk) (q : Blk) (L : List Chunk) (ht : Rs L 1 v b.length (bsv b)) (hb : b.length ≤ 200000) (hl : level ≤ 0) (hs : stB b = x ++ [q]) (hx : x.length ≤ 1000) :
    Gv Tryz.prog 8 [v, .int .i64 level].toArray L (fun r L' => ∃ C, Ow 5 1 r (wrB x q).length (bsv (wrB x q)) C ∧ L' = C :: L) := by
  refine Gv.of_body (args := [v, .int .i64 level]) Tryz.func8 rfl rfl ?_
  have hbo : Gv Tryz.prog 15 [v, .int .i64 level].toArray L (fun r L' => ∃ C, BlsO L r (stB b) C ∧ L' = C :: L) := by
    refine Gv.of_body (args := [v, .int .i64 level]) Tryz.func15 rfl rfl ?_
    (repeat' first|refine kW ?_|refine kU fun bk=>?_|refine kV fun hc=>?_|refine kZ (fun hc=>?_) fun hc=>?_|fail)
    refine OW_call rfl rfl rfl (storedOf_n v b L L ht hb) rfl (fun r L' hp => ?_)
    obtain ⟨C, hbl, rfl⟩ := hp
    (repeat' first|refine kW ?_|refine kU fun bk=>?_|refine kV fun hc=>?_|refine kZ (fun hc=>?_) fun hc=>?_|fail)
    refine kR ?_
    exact ⟨_, iC, C, hbl, rfl⟩
  (repeat' first|refine kW ?_|refine kU fun bk=>?_|refine kV fun hc=>?_|refine kZ (fun hc=>?_) fun hc=>?_|fail)
  refine OW_call rfl rfl rfl hbo rfl (fun r L' hp => ?_)
  obtain ⟨C, hbl, rfl⟩ := hp
  rw [hs] at hbl
  (repeat' first|refine kW ?_|refine kU fun bk=>?_|refine kV fun hc=>?_|refine kZ (fun hc=>?_) fun hc=>?_|fail)
  refine OW_call rfl rfl rfl (written_n r x q _ hbl.r hx) rfl (fun r2 L' hp => ?_)
  obtain ⟨C2, ho, rfl⟩ := hp
  (repeat' first|refine kW ?_|refine kU fun bk=>?_|refine kV fun hc=>?_|refine kZ (fun hc=>?_) fun hc=>?_|fail)
  refine kR ?_
  exact ⟨_, iC, C2, by rw [show (wrB x q).length = (itL (wrI x q) + 7) / 8 from leB_length _ _]; exact ho, rfl⟩
set_option maxHeartbeats 8000000 in
theorem zlib_n (v : Value) (level : Int) (b o : List UInt8) (L : List Chunk) (Q : List UInt8 → Prop) (R : List Chunk → Prop) (hRC : ∀ C L', R L' → R (C :: L')) (hR : R L) (ht : Rs L 1 v b.length (bsv b)) (hb : b.length ≤ 200000)
    (hraw : ∀ L', R L' → Rs L' 1 v b.length (bsv b) → Gv Tryz.prog 8 [v, .int .i64 level].toArray L' (fun r L2 => ∃ C o, Q o ∧ o.length ≤ 1000000000 ∧ Ow 5 1 r o.length (bsv o) C ∧ L2 = C :: L')) :
    Gv Tryz.prog 12 [v, .int .i64 level].toArray L (fun r L' => ∃ C o, Q o ∧ o.length ≤ 1000000000 ∧ Ow 5 1 r (2 + o.length + 4) (bsv ([120, flB level] ++ o ++ be4 (adlV (adlN (1#32, 0#32) b)).toNat)) C ∧ L' = C :: L) := by
  refine Gv.of_body (args := [v, .int .i64 level]) Tryz.func12 rfl rfl ?_
  have had := fun L' (h : Rs L' 1 v b.length (bsv b)) => adler_n b v L' (by omega) ⟨h.sl, h.room⟩
  obtain ⟨n, hn⟩ : ∃ n, n = (adlV (adlN (1#32, 0#32) b)).toNat := ⟨_, rfl⟩
  have hn2 : n < 4294967296 := by rw [hn]; exact (adlV (adlN (1#32, 0#32) b)).isLt
  unfold w32 at had
  rw [← hn] at had ⊢
  have hfl : (if level ≤ 0 then (1 : Int) else if level = 1 then 94 else 156) = ((flB level).toNat : Int) := by
    unfold flB
    split
    · rfl
    · split <;> rfl
  have hfn := fun L => flags_n level L
  rw [hfl] at hfn
  (repeat' first|refine kW ?_|refine kU fun bk=>?_|refine kV fun hc=>?_|refine kZ (fun hc=>?_) fun hc=>?_|fail)
  refine OW_callP rfl rfl rfl (hfn _) rfl ?_
  (repeat' first|refine kW ?_|refine kU fun bk=>?_|refine kV fun hc=>?_|refine kZ (fun hc=>?_) fun hc=>?_|fail)
  refine OW_buildSlice (cs := bsv [120, flB level]) rfl (by rfl) (by first | (simp [fillL, patch, Value.cells, zeros]; done) | (simp [fillL, patch, Value.cells, zeros]; rfl)) (by omega) rfl rfl (fun bn => ?_)
  (repeat' first|refine kW ?_|refine kU fun bk=>?_|refine kV fun hc=>?_|refine kZ (fun hc=>?_) fun hc=>?_|fail)
  refine OW_call rfl rfl rfl (hraw _ (hRC _ _ hR) ht.there) rfl (fun r L' hp => ?_)
  obtain ⟨C, o, hQ, hol, ho, rfl⟩ := hp
  (repeat' first|refine kW ?_|refine kU fun bk=>?_|refine kV fun hc=>?_|refine kZ (fun hc=>?_) fun hc=>?_|fail)
  have hb2 : Ow 5 1 (.slice (some ⟨bn, 0, none⟩) 2 2) 2 (bsv [120, flB level]) [(bn, cl (bsv [120, flB level]) 5)] := .inr ⟨bn, 2, [], rfl, by rw [List.append_nil], rfl, rfl, Nat.le_refl _, by simp [maxLen]⟩
  refine OW_append rfl rfl hb2 (ow_sl ho) (by repeat (first | exact Zip.here _ | apply Zip.there)) rfl bsv_ones (by omega) (by simp [maxLen]; omega) rfl (fun v' C' ho' _ _ => ?_)
  rw [← bsv_append] at ho'
  (repeat' first|refine kW ?_|refine kU fun bk=>?_|refine kV fun hc=>?_|refine kZ (fun hc=>?_) fun hc=>?_|fail)
  refine OW_callP rfl rfl rfl (had _ ht.there.there) rfl ?_
  (repeat' first|refine kW ?_|refine kU fun bk=>?_|refine kV fun hc=>?_|refine kZ (fun hc=>?_) fun hc=>?_|fail)
  rw [show (n : Int) / 16777216 = ((n / 16777216 : Nat) : Int) from by omega, show (n : Int) / 65536 = ((n / 65536 : Nat) : Int) from by omega, show (n : Int) / 256 = ((n / 256 : Nat) : Int) from by omega, u8w, u8w, u8w, u8w]
  refine OW_buildSlice (cs := bsv (be4 n)) rfl (by rfl) (by first | (simp [fillL, patch, Value.cells, zeros]; done) | (simp [fillL, patch, Value.cells, zeros]; rfl)) (by omega) rfl rfl (fun b4 => ?_)
  refine jA ?_
  refine OW_append rfl rfl ho' (sl_cells (k := 1) (c := (bsv (be4 n)).toArray) (xs := bsv (be4 n)) (m := 4) Fnd.here rfl (by simp)) (by repeat (first | exact Zip.here _ | apply Zip.there)) rfl bsv_ones (by omega) (by simp [maxLen]; omega) rfl (fun v2 C2 ho2 _ _ => ?_)
  rw [← bsv_append] at ho2
  (repeat' first|refine kW ?_|refine kU fun bk=>?_|refine kV fun hc=>?_|refine kZ (fun hc=>?_) fun hc=>?_|fail)
  refine kR ?_
  exact ⟨_, iC, C2, o, hQ, hol, ho2, rfl⟩
end Go.Proofs.YtdcehmhelfohfaaGreatDoor
namespace Go.Proofs.YtdcehmhelfohfaaGreatDoor
open Go Go.Vx Go.Hf Go.If Go.Df
variable [W0]
set_option maxRecDepth 4000
set_option linter.all false
theorem awA_i : wrI [] (.st [97, 98]) = [(1, 1), (0, 2), (0, 5), (2, 16), (65533, 16), (97, 8), (98, 8)] := by simp [wrI, bsI, blI, raI, itL]
theorem awA_q : wrB [] (.st [97, 98]) = [1, 2, 0, 253, 255, 97, 98] := by
  unfold wrB
  rw [awA_i]
  simp only [itV, itL]
  decide +kernel
theorem awE_q : wrB [] (.st []) = [1, 0, 0, 255, 255] := by
  unfold wrB
  rw [show wrI [] (.st []) = [(1, 1), (0, 2), (0, 5), (0, 16), (65535, 16)] from by simp [wrI, bsI, blI, raI, itL]]
  simp only [itV, itL]
  decide +kernel
set_option maxHeartbeats 4000000 in
theorem dawake_n (L : List Chunk) : GvP Tryz.prog 7 [].toArray L (.bool true) := by
  refine Gv.of_body (args := []) Tryz.func7 rfl rfl ?_
  (repeat' first|refine kW ?_|refine kU fun bk=>?_|refine kV fun hc=>?_|refine kZ (fun hc=>?_) fun hc=>?_|fail)
  refine OW_buildSlice (cs := bsv [97, 98]) rfl (by rfl) (by simp [fillL, patch, Value.cells, zeros]; rfl) (by omega) rfl rfl (fun b1 => ?_)
  (repeat' first|refine kW ?_|refine kU fun bk=>?_|refine kV fun hc=>?_|refine kZ (fun hc=>?_) fun hc=>?_|fail)
  refine OW_convSame (l := bsv [97, 98]) rfl iU rfl ?_
  (repeat' first|refine kW ?_|refine kU fun bk=>?_|refine kV fun hc=>?_|refine kZ (fun hc=>?_) fun hc=>?_|fail)
  have hrs : Rs ([(b1, .cells (bsv [97, 98]).toArray 5 ((bsv [97, 98]).length, (bsv [97, 98]).length + 1))] :: L) 1 (.slice (some ⟨b1, 0, none⟩) 2 2) [(97 : UInt8), 98].length (bsv [97, 98]) := ⟨sl_cells (c := (bsv [97, 98]).toArray) (xs := bsv [97, 98]) (m := 2) Fnd.here rfl (by simp), _, _, rfl, Nat.le_refl _⟩
  have h1 := raw0_n (.slice (some ⟨b1, 0, none⟩) 2 2) 0 [97, 98] [] (.st [97, 98]) _ hrs (by decide) (by decide) (by unfold stB; rw [stF_stop (by decide)]; rfl) (by decide)
  rw [awA_q] at h1
  refine OW_call rfl rfl rfl h1 rfl (fun r L' hp => ?_)
  obtain ⟨C, ho, rfl⟩ := hp
  (repeat' first|refine kW ?_|refine kU fun bk=>?_|refine kV fun hc=>?_|refine kZ (fun hc=>?_) fun hc=>?_|fail)
  refine OW_EV (EV_convStr (m := 7) (b := [1, 2, 0, 253, 255, 97, 98]) rfl (by exact ow_sl ho)) rfl ?_
  (repeat' first|refine kW ?_|refine kU fun bk=>?_|refine kV fun hc=>?_|refine kZ (fun hc=>?_) fun hc=>?_|fail)
  have h2 := fun L => zlib_n (.slice none 0 0) 0 [] [] L (fun o => o = [1, 0, 0, 255, 255]) (fun _ => True) (fun _ _ _ => trivial) trivial Rs.nil (by decide) (fun L' _ h' => (raw0_n (.slice none 0 0) 0 [] [] (.st []) L' Rs.nil (by decide) (by decide) (by unfold stB; rw [stF_stop (by decide)]; rfl) (by decide)).mono fun r L2 hq => by
    obtain ⟨C, ho, rfl⟩ := hq
    rw [awE_q] at ho
    exact ⟨C, _, rfl, by decide, ho, rfl⟩)
  refine OW_call rfl rfl rfl (h2 _) rfl (fun r2 L' hp => ?_)
  obtain ⟨C2, o, rfl, _, ho2, rfl⟩ := hp
  have e2 : [120, flB 0] ++ [1, 0, 0, 255, 255] ++ be4 (adlV (adlN (1#32, 0#32) [])).toNat = [120, 1, 1, 0, 0, 255, 255, 0, 0, 0, 1] := by decide +kernel
  rw [e2] at ho2
  (repeat' first|refine kW ?_|refine kU fun bk=>?_|refine kV fun hc=>?_|refine kZ (fun hc=>?_) fun hc=>?_|fail)
  refine OW_EV (EV_convStr (m := 11) (b := [120, 1, 1, 0, 0, 255, 255, 0, 0, 0, 1]) rfl (by exact ow_sl ho2)) rfl ?_
  (repeat' first|refine kW ?_|refine kU fun bk=>?_|refine kV fun hc=>?_|refine kZ (fun hc=>?_) fun hc=>?_|fail)
  exact kE
end Go.Proofs.YtdcehmhelfohfaaGreatDoor
namespace Go.Df
open Go.Vx
set_option linter.all false
def tr (b : List UInt8) (i : Nat) : List UInt8 := (b.drop i).take 3
theorem tr_len {b : List UInt8} {i : Nat} (h : i + 3 ≤ b.length) : (tr b i).length = 3 := by unfold tr; rw [List.length_take, List.length_drop]; omega
def lastP (b : List UInt8) : Nat → List UInt8 → Option Nat
  | 0, _ => none
  | p + 1, l => if p + 3 ≤ b.length ∧ tr b p = l then some p else lastP b p l
theorem lastP_some {b : List UInt8} : ∀ {p : Nat} {l : List UInt8} {q : Nat}, lastP b p l = some q → q < p ∧ q + 3 ≤ b.length ∧ tr b q = l
  | 0, l, q, h => by cases h
  | p + 1, l, q, h => by
    rw [lastP] at h
    split at h
    · cases h; exact ⟨by omega, by assumption⟩
    · have := lastP_some h; exact ⟨by omega, this.2⟩
def nr (b : List UInt8) (i : Nat) : Option Nat := if i + 3 ≤ b.length then lastP b i (tr b i) else none
theorem nr_some {b : List UInt8} {i q : Nat} (h : nr b i = some q) : q < i ∧ i + 3 ≤ b.length ∧ tr b q = tr b i := by
  unfold nr at h
  split at h
  · have := lastP_some h; exact ⟨this.1, by assumption, this.2.2⟩
  · cases h
def encP : Option Nat → Int
  | none => -1
  | some q => (q : Int)
def cmF (b : List UInt8) (p i : Nat) : Nat → Nat → Nat
  | 0, n => n
  | f + 1, n => if b.getD (p + n) 0 = b.getD (i + n) 0 then cmF b p i f (n + 1) else n
theorem cmF_le (b : List UInt8) (p i : Nat) : ∀ f n, n ≤ cmF b p i f n ∧ cmF b p i f n ≤ n + f
  | 0, n => by rw [cmF]; omega
  | f + 1, n => by
    rw [cmF]
    split
    · have := cmF_le b p i f (n + 1); omega
    · omega
theorem cmF_eq (b : List UInt8) (p i : Nat) : ∀ f n k, n ≤ k → k < cmF b p i f n → b.getD (p + k) 0 = b.getD (i + k) 0
  | 0, n, k, h1, h2 => by rw [cmF] at h2; omega
  | f + 1, n, k, h1, h2 => by
    rw [cmF] at h2
    split at h2
    · rcases Nat.eq_or_lt_of_le h1 with rfl | h1
      · assumption
      · exact cmF_eq b p i f (n + 1) k h1 h2
    · omega
theorem cmF_ge (b : List UInt8) (p i : Nat) : ∀ f n m, m ≤ n + f → (∀ k, n ≤ k → k < m → b.getD (p + k) 0 = b.getD (i + k) 0) → m ≤ cmF b p i f n
  | 0, n, m, h1, h2 => by rw [cmF]; omega
  | f + 1, n, m, h1, h2 => by
    rw [cmF]
    split
    · exact cmF_ge b p i f (n + 1) m (by omega) fun k h3 h4 => h2 k (by omega) h4
    · rename_i hh
      rcases Nat.lt_or_ge n m with h3 | h3
      · exact absurd (h2 n (Nat.le_refl _) h3) hh
      · exact h3
def cm (b : List UInt8) (p i most : Nat) : Nat := cmF b p i most 0
def mostL (b : List UInt8) (i : Nat) : Nat := min 258 (b.length - i)
def lgF (b : List UInt8) (reach : Int) (i : Nat) : Nat → Option Nat → Nat × Nat → Nat × Nat
  | 0, _, m => m
  | f + 1, none, m => m
  | f + 1, some q, m => if m.1 < mostL b i ∧ (i : Int) - (q : Int) ≤ reach then lgF b reach i f (nr b q) (if m.1 < cm b q i (mostL b i) then (cm b q i (mostL b i), i - q) else m) else m
def lg (b : List UInt8) (reach : Int) (i : Nat) : Nat × Nat := lgF b reach i 256 (nr b i) (0, 0)
structure MOk (b : List UInt8) (reach : Int) (i n d : Nat) : Prop where
  n3 : 3 ≤ n
  nm : n ≤ 258
  fit : i + n ≤ b.length
  d1 : 1 ≤ d
  dr : (d : Int) ≤ reach
  di : d ≤ i
  eq : ∀ k, k < n → b.getD (i + k) 0 = b.getD (i + k - d) 0
theorem tr_get {b : List UInt8} {p i : Nat} (h : tr b p = tr b i) : ∀ k, k < 3 → b.getD (p + k) 0 = b.getD (i + k) 0 := by
  intro k hk
  have h2 := congrArg (fun l => l[k]?) h
  simp only [tr, List.getElem?_take, hk, if_true, List.getElem?_drop] at h2
  simp only [List.getD_eq_getElem?_getD, h2]
theorem lgF_ok {b : List UInt8} {reach : Int} {i : Nat} (hi : i + 3 ≤ b.length) : ∀ (f : Nat) (p : Option Nat) (m : Nat × Nat), (∀ q, p = some q → q < i ∧ tr b q = tr b i) → (m.1 = 0 ∨ MOk b reach i m.1 m.2) →
    (lgF b reach i f p m).1 = 0 ∨ MOk b reach i (lgF b reach i f p m).1 (lgF b reach i f p m).2
  | 0, p, m, hp, hm => by rw [lgF]; exact hm
  | f + 1, none, m, hp, hm => by rw [lgF]; exact hm
  | f + 1, some q, m, hp, hm => by
    rw [lgF]
    split
    · rename_i hc
      obtain ⟨q1, q2⟩ := hp q rfl
      refine lgF_ok hi f _ _ (fun q' hq' => ?_) ?_
      · have := nr_some hq'
        exact ⟨by omega, by rw [this.2.2, q2]⟩
      · split
        · right
          have hc3 : 3 ≤ cm b q i (mostL b i) := cmF_ge b q i _ 0 3 (by unfold mostL; omega) fun k _ h => tr_get q2 k h
          have hcl := (cmF_le b q i (mostL b i) 0).2
          have hcl' : cm b q i (mostL b i) ≤ mostL b i := by unfold cm; omega
          unfold mostL at hcl'
          unfold mostL at hc3
          exact ⟨hc3, by unfold mostL; omega, by unfold mostL; omega, by simp only; omega, by simp only; omega, by simp only; omega, fun k hk => by
            have := cmF_eq b q i _ 0 k (Nat.zero_le _) hk
            rw [show i + k - (i - q) = q + k from by omega, this]⟩
        · exact hm
    · exact hm
theorem lg_ok (b : List UInt8) (reach : Int) (i : Nat) : (lg b reach i).1 = 0 ∨ MOk b reach i (lg b reach i).1 (lg b reach i).2 := by
  unfold lg
  by_cases hi : i + 3 ≤ b.length
  · exact lgF_ok hi 256 _ _ (fun q hq => ⟨(nr_some hq).1, (nr_some hq).2.2⟩) (.inl rfl)
  · left
    unfold nr
    rw [if_neg hi]
    rfl
def msF (b : List UInt8) (reach : Int) : Nat → Nat → List (Nat × Nat × Nat)
  | 0, _ => []
  | f + 1, i => if i < b.length then (if 0 < (lg b reach i).1 then [(i, lg b reach i)] else []) ++ msF b reach f (i + max (lg b reach i).1 1) else []
def msR (b : List UInt8) (reach : Int) : List (Nat × Nat × Nat) := msF b (min reach 32768) b.length 0
def MsOk (b : List UInt8) (reach : Int) : Nat → List (Nat × Nat × Nat) → Prop
  | _, [] => True
  | i, m :: r => i ≤ m.1 ∧ MOk b reach m.1 m.2.1 m.2.2 ∧ MsOk b reach (m.1 + m.2.1) r
theorem MsOk.mono {b : List UInt8} {reach : Int} : ∀ {i j : Nat} {l : List (Nat × Nat × Nat)}, i ≤ j → MsOk b reach j l → MsOk b reach i l
  | _, _, [], _, _ => trivial
  | _, _, m :: r, h, hm => ⟨Nat.le_trans h hm.1, hm.2⟩
theorem msF_ok (b : List UInt8) (reach : Int) : ∀ f i, MsOk b reach i (msF b reach f i)
  | 0, i => trivial
  | f + 1, i => by
    rw [msF]
    split
    · split
      · rename_i h
        have hm := (lg_ok b reach i).resolve_left (by omega)
        refine ⟨Nat.le_refl _, hm, ?_⟩
        have := msF_ok b reach f (i + max (lg b reach i).1 1)
        exact this.mono (by simp only; omega)
      · exact (msF_ok b reach f _).mono (by omega)
    · trivial
theorem MOk.le {b : List UInt8} {r s : Int} {i n d : Nat} (h : MOk b r i n d) (hr : r ≤ s) : MOk b s i n d := ⟨h.n3, h.nm, h.fit, h.d1, Int.le_trans h.dr hr, h.di, h.eq⟩
theorem MsOk.le {b : List UInt8} {r s : Int} (hr : r ≤ s) : ∀ {i : Nat} {l : List (Nat × Nat × Nat)}, MsOk b r i l → MsOk b s i l
  | _, [], _ => trivial
  | _, m :: q, h => ⟨h.1, h.2.1.le hr, h.2.2.le hr⟩
theorem msR_ok (b : List UInt8) (reach : Int) : MsOk b (min reach 32768) 0 (msR b reach) := msF_ok b _ _ _
theorem msF_fuel (b : List UInt8) (reach : Int) : ∀ f i g, b.length - i ≤ f → f ≤ g → msF b reach g i = msF b reach f i
  | 0, i, 0, _, _ => rfl
  | 0, i, g + 1, h1, _ => by rw [msF, msF, if_neg (by omega)]
  | f + 1, i, g + 1, h1, h2 => by
    rw [msF, msF]
    split
    · rw [msF_fuel b reach f _ g (by omega) (by omega)]
    · rfl
end Go.Df
namespace Go.Proofs.YtdcehmhelfohfaaGreatDoor
open Go Go.Vx Go.Df
set_option maxRecDepth 4000
set_option linter.all false
theorem mapTy : Tryz.prog.underlying 50 = some (.map 105 3) := by kernel_rfl
instance : KA Tryz.prog 105 5 := ⟨⟨by kernel_rfl, by kernel_rfl, by kernel_rfl, by kernel_rfl⟩, by kernel_rfl, ⟨Tryz.prog.types.size - 1, by kernel_rfl⟩⟩
variable [W0]
omit [W0] in
/-- A finder's cells. -/
def fnV (v : Value) (reach : Int) (mb : Nat) (ve : Value) : List Value := [v, .int .i64 reach, .map (some mb), ve]
omit [W0] in
def fnO (v : Value) (reach : Int) (mb : Nat) (ve : Value) : Obj := cl (fnV v reach mb ve) 53
theorem slb {L : List Chunk} {v : Value} {m : Nat} {t : List UInt8} (h : Sl L 1 v m (bsv t)) (hm : 0 < m) :
    ∃ bb off cap c T fr, v = .slice (some ⟨bb, off, none⟩) m cap ∧ Fnd L bb (.cells c T fr) ∧ ∀ k, k < m → c[off + k * 1]? = some (.int .u8 ((t.getD k 0).toNat : Int)) := by
  rcases h with ⟨c, rfl, rfl, h0⟩ | ⟨a, cap, rfl, hr, hl⟩
  · omega
  · rw [bsv_length, Nat.mul_one] at hl
    rcases hr with h0 | ⟨b, off, c, T, fr, rfl, h1, h2⟩
    · have h9 : (bsv t).length = 0 := by rw [h0]; rfl
      rw [bsv_length] at h9
      omega
    · exact ⟨b, off, cap, c, T, fr, rfl, h1, fun k hk => by rw [Nat.mul_one]; exact h2 _ _ (bsv_get (by simp [List.getD, show k < t.length by omega]))⟩
theorem begins_n (p mb : Nat) (v ve : Value) (reach : Int) (b : List UInt8) (i : Nat) (L : List Chunk) (ht : Sl L 1 v b.length (bsv b)) (hf : Fnd L p (fnO v reach mb ve)) (hb : b.length ≤ 200000) (hi : i ≤ 200000) :
    GvP Tryz.prog 44 [.pointer (some ⟨p, 0, none⟩), .int .i64 (i : Int)].toArray L (.bool (decide (i + 3 ≤ b.length))) := by
  refine Gv.of_body Tryz.func44 rfl rfl ?_
  obtain ⟨va, vc, rfl⟩ := sl_slice ht
  unfold fnO fnV at hf
  (repeat' first|refine kW ?_|refine kU fun bk=>?_|refine kV fun hc=>?_|refine kZ (fun hc=>?_) fun hc=>?_|fail)
  refine kR ?_
  exact ⟨_, iC, congrArg Value.bool (by rw [Bool.eq_iff_iff]; simp only [decide_eq_true_eq]; omega), rfl⟩
set_option maxHeartbeats 2000000 in
theorem common_n (p mb : Nat) (v ve : Value) (reach : Int) (b : List UInt8) (q i most : Nat) (L : List Chunk) (ht : Sl L 1 v b.length (bsv b)) (hf : Fnd L p (fnO v reach mb ve)) (hb : b.length ≤ 200000) (hi : i + most ≤ b.length) (hq : q ≤ i) (h0 : i < b.length) :
    GvP Tryz.prog 43 [.pointer (some ⟨p, 0, none⟩), .int .i64 (q : Int), .int .i64 (i : Int), .int .i64 (most : Int)].toArray L (.int .i64 ((cm b q i most : Nat) : Int)) := by
  refine Gv.of_body Tryz.func43 rfl rfl ?_
  obtain ⟨bb, off, cap, cc, T, fr, rfl, hfn, hcs⟩ := slb ht (by omega)
  unfold fnO fnV at hf
  (repeat' first|refine kW ?_|refine kU fun bk=>?_|refine kV fun hc=>?_|refine kZ (fun hc=>?_) fun hc=>?_|fail)
  refine WC_loop (X := Nat) (fun x => [(0, .pointer (some ⟨p, 0, none⟩)), (1, .int .i64 (q : Int)), (2, .int .i64 (i : Int)), (3, .int .i64 (most : Int)), (9, .int .i64 (x : Int))]) (fun x => L)
    (fun x => x ≤ most ∧ cmF b q i (most - x) x = cm b q i most) (fun x => most - x) 0 ⟨Nat.zero_le _, rfl⟩ iS (fun w h => h) ?_
  rintro k ⟨hk, hm⟩
  (repeat' first|refine kW ?_|refine kU fun bk=>?_|refine kV fun hc=>?_|refine kZ (fun hc=>?_) fun hc=>?_|fail)
  by_cases hkm : k < most
  · obtain ⟨f, hf2⟩ : ∃ f, most - k = f + 1 := ⟨most - k - 1, by omega⟩
    rw [hf2, cmF] at hm
    have hc1 := hcs (q + k) (by omega)
    have hc2 := hcs (i + k) (by omega)
    generalize b.getD (q + k) 0 = x at hm hc1
    generalize b.getD (i + k) 0 = y at hm hc2
    refine WC_drawAll [] mixed ?_
    (refine WR_t 0 ?_; refine WR_t 1 ?_; refine WR_t 2 ?_; refine WR_t 3 ?_)
    rw [show decide ((k : Int) < (most : Int)) = true from by simp; omega]
    (refine WR_u 4 ?_; refine WR_u 5 ?_; refine WR_u 6 ?_; refine WR_u 7 ?_; refine WR_u 8 ?_; refine WR_u 9 ?_; refine WR_u 10 ?_)
    (refine WR_takeOn 11 rfl rfl rfl (by kernel_rfl) iP iC (EV_indexAddr (j := q + k) (len := b.length) rfl rfl (by omega) (by omega)) (by rfl) ?_)
    (refine WR_takeOn 12 rfl rfl rfl (by kernel_rfl) iP iC (EV_load rfl hfn hc1) (by rfl) ?_)
    (refine WR_u 13 ?_; refine WR_u 14 ?_; refine WR_u 15 ?_; refine WR_u 16 ?_; refine WR_u 17 ?_; refine WR_u 18 ?_; refine WR_u 19 ?_)
    (refine WR_takeOn 20 rfl rfl rfl (by kernel_rfl) iP iC (EV_indexAddr (j := i + k) (len := b.length) rfl rfl (by omega) (by omega)) (by rfl) ?_)
    (refine WR_takeOn 21 rfl rfl rfl (by kernel_rfl) iP iC (EV_load rfl hfn hc2) (by rfl) ?_)
    (refine WR_u 22 ?_)
    (refine WR_t 23 ?_)
    (refine WR_done (by kernel_rfl) ?_)
    (repeat' first|refine kW ?_|refine kU fun bk=>?_|refine kV fun hc=>?_|refine kZ (fun hc=>?_) fun hc=>?_|fail)
    · have hxy : x = y := UInt8.toNat_inj.1 (by omega)
      rw [if_pos hxy] at hm
      refine WQ_round (X := Nat) (μ := fun x => most - x) (x := k) (k + 1) (by show most - (k + 1) < most - k; omega) ⟨by omega, by rw [show most - (k + 1) = f from by omega]; exact hm⟩ iS (fun w h => h)
    · have hxy : ¬ x = y := fun hh => hc (by rw [hh])
      rw [if_neg hxy] at hm
      rw [← hm]
      refine kR ?_
      exact ⟨_, iC, rfl, rfl⟩
  · obtain rfl : k = most := by omega
    rw [show k - k = 0 from by omega, cmF] at hm
    refine WC_drawAll [] mixed ?_
    (refine WR_t 0 ?_; refine WR_t 1 ?_; refine WR_t 2 ?_; refine WR_t 3 ?_)
    rw [show decide ((k : Int) < (k : Int)) = false from by simp]
    (refine WR_v 4 ?_; refine WR_v 5 ?_; refine WR_v 6 ?_; refine WR_v 7 ?_; refine WR_v 8 ?_; refine WR_v 9 ?_; refine WR_v 10 ?_; refine WR_v 11 ?_; refine WR_v 12 ?_; refine WR_v 13 ?_; refine WR_v 14 ?_; refine WR_v 15 ?_; refine WR_v 16 ?_; refine WR_v 17 ?_; refine WR_v 18 ?_; refine WR_v 19 ?_; refine WR_v 20 ?_; refine WR_v 21 ?_; refine WR_v 22 ?_)
    (refine WR_t 23 ?_)
    (refine WR_done (by kernel_rfl) ?_)
    (repeat' first|refine kW ?_|refine kU fun bk=>?_|refine kV fun hc=>?_|refine kZ (fun hc=>?_) fun hc=>?_|fail)
    rw [← hm]
    refine kR ?_
    exact ⟨_, iC, rfl, rfl⟩
set_option maxHeartbeats 2000000 in
theorem triple_n (p mb : Nat) (v ve : Value) (reach : Int) (b : List UInt8) (i : Nat) (L : List Chunk) (ht : Rs L 1 v b.length (bsv b)) (hf : Fnd L p (fnO v reach mb ve)) (hb : b.length ≤ 200000) (hi : i + 3 ≤ b.length) :
    GvP Tryz.prog 45 [.pointer (some ⟨p, 0, none⟩), .int .i64 (i : Int)].toArray L (kv3 (tr b i)) := by
  refine Gv.of_body Tryz.func45 rfl rfl ?_
  obtain ⟨r, hr, hev⟩ := EV_sliceRs (P := Tryz.prog) (T := 22) ht (l := i) (h := b.length) (by omega) (Nat.le_refl _)
  obtain ⟨va, vc, rfl, _⟩ := ht.room
  unfold fnO fnV at hf
  have hl3 : (bsv (tr b i)).length = 3 := by rw [bsv_length, tr_len hi]
  have htr : (((bsv b).drop (i * 1)).take ((b.length - i) * 1)).take 3 = bsv (tr b i) := by
    rw [Nat.mul_one, Nat.mul_one, List.take_take, show min 3 (b.length - i) = 3 from by omega]
    simp [bsv, tr, List.map_take, List.map_drop]
  rcases hr.sl with ⟨c0, _, h0, _⟩ | ⟨a0, cap0, rfl, hrd, hlen⟩
  · omega
  have hrd := rd_take hrd 3
  rw [htr] at hrd
  (repeat' first|refine kW ?_|refine kU fun bk=>?_|refine kV fun hc=>?_|refine kZ (fun hc=>?_) fun hc=>?_|fail)
  refine OW_EV (hev rfl rfl rfl) rfl ?_
  (repeat' first|refine kW ?_|refine kU fun bk=>?_|refine kV fun hc=>?_|refine kZ (fun hc=>?_) fun hc=>?_|fail)
  refine OW_EV (EV_toArr rfl (by omega)) rfl ?_
  (repeat' first|refine kW ?_|refine kU fun bk=>?_|refine kV fun hc=>?_|refine kZ (fun hc=>?_) fun hc=>?_|fail)
  refine OW_EV (EV_loadAgg rfl (rd_there hrd) hl3) rfl ?_
  (repeat' first|refine kW ?_|refine kU fun bk=>?_|refine kV fun hc=>?_|refine kZ (fun hc=>?_) fun hc=>?_|fail)
  refine OW_storeAggTo (l := [.int .u8 0, .int .u8 0, .int .u8 0]) (bsv (tr b i)) rfl rfl hl3 bsv_ones (by
    match bsv (tr b i), hl3 with
    | [x, y, z], _ => rfl) iU (by simp [hl3]) ?_
  (repeat' first|refine kW ?_|refine kU fun bk=>?_|refine kV fun hc=>?_|refine kZ (fun hc=>?_) fun hc=>?_|fail)
  have hrc : RdAt ([(bk, cl (bsv (tr b i)) 105)] :: L) ⟨bk, 0, none⟩ (bsv (tr b i)) := RdAt.cl' Fnd.here (by unfold cut; rw [List.drop_zero, List.take_length])
  first
    | (refine WQ_retC (vs := [kv3 (tr b i)]) rfl (.agg ⟨by kernel_rfl, by kernel_rfl⟩ rfl hrc hl3 .nil) ?_
       exact ⟨_, fun w h => h.drop, rfl, rfl⟩)
    | (refine WQ_endC (vs := [kv3 (tr b i)]) rfl (.agg ⟨by kernel_rfl, by kernel_rfl⟩ rfl hrc hl3 .nil) ?_
       exact ⟨_, fun w h => h.drop, rfl, rfl⟩)
set_option maxHeartbeats 2000000 in
theorem nearest_n (p mb : Nat) (v ve : Value) (reach : Int) (b : List UInt8) (i : Nat) (C : Chunk) (L : List Chunk) (ht : Rs L 1 v b.length (bsv b)) (hf : Fnd L p (fnO v reach mb ve)) (hb : b.length ≤ 200000) (hi : i ≤ 200000) (hm : MpD mb (lastP b i) C) (hin : Inc [C] L) :
    GvP Tryz.prog 42 [.pointer (some ⟨p, 0, none⟩), .int .i64 (i : Int)].toArray L (.int .i64 (encP (nr b i))) := by
  refine Gv.of_body Tryz.func42 rfl rfl ?_
  have h1 := begins_n p mb v ve reach b i L ht.sl hf hb hi
  have hf' := hf
  unfold fnO fnV at hf'
  unfold nr
  (repeat' first|refine kW ?_|refine kU fun bk=>?_|refine kV fun hc=>?_|refine kZ (fun hc=>?_) fun hc=>?_|fail)
  refine OW_callP rfl rfl rfl h1 rfl ?_
  (repeat' first|refine kW ?_|refine kU fun bk=>?_|refine kV fun hc=>?_|refine kZ (fun hc=>?_) fun hc=>?_|fail)
  · rw [if_pos hc]
    have h2 := triple_n p mb v ve reach b i L ht hf hb hc
    refine WC_drawAll [] mixed ?_
    (refine WR_t 0 ?_; refine WR_t 1 ?_; refine WR_t 2 ?_; refine WR_t 3 ?_; refine WR_t 4 ?_; refine WR_t 5 ?_)
    (refine WR_one 6 (by kernel_rfl) rfl rfl ?_)
    refine OW_callP rfl rfl rfl h2 rfl ?_
    refine ⟨iC, ?_⟩
    (refine WR_take 7 rfl rfl (by kernel_rfl) iP iC (EV_mlook mapTy rfl rfl (tr_len hc) hm hin) (by rfl) ?_)
    (refine WR_t 8 ?_; refine WR_t 9 ?_; refine WR_t 10 ?_; refine WR_t 11 ?_; refine WR_t 12 ?_)
    (refine WR_done (by kernel_rfl) ?_)
    cases hg : lastP b i (tr b i) with
    | none =>
      simp only [Option.getD_none, Option.isSome_none]
      (repeat' first|refine kW ?_|refine kU fun bk=>?_|refine kV fun hc=>?_|refine kZ (fun hc=>?_) fun hc=>?_|fail)
      refine kR ?_
      exact ⟨_, iC, rfl, rfl⟩
    | some q =>
      simp only [Option.getD_some, Option.isSome_some]
      (repeat' first|refine kW ?_|refine kU fun bk=>?_|refine kV fun hc=>?_|refine kZ (fun hc=>?_) fun hc=>?_|fail)
      refine kR ?_
      exact ⟨_, iC, rfl, rfl⟩
  · rw [if_neg hc]
    refine kR ?_
    exact ⟨_, iC, rfl, rfl⟩
end Go.Proofs.YtdcehmhelfohfaaGreatDoor
namespace Go.Df
open Go.Vx
set_option linter.all false
theorem lastP_up {b : List UInt8} {t : Nat} (h : t + 3 ≤ b.length) : ups (lastP b t) (tr b t) t = lastP b (t + 1) := by
  funext l
  unfold ups
  rw [lastP]
  by_cases hl : l = tr b t
  · rw [if_pos hl, if_pos ⟨h, hl.symm⟩]
  · rw [if_neg hl, if_neg (fun hh => hl hh.2.symm)]
theorem lastP_no {b : List UInt8} {t : Nat} (h : ¬ t + 3 ≤ b.length) : lastP b t = lastP b (t + 1) := by
  funext l
  rw [lastP, if_neg (fun hh => h hh.1)]
def ers (b : List UInt8) (t : Nat) : List Value := (List.range t).map fun q => .int .i64 (encP (nr b q))
theorem ers_succ (b : List UInt8) (t : Nat) : ers b (t + 1) = ers b t ++ [.int .i64 (encP (nr b t))] := by simp [ers, List.range_succ]
theorem ers_get {b : List UInt8} {t q : Nat} (h : q < t) : (ers b t)[q]? = some (.int .i64 (encP (nr b q))) := by simp [ers, h]
end Go.Df
namespace Go.Proofs.YtdcehmhelfohfaaGreatDoor
open Go Go.Vx Go.Df
set_option maxRecDepth 4000
set_option linter.all false
variable [W0]
set_option maxHeartbeats 4000000 in
theorem pass_n (p mb : Nat) (v ve : Value) (reach : Int) (b : List UInt8) (t k : Nat) (C1 C2 : Chunk) (L : List Chunk) (ht : Rs L 1 v b.length (bsv b)) (hb : b.length ≤ 200000) (hk : t + k ≤ b.length) (hm : MpD mb (lastP b t) C1) (ho : Ow 3 1 ve t (ers b t) C2) :
    Gv Tryz.prog 20 [.pointer (some ⟨p, 0, none⟩), .int .i64 (k : Int)].toArray ([(p, fnO v reach mb ve)] :: C1 :: C2 :: L) (fun r L' => r = .tuple #[] ∧ ∃ ve' C1' C2', MpD mb (lastP b (t + k)) C1' ∧ Ow 3 1 ve' (t + k) (ers b (t + k)) C2' ∧ L' = [(p, fnO v reach mb ve')] :: C1' :: C2' :: L) := by
  refine Gv.of_body Tryz.func20 rfl rfl ?_
  (repeat' first|refine kW ?_|refine kU fun bk=>?_|refine kV fun hc=>?_|refine kZ (fun hc=>?_) fun hc=>?_|fail)
  refine WC_loop (X := Nat × Value × Chunk × Chunk) (fun x => [(0, .pointer (some ⟨p, 0, none⟩)), (5, .int .i64 (k : Int)), (6, .int .i64 (x.1 : Int))]) (fun x => [(p, fnO v reach mb x.2.1)] :: x.2.2.1 :: x.2.2.2 :: L)
    (fun x => x.1 ≤ k ∧ MpD mb (lastP b (t + x.1)) x.2.2.1 ∧ Ow 3 1 x.2.1 (t + x.1) (ers b (t + x.1)) x.2.2.2) (fun x => k - x.1) (0, ve, C1, C2) ⟨Nat.zero_le _, hm, ho⟩ iS (fun w h => h) ?_
  clear hm ho ve C1 C2
  rintro ⟨j, ve, C1, C2⟩ ⟨hj, hm, ho⟩
  simp only at hj hm ho ⊢
  obtain ⟨va, vc, rfl⟩ := ow_slc ho
  unfold fnO fnV
  (repeat' first|refine kW ?_|refine kU fun bk=>?_|refine kV fun hc=>?_|refine kZ (fun hc=>?_) fun hc=>?_|fail)
  · have hnr := nearest_n p mb v (.slice va (t + j) vc) reach b (t + j) C1 ([(p, fnO v reach mb (.slice va (t + j) vc))] :: C1 :: C2 :: L) ht.there.there.there Fnd.here hb (by omega) hm iC
    unfold fnO fnV at hnr
    refine WC_draw [[(p, cl [v, .int .i64 reach, .map (some mb), .slice va (t + j) vc] 53)]] [12] mixed ?_
    (refine WR_t 0 ?_; refine WR_t 1 ?_; refine WR_t 2 ?_; refine WR_t 3 ?_; refine WR_t 4 ?_; refine WR_t 5 ?_; refine WR_t 6 ?_)
    (refine WR_one 7 (by kernel_rfl) rfl rfl ?_)
    refine OW_callP rfl rfl rfl hnr rfl ?_
    refine ⟨iC, ?_⟩
    (refine WR_one 8 (by kernel_rfl) rfl rfl ?_)
    refine OW_buildSlice (cs := [.int .i64 (encP (nr b (t + j)))]) rfl (by rfl) (by first | (simp [fillL, patch, Value.cells, zeros]; done) | (simp [fillL, patch, Value.cells, zeros]; rfl)) (by omega) rfl rfl (fun bn => ?_)
    refine ⟨iC, ?_⟩
    (refine WR_one 9 (by kernel_rfl) rfl rfl ?_)
    refine OW_append rfl rfl ho (sl_cells (k := 1) (c := #[.int .i64 (encP (nr b (t + j)))]) (xs := [.int .i64 (encP (nr b (t + j)))]) (m := 1) Fnd.here rfl (by simp)) (by repeat (first | exact Zip.here _ | apply Zip.there)) rfl (by rfl) (by omega) (by simp [maxLen]; omega) rfl (fun ve' C2' ho' _ _ => ?_)
    rw [← ers_succ] at ho'
    refine ⟨iC, ?_⟩
    (refine WR_t 10 ?_; refine WR_t 11 ?_)
    (refine WR_last 12 (by kernel_rfl) rfl rfl rfl ?_)
    refine OW_storeTo [v, .int .i64 reach, .map (some mb), ve'] rfl rfl (ow_one ho') rfl iU (by simp) ?_
    (refine WR_done (by kernel_rfl) ?_)
    have hbg := begins_n p mb v ve' reach b (t + j) ([(bn, cl [.int .i64 (encP (nr b (t + j)))] 3)] :: [(p, fnO v reach mb ve')] :: C1 :: C2' :: L) ht.there.there.there.there.sl (.there .here) hb (by omega)
    unfold fnO fnV at hbg
    (repeat' first|refine kW ?_|refine kU fun bk=>?_|refine kV fun hc=>?_|refine kZ (fun hc=>?_) fun hc=>?_|fail)
    refine OW_callP rfl rfl rfl hbg rfl ?_
    (repeat' first|refine kW ?_|refine kU fun bk=>?_|refine kV fun hc=>?_|refine kZ (fun hc=>?_) fun hc=>?_|fail)
    · have htr := triple_n p mb v ve' reach b (t + j) ([(bn, cl [.int .i64 (encP (nr b (t + j)))] 3)] :: [(p, fnO v reach mb ve')] :: C1 :: C2' :: L) ht.there.there.there.there (.there .here) hb hc
      unfold fnO fnV at htr
      refine WC_draw [[(p, cl [v, .int .i64 reach, .map (some mb), ve'] 53)]] [8] mixed ?_
      (refine WR_t 0 ?_; refine WR_t 1 ?_; refine WR_t 2 ?_; refine WR_t 3 ?_; refine WR_t 4 ?_; refine WR_t 5 ?_; refine WR_t 7 ?_)
      (refine WR_one 6 (by kernel_rfl) rfl rfl ?_)
      refine OW_callP rfl rfl rfl htr rfl ?_
      refine ⟨iC, ?_⟩
      (refine WR_last 8 (by kernel_rfl) rfl rfl rfl ?_)
      refine OW_mapUp (m := t + j) mapTy rfl rfl (tr_len hc) rfl hm (by repeat (first | exact Zip.here _ | apply Zip.there)) (fun C1' hm' => ?_)
      rw [lastP_up hc] at hm'
      (refine WR_done (by kernel_rfl) ?_)
      (repeat' first|refine kW ?_|refine kU fun bk=>?_|refine kV fun hc=>?_|refine kZ (fun hc=>?_) fun hc=>?_|fail)
      refine WQ_round (X := Nat × Value × Chunk × Chunk) (μ := fun x => k - x.1) (x := (j, .slice va (t + j) vc, C1, C2)) (j + 1, ve', C1', C2') (by simp only; omega) ⟨by simp only; omega, hm', ho'⟩ iS (fun w h => iH h)
    · rw [lastP_no hc] at hm
      refine WQ_round (X := Nat × Value × Chunk × Chunk) (μ := fun x => k - x.1) (x := (j, .slice va (t + j) vc, C1, C2)) (j + 1, ve', C1, C2') (by simp only; omega) ⟨by simp only; omega, hm, ho'⟩ iS (fun w h => iH h)
  · obtain rfl : j = k := by omega
    refine kR ?_
    exact ⟨_, iC, rfl, _, _, _, hm, ho, rfl⟩
end Go.Proofs.YtdcehmhelfohfaaGreatDoor
namespace Go.Df
open Go.Vx
set_option linter.all false
theorem lgF_stop {b : List UInt8} {reach : Int} {i f n d : Nat} {p : Option Nat} (h : f = 0 ∨ ∀ q, p = some q → ¬ (n < mostL b i ∧ (i : Int) - (q : Int) ≤ reach)) : lgF b reach i f p (n, d) = (n, d) := by
  cases f with
  | zero => rfl
  | succ f =>
    have h := h.resolve_left (by omega)
    cases p with
    | none => rfl
    | some q => rw [lgF, if_neg (h q rfl)]
end Go.Df
namespace Go.Proofs.YtdcehmhelfohfaaGreatDoor
open Go Go.Vx Go.Df
set_option maxRecDepth 4000
set_option linter.all false
variable [W0]
set_option maxHeartbeats 8000000 in
theorem longest_n (p mb : Nat) (v ve : Value) (reach : Int) (b : List UInt8) (i : Nat) (C : Chunk) (L : List Chunk) (ht : Rs L 1 v b.length (bsv b)) (hf : Fnd L p (fnO v reach mb ve)) (hb : b.length ≤ 200000) (hi : i < b.length) (hm : MpD mb (lastP b i) C) (hin : Inc [C] L)
    (hve : Sl L 1 ve i (ers b i)) (hreach : -9223372036854775808 ≤ reach ∧ reach ≤ 32768) :
    Gv Tryz.prog 19 [.pointer (some ⟨p, 0, none⟩), .int .i64 (i : Int)].toArray L (fun r L' => (∃ a : Nat, r = .agg #[.int .i64 (a : Int), .int .i64 ((lg b reach i).1 : Int), .int .i64 ((lg b reach i).2 : Int)] ∧ ((lg b reach i).1 ≠ 0 → a = i)) ∧ L' = L) := by
  refine Gv.of_body Tryz.func19 rfl rfl ?_
  obtain ⟨va, vc, hv9⟩ : ∃ va vc, v = .slice va b.length vc := by obtain ⟨a, c, h, _⟩ := ht.room; exact ⟨a, c, h⟩
  subst hv9
  have hf' := hf
  unfold fnO fnV at hf'
  (repeat' first|refine kW ?_|refine kU fun bk=>?_|refine kV fun hc=>?_|refine kZ (fun hc=>?_) fun hc=>?_|fail)
  rename_i bk4
  obtain ⟨bk5, hbk5⟩ : ∃ x, x = bk := ⟨_, rfl⟩
  subst hbk5
  have hnr := nearest_n p mb (.slice va b.length vc) ve reach b i C ([(bk5, cl [.int .i64 0, .int .i64 0, .int .i64 0] 31)] :: [(bk4, cl [.int .i64 0, .int .i64 0, .int .i64 0] 31)] :: L) ht.there.there (.there (.there hf)) hb (by omega) hm (by
    obtain ⟨R, hp⟩ := hin
    exact (Inc.skip (Inc.skip ⟨R, hp⟩)))
  refine OW_callP rfl rfl rfl hnr rfl ?_
  (repeat' first|refine kW ?_|refine kU fun bk=>?_|refine kV fun hc=>?_|refine kZ (fun hc=>?_) fun hc=>?_|fail)
  have hmost : min (258 : Int) ((b.length : Int) - (i : Int)) = ((mostL b i : Nat) : Int) := by unfold mostL; omega
  try rw [hmost]
  refine WC_loop (X := Nat × Option Nat × Nat × Nat × Nat) (fun x => [(0, .pointer (some ⟨p, 0, none⟩)), (1, .int .i64 (i : Int)), (4, .pointer (some ⟨bk4, 0, none⟩)), (5, .pointer (some ⟨bk5, 0, none⟩)), (6, .int .i64 ((mostL b i : Nat) : Int)), (7, .int .i64 (encP x.2.1)), (8, .int .i64 (x.1 : Int))])
    (fun x => [(bk5, cl [.int .i64 (x.2.2.1 : Int), .int .i64 (x.2.2.2.1 : Int), .int .i64 (x.2.2.2.2 : Int)] 31)] :: [(bk4, cl [.int .i64 0, .int .i64 0, .int .i64 0] 31)] :: L)
    (fun x => x.1 ≤ 256 ∧ (∀ q, x.2.1 = some q → q < i) ∧ (x.2.2.2.1 ≠ 0 → x.2.2.1 = i) ∧ x.2.2.1 ≤ 200000 ∧ x.2.2.2.1 ≤ 258 ∧ lgF b reach i (256 - x.1) x.2.1 (x.2.2.2.1, x.2.2.2.2) = lg b reach i) (fun x => 256 - x.1) (0, nr b i, 0, 0, 0)
    ⟨by simp only; omega, fun q hq => (nr_some hq).1, fun h => absurd rfl h, by simp only; omega, by simp only; omega, rfl⟩ iS (fun w h => h) ?_
  rintro ⟨j, q0, a, n, d⟩ ⟨hj, hq, ha, ha2, hn2, hlg⟩
  simp only at hj hq ha ha2 hn2 hlg ⊢
  have fin : lgF b reach i (256 - j) q0 (n, d) = (n, d) → (lg b reach i).1 = n ∧ (lg b reach i).2 = d := fun h => by rw [← hlg, h]; exact ⟨rfl, rfl⟩
  have hst : patch [Value.int .i64 0, Value.int .i64 0, Value.int .i64 0] 0 [Value.int .i64 (a : Int), Value.int .i64 (n : Int), Value.int .i64 (d : Int)] = [Value.int .i64 (a : Int), Value.int .i64 (n : Int), Value.int .i64 (d : Int)] := rfl
  cases q0 with
  | none =>
    obtain ⟨f1, f2⟩ := fin (lgF_stop (.inr fun q h => by cases h))
    rw [f1, f2]
    simp only [encP]
    (repeat' first|refine kW ?_|refine kU fun bk=>?_|refine kV fun hc=>?_|refine kZ (fun hc=>?_) fun hc=>?_|fail)
    all_goals
      first
        | (refine WQ_retC (vs := [.agg #[.int .i64 (a : Int), .int .i64 (n : Int), .int .i64 (d : Int)]]) rfl (.agg ⟨by kernel_rfl, by kernel_rfl⟩ rfl (RdAt.cl' (vs := [.int .i64 (a : Int), .int .i64 (n : Int), .int .i64 (d : Int)]) (by repeat (first | assumption | exact Fnd.here | refine Fnd.there ?_)) rfl) rfl .nil) ?_
           exact ⟨_, fun w h => h.drop.drop, ⟨a, rfl, ha⟩, rfl⟩)
        | (refine WQ_endC (vs := [.agg #[.int .i64 (a : Int), .int .i64 (n : Int), .int .i64 (d : Int)]]) rfl (.agg ⟨by kernel_rfl, by kernel_rfl⟩ rfl (RdAt.cl' (vs := [.int .i64 (a : Int), .int .i64 (n : Int), .int .i64 (d : Int)]) (by repeat (first | assumption | exact Fnd.here | refine Fnd.there ?_)) rfl) rfl .nil) ?_
           exact ⟨_, fun w h => h.drop.drop, ⟨a, rfl, ha⟩, rfl⟩)
  | some q =>
    have hqi := hq q rfl
    simp only [encP]
    by_cases hgo : j < 256 ∧ n < mostL b i ∧ (i : Int) - (q : Int) ≤ reach
    · obtain ⟨g1, g2, g3⟩ := hgo
      obtain ⟨f, hf2⟩ : ∃ f, 256 - j = f + 1 := ⟨256 - j - 1, by omega⟩
      rw [hf2, lgF, if_pos ⟨g2, g3⟩] at hlg
      have hcm := common_n p mb (.slice va b.length vc) ve reach b q i (mostL b i) ([(bk5, cl [.int .i64 (a : Int), .int .i64 (n : Int), .int .i64 (d : Int)] 31)] :: [(bk4, cl [.int .i64 0, .int .i64 0, .int .i64 0] 31)] :: L) ht.there.there.sl (.there (.there hf)) hb (by unfold mostL; omega) (by omega) hi
      have hcl : cm b q i (mostL b i) ≤ mostL b i := by have := (cmF_le b q i (mostL b i) 0).2; unfold cm; omega
      have hml : mostL b i ≤ 258 := by unfold mostL; omega
      obtain ⟨be, oe, ce, cc, TT, fr, rfl, hfe, hce⟩ := sl_at hve (ers_get hqi)
      (repeat' first|refine kW ?_|refine kU fun bk=>?_|refine kV fun hc=>?_|refine kZ (fun hc=>?_) fun hc=>?_|fail)
      refine OW_callP rfl rfl rfl hcm rfl ?_
      generalize cm b q i (mostL b i) = n' at hlg hcl
      (repeat' first|refine kW ?_|refine kU fun bk=>?_|refine kV fun hc=>?_|refine kZ (fun hc=>?_) fun hc=>?_|fail)
      · rw [if_pos (show n < n' by omega)] at hlg
        refine OW_EV (EV_indexAddr (j := q) rfl rfl rfl hqi) rfl ?_
        (repeat' first|refine kW ?_|refine kU fun bk=>?_|refine kV fun hc=>?_|refine kZ (fun hc=>?_) fun hc=>?_|fail)
        refine OW_EV (EV_load rfl (.there (.there hfe)) hce) rfl ?_
        (repeat' first|refine kW ?_|refine kU fun bk=>?_|refine kV fun hc=>?_|refine kZ (fun hc=>?_) fun hc=>?_|fail)
        refine WQ_round (X := Nat × Option Nat × Nat × Nat × Nat) (μ := fun x => 256 - x.1) (x := (j, some q, a, n, d)) (j + 1, nr b q, i, n', i - q) (by simp only; omega) ⟨by simp only; omega, fun q' hq' => by have := (nr_some hq').1; omega, fun _ => rfl, by simp only; omega, by simp only; omega, by simp only; rw [show 256 - (j + 1) = f from by omega]; exact hlg⟩ iS (fun w h => by
          rw [show ((i - q : Nat) : Int) = (i : Int) - (q : Int) from by omega]
          exact h)
      · rw [if_neg (show ¬ n < n' by omega)] at hlg
        refine OW_EV (EV_indexAddr (j := q) rfl rfl rfl hqi) rfl ?_
        (repeat' first|refine kW ?_|refine kU fun bk=>?_|refine kV fun hc=>?_|refine kZ (fun hc=>?_) fun hc=>?_|fail)
        refine OW_EV (EV_load rfl (.there (.there hfe)) hce) rfl ?_
        (repeat' first|refine kW ?_|refine kU fun bk=>?_|refine kV fun hc=>?_|refine kZ (fun hc=>?_) fun hc=>?_|fail)
        refine WQ_round (X := Nat × Option Nat × Nat × Nat × Nat) (μ := fun x => 256 - x.1) (x := (j, some q, a, n, d)) (j + 1, nr b q, a, n, d) (by simp only; omega) ⟨by simp only; omega, fun q' hq' => by have := (nr_some hq').1; omega, ha, by simp only; omega, by simp only; omega, by simp only; rw [show 256 - (j + 1) = f from by omega]; exact hlg⟩ iS (fun w h => h)
    · obtain ⟨f1, f2⟩ := fin (lgF_stop (by
        by_cases hj2 : j < 256
        · exact .inr fun q' h => by cases h; exact fun hh => hgo ⟨hj2, hh⟩
        · exact .inl (by omega)))
      rw [f1, f2]
      (repeat' first|refine kW ?_|refine kU fun bk=>?_|refine kV fun hc=>?_|refine kZ (fun hc=>?_) fun hc=>?_|fail)
      all_goals
        first
          | (exfalso; exact hgo ⟨by omega, by omega, by omega⟩)
          | (refine WQ_retC (vs := [.agg #[.int .i64 (a : Int), .int .i64 (n : Int), .int .i64 (d : Int)]]) rfl (.agg ⟨by kernel_rfl, by kernel_rfl⟩ rfl (RdAt.cl' (vs := [.int .i64 (a : Int), .int .i64 (n : Int), .int .i64 (d : Int)]) (by repeat (first | assumption | exact Fnd.here | refine Fnd.there ?_)) rfl) rfl .nil) ?_
             exact ⟨_, fun w h => h.drop.drop, ⟨a, rfl, ha⟩, rfl⟩)
          | (refine WQ_endC (vs := [.agg #[.int .i64 (a : Int), .int .i64 (n : Int), .int .i64 (d : Int)]]) rfl (.agg ⟨by kernel_rfl, by kernel_rfl⟩ rfl (RdAt.cl' (vs := [.int .i64 (a : Int), .int .i64 (n : Int), .int .i64 (d : Int)]) (by repeat (first | assumption | exact Fnd.here | refine Fnd.there ?_)) rfl) rfl .nil) ?_
             exact ⟨_, fun w h => h.drop.drop, ⟨a, rfl, ha⟩, rfl⟩)
end Go.Proofs.YtdcehmhelfohfaaGreatDoor
namespace Go.Proofs.YtdcehmhelfohfaaGreatDoor
open Go Go.Vx Go.Df
set_option maxRecDepth 4000
set_option linter.all false
variable [W0]
omit [W0] in
/-- Matches in memory. -/
def mtc : List (Nat × Nat × Nat) → List Value
  | [] => []
  | m :: r => .int .i64 (m.1 : Int) :: .int .i64 (m.2.1 : Int) :: .int .i64 (m.2.2 : Int) :: mtc r
omit [W0] in
theorem mtc_app : ∀ (a b : List (Nat × Nat × Nat)), mtc (a ++ b) = mtc a ++ mtc b
  | [], b => rfl
  | m :: r, b => by simp only [List.cons_append, mtc, mtc_app r b]
set_option maxHeartbeats 8000000 in
theorem matches_n (v : Value) (reach : Int) (b : List UInt8) (L : List Chunk) (ht : Rs L 1 v b.length (bsv b)) (hb : b.length ≤ 200000) (hreach : -9223372036854775808 ≤ reach ∧ reach ≤ 9223372036854775807) :
    Gv Tryz.prog 10 [v, .int .i64 reach].toArray L (fun r L' => ∃ C, Ow 31 3 r (msR b reach).length (mtc (msR b reach)) C ∧ L' = C :: L) := by
  refine Gv.of_body Tryz.func10 rfl rfl ?_
  obtain ⟨va, vc, hv9⟩ : ∃ va vc, v = .slice va b.length vc := by obtain ⟨a, c, h, _⟩ := ht.room; exact ⟨a, c, h⟩
  subst hv9
  (repeat' first|refine kW ?_|refine kU fun bk=>?_|refine kV fun hc=>?_|refine kZ (fun hc=>?_) fun hc=>?_|fail)
  refine OW_makeMap rfl (fun mb => ?_)
  (repeat' first|refine kW ?_|refine kU fun bk=>?_|refine kV fun hc=>?_|refine kZ (fun hc=>?_) fun hc=>?_|fail)
  obtain ⟨p, hp9⟩ : ∃ x, x = bk := ⟨_, rfl⟩
  subst hp9
  obtain ⟨R, hR⟩ : ∃ R : Int, R = min reach 32768 := ⟨_, rfl⟩
  have hR2 : -9223372036854775808 ≤ R ∧ R ≤ 32768 := by omega
  have hms : msR b reach = msF b R b.length 0 := by rw [hR]; rfl
  rw [hms, ← hR]
  clear hR hms hreach
  refine WC_loop (X := Nat × Value × Chunk × Chunk × Value × Chunk × List (Nat × Nat × Nat)) (fun x => [(0, .slice va b.length vc), (5, .pointer (some ⟨p, 0, none⟩)), (6, x.2.2.2.2.1), (7, .int .i64 (x.1 : Int))])
    (fun x => [(p, fnO (.slice va b.length vc) R mb x.2.1)] :: x.2.2.1 :: x.2.2.2.1 :: x.2.2.2.2.2.1 :: L)
    (fun x => x.1 ≤ b.length ∧ MpD mb (lastP b x.1) x.2.2.1 ∧ Ow 3 1 x.2.1 x.1 (ers b x.1) x.2.2.2.1 ∧ Ow 31 3 x.2.2.2.2.1 x.2.2.2.2.2.2.length (mtc x.2.2.2.2.2.2) x.2.2.2.2.2.1 ∧ x.2.2.2.2.2.2.length ≤ x.1 ∧ x.2.2.2.2.2.2 ++ msF b R (b.length - x.1) x.1 = msF b R b.length 0) (fun x => b.length - x.1)
    (0, .slice none 0 0, [(mb, .map #[] 0)], [], .slice none 0 0, [], []) ⟨Nat.zero_le _, ⟨#[], 0, rfl, MpR.nil⟩, .inl ⟨rfl, rfl, rfl, rfl⟩, .inl ⟨rfl, rfl, rfl, rfl⟩, Nat.le_refl _, rfl⟩ iS (fun w h => by
      have h2 : Holds w ([(p, fnO (.slice va b.length vc) R mb (.slice none 0 0))] :: [(mb, .map #[] 0)] :: [] :: [] :: L) := (Holds.perm (L := [] :: [] :: [(p, fnO (.slice va b.length vc) R mb (.slice none 0 0))] :: [(mb, .map #[] 0)] :: L) (Holds.nil.2 (Holds.nil.2 h)) (by
        refine (List.Perm.cons _ (List.Perm.swap _ _ _)).trans ?_
        refine (List.Perm.swap _ _ _).trans ?_
        refine List.Perm.cons _ ?_
        refine (List.Perm.cons _ (List.Perm.swap _ _ _)).trans ?_
        exact List.Perm.swap _ _ _))
      exact h2) ?_
  rintro ⟨i, ve, C1, C2, vl, Cl, ms⟩ ⟨hi, hm, ho, hl, hml, hms⟩
  simp only at hi hm ho hl hml hms ⊢
  obtain ⟨vea, vec, rfl⟩ := ow_slc ho
  (repeat' first|refine kW ?_|refine kU fun bk=>?_|refine kV fun hc=>?_|refine kZ (fun hc=>?_) fun hc=>?_|fail)
  · have hib : i < b.length := by omega
    obtain ⟨f, hf2⟩ : ∃ f, b.length - i = f + 1 := ⟨b.length - i - 1, by omega⟩
    rw [hf2, msF, if_pos hib] at hms
    have hlg := longest_n p mb (.slice va b.length vc) (.slice vea i vec) R b i C1 ([(p, fnO (.slice va b.length vc) R mb (.slice vea i vec))] :: C1 :: C2 :: Cl :: L) ht.there.there.there.there .here hb hib hm iC (sl_there (sl_there (ow_sl ho))) hR2
    have hok := lg_ok b R i
    refine OW_call rfl rfl rfl hlg rfl (fun r L' hp => ?_)
    obtain ⟨⟨a, rfl, ha⟩, rfl⟩ := hp
    have hmx : max (lg b R i).1 1 ≤ b.length - i := by
      rcases hok with h | h
      · omega
      · have := h.fit; have := h.n3; omega
    have hpass := fun (D : Chunk) => pass_n p mb (.slice va b.length vc) (.slice vea i vec) R b i (max (lg b R i).1 1) C1 C2 (D :: L) ht.there hb (by omega) hm ho
    have hfu := msF_fuel b R (b.length - (i + max (lg b R i).1 1)) (i + max (lg b R i).1 1) f (by omega) (by omega)
    rw [hfu] at hms
    generalize lg b R i = m at ha hok hmx hpass hms
    obtain ⟨n, d⟩ := m
    simp only at ha hok hmx hpass hms ⊢
    have hn5 : n ≤ 258 := by rcases hok with h | h; omega; exact h.nm
    have hpx : ((max n 1 : Nat) : Int) = max (n : Int) 1 := by omega
    simp only [hpx] at hpass
    (repeat' first|refine kW ?_|refine kU fun bk=>?_|refine kV fun hc=>?_|refine kZ (fun hc=>?_) fun hc=>?_|fail)
    · have hn0 : 0 < n := by omega
      obtain rfl : a = i := ha (by omega)
      rw [if_pos hn0] at hms
      refine OW_buildSlice (cs := [.int .i64 (a : Int), .int .i64 (n : Int), .int .i64 (d : Int)]) rfl (by rfl) (by first | (simp [fillL, patch, Value.cells, zeros]; done) | (simp [fillL, patch, Value.cells, zeros]; rfl)) (by omega) rfl rfl (fun bn => ?_)
      (repeat' first|refine kW ?_|refine kU fun bk=>?_|refine kV fun hc=>?_|refine kZ (fun hc=>?_) fun hc=>?_|fail)
      refine OW_append rfl rfl hl (sl_cells (k := 3) (c := #[.int .i64 (a : Int), .int .i64 (n : Int), .int .i64 (d : Int)]) (xs := [.int .i64 (a : Int), .int .i64 (n : Int), .int .i64 (d : Int)]) (m := 1) Fnd.here rfl (by simp)) (by repeat (first | exact Zip.here _ | apply Zip.there)) rfl (by rfl) (by omega) (by simp [maxLen]; omega) rfl (fun vl' Cl' hl' _ _ => ?_)
      rw [show mtc ms ++ [Value.int .i64 (a : Int), .int .i64 (n : Int), .int .i64 (d : Int)] = mtc (ms ++ [(a, n, d)]) from by rw [mtc_app]; rfl, show ms.length + 1 = (ms ++ [(a, n, d)]).length from by simp] at hl'
      (repeat' first|refine kW ?_|refine kU fun bk=>?_|refine kV fun hc=>?_|refine kZ (fun hc=>?_) fun hc=>?_|fail)
      refine OW_call rfl rfl rfl (Gv.holds (hpass Cl') (fun w h => iH h)) rfl (fun r L' hp => ?_)
      obtain ⟨rfl, ve', C1', C2', hm', ho', rfl⟩ := hp
      (repeat' first|refine kW ?_|refine kU fun bk=>?_|refine kV fun hc=>?_|refine kZ (fun hc=>?_) fun hc=>?_|fail)
      obtain ⟨va2, vc2, rfl⟩ := ow_slc ho'
      unfold fnO fnV
      (repeat' first|refine kW ?_|refine kU fun bk=>?_|refine kV fun hc=>?_|refine kZ (fun hc=>?_) fun hc=>?_|fail)
      refine WQ_round (X := Nat × Value × Chunk × Chunk × Value × Chunk × List (Nat × Nat × Nat)) (μ := fun x => b.length - x.1) (x := (a, .slice vea a vec, C1, C2, vl, Cl, ms)) (a + max n 1, .slice va2 (a + max n 1) vc2, C1', C2', vl', Cl', ms ++ [(a, n, d)]) (by simp only; omega) ⟨by simp only; omega, hm', ho', hl', by simp; omega, by simp only; rw [List.append_assoc]; exact hms⟩ iS (fun w h => iH h)
    · have hn0 : ¬ 0 < n := by omega
      rw [if_neg hn0, List.nil_append] at hms
      refine OW_call rfl rfl rfl (Gv.holds (hpass Cl) (fun w h => iH h)) rfl (fun r L' hp => ?_)
      obtain ⟨rfl, ve', C1', C2', hm', ho', rfl⟩ := hp
      obtain ⟨va2, vc2, rfl⟩ := ow_slc ho'
      unfold fnO fnV
      (repeat' first|refine kW ?_|refine kU fun bk=>?_|refine kV fun hc=>?_|refine kZ (fun hc=>?_) fun hc=>?_|fail)
      refine WQ_round (X := Nat × Value × Chunk × Chunk × Value × Chunk × List (Nat × Nat × Nat)) (μ := fun x => b.length - x.1) (x := (i, .slice vea i vec, C1, C2, vl, Cl, ms)) (i + max n 1, .slice va2 (i + max n 1) vc2, C1', C2', vl, Cl, ms) (by simp only; omega) ⟨by simp only; omega, hm', ho', hl, by simp only; omega, hms⟩ iS (fun w h => iH h)
  · obtain rfl : i = b.length := by omega
    rw [show b.length - b.length = 0 from by omega, msF, List.append_nil] at hms
    rw [← hms]
    refine kR ?_
    refine ⟨_, iC, Cl, hl, rfl⟩
omit [W0] in
def MtV (m : Nat × Nat × Nat) : List Value := [.int .i64 (m.1 : Int), .int .i64 (m.2.1 : Int), .int .i64 (m.2.2 : Int)]
omit [W0] in
theorem mtc_flt : ∀ l, mtc l = flt MtV l
  | [] => rfl
  | m :: r => by rw [mtc, flt, mtc_flt r]; rfl
end Go.Proofs.YtdcehmhelfohfaaGreatDoor
namespace Go.Proofs.YtdcehmhelfohfaaGreatDoor
open Go Go.Vx Go.Hf Go.If Go.Df
variable [W0]
set_option maxRecDepth 4000
set_option linter.all false
set_option maxHeartbeats 8000000 in
theorem deflatematches_n (v : Value) (b : List UInt8) (reach : Int) (L : List Chunk) (ht : Rs L 1 v b.length (bsv b)) (hreach : -9223372036854775808 ≤ reach ∧ reach ≤ 9223372036854775807) (hbl : b.length ≤ 140737488351232) :
    GvP Tryz.prog 6 [v, .int .i64 reach].toArray L (.bool true) := by
  refine Gv.of_body (args := [v, .int .i64 reach]) Tryz.func6 rfl rfl ?_
  obtain ⟨va, vc, rfl, hroom⟩ := ht.room
  (repeat' first|refine kW ?_|refine kU fun bk=>?_|refine kV fun hc=>?_|refine kZ (fun hc=>?_) fun hc=>?_|fail)
  · refine OW_callP rfl rfl rfl (dawake_n _) rfl ?_
    (repeat' first|refine kW ?_|refine kU fun bk=>?_|refine kV fun hc=>?_|refine kZ (fun hc=>?_) fun hc=>?_|fail)
    exact kE
  have hb : b.length ≤ 20000 := by omega
  have hmt := matches_n (.slice va b.length vc) reach b L ht (by omega) hreach
  have hok := msR_ok b reach
  have hR : (min reach 32768 : Int) ≤ reach ∧ (min reach 32768 : Int) ≤ 32768 := by omega
  have hnil : ¬ reach > 0 → msR b reach = [] := by
    intro h0
    cases hm : msR b reach with
    | nil => rfl
    | cons m r =>
      rw [hm] at hok
      have h1 := hok.2.1.d1
      have h2 := hok.2.1.dr
      omega
  have hnil : reach > 0 ∨ (msR b reach).length = 0 := by
    by_cases h : reach > 0
    · exact .inl h
    · exact .inr (by rw [hnil h]; rfl)
  generalize msR b reach = ms at hmt hok hnil
  generalize (min reach 32768 : Int) = R at hok hR
  refine OW_call rfl rfl rfl hmt rfl (fun r L' hp => ?_)
  obtain ⟨C, ho, rfl⟩ := hp
  rw [mtc_flt] at ho
  have hrs := Rs.ow (L := L) ho
  have hml : ms.length ≤ 9223372036854775807 := by
    rcases ho with ⟨_, h0, _⟩ | ⟨_, cap, _, _, _, _, _, h1, h2⟩
    · omega
    · unfold maxLen at h2; omega
  obtain ⟨ra, rc, rfl, _⟩ := hrs.room
  (repeat' first|refine kW ?_|refine kU fun bk=>?_|refine kV fun hc=>?_|refine kZ (fun hc=>?_) fun hc=>?_|fail)
  refine WC_loop (X := Nat × Nat) (fun x => [(0, .slice va b.length vc), (1, .int .i64 reach), (5, .slice ra ms.length rc), (6, .int .i64 (x.2 : Int)), (7, .int .i64 (x.1 : Int))]) (fun x => C :: L)
    (fun x => x.1 ≤ ms.length ∧ x.2 ≤ 200000 ∧ MsOk b R x.2 (ms.drop x.1)) (fun x => ms.length - x.1) (0, 0) ⟨Nat.zero_le _, Nat.zero_le _, hok⟩ iS (fun w h => h) ?_
  rintro ⟨i, en⟩ ⟨hi, hen, hmo⟩
  simp only at hi hen hmo ⊢
  (repeat' first|refine kW ?_|refine kU fun bk=>?_|refine kV fun hc=>?_|refine kZ (fun hc=>?_) fun hc=>?_|fail)
  · have hil : i < ms.length := by omega
    obtain ⟨m, hm⟩ : ∃ m, ms[i]? = some m := ⟨ms[i], List.getElem?_eq_getElem hil⟩
    have hdr : ms.drop i = m :: ms.drop (i + 1) := by
      have hx : ms[i] = m := by rw [List.getElem?_eq_getElem hil] at hm; simpa using hm
      rw [List.drop_eq_getElem_cons hil, hx]
    rw [hdr] at hmo
    obtain ⟨m1, m2, m3⟩ := hmo
    obtain ⟨tb, toff, tcap, hv9, hrd⟩ := hrs.elem hil (by decide)
    injection hv9 with q1 q2 q3
    subst q1 q3
    clear q2
    rw [flt_at (k := 3) (fun _ => rfl) hm] at hrd
    obtain ⟨at9, n, d⟩ := m
    simp only at m1 m2 m3 hrd
    have g1 := m2.n3
    have g2 := m2.nm
    have g3 := m2.fit
    have g4 := m2.d1
    have g5 := m2.dr
    have g6 := m2.di
    have hrd : RdAt (C :: L) ⟨tb, toff + i * 3, none⟩ [.int .i64 (at9 : Int), .int .i64 (n : Int), .int .i64 (d : Int)] := hrd
    refine OW_EV (EV_indexAddr (j := i) rfl rfl rfl hil) rfl ?_
    (repeat' first|refine kW ?_|refine kU fun bk=>?_|refine kV fun hc=>?_|refine kZ (fun hc=>?_) fun hc=>?_|fail)
    refine OW_EV (EV_loadAgg rfl hrd rfl) rfl ?_
    (repeat' first|refine kW ?_|refine kU fun bk=>?_|refine kV fun hc=>?_|refine kZ (fun hc=>?_) fun hc=>?_|fail)
    obtain ⟨bb, off, cap, cc, T, fr, hv9, hfn, hcs⟩ := slb ht.sl (by omega)
    injection hv9 with q1 q2 q3
    subst q1 q3
    clear q2
    refine WC_loop (X := Nat) (fun x => [(0, .slice (some ⟨bb, off, none⟩) b.length vc), (1, .int .i64 reach), (5, .slice (some ⟨tb, toff, none⟩) ms.length rc), (7, .int .i64 (i : Int)), (8, .pointer (some ⟨bk, 0, none⟩)), (9, .int .i64 (x : Int))]) (fun x => [(bk, cl [.int .i64 (at9 : Int), .int .i64 (n : Int), .int .i64 (d : Int)] 31)] :: C :: L)
      (fun x => x ≤ n) (fun x => n - x) 0 (Nat.zero_le _) iS (fun w h => h) ?_
    intro k hk
    have hk' : k ≤ n := hk
    (repeat' first|refine kW ?_|refine kU fun bk=>?_|refine kV fun hc=>?_|refine kZ (fun hc=>?_) fun hc=>?_|fail)
    · have hkn : k < n := by omega
      have he := m2.eq k hkn
      have hc1 := hcs (at9 + k) (by omega)
      have hc2 := hcs (at9 + k - d) (by omega)
      rw [← he] at hc2
      generalize b.getD (at9 + k) 0 = x at hc1 hc2
      refine WC_drawAll [] mixed ?_
      (refine WR_t 0 ?_; refine WR_t 1 ?_; refine WR_t 2 ?_; refine WR_t 3 ?_; refine WR_t 4 ?_)
      (refine WR_take 5 rfl rfl (by kernel_rfl) iP iC (EV_indexAddr (j := at9 + k) (len := b.length) rfl rfl (by omega) (by omega)) (by rfl) ?_)
      (refine WR_take 6 rfl rfl (by kernel_rfl) iP iC (EV_load rfl (.there (.there hfn)) hc1) (by rfl) ?_)
      (refine WR_t 7 ?_; refine WR_t 8 ?_; refine WR_t 9 ?_; refine WR_t 10 ?_; refine WR_t 11 ?_; refine WR_t 12 ?_; refine WR_t 13 ?_; refine WR_t 14 ?_)
      (refine WR_take 15 rfl rfl (by kernel_rfl) iP iC (EV_indexAddr (j := at9 + k - d) (len := b.length) rfl rfl (by omega) (by omega)) (by rfl) ?_)
      (refine WR_take 16 rfl rfl (by kernel_rfl) iP iC (EV_load rfl (.there (.there hfn)) hc2) (by rfl) ?_)
      (refine WR_t 17 ?_)
      (refine WR_done (by kernel_rfl) ?_)
      rw [show ((x.toNat : Int) != (x.toNat : Int)) = false from by simp]
      (repeat' first|refine kW ?_|refine kU fun bk=>?_|refine kV fun hc=>?_|refine kZ (fun hc=>?_) fun hc=>?_|fail)
      refine WQ_round (X := Nat) (μ := fun x => n - x) (x := k) (k + 1) (by show n - (k + 1) < n - k; omega) (by show k + 1 ≤ n; omega) iS (fun w h => h)
    · (repeat' first|refine kW ?_|refine kU fun bk=>?_|refine kV fun hc=>?_|refine kZ (fun hc=>?_) fun hc=>?_|fail)
      refine WQ_round (X := Nat × Nat) (μ := fun x => ms.length - x.1) (x := (i, en)) (i + 1, at9 + n) (by simp only; omega) ⟨by simp only; omega, by simp only; omega, m3⟩ iS (fun w h => h.drop)
  · refine OW_callP rfl rfl rfl (dawake_n _) rfl ?_
    (repeat' first|refine kW ?_|refine kU fun bk=>?_|refine kV fun hc=>?_|refine kZ (fun hc=>?_) fun hc=>?_|fail)
    refine kR ?_
    exact ⟨_, iC, rfl, rfl⟩
  · refine OW_callP rfl rfl rfl (dawake_n _) rfl ?_
    (repeat' first|refine kW ?_|refine kU fun bk=>?_|refine kV fun hc=>?_|refine kZ (fun hc=>?_) fun hc=>?_|fail)
    refine kR ?_
    exact ⟨_, iC, rfl, rfl⟩
end Go.Proofs.YtdcehmhelfohfaaGreatDoor
namespace Go.Proofs.YtdcehmhelfohfaaGreatDoor
open Go Go.Vx Go.ChangeShapes Go.WideShapes Go.ChangeAt Go.RowKit
set_option maxRecDepth 4000
set_option linter.all false
theorem open_bytes {H : Type} {enc : TypeId × Value → H} {P : Program} {W : World} {t e : TypeId} {a : Option Addr} {len cap : Nat} {d : DataW H} {ps : List MemPlace} (ht : P.underlying t = some (.slice e)) (he : P.underlying e = some (.int .u8)) (hc : P.cellsOf e = 1)
    (h : DataW.Trod enc P W 0 (fun _ => true) true t (.slice a len cap) d ps) :
    ∃ xs : List UInt8, xs.length = len ∧ SlC [blks W] 1 (.slice a len cap) len (bsv xs) ∧ len ≤ Rows.uptoBulk d ∧ (len = 0 ∨ ∃ el sp, d = .slice el sp ∧ el.length = len) := by
  have hx : len ≤ cap ∧ (len = 0 ∨ ∃ el sp, d = .slice el sp ∧ el.length = len) := by
    obtain ⟨fuel, hf⟩ := h
    rcases open_ints ht he hc hf with ⟨hcs, _⟩ | ⟨x, l, c, zs, hcs, _, hl, hm, hz, hx, hcell, hwz⟩
    · simp [Value.cells] at hcs
      obtain ⟨rfl, rfl, rfl⟩ := hcs
      exact ⟨Nat.le_refl _, .inl rfl⟩
    · simp [Value.cells] at hcs
      obtain ⟨rfl, rfl, rfl⟩ := hcs
      have hzl : zs.length = cap := by simpa using hz
      have hd : d = .slice (lits .u8 (zs.take len)) (lits .u8 (zs.drop len)) := by injection hx
      exact ⟨hl, .inr ⟨_, _, hd, by simp [lits]; omega⟩⟩
  obtain ⟨xs, h1, h2, h3, h4⟩ := open_row ht he hc h
  refine ⟨xs.map fun n => UInt8.ofNat n.toNat, by simpa using h1, ⟨?_, _, _, rfl, hx.1⟩, h4, hx.2⟩
  rw [bytes_of xs h2]
  exact h3
theorem reach_len {H : Type} {P : Program} {ts : List TypeId} {ds : List (DataW H)} (h : (DataW.weightsEach P ts ds).all (· ≤ reachBytes) = true) {j : Nat} {t e : TypeId} {d : DataW H} {len : Nat} (ht : ts[j]? = some t) (hd : ds[j]? = some d) (hu : P.underlying t = some (.slice e)) (hb : P.bytesOf e = 1)
    (hl : len = 0 ∨ ∃ el sp, d = .slice el sp ∧ el.length = len) : len ≤ 140737488351232 := by
  rcases hl with rfl | ⟨el, sp, rfl, rfl⟩
  · omega
  · have := sized_slice h ht hd hu
    rw [hb, Nat.mul_one] at this
    simp [reachBytes] at this
    omega
def tabZ : List Int := [16, 17, 18, 0, 8, 7, 9, 6, 10, 5, 11, 4, 12, 3, 13, 2, 14, 1, 15]
theorem tabZ_eq {i : Nat} (h : i < 19) : tabZ.getD i 0 = ((Go.If.ordL.getD i 0 : Nat) : Int) := by
  have : ∀ i : Fin 19, tabZ.getD i.val 0 = ((Go.If.ordL.getD i.val 0 : Nat) : Int) := by decide
  exact this ⟨i, h⟩
theorem tab_met {W : World} (h : laidMetH Tryz.prog [("stemma/symbols.order", Rows.laid_stemma_symbols_order)] W) : OrAt [blks W] := by
  letI : W0 := ⟨W.os, W.output⟩
  have ht : Lib.TabIs Tryz.prog W "stemma/symbols.order" .i64 tabZ :=
    Lib.tabIs_of_head (rest := []) (show Tryz.prog.globalNamed "stemma/symbols.order" = some 0 by kernel_rfl) (show (Tryz.prog.globals[0]?).map (·.type) = some 233 by kernel_rfl)
      Tryz.underlying233 Tryz.underlying3 (show Tryz.prog.cellsOf 3 = 1 by kernel_rfl) (show Tryz.prog.cellsOf 233 = 19 by kernel_rfl) h
  have hg : Tryz.prog.globalNamed "stemma/symbols.order" = some 0 := by kernel_rfl
  have hc0 := ht.cell hg 0 (by decide)
  have hblk : ∃ C T fr, W.heap[0]? = some (.cells C T fr) := by
    unfold World.cell? at hc0
    split at hc0
    · rename_i C T fr hb; exact ⟨C, T, fr, hb⟩
    · cases hc0
  obtain ⟨C, T, fr, hb⟩ := hblk
  refine ⟨C, T, fr, by simpa [Fnd] using blks_mem.2 hb, fun i hi => ?_⟩
  have := ht.cell hg i hi
  rw [cell_of hb] at this
  rw [this, tabZ_eq hi]
end Go.Proofs.YtdcehmhelfohfaaGreatDoor
namespace Go.Proofs.YtdcehmhelfohfaaGreatDoor
open Go Go.Vx Go.ChangeShapes Go.WideShapes Go.ChangeAt Go.RowKit
set_option linter.all false
set_option maxRecDepth 4000
theorem top_row (H : Type) (enc : TypeId × Value → H) (W : World) (base : Nat) (args : Array Value) (ds gs : List (DataW H)) (before : List MemPlace)
    (hval : ∀ (j : Nat) t v, Tryz.f6.params[j]? = some t → args[j]? = some v → Value.okWide Tryz.prog W .any base t v)
    (hW : DataW.Whole enc Tryz.prog Tryz.f6.params.toList Rows.deflateMatchesSpec.vars false W args.toList ds gs before)
    (hz : (DataW.weightsEach Tryz.prog (Tryz.f6.params.toList ++ Rows.deflateMatchesSpec.plain.varTypes Tryz.prog) (ds ++ gs)).all (· ≤ reachBytes) = true) (hL : laidMetH Tryz.prog [("stemma/symbols.order", Rows.laid_stemma_symbols_order)] W) :
    Calls Tryz.prog 6 args W fun e W' => ∃ v, e = .returned v ∧ Rows.deflateMatchesSpec.post enc Tryz.prog Tryz.f6 false true false false W args v W' := by
  have hW' := hW
  obtain ⟨p, q, hA0, hV, rfl, hfz, hnd⟩ := hW
  have hA : DataW.TrodAll enc Tryz.prog W 0 (fun _ => true) true Tryz.f6.params.toList args.toList ds p := hA0
  rw [Tryz.params6] at hA hval hz
  obtain ⟨v0, vs0, d0, ds0, p0, q0, hargs, rfl, rfl, h0, r0⟩ := trodAll_cons hA
  obtain ⟨v1, vs1, d1, ds1, p1, q1, rfl, rfl, rfl, h1, r1⟩ := trodAll_cons r0
  obtain ⟨rfl, rfl, rfl⟩ := trodAll_nil r1
  obtain rfl : args = #[v0, v1] := by cases args; simp_all
  obtain ⟨rfl, rfl⟩ := trodVars_none hV
  obtain ⟨a0, l0, c0, rfl⟩ := okWide_slice Tryz.underlying22 (hval 0 _ v0 rfl rfl)
  obtain ⟨x0, e0, s0, b0, g0⟩ := open_bytes Tryz.underlying22 Tryz.underlying5 (by kernel_rfl) h0
  have r0 : l0 ≤ 140737488351232 := reach_len hz (j := 0) rfl rfl Tryz.underlying22 (by kernel_rfl) g0
  obtain ⟨n1, rfl, rfl, rfl, w1⟩ := open_int Tryz.underlying3 (hval 1 _ v1 rfl rfl) h1
  clear hA0
  have lt0 : ∀ x ∈ p0, x.block < W.heap.size := by obtain ⟨m, hm⟩ := h0; exact DataW.trod_lt m _ _ _ hm
  have hc : Calls Tryz.prog 6 #[.slice a0 l0 c0, .int .i64 n1] W fun e W' => e = .returned (.bool true) ∧ Kept W W' := by
    have ht := tab_met hL
    refine bridge (fun {i} => ?_)
    subst e0
    have hb1 := bounds_i64 w1
    exact deflatematches_n (.slice a0 x0.length c0) x0 n1 [blks W] ⟨s0.sl, s0.room⟩ hb1 r0
  refine hc.mono fun e W' ⟨he, bel⟩ => ?_
  subst he
  exact ⟨_, rfl, _, _, _, [], _, [], hW', trodAll_mk1 (shut_bool Tryz.underlying4 _), (trodAll_cons_mk (Kept.trod Tryz.laidOut (by kernel_rfl) (of_decide_eq_true (by kernel_rfl)) h0 bel lt0) (trodAll_cons_mk (shut_int Tryz.underlying3 w1) trodAll_mk0)), rfl, bel.frame _, fun h => by cases h⟩
noncomputable def laidWorld (os : Os) : World :=
  { World.holding Tryz.prog os ⟨#[], #[], []⟩ with heap := (World.holding Tryz.prog os ⟨#[], #[], []⟩).heap.modify 0 fun
      | .cells _ t frozen => .cells (tabZ.map (Value.int .i64)).toArray t frozen
      | o => o }
theorem laid_met (os : Os) : laidMet Tryz.prog Rows.deflateMatchesRow.laid ((laidWorld os).forCall (fun _ _ => 0) ⟨#[], #[.slice none 0 0, .int .i64 0], []⟩).memory :=
  laidMet_of_run' 8 (by kernel_rfl) (by kernel_rfl)
theorem reads (os : Os) {H : Type} (enc : TypeId × Value → H) : ∃ places, DataW.whole enc Tryz.prog ((laidWorld os).forCall (fun _ _ => 0) ⟨#[], #[.slice none 0 0, .int .i64 0], []⟩).memory Tryz.f6.params.toList Rows.deflateMatchesSpec.vars false #[.slice none 0 0, .int .i64 0].toList 8 = some ([.nil, .lit (.int .i64 0)], [], places) :=
  ⟨[], by kernel_rfl⟩
set_option maxRecDepth 100000 in
theorem top_lifted (os : Os) (started : os.Started) (H : Type) (enc : TypeId × Value → H) (F : Stop.Interp) :
    ReturnsInHanded {} Tryz.checked os 6 .any ((OpenSpec.ofChange Rows.deflateMatchesSpec).preRow enc Tryz.prog Tryz.f6 Rows.deflateMatchesRow.domain false Rows.deflateMatchesRow.laid) (((OpenSpec.ofChange Rows.deflateMatchesSpec).at F).post enc Tryz.prog Tryz.f6 false true false false) := by
  obtain ⟨places, hx⟩ := reads os enc
  refine returnsInHanded_of_row (C := Tryz.checked) (s := (OpenSpec.ofChange Rows.deflateMatchesSpec)) Tryz.own started (by kernel_rfl) Tryz.func6
    (witness_row_at (enc := enc) (C := Tryz.checked) false (laidWorld os) #[.slice none 0 0, .int .i64 0] rfl (by kernel_rfl) (by kernel_rfl) (by kernel_rfl)
      (OpenSpec.preRow_of_cond 8 hx (by kernel_rfl) (fun k hk => by cases hk) (by kernel_rfl) (laid_met os))) ?_
  intro W base args ds gs before hval hW _ hcond hz hL _ _
  exact top_row H enc W base args ds gs before hval hW hz hL
theorem top_over : Rows.DeflateMatchesSaid :=
  OpenClaim.holds_of_cond 6 Tryz.f6 rfl rfl rfl rfl rfl rfl rfl ⟨rfl, rfl, rfl, rfl, rfl⟩ rfl rfl rfl rfl rfl (by kernel_rfl) Tryz.func6 (by kernel_rfl)
    (of_decide_eq_true (by kernel_rfl)) (by unfold Func.isWrapper; first | (rw [if_pos (by decide +kernel)]; kernel_rfl) | (rw [if_neg (by decide +kernel)]; exact ⟨rfl, rfl⟩))
    (fun os started H enc _ F => by rw [OpenClaim.pre_eq_preRow]; exact top_lifted os started H enc F)
theorem top_plain (f : FuncId) (fn : Func) (hf : Tryz.pinned.checked.prog.funcNamed "stemma/stemmalaw7.DeflateMatches" = some f) (hfn : Tryz.pinned.checked.prog.funcs[f]? = some fn) :
    true = Tryz.pinned.checked.prog.looks [] ∧ ∀ (j : Nat) t, fn.params[j]? = some t → Tryz.pinned.checked.prog.wantsStandIn t = false := by
  obtain rfl : f = 6 := Option.some.inj ((show Tryz.prog.funcNamed "stemma/stemmalaw7.DeflateMatches" = some 6 by kernel_rfl).symm.trans hf) |>.symm
  obtain rfl : fn = Tryz.f6 := (Option.some.inj (Tryz.func6.symm.trans hfn)).symm
  have all : (Tryz.f6.params.toList.all fun t => !Tryz.prog.wantsStandIn t) = true := by kernel_rfl
  refine ⟨by kernel_rfl, fun j t ht => ?_⟩
  have hm : t ∈ Tryz.f6.params.toList := by
    have := Array.mem_of_getElem? ht
    simpa using this
  have := List.all_eq_true.1 all t hm
  show Tryz.prog.wantsStandIn t = false
  simpa using this
theorem top_holds : Rows.DeflateMatchesCardSaid :=
  Claim7.holds_tied_plain_at .later [] _ _ _ _ top_over (fun _ h => by cases h) (by kernel_rfl) (fun _ h => by cases h) deflateMatches_row_tie rfl ⟨rfl, rfl⟩ (by kernel_rfl) rfl top_plain (by kernel_rfl)
end Go.Proofs.YtdcehmhelfohfaaGreatDoor
