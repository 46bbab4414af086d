/- PackHeads returns true and leaves its arguments as they were, for every argument; the table that the program reads is tied to its text (the card). No conditions beyond the row's. -/
import Derived.Test.YtfbeigbkdkiliaaGreatDoorHA3
namespace Go.Proofs.YtfbeigbkdkiliaaGreatDoor
open Go Go.Vx Go.Dl Go.Pk Go.If
variable [W0]
set_option maxRecDepth 4000
set_option linter.all false
theorem valid_nil (L : List Chunk) : GvP Tryz.prog 12 [.slice none 0 0].toArray L (.slice none 0 0) := by
  refine Gv.of_body (args := [.slice none 0 0]) Tryz.func12 rfl rfl ?_
  (repeat' first|refine kW ?_|refine kU fun bk=>?_|refine kV fun hc=>?_|refine kZ (fun hc=>?_) fun hc=>?_|fail)
  refine WC_loop (X := Unit) (fun _ => [(3, .slice none 0 0), (6, .slice none 0 0), (7, .int .i64 0), (8, .int .i64 0)]) (fun _ => L) (fun _ => True) (fun _ => 0) () trivial iS (fun w h => h) ?_
  intro _ _
  ((repeat' first|refine kW ?_|refine kU fun bk=>?_|refine kV fun hc=>?_|refine kZ (fun hc=>?_) fun hc=>?_|fail) <;> try exact absurd trivial hc)
  exact kE
theorem ordered_nil (L : List Chunk) : GvP Tryz.prog 11 [.slice none 0 0].toArray L (.slice none 0 0) := by
  refine Gv.of_body (args := [.slice none 0 0]) Tryz.func11 rfl rfl ?_
  (repeat' first|refine kW ?_|refine kU fun bk=>?_|refine kV fun hc=>?_|refine kZ (fun hc=>?_) fun hc=>?_|fail)
  refine OW_makeMap rfl (fun b => ?_)
  (repeat' first|refine kW ?_|refine kU fun bk=>?_|refine kV fun hc=>?_|refine kZ (fun hc=>?_) fun hc=>?_|fail)
  refine WC_loop (X := Unit) (fun _ => [(3, .slice none 0 0), (10, .slice none 0 0), (11, .int .i64 0), (12, .int .i64 0)]) (fun _ => L) (fun _ => True) (fun _ => 0) () trivial iS (fun w h => h.drop) ?_
  intro _ _
  ((repeat' first|refine kW ?_|refine kU fun bk=>?_|refine kV fun hc=>?_|refine kZ (fun hc=>?_) fun hc=>?_|fail) <;> try exact absurd trivial hc)
  refine OW_callP rfl rfl rfl (sort_nil _ rfl L) rfl ?_
  ((repeat' first|refine kW ?_|refine kU fun bk=>?_|refine kV fun hc=>?_|refine kZ (fun hc=>?_) fun hc=>?_|fail) <;> try exact absurd trivial hc)
  exact kE
def shC (p : Nat) (vc : Value) (b : Nat) : Chunk := [(p, cl [vc, .map (some b)] 76)]
theorem newshelf_n (L : List Chunk) : Gv Tryz.prog 13 [].toArray L (fun r L' => ∃ p b, r = .pointer (some ⟨p, 0, none⟩) ∧ L' = shC p (.slice none 0 0) b :: [(b, .map #[] 0)] :: L) := by
  refine Gv.of_body (args := []) Tryz.func13 rfl rfl ?_
  (repeat' first|refine kW ?_|refine kU fun bk=>?_|refine kV fun hc=>?_|refine kZ (fun hc=>?_) fun hc=>?_|fail)
  refine OW_makeMap rfl (fun b => ?_)
  (repeat' first|refine kW ?_|refine kU fun bk=>?_|refine kV fun hc=>?_|refine kZ (fun hc=>?_) fun hc=>?_|fail)
  revert bk
  intro p
  refine kR ?_
  exact ⟨_, iC, p, b, rfl, rfl⟩
theorem indexfo_nil (f : Value) (hf : f.oneCell' = true) (L : List Chunk) : GvP Tryz.prog 48 [.slice none 0 0, f].toArray L (.int .i64 (-1)) := by
  refine Gv.of_body (args := [.slice none 0 0, f]) Tryz.func48 rfl rfl ?_
  (repeat' first|refine kW ?_|refine kU fun bk=>?_|refine kV fun hc=>?_|refine kZ (fun hc=>?_) fun hc=>?_|fail)
  refine WC_loop (X := Unit) (fun _ => [(7, .int .i64 0), (8, .int .i64 0)]) (fun _ => L) (fun _ => True) (fun _ => 0) () trivial iS (fun w h => h) ?_
  intro _ _
  ((repeat' first|refine kW ?_|refine kU fun bk=>?_|refine kV fun hc=>?_|refine kZ (fun hc=>?_) fun hc=>?_|fail) <;> try exact absurd trivial hc)
  exact kE
theorem deletefo_nil (f : Value) (hf : f.oneCell' = true) (L : List Chunk) : GvP Tryz.prog 28 [.slice none 0 0, f].toArray L (.slice none 0 0) := by
  refine Gv.of_body (args := [.slice none 0 0, f]) Tryz.func28 rfl rfl ?_
  (repeat' first|refine kW ?_|refine kU fun bk=>?_|refine kV fun hc=>?_|refine kZ (fun hc=>?_) fun hc=>?_|fail)
  refine OW_callP rfl rfl rfl (indexfo_nil f hf L) rfl ?_
  ((repeat' first|refine kW ?_|refine kU fun bk=>?_|refine kV fun hc=>?_|refine kZ (fun hc=>?_) fun hc=>?_|fail) <;> try exact absurd trivial hc)
  exact kE
theorem without_nil (L : List Chunk) : GvP Tryz.prog 14 [.slice none 0 0, .slice none 0 0].toArray L (.slice none 0 0) := by
  refine Gv.of_body (args := [.slice none 0 0, .slice none 0 0]) Tryz.func14 rfl rfl ?_
  (repeat' first|refine kW ?_|refine kU fun bk=>?_|refine kV fun hc=>?_|refine kZ (fun hc=>?_) fun hc=>?_|fail)
  refine OW_makeMap rfl (fun b => ?_)
  (repeat' first|refine kW ?_|refine kU fun bk=>?_|refine kV fun hc=>?_|refine kZ (fun hc=>?_) fun hc=>?_|fail)
  revert bk
  intro p
  refine OW_storeTo (l := [.map none]) [.map (some b)] rfl rfl rfl rfl iU (by simp) ?_
  (repeat' first|refine kW ?_|refine kU fun bk=>?_|refine kV fun hc=>?_|refine kZ (fun hc=>?_) fun hc=>?_|fail)
  refine WC_loop (X := Unit) (fun _ => [(0, .slice none 0 0), (5, .pointer (some ⟨p, 0, none⟩)), (9, .slice none 0 0), (10, .int .i64 0), (11, .int .i64 0)]) (fun _ => L) (fun _ => True) (fun _ => 0) () trivial iS (fun w h => h.drop.drop) ?_
  intro _ _
  ((repeat' first|refine kW ?_|refine kU fun bk=>?_|refine kV fun hc=>?_|refine kZ (fun hc=>?_) fun hc=>?_|fail) <;> try exact absurd trivial hc)
  refine OW_callP rfl rfl rfl (deletefo_nil _ rfl L) rfl ?_
  ((repeat' first|refine kW ?_|refine kU fun bk=>?_|refine kV fun hc=>?_|refine kZ (fun hc=>?_) fun hc=>?_|fail) <;> try exact absurd trivial hc)
  exact kE
end Go.Proofs.YtfbeigbkdkiliaaGreatDoor
namespace Go.If
open Go.Vx Go.Hf
set_option linter.all false
def At (d : List UInt8) (t v n : Nat) : Prop := val d / 2 ^ t % 2 ^ n = v ∧ t + n ≤ 8 * d.length
theorem At.split {d : List UInt8} {t v n r m : Nat} (h : At d t (v + 2 ^ n * r) (n + m)) (hv : v < 2 ^ n) : At d t v n ∧ At d (t + n) r m := by
  obtain ⟨h1, h2⟩ := h
  rw [Nat.pow_add, Nat.mod_mul] at h1
  generalize hx : val d / 2 ^ t = x at h1
  have hp : 0 < 2 ^ n := Nat.pow_pos (by decide)
  have hlt := Nat.mod_lt x hp
  have e1 : x % 2 ^ n = v := by
    have h3 := congrArg (· % 2 ^ n) h1
    simp only [Nat.add_mul_mod_self_left] at h3
    rwa [Nat.mod_eq_of_lt hlt, Nat.mod_eq_of_lt hv] at h3
  have e2 : x / 2 ^ n % 2 ^ m = r := by
    rw [e1] at h1
    have h4 : 2 ^ n * (x / 2 ^ n % 2 ^ m) = 2 ^ n * r := by omega
    exact Nat.eq_of_mul_eq_mul_left hp h4
  refine ⟨⟨by rw [hx]; exact e1, by omega⟩, ⟨?_, by omega⟩⟩
  rw [Nat.pow_add, ← Nat.div_div_eq_div_mul, hx]
  exact e2
def itV : List (Nat × Nat) → Nat
  | [] => 0
  | x :: r => x.1 + 2 ^ x.2 * itV r
def itL : List (Nat × Nat) → Nat
  | [] => 0
  | x :: r => x.2 + itL r
theorem itL_app : ∀ a b : List (Nat × Nat), itL (a ++ b) = itL a + itL b
  | [], b => by simp [itL]
  | x :: a, b => by rw [List.cons_append, itL, itL, itL_app a b]; omega
theorem itV_app : ∀ a b : List (Nat × Nat), itV (a ++ b) = itV a + 2 ^ itL a * itV b
  | [], b => by simp [itV, itL]
  | x :: a, b => by
    rw [List.cons_append, itV, itV, itL, itV_app a b, Nat.mul_add, Nat.pow_add, Nat.mul_assoc]
    omega
theorem itV_lt : ∀ {a : List (Nat × Nat)}, (∀ x ∈ a, x.1 < 2 ^ x.2) → itV a < 2 ^ itL a
  | [], _ => by simp [itV, itL]
  | x :: a, h => by
    have h1 := h x List.mem_cons_self
    have h2 := itV_lt (a := a) (fun y hy => h y (List.mem_cons_of_mem _ hy))
    rw [itV, itL, Nat.pow_add]
    have h3 : 2 ^ x.2 * (itV a + 1) ≤ 2 ^ x.2 * 2 ^ itL a := Nat.mul_le_mul_left _ h2
    rw [Nat.mul_add] at h3
    omega
end Go.If
namespace Go.Df
open Go.Vx Go.Hf Go.If
set_option linter.all false
def Bi (d : List UInt8) (t : Nat) (a : List (Nat × Nat)) : Prop := At d t (itV a) (itL a)
theorem Bi.cons [W0] {d : List UInt8} {t : Nat} {x : Nat × Nat} {a : List (Nat × Nat)} (h : Bi d t (x :: a)) (hx : x.1 < 2 ^ x.2) : At d t x.1 x.2 ∧ Bi d (t + x.2) a := At.split (v := x.1) (n := x.2) (r := itV a) (m := itL a) h hx
theorem Bi.app [W0] : ∀ {d : List UInt8} {t : Nat} {a b : List (Nat × Nat)}, Bi d t (a ++ b) → (∀ x ∈ a, x.1 < 2 ^ x.2) → Bi d t a ∧ Bi d (t + itL a) b := by
  intro d t a b h ha
  have h' : At d t (itV a + 2 ^ itL a * itV b) (itL a + itL b) := by
    have := h
    unfold Bi at this
    rwa [itV_app, itL_app] at this
  obtain ⟨h1, h2⟩ := h'.split (itV_lt ha)
  exact ⟨h1, h2⟩
def sc [W0] (l : List Nat) (i : Nat) : Nat × Nat := (mir (cd l i) (l.getD i 0), l.getD i 0)
structure Cok (l : List Nat) : Prop where
  k : kS l ≤ 32768
  le : ∀ x ∈ l, x ≤ 15
theorem Cok.at {l : List Nat} (h : Cok l) (i : Nat) : l.getD i 0 ≤ 15 := by
  by_cases hi : i < l.length
  · have e : l.getD i 0 = l[i] := by simp [List.getD, hi]
    rw [e]; exact h.le _ (List.getElem_mem hi)
  · rw [show l.getD i 0 = 0 from by simp [List.getD, List.getElem?_eq_none (Nat.le_of_not_lt hi)]]; omega
inductive Tok
  | lit (c : UInt8)
  | mt (k x t y : Nat)
def lnT (k x : Nat) : Nat := (lnB k).1 + x
def tkI [W0] (l dl : List Nat) : Tok → List (Nat × Nat)
  | .lit c => [sc l c.toNat]
  | .mt k x t y => [sc l k, (x, (lnB k).2), sc dl t, (y, exB t 2 4)]
def tkN : Tok → Nat
  | .lit _ => 1
  | .mt k x _ _ => lnT k x
def tsI [W0] (l dl : List Nat) : List Tok → List (Nat × Nat)
  | [] => []
  | k :: r => tkI l dl k ++ tsI l dl r
end Go.Df
namespace Go.Df
open Go.Vx Go.Hf Go.If
set_option linter.all false
inductive Rl
  | len (v : Nat)
  | rep (x : Nat)
  | few (x : Nat)
  | more (x : Nat)
def rlW : Rl → List Nat → List Nat
  | .len v, l => l ++ [v]
  | .rep x, l => l ++ List.replicate (3 + x) (l.getD (l.length - 1) 0)
  | .few x, l => l ++ List.replicate (3 + x) 0
  | .more x, l => l ++ List.replicate (11 + x) 0
def rlN : Rl → Nat
  | .len _ => 1
  | .rep x => 3 + x
  | .few x => 3 + x
  | .more x => 11 + x
def rlOk (own : List Nat) (n : Nat) : Rl → Prop
  | .len v => v ≤ 15 ∧ 0 < own.getD v 0
  | .rep x => 0 < n ∧ x < 4 ∧ 0 < own.getD 16 0
  | .few x => x < 8 ∧ 0 < own.getD 17 0
  | .more x => x < 128 ∧ 0 < own.getD 18 0
def rsW : List Rl → List Nat → List Nat
  | [], l => l
  | r :: q, l => rsW q (rlW r l)
def rsN : List Rl → Nat
  | [] => 0
  | r :: q => rlN r + rsN q
def rsOk (own : List Nat) : Nat → List Rl → Prop
  | _, [] => True
  | n, r :: q => rlOk own n r ∧ rsOk own (n + rlN r) q
structure HdOk (own : List Nat) (n1 n2 z : Nat) (rs : List Rl) : Prop where
  n1a : 257 ≤ n1
  n1b : n1 ≤ 286
  n2a : 1 ≤ n2
  n2b : n2 ≤ 30
  ol : own.length = 19
  o7 : ∀ i, own.getD i 0 ≤ 7
  ok : kS own = 32768
  zb : z ≤ 15
  zz : ∀ i, 4 + z ≤ i → i < 19 → own.getD (ordL.getD i 0) 0 = 0
  ro : rsOk own 0 rs
  rn : rsN rs = n1 + n2
  e256 : (rsW rs []).getD 256 0 ≠ 0
  kl : kS ((rsW rs []).take n1) = 32768
  kd : kS ((rsW rs []).drop n1) = 32768 ∨ sgl ((rsW rs []).drop n1) = true
theorem HdOk.own {own : List Nat} {n1 n2 z : Nat} {rs : List Rl} (h : HdOk own n1 n2 z rs) : Cok own := ⟨by rw [h.ok]; exact Nat.le_refl _, fun x hx => by
  obtain ⟨i, hi, rfl⟩ := List.getElem_of_mem hx
  have := h.o7 i
  rw [show own.getD i 0 = own[i] from by simp [List.getD, hi]] at this
  omega⟩
end Go.Df
namespace Go.Vx
open Go
set_option linter.all false
def flt {α : Type} (f : α → List Value) : List α → List Value
  | [] => []
  | x :: r => f x ++ flt f r
theorem RdAt.sub [W0] {L L' : List Chunk} (hs : ∀ x ∈ L.flatten, x ∈ L'.flatten) {a : Addr} {vs : List Value} (h : RdAt L a vs) : RdAt L' a vs := rd_sub hs h
end Go.Vx
namespace Go.Df
open Go.Vx Go.If Go.Hf
set_option linter.all false
def TkOk (t : Nat × Nat) : Prop := (t.2 = 0 ∧ t.1 < 256) ∨ (1 ≤ t.2 ∧ t.2 ≤ 32768 ∧ 3 ≤ t.1 ∧ t.1 ≤ 258)
def tok (t : Nat × Nat) : Tok := if t.2 = 0 then .lit (UInt8.ofNat t.1) else .mt (olN t.1) (t.1 - (lnB (olN t.1)).1) (odN t.2) (t.2 - baB 1 2 4 (odN t.2))
end Go.Df
namespace Go.Proofs.YtfbeigbkdkiliaaGreatDoor
open Go Go.Vx Go.Hf Go.If Go.Df
variable [W0]
set_option maxRecDepth 4000
set_option linter.all false
omit [W0] in
def TkV (t : Nat × Nat) : List Value := [.int .i64 (t.1 : Int), .int .i64 (t.2 : Int)]
structure TkR (L : List Chunk) (v : Value) (ts : List (Nat × Nat)) : Prop where
  rs : Rs L 2 v ts.length (flt TkV ts)
  ok : ∀ t ∈ ts, TkOk t
theorem TkR.sub {L L' : List Chunk} (hs : ∀ x ∈ L.flatten, x ∈ L'.flatten) {v : Value} {ts : List (Nat × Nat)} (h : TkR L v ts) : TkR L' v ts := ⟨h.rs.sub hs, h.ok⟩
structure CdR (L : List Chunk) (vl vc : Value) (ls : List Nat) : Prop where
  l : Rs L 1 vl ls.length (ivn ls)
  c : Rs L 1 vc ls.length (wnv (cds ls))
  ok : Cok ls
  n : ls.length ≤ 400
theorem CdR.sub {L L' : List Chunk} (hs : ∀ x ∈ L.flatten, x ∈ L'.flatten) {vl vc : Value} {ls : List Nat} (h : CdR L vl vc ls) : CdR L' vl vc ls := ⟨h.l.sub hs, h.c.sub hs, h.ok, h.n⟩
def WrI (p : Nat) (a : List (Nat × Nat)) (D E : Chunk) : Prop := WrD p (itV a) (itL a) D E
theorem WrI.add {p : Nat} {a : List (Nat × Nat)} {v n : Nat} {D E : Chunk} (h : WrD p (itV a + 2 ^ itL a * v) (itL a + n) D E) : WrI p (a ++ [(v, n)]) D E := by
  unfold WrI
  rw [itV_app, itL_app]
  simp only [itV, itL, Nat.mul_zero, Nat.add_zero]
  exact h
theorem WrI.new (p : Nat) : WrI p [] [(p, cl [.slice none 0 0, .int .u64 0, .int .i64 0] 182)] [] := WrD.new p
omit [W0] in
/-- A block's codes and tokens, as they lie. -/
def cdV (vt v1 v2 v3 v4 : Value) (size : Nat) : List Value := [vt, v1, v2, v3, v4, .int .i64 (size : Int)]
structure CoR (L : List Chunk) (vt v1 v2 v3 v4 : Value) (ts : List (Nat × Nat)) (l dl : List Nat) : Prop where
  t : TkR L vt ts
  a : CdR L v1 v2 l
  b : CdR L v3 v4 dl
  ll : 286 ≤ l.length
  dd : 30 ≤ dl.length
  nt : ts.length ≤ 200000
theorem CoR.sub {L L' : List Chunk} (hs : ∀ x ∈ L.flatten, x ∈ L'.flatten) {vt v1 v2 v3 v4 : Value} {ts : List (Nat × Nat)} {l dl : List Nat} (h : CoR L vt v1 v2 v3 v4 ts l dl) : CoR L' vt v1 v2 v3 v4 ts l dl :=
  ⟨h.t.sub hs, h.a.sub hs, h.b.sub hs, h.ll, h.dd, h.nt⟩
theorem sub_there {L : List Chunk} {C : Chunk} : ∀ x ∈ L.flatten, x ∈ (C :: L).flatten := fun x hx => by simp [hx]
end Go.Proofs.YtfbeigbkdkiliaaGreatDoor
namespace Go.Df
open Go.Vx Go.If Go.Hf
set_option linter.all false
theorem tkI_le [W0] {l dl : List Nat} (hl : Cok l) (hd : Cok dl) {t : Nat × Nat} (h : TkOk t) : itL (tkI l dl (tok t)) ≤ 48 := by
  unfold tok
  have h1 := hl.at
  have h2 := hd.at
  rcases h with ⟨h0, h3⟩ | ⟨h3, h4, h5, h6⟩
  · rw [if_pos h0]
    simp only [tkI, itL, sc]
    have := h1 (UInt8.ofNat t.1).toNat
    omega
  · rw [if_neg (by omega)]
    have k1 := olN_ok h5 h6
    have k2 := odN_ok h3 h4
    have k3 := lnB_b (olN t.1) (by omega) (by omega)
    have k4 := dsB_b (odN t.2) (by omega)
    simp only [tkI, itL, sc]
    have := h1 (olN t.1)
    have := h2 (odN t.2)
    omega
theorem tsI_le [W0] {l dl : List Nat} (hl : Cok l) (hd : Cok dl) : ∀ {ts : List (Nat × Nat)}, (∀ t ∈ ts, TkOk t) → itL (tsI l dl (ts.map tok)) ≤ 48 * ts.length
  | [], _ => by simp [tsI, itL]
  | t :: r, h => by
    have h1 := tkI_le hl hd (h t (by simp))
    have h2 := tsI_le hl hd (ts := r) (fun x hx => h x (by simp [hx]))
    rw [List.map_cons, tsI, itL_app, List.length_cons]
    omega
end Go.Df
namespace Go.Proofs.YtfbeigbkdkiliaaGreatDoor
open Go Go.Vx Go.Hf Go.If Go.Df
variable [W0]
set_option maxRecDepth 4000
set_option linter.all false
def coI (l dl : List Nat) (ts : List (Nat × Nat)) : List (Nat × Nat) := tsI l dl (ts.map tok) ++ [sc l 256]
end Go.Proofs.YtfbeigbkdkiliaaGreatDoor
namespace Go.Df
open Go.Vx Go.If Go.Hf
set_option linter.all false
def rnI [W0] (own : List Nat) : List (Nat × Nat) → List (Nat × Nat)
  | [] => []
  | r :: q => sc own r.1 :: (r.2, rpB r.1) :: rnI own q
def orI (o : List Nat) : List (Nat × Nat) := o.map fun n => (n, 3)
theorem orI_L : ∀ o, itL (orI o) = 3 * o.length
  | [] => rfl
  | x :: o => by
    have := orI_L o
    simp only [orI] at this
    simp only [orI, List.map_cons, itL, List.length_cons, this]; omega
def hwI [W0] (n1 n2 : Nat) (o own : List Nat) (rs : List (Nat × Nat)) : List (Nat × Nat) := [(n1 - 257, 5), (n2 - 1, 5), (o.length - 4, 4)] ++ (orI o ++ rnI own rs)
theorem rnI_le [W0] {own : List Nat} (ho : Cok own) : ∀ rs : List (Nat × Nat), itL (rnI own rs) ≤ 22 * rs.length
  | [] => Nat.le_refl _
  | r :: q => by
    have h1 := rnI_le ho q
    have h2 := ho.at r.1
    have h3 : rpB r.1 ≤ 7 := by unfold rpB; split <;> (try split) <;> (try split) <;> omega
    simp only [rnI, itL, sc, List.length_cons]
    omega
end Go.Df
namespace Go.Proofs.YtfbeigbkdkiliaaGreatDoor
open Go Go.Vx Go.Hf Go.If Go.Df
variable [W0]
set_option maxRecDepth 4000
set_option linter.all false
omit [W0] in
def hdV (n1 n2 : Nat) (vo v1 v2 vr : Value) : List Value := [.int .i64 (n1 : Int), .int .i64 (n2 : Int), vo, v1, v2, vr]
structure HdR (L : List Chunk) (vo v1 v2 vr : Value) (n1 n2 : Nat) (o own : List Nat) (rs : List (Nat × Nat)) : Prop where
  ord : Rs L 1 vo o.length (ivn o)
  c : CdR L v1 v2 own
  run : Rs L 2 vr rs.length (flt TkV rs)
  b1 : 257 ≤ n1 ∧ n1 ≤ 286
  b2 : 1 ≤ n2 ∧ n2 ≤ 30
  ol : 4 ≤ o.length ∧ o.length ≤ 19
  o7 : ∀ x ∈ o, x < 8
  o19 : own.length = 19
  rn : rs.length ≤ 400
  ro : ∀ x ∈ rs, x.1 < 19 ∧ x.2 < 2 ^ rpB x.1
theorem HdR.sub {L L' : List Chunk} (hs : ∀ x ∈ L.flatten, x ∈ L'.flatten) {vo v1 v2 vr : Value} {n1 n2 : Nat} {o own : List Nat} {rs : List (Nat × Nat)} (h : HdR L vo v1 v2 vr n1 n2 o own rs) : HdR L' vo v1 v2 vr n1 n2 o own rs :=
  ⟨h.ord.sub hs, h.c.sub hs, h.run.sub hs, h.b1, h.b2, h.ol, h.o7, h.o19, h.rn, h.ro⟩
end Go.Proofs.YtfbeigbkdkiliaaGreatDoor
namespace Go.Df
open Go.Vx Go.If Go.Hf
set_option linter.all false
inductive Blk
  | st (t : List UInt8)
  | fx (ts : List (Nat × Nat))
  | dn (ts : List (Nat × Nat)) (l dl : List Nat) (n1 n2 : Nat) (o own : List Nat) (rs : List (Nat × Nat))
def raI (b : List UInt8) : List (Nat × Nat) := b.map fun c => (c.toNat, 8)
theorem raI_L : ∀ b, itL (raI b) = 8 * b.length
  | [] => rfl
  | x :: b => by
    have := raI_L b
    simp only [raI] at this
    simp only [raI, List.map_cons, itL, List.length_cons, this]; omega
theorem hwI_le [W0] {own o : List Nat} (ho : Cok own) (hl : o.length ≤ 19) (rs : List (Nat × Nat)) (n1 n2 : Nat) : itL (hwI n1 n2 o own rs) ≤ 100 + 22 * rs.length := by
  have := rnI_le ho rs
  unfold hwI
  rw [itL_app, itL_app, orI_L]
  simp only [itL]
  omega
def blI [W0] (n : Nat) : Blk → List (Nat × Nat)
  | .st t => [(0, 2), (0, 8 * ((n + 2 + 7) / 8) - (n + 2)), (t.length, 16), (65535 - t.length, 16)] ++ raI t
  | .fx ts => (1, 2) :: (tsI fxL fxD (ts.map tok) ++ [sc fxL 256])
  | .dn ts l dl n1 n2 o own rs => (2, 2) :: (hwI n1 n2 o own rs ++ (tsI l dl (ts.map tok) ++ [sc l 256]))
end Go.Df
namespace Go.Proofs.YtfbeigbkdkiliaaGreatDoor
open Go Go.Vx Go.Hf Go.If Go.Df
variable [W0]
set_option maxRecDepth 4000
set_option linter.all false
def BlkR (L : List Chunk) (v : Value) : Blk → Prop
  | .st t => ∃ vt, v = .iface 223 (.agg #[vt]) ∧ Rs L 1 vt t.length (bsv t) ∧ t.length ≤ 65535
  | .fx ts => ∃ vt v1 v2 v3 v4, v = .iface 197 (.agg (cdV vt v1 v2 v3 v4 (itL (coI fxL fxD ts))).toArray) ∧ CoR L vt v1 v2 v3 v4 ts fxL fxD
  | .dn ts l dl n1 n2 o own rs => ∃ vt v1 v2 v3 v4 vo v5 v6 vr, v = .iface 231 (.agg (cdV vt v1 v2 v3 v4 (itL (coI l dl ts)) ++ hdV n1 n2 vo v5 v6 vr).toArray) ∧ CoR L vt v1 v2 v3 v4 ts l dl ∧ HdR L vo v5 v6 vr n1 n2 o own rs
theorem BlkR.sub {L L' : List Chunk} (hs : ∀ x ∈ L.flatten, x ∈ L'.flatten) {v : Value} {B : Blk} (h : BlkR L v B) : BlkR L' v B := by
  cases B with
  | st t => obtain ⟨vt, h1, h2, h3⟩ := h; exact ⟨vt, h1, h2.sub hs, h3⟩
  | fx ts => obtain ⟨vt, v1, v2, v3, v4, h1, h2⟩ := h; exact ⟨vt, v1, v2, v3, v4, h1, h2.sub hs⟩
  | dn ts l dl n1 n2 o own rs => obtain ⟨vt, v1, v2, v3, v4, vo, v5, v6, vr, h1, h2, h3⟩ := h; exact ⟨vt, v1, v2, v3, v4, vo, v5, v6, vr, h1, h2.sub hs, h3.sub hs⟩
end Go.Proofs.YtfbeigbkdkiliaaGreatDoor
namespace Go.Proofs.YtfbeigbkdkiliaaGreatDoor
open Go Go.Vx Go.Hf Go.If Go.Df
variable [W0]
set_option maxRecDepth 4000
set_option linter.all false
theorem BlkR.le {L : List Chunk} {v : Value} {B : Blk} (h : BlkR L v B) (n : Nat) : itL (blI n B) ≤ 10000000 := by
  cases B with
  | st t =>
    obtain ⟨vt, _, _, h3⟩ := h
    simp only [blI]
    rw [itL_app, raI_L]
    simp only [itL]
    omega
  | fx ts =>
    obtain ⟨vt, v1, v2, v3, v4, _, hc⟩ := h
    have h1 := tsI_le hc.a.ok hc.b.ok hc.t.ok
    have h2 : (sc fxL 256).2 ≤ 15 := hc.a.ok.at 256
    have h3 := hc.nt
    simp only [blI, itL]
    rw [itL_app]
    simp only [itL]
    omega
  | dn ts l dl n1 n2 o own rs =>
    obtain ⟨vt, v1, v2, v3, v4, vo, v5, v6, vr, _, hc, hh⟩ := h
    have h1 := tsI_le hc.a.ok hc.b.ok hc.t.ok
    have h2 : (sc l 256).2 ≤ 15 := hc.a.ok.at 256
    have h3 := hc.nt
    have h4 := hwI_le hh.c.ok hh.ol.2 rs n1 n2
    have h5 := hh.rn
    simp only [blI, itL]
    rw [itL_app, itL_app]
    simp only [itL]
    omega
structure BlsR (L : List Chunk) (v : Value) (bs : List Blk) : Prop where
  ex : ∃ vs : List Value, Rs L 1 v bs.length vs ∧ ones vs = true ∧ ∀ (i : Nat) (B : Blk), bs[i]? = some B → ∃ u, vs[i]? = some u ∧ BlkR L u B
theorem BlsR.sub {L L' : List Chunk} (hs : ∀ x ∈ L.flatten, x ∈ L'.flatten) {v : Value} {bs : List Blk} (h : BlsR L v bs) : BlsR L' v bs := by
  obtain ⟨vs, h1, h2, h3⟩ := h.ex
  exact ⟨vs, h1.sub hs, h2, fun i B hi => by obtain ⟨u, h4, h5⟩ := h3 i B hi; exact ⟨u, h4, h5.sub hs⟩⟩
end Go.Proofs.YtfbeigbkdkiliaaGreatDoor
namespace Go.Proofs.YtfbeigbkdkiliaaGreatDoor
open Go Go.Vx Go.Hf Go.If Go.Df
variable [W0]
set_option maxRecDepth 4000
set_option linter.all false
structure BlsO (L : List Chunk) (v : Value) (bs : List Blk) (C : Chunk) : Prop where
  ex : ∃ vs : List Value, Ow 184 1 v bs.length vs C ∧ ones vs = true ∧ ∀ (i : Nat) (B : Blk), bs[i]? = some B → ∃ u, vs[i]? = some u ∧ BlkR L u B
theorem BlsO.r {L : List Chunk} {v : Value} {bs : List Blk} {C : Chunk} (h : BlsO L v bs C) : BlsR (C :: L) v bs := by
  obtain ⟨vs, h1, h2, h3⟩ := h.ex
  exact ⟨vs, Rs.ow h1, h2, fun i B hi => by obtain ⟨u, h4, h5⟩ := h3 i B hi; exact ⟨u, h4, h5.sub sub_there⟩⟩
theorem BlsO.sub {L L' : List Chunk} (hs : ∀ x ∈ L.flatten, x ∈ L'.flatten) {v : Value} {bs : List Blk} {C : Chunk} (h : BlsO L v bs C) : BlsO L' v bs C := by
  obtain ⟨vs, h1, h2, h3⟩ := h.ex
  exact ⟨vs, h1, h2, fun i B hi => by obtain ⟨u, h4, h5⟩ := h3 i B hi; exact ⟨u, h4, h5.sub hs⟩⟩
theorem BlsO.nil (L : List Chunk) : BlsO L (.slice none 0 0) [] [] := ⟨[], .inl ⟨rfl, rfl, rfl, rfl⟩, rfl, fun i B h => by simp at h⟩
theorem BlsO.push {L : List Chunk} {v' u : Value} {bs : List Blk} {B : Blk} {C' : Chunk} {vs : List Value} (h2 : ones vs = true) (h3 : ∀ (i : Nat) (B : Blk), bs[i]? = some B → ∃ u, vs[i]? = some u ∧ BlkR L u B) (hl : vs.length = bs.length)
    (ho : Ow 184 1 v' (bs.length + 1) (vs ++ [u]) C') (h1 : u.oneCell' = true) (hB : BlkR L u B) : BlsO L v' (bs ++ [B]) C' := by
  refine ⟨vs ++ [u], by simpa using ho, ?_, fun i B' hi => ?_⟩
  · simp only [ones, List.all_append, List.all_cons, List.all_nil, Bool.and_true, h1] at h2 ⊢
    exact h2
  · rcases Nat.lt_or_ge i bs.length with hlt | hge
    · rw [List.getElem?_append_left hlt] at hi
      obtain ⟨u', h4, h5⟩ := h3 i B' hi
      exact ⟨u', by rw [List.getElem?_append_left (by omega)]; exact h4, h5⟩
    · rw [List.getElem?_append_right hge] at hi
      have h0 : i - bs.length = 0 := by
        rcases Nat.eq_zero_or_pos (i - bs.length) with h | h
        · exact h
        · rw [List.getElem?_eq_none (show [B].length ≤ i - bs.length from h)] at hi
          cases hi
      rw [h0] at hi
      simp only [List.getElem?_cons_zero, Option.some.injEq] at hi
      subst hi
      exact ⟨u, by rw [List.getElem?_append_right (by omega), show i - vs.length = 0 from by omega]; rfl, hB⟩
end Go.Proofs.YtfbeigbkdkiliaaGreatDoor
namespace Go.Df
open Go.Vx Go.If Go.Hf
set_option linter.all false
def be4 (n : Nat) : List UInt8 := [UInt8.ofNat (n / 16777216), UInt8.ofNat (n / 65536), UInt8.ofNat (n / 256), UInt8.ofNat n]
end Go.Df
namespace Go.Vx
open Go Go.Lib Go.RowKit
set_option linter.all false
section
variable [W0] {P : Program} {n : Nat} {M : List (Nat × Value)} {L : List Chunk} {K : List (Nat × Value) → List Chunk → Prop}
variable {d : Nat} {ty : TypeId} {ps : String} {af : Array Edge} {g : Option (Nat × Bool)} {x y : Operand}
theorem OW_appendFull {t e k by_ : Nat} [hs : SL P t e k by_] {z : Value} [hz : ZV P e z] {r : Value} {b m c : Nat} {fr : Nat × Nat} {xs ys : List Value} {A B : List Chunk} (hx : ev M x = some (.slice (some ⟨b, 0, none⟩) m m)) (hy : ev M y = some r)
    (hsl : Sl L k r c ys) (hzip : Zip [(b, .cells xs.toArray e fr)] L A B) (hxl : xs.length = m * k) (hc : 0 < c) (hzk : z.cells.size = k) (h1 : ones ys = true) (hb : (m + c) * by_ ≤ 140737488355328) (h63 : m + c ≤ maxLen)
    (hn : Nat.blt d n = true) (h : ∀ v' C', Ow e k v' (m + c) (xs ++ ys) C' → K ((d, v') :: M) (A ++ C' :: B)) :
    OW P n ⟨some d, .call ⟨.builtin .append, #[x, y], #[t, t]⟩, ty, ps, af, g⟩ K M L := ⟨fun a w next Q ha hw0 hk => by
  have hL := hzip.eq
  subst hL
  have hw := hw0.perm List.perm_middle
  replace hsl := hsl.perm (List.perm_middle (a := [(b, .cells xs.toArray e fr)]) (l₁ := A) (l₂ := B))
  obtain ⟨ht, i, hi, hik, hib, hk0⟩ := hs.parts
  have hzz : i.zero = some z := by have := hz.out; rw [hi] at this; simpa using this
  subst hik hib
  have hsmall : m + c ≤ 9223372036854775807 := by simpa [maxLen] using h63
  have main : ∃ v' C' w', (Builtin.append_ #[t, t] ty #[.slice (some ⟨b, 0, none⟩) m m, r]).run P w = .ok v' w' ∧ Ow e i.size v' (m + c) (xs ++ ys) C' ∧ Holds w' (C' :: (A ++ B)) := by
    rcases hsl with ⟨c', rfl, rfl, rfl⟩ | ⟨a', c', rfl, hrd, hyl⟩
    · omega
    · have hrd0 : RdAt ([(b, .cells xs.toArray e fr)] :: (A ++ B)) ⟨b, 0, none⟩ xs := .inr ⟨b, 0, _, _, _, rfl, .here, fun j u hj => by rw [Nat.zero_add]; simpa using hj⟩
      have hr := run_append_grow (P := P) w t ty e i z ht hi hzz ⟨b, 0, none⟩ m m xs hxl (hrd0.cells hw) a' c c' ys hyl (hrd.cells hw) (by omega) (by omega) (growslice_fits (by omega) hb)
      refine ⟨_, [(w.heap.size, .cells ((xs ++ ys) ++ (Builtin.zeroCells z.cells (grownCap w (m + c) m e - (m + c))).toList).toArray e (0, 0))], _, hr, .inr ⟨w.heap.size, _, _, rfl, rfl, ?_, ?_, grownCap_ge w (m + c) m e, grownCap_le_maxLen w (m + c) m e h63⟩, ?_⟩
      · rw [List.length_append, hxl, hyl, Nat.add_mul]
      · simp [size_zeroCells, hzk]
      · have h0 := (hw.drop.same (w' := w.drew) rfl rfl rfl).alloc (.cells (xs.toArray ++ ys.toArray ++ Builtin.zeroCells z.cells (grownCap w (m + c) m e - (m + c))) e)
        have e1 : (xs ++ ys ++ (Builtin.zeroCells z.cells (grownCap w (m + c) m e - (m + c))).toList).toArray = xs.toArray ++ ys.toArray ++ Builtin.zeroCells z.cells (grownCap w (m + c) m e - (m + c)) := by
          apply Array.ext'; simp
        rw [e1]; exact h0
  obtain ⟨v', C', w', hr, ho, hw'⟩ := main
  unfold Oper.wp
  have hrun : (execOp a.eval ⟨some d, .call ⟨.builtin .append, #[x, y], #[t, t]⟩, ty, ps, af, g⟩).run P w = .ok (.value v') w' := by
    simp only [execOp, resolve, invoke, builtin, Sem.run_bind, Sem.run_pure, Result.andThen_ok, List.map_toArray, List.map_cons, List.map_nil, ha.eval hx, ha.eval hy, hr]
  rw [hrun, Oper.upon_value]
  exact (hk _ _ (h v' C' ho)).out _ _ (ha.put v' hn) (hw'.perm List.perm_middle.symm)⟩
end
end Go.Vx
namespace Go.Proofs.YtfbeigbkdkiliaaGreatDoor
open Go Go.Vx Go.Dl Go.Pk Go.If Go.Df
variable [W0]
set_option maxRecDepth 4000
set_option linter.all false
omit [W0] in
/-- What stands ahead of the entries of a pack. -/
def pkH (n : Nat) : List UInt8 := pg8 ++ be4 n
set_option maxHeartbeats 4000000 in
theorem write_nil (L : List Chunk) : Gv Tryz.prog 8 [.slice none 0 0, .slice none 0 0].toArray L (fun r L' => ∃ C, Ow 5 1 r 32 (bsv (pkH 0 ++ shaN (pkH 0))) C ∧ L' = C :: L) := by
  refine Gv.of_body (args := [.slice none 0 0, .slice none 0 0]) Tryz.func8 rfl rfl ?_
  (repeat' first|refine kW ?_|refine kU fun bk=>?_|refine kV fun hc=>?_|refine kZ (fun hc=>?_) fun hc=>?_|fail)
  refine OW_callP rfl rfl rfl (valid_nil L) rfl ?_
  (repeat' first|refine kW ?_|refine kU fun bk=>?_|refine kV fun hc=>?_|refine kZ (fun hc=>?_) fun hc=>?_|fail)
  refine OW_callP rfl rfl rfl (ordered_nil L) rfl ?_
  (repeat' first|refine kW ?_|refine kU fun bk=>?_|refine kV fun hc=>?_|refine kZ (fun hc=>?_) fun hc=>?_|fail)
  refine OW_call rfl rfl rfl (newshelf_n L) rfl (fun r L' hp => ?_)
  obtain ⟨p, b, rfl, rfl⟩ := hp
  (repeat' first|refine kW ?_|refine kU fun bk=>?_|refine kV fun hc=>?_|refine kZ (fun hc=>?_) fun hc=>?_|fail)
  refine OW_callP rfl rfl rfl (valid_nil _) rfl ?_
  (repeat' first|refine kW ?_|refine kU fun bk=>?_|refine kV fun hc=>?_|refine kZ (fun hc=>?_) fun hc=>?_|fail)
  refine OW_callP rfl rfl rfl (ordered_nil _) rfl ?_
  (repeat' first|refine kW ?_|refine kU fun bk=>?_|refine kV fun hc=>?_|refine kZ (fun hc=>?_) fun hc=>?_|fail)
  refine OW_callP rfl rfl rfl (without_nil _) rfl ?_
  (repeat' first|refine kW ?_|refine kU fun bk=>?_|refine kV fun hc=>?_|refine kZ (fun hc=>?_) fun hc=>?_|fail)
  refine WC_loop (X := Unit) (fun _ => [(0, .slice none 0 0), (5, .pointer (some ⟨p, 0, none⟩)), (22, .int .i64 0), (23, .int .i64 0)]) (fun _ => L) (fun _ => True) (fun _ => 0) () trivial iS (fun w h => h.drop.drop) ?_
  intro _ _
  ((repeat' first|refine kW ?_|refine kU fun bk=>?_|refine kV fun hc=>?_|refine kZ (fun hc=>?_) fun hc=>?_|fail) <;> try exact absurd trivial hc)
  rw [show IntKind.u32.wrap ((0 : Nat) : Int) = 0 from rfl]
  refine OW_buildSlice (cs := bsv pg8) rfl (by rfl) (by first | rfl | (simp [fillL, patch, Value.cells, zeros, bsv, pg8]; done) | (simp [fillL, patch, Value.cells, zeros, bsv, pg8]; rfl)) (by omega) rfl rfl (fun b1 => ?_)
  ((repeat' first|refine kW ?_|refine kU fun bk=>?_|refine kV fun hc=>?_|refine kZ (fun hc=>?_) fun hc=>?_|fail) <;> try exact absurd trivial hc)
  refine OW_convSame rfl iU rfl ?_
  ((repeat' first|refine kW ?_|refine kU fun bk=>?_|refine kV fun hc=>?_|refine kZ (fun hc=>?_) fun hc=>?_|fail) <;> try exact absurd trivial hc)
  refine OW_buildSlice (cs := bsv (be4 0)) rfl (by rfl) (by first | rfl | (simp [fillL, patch, Value.cells, zeros, bsv, be4]; done) | (simp [fillL, patch, Value.cells, zeros, bsv, be4]; rfl)) (by omega) rfl rfl (fun b2 => ?_)
  ((repeat' first|refine kW ?_|refine kU fun bk=>?_|refine kV fun hc=>?_|refine kZ (fun hc=>?_) fun hc=>?_|fail) <;> try exact absurd trivial hc)
  refine OW_appendFull (xs := bsv pg8) rfl rfl (sl_cells (k := 1) (c := (bsv (be4 0)).toArray) (xs := bsv (be4 0)) (m := 4) Fnd.here rfl (by simp [bsv, be4])) (by repeat (first | exact Zip.here _ | apply Zip.there)) (by simp [bsv, pg8]) (by decide) (by rfl) bsv_ones (by decide) (by decide) rfl (fun v1 C1 o1 => ?_)
  rw [← bsv_append] at o1
  have hpk : (pkH 0).length = 12 := rfl
  replace o1 : Ow 5 1 v1 (pkH 0).length (bsv (pkH 0)) C1 := o1
  obtain ⟨va, vc, rfl⟩ := ow_slc o1
  have hone := ow_one o1
  ((repeat' first|refine kW ?_|refine kU fun bk=>?_|refine kV fun hc=>?_|refine kZ (fun hc=>?_) fun hc=>?_|fail) <;> try exact absurd trivial hc)
  refine WC_loop (X := Unit) (fun _ => [(0, .slice none 0 0), (9, .slice va (pkH 0).length vc), (54, .slice none 0 0), (55, .int .i64 0), (56, .int .i64 0)]) (fun _ => C1 :: L) (fun _ => True) (fun _ => 0) () trivial iS (fun w h => (iC : Inc (C1 :: L) _).holds h) ?_
  intro _ _
  ((repeat' first|refine kW ?_|refine kU fun bk=>?_|refine kV fun hc=>?_|refine kZ (fun hc=>?_) fun hc=>?_|fail) <;> try exact absurd trivial hc)
  refine OW_call rfl rfl rfl (sha1_n (pkH 0) (.slice va (pkH 0).length vc) _ (by decide) (SlC.ow o1)) rfl (fun r L' hp => ?_)
  obtain ⟨C2, rfl, o2⟩ := hp
  ((repeat' first|refine kW ?_|refine kU fun bk=>?_|refine kV fun hc=>?_|refine kZ (fun hc=>?_) fun hc=>?_|fail) <;> try exact absurd trivial hc)
  refine OW_append rfl rfl o1 (ow_sl o2) (by repeat (first | exact Zip.here _ | apply Zip.there)) rfl bsv_ones (by decide) (by decide) rfl (fun v3 C3 o3 _ _ => ?_)
  rw [← bsv_append] at o3
  ((repeat' first|refine kW ?_|refine kU fun bk=>?_|refine kV fun hc=>?_|refine kZ (fun hc=>?_) fun hc=>?_|fail) <;> try exact absurd trivial hc)
  refine kR ?_
  exact ⟨_, iC, C3, o3, rfl⟩
end Go.Proofs.YtfbeigbkdkiliaaGreatDoor
set_option linter.all false
namespace Go.Dl
def byN (v k : Nat) : Nat := v / 2 ^ (8 * k) % 256
def msk : Nat → Nat → Nat
  | 0, _ => 0
  | k + 1, v => msk k v + (if byN v k = 0 then 0 else 2 ^ k)
def bts : Nat → Nat → List UInt8
  | 0, _ => []
  | k + 1, v => bts k v ++ (if byN v k = 0 then [] else [UInt8.ofNat (byN v k)])
theorem msk_lt : ∀ k v, msk k v < 2 ^ k
  | 0, v => by simp [msk]
  | k + 1, v => by
    have := msk_lt k v
    rw [msk, Nat.pow_succ]
    split <;> omega
theorem fd_bts : ∀ (k v : Nat) (r : List UInt8), fd (msk k v) k (bts k v ++ r) = some (v % 2 ^ (8 * k), r)
  | 0, v, r => by simp [fd, bts, Nat.mod_one]
  | k + 1, v, r => by
    have hlt := msk_lt k v
    have h256 : 256 ^ k = 2 ^ (8 * k) := by rw [Nat.pow_mul]
    have hm : v % 2 ^ (8 * (k + 1)) = v % 2 ^ (8 * k) + 2 ^ (8 * k) * byN v k := by
      rw [show 8 * (k + 1) = 8 * k + 8 from by omega, Nat.pow_add, Nat.mod_mul]; rfl
    rw [fd_split k 1]
    by_cases hz : byN v k = 0
    · have e1 : msk (k + 1) v = msk k v := by rw [msk, if_pos hz]; rfl
      have e2 : bts (k + 1) v = bts k v := by rw [bts, if_pos hz, List.append_nil]
      have e3 : msk k v / 2 ^ k = 0 := Nat.div_eq_of_lt hlt
      rw [e1, e2, fd_bts k v r, e3, hm, hz]
      simp [fd]
    · have e1 : msk (k + 1) v = msk k v + 2 ^ k := by rw [msk, if_neg hz]
      have e2 : bts (k + 1) v ++ r = bts k v ++ (UInt8.ofNat (byN v k) :: r) := by rw [bts, if_neg hz, List.append_assoc]; rfl
      have e3 : (msk k v + 2 ^ k) / 2 ^ k = 1 := by
        rw [Nat.add_div_right _ (Nat.pow_pos (by decide)), Nat.div_eq_of_lt hlt]
      have e4 : fd (msk k v + 2 ^ k) k (bts k v ++ (UInt8.ofNat (byN v k) :: r)) = some (v % 2 ^ (8 * k), UInt8.ofNat (byN v k) :: r) := by
        rw [← fd_bts k v]
        refine fd_mod k _ _ _ ?_
        rw [Nat.add_mod_right]
      have e5 : (UInt8.ofNat (byN v k)).toNat = byN v k := by simp [byN]
      rw [e1, e2, e4, e3, hm]
      simp [fd, h256, e5]
theorem bts_len1 (k v : Nat) : (bts (k + 1) v).length ≤ (bts k v).length + 1 := by
  rw [bts]; split <;> simp
theorem bts_len0 {k v : Nat} (h : byN v k = 0) : (bts (k + 1) v).length = (bts k v).length := by
  rw [bts, if_pos h]; simp
def cpV (v : Nat) : List UInt8 := UInt8.ofNat (128 + msk 7 v) :: bts 7 v
theorem cpV_len {v : Nat} (h3 : byN v 3 = 0) (h6 : byN v 6 = 0) : (cpV v).length ≤ 6 := by
  have l0 : (bts 0 v).length = 0 := rfl
  have l1 : (bts 1 v).length ≤ (bts 0 v).length + 1 := bts_len1 0 v
  have l2 : (bts 2 v).length ≤ (bts 1 v).length + 1 := bts_len1 1 v
  have l3 : (bts 3 v).length ≤ (bts 2 v).length + 1 := bts_len1 2 v
  have l4 : (bts 4 v).length = (bts 3 v).length := bts_len0 h3
  have l5 : (bts 5 v).length ≤ (bts 4 v).length + 1 := bts_len1 4 v
  have l6 : (bts 6 v).length ≤ (bts 5 v).length + 1 := bts_len1 5 v
  have l7 : (bts 7 v).length = (bts 6 v).length := bts_len0 h6
  have hl : (cpV v).length = (bts 7 v).length + 1 := List.length_cons
  omega
theorem cpV_mk {base : List UInt8} {v a n : Nat} (e1 : v < 2 ^ (8 * 7)) (e2 : v % 4294967296 = a) (e3 : v / 4294967296 = n % 65536) (h0 : 0 < n) (hn : n ≤ 65536) (hl : a + n ≤ base.length) : Mk base (cpV v) ((base.drop a).take n) := fun to pre rest hp => by
  have hm := msk_lt 7 v
  have h1 : (UInt8.ofNat (128 + msk 7 v)).toNat = 128 + msk 7 v := by simp; omega
  have hw : (if n % 65536 = 0 then 65536 else n % 65536) = n := by split <;> omega
  have hf : fd (128 + msk 7 v) 7 (bts 7 v ++ rest) = some (v, rest) := by
    have h := fd_bts 7 v rest
    rw [Nat.mod_eq_of_lt e1] at h
    rw [← h]
    refine fd_mod 7 _ _ _ ?_
    omega
  have hlen : ((base.drop a).take n).length = n := by simp; omega
  rw [hlen] at hp
  have e : cpV v ++ rest = UInt8.ofNat (128 + msk 7 v) :: (bts 7 v ++ rest) := rfl
  rw [e, List.length_cons]
  rw [ap_copy _ _ _ _ _ _ (by rw [h1]; omega), h1, hf]
  simp only [e2, e3, hw]
  rw [if_neg (by omega)]
  exact ap_fuel _ _ _ _ _ _ (by simp) (by omega)
def CpN (v a n : Nat) : Prop := v = a + n % 65536 * 4294967296
theorem CpN.mk {base : List UInt8} {v a n : Nat} (h : CpN v a n) (ha : a < 16777216) (h0 : 0 < n) (hn : n ≤ 65536) (hl : a + n ≤ base.length) : Mk base (cpV v) ((base.drop a).take n) := by
  unfold CpN at h
  exact cpV_mk (by omega) (by omega) (by omega) h0 hn hl
theorem CpN.len {v a n : Nat} (h : CpN v a n) (ha : a < 16777216) : (cpV v).length ≤ 6 := by
  unfold CpN at h
  exact cpV_len (by unfold byN; omega) (by unfold byN; omega)
theorem Mk.more {base D out E xs : List UInt8} (h : Mk base D out) (g : Mk base E xs) {res : List UInt8} (e : res = out ++ xs) : Mk base (D ++ E) res := by
  rw [e]; exact h.app g
end Go.Dl
namespace Go.Proofs.YtfbeigbkdkiliaaGreatDoor
open Go Go.Vx Go.Dl
variable [W0]
set_option maxRecDepth 4000
set_option linter.all false
theorem getD_mid (pre t : List UInt8) (x : UInt8) : (pre ++ x :: t).getD pre.length 0 = x := by
  simp [List.getD_eq_getElem?_getD]
theorem set_mid (pre t : List UInt8) (x y : UInt8) : (pre ++ x :: t).set pre.length y = pre ++ y :: t := by
  rw [List.set_append_right _ _ (Nat.le_refl _), Nat.sub_self]; rfl
theorem bsv_one (x : UInt8) : bsv [x] = [Value.int .u8 (x.toNat : Int)] := rfl
theorem u8_nat {a : Nat} (h : a < 256) : ((UInt8.ofNat a).toNat : Int) = (a : Int) := by
  rw [byte_mod, Nat.mod_eq_of_lt h]
end Go.Proofs.YtfbeigbkdkiliaaGreatDoor
namespace Go.Proofs.YtfbeigbkdkiliaaGreatDoor
open Go Go.Vx Go.Dl Go.Pk
variable [W0]
set_option maxRecDepth 4000
set_option linter.all false
set_option maxHeartbeats 8000000 in
theorem khead_n (k N : Nat) (L : List Chunk) (hk : k ≤ 1000) (hn : N ≤ 9223372036854775807) :
    Gv Tryz.prog 6 [.int .i64 (k : Int), .int .i64 (N : Int)].toArray L (fun r L' => ∃ C, Ow 5 1 r (hd k N).length (bsv (hd k N)) C ∧ L' = C :: L) := by
  refine Gv.of_body (args := [.int .i64 (k : Int), .int .i64 (N : Int)]) Tryz.func6 rfl rfl ?_
  have hNl : (hd k N).length ≤ 12 := Nat.le_trans (hT_len 9 _ (N / 16) (by omega)) (by decide)
  (repeat' first|refine kW ?_|refine kU fun bk=>?_|refine kV fun hc=>?_|refine kZ (fun hc=>?_) fun hc=>?_|fail)
  rw [show IntKind.u8.wrap (k : Int) = ((k % 256 : Nat) : Int) from by simp [IntKind.wrap, IntKind.bits, IntKind.signed]]
  refine OW_EV (EV_remN (k := .u8) (k % 256) 8 rfl rfl rfl rfl (by decide)) rfl ?_
  rw [show k % 256 % 8 = k % 8 from by omega]
  (repeat' first|refine kW ?_|refine kU fun bk=>?_|refine kV fun hc=>?_|refine kZ (fun hc=>?_) fun hc=>?_|fail)
  refine OW_EV (EV_nshl (k := .u8) (k % 8) 4 rfl rfl rfl rfl rfl (by simp only [IntKind.bits]; omega)) rfl ?_
  (repeat' first|refine kW ?_|refine kU fun bk=>?_|refine kV fun hc=>?_|refine kZ (fun hc=>?_) fun hc=>?_|fail)
  refine OW_EV (EV_remN (k := .u64) N 16 rfl rfl rfl rfl (by decide)) rfl ?_
  (repeat' first|refine kW ?_|refine kU fun bk=>?_|refine kV fun hc=>?_|refine kZ (fun hc=>?_) fun hc=>?_|fail)
  rw [show IntKind.u8.wrap ((N % 16 : Nat) : Int) = ((N % 16 : Nat) : Int) from wrap_nat rfl (by simp only [IntKind.bits]; omega)]
  refine OW_EV (EV_nor' (k := .u8) (N % 16) (k % 8) 4 rfl rfl rfl rfl rfl (by omega) (by simp only [IntKind.bits]; omega)) rfl ?_
  (repeat' first|refine kW ?_|refine kU fun bk=>?_|refine kV fun hc=>?_|refine kZ (fun hc=>?_) fun hc=>?_|fail)
  obtain ⟨c0, hc0⟩ : ∃ c0, c0 = N % 16 + k % 8 * 2 ^ 4 := ⟨_, rfl⟩
  have hcl : c0 < 128 := by omega
  rw [← hc0]
  refine OW_buildSlice (cs := [.int .u8 (c0 : Int)]) rfl (by rfl) (by first | (simp [fillL, patch, Value.cells, zeros]; done) | (simp [fillL, patch, Value.cells, zeros]; rfl)) (by omega) rfl rfl (fun bn => ?_)
  have ho0 : Ow 5 1 (.slice (some ⟨bn, 0, none⟩) 1 1) ([] ++ [UInt8.ofNat c0]).length (bsv ([] ++ [UInt8.ofNat c0])) [(bn, cl [.int .u8 (c0 : Int)] 5)] := by
    refine .inr ⟨bn, 1, [], rfl, ?_, by simp [bsv], rfl, Nat.le_refl _, by decide⟩
    rw [← u8_nat (show c0 < 256 by omega)]; rfl
  (repeat' first|refine kW ?_|refine kU fun bk=>?_|refine kV fun hc=>?_|refine kZ (fun hc=>?_) fun hc=>?_|fail)
  rw [show (N : Int) / 16 = ((N / 2 ^ 4 : Nat) : Int) from by omega]
  refine WC_loop (X := Nat × Nat × List UInt8 × Value × Chunk) (fun x => [(5, .int .u64 (x.1 : Int)), (6, x.2.2.2.1)]) (fun x => x.2.2.2.2 :: L)
    (fun x => x.1 ≤ 9223372036854775807 ∧ x.2.1 < 128 ∧ hd k N = x.2.2.1 ++ hT x.2.1 x.1 ∧ Ow 5 1 x.2.2.2.1 (x.2.2.1 ++ [UInt8.ofNat x.2.1]).length (bsv (x.2.2.1 ++ [UInt8.ofNat x.2.1])) x.2.2.2.2) (fun x => x.1) (N / 2 ^ 4, c0, [], .slice (some ⟨bn, 0, none⟩) 1 1, [(bn, cl [.int .u8 (c0 : Int)] 5)])
    ⟨by simp only; omega, hcl, by show hd k N = [] ++ hT c0 (N / 2 ^ 4); unfold hd; rw [List.nil_append, show c0 = k % 8 * 16 + N % 16 from by omega, show N / 2 ^ 4 = N / 16 from rfl], ho0⟩ iS (fun w h => h) ?_
  rintro ⟨m, c, pre, v, C⟩ ⟨h1, h2, h3, ho⟩
  simp only at h1 h2 h3 ho ⊢
  have hpl : pre.length ≤ 12 := by rw [h3, List.length_append] at hNl; omega
  have hpl1 : (pre ++ [UInt8.ofNat c]).length = pre.length + 1 := by simp
  (repeat' first|refine kW ?_|refine kU fun bk=>?_|refine kV fun hc=>?_|refine kZ (fun hc=>?_) fun hc=>?_|fail)
  · rw [hT_cons c m (by omega)] at h3
    rw [hpl1] at ho
    obtain ⟨b, cap, rest, rfl, rfl, hcell, hlt3, hset⟩ := ow_put ho (k := pre.length) (by omega)
    rw [getD_mid, u8_nat (show c < 256 by omega)] at hcell
    (repeat' first|refine kW ?_|refine kU fun bk=>?_|refine kV fun hc=>?_|refine kZ (fun hc=>?_) fun hc=>?_|fail)
    rw [show ((pre.length + 1 : Nat) : Int) - 1 = (pre.length : Int) from by omega]
    refine OW_EV (EV_indexAddr0 (j := pre.length) rfl rfl rfl (by omega)) rfl ?_
    (repeat' first|refine kW ?_|refine kU fun bk=>?_|refine kV fun hc=>?_|refine kZ (fun hc=>?_) fun hc=>?_|fail)
    refine OW_EV (EV_load rfl (by repeat (first | assumption | exact Fnd.here | refine Fnd.there ?_)) hcell) rfl ?_
    (repeat' first|refine kW ?_|refine kU fun bk=>?_|refine kV fun hc=>?_|refine kZ (fun hc=>?_) fun hc=>?_|fail)
    refine OW_EV (EV_nor (k := .u8) c 1 7 rfl rfl rfl rfl rfl (by omega) (by simp only [IntKind.bits]; omega)) rfl ?_
    rw [show c + 1 * 2 ^ 7 = c + 128 from by omega, ← u8_nat (show c + 128 < 256 by omega)]
    (repeat' first|refine kW ?_|refine kU fun bk=>?_|refine kV fun hc=>?_|refine kZ (fun hc=>?_) fun hc=>?_|fail)
    refine OW_EV (EV_indexAddr0 (j := pre.length) rfl rfl rfl (by omega)) rfl ?_
    (repeat' first|refine kW ?_|refine kU fun bk=>?_|refine kV fun hc=>?_|refine kZ (fun hc=>?_) fun hc=>?_|fail)
    refine OW_store rfl rfl rfl iU hlt3 ?_
    have hq2 := hset (UInt8.ofNat (c + 128))
    rw [set_mid] at hq2
    (repeat' first|refine kW ?_|refine kU fun bk=>?_|refine kV fun hc=>?_|refine kZ (fun hc=>?_) fun hc=>?_|fail)
    refine OW_EV (EV_remN (k := .u64) m 128 rfl rfl rfl rfl (by decide)) rfl ?_
    (repeat' first|refine kW ?_|refine kU fun bk=>?_|refine kV fun hc=>?_|refine kZ (fun hc=>?_) fun hc=>?_|fail)
    rw [show IntKind.u8.wrap ((m % 128 : Nat) : Int) = ((UInt8.ofNat (m % 128)).toNat : Int) from wrap_byte _]
    refine OW_buildSlice (cs := [.int .u8 ((UInt8.ofNat (m % 128)).toNat : Int)]) rfl (by rfl) (by first | (simp [fillL, patch, Value.cells, zeros]; done) | (simp [fillL, patch, Value.cells, zeros]; rfl)) (by omega) rfl rfl (fun b2 => ?_)
    (repeat' first|refine kW ?_|refine kU fun bk=>?_|refine kV fun hc=>?_|refine kZ (fun hc=>?_) fun hc=>?_|fail)
    refine OW_append rfl rfl hq2 (sl_cells (k := 1) (c := #[.int .u8 ((UInt8.ofNat (m % 128)).toNat : Int)]) (xs := [.int .u8 ((UInt8.ofNat (m % 128)).toNat : Int)]) (m := 1) Fnd.here rfl (by simp)) (by repeat (first | exact Zip.here _ | apply Zip.there)) rfl (by rfl) (by omega) (by simp [maxLen]; omega) rfl (fun v' C' ho' _ _ => ?_)
    rw [← bsv_one, ← bsv_append] at ho'
    (repeat' first|refine kW ?_|refine kU fun bk=>?_|refine kV fun hc=>?_|refine kZ (fun hc=>?_) fun hc=>?_|fail)
    rw [show (m : Int) / 128 = ((m / 2 ^ 7 : Nat) : Int) from by omega]
    refine WQ_round (X := Nat × Nat × List UInt8 × Value × Chunk) (μ := fun x => x.1) (x := (m, c, pre, .slice (some ⟨b, 0, none⟩) (pre.length + 1) cap, [(b, cl (bsv (pre ++ [UInt8.ofNat c]) ++ rest) 5)])) (m / 2 ^ 7, m % 128, pre ++ [UInt8.ofNat (c + 128)], v', C') (by simp only; omega) ⟨by simp only; omega, by simp only; omega, ?_, ?_⟩ iS (fun w h => iH h)
    · simp only
      rw [h3, List.append_assoc]; rfl
    · simp only [List.length_append, List.length_singleton]
      exact ho'
  · obtain rfl : m = 0 := by omega
    rw [hT_nil] at h3
    rw [h3]
    refine kR ?_
    exact ⟨_, iC, C, ho, rfl⟩
end Go.Proofs.YtfbeigbkdkiliaaGreatDoor
namespace Go.Pk
set_option linter.all false
def rvN (xs : List UInt8) : Nat → List UInt8
  | 0 => xs
  | i + 1 => ((rvN xs i).set i ((rvN xs i).getD (xs.length - 1 - i) 0)).set (xs.length - 1 - i) ((rvN xs i).getD i 0)
theorem rvN_len (xs : List UInt8) : ∀ i, (rvN xs i).length = xs.length
  | 0 => rfl
  | i + 1 => by rw [rvN, List.length_set, List.length_set, rvN_len xs i]
theorem getD_set {l : List UInt8} {i j : Nat} {x : UInt8} (h : j < l.length) : (l.set i x).getD j 0 = if i = j then x else l.getD j 0 := by
  rw [List.getD_eq_getElem?_getD, List.getElem?_set]
  by_cases e : i = j
  · subst e; rw [if_pos rfl, if_pos h, if_pos rfl]; rfl
  · rw [if_neg e, if_neg e, ← List.getD_eq_getElem?_getD]
theorem rvN_get (xs : List UInt8) : ∀ i t, 2 * i ≤ xs.length → t < xs.length → (rvN xs i).getD t 0 = if t < i ∨ xs.length - i ≤ t then xs.getD (xs.length - 1 - t) 0 else xs.getD t 0
  | 0, t, h, ht => by rw [if_neg (by omega)]; rfl
  | i + 1, t, h, ht => by
    have hl := rvN_len xs i
    rw [rvN, getD_set (by rw [List.length_set]; omega), getD_set (by omega), rvN_get xs i t (by omega) ht, rvN_get xs i i (by omega) (by omega), rvN_get xs i (xs.length - 1 - i) (by omega) (by omega)]
    rw [if_neg (show ¬ (i < i ∨ xs.length - i ≤ i) by omega), if_neg (show ¬ (xs.length - 1 - i < i ∨ xs.length - i ≤ xs.length - 1 - i) by omega)]
    by_cases h1 : xs.length - 1 - i = t
    · rw [if_pos h1, if_pos (by omega)]; congr 1; omega
    · rw [if_neg h1]
      by_cases h2 : i = t
      · rw [if_pos h2, if_pos (by omega), h2]
      · rw [if_neg h2]
        by_cases h3 : t < i ∨ xs.length - i ≤ t
        · rw [if_pos h3, if_pos (by omega)]
        · rw [if_neg h3, if_neg (by omega)]
theorem rvN_end (xs : List UInt8) (i : Nat) (h1 : 2 * i ≤ xs.length) (h2 : xs.length ≤ 2 * i + 1) : rvN xs i = xs.reverse := by
  refine List.ext_getElem (by rw [rvN_len, List.length_reverse]) fun t a b => ?_
  have hl := rvN_len xs i
  have g := rvN_get xs i t h1 (by omega)
  rw [List.getD_eq_getElem?_getD, List.getElem?_eq_getElem a] at g
  rw [List.getElem_reverse]
  rw [Option.getD_some] at g
  rw [g]
  by_cases h3 : t < i ∨ xs.length - i ≤ t
  · rw [if_pos h3, List.getD_eq_getElem?_getD, List.getElem?_eq_getElem (by omega)]; rfl
  · rw [if_neg h3, List.getD_eq_getElem?_getD, List.getElem?_eq_getElem (by omega), Option.getD_some]
    congr 1; omega
end Go.Pk
namespace Go.Proofs.YtfbeigbkdkiliaaGreatDoor
open Go Go.Vx Go.Dl Go.Pk
variable [W0]
set_option maxRecDepth 4000
set_option linter.all false
theorem bsv_set {xs : List UInt8} {rest : List Value} {i : Nat} (y : UInt8) (h : i < xs.length) : (bsv xs ++ rest).set i (.int .u8 (y.toNat : Int)) = bsv (xs.set i y) ++ rest := by
  rw [List.set_append_left _ _ (by rw [bsv_length]; exact h)]
  simp [bsv, List.map_set]
theorem bsv_cell {xs : List UInt8} {rest : List Value} {i : Nat} (h : i < xs.length) : (bsv xs ++ rest).toArray[i * 1]? = some (.int .u8 ((xs.getD i 0).toNat : Int)) := by
  rw [List.getElem?_toArray, Nat.mul_one, List.getElem?_append_left (by rw [bsv_length]; exact h)]
  simp [bsv, h]
set_option maxHeartbeats 8000000 in
theorem breverse_n (v : Value) (xs : List UInt8) (C : Chunk) (L : List Chunk) (ho : Ow 5 1 v xs.length (bsv xs) C) (hl : xs.length ≤ 1000000000) :
    Gv Tryz.prog 10 [v].toArray (C :: L) (fun r L' => ∃ C', Ow 5 1 v xs.length (bsv xs.reverse) C' ∧ L' = C' :: L) := by
  rcases ho with ⟨rfl, h0, h1, rfl⟩ | ⟨b, cap, rest, rfl, rfl, hxl, hrl, hmc, hcm⟩
  · obtain rfl : xs = [] := List.eq_nil_of_length_eq_zero h0
    refine Gv.of_body (args := [.slice none 0 0]) Tryz.func10 rfl rfl ?_
    (repeat' first|refine kW ?_|refine kU fun bk=>?_|refine kV fun hc=>?_|refine kZ (fun hc=>?_) fun hc=>?_|fail)
    refine WC_loop (X := Unit) (fun _ => [(0, .slice none 0 0), (2, .int .i64 0), (3, .int .i64 (-1))]) (fun _ => [] :: L) (fun _ => True) (fun _ => 0) () trivial iS (fun w h => h) ?_
    intro _ _
    ((repeat' first|refine kW ?_|refine kU fun bk=>?_|refine kV fun hc=>?_|refine kZ (fun hc=>?_) fun hc=>?_|fail) <;> try exact absurd trivial hc)
    refine kR ?_
    exact ⟨_, iC, [], .inl ⟨rfl, rfl, rfl, rfl⟩, rfl⟩
  refine Gv.of_body (args := [.slice (some ⟨b, 0, none⟩) xs.length cap]) Tryz.func10 rfl rfl ?_
  (repeat' first|refine kW ?_|refine kU fun bk=>?_|refine kV fun hc=>?_|refine kZ (fun hc=>?_) fun hc=>?_|fail)
  refine WC_loop (X := Nat) (fun i => [(0, .slice (some ⟨b, 0, none⟩) xs.length cap), (2, .int .i64 (i : Int)), (3, .int .i64 ((xs.length : Int) - 1 - (i : Int)))])
    (fun i => [(b, cl (bsv (rvN xs i) ++ rest) 5)] :: L) (fun i => 2 * i ≤ xs.length) (fun i => xs.length - i) 0 (Nat.zero_le _) iS (fun w h => h) ?_
  intro i hi
  have hrl2 := rvN_len xs i
  have hst : rvN xs (i + 1) = ((rvN xs i).set i ((rvN xs i).getD (xs.length - 1 - i) 0)).set (xs.length - 1 - i) ((rvN xs i).getD i 0) := rfl
  obtain ⟨ys, hys⟩ : ∃ ys, ys = rvN xs i := ⟨_, rfl⟩
  rw [← hys] at hrl2 hst ⊢
  (repeat' first|refine kW ?_|refine kU fun bk=>?_|refine kV fun hc=>?_|refine kZ (fun hc=>?_) fun hc=>?_|fail)
  · have hlt : i < xs.length - 1 - i := by omega
    rw [show (xs.length : Int) - 1 - (i : Int) = ((xs.length - 1 - i : Nat) : Int) from by omega]
    obtain ⟨j, hj⟩ : ∃ j, j = xs.length - 1 - i := ⟨_, rfl⟩
    rw [← hj] at hst ⊢
    refine WC_drawAll [0, 1, 2, 3, 13, 14, 15] mixed ?_
    (refine WR_f 0 ?_; refine WR_f 1 ?_; refine WR_f 2 ?_; refine WR_f 3 ?_)
    (refine WR_t2 4 ?_; refine WR_t2 5 ?_)
    (refine WR_take2 6 rfl rfl (by kernel_rfl) iP iC (EV_indexAddr0 (j := j) rfl rfl rfl (by omega)) (by rfl) ?_)
    (refine WR_take2 7 rfl rfl (by kernel_rfl) iP iC (EV_load rfl Fnd.here (bsv_cell (i := j) (by omega))) (by rfl) ?_)
    (refine WR_t2 8 ?_; refine WR_t2 9 ?_)
    (refine WR_take2 10 rfl rfl (by kernel_rfl) iP iC (EV_indexAddr0 (j := i) rfl rfl rfl (by omega)) (by rfl) ?_)
    (refine WR_take2 11 rfl rfl (by kernel_rfl) iP iC (EV_load rfl Fnd.here (bsv_cell (i := i) (by omega))) (by rfl) ?_)
    (refine WR_take2 12 rfl rfl (by kernel_rfl) iP iC (EV_indexAddr0 (j := i) rfl rfl rfl (by omega)) (by rfl) ?_)
    (refine WR_last 13 (by kernel_rfl) rfl rfl rfl ?_)
    refine OW_storeTo (l := bsv ys ++ rest) (bsv (ys.set i (ys.getD j 0)) ++ rest) rfl rfl rfl (by first | exact bsv_set _ (by omega) | (rw [Nat.mul_one]; exact bsv_set _ (by omega))) iU (by rw [List.length_append, bsv_length]; omega) ?_
    (refine WR_last 14 (by kernel_rfl) rfl rfl rfl ?_)
    refine OW_EV (EV_indexAddr0 (j := j) rfl rfl rfl (by omega)) rfl ?_
    (refine WR_last 15 (by kernel_rfl) rfl rfl rfl ?_)
    refine OW_storeTo (l := bsv (ys.set i (ys.getD j 0)) ++ rest) (bsv ((ys.set i (ys.getD j 0)).set j (ys.getD i 0)) ++ rest) rfl rfl rfl (by first | exact bsv_set _ (by rw [List.length_set]; omega) | (rw [Nat.mul_one]; exact bsv_set _ (by rw [List.length_set]; omega))) iU (by rw [List.length_append, bsv_length, List.length_set]; omega) ?_
    (refine WR_done (by kernel_rfl) ?_)
    rw [← hst]
    (repeat' first|refine kW ?_|refine kU fun bk=>?_|refine kV fun hc=>?_|refine kZ (fun hc=>?_) fun hc=>?_|fail)
    rw [show (j : Int) - 1 = (xs.length : Int) - 1 - ((i + 1 : Nat) : Int) from by omega]
    refine WQ_round (X := Nat) (μ := fun i => xs.length - i) (x := i) (i + 1) (by omega) (by omega) iS (fun w h => h)
  · have e := rvN_end xs i hi (by omega)
    rw [← hys] at e
    subst e
    refine kR ?_
    exact ⟨_, iC, _, .inr ⟨b, cap, rest, rfl, rfl, by rw [bsv_length, List.length_reverse, Nat.mul_one], hrl, hmc, hcm⟩, rfl⟩
theorem bw_small {n : Nat} (h : n / 128 = 0) : bw n = [UInt8.ofNat (n % 128)] := by
  unfold bw
  rw [if_pos (by omega), Nat.mod_eq_of_lt (by omega)]
theorem bw_big {n : Nat} (h : n / 128 ≠ 0) : bw n = bwH (n / 128 - 1) ++ [UInt8.ofNat (n % 128)] := by
  unfold bw
  rw [if_neg (by omega)]
set_option maxHeartbeats 8000000 in
theorem kback_n (N : Nat) (L : List Chunk) (hn : N ≤ 9223372036854775807) :
    Gv Tryz.prog 5 [.int .i64 (N : Int)].toArray L (fun r L' => ∃ C, Ow 5 1 r (bw N).length (bsv (bw N)) C ∧ L' = C :: L) := by
  refine Gv.of_body (args := [.int .i64 (N : Int)]) Tryz.func5 rfl rfl ?_
  have hbl : (bw N).length ≤ 20 := by
    have := bwH_len 9 (N / 128 - 1) (by omega)
    unfold bw
    split
    · simp
    · rw [List.length_append, List.length_singleton]; omega
  (repeat' first|refine kW ?_|refine kU fun bk=>?_|refine kV fun hc=>?_|refine kZ (fun hc=>?_) fun hc=>?_|fail)
  refine OW_EV (EV_remN (k := .u64) N 128 rfl rfl rfl rfl (by decide)) rfl ?_
  (repeat' first|refine kW ?_|refine kU fun bk=>?_|refine kV fun hc=>?_|refine kZ (fun hc=>?_) fun hc=>?_|fail)
  rw [show IntKind.u8.wrap ((N % 128 : Nat) : Int) = ((UInt8.ofNat (N % 128)).toNat : Int) from wrap_byte _]
  refine OW_buildSlice (cs := [.int .u8 ((UInt8.ofNat (N % 128)).toNat : Int)]) rfl (by rfl) (by first | (simp [fillL, patch, Value.cells, zeros]; done) | (simp [fillL, patch, Value.cells, zeros]; rfl)) (by omega) rfl rfl (fun bn => ?_)
  have ho0 : Ow 5 1 (.slice (some ⟨bn, 0, none⟩) 1 1) [UInt8.ofNat (N % 128)].length (bsv [UInt8.ofNat (N % 128)]) [(bn, cl [.int .u8 ((UInt8.ofNat (N % 128)).toNat : Int)] 5)] :=
    .inr ⟨bn, 1, [], rfl, rfl, by simp [bsv], rfl, Nat.le_refl _, by decide⟩
  (repeat' first|refine kW ?_|refine kU fun bk=>?_|refine kV fun hc=>?_|refine kZ (fun hc=>?_) fun hc=>?_|fail)
  rw [show (N : Int) / 128 = ((N / 128 : Nat) : Int) from by omega]
  refine WC_loop (X := Nat × List UInt8 × Value × Chunk) (fun x => [(3, .int .u64 (x.1 : Int)), (4, x.2.2.1)]) (fun x => x.2.2.2 :: L)
    (fun x => x.1 ≤ 9223372036854775807 ∧ bw N = (if x.1 = 0 then [] else bwH (x.1 - 1)) ++ x.2.1.reverse ∧ Ow 5 1 x.2.2.1 x.2.1.length (bsv x.2.1) x.2.2.2) (fun x => x.1) (N / 128, [UInt8.ofNat (N % 128)], .slice (some ⟨bn, 0, none⟩) 1 1, [(bn, cl [.int .u8 ((UInt8.ofNat (N % 128)).toNat : Int)] 5)])
    ⟨by simp only; omega, ?_, ho0⟩ iS (fun w h => h) ?_
  · simp only [List.reverse_singleton]
    by_cases h : N / 128 = 0
    · rw [if_pos h, bw_small h]; rfl
    · rw [if_neg h, bw_big h]
  rintro ⟨m, out, v, C⟩ ⟨h1, h2, ho⟩
  simp only at h1 h2 ho ⊢
  have hol : out.length ≤ 20 := by rw [h2, List.length_append, List.length_reverse] at hbl; omega
  (repeat' first|refine kW ?_|refine kU fun bk=>?_|refine kV fun hc=>?_|refine kZ (fun hc=>?_) fun hc=>?_|fail)
  · rw [if_neg (by omega)] at h2
    obtain ⟨q, hq⟩ : ∃ q, q = m - 1 := ⟨_, rfl⟩
    rw [← hq] at h2
    refine OW_EV (EV_ari (r := (m : Int) - 1) rfl rfl rfl) rfl ?_
    rw [show (m : Int) - 1 = (q : Int) from by omega, show IntKind.u64.wrap (q : Int) = (q : Int) from wrap_nat rfl (by simp only [IntKind.bits]; omega)]
    (repeat' first|refine kW ?_|refine kU fun bk=>?_|refine kV fun hc=>?_|refine kZ (fun hc=>?_) fun hc=>?_|fail)
    refine OW_EV (EV_remN (k := .u64) q 128 rfl rfl rfl rfl (by decide)) rfl ?_
    (repeat' first|refine kW ?_|refine kU fun bk=>?_|refine kV fun hc=>?_|refine kZ (fun hc=>?_) fun hc=>?_|fail)
    rw [show IntKind.u8.wrap ((q % 128 : Nat) : Int) = ((q % 128 : Nat) : Int) from wrap_nat rfl (by simp only [IntKind.bits]; omega)]
    refine OW_EV (EV_nor' (k := .u8) (q % 128) 1 7 rfl rfl rfl rfl rfl (by omega) (by simp only [IntKind.bits]; omega)) rfl ?_
    rw [show q % 128 + 1 * 2 ^ 7 = q % 128 + 128 from by omega, ← u8_nat (show q % 128 + 128 < 256 by omega)]
    (repeat' first|refine kW ?_|refine kU fun bk=>?_|refine kV fun hc=>?_|refine kZ (fun hc=>?_) fun hc=>?_|fail)
    refine OW_buildSlice (cs := [.int .u8 ((UInt8.ofNat (q % 128 + 128)).toNat : Int)]) rfl (by rfl) (by first | (simp [fillL, patch, Value.cells, zeros]; done) | (simp [fillL, patch, Value.cells, zeros]; rfl)) (by omega) rfl rfl (fun b2 => ?_)
    (repeat' first|refine kW ?_|refine kU fun bk=>?_|refine kV fun hc=>?_|refine kZ (fun hc=>?_) fun hc=>?_|fail)
    refine OW_append rfl rfl ho (sl_cells (k := 1) (c := #[.int .u8 ((UInt8.ofNat (q % 128 + 128)).toNat : Int)]) (xs := [.int .u8 ((UInt8.ofNat (q % 128 + 128)).toNat : Int)]) (m := 1) Fnd.here rfl (by simp)) (by repeat (first | exact Zip.here _ | apply Zip.there)) rfl (by rfl) (by omega) (by simp [maxLen]; omega) rfl (fun v' C' ho' _ _ => ?_)
    rw [← bsv_one, ← bsv_append] at ho'
    (repeat' first|refine kW ?_|refine kU fun bk=>?_|refine kV fun hc=>?_|refine kZ (fun hc=>?_) fun hc=>?_|fail)
    rw [show (q : Int) / 128 = ((q / 128 : Nat) : Int) from by omega]
    refine WQ_round (X := Nat × List UInt8 × Value × Chunk) (μ := fun x => x.1) (x := (m, out, v, C)) (q / 128, out ++ [UInt8.ofNat (q % 128 + 128)], v', C') (by simp only; omega) ⟨by simp only; omega, ?_, ?_⟩ iS (fun w h => iH h)
    · simp only [List.reverse_append, List.reverse_singleton]
      rw [h2]
      by_cases h : q / 128 = 0
      · rw [if_pos h, bwH_one (by omega), show q % 128 + 128 = q + 128 from by omega]; rfl
      · rw [if_neg h, bwH_more (m := q) (by omega), List.append_assoc]
    · simp only [List.length_append, List.length_singleton]
      exact ho'
  · obtain rfl : m = 0 := by omega
    rw [if_pos rfl, List.nil_append] at h2
    refine OW_call rfl rfl rfl (breverse_n v out C L ho (by omega)) rfl (fun r L' hp => ?_)
    obtain ⟨C', ho', rfl⟩ := hp
    rw [← h2] at ho'
    (repeat' first|refine kW ?_|refine kU fun bk=>?_|refine kV fun hc=>?_|refine kZ (fun hc=>?_) fun hc=>?_|fail)
    refine kR ?_
    exact ⟨_, iC, C', by rw [h2, List.length_reverse, ← h2]; exact ho', rfl⟩
end Go.Proofs.YtfbeigbkdkiliaaGreatDoor
namespace Go.Proofs.YtfbeigbkdkiliaaGreatDoor
open Go Go.Vx Go.Dl Go.Pk Go.If Go.Df
variable [W0]
set_option maxRecDepth 4000
set_option linter.all false
omit [W0] in
theorem hd_ex : hd 3 20 = [180, 1] := by
  show hT (3 % 8 * 16 + 20 % 16) (20 / 16) = _
  rw [hT_cons _ _ (by decide), hT_nil]; rfl
theorem bw_ex : bw 128 = [128, 0] := by
  rw [bw_big (by decide), bwH_one (by decide)]; rfl
def pk0 : List UInt8 := pkH 0 ++ shaN (pkH 0)
theorem pk0_len : pk0.length = 32 := by unfold pk0; rw [List.length_append, shaN_length]; rfl
theorem pk0_X : pX pk0 = ([], 12, 0) := by
  have h : pN pk0 = 0 := rfl
  unfold pX; rw [h]; rfl
theorem pk0_ok : pdE pk0 = 0 := by
  have hl := pk0_len
  have h1 : pgE pg8 pk0 = 0 := rfl
  have h2 : pN pk0 = 0 := rfl
  have h3 : (pk0.drop 12).take 20 = shaN (pkH 0) := by
    have e : pk0.drop 12 = shaN (pkH 0) := List.drop_left (l₁ := pkH 0)
    rw [e, List.take_of_length_le (by rw [shaN_length]; exact Nat.le_refl _)]
  have h4 : pk0.take 12 = pkH 0 := List.take_left (l₁ := pkH 0)
  unfold pdE
  rw [if_neg (by omega), h1, if_neg (by decide), if_neg (by omega), h2, if_neg (by decide), pk0_X, if_neg (by decide), if_neg (by simp only; omega)]
  simp only
  rw [h3, h4, if_neg (fun q => q rfl), if_neg (by omega)]
set_option maxHeartbeats 8000000 in
theorem awake11_n (L : List Chunk) (hor : OrAt L) (htb : TabAt L) : GvP Tryz.prog 4 [].toArray L (.bool true) := by
  refine Gv.of_body (args := []) Tryz.func4 rfl rfl ?_
  (repeat' first|refine kW ?_|refine kU fun bk=>?_|refine kV fun hc=>?_|refine kZ (fun hc=>?_) fun hc=>?_|fail)
  refine OW_call rfl rfl rfl (write_nil L) rfl (fun r L' hp => ?_)
  obtain ⟨C, o1, rfl⟩ := hp
  have hl := pk0_len
  replace o1 : Ow 5 1 r pk0.length (bsv pk0) C := by rw [hl]; exact o1
  obtain ⟨va, vc, rfl⟩ := ow_slc o1
  (repeat' first|refine kW ?_|refine kU fun bk=>?_|refine kV fun hc=>?_|refine kZ (fun hc=>?_) fun hc=>?_|fail)
  refine OW_call rfl rfl rfl (pread_n _ pk0 _ (Rs.ow o1) (by omega) hor.there htb.there) rfl (fun r L' hp => ?_)
  obtain ⟨l, R, D, hr, rfl⟩ := hp
  rcases hr with ⟨q, _⟩ | ⟨_, v, rfl, o2, _, hm, _⟩
  · exact absurd pk0_ok q
  rw [pk0_X] at hm ⊢
  obtain rfl : l = [] := by simpa using hm
  obtain ⟨qa, qc, rfl⟩ := ow_slc o2
  obtain ⟨xs, hxs⟩ : ∃ xs, xs = hexL (List.take 20 (List.drop 12 pk0)) := ⟨_, rfl⟩
  have hxl : xs.length = 40 := by rw [hxs, hexL_length, List.length_take, List.length_drop, hl]; rfl
  have hss : (str xs).size = 40 := by rw [str_size, hxl]
  simp only
  rw [← hxs]
  (repeat' first|refine kW ?_|refine kU fun bk=>?_|refine kV fun hc=>?_|refine kZ (fun hc=>?_) fun hc=>?_|fail)
  refine OW_call rfl rfl rfl (khead_n 3 20 _ (by decide) (by decide)) rfl (fun r L' hp => ?_)
  obtain ⟨C3, o3, rfl⟩ := hp
  rw [hd_ex] at o3
  (repeat' first|refine kW ?_|refine kU fun bk=>?_|refine kV fun hc=>?_|refine kZ (fun hc=>?_) fun hc=>?_|fail)
  refine OW_EV (EV_convStr (b := [180, 1]) rfl (by exact ow_sl o3)) rfl ?_
  (repeat' first|refine kW ?_|refine kU fun bk=>?_|refine kV fun hc=>?_|refine kZ (fun hc=>?_) fun hc=>?_|fail)
  refine OW_call rfl rfl rfl (kback_n 128 _ (by decide)) rfl (fun r L' hp => ?_)
  obtain ⟨C4, o4, rfl⟩ := hp
  rw [bw_ex] at o4
  (repeat' first|refine kW ?_|refine kU fun bk=>?_|refine kV fun hc=>?_|refine kZ (fun hc=>?_) fun hc=>?_|fail)
  refine OW_EV (EV_convStr (b := [128, 0]) rfl (by exact ow_sl o4)) rfl ?_
  (repeat' first|refine kW ?_|refine kU fun bk=>?_|refine kV fun hc=>?_|refine kZ (fun hc=>?_) fun hc=>?_|fail)
  rw [show decide ((⟨[128, 0].toArray⟩ : ByteArray) = ⟨#[128, 0]⟩) = true from decide_eq_true rfl]
  exact kE
end Go.Proofs.YtfbeigbkdkiliaaGreatDoor
namespace Go.Proofs.YtfbeigbkdkiliaaGreatDoor
open Go Go.Vx Go.ChangeShapes Go.WideShapes Go.ChangeAt Go.RowKit
set_option maxRecDepth 4000
set_option linter.all false
def tabZ : List Int := [0, 498536548, 997073096, 651767980, 1994146192, 1802195444, 1303535960, 1342533948, 3988292384, 4027552580, 3604390888, 3412177804, 2607071920, 2262029012, 2685067896, 3183342108]
theorem tabZ_eq {i : Nat} (h : i < 16) : tabZ.getD i 0 = ((tabL.getD i 0).toNat : Int) := by
  have : ∀ i : Fin 16, tabZ.getD i.val 0 = ((tabL.getD i.val 0).toNat : Int) := by decide
  exact this ⟨i, h⟩
end Go.Proofs.YtfbeigbkdkiliaaGreatDoor
namespace Go.Proofs.YtfbeigbkdkiliaaGreatDoor
open Go Go.Vx Go.ChangeShapes Go.WideShapes Go.ChangeAt Go.RowKit Go.Lib
set_option maxRecDepth 100000
set_option linter.all false
def laid11 : List (String × DataW Unit) := [("math/bits.deBruijn32tab", Rows.laid_math_bits_deBruijn32tab), ("math/bits.deBruijn64tab", Rows.laid_math_bits_deBruijn64tab), ("internal/strconv.uint64pow10", Rows.laid_internal_strconv_uint64pow10), ("stemma/symbols.order", Rows.laid_stemma_symbols_order), ("stemma/sum.afterHalf", Rows.laid_stemma_sum_afterHalf)]
def nums (k : IntKind) : List (DataW Unit) → List Value
  | [] => []
  | .lit (.int _ z) :: r => .int k z :: nums k r
  | .agg [.lit (.int _ z), .lit (.int _ y)] :: r => .int k z :: .int k y :: nums k r
  | _ :: r => nums k r
def parts : DataW Unit → List (DataW Unit)
  | .agg l => l
  | _ => []
def tab32 : List Value := nums .u8 (parts Rows.laid_math_bits_deBruijn32tab)
def tab64 : List Value := nums .u8 (parts Rows.laid_math_bits_deBruijn64tab)
def tab10 : List Value := nums .u64 (parts Rows.laid_internal_strconv_uint64pow10)
def tabOr : List Value := nums .i64 (parts Rows.laid_stemma_symbols_order)
def tabHf : List Value := nums .u32 (parts Rows.laid_stemma_sum_afterHalf)
def ordZ : List Int := [16, 17, 18, 0, 8, 7, 9, 6, 10, 5, 11, 4, 12, 3, 13, 2, 14, 1, 15]
theorem ordZ_eq {i : Nat} (h : i < 19) : ordZ.getD i 0 = ((Go.If.ordL.getD i 0 : Nat) : Int) := by
  have : ∀ i : Fin 19, ordZ.getD i.val 0 = ((Go.If.ordL.getD i.val 0 : Nat) : Int) := by decide
  exact this ⟨i, h⟩
theorem ord_eq : Rows.laid_stemma_symbols_order (H := Unit) = tabData .i64 ordZ := by kernel_rfl
theorem hf_eq : Rows.laid_stemma_sum_afterHalf (H := Unit) = tabData .u32 tabZ := by kernel_rfl
theorem met_plain {W : World} (h : laidMetH Tryz.prog laid11 W) : laidMet Tryz.prog laid11 W := by
  have e : laid11.filter (fun x => x.2.handleName?.isSome) = [] := by kernel_rfl
  unfold laidMetH at h
  rw [e] at h
  exact h
theorem or_met {W : World} (hL : laidMetH Tryz.prog laid11 W) : OrAt [blks W] := by
  letI : W0 := ⟨W.os, W.output⟩
  obtain ⟨ps, hv, _⟩ := met_plain hL
  have r5 := LaidVars_reads hv "stemma/symbols.order" Rows.laid_stemma_symbols_order (by simp [laid11])
  rw [ord_eq] at r5
  have hg : Tryz.prog.globalNamed "stemma/symbols.order" = some 5 := by kernel_rfl
  have ht : TabIs Tryz.prog W "stemma/symbols.order" .i64 ordZ := by
    obtain ⟨g', t', cs, fuel, p, hg', ht', hvar, hd⟩ := r5
    obtain rfl := Option.some.inj (hg.symm.trans hg')
    obtain rfl := Option.some.inj ((show (Tryz.prog.globals[5]?).map (·.type) = some 362 by kernel_rfl).symm.trans ht')
    unfold TabIs
    rw [hvar, ← cells_of_tab Tryz.underlying362 Tryz.underlying3 (by kernel_rfl) (by kernel_rfl) hd]
  have hc0 := ht.cell hg 0 (by decide)
  have hblk : ∃ C T fr, W.heap[5]? = some (.cells C T fr) := by
    unfold World.cell? at hc0
    split at hc0
    · rename_i C T fr hb; exact ⟨C, T, fr, hb⟩
    · cases hc0
  obtain ⟨C, T, fr, hb⟩ := hblk
  refine ⟨C, T, fr, by simpa [Fnd] using blks_mem.2 hb, fun i hi => ?_⟩
  have := ht.cell hg i hi
  rw [cell_of hb] at this
  rw [this, ordZ_eq hi]
theorem hf_met {W : World} (hL : laidMetH Tryz.prog laid11 W) : TabAt [blks W] := by
  letI : W0 := ⟨W.os, W.output⟩
  obtain ⟨ps, hv, _⟩ := met_plain hL
  have r5 := LaidVars_reads hv "stemma/sum.afterHalf" Rows.laid_stemma_sum_afterHalf (by simp [laid11])
  rw [hf_eq] at r5
  have hg : Tryz.prog.globalNamed "stemma/sum.afterHalf" = some 1 := by kernel_rfl
  have ht : TabIs Tryz.prog W "stemma/sum.afterHalf" .u32 tabZ := by
    obtain ⟨g', t', cs, fuel, p, hg', ht', hvar, hd⟩ := r5
    obtain rfl := Option.some.inj (hg.symm.trans hg')
    obtain rfl := Option.some.inj ((show (Tryz.prog.globals[1]?).map (·.type) = some 216 by kernel_rfl).symm.trans ht')
    unfold TabIs
    rw [hvar, ← cells_of_tab Tryz.underlying216 Tryz.underlying39 (by kernel_rfl) (by kernel_rfl) hd]
  have hc0 := ht.cell hg 0 (by decide)
  have hblk : ∃ C T fr, W.heap[1]? = some (.cells C T fr) := by
    unfold World.cell? at hc0
    split at hc0
    · rename_i C T fr hb; exact ⟨C, T, fr, hb⟩
    · cases hc0
  obtain ⟨C, T, fr, hb⟩ := hblk
  refine ⟨C, T, fr, by simpa [Fnd] using blks_mem.2 hb, fun i hi => ?_⟩
  have := ht.cell hg i hi
  rw [cell_of hb] at this
  rw [this, tabZ_eq hi]
end Go.Proofs.YtfbeigbkdkiliaaGreatDoor
namespace Go.Proofs.YtfbeigbkdkiliaaGreatDoor
open Go Go.Vx Go.Dl Go.Pk
variable [W0]
set_option maxRecDepth 4000
set_option linter.all false
set_option maxHeartbeats 4000000 in
theorem refhead_n (k : Nat) (n : Int) (L : List Chunk) (hk : k ≤ 1000) (hn : n ≤ 9223372036854775807) :
    Gv Tryz.prog 7 [.int .i64 (k : Int), .int .i64 n].toArray L (fun r L' => ∃ C, L' = C :: L ∧ Ow 5 1 r (hd k n.toNat).length (bsv (hd k n.toNat)) C) := by
  refine Gv.of_body (args := [.int .i64 (k : Int), .int .i64 n]) Tryz.func7 rfl rfl ?_
  obtain ⟨N, hN⟩ : ∃ N, N = n.toNat := ⟨_, rfl⟩
  rw [← hN]
  have hN2 : max n 0 = (N : Int) := by omega
  have hN3 : N ≤ 9223372036854775807 := by omega
  have hNl : (hd k N).length ≤ 12 := Nat.le_trans (hT_len 9 _ (N / 16) (by omega)) (by decide)
  (repeat' first|refine kW ?_|refine kU fun bk=>?_|refine kV fun hc=>?_|refine kZ (fun hc=>?_) fun hc=>?_|fail)
  rw [hN2]
  refine OW_EV (EV_mask (p := 8) rfl rfl (by rfl)) rfl ?_
  rw [show ((k : Int) % 8) = ((k % 8 : Nat) : Int) from by omega]
  (repeat' first|refine kW ?_|refine kU fun bk=>?_|refine kV fun hc=>?_|refine kZ (fun hc=>?_) fun hc=>?_|fail)
  rw [show IntKind.u8.wrap ((k % 8 : Nat) : Int) = ((k % 8 : Nat) : Int) from wrap_nat rfl (by simp only [IntKind.bits]; omega)]
  refine OW_EV (EV_nshl (k := .u8) (k % 8) 4 rfl rfl rfl rfl rfl (by simp only [IntKind.bits]; omega)) rfl ?_
  (repeat' first|refine kW ?_|refine kU fun bk=>?_|refine kV fun hc=>?_|refine kZ (fun hc=>?_) fun hc=>?_|fail)
  refine OW_EV (EV_mask (p := 16) rfl rfl (by rfl)) rfl ?_
  rw [show ((N : Int) % 16) = ((N % 16 : Nat) : Int) from by omega]
  (repeat' first|refine kW ?_|refine kU fun bk=>?_|refine kV fun hc=>?_|refine kZ (fun hc=>?_) fun hc=>?_|fail)
  rw [show IntKind.u8.wrap ((N % 16 : Nat) : Int) = ((N % 16 : Nat) : Int) from wrap_nat rfl (by simp only [IntKind.bits]; omega)]
  refine OW_EV (EV_nor' (k := .u8) (N % 16) (k % 8) 4 rfl rfl rfl rfl rfl (by omega) (by simp only [IntKind.bits]; omega)) rfl ?_
  (repeat' first|refine kW ?_|refine kU fun bk=>?_|refine kV fun hc=>?_|refine kZ (fun hc=>?_) fun hc=>?_|fail)
  rw [show ((N : Int) / 16) = ((N / 16 : Nat) : Int) from by omega]
  refine WC_loop (X := Nat × Nat × List UInt8 × Value × Chunk) (fun x => [(5, .int .i64 (x.1 : Int)), (6, .int .u8 (x.2.1 : Int)), (7, x.2.2.2.1)]) (fun x => x.2.2.2.2 :: L)
    (fun x => x.1 ≤ 9223372036854775807 ∧ x.2.1 < 128 ∧ hd k N = x.2.2.1 ++ hT x.2.1 x.1 ∧ Ow 5 1 x.2.2.2.1 x.2.2.1.length (bsv x.2.2.1) x.2.2.2.2) (fun x => x.1) (N / 16, N % 16 + k % 8 * 2 ^ 4, [], .slice none 0 0, [])
    ⟨by simp only; omega, by simp only; omega, by simp only [List.nil_append]; unfold hd; congr 1; omega, .inl ⟨rfl, rfl, rfl, rfl⟩⟩ iS (fun w h => Holds.nil.2 h) ?_
  rintro ⟨m, c, pre, v, C⟩ ⟨h1, h2, h3, ho⟩
  simp only at h1 h2 h3 ho ⊢
  have hpl : pre.length ≤ 12 := by rw [h3, List.length_append] at hNl; omega
  (repeat' first|refine kW ?_|refine kU fun bk=>?_|refine kV fun hc=>?_|refine kZ (fun hc=>?_) fun hc=>?_|fail)
  · refine OW_EV (EV_nor (k := .u8) c 1 7 rfl rfl rfl rfl rfl (by omega) (by simp only [IntKind.bits]; omega)) rfl ?_
    have h128 : c + 1 * 2 ^ 7 = (UInt8.ofNat (c + 128)).toNat := by simp; omega
    rw [h128]
    rw [hT_cons c m (by omega)] at h3
    (repeat' first|refine kW ?_|refine kU fun bk=>?_|refine kV fun hc=>?_|refine kZ (fun hc=>?_) fun hc=>?_|fail)
    refine OW_buildSlice (cs := [.int .u8 ((UInt8.ofNat (c + 128)).toNat : Int)]) rfl (by rfl) (by first | (simp [fillL, patch, Value.cells, zeros]; done) | (simp [fillL, patch, Value.cells, zeros]; rfl)) (by omega) rfl rfl (fun bn => ?_)
    (repeat' first|refine kW ?_|refine kU fun bk=>?_|refine kV fun hc=>?_|refine kZ (fun hc=>?_) fun hc=>?_|fail)
    refine OW_append rfl rfl ho (sl_cells (k := 1) (c := #[.int .u8 ((UInt8.ofNat (c + 128)).toNat : Int)]) (xs := [.int .u8 ((UInt8.ofNat (c + 128)).toNat : Int)]) (m := 1) Fnd.here rfl (by simp)) (by repeat (first | exact Zip.here _ | apply Zip.there)) rfl (by rfl) (by omega) (by simp [maxLen]; omega) rfl (fun v' C' ho' _ _ => ?_)
    rw [← bsv_snoc] at ho'
    (repeat' first|refine kW ?_|refine kU fun bk=>?_|refine kV fun hc=>?_|refine kZ (fun hc=>?_) fun hc=>?_|fail)
    refine OW_EV (EV_mask (p := 128) rfl rfl (by rfl)) rfl ?_
    rw [show ((m : Int) % 128) = ((m % 128 : Nat) : Int) from by omega]
    (repeat' first|refine kW ?_|refine kU fun bk=>?_|refine kV fun hc=>?_|refine kZ (fun hc=>?_) fun hc=>?_|fail)
    rw [show IntKind.u8.wrap ((m % 128 : Nat) : Int) = ((m % 128 : Nat) : Int) from wrap_nat rfl (by simp only [IntKind.bits]; omega)]
    rw [show ((m : Int) / 128) = ((m / 128 : Nat) : Int) from by omega]
    refine WQ_round (X := Nat × Nat × List UInt8 × Value × Chunk) (μ := fun x => x.1) (x := (m, c, pre, v, C)) (m / 128, m % 128, pre ++ [UInt8.ofNat (c + 128)], v', C') (by simp only; omega) ⟨by simp only; omega, by simp only; omega, ?_, ?_⟩ iS (fun w h => iH h)
    · simp only
      rw [h3, List.append_assoc]; rfl
    · simp only
      rw [List.length_append]; exact ho'
  · obtain rfl : m = 0 := by omega
    rw [hT_nil] at h3
    have hc8 : (c : Int) = ((UInt8.ofNat c).toNat : Int) := by simp; omega
    rw [hc8]
    refine OW_buildSlice (cs := [.int .u8 ((UInt8.ofNat c).toNat : Int)]) rfl (by rfl) (by first | (simp [fillL, patch, Value.cells, zeros]; done) | (simp [fillL, patch, Value.cells, zeros]; rfl)) (by omega) rfl rfl (fun bn => ?_)
    (repeat' first|refine kW ?_|refine kU fun bk=>?_|refine kV fun hc=>?_|refine kZ (fun hc=>?_) fun hc=>?_|fail)
    refine OW_append rfl rfl ho (sl_cells (k := 1) (c := #[.int .u8 ((UInt8.ofNat c).toNat : Int)]) (xs := [.int .u8 ((UInt8.ofNat c).toNat : Int)]) (m := 1) Fnd.here rfl (by simp)) (by repeat (first | exact Zip.here _ | apply Zip.there)) rfl (by rfl) (by omega) (by simp [maxLen]; omega) rfl (fun v' C' ho' _ _ => ?_)
    rw [← bsv_snoc, ← h3] at ho'
    (repeat' first|refine kW ?_|refine kU fun bk=>?_|refine kV fun hc=>?_|refine kZ (fun hc=>?_) fun hc=>?_|fail)
    refine kR ?_
    refine ⟨_, iC, C', rfl, ?_⟩
    rw [h3, List.length_append]
    rw [h3] at ho'
    exact ho'
end Go.Proofs.YtfbeigbkdkiliaaGreatDoor
namespace Go.Pk
set_option linter.all false
theorem bw_hi (n : Nat) (hn : n ≤ 1073741824) (i : Nat) (h : i < (bw n).length) : 128 ≤ ((bw n)[i]).toNat ↔ i + 1 < (bw n).length := by
  by_cases h0 : n < 128
  · have e : bw n = [UInt8.ofNat n] := by unfold bw; rw [if_pos h0]
    have hl : (bw n).length = 1 := by rw [e]; rfl
    have hi : i = 0 := by omega
    subst hi
    have hx : (bw n)[0] = UInt8.ofNat n := by simp [e]
    rw [hx, hl]
    have : (UInt8.ofNat n).toNat = n := by simp; omega
    omega
  · have e : bw n = bwH (n / 128 - 1) ++ [UInt8.ofNat (n % 128)] := by unfold bw; rw [if_neg h0]
    have ha := (bwH_all 4 (n / 128 - 1) (by omega)).1
    have hl : (bw n).length = (bwH (n / 128 - 1)).length + 1 := by rw [e]; simp
    by_cases h1 : i < (bwH (n / 128 - 1)).length
    · have hx : (bw n)[i] = (bwH (n / 128 - 1))[i] := by simp [e, List.getElem_append_left h1]
      have := ha _ (List.getElem_mem h1)
      rw [hx]; omega
    · have hi : i = (bwH (n / 128 - 1)).length := by omega
      subst hi
      have hx : (bw n)[(bwH (n / 128 - 1)).length] = UInt8.ofNat (n % 128) := by simp [e]
      have : (UInt8.ofNat (n % 128)).toNat = n % 128 := by simp; omega
      rw [hx]; omega
theorem tk_ne {g : List UInt8} {i : Nat} (h0 : i ≠ 0) (h : i < g.length) : g.take i ≠ [] := fun q => by
  rcases List.take_eq_nil_iff.1 q with q | q
  · exact h0 q
  · rw [q] at h; simp at h
theorem poV_take {g : List UInt8} {i : Nat} (h : i < g.length) : poV (g.take (i + 1)) = (if i = 0 then 0 else (poV (g.take i) + 1) * 128) + (g[i]).toNat % 128 := by
  by_cases h0 : i = 0
  · subst h0
    cases g with
    | nil => simp at h
    | cons c g => show c.toNat % 128 = _; simp
  · rw [if_neg h0, List.take_add_one, List.getElem?_eq_getElem h]
    show poV (g.take i ++ [g[i]]) = _
    rw [poV_snoc _ _ (tk_ne h0 h)]
theorem poV_lt (g : List UInt8) (h : g ≠ []) : poV g + 2 ≤ 2 ^ (8 * g.length) := by
  cases g with
  | nil => exact absurd rfl h
  | cons c g => exact poF_lt (c.toNat % 128) (by omega) g
end Go.Pk
namespace Go.Proofs.YtfbeigbkdkiliaaGreatDoor
open Go Go.Vx Go.Dl Go.Pk Go.If Go.Df
variable [W0]
set_option maxRecDepth 4000
set_option linter.all false
set_option maxHeartbeats 16000000 in
theorem packheads_n (k s n : Int) (L : List Chunk) (hor : OrAt L) (htb : TabAt L) :
    GvP Tryz.prog 3 [.int .i64 k, .int .i64 s, .int .i64 n].toArray L (.bool true) := by
  refine Gv.of_body (args := [.int .i64 k, .int .i64 s, .int .i64 n]) Tryz.func3 rfl rfl ?_
  by_cases hbad : k < 1 ∨ k > 7 ∨ s < 0 ∨ s > 2147483647 ∨ n < 1 ∨ n > 1073741824
  · ((repeat' first|refine kW ?_|refine kU fun bk=>?_|refine kV fun hc=>?_|refine kZ (fun hc=>?_) fun hc=>?_|fail) <;> try exact absurd trivial hc)
    all_goals
      refine OW_callP rfl rfl rfl (awake11_n _ hor htb) rfl ?_
      ((repeat' first|refine kW ?_|refine kU fun bk=>?_|refine kV fun hc=>?_|refine kZ (fun hc=>?_) fun hc=>?_|fail) <;> try exact absurd trivial hc)
      exact kE
  obtain ⟨K, rfl⟩ : ∃ K : Nat, k = (K : Int) := ⟨k.toNat, by omega⟩
  obtain ⟨S, rfl⟩ : ∃ S : Nat, s = (S : Int) := ⟨s.toNat, by omega⟩
  obtain ⟨N, rfl⟩ : ∃ N : Nat, n = (N : Int) := ⟨n.toNat, by omega⟩
  have hN : N ≤ 1073741824 := by omega
  have hb := bw_read N [] hN
  have hbp := bw_pos N
  have hhi := bw_hi N hN
  obtain ⟨g, hg⟩ : ∃ g, g = bw N := ⟨_, rfl⟩
  ((repeat' first|refine kW ?_|refine kU fun bk=>?_|refine kV fun hc=>?_|refine kZ (fun hc=>?_) fun hc=>?_|fail) <;> try exact absurd trivial hc)
  refine OW_call rfl rfl rfl (kback_n N _ (by omega)) rfl (fun r L' hp => ?_)
  obtain ⟨C, o1, rfl⟩ := hp
  simp only [← hg] at hb hbp hhi o1
  obtain ⟨va, vc, rfl⟩ := ow_slc o1
  ((repeat' first|refine kW ?_|refine kU fun bk=>?_|refine kV fun hc=>?_|refine kZ (fun hc=>?_) fun hc=>?_|fail) <;> try exact absurd trivial hc)
  refine WC_loop (X := Nat) (fun i => [(0, .int .i64 (K : Int)), (1, .int .i64 (S : Int)), (2, .int .i64 (N : Int)), (7, .slice va g.length vc), (8, .int .i64 ((if i = 0 then 0 else poV (g.take i) : Nat) : Int)), (9, .int .i64 (i : Int))]) (fun _ => C :: L)
    (fun i => i ≤ g.length) (fun i => g.length - i) 0 (Nat.zero_le _) iS (fun w h => h) ?_
  intro i hi
  have hi : i ≤ g.length := hi
  by_cases hlt : i < g.length
  · obtain ⟨bb, off, cap, cc, T, fr, hve, hfn, hcell⟩ := sl_at (ow_sl (L := L) o1) (bsv_get hlt)
    injection hve with q1 q2 q3
    subst q1 q3
    clear q2
    have hh := hhi i hlt
    have hpt := poV_take hlt
    have hx8 := (g[i]).toNat_lt
    have hbnd : (if i = 0 then 0 else poV (g.take i)) ≤ 1099511627776 := by
      by_cases h0 : i = 0
      · rw [if_pos h0]; omega
      · rw [if_neg h0]
        have h1 := poV_lt (g.take i) (tk_ne h0 hlt)
        have h2 : 2 ^ (8 * (g.take i).length) ≤ 2 ^ 40 := Nat.pow_le_pow_right (by decide) (by rw [List.length_take]; omega)
        omega
    obtain ⟨V, hV⟩ : ∃ V, V = if i = 0 then 0 else poV (g.take i) := ⟨_, rfl⟩
    rw [← hV] at hbnd ⊢
    have hne : decide (((g[i]).toNat : Int) ≥ 128) = decide ((i : Int) + 1 < (g.length : Int)) := by
      rw [decide_eq_decide]; omega
    ((repeat' first|refine kW ?_|refine kU fun bk=>?_|refine kV fun hc=>?_|refine kZ (fun hc=>?_) fun hc=>?_|fail) <;> try exact absurd trivial hc)
    refine OW_EV (EV_indexAddr (j := i) rfl rfl rfl hlt) rfl ?_
    ((repeat' first|refine kW ?_|refine kU fun bk=>?_|refine kV fun hc=>?_|refine kZ (fun hc=>?_) fun hc=>?_|fail) <;> try exact absurd trivial hc)
    refine OW_EV (EV_load rfl hfn hcell) rfl ?_
    by_cases h0 : i = 0
    · subst h0
      rw [if_pos rfl] at hV hpt
      rw [Nat.zero_add] at hpt
      subst hV
      ((repeat' first|refine kW ?_|refine kU fun bk=>?_|refine kV fun hc=>?_|refine kZ (fun hc=>?_) fun hc=>?_|fail) <;> try exact absurd trivial hc)
      · exact absurd hne (by assumption)
      refine OW_EV (EV_indexAddr (j := 0) rfl rfl rfl hlt) rfl ?_
      ((repeat' first|refine kW ?_|refine kU fun bk=>?_|refine kV fun hc=>?_|refine kZ (fun hc=>?_) fun hc=>?_|fail) <;> try exact absurd trivial hc)
      refine OW_EV (EV_load rfl hfn hcell) rfl ?_
      ((repeat' first|refine kW ?_|refine kU fun bk=>?_|refine kV fun hc=>?_|refine kZ (fun hc=>?_) fun hc=>?_|fail) <;> try exact absurd trivial hc)
      refine OW_EV (EV_nand (k := .u8) (g[0]).toNat 7 rfl rfl rfl rfl rfl (by simp only [IntKind.bits]; omega) (by simp only [IntKind.bits]; omega)) rfl ?_
      ((repeat' first|refine kW ?_|refine kU fun bk=>?_|refine kV fun hc=>?_|refine kZ (fun hc=>?_) fun hc=>?_|fail) <;> try exact absurd trivial hc)
      rw [← Int.natCast_add, Nat.zero_add, show (g[0]).toNat % 2 ^ 7 = (if (0 + 1 : Nat) = 0 then 0 else poV (g.take (0 + 1))) from by rw [if_neg (by decide), hpt, Nat.zero_add]]
      refine WQ_round (X := Nat) (μ := fun i => g.length - i) (x := 0) (0 + 1) (by omega) (by omega) iS (fun w h => h)
    · rw [if_neg h0] at hV hpt
      rw [← hV] at hpt
      ((repeat' first|refine kW ?_|refine kU fun bk=>?_|refine kV fun hc=>?_|refine kZ (fun hc=>?_) fun hc=>?_|fail) <;> try exact absurd trivial hc)
      · exact absurd hne (by assumption)
      refine OW_EV (EV_indexAddr (j := i) rfl rfl rfl hlt) rfl ?_
      ((repeat' first|refine kW ?_|refine kU fun bk=>?_|refine kV fun hc=>?_|refine kZ (fun hc=>?_) fun hc=>?_|fail) <;> try exact absurd trivial hc)
      refine OW_EV (EV_load rfl hfn hcell) rfl ?_
      ((repeat' first|refine kW ?_|refine kU fun bk=>?_|refine kV fun hc=>?_|refine kZ (fun hc=>?_) fun hc=>?_|fail) <;> try exact absurd trivial hc)
      refine OW_EV (EV_nand (k := .u8) (g[i]).toNat 7 rfl rfl rfl rfl rfl (by simp only [IntKind.bits]; omega) (by simp only [IntKind.bits]; omega)) rfl ?_
      ((repeat' first|refine kW ?_|refine kU fun bk=>?_|refine kV fun hc=>?_|refine kZ (fun hc=>?_) fun hc=>?_|fail) <;> try exact absurd trivial hc)
      rw [show ((V : Int) + 1) * 128 + (((g[i]).toNat % 2 ^ 7 : Nat) : Int) = ((if (i + 1 : Nat) = 0 then 0 else poV (g.take (i + 1)) : Nat) : Int) from by rw [if_neg (by omega), hpt]; omega]
      refine WQ_round (X := Nat) (μ := fun i => g.length - i) (x := i) (i + 1) (by omega) (by omega) iS (fun w h => h)
  obtain rfl : i = g.length := by omega
  rw [if_neg (show ¬ g.length = 0 by omega), List.take_length, hb.2.2]
  have hhl : (hd K S).length ≤ 12 := Nat.le_trans (hT_len 9 _ (S / 16) (by omega)) (by decide)
  ((repeat' first|refine kW ?_|refine kU fun bk=>?_|refine kV fun hc=>?_|refine kZ (fun hc=>?_) fun hc=>?_|fail) <;> try exact absurd trivial hc)
  refine WC_drawAll [] mixed ?_
  (refine WR_t 0 ?_; refine WR_t 1 ?_; refine WR_t 4 ?_; refine WR_t 5 ?_)
  (refine WR_one 2 (by kernel_rfl) rfl rfl ?_)
  refine OW_call rfl rfl rfl (khead_n K S _ (by omega) (by omega)) rfl (fun r L' hp => ?_)
  obtain ⟨C2, o2, rfl⟩ := hp
  refine ⟨iC, ?_⟩
  refine WR_more (C2 :: C :: L) iC ?_
  (refine WR_take 3 rfl rfl (by kernel_rfl) iP iC (EV_convStr (b := hd K S) rfl (by exact ow_sl o2)) (by rfl) ?_)
  (refine WR_one 6 (by kernel_rfl) rfl rfl ?_)
  refine OW_call rfl rfl rfl (refhead_n K (S : Int) _ (by omega) (by omega)) rfl (fun r2 L' hp => ?_)
  obtain ⟨C3, rfl, o3⟩ := hp
  rw [Int.toNat_natCast] at o3
  refine ⟨iC, ?_⟩
  refine WR_more (C3 :: C2 :: C :: L) iC ?_
  (refine WR_take 7 rfl rfl (by kernel_rfl) iP iC (EV_convStr (b := hd K S) rfl (by exact ow_sl o3)) (by rfl) ?_)
  (refine WR_t 8 ?_)
  rw [show decide ((⟨(hd K S).toArray⟩ : ByteArray) = ⟨(hd K S).toArray⟩) = true from decide_eq_true rfl]
  (refine WR_t 9 ?_)
  (refine WR_u 10 ?_; refine WR_u 11 ?_; refine WR_u 12 ?_)
  rw [show ((N : Int) == (N : Int)) = true from by simp]
  (refine WR_t 13 ?_; refine WR_t 14 ?_)
  (refine WR_u 15 ?_; refine WR_u 16 ?_; refine WR_u 17 ?_)
  rw [show decide ((g.length : Int) ≤ 5) = true from decide_eq_true (by omega)]
  (refine WR_t 18 ?_; refine WR_t 19 ?_)
  (refine WR_oneOn 20 (by kernel_rfl) rfl rfl rfl ?_)
  refine OW_callP rfl rfl rfl (awake11_n _ hor.there.there.there htb.there.there.there) rfl ?_
  refine ⟨iC, ?_⟩
  (refine WR_t 21 ?_; refine WR_t 22 ?_)
  (refine WR_done (by kernel_rfl) ?_)
  ((repeat' first|refine kW ?_|refine kU fun bk=>?_|refine kV fun hc=>?_|refine kZ (fun hc=>?_) fun hc=>?_|fail) <;> try exact absurd trivial hc)
  exact kE
end Go.Proofs.YtfbeigbkdkiliaaGreatDoor
namespace Go.Proofs.YtfbeigbkdkiliaaGreatDoor
open Go Go.Vx Go.ChangeShapes Go.WideShapes Go.ChangeAt Go.RowKit
set_option linter.all false
set_option maxRecDepth 4000
end Go.Proofs.YtfbeigbkdkiliaaGreatDoor
