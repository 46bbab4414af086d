/- Maps whose keys are three bytes: making, look-up, update; a slice's beginning as an array. It proves no statement by itself. No conditions. -/
import Derived.Test.YtckelgpocplplaaWd
import Derived.WideKeyArr
namespace Go.Vx
open Go Go.WideMaps
variable [W0]
set_option linter.all false

omit [W0] in
/-- Three bytes as a key. -/
def kv3 (l : List UInt8) : Value := .agg (bsv l).toArray
omit [W0] in
class KA (P : Program) (k : Nat) (e : outParam Nat) : Prop where
  arr : ArrKey P k e 3
  byte : P.underlying e = some (.int .u8)
  pos : ∃ m, P.types.size = m + 1
omit [W0] in
theorem bsv_inj : ∀ {a b : List UInt8}, bsv a = bsv b → a = b
  | [], [], _ => rfl
  | [], _ :: _, h => by simp [bsv] at h
  | _ :: _, [], h => by simp [bsv] at h
  | x :: a, y :: b, h => by
    simp only [bsv, List.map_cons, List.cons.injEq, Value.int.injEq, true_and] at h
    have h1 : x.toNat = y.toNat := by omega
    rw [UInt8.toNat_inj.1 h1, bsv_inj h.2]
omit [W0] in
theorem kv3_inj {a b : List UInt8} (h : kv3 a = kv3 b) : a = b := by
  unfold kv3 at h
  simp only [Value.agg.injEq] at h
  exact bsv_inj (by simpa using congrArg Array.toList h)
omit [W0] in
theorem byte_wf (x : UInt8) : (Lit.int .u8 (x.toNat : Int)).wf = true := by
  have := x.toNat_lt
  simp [Lit.wf, IntKind.wrap, IntKind.bits, IntKind.signed, IntKind.min, IntKind.max]
  omega
omit [W0] in
theorem KA.key {P : Program} {k e : Nat} (h : KA P k e) {l : List UInt8} (hl : l.length = 3) : ∃ q, keyOf P k (kv3 l) = some q := by
  match l, hl with
  | [a, b, c], _ =>
    obtain ⟨m, hm⟩ := h.pos
    have hk := h.arr.keyType ⟨m, hm⟩
    have h1 : ∀ (x : UInt8) (D : Nat), P.keyLits (D + 1) e [.int .u8 (x.toNat : Int)] = some [.int .u8 (x.toNat : Int)] := fun x D => by
      unfold Program.keyLits
      rw [h.byte]
      simp only [byte_wf, and_self, if_true]
    have h2 : P.keyLits (P.types.size + 1) k [.int .u8 (a.toNat : Int), .int .u8 (b.toNat : Int), .int .u8 (c.toNat : Int)] = some [.int .u8 (a.toNat : Int), .int .u8 (b.toNat : Int), .int .u8 (c.toNat : Int)] := by
      rw [hm]
      unfold Program.keyLits
      rw [h.arr.hu]
      simp only [h.arr.size, h.arr.one]
      rw [if_pos (by rfl)]
      simp only [List.range_succ, List.range_zero, List.nil_append, List.cons_append, List.mapM_cons, List.mapM_nil, List.drop, List.take, Nat.zero_mul, Nat.one_mul, Nat.mul_one, h1]
      rfl
    unfold keyOf
    rw [h.arr.hu]
    have hf : (kv3 [a, b, c]).formed P k = true := by
      unfold kv3 Value.formed
      simp only [h.arr.hu, h.arr.size]
      rfl
    have hc : (kv3 [a, b, c]).cells.toList = [.int .u8 (a.toNat : Int), .int .u8 (b.toNat : Int), .int .u8 (c.toNat : Int)] := by simp [kv3, bsv, Value.cells]
    simp only [hk, hf, hc, h2, Bool.and_self, if_true, Option.map_some]
    exact ⟨_, rfl⟩

omit [W0] in
/-- What a map's block holds. -/
structure MpR (es : Array MapEntry) (g : List UInt8 → Option Nat) : Prop where
  ent : ∀ e ∈ es.toList, ∃ l m, l.length = 3 ∧ e.key = kv3 l ∧ e.val = .int .i64 ((m : Nat) : Int) ∧ g l = some m
  has : ∀ l m, l.length = 3 → g l = some m → ∃ e ∈ es.toList, e.key = kv3 l
  one : ∀ (i j : Nat) (e f : MapEntry), es[i]? = some e → es[j]? = some f → e.key = f.key → i = j
omit [W0] in
theorem MpR.nil : MpR #[] (fun _ => none) := ⟨fun e h => by simp at h, fun l m _ h => by simp at h, fun i j e f h => by simp at h⟩
omit [W0] in
def ups (g : List UInt8 → Option Nat) (l : List UInt8) (m : Nat) : List UInt8 → Option Nat := fun q => if q = l then some m else g q
omit [W0] in
theorem MpR.find {P : Program} {k e : Nat} (hk : KA P k e) {es : Array MapEntry} {g : List UInt8 → Option Nat} (h : MpR es g) {l : List UInt8} (hl : l.length = 3) (w : World) :
    (g l = none ∧ (Instr.findKey k (kv3 l) es.toList).run P w = .ok none w ∧ ∀ x ∈ es.toList, x.key ≠ kv3 l) ∨
    ∃ m j x, g l = some m ∧ (Instr.findKey k (kv3 l) es.toList).run P w = .ok (some (j, .int .i64 ((m : Nat) : Int))) w ∧ es[j]? = some x ∧ x.key = kv3 l := by
  obtain ⟨q, hq⟩ := hk.key hl
  have hall : ∀ x ∈ es.toList, ∃ y, keyOf P k x.key = some y := fun x hx => by
    obtain ⟨l', m', h1, h2, _⟩ := h.ent x hx
    rw [h2]
    exact hk.key h1
  rcases hk.arr.law.find w hq es.toList hall with ⟨h1, h2⟩ | ⟨j, x, h1, h2, h3⟩
  · left
    refine ⟨?_, h1, h2⟩
    cases hg : g l with
    | none => rfl
    | some m =>
      obtain ⟨x, hx, hxk⟩ := h.has l m hl hg
      exact absurd hxk (h2 x hx)
  · right
    have hx : x ∈ es.toList := List.mem_of_getElem? h2
    obtain ⟨l', m, g1, g2, g3, g4⟩ := h.ent x hx
    rw [h3] at g2
    have e := kv3_inj g2
    subst e
    exact ⟨m, j, x, g4, by rw [h1, g3], by simpa using h2, h3⟩

section
variable {P : Program} {n : Nat} {Q : Exit → Act → World → Prop} {M : List (Nat × Value)} {L : List Chunk} {K : List (Nat × Value) → List Chunk → Prop}
variable {d : Nat} {ty : TypeId} {ps : String} {af : Array Edge} {g : Option (Nat × Bool)} {x y z : Operand} {v : Value}

theorem OW_makeMap {t : Nat} (hn : Nat.blt d n = true) (h : ∀ b, K ((d, .map (some b)) :: M) ([(b, .map #[] 0)] :: L)) : OW P n ⟨some d, .makeMap t none, ty, ps, af, g⟩ K M L :=
  OW_newval (f := fun b => .map (some b)) rfl hn (fun a w ha hw => by
    simp only [execOp, Option.map_none, Sem.run_bind, show (Instr.makeMap t none).run P w = .ok (.map (some w.heap.size)) (w.alloc (.map #[] 0)) from rfl, Result.andThen_ok, Sem.run_pure]) h
theorem EV_look3 {mt kt et e b c : Nat} {es : Array MapEntry} {f : List UInt8 → Option Nat} {l : List UInt8} (hm : P.underlying mt = some (.map kt et)) [hz : ZV P et (.int .i64 0)] [hk : KA P kt e] (hx : ev M x = some (.map (some b))) (hy : ev M y = some (kv3 l)) (hl : l.length = 3)
    (hf : Fnd L b (.map es c)) (hr : MpR es f) : EV P n ⟨some d, .lookup mt x y true, ty, ps, af, g⟩ M L d (.tuple #[.int .i64 (((f l).getD 0 : Nat) : Int), .bool (f l).isSome]) :=
  ⟨rfl, fun a w ha hw => by
    obtain ⟨q, hq⟩ := hk.key hl
    have hb := hf.get hw
    have hc := hk.arr.law.check w es.isEmpty hq
    simp only [execOp, ha.eval hx, ha.eval hy, Instr.lookup, Sem.run_bind, run_underlying hm, Go.MapKept.run_getObj_map hb, Result.andThen_ok, Sem.run_pure, hc]
    rcases hr.find hk hl w with ⟨h1, h2, _⟩ | ⟨m, j, x, h1, h2, _⟩
    · simp only [h2, h1, Result.andThen_ok, Sem.run_bind, zero_run hz.out, Sem.run_pure]
      rfl
    · simp only [h2, h1, Result.andThen_ok, Sem.run_bind, Sem.run_pure]
      rfl⟩

omit [W0] in
theorem getMod (es : Array MapEntry) (j : Nat) (f : MapEntry → MapEntry) (i : Nat) : (es.modify j f)[i]? = if j = i then (es[i]?).map f else es[i]? := by
  rw [Array.getElem?_modify]
omit [W0] in
theorem MpR.push {es : Array MapEntry} {f : List UInt8 → Option Nat} (h : MpR es f) {l : List UInt8} (hl : l.length = 3) (m c : Nat) (hno : ∀ x ∈ es.toList, x.key ≠ kv3 l) :
    MpR (es.push { key := kv3 l, val := .int .i64 ((m : Nat) : Int), born := c }) (ups f l m) := by
  refine ⟨fun e he => ?_, fun q r hq hr => ?_, fun i j e e' hi hj hk => ?_⟩
  · simp only [Array.toList_push, List.mem_append, List.mem_singleton] at he
    rcases he with he | rfl
    · obtain ⟨l', m', h1, h2, h3, h4⟩ := h.ent e he
      refine ⟨l', m', h1, h2, h3, ?_⟩
      unfold ups
      rw [if_neg (fun hh => hno e he (by rw [h2, hh]))]
      exact h4
    · exact ⟨l, m, hl, rfl, rfl, by unfold ups; rw [if_pos rfl]⟩
  · unfold ups at hr
    split at hr
    · rename_i hh
      exact ⟨_, by simp only [Array.toList_push, List.mem_append, List.mem_singleton]; exact .inr rfl, by rw [hh]⟩
    · obtain ⟨e, he, hk⟩ := h.has q r hq hr
      exact ⟨e, by simp only [Array.toList_push, List.mem_append]; exact .inl he, hk⟩
  · rw [Array.getElem?_push] at hi hj
    have hnew : ∀ (i : Nat) (e : MapEntry), es[i]? = some e → e.key ≠ kv3 l := fun i e hi => hno e (List.mem_of_getElem? (by simpa using hi))
    split at hi <;> split at hj
    · omega
    · cases hi
      exact absurd hk.symm (hnew j e' hj)
    · cases hj
      exact absurd hk (hnew i e hi)
    · exact h.one i j e e' hi hj hk
omit [W0] in
def eset (l : List UInt8) (m : Nat) (e : MapEntry) : MapEntry := { e with key := kv3 l, val := .int .i64 ((m : Nat) : Int) }
omit [W0] in
theorem MpR.mod {es : Array MapEntry} {f : List UInt8 → Option Nat} (h : MpR es f) {l : List UInt8} (hl : l.length = 3) (m : Nat) {j : Nat} {x : MapEntry} (hj : es[j]? = some x) (hx : x.key = kv3 l) :
    MpR (es.modify j (eset l m)) (ups f l m) := by
  have hg : ∀ (i : Nat) (e : MapEntry), (es.modify j (eset l m))[i]? = some e → ∃ e0 : MapEntry, es[i]? = some e0 ∧ e.key = e0.key ∧ ((i = j ∧ e.key = kv3 l ∧ e.val = .int .i64 ((m : Nat) : Int)) ∨ (i ≠ j ∧ e = e0)) := by
    intro i e hi
    rw [getMod] at hi
    split at hi
    · rename_i hh
      subst hh
      rw [hj] at hi
      simp only [Option.map_some, Option.some.injEq] at hi
      subst hi
      exact ⟨x, hj, hx.symm, .inl ⟨rfl, rfl, rfl⟩⟩
    · exact ⟨e, hi, rfl, .inr ⟨fun hh => by omega, rfl⟩⟩
  refine ⟨fun e he => ?_, fun q r hq hr => ?_, fun i i' e e' hi hi' hk => ?_⟩
  · obtain ⟨i, hi⟩ := List.getElem?_of_mem he
    obtain ⟨e0, g1, g2, g3⟩ := hg i e (by rw [← Array.getElem?_toList]; exact hi)
    rcases g3 with ⟨rfl, g4, g5⟩ | ⟨g4, rfl⟩
    · exact ⟨l, m, hl, g4, g5, by unfold ups; rw [if_pos rfl]⟩
    · obtain ⟨l', m', h1, h2, h3, h4⟩ := h.ent e (List.mem_of_getElem? (by rw [Array.getElem?_toList]; exact g1))
      refine ⟨l', m', h1, h2, h3, ?_⟩
      unfold ups
      rw [if_neg (fun hh => g4 (h.one i j e x g1 hj (by rw [h2, hx, hh])))]
      exact h4
  · unfold ups at hr
    have hin : ∀ (i : Nat) (e : MapEntry), es[i]? = some e → ∃ e' ∈ (es.modify j (eset l m)).toList, e'.key = e.key := by
      intro i e hi
      have hgm := getMod es j (eset l m) i
      by_cases hh : j = i
      · subst hh
        rw [hj] at hi
        cases hi
        rw [if_pos rfl, hj] at hgm
        exact ⟨eset l m x, List.mem_of_getElem? (i := j) (by rw [Array.getElem?_toList]; exact hgm), hx.symm⟩
      · rw [if_neg hh, hi] at hgm
        exact ⟨e, List.mem_of_getElem? (i := i) (by rw [Array.getElem?_toList]; exact hgm), rfl⟩
    split at hr
    · rename_i hh
      obtain ⟨e', h1, h2⟩ := hin j x hj
      exact ⟨e', h1, by rw [h2, hx, hh]⟩
    · obtain ⟨e, he, hk⟩ := h.has q r hq hr
      obtain ⟨i, hi⟩ := List.getElem?_of_mem he
      obtain ⟨e', h1, h2⟩ := hin i e (by rw [← Array.getElem?_toList]; exact hi)
      exact ⟨e', h1, by rw [h2, hk]⟩
  · obtain ⟨e0, g1, g2, _⟩ := hg i e hi
    obtain ⟨e1, g3, g4, _⟩ := hg i' e' hi'
    exact h.one i i' e0 e1 g1 g3 (by rw [← g2, ← g4, hk])
omit [W0] in
/-- A map of one's own. -/
def MpD (b : Nat) (f : List UInt8 → Option Nat) (C : Chunk) : Prop := ∃ es c, C = [(b, .map es c)] ∧ MpR es f
theorem EV_mlook {mt kt et e b : Nat} {f : List UInt8 → Option Nat} {l : List UInt8} {C : Chunk} (hm : P.underlying mt = some (.map kt et)) [hz : ZV P et (.int .i64 0)] [hk : KA P kt e] (hx : ev M x = some (.map (some b))) (hy : ev M y = some (kv3 l)) (hl : l.length = 3)
    (hr : MpD b f C) (hi : Inc [C] L) : EV P n ⟨some d, .lookup mt x y true, ty, ps, af, g⟩ M L d (.tuple #[.int .i64 (((f l).getD 0 : Nat) : Int), .bool (f l).isSome]) := by
  obtain ⟨es, c, rfl, hr⟩ := hr
  obtain ⟨R, hp⟩ := hi
  exact EV_look3 hm hx hy hl (Fnd.perm .here hp.symm) hr
theorem OW_mapUp {mt kt et e b m : Nat} {f : List UInt8 → Option Nat} {l : List UInt8} {C : Chunk} {A B : List Chunk} (hm : P.underlying mt = some (.map kt et)) [hk : KA P kt e] (hx : ev M x = some (.map (some b))) (hy : ev M y = some (kv3 l)) (hl : l.length = 3) (hv : ev M z = some (.int .i64 ((m : Nat) : Int)))
    (hr : MpD b f C) (hzip : Zip C L A B) (h : ∀ C', MpD b (ups f l m) C' → K M (A ++ C' :: B)) : OW P n ⟨none, .mapUpdate mt x y z, ty, ps, af, g⟩ K M L := ⟨fun a w next Q ha hw hk' => by
  obtain ⟨es, c, rfl, hr⟩ := hr
  have hL := hzip.eq
  subst hL
  have hw' := hw.perm List.perm_middle
  have hb : w.heap[b]? = some (.map es c) := (Fnd.here (L := A ++ B)).get hw'
  have hlt : b < w.heap.size := by
    rcases Nat.lt_or_ge b w.heap.size with h' | h'
    · exact h'
    · simp [Array.getElem?_eq_none h'] at hb
  obtain ⟨q, hq⟩ := hk.key hl
  have hc := hk.arr.law.check w false hq
  have hst := hk.arr.law.stays w hq
  obtain ⟨es', c', hr', hrun⟩ : ∃ es' c', MpR es' (ups f l m) ∧ (execOp a.eval ⟨none, .mapUpdate mt x y z, ty, ps, af, g⟩).run P w = .ok .skip { w with heap := w.heap.setIfInBounds b (.map es' c') } := by
    rcases hr.find hk hl w with ⟨h1, h2, h3⟩ | ⟨m0, j, e0, h1, h2, h3, h4⟩
    · refine ⟨_, c + 1, hr.push hl m c h3, ?_⟩
      simp only [execOp, ha.eval hx, ha.eval hy, ha.eval hv, Instr.mapUpdate, Sem.run_bind, run_underlying hm, Go.MapKept.run_getObj_map hb, Result.andThen_ok, Sem.run_pure, hc, h2, Go.MapKept.run_setObj_map _ hb]
    · refine ⟨_, c, hr.mod hl m h3 h4, ?_⟩
      simp only [execOp, ha.eval hx, ha.eval hy, ha.eval hv, Instr.mapUpdate, Sem.run_bind, run_underlying hm, Go.MapKept.run_getObj_map hb, Result.andThen_ok, Sem.run_pure, hc, h2, h3, Option.map_some, Option.getD_some, h4, hst, Go.MapKept.run_setObj_map _ hb]
      rfl
  unfold Oper.wp
  rw [hrun, Oper.upon_skip]
  refine (hk' _ _ (h [(b, .map es' c')] ⟨es', c', rfl, hr'⟩)).out _ _ ha (Holds.perm (L := [(b, .map es' c')] :: (A ++ B)) ?_ List.perm_middle.symm)
  refine hw'.upd Upd.front ?_ (fun c2 hc2 => ?_) rfl rfl
  · show (w.heap.setIfInBounds b _)[b]? = _
    rw [Array.getElem?_setIfInBounds_self_of_lt hlt]
  · show (w.heap.setIfInBounds b _)[c2]? = _
    rw [Array.getElem?_setIfInBounds_ne (fun hh => hc2 hh.symm)]⟩
theorem EV_toArr {t e len k : Nat} [hs : AR P t e len k] {a0 : Addr} {m cap : Nat} (hx : ev M x = some (.slice (some a0) m cap)) (hm : len ≤ m) : EV P n ⟨some d, .sliceToArrayPointer t x, ty, ps, af, g⟩ M L d (.pointer (some a0)) :=
  ⟨rfl, fun a w ha _ => by
    obtain ⟨hu, _⟩ := hs.parts
    have : ¬ m < len := by omega
    simp [execOp, ha.eval hx, Instr.arrayAt, run_underlying hu, this]⟩
omit [W0] in
theorem rd_take {L : List Chunk} {a : Addr} {xs : List Value} (h : RdAt L a xs) (k : Nat) : RdAt L a (xs.take k) := by
  rcases h with h0 | ⟨b, off, cc, TT, fr, h1, h2, h3⟩
  · exact .inl (by rw [h0]; simp)
  · refine .inr ⟨b, off, cc, TT, fr, h1, h2, fun j u hj => ?_⟩
    rw [List.getElem?_take] at hj
    split at hj
    · exact h3 _ _ hj
    · cases hj
omit [W0] in
/-- A slice that can be read, with its room. -/
structure Rs (L : List Chunk) (k : Nat) (v : Value) (m : Nat) (xs : List Value) : Prop where
  sl : Sl L k v m xs
  room : ∃ a c, v = .slice a m c ∧ m ≤ c
theorem Rs.sub {L L' : List Chunk} (hs : ∀ x ∈ L.flatten, x ∈ L'.flatten) {k m : Nat} {v : Value} {xs : List Value} (h : Rs L k v m xs) : Rs L' k v m xs := ⟨sl_sub hs h.sl, h.room⟩
theorem Rs.there {L : List Chunk} {C : Chunk} {k m : Nat} {v : Value} {xs : List Value} (h : Rs L k v m xs) : Rs (C :: L) k v m xs := ⟨sl_there h.sl, h.room⟩
theorem Rs.ow {e k m : Nat} {v : Value} {xs : List Value} {C : Chunk} {L : List Chunk} (h : Ow e k v m xs C) : Rs (C :: L) k v m xs := by
  refine ⟨ow_sl h, ?_⟩
  rcases h with ⟨rfl, rfl, _⟩ | ⟨b, cap, rest, rfl, _, _, _, hmc, _⟩
  · exact ⟨_, _, rfl, Nat.le_refl _⟩
  · exact ⟨_, _, rfl, hmc⟩
theorem Rs.one {L : List Chunk} {k m : Nat} {v : Value} {xs : List Value} (h : Rs L k v m xs) : v.oneCell' = true := by obtain ⟨a, c, rfl, _⟩ := h.room; rfl
theorem Rs.nil {L : List Chunk} {k : Nat} : Rs L k (.slice none 0 0) 0 [] := ⟨.inl ⟨0, rfl, rfl, rfl⟩, none, 0, rfl, Nat.le_refl _⟩
theorem Rs.len {L : List Chunk} {k m : Nat} {v : Value} {xs : List Value} (h : Rs L k v m xs) : xs.length = m * k := by
  rcases h.sl with ⟨c, rfl, rfl, rfl⟩ | ⟨a, cap, rfl, _, hl⟩
  · simp
  · exact hl
/-- A piece of it. -/
theorem EV_sliceRs {P : Program} {T e k by_ : Nat} [hs : SL P T e k by_] {v : Value} {m : Nat} {xs : List Value} {L0 : List Chunk} (hO : Rs L0 k v m xs) {l h : Nat} (h1 : l ≤ h) (h2 : h ≤ m) :
    ∃ r, Rs L0 k r (h - l) ((xs.drop (l * k)).take ((h - l) * k)) ∧ ∀ {n : Nat} {M : List (Nat × Value)} {L : List Chunk} {d : Nat} {ty : TypeId} {ps : String} {af : Array Edge} {g : Option (Nat × Bool)} {x : Operand} {lo hi : Option Operand},
      ev M x = some v → bnd M lo 0 = some (l : Int) → bnd M hi m = some (h : Int) → EV P n ⟨some d, .slice T x lo hi none, ty, ps, af, g⟩ M L d r := by
  obtain ⟨a, c, rfl, hmc⟩ := hO.room
  have hlen := hO.len
  refine ⟨.slice (if c = l then a else a.map (·.add (l * k))) (h - l) (c - l), ⟨?_, _, _, rfl, by omega⟩, ?_⟩
  · rcases hO.sl with ⟨c', hv, rfl, rfl⟩ | ⟨a', cap, hv, hr, hl⟩
    · cases hv
      refine .inl ⟨c - l, ?_, by omega, by simp⟩
      rw [show h - l = 0 from by omega]
      split <;> rfl
    · cases hv
      refine .inr ⟨if c = l then a' else a'.add (l * k), c - l, by split <;> rfl, ?_, ?_⟩
      · rcases hr with h0 | ⟨b, off, cc, TT, fr, rfl, hf, hc⟩
        · subst h0
          exact .inl (by simp)
        · by_cases hcl : c = l
          · rw [if_pos hcl]
            refine .inl ?_
            rw [show h - l = 0 from by omega, Nat.zero_mul, List.take_zero]
          · rw [if_neg hcl, addr_add]
            refine .inr ⟨b, off + l * k, cc, TT, fr, rfl, hf, fun j u hj => ?_⟩
            rw [List.getElem?_take] at hj
            split at hj
            · rw [List.getElem?_drop] at hj
              rw [Nat.add_assoc]
              exact hc _ _ hj
            · cases hj
      · rw [List.length_take, List.length_drop, hlen]
        have : (h - l) * k ≤ m * k - l * k := by rw [← Nat.sub_mul]; exact Nat.mul_le_mul_right k (by omega)
        omega
  · intro n M L d ty ps af g x lo hi hx hl hh
    exact ⟨rfl, fun a' w ha _ => by
      obtain ⟨hu, i', hi', hk', _, hk0⟩ := hs.parts
      simp [execOp, ha.eval hx, Instr.sliceAt, Instr.slice, underlying, hu, sliceBounds_run ha hl hh h1 (show h ≤ c by omega), sizeOf, typeInfo, hi', hk']⟩
end
end Go.Vx
namespace Go.Vx
theorem Inc.mem [W0] {S L : List Chunk} (h : Inc S L) : ∀ x ∈ S.flatten, x ∈ L.flatten := by
  obtain ⟨R, hp⟩ := h
  intro x hx
  exact hp.flatten.mem_iff.2 (by rw [List.flatten_append]; exact List.mem_append_left _ hx)
theorem iM [W0] {S L : List Chunk} (h : Inc S L := by exact (by repeat (first | exact Inc.refl | exact Inc.nil | (show Inc (_ :: _) _; refine Inc.cons (by repeat (first | exact Take.here | apply Take.there)) ?_) | refine Inc.skip ?_))) : ∀ x ∈ S.flatten, x ∈ L.flatten := h.mem
end Go.Vx
