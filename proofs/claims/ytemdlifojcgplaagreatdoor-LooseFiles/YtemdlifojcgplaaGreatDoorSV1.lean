/- Contracts and facts on the way to the top. It proves no statement by itself. No conditions. -/
import Derived.Lib.ValidLaws
import Derived.WalkKit
import Derived.KernelRfl
import Derived.StillTail
import Derived.OrdersHeld
import Derived.Lib.Bytealg
import Derived.Lib.Overlaps
import Derived.Lib.UnsafeStr
import Derived.Laws.BytesArg
import Derived.ProofKit
import Derived.OpenShut
import Derived.JoinedCond
import Derived.Below
import Derived.Laws.IdiomStrings
import Derived.ArgAppend
import Derived.Deep.Upon
import Derived.Lib.AppendStr
import Derived.Lib.ItoaMem
import Derived.Shelf.Unicode.ValidAny
import Derived.Shelf.Strings.Cut
import Derived.Shelf.Strconv.Itoa1
import Derived.Shelf.Strconv.Itoa2
import Derived.Shelf.Strings.Replace
import Derived.Lib.BytesEntry
import Derived.RangeFuncRecord
import Derived.OrdersIn
import Derived.Scope
import Derived.WideKeyArr
import Derived.Deep.DeepHandedRow
import Derived.SizedLaws
import Derived.LaidLaws
import Derived.Lib.LaidTab
import Derived.Lib.LaidU8T
import Derived.Shelf.Vars
import Derived.Test.YtemdlifojcgplaaGreatDoorRows
import Derived.Test.YtemdlifojcgplaaGreatDoorProg
import Derived.Test.YtemdlifojcgplaaGreatDoorCards
import Derived.Test.YtemdlifojcgplaaGreatDoorTie
set_option maxHeartbeats 16000000
namespace Go.Ob
open Go Go.Lib
set_option linter.all false
set_option maxRecDepth 4000
theorem zm1 (l:List UInt8) (h:128≤(l.getD 0 0).toNat):128≤(decodeL l).1∧∀j,j < (decodeL l).2→128≤(l.getD j 0).toNat:=by
 rw [decodeL_N]
 obtain ⟨b0,h0⟩:∃b,b=(l.getD 0 0).toNat:=⟨_,rfl⟩
 obtain ⟨b1,h1⟩:∃b,b=(l.getD 1 0).toNat:=⟨_,rfl⟩
 obtain ⟨b2,h2⟩:∃b,b=(l.getD 2 0).toNat:=⟨_,rfl⟩
 obtain ⟨b3,h3⟩:∃b,b=(l.getD 3 0).toNat:=⟨_,rfl⟩
 rw [←h0] at h
 rw [←h0,←h1,←h2,←h3]
 have hj:∀k,k≤4→(1 < k→128≤b1)→(2 < k→128≤b2)→(3 < k→128≤b3)→∀j,j < k→128≤(l.getD j 0).toNat:=by
  intro k hk g1 g2 g3 j hj
  match j with
  |0=>rw [←h0];exact h
  |1=>rw [←h1];exact g1 (by omega)
  |2=>rw [←h2];exact g2 (by omega)
  |3=>rw [←h3];exact g3 (by omega)
  |j+4=>omega
 clear h0 h1 h2 h3
 unfold decodeN
 repeat' split
 all_goals (first|(exfalso;omega)|skip)
 all_goals exact ⟨by dsimp only;omega,hj _ (by dsimp only;omega) (fun _=>by omega) (fun hh=>by dsimp only at hh;omega) (fun hh=>by dsimp only at hh;omega)⟩
end Go.Ob
namespace Go.Vx
open Go
set_option linter.all false
abbrev Chunk:=List (Nat × Obj)
class W0 where
 os:Os
 output:Array (Nat × ByteArray)
variable [W0]
def Holds (w:World) (L:List Chunk):Prop:=
 (L.flatten.map Prod.fst).Nodup∧(∀x∈L.flatten,w.heap[x.1]? =some x.2)∧w.os=W0.os∧w.output=W0.output
omit [W0] in
def cl (l:List Value) (T:TypeId):Obj:=.cells l.toArray T (0,0)
theorem Holds.lt {w:World} {L:List Chunk} (h:Holds w L) {x:Nat × Obj} (hx:x∈L.flatten):x.1 < w.heap.size:=by
 have:=h.2.1 x hx
 rcases Nat.lt_or_ge x.1 w.heap.size with h'|h'
 ·exact h'
 ·simp [Array.getElem?_eq_none h'] at this
theorem Holds.same {w w':World} {L:List Chunk} (h:Holds w L) (hh:w'.heap=w.heap) (ho:w'.os=w.os) (hq:w'.output=w.output):Holds w' L:=
 ⟨h.1,fun x hx=>by rw [hh];exact h.2.1 x hx,ho.trans h.2.2.1,hq.trans h.2.2.2⟩
theorem Holds.perm {w:World} {L L':List Chunk} (h:Holds w L) (hp:L.Perm L'):Holds w L':=by
 have hf:L.flatten.Perm L'.flatten:=hp.flatten
 exact ⟨(hf.map Prod.fst).nodup_iff.1 h.1,fun x hx=>h.2.1 x (hf.mem_iff.2 hx),h.2.2⟩
theorem Holds.alloc {w:World} {L:List Chunk} (h:Holds w L) (o:Obj):Holds (w.alloc o) ([(w.heap.size,o)]::L):=by
 refine ⟨?_,?_,h.2.2⟩
 ·simp only [List.flatten_cons,List.map_cons,List.singleton_append,List.nodup_cons]
  refine ⟨?_,h.1⟩
  intro hm
  obtain ⟨x,hx,he⟩:=List.mem_map.1 hm
  have:=h.lt hx
  omega
 ·intro x hx
  simp only [List.flatten_cons,List.mem_append,List.mem_singleton] at hx
  rcases hx with rfl|hx
  ·show (w.heap.push o)[w.heap.size]? =some o
   simp
  ·have:=h.lt hx
   show (w.heap.push o)[x.1]? =some x.2
   rw [Array.getElem?_push,if_neg (by omega)]
   exact h.2.1 x hx
omit [W0] in
def Fnd (L:List Chunk) (b:Nat) (o:Obj):Prop:=(b,o)∈L.flatten
theorem Fnd.here {L:List Chunk} {b:Nat} {o:Obj}:Fnd ([(b,o)]::L) b o:=by simp [Fnd]
theorem Fnd.there {L:List Chunk} {C:Chunk} {b:Nat} {o:Obj} (h:Fnd L b o):Fnd (C::L) b o:=by
 simp only [Fnd,List.flatten_cons,List.mem_append] at *;exact .inr h
theorem Fnd.mem {L:List Chunk} {C:Chunk} {b:Nat} {o:Obj} (h:(b,o)∈C):Fnd (C::L) b o:=by
 simp only [Fnd,List.flatten_cons,List.mem_append];exact .inl h
theorem Fnd.get {w:World} {L:List Chunk} {b:Nat} {o:Obj} (h:Fnd L b o) (hH:Holds w L):w.heap[b]? =some o:=hH.2.1 _ h
omit [W0] in
inductive Upd:List Chunk→Nat→Obj→Obj→List Chunk→Prop
 |here {L b o o'}:Upd ([(b,o)]::L) b o o' ([(b,o')]::L)
 |there {C L L' b o o'}:Upd L b o o' L'→Upd (C::L) b o o' (C::L')
theorem Upd.fnd {L L':List Chunk} {b:Nat} {o o':Obj} (h:Upd L b o o' L'):Fnd L b o:=by
 induction h with
 |here=>exact .here
 |there _ ih=>exact .there ih
theorem Upd.keys {L L':List Chunk} {b:Nat} {o o':Obj} (h:Upd L b o o' L'):L'.flatten.map Prod.fst=L.flatten.map Prod.fst:=by
 induction h with
 |here=>simp
 |there _ ih=>simp [ih]
theorem Upd.mem {L L':List Chunk} {b:Nat} {o o':Obj} (h:Upd L b o o' L') (hn:(L.flatten.map Prod.fst).Nodup) :
 ∀x∈L'.flatten,x=(b,o')∨(x.1≠b∧x∈L.flatten):=by
 induction h with
 |@here L b o o'=>
  intro x hx
  simp only [List.flatten_cons,List.singleton_append,List.mem_cons,List.map_cons,List.nodup_cons] at *
  rcases hx with rfl|hx
  ·exact .inl rfl
  ·refine .inr ⟨fun he=>hn.1 ?_,.inr hx⟩
   rw [←he];exact List.mem_map_of_mem hx
 |@there C L L' b o o' hu ih=>
  intro x hx
  simp only [List.flatten_cons,List.mem_append,List.map_append] at *
  rw [List.nodup_append] at hn
  rcases hx with hx|hx
  ·refine .inr ⟨fun he=>?_,.inl hx⟩
   have:=hu.fnd
   exact hn.2.2 x.1 (List.mem_map_of_mem hx) b (List.mem_map_of_mem (f:=Prod.fst) this) he
  ·rcases ih hn.2.1 x hx with h|h
   ·exact .inl h
   ·exact .inr ⟨h.1,.inr h.2⟩
theorem Holds.upd {w w':World} {L L':List Chunk} {b:Nat} {o o':Obj} (h:Holds w L) (hu:Upd L b o o' L')
 (hb:w'.heap[b]? =some o') (ho:∀c,c≠b→w'.heap[c]? =w.heap[c]?) (hos:w'.os=w.os) (hq:w'.output=w.output):Holds w' L':=by
 refine ⟨by rw [hu.keys];exact h.1,fun x hx=>?_,hos.trans h.2.2.1,hq.trans h.2.2.2⟩
 rcases hu.mem h.1 x hx with rfl|⟨hne,hm⟩
 ·exact hb
 ·rw [ho _ hne];exact h.2.1 x hm
omit [W0] in
inductive Take:Chunk→List Chunk→List Chunk→Prop
 |here {C L}:Take C (C::L) L
 |there {C D L L'}:Take C L L'→Take C (D::L) (D::L')
theorem Take.perm {C:Chunk} {L L':List Chunk} (h:Take C L L'):L.Perm (C::L'):=by
 induction h with
 |here=>exact .refl _
 |there _ ih=>exact (ih.cons _).trans (.swap _ _ _)
theorem Holds.take {w:World} {C:Chunk} {L L':List Chunk} (h:Holds w L) (ht:Take C L L'):Holds w (C::L'):=h.perm ht.perm
theorem Holds.split {w:World} {C D:Chunk} {L:List Chunk}:Holds w ((C++D)::L)↔Holds w (C::D::L):=by
 simp [Holds,List.append_assoc]
theorem Holds.nil {w:World} {L:List Chunk}:Holds w ([]::L)↔Holds w L:=by simp [Holds]
theorem Holds.drop {w:World} {C:Chunk} {L:List Chunk} (h:Holds w (C::L)):Holds w L:=by
 refine ⟨?_,fun x hx=>h.2.1 x (by simp only [List.flatten_cons,List.mem_append];exact .inr hx),h.2.2⟩
 have:=h.1
 simp only [List.flatten_cons,List.map_append,List.nodup_append] at this
 exact this.2.1
omit [W0] in
def zmA (P:Program) (t:TypeId):Bool:=match P.underlying t with|some (.struct _)|some (.array _ _)|none=>true|_=>false
omit [W0] in
def zmB (P:Program) (t:TypeId):Bool:=match P.underlying t with|some (.struct _)|some (.array _ _)=>true|_=>false
omit [W0] in
def zi7 (P:Program) (f:FuncId):Bool:=match P.funcs[f]? with
 |some fn=>fn.name != "runtime.NumGoroutine"&&fn.body.isSome
 |none=>false
omit [W0] in
class NA (P:Program) (t:Nat):Prop where out:zmA P t=false
omit [W0] in
class AG (P:Program) (t:Nat) (k:outParam Nat):Prop where out:zmB P t=true∧(P.info? t).map (·.size)=some k
omit [W0] in
class SZ (P:Program) (t:Nat) (k:outParam Nat):Prop where out:(P.info? t).map (·.size)=some k
omit [W0] in
def zjT (P:Program) (s f:Nat):Option Nat:=match P.underlying s with
 |some (.struct fs)=>match fs[f]? with
  |some fd=>match P.info? fd.type with
   |some i=>if Nat.blt 0 i.size then some fd.offset else none
   |none=>none
  |none=>none
 |_=>none
omit [W0] in
class FO (P:Program) (s f:Nat) (k:outParam Nat):Prop where out:zjT P s f=some k
omit [W0] in
def zhw (P:Program) (T:Nat):Option (Nat × Nat × Nat):=match P.underlying T with
 |some (.slice e)=>match P.info? e with
  |some i=>if Nat.blt 0 i.size then some (e,i.size,i.bytes) else none
  |none=>none
 |_=>none
omit [W0] in
class SL (P:Program) (T:Nat) (e:outParam Nat) (k:outParam Nat) (by_:outParam Nat):Prop where out:zhw P T=some (e,k,by_)
omit [W0] in
class ST (P:Program) (T:Nat):Prop where out:P.underlying T=some .string
omit [W0] in
class ZV (P:Program) (t:Nat) (z:outParam Value):Prop where out:(P.info? t).map (·.zero)=some (some z)
omit [W0] in
class IK (P:Program) (t:Nat) (k:outParam IntKind):Prop where out:P.underlying t=some (.int k)
omit [W0] in
class BD (P:Program) (f:Nat):Prop where out:zi7 P f=true
omit [W0] in
def X8 (P:Program) (t:Nat):Bool:=match P.underlying t with|some (.interface _)|none=>false|_=>true
omit [W0] in
class NI (P:Program) (t:Nat):Prop where out:X8 P t=true
omit [W0] in
def nth:List Value→Nat→Option Value
 |[],_=>none
 |v::_,0=>some v
 |_::r,i+1=>nth r i
theorem yu:∀(l:List Value) (i:Nat),nth l i=l[i]?
 |[],i=>by simp [nth]
 |v::r,0=>by simp [nth]
 |v::r,i+1=>by simp [nth,yu r i]
omit [W0] in
def lk:List (Nat × Value)→Nat→Option Value
 |[],_=>none
 |(t,v)::r,n=>bif Nat.beq t n then some v else lk r n
omit [W0] in
def ev (M:List (Nat × Value)):Operand→Option Value
 |.tmp t=>lk M t
 |.const v=>some v
 |.global g=>some (.pointer (some ⟨g,0,none⟩))
 |.func f=>some (.func (.func f) #[] #[])
omit [W0] in
structure St (n:Nat) (M:List (Nat × Value)) (a:Act):Prop where
 defers:a.defers=[]
 size:a.tmps.size=n
 get:∀t v,lk M t=some v→a.tmps[t]? =some v
theorem St.eval {n:Nat} {M:List (Nat × Value)} {a:Act} (h:St n M a) {x:Operand} {v:Value} (hx:ev M x=some v):a.eval x=v:=by
 cases x with
 |tmp t=>have:=h.get t v hx;simp [Act.eval,Array.getD_eq_getD_getElem?,this]
 |const u=>exact Option.some.inj hx
 |global g=>exact Option.some.inj hx
 |func f=>exact Option.some.inj hx
theorem St.put {n:Nat} {M:List (Nat × Value)} {a:Act} (h:St n M a) {d:Nat} (v:Value) (hd:Nat.blt d n=true):St n ((d,v)::M) (a.put (some d) v):=by
 have hd':d < n:=by simpa [Nat.blt_eq] using hd
 refine ⟨h.defers,by simp [Act.put,h.size],fun t u ht=>?_⟩
 simp only [Act.put]
 unfold lk at ht
 by_cases e:d=t
 ·subst e
  simp at ht
  subst ht
  rw [Array.getElem?_setIfInBounds_self]
  simp [h.size,hd']
 ·have:Nat.beq d t=false:=by
   cases hb:Nat.beq d t with
   |false=>rfl
   |true=>exact absurd (Nat.eq_of_beq_eq_true hb) e
  rw [this] at ht
  rw [Array.getElem?_setIfInBounds_ne e]
  exact h.get t u ht
omit [W0] in
def Sub (M' M:List (Nat × Value)):Prop:=∀t v,lk M' t=some v→lk M t=some v
theorem Sub.nil {M:List (Nat × Value)}:Sub [] M:=fun t v h=>by simp [lk] at h
theorem Sub.cons {M M':List (Nat × Value)} {t:Nat} {v:Value} (h:lk M t=some v) (hs:Sub M' M):Sub ((t,v)::M') M:=by
 intro u x hu
 unfold lk at hu
 cases hb:Nat.beq t u with
 |true=>rw [hb] at hu;simp at hu;subst hu;rw [←Nat.eq_of_beq_eq_true hb];exact h
 |false=>rw [hb] at hu;exact hs u x hu
theorem St.sub {n:Nat} {M M':List (Nat × Value)} {a:Act} (h:St n M a) (hs:Sub M' M):St n M' a:=⟨h.defers,h.size,fun t v ht=>h.get t v (hs t v ht)⟩
structure WQ (n:Nat) (q:Act→World→Prop) (M:List (Nat × Value)) (L:List Chunk):Prop where
 out:∀a w,St n M a→Holds w L→q a w
structure WC (P:Program) (n:Nat) (c:Code) (Q:Exit→Act→World→Prop) (M:List (Nat × Value)) (L:List Chunk):Prop where
 out:∀a w,St n M a→Holds w L→c.wp P Q a w
structure WL (P:Program) (n:Nat) (ops:Array Oper) (Q:Exit→Act→World→Prop) (rest:List Oper) (M:List (Nat × Value)) (L:List Chunk):Prop where
 out:∀a w,St n M a→Holds w L→wpList P ops Q rest a w
structure OW (P:Program) (n:Nat) (o:Oper) (K:List (Nat × Value)→List Chunk→Prop) (M:List (Nat × Value)) (L:List Chunk):Prop where
 out:∀a w (next:Act→World→Prop) Q,St n M a→Holds w L→(∀M' L',K M' L'→WQ n next M' L')→o.wp P a w next Q
section
variable {P : Program} {n : Nat} {Q : Exit → Act → World → Prop} {M : List (Nat × Value)} {L : List Chunk} {K : List (Nat × Value) → List Chunk → Prop}
theorem WC.holds {L':List Chunk} {c:Code} (h:WC P n c Q M L') (hl:∀w,Holds w L→Holds w L'):WC P n c Q M L:=⟨fun a w ha hw=>h.out a w ha (hl w hw)⟩
theorem WC.sub {M':List (Nat × Value)} {c:Code} (h:WC P n c Q M' L) (hs:Sub M' M):WC P n c Q M L:=⟨fun a w ha hw=>h.out a w (ha.sub hs) hw⟩
theorem vg {x y:Code} (h:WC P n x (Exit.then (y.wp P Q) Q) M L):WC P n (.seq x y) Q M L:=⟨fun a w ha hw=>wp_seq (h.out a w ha hw)⟩
theorem zmp (h:WQ n (Q .normal) M L):WC P n .skip Q M L:=⟨fun a w ha hw=>wp_skip (h.out a w ha hw)⟩
theorem zmo {id:Nat} (h:WQ n (Q (.exit id)) M L):WC P n (.exit id) Q M L:=⟨fun a w ha hw=>wp_exit (h.out a w ha hw)⟩
theorem ziN {l:Nat} (h:WQ n (Q .normal) M L):WC P n (.label l) Q M L:=⟨fun a w ha hw=>wp_label (h.out a w ha hw)⟩
theorem zoV (h:WQ n (Q .ret) M L):WC P n .ret Q M L:=⟨fun a w ha hw=>wp_ret (h.out a w ha hw)⟩
theorem ziL {id:Nat} {c:Code} (h:WC P n c (Exit.inBlock id Q) M L):WC P n (.block id c) Q M L:=⟨fun a w ha hw=>wp_block (h.out a w ha hw)⟩
theorem zcB {c:Operand} {x y:Code} {t:Bool} (hc:ev M c=some (.bool t)) (ht:t=true→WC P n x Q M L) (hf:t=false→WC P n y Q M L) :
 WC P n (.cond c x y) Q M L:=⟨fun a w ha hw=>wp_cond_split (ha.eval hc) (fun h=>(ht h).out a w ha hw) (fun h=>(hf h).out a w ha hw)⟩
theorem zmq {c:Operand} {x y:Code} (hc:ev M c=some (.bool true)) (ht:WC P n x Q M L):WC P n (.cond c x y) Q M L:=⟨fun a w ha hw=>wp_cond_true (ha.eval hc) (ht.out a w ha hw)⟩
theorem ziM {c:Operand} {x y:Code} (hc:ev M c=some (.bool false)) (ht:WC P n y Q M L):WC P n (.cond c x y) Q M L:=⟨fun a w ha hw=>wp_cond_false (ha.eval hc) (ht.out a w ha hw)⟩
theorem zhN {id:Nat} {l:List Oper} (h:WL P n l.toArray Q l M L):WC P n (.region id l.toArray false) Q M L:=⟨fun a w ha hw=>wp_region_lit (h.out a w ha hw)⟩
theorem zoW {ops:Array Oper} (h:WQ n (Q .normal) M L):WL P n ops Q [] M L:=⟨fun a w ha hw=>wpList_nil (h.out a w ha hw)⟩
theorem zaG {K:Act→World→Prop} (h:WQ n K M L):WQ n (Exit.then K Q .normal) M L:=⟨h.out⟩
theorem zdN {K:Act→World→Prop} (h:WQ n (Q .ret) M L):WQ n (Exit.then K Q .ret) M L:=⟨h.out⟩
theorem zcI {K:Act→World→Prop} {id:Nat} (h:WQ n (Q (.exit id)) M L):WQ n (Exit.then K Q (.exit id)) M L:=⟨h.out⟩
theorem zcH {i:Nat} (h:WQ n (Q .ret) M L):WQ n (Exit.inBlock i Q .ret) M L:=⟨h.out⟩
theorem Q7 {i:Nat} (h:WQ n (Q .normal) M L):WQ n (Exit.inBlock i Q .normal) M L:=⟨h.out⟩
theorem zcG {i:Nat} (h:WQ n (Q .normal) M L):WQ n (Exit.inBlock i Q (.exit i)) M L:=⟨fun a w ha hw=>by
 show if i=i then Q .normal a w else Q (.exit i) a w
 rw [if_pos rfl];exact h.out a w ha hw⟩
theorem zbF {i j:Nat} (hne:Nat.beq j i=false) (h:WQ n (Q (.exit j)) M L):WQ n (Exit.inBlock i Q (.exit j)) M L:=⟨fun a w ha hw=>by
 show if j=i then Q .normal a w else Q (.exit j) a w
 rw [if_neg (by intro e;subst e;simp at hne)];exact h.out a w ha hw⟩
theorem zmu {c:Code} (h:WC P n c Q M L):WQ n (c.wp P Q) M L:=⟨h.out⟩
theorem ziQ {ops:Array Oper} {rest:List Oper} {o:Oper} (hg:o.guard=none) (h:OW P n o (WL P n ops Q rest) M L):WL P n ops Q (o::rest) M L:=⟨fun a w ha hw=>by
 unfold wpList
 rw [if_pos (by simp [Region.wanted,hg])]
 exact .inl (h.out a w _ Q ha hw fun M' L' hk=>⟨hk.out⟩)⟩
omit [W0] in
def yl (ops:List Oper) (M:List (Nat × Value)) (j:Nat):Option Value:=((ops[j]?).bind (·.dst)).bind (lk M)
theorem wI {ops:List Oper} {a:Act} (ha:St n M a) {j:Nat} {v:Value} (h:yl ops M j=some v) :
 yielded ops.toArray a.tmps j=match v with|.bool b=>some b|_=>none:=by
 unfold yl at h
 unfold yielded
 simp only [List.getElem?_toArray]
 cases hj:ops[j]? with
 |none=>simp [hj] at h
 |some o=>
  simp only [hj,Option.bind_some] at h ⊢
  cases hd:o.dst with
  |none=>simp [hd] at h
  |some d=>
   simp only [hd,Option.bind_some] at h ⊢
   rw [ha.get d v h]
   cases v<;>rfl
theorem zqr {ops:List Oper} {rest:List Oper} {o:Oper} {j:Nat} {b:Bool} (hg:o.guard=some (j,b)) (hy:yl ops M j=some (.bool b))
 (h:OW P n o (WL P n ops.toArray Q rest) M L):WL P n ops.toArray Q (o::rest) M L:=⟨fun a w ha hw=>by
 unfold wpList
 rw [if_pos (by simp [Region.wanted,hg,wI ha hy])]
 exact .inl (h.out a w _ Q ha hw fun M' L' hk=>⟨hk.out⟩)⟩
theorem zoX {ops:List Oper} {rest:List Oper} {o:Oper} {j d:Nat} {b:Bool} (hg:o.guard=some (j,b)) (hd:o.dst=some d) (hy:yl ops M j=some (.bool (!b)))
 (hn:Nat.blt d n=true) (h:WL P n ops.toArray Q rest ((d,undef)::M) L):WL P n ops.toArray Q (o::rest) M L:=⟨fun a w ha hw=>by
 unfold wpList
 rw [if_neg (by simp [Region.wanted,hg,wI ha hy])]
 rw [hd]
 exact h.out _ w (ha.put undef hn) hw⟩
theorem zmr {ops:List Oper} {rest:List Oper} {o:Oper} {j:Nat} {b:Bool} (hg:o.guard=some (j,b)) (hd:o.dst=none) (hy:yl ops M j=some (.bool (!b)))
 (h:WL P n ops.toArray Q rest M L):WL P n ops.toArray Q (o::rest) M L:=⟨fun a w ha hw=>by
 unfold wpList
 rw [if_neg (by simp [Region.wanted,hg,wI ha hy])]
 rw [hd]
 exact h.out _ w ha hw⟩
theorem zms {ops:List Oper} {rest:List Oper} {o:Oper} {j d:Nat} {b:Bool} (hg:o.guard=some (j,b)) (hd:o.dst=some d) (hy:yl ops M j=some undef)
 (hn:Nat.blt d n=true) (h:WL P n ops.toArray Q rest ((d,undef)::M) L):WL P n ops.toArray Q (o::rest) M L:=⟨fun a w ha hw=>by
 unfold wpList
 rw [if_neg (by simp [Region.wanted,hg,wI ha hy,undef])]
 rw [hd]
 exact h.out _ w (ha.put undef hn) hw⟩
theorem ziR {ops:List Oper} {rest:List Oper} {o:Oper} {j:Nat} {b c:Bool} (hg:o.guard=some (j,b)) (hy:yl ops M j=some (.bool c))
 (ht:c=true→WL P n ops.toArray Q (o::rest) M L) (hf:c=false→WL P n ops.toArray Q (o::rest) M L):WL P n ops.toArray Q (o::rest) M L:=by
 cases c
 ·exact hf rfl
 ·exact ht rfl
theorem zoU {o:Oper} {d:Nat} {v:Value} (hd:o.dst=some d) (hn:Nat.blt d n=true) (hr:∀a w,St n M a→Holds w L→(execOp a.eval o).run P w=.ok (.value v) w)
 (h:K ((d,v)::M) L):OW P n o K M L:=⟨fun a w next Q ha hw hk=>by
 unfold Oper.wp
 rw [hr a w ha hw,Oper.upon_value,hd]
 exact (hk _ _ h).out _ _ (ha.put v hn) hw⟩
structure EV (P:Program) (n:Nat) (o:Oper) (M:List (Nat × Value)) (L:List Chunk) (d:Nat) (v:Value):Prop where
 dst:o.dst=some d
 run:∀a w,St n M a→Holds w L→(execOp a.eval o).run P w=.ok (.value v) w
theorem ze {o:Oper} {d:Nat} {v:Value} (he:EV P n o M L d v) (hn:Nat.blt d n=true) (h:K ((d,v)::M) L):OW P n o K M L:=zoU he.dst hn he.run h
variable {d : Nat} {ty : TypeId} {ps : String} {af : Array Edge} {g : Option (Nat × Bool)} {x y : Operand} {v : Value}
theorem ZO (hx:ev M x=some v):EV P n ⟨some d,.move x,ty,ps,af,g⟩ M L d (v):=
 ⟨rfl,fun a w ha _=>by simp [execOp,ha.eval hx]⟩
theorem yQ (hx:ev M x=some v):EV P n ⟨some d,.assign x,ty,ps,af,g⟩ M L d (v):=
 ⟨rfl,fun a w ha _=>by simp [execOp,ha.eval hx]⟩
theorem ZP {c:Operand} {b:Bool} (hc:ev M c=some (.bool b)) (hv:(if b then ev M x else ev M y)=some v) :
 EV P n ⟨some d,.pick c x y,ty,ps,af,g⟩ M L d (v):=
 ⟨rfl,fun a w ha _=>by
   cases b
   ·simp [execOp,ha.eval hc,asBool,ha.eval (x:=y) (by simpa using hv)]
   ·simp [execOp,ha.eval hc,asBool,ha.eval (x:=x) (by simpa using hv)]⟩
theorem qY {ad:Addr} (hx:ev M x=some (.pointer (some ad))) :
 EV P n ⟨some d,.nilCheck x,ty,ps,af,g⟩ M L d (.pointer (some ad)):=
 ⟨rfl,fun a w ha _=>by simp [execOp,ha.eval hx]⟩
theorem w9 {i:Nat} {vs:List Value} (hx:ev M x=some (.tuple vs.toArray)) (hv:nth vs i=some v) :
 EV P n ⟨some d,.extract x i,ty,ps,af,g⟩ M L d v:=
 ⟨rfl,fun a w ha _=>by rw [yu] at hv;simp [execOp,ha.eval hx,Instr.extract,hv]⟩
theorem Xl {b:Bool} {ty':TypeId} (hx:ev M x=some (.bool b)):EV P n ⟨some d,.unOp .not ty' x,ty,ps,af,g⟩ M L d (.bool (!b)):=
 ⟨rfl,fun a w ha _=>by simp [execOp,ha.eval hx,Op.unary]⟩
omit [W0] in
def zqv:BinOp→Int→Int→Option Bool
 |.eql,x,y=>some (x == y)|.neq,x,y=>some (x != y)|.lss,x,y=>some (x < y)|.leq,x,y=>some (x≤y)|.gtr,x,y=>some (x > y)|.geq,x,y=>some (x≥y)
 |_,_,_=>none
theorem Xi {op:BinOp} {t u:TypeId} {k:IntKind} {i j:Int} {b:Bool} (hx:ev M x=some (.int k i)) (hy:ev M y=some (.int k j)) (hb:zqv op i j=some b)
 :EV P n ⟨some d,.binOp op t x y u,ty,ps,af,g⟩ M L d (.bool b):=
 ⟨rfl,fun a w ha _=>by
   cases op<;>simp [zqv] at hb<;>subst hb<;>simp [execOp,ha.eval hx,ha.eval hy,eqGuard,binOp,Op.intCmp]⟩
omit [W0] in
def zdQ:BinOp→Int→Int→Option Int
 |.add,x,y=>some (x+y)|.sub,x,y=>some (x - y)|.mul,x,y=>some (x * y)
 |_,_,_=>none
theorem qj {op:BinOp} {t u:TypeId} {k:IntKind} {i j r:Int} (hx:ev M x=some (.int k i)) (hy:ev M y=some (.int k j)) (hb:zdQ op i j=some r)
 :EV P n ⟨some d,.binOp op t x y u,ty,ps,af,g⟩ M L d (.int k (k.wrap r)):=
 ⟨rfl,fun a w ha _=>by
   cases op<;>simp [zdQ] at hb<;>subst hb<;>simp [execOp,ha.eval hx,ha.eval hy,eqGuard,binOp,Op.intArith]⟩
theorem wrap_i64 {r:Int} (h1: -9223372036854775808≤r) (h2:r≤9223372036854775807):IntKind.i64.wrap r=r:=by
 simp [IntKind.wrap,IntKind.bits,IntKind.signed]
 split<;>omega
theorem qU {op:BinOp} {t u:TypeId} {i j r:Int} (hx:ev M x=some (.int .i64 i)) (hy:ev M y=some (.int .i64 j)) (hb:zdQ op i j=some r)
 (h1: -9223372036854775808≤r∧r≤9223372036854775807):EV P n ⟨some d,.binOp op t x y u,ty,ps,af,g⟩ M L d (.int .i64 r):=by
 have:=qj (P:=P) (n:=n) (L:=L) (d:=d) (ty:=ty) (ps:=ps) (af:=af) (g:=g) (op:=op) (t:=t) (u:=u) hx hy hb
 rwa [wrap_i64 h1.1 h1.2] at this
theorem Yx {t:TypeId} (h:zmA P t=false) (w:World):(isAgg t).run P w=.ok false w:=by
 unfold zmA at h
 cases hu:P.underlying t with
 |none=>simp [hu] at h
 |some D=>cases D<;>simp [hu] at h<;>simp [isAgg,underlying,hu]
theorem za7 {t:TypeId} (h:zmB P t=true) (w:World):(isAgg t).run P w=.ok true w:=by
 unfold zmB at h
 cases hu:P.underlying t with
 |none=>simp [hu] at h
 |some D=>cases D<;>simp [hu] at h<;>simp [isAgg,underlying,hu]
theorem cell_of {w:World} {b off:Nat} {c:Array Value} {T:TypeId} {fr:Nat × Nat} (hb:w.heap[b]? =some (.cells c T fr)):w.cell? ⟨b,off,none⟩=c[off]? :=by
 simp [World.cell?,hb]
theorem zq {t:TypeId} [hag:NA P t] {b off:Nat} {c:Array Value} {T:TypeId} {fr:Nat × Nat} (hx:ev M x=some (.pointer (some ⟨b,off,none⟩))) (hf:Fnd L b (.cells c T fr))
 (hc:c[off]? =some v):EV P n ⟨some d,.load t x,ty,ps,af,g⟩ M L d (v):=
 ⟨rfl,fun a w ha hw=>by
   have hcell:w.cell? ⟨b,off,none⟩=some v:=by rw [cell_of (hf.get hw),hc]
   simp [execOp,ha.eval hx,Instr.loadAt,Instr.sureAddr,loadVar,Yx hag.out,hcell]⟩
theorem zy {t:TypeId} [hag:NA P t] {b off:Nat} {l:List Value} {T:TypeId} (hx:ev M x=some (.pointer (some ⟨b,off,none⟩))) (hf:Fnd L b (cl l T))
 (hc:nth l off=some v):EV P n ⟨some d,.load t x,ty,ps,af,g⟩ M L d v:=
 zq hx hf (by simpa [yu] using hc)
theorem setCell_at {w:World} {b off:Nat} {c:Array Value} {T:TypeId} {fr:Nat × Nat} {v:Value} (hb:w.heap[b]? =some (.cells c T fr)) :
 (w.setCell ⟨b,off,none⟩ v).heap[b]? =some (.cells (c.setIfInBounds off v) T fr):=by
 simp [World.setCell,Array.getElem?_modify,hb]
theorem zbn {w:World} {b off e:Nat} {v:Value} (hne:e≠b):(w.setCell ⟨b,off,none⟩ v).heap[e]? =w.heap[e]? :=by
 simp only [World.setCell,Array.getElem?_modify]
 rw [if_neg (by intro h;exact hne h.symm)]
theorem wz {t:TypeId} {k:Nat} (h:(P.info? t).map (·.size)=some k) (w:World):(sizeOf t).run P w=.ok k w:=by
 cases hi:P.info? t with
 |none=>simp [hi] at h
 |some i=>simp [hi] at h;simp [sizeOf,typeInfo,hi,h]
theorem qL {t:TypeId} [hs:SZ P t 1] {b off:Nat} {l:List Value} {T:TypeId} {L':List Chunk} (hx:ev M x=some (.pointer (some ⟨b,off,none⟩))) (hy:ev M y=some v) (hv:v.oneCell'=true)
 (hu:Upd L b (cl l T) (cl (l.set off v) T) L') (hlt:off < l.length) (h:K M L') :
 OW P n ⟨none,.store t x y,ty,ps,af,g⟩ K M L:=⟨fun a w next Q ha hw hk=>by
 have hb:=hu.fnd.get hw
 have hcell:w.cell? ⟨b,off,none⟩=some l[off]:=by rw [cell_of hb];simp [hlt]
 have hfz:w.frozen? ⟨b,off,none⟩=false:=by simp [World.frozen?,hb,cl]
 have hcs:v.cells=#[v]:=by cases v<;>simp [Value.oneCell'] at hv<;>rfl
 have hrun:(execOp a.eval ⟨none,.store t x y,ty,ps,af,g⟩).run P w=.ok .skip (w.setCell ⟨b,off,none⟩ v):=by
  simp [execOp,ha.eval hx,ha.eval hy,Instr.storeAt,Instr.sureAddr,storeVar,wz hs.out,hcs,storeCells,run_store _ _ _ _ _ hv,Addr.add,hcell,hfz]
 unfold Oper.wp
 rw [hrun,Oper.upon_skip]
 refine (hk _ _ h).out _ _ ha (hw.upd hu ?_ ?_ rfl rfl)
 ·rw [setCell_at hb];simp [cl]
 ·exact fun c hc=>zbn hc⟩
theorem yH {s:TypeId} {f k:Nat} [hF:FO P s f k] {b off:Nat} (hx:ev M x=some (.pointer (some ⟨b,off,none⟩)))
 :EV P n ⟨some d,.fieldAddr s x f,ty,ps,af,g⟩ M L d (.pointer (some ⟨b,off+k,none⟩)):=
 ⟨rfl,fun a w ha _=>by
   have hF:=hF.out
   unfold zjT at hF
   split at hF
   ·rename_i fs hu
    split at hF
    ·rename_i fd hf
     split at hF
     ·rename_i i hi
      split at hF
      ·rename_i hz
       simp at hF
       subst hF
       have hne:i.size≠0:=by rw [Nat.blt_eq] at hz;omega
       simp [execOp,ha.eval hx,Instr.fieldAt,Instr.sureAddr,fieldPlace,underlying,hu,hf,sizeOf,typeInfo,hi,hne]
       unfold Addr.add
       split<;>simp_all
      ·simp at hF
     ·simp at hF
    ·simp at hF
   ·simp at hF⟩
theorem qm {s:TypeId} {f k:Nat} [hF:FO P s f k] {b:Nat} (hx:ev M x=some (.pointer (some ⟨b,0,none⟩))) :
 EV P n ⟨some d,.fieldAddr s x f,ty,ps,af,g⟩ M L d (.pointer (some ⟨b,k,none⟩)):=by
 have:=yH (P:=P) (n:=n) (L:=L) (d:=d) (ty:=ty) (ps:=ps) (af:=af) (g:=g) (s:=s) (f:=f) hx
 rwa [Nat.zero_add] at this
end
structure Gv (P:Program) (f:FuncId) (args:Array Value) (L:List Chunk) (post:Value→List Chunk→Prop):Prop where
 out:∀w,Holds w L→Calls P f args w fun e w'=>∃v L',e=.returned v∧post v L'∧Holds w' L'
section
variable {P : Program} {n : Nat} {Q : Exit → Act → World → Prop} {M : List (Nat × Value)} {L : List Chunk} {K : List (Nat × Value) → List Chunk → Prop}
variable {d : Nat} {ty : TypeId} {ps : String} {af : Array Edge} {g : Option (Nat × Bool)} {x y : Operand} {v : Value}
omit [W0] in
def evs (M:List (Nat × Value)):List Operand→Option (List Value)
 |[]=>some []
 |x::r=>match ev M x,evs M r with
  |some v,some vs=>some (v::vs)
  |_,_=>none
theorem St.evals {a:Act} (h:St n M a):∀{xs:List Operand} {vs:List Value},evs M xs=some vs→xs.map a.eval=vs
 |[],vs,he=>by simp [evs] at he;subst he;rfl
 |x::r,vs,he=>by
  unfold evs at he
  split at he
  ·rename_i v vs' h1 h2
   simp at he;subst he
   simp [h.eval h1,St.evals h h2]
  ·simp at he
theorem ZU {f:FuncId} (h:zi7 P f=true) (args:Array Value) (w:World):(callFunc f args).run P w=.ok (.enter f args) w:=by
 unfold zi7 at h
 cases hf:P.funcs[f]? with
 |none=>simp [hf] at h
 |some fn=>
  simp [hf] at h
  have h2:fn.body.isNone=false:=by cases hb:fn.body<;>simp_all
  simp only [callFunc,Sem.run_bind,run_program,Result.andThen_ok,hf]
  rw [if_neg (by simpa using h.1),if_neg (by simp [h2])]
  rfl
theorem qF {f:FuncId} [hb:BD P f] {xs:List Operand} {ats:Array TypeId} {first cap:Array Value} {vs:List Value} {args:Array Value} {post:Value→List Chunk→Prop}
 (hx:ev M x=some (.func (.func f) first cap)) (hvs:evs M xs=some vs) (hargs:first++vs.toArray++cap=args) (hspec:Gv P f args L post)
 (hn:Nat.blt d n=true) (h:∀v L',post v L'→K ((d,v)::M) L'):OW P n ⟨some d,.call ⟨.value x,xs.toArray,ats⟩,ty,ps,af,g⟩ K M L:=⟨fun a w next Q ha hw hk=>by
 subst hargs
 have hrun:(execOp a.eval ⟨some d,.call ⟨.value x,xs.toArray,ats⟩,ty,ps,af,g⟩).run P w=.ok (.enter f (first++vs.toArray++cap)) w:=by
  have hm:Array.map a.eval xs.toArray=vs.toArray:=by
   rw [←ha.evals hvs];simp
  simp only [execOp,resolve,ha.eval hx,hm,Deferred.ofValue,Sem.run_bind,Sem.run_pure,Result.andThen_ok,invoke,ZU hb.out]
 unfold Oper.wp
 rw [hrun,Oper.upon_enter]
 refine (hspec.out w hw).mono fun e w' he=>?_
 obtain ⟨v,L',rfl,hp,hw'⟩:=he
 exact (hk _ _ (h v L' hp)).out _ _ (ha.put v hn) hw'⟩
theorem Gv.mono {f:FuncId} {args:Array Value} {post post':Value→List Chunk→Prop} (h:Gv P f args L post) (hp:∀v L',post v L'→post' v L'):Gv P f args L post':=
 ⟨fun w hw=>(h.out w hw).mono fun _ _ he=>let ⟨v,L',h1,h2,h3⟩:=he;⟨v,L',h1,hp v L' h2,h3⟩⟩
theorem Gv.holds {f:FuncId} {args:Array Value} {post:Value→List Chunk→Prop} {L':List Chunk} (h:Gv P f args L' post) (hl:∀w,Holds w L→Holds w L'):Gv P f args L post:=
 ⟨fun w hw=>h.out w (hl w hw)⟩
theorem Gv.take {f:FuncId} {args:Array Value} {post:Value→List Chunk→Prop} {L':List Chunk} {C:Chunk} (h:Gv P f args (C::L') post) (ht:Take C L L'):Gv P f args L post:=
 h.holds fun _ hw=>hw.take ht
omit [W0] in
def params:Nat→List Value→List (Nat × Value)
 |_,[]=>[]
 |i,v::r=>(i,v)::params (i+1) r
theorem Z7:∀(args:List Value) (i t:Nat) (v:Value),lk (params i args) t=some v→i≤t∧args[t - i]? =some v
 |[],i,t,v,h=>by simp [params,lk] at h
 |u::r,i,t,v,h=>by
  unfold params lk at h
  cases hb:Nat.beq i t with
  |true=>
   have:=Nat.eq_of_beq_eq_true hb
   subst this
   rw [hb] at h
   simp at h;subst h;simp
  |false=>
   rw [hb] at h
   obtain ⟨h1,h2⟩:=Z7 r (i+1) t v h
   refine ⟨by omega,?_⟩
   have:t - i=(t - (i+1))+1:=by omega
   rw [this];simpa using h2
theorem Gv.of_body {f:FuncId} {fn:Func} {c:Code} {args:List Value} {post:Value→List Chunk→Prop} (hf:P.funcs[f]? =some fn) (hb:fn.body=some c) (hle:Nat.ble args.length fn.ntmps=true)
 (h:WC P fn.ntmps c (bodyPost P fn (fun e w'=>∃v L',e=.returned v∧post v L'∧Holds w' L')) (params 0 args) L):Gv P f args.toArray L post:=⟨fun w hw=>by
 refine calls_of_wp hf hb (h.out _ w ⟨rfl,?_,?_⟩ hw)
 ·have:=Nat.le_of_ble_eq_true hle
  simp;omega
 ·intro t v ht
  obtain ⟨_,h2⟩:=Z7 args 0 t v ht
  have h2':args[t]? =some v:=by simpa using h2
  have hlt:t < args.length:=by
   rcases Nat.lt_or_ge t args.length with h'|h'
   ·exact h'
   ·simp [List.getElem?_eq_none h'] at h2'
  rw [Array.getElem?_append_left (by simpa using hlt)]
  simpa using h2'⟩
omit [W0] in
def Yj (M:List (Nat × Value)):List ResultVar→Option (List Value)
 |[]=>some []
 |.tmp t::r=>match lk M t,Yj M r with
  |some v,some vs=>some (v::vs)
  |_,_=>none
 |.cell .. ::_=>none
omit [W0] in
def zV:List Value→Value
 |[v]=>v
 |vs=>.tuple vs.toArray
omit [W0] in
def Xz (tmps:Array Value):ResultVar→Sem Value
 |.tmp t=>pure (tmps.getD t undef)
 |.cell x t=>do loadVar t (←asAddr (tmps.getD x undef))
theorem zbl (fn:Func) (tmps:Array Value):results fn tmps=(do
 let vs ←fn.results.mapM (Xz tmps)
 pure (if h:vs.size=1 then vs[0] else .tuple vs)):=by
 unfold results
 congr 2
theorem zeE {a:Act} {w:World} (ha:St n M a):∀{rs:List ResultVar} {vs:List Value},Yj M rs=some vs→
 (rs.mapM (Xz a.tmps)).run P w=.ok vs w
 |[],vs,h=>by simp [Yj] at h;subst h;rfl
 |.tmp t::r,vs,h=>by
  unfold Yj at h
  split at h
  ·rename_i v vs' h1 h2
   simp at h;subst h
   have:=zeE (w:=w) ha h2
   simp [List.mapM_cons,this,Xz,Array.getD_eq_getD_getElem?,ha.get t v h1]
  ·simp at h
 |.cell _ _::_,vs,h=>by simp [Yj] at h
theorem uI {a:Act} {w:World} {fn:Func} {rs:List ResultVar} {vs:List Value} (ha:St n M a) (hr:fn.results=rs.toArray) (h:Yj M rs=some vs) :
 (results fn a.tmps).run P w=.ok (zV vs) w:=by
 rw [zbl,hr]
 simp only [List.mapM_toArray,Sem.run_bind,Sem.run_map,zeE ha h,Result.andThen_ok,Sem.run_pure]
 match vs with
 |[]=>simp [zV]
 |[v]=>simp [zV]
 |v::u::r=>simp [zV]
end
end Go.Vx
namespace Go.Vx
open Go
set_option linter.all false
variable [W0]
section
variable {P : Program} {n : Nat} {Q : Exit → Act → World → Prop} {M : List (Nat × Value)} {L : List Chunk} {K : List (Nat × Value) → List Chunk → Prop}
variable {d : Nat} {ty : TypeId} {ps : String} {af : Array Edge} {g : Option (Nat × Bool)} {x y : Operand} {v : Value}
theorem SL.parts {T e k b:Nat} (h:SL P T e k b):P.underlying T=some (.slice e)∧∃i,P.info? e=some i∧i.size=k∧i.bytes=b∧0 < k:=by
 have h:=h.out
 unfold zhw at h
 split at h
 ·rename_i e' hu
  split at h
  ·rename_i i hi
   split at h
   ·rename_i hz
    simp at h
    obtain ⟨rfl,rfl,rfl⟩:=h
    rw [Nat.blt_eq] at hz
    exact ⟨hu,i,hi,rfl,rfl,hz⟩
   ·simp at h
  ·simp at h
 ·simp at h
theorem addr_add {b off k:Nat}:(⟨b,off,none⟩:Addr).add k=⟨b,off+k,none⟩:=by
 unfold Addr.add;split<;>simp_all
theorem zi {T e k by_:Nat} [hs:SL P T e k by_] {b off len cap j:Nat} {kk:IntKind} {i:Int} (hx:ev M x=some (.slice (some ⟨b,off,none⟩) len cap)) (hy:ev M y=some (.int kk i))
 (hj:i=(j:Int)) (hlt:j < len) :
 EV P n ⟨some d,.indexAddr T x y,ty,ps,af,g⟩ M L d (.pointer (some ⟨b,off+j * k,none⟩)):=
 ⟨rfl,fun a w ha _=>by
   obtain ⟨hu,i',hi,hk,_,hk0⟩:=hs.parts
   subst hj
   have h2:(j:Int) < (len:Int):=by omega
   simp [execOp,ha.eval hx,ha.eval hy,Instr.indexAt,asIntOf,underlying,hu,sizeOf,typeInfo,hi,hk,addr_add,h2,hlt]⟩
theorem zh {T e k by_:Nat} [hs:SL P T e k by_] {b len cap j:Nat} {kk:IntKind} {i:Int} (hx:ev M x=some (.slice (some ⟨b,0,none⟩) len cap)) (hy:ev M y=some (.int kk i))
 (hj:i=(j:Int)) (hlt:j < len):EV P n ⟨some d,.indexAddr T x y,ty,ps,af,g⟩ M L d (.pointer (some ⟨b,j * k,none⟩)):=by
 have:=zi (P:=P) (n:=n) (L:=L) (d:=d) (ty:=ty) (ps:=ps) (af:=af) (g:=g) (T:=T) hx hy hj hlt
 rwa [Nat.zero_add] at this
theorem yK {T:Nat} [hs:ST P T] {s:ByteArray} {j:Nat} {kk:IntKind} {i:Int} {u:UInt8} (hx:ev M x=some (.string s)) (hy:ev M y=some (.int kk i))
 (hj:i=(j:Int)) (hu:s[j]? =some u) :
 EV P n ⟨some d,.index T x y,ty,ps,af,g⟩ M L d (.int .u8 (u.toNat:Int)):=
 ⟨rfl,fun a w ha _=>by
   subst hj
   simp [execOp,ha.eval hx,ha.eval hy,Instr.index,asIntOf,underlying,hs.out,hu]⟩
theorem Za {T e k by_:Nat} [hs:SL P T e k by_] {b:Option Addr} {len cap:Nat} (hx:ev M x=some (.slice b len cap))
 :EV P n ⟨some d,.call ⟨.builtin .len,#[x],#[T]⟩,ty,ps,af,g⟩ M L d (.int .i64 (len:Int)):=
 ⟨rfl,fun a w ha _=>by
   obtain ⟨hu,_⟩:=hs.parts
   simp [execOp,resolve,invoke,builtin,ha.eval hx,Builtin.len_,underlying,hu,goInt]⟩
theorem u7 {T e k by_:Nat} [hs:SL P T e k by_] {b:Option Addr} {len cap:Nat} (hx:ev M x=some (.slice b len cap))
 :EV P n ⟨some d,.call ⟨.builtin .cap,#[x],#[T]⟩,ty,ps,af,g⟩ M L d (.int .i64 (cap:Int)):=
 ⟨rfl,fun a w ha _=>by
   obtain ⟨hu,_⟩:=hs.parts
   simp [execOp,resolve,invoke,builtin,ha.eval hx,Builtin.cap_,underlying,hu,goInt]⟩
theorem vQ {T:Nat} [hs:ST P T] {s:ByteArray} (hx:ev M x=some (.string s))
 :EV P n ⟨some d,.call ⟨.builtin .len,#[x],#[T]⟩,ty,ps,af,g⟩ M L d (.int .i64 (s.size:Int)):=
 ⟨rfl,fun a w ha _=>by
   simp [execOp,resolve,invoke,builtin,ha.eval hx,Builtin.len_,underlying,hs.out,goInt]⟩
theorem Xk {t u:TypeId} {k:IntKind} {i j:Int} (hx:ev M x=some (.int k i)) (hy:ev M y=some (.int k j))
 :EV P n ⟨some d,.call ⟨.builtin .min,#[x,y],#[t,u]⟩,ty,ps,af,g⟩ M L d (.int k (min i j)):=
 ⟨rfl,fun a w ha _=>by
   have e:(if j < i then j else i)=min i j:=by rw [Int.min_def];split<;>split<;>omega
   simp [execOp,resolve,invoke,builtin,ha.eval hx,ha.eval hy,Builtin.min_,Builtin.min2,e]⟩
theorem Xj {t u:TypeId} {k:IntKind} {i j:Int} (hx:ev M x=some (.int k i)) (hy:ev M y=some (.int k j))
 :EV P n ⟨some d,.call ⟨.builtin .max,#[x,y],#[t,u]⟩,ty,ps,af,g⟩ M L d (.int k (max i j)):=
 ⟨rfl,fun a w ha _=>by
   have e:(if i < j then j else i)=max i j:=by rw [Int.max_def];split<;>split<;>omega
   simp [execOp,resolve,invoke,builtin,ha.eval hx,ha.eval hy,Builtin.max_,Builtin.max2,e]⟩
omit [W0] in
def bnd (M:List (Nat × Value)):Option Operand→Nat→Option Int
 |none,dflt=>some dflt
 |some x,_=>match ev M x with|some (.int _ i)=>some i|_=>none
theorem qO {isS:Bool} {len cap:Nat} {lo hi:Option Operand} {l h:Nat} {a:Act} (ha:St n M a) (hl:bnd M lo 0=some (l:Int)) (hh:bnd M hi len=some (h:Int)) (h1:l≤h) (h2:h≤cap) (w:World) :
 (Instr.sliceBounds isS len cap (lo.map a.eval) (hi.map a.eval) none).run P w=.ok (l,h,cap) w:=by
 have hlow:∀(x:Operand) (z:Int),bnd M (some x) 0=some z→∃q,a.eval x=.int q z:=by
  intro x z hz
  simp only [bnd] at hz
  split at hz
  ·rename_i kk i he;simp at hz;subst hz;exact ⟨kk,ha.eval he⟩
  ·simp at hz
 cases lo with
 |none=>
  have:l=0:=by simp [bnd] at hl;omega
  subst this
  cases hi with
  |none=>
   have:len=h:=by simp [bnd] at hh;omega
   subst this
   simp [Instr.sliceBounds]
  |some y=>
   obtain ⟨k2,e2⟩:=hlow y _ hh
   simp [Instr.sliceBounds,Instr.sliceBound,e2,asIntOf,h1,h2]
 |some x=>
  obtain ⟨k1,e1⟩:=hlow x _ hl
  cases hi with
  |none=>
   have:len=h:=by simp [bnd] at hh;omega
   subst this
   simp [Instr.sliceBounds,Instr.sliceBound,e1,asIntOf,h1,h2]
  |some y=>
   obtain ⟨k2,e2⟩:=hlow y _ hh
   simp [Instr.sliceBounds,Instr.sliceBound,e1,e2,asIntOf,h1,h2]
theorem QI {T:Nat} [hs:ST P T] {s:ByteArray} {lo hi:Option Operand} {l h:Nat} (hx:ev M x=some (.string s)) (hl:bnd M lo 0=some (l:Int)) (hh:bnd M hi s.size=some (h:Int))
 (h1:l≤h) (h2:h≤s.size):EV P n ⟨some d,.slice T x lo hi none,ty,ps,af,g⟩ M L d (.string (s.extract l h)):=
 ⟨rfl,fun a w ha _=>by
   simp [execOp,ha.eval hx,Instr.sliceAt,Instr.slice,underlying,hs.out,qO ha hl hh h1 h2]⟩
theorem yS {T e k by_:Nat} [hs:SL P T e k by_] {b off len cap:Nat} {lo hi:Option Operand} {l h:Nat} (hx:ev M x=some (.slice (some ⟨b,off,none⟩) len cap)) (hl:bnd M lo 0=some (l:Int)) (hh:bnd M hi len=some (h:Int))
 (h1:l≤h) (h2:h≤cap):EV P n ⟨some d,.slice T x lo hi none,ty,ps,af,g⟩ M L d (.slice (some ⟨b,if cap=l then off else off+l * k,none⟩) (h - l) (cap - l)):=
 ⟨rfl,fun a w ha _=>by
   obtain ⟨hu,i',hi',hk',_,hk0⟩:=hs.parts
   simp [execOp,ha.eval hx,Instr.sliceAt,Instr.slice,underlying,hu,qO ha hl hh h1 h2,sizeOf,typeInfo,hi',hk',addr_add]
   split<;>simp_all⟩
theorem qE {T e k by_:Nat} [hs:SL P T e k by_] {b off len cap:Nat} {lo hi:Option Operand} {h:Nat} (hx:ev M x=some (.slice (some ⟨b,off,none⟩) len cap)) (hl:bnd M lo 0=some ((0:Nat):Int)) (hh:bnd M hi len=some (h:Int))
 (h2:h≤cap):EV P n ⟨some d,.slice T x lo hi none,ty,ps,af,g⟩ M L d (.slice (some ⟨b,off,none⟩) h cap):=by
 have:=yS (P:=P) (n:=n) (L:=L) (d:=d) (ty:=ty) (ps:=ps) (af:=af) (g:=g) (T:=T) hx hl hh (Nat.zero_le _) h2
 have e:(if cap=0 then off else off+0 * k)=off:=by split<;>simp
 rw [e] at this
 simpa using this
theorem Yn {T e k by_:Nat} [hs:SL P T e k by_] {lo hi:Option Operand} (hx:ev M x=some (.slice none 0 0)) (hl:bnd M lo 0=some ((0:Nat):Int)) (hh:bnd M hi 0=some ((0:Nat):Int))
 :EV P n ⟨some d,.slice T x lo hi none,ty,ps,af,g⟩ M L d (.slice none 0 0):=
 ⟨rfl,fun a w ha _=>by
   obtain ⟨hu,i',hi',hk',_,hk0⟩:=hs.parts
   simp [execOp,ha.eval hx,Instr.sliceAt,Instr.slice,underlying,hu,qO ha hl hh (Nat.le_refl _) (Nat.le_refl _),sizeOf,typeInfo,hi']⟩
omit [W0] in
def cut (l:List Value) (off k:Nat):List Value:=(l.drop off).take k
omit [W0] in
def patch (l:List Value) (off:Nat) (vs:List Value):List Value:=l.take off++vs++l.drop (off+vs.length)
theorem zmW {l:List Value} {off k j:Nat} (h:j < k):(cut l off k)[j]? =l[off+j]? :=by
 simp [cut,List.getElem?_take,h]
omit [W0] in
def zK (L:List Chunk) (a:Addr) (vs:List Value):Prop:=
 vs=[]∨∃b off c T fr,a=⟨b,off,none⟩∧Fnd L b (.cells c T fr)∧∀j u,vs[j]? =some u→c[off+j]? =some u
theorem zK.cells {a:Addr} {vs:List Value} (h:zK L a vs) {w:World} (hw:Holds w L):∀j u,vs[j]? =some u→w.cell? (a.add j)=some u:=by
 intro j u hj
 rcases h with rfl|⟨b,off,c,T,fr,rfl,hf,hc⟩
 ·simp at hj
 ·rw [addr_add,cell_of (hf.get hw)];exact hc j u hj
theorem zK.cl {b off:Nat} {l:List Value} {T:TypeId} {k:Nat} (hf:Fnd L b (Vx.cl l T)):zK L ⟨b,off,none⟩ (cut l off k):=by
 refine .inr ⟨b,off,l.toArray,T,(0,0),rfl,hf,fun j u hj=>?_⟩
 have hlt:j < k:=by
  rcases Nat.lt_or_ge j k with h'|h'
  ·exact h'
  ·rw [List.getElem?_eq_none (by simp [cut];omega)] at hj;simp at hj
 rw [zmW hlt] at hj
 simpa using hj
theorem zK.cl' {b off:Nat} {l vs:List Value} {T:TypeId} (hf:Fnd L b (Vx.cl l T)) (hv:cut l off vs.length=vs):zK L ⟨b,off,none⟩ vs:=by
 have:=zK.cl (off:=off) (k:=vs.length) hf
 rwa [hv] at this
theorem zB {t k:Nat} [hag:AG P t k] {a:Addr} {vs:List Value} (hx:ev M x=some (.pointer (some a))) (hr:zK L a vs) (hl:vs.length=k)
 :EV P n ⟨some d,.load t x,ty,ps,af,g⟩ M L d (.agg vs.toArray):=
 ⟨rfl,fun a' w ha hw=>by
   have hrun:=run_loadCells_list (P:=P) w a vs (hr.cells hw)
   rw [hl] at hrun
   simp [execOp,ha.eval hx,Instr.loadAt,Instr.sureAddr,loadVar,za7 hag.out.1,wz hag.out.2,hrun]⟩
theorem Holds.row {w:World} {L':List Chunk} {b:Nat} {l l':List Value} {T:TypeId} (hw:Holds w L) (hu:Upd L b (cl l T) (cl l' T) L'):Holds (w.setRow b l'.toArray) L':=by
 refine hw.upd hu ?_ (fun c hc=>setRow_other w b c _ hc) rfl rfl
 exact setRow_heap w b l.toArray _ T (0,0) (hu.fnd.get hw)
omit [W0] in
def ones (vs:List Value):Bool:=vs.all Value.oneCell'
theorem X9 {vs:List Value} (h:ones vs=true):∀v∈vs,v.oneCell'=true:=by simpa [ones] using h
theorem wG {w:World} {L':List Chunk} {b off:Nat} {l vs:List Value} {T:TypeId} (hw:Holds w L) (hu:Upd L b (cl l T) (cl (patch l off vs) T) L') (hfit:off+vs.length≤l.length) (h1:ones vs=true) :
 (storeCells ⟨b,off,none⟩ vs).run P w=.ok () (w.setRow b (patch l off vs).toArray):=by
 have:=run_storeCells_at P b off T vs 0 l.toArray w (hu.fnd.get hw) (by simpa using hfit) (X9 h1)
 simpa [patch] using this
theorem QJ {t k:Nat} [hag:AG P t k] {b off:Nat} {l vs:List Value} {T:TypeId} {L':List Chunk} (hx:ev M x=some (.pointer (some ⟨b,off,none⟩))) (hy:ev M y=some (.agg vs.toArray)) (hl:vs.length=k)
 (h1:ones vs=true) (hu:Upd L b (cl l T) (cl (patch l off vs) T) L') (hfit:off+vs.length≤l.length) (h:K M L') :
 OW P n ⟨none,.store t x y,ty,ps,af,g⟩ K M L:=⟨fun a w next Q ha hw hk=>by
 have hrun:(execOp a.eval ⟨none,.store t x y,ty,ps,af,g⟩).run P w=.ok .skip (w.setRow b (patch l off vs).toArray):=by
  have:=wG (P:=P) hw hu hfit h1
  simp [execOp,ha.eval hx,ha.eval hy,Instr.storeAt,Instr.sureAddr,storeVar,wz hag.out.2,Value.cells,hl,this]
 unfold Oper.wp
 rw [hrun,Oper.upon_skip]
 exact (hk _ _ h).out _ _ ha (hw.row hu)⟩
theorem uX {o:Oper} {ob:Obj} {f:Nat→Value} (hd:o.dst=some d) (hn:Nat.blt d n=true)
 (hr:∀a w,St n M a→Holds w L→(execOp a.eval o).run P w=.ok (.value (f w.heap.size)) (w.alloc ob)) (h:∀b,K ((d,f b)::M) ([(b,ob)]::L)):OW P n o K M L:=⟨fun a w next Q ha hw hk=>by
 unfold Oper.wp
 rw [hr a w ha hw,Oper.upon_value,hd]
 exact (hk _ _ (h w.heap.size)).out _ _ (ha.put _ hn) (hw.alloc ob)⟩
theorem vN {t:TypeId} {z:Value} (h:(P.info? t).map (·.zero)=some (some z)) (w:World):(zeroValue t).run P w=.ok z w:=by
 cases hi:P.info? t with
 |none=>simp [hi] at h
 |some i=>simp [hi] at h;simp [zeroValue,typeInfo,hi,h]
theorem wQ {t:Nat} {z:Value} [hz:ZV P t z] (hn:Nat.blt d n=true) (h:∀b,K ((d,.pointer (some ⟨b,0,none⟩))::M) ([(b,cl z.cells.toList t)]::L)) :
 OW P n ⟨some d,.alloc t,ty,ps,af,g⟩ K M L:=
 uX (f:=fun b=>.pointer (some ⟨b,0,none⟩)) rfl hn (fun a w ha hw=>by
  simp [execOp,Instr.alloc,vN hz.out,newVar,newRow,cl]) h
theorem ziH {t:Nat} (hx:ev M x=some v) (hn:Nat.blt d n=true) (h:∀b,K ((d,.pointer (some ⟨b,0,none⟩))::M) ([(b,cl v.cells.toList t)]::L)) :
 OW P n ⟨some d,.box t x,ty,ps,af,g⟩ K M L:=
 uX (f:=fun b=>.pointer (some ⟨b,0,none⟩)) rfl hn (fun a w ha hw=>by
  simp [execOp,Instr.box,ha.eval hx,newVar,newRow,cl]) h
theorem yM {t:Nat} [hi:NI P t] (hx:ev M x=some v) :
 EV P n ⟨some d,.makeInterface t x,ty,ps,af,g⟩ M L d (.iface t v):=
 ⟨rfl,fun a w ha _=>by
   have h2:=hi.out
   unfold X8 at h2
   cases hu:P.underlying t with
   |none=>simp [hu] at h2
   |some D=>cases D<;>simp [hu] at h2<;>simp [execOp,Instr.makeInterface,ha.eval hx,underlying,hu]⟩
theorem qX {f:Fn} {xs ys:List Operand} {vs us:List Value} (hx:evs M xs=some vs) (hy:evs M ys=some us) :
 EV P n ⟨some d,.makeFunc f xs.toArray ys.toArray,ty,ps,af,g⟩ M L d (.func f vs.toArray us.toArray):=
 ⟨rfl,fun a w ha _=>by
   have e1:Array.map a.eval xs.toArray=vs.toArray:=by rw [←ha.evals hx];simp
   have e2:Array.map a.eval ys.toArray=us.toArray:=by rw [←ha.evals hy];simp
   simp only [execOp,Instr.makeFunc,e1,e2,Sem.run_bind,Sem.run_pure,Result.andThen_ok]⟩
theorem qC {t u:Nat} [hi:NI P u] (hx:ev M x=some (.iface u v)) :
 EV P n ⟨some d,.typeAssert x t u true,ty,ps,af,g⟩ M L d (.tuple #[v,.bool true]):=
 ⟨rfl,fun a w ha _=>by
   have h2:=hi.out
   unfold X8 at h2
   cases hu:P.underlying u with
   |none=>simp [hu] at h2
   |some D=>cases D<;>simp [hu] at h2<;>simp [execOp,Instr.typeAssert,ha.eval hx,underlying,hu]⟩
theorem qV {t u r:Nat} {z:Value} [hi:NI P u] [hz:ZV P u z] (hx:ev M x=some (.iface r v)) (hne:Nat.beq r u=false) :
 EV P n ⟨some d,.typeAssert x t u true,ty,ps,af,g⟩ M L d (.tuple #[z,.bool false]):=
 ⟨rfl,fun a w ha _=>by
   have hne':¬r=u:=by intro e;subst e;simp at hne
   have h2:=hi.out
   unfold X8 at h2
   cases hu:P.underlying u with
   |none=>simp [hu] at h2
   |some D=>cases D<;>simp [hu] at h2<;>simp [execOp,Instr.typeAssert,ha.eval hx,underlying,hu,hne',vN hz.out]⟩
theorem toList_inj {s r:ByteArray}:s.toList=r.toList↔s=r:=by
 rw [ByteArray.toList_eq,ByteArray.toList_eq]
 constructor
 ·intro h
  cases s;cases r
  simp only [ByteArray.mk.injEq]
  exact Array.ext' h
 ·intro h;rw [h]
theorem uy {t u:TypeId} {s r:ByteArray} (hx:ev M x=some (.string s)) (hy:ev M y=some (.string r)) :
 EV P n ⟨some d,.binOp .eql t x y u,ty,ps,af,g⟩ M L d (.bool (decide (s=r))):=
 ⟨rfl,fun a w ha _=>by
   have e:(s.toList == r.toList)=decide (s=r):=by rw [Bool.eq_iff_iff];simp [toList_inj]
   simp [execOp,ha.eval hx,ha.eval hy,eqGuard,binOp,Op.stringOp,e]⟩
theorem Zc {t u:TypeId} {s r:ByteArray} (hx:ev M x=some (.string s)) (hy:ev M y=some (.string r)) :
 EV P n ⟨some d,.binOp .neq t x y u,ty,ps,af,g⟩ M L d (.bool (!decide (s=r))):=
 ⟨rfl,fun a w ha _=>by
   have e:(s.toList == r.toList)=decide (s=r):=by rw [Bool.eq_iff_iff];simp [toList_inj]
   simp [execOp,ha.eval hx,ha.eval hy,eqGuard,binOp,Op.stringOp,e]⟩
theorem Zb {t u:TypeId} {s r:ByteArray} (hx:ev M x=some (.string s)) (hy:ev M y=some (.string r)) :
 EV P n ⟨some d,.binOp .lss t x y u,ty,ps,af,g⟩ M L d (.bool (Op.bytesLess s.toList r.toList)):=
 ⟨rfl,fun a w ha _=>by simp [execOp,ha.eval hx,ha.eval hy,eqGuard,binOp,Op.stringOp]⟩
theorem zhK {t u:TypeId} {s r:ByteArray} (hx:ev M x=some (.string s)) (hy:ev M y=some (.string r)) (hs:s.size+r.size≤9223372036854775807) :
 EV P n ⟨some d,.binOp .add t x y u,ty,ps,af,g⟩ M L d (.string (s++r)):=
 ⟨rfl,fun a w ha _=>by
   simp [execOp,ha.eval hx,ha.eval hy,eqGuard,binOp,Op.stringOp]
   omega⟩
theorem zO {s t:Nat} {k k':IntKind} [h1:IK P s k] [h2:IK P t k'] {i r:Int} (hx:ev M x=some (.int k i)) (hr:k'.wrap i=r) :
 EV P n ⟨some d,.convert s t x,ty,ps,af,g⟩ M L d (.int k' r):=
 ⟨rfl,fun a w ha _=>by
   simp [execOp,ha.eval hx,convert,underlying,h1.out,h2.out,Conv.intToInt,hr]⟩
theorem ZQ {t u:TypeId} {k k':IntKind} {i j r:Int} (hx:ev M x=some (.int k i)) (hy:ev M y=some (.int k' j)) (hj:0≤j) (hr:i.fdiv (2 ^ (min j.toNat k.bits))=r)
 :EV P n ⟨some d,.binOp .shr t x y u,ty,ps,af,g⟩ M L d (.int k r):=
 ⟨rfl,fun a w ha _=>by
   have:¬j < 0:=by omega
   simp [execOp,ha.eval hx,ha.eval hy,eqGuard,binOp,Op.shift,this,hr]⟩
omit [W0] in
def Ow (e k:Nat) (v:Value) (m:Nat) (xs:List Value) (C:Chunk):Prop:=
 (v=.slice none 0 0∧m=0∧xs=[]∧C=[])∨
 ∃b cap rest,v=.slice (some ⟨b,0,none⟩) m cap∧C=[(b,cl (xs++rest) e)]∧xs.length=m * k∧rest.length=(cap - m) * k∧m≤cap∧cap≤maxLen
omit [W0] in
def Sl (L:List Chunk) (k:Nat) (v:Value) (m:Nat) (xs:List Value):Prop:=
 (∃c,v=.slice none 0 c∧m=0∧xs=[])∨∃a cap,v=.slice (some a) m cap∧zK L a xs∧xs.length=m * k
omit [W0] in
inductive Zip (C:Chunk):List Chunk→List Chunk→List Chunk→Prop
 |here (B):Zip C (C::B) [] B
 |there (D) {L A B}:Zip C L A B→Zip C (D::L) (D::A) B
theorem Zip.eq {C:Chunk} {L A B:List Chunk} (h:Zip C L A B):L=A++C::B:=by
 induction h with
 |here B=>rfl
 |there D _ ih=>simp [ih]
theorem Upd.front {L0:List Chunk} {b:Nat} {o o':Obj}:Upd ([(b,o)]::L0) b o o' ([(b,o')]::L0):=.here
theorem run_append_own' {t e k by_:Nat} {z:Value} (hs:SL P t e k by_) (hz:ZV P e z) (hzk:z.cells.size=k) {v r:Value} {m c:Nat} {xs ys:List Value} {C:Chunk} (hown:Ow e k v m xs C) {L0:List Chunk}
 (hsl:Sl (C::L0) k r c ys) (h1:ones ys=true) (hb:(m+c) * by_≤140737488355328) (h63:m+c≤maxLen) {w:World} (hw:Holds w (C::L0)) :
 ∃v' C' w',(Builtin.append_ #[t,t] ty #[v,r]).run P w=.ok v' w'∧Ow e k v' (m+c) (xs++ys) C'∧Holds w' (C'::L0)∧(v=.slice none 0 0→c=0→v'=.slice none 0 0)∧(v'=.slice none 0 0→v=.slice none 0 0):=by
 obtain ⟨ht,i,hi,hik,hib,hk⟩:=hs.parts
 have hzz:i.zero=some z:=by have:=hz.out;rw [hi] at this;simpa using this
 subst hik hib
 have hsmall:m+c≤9223372036854775807:=by simpa [maxLen] using h63
 rcases hown with ⟨rfl,rfl,rfl,rfl⟩|⟨b,cap,rest,rfl,rfl,hxl,hrl,hmc,hcm⟩
 ·rcases hsl with ⟨c',rfl,rfl,rfl⟩|⟨a,c',rfl,hrd,hyl⟩
  ·refine ⟨.slice none 0 0,[],w,?_,.inl ⟨rfl,rfl,rfl,rfl⟩,hw,by simp,by simp⟩
   simp [Builtin.append_,run_underlying ht,sizeOf,typeInfo,hi,Builtin.lenOf,Builtin.firstCells,loadCells,loadCellsFrom]
  ·by_cases hc:c=0
   ·subst hc
    have hn:ys=[]:=List.eq_nil_of_length_eq_zero (by simpa using hyl)
    subst hn
    refine ⟨.slice none 0 0,[],w,?_,.inl ⟨rfl,rfl,rfl,rfl⟩,hw,by simp,by simp⟩
    simp [Builtin.append_,run_underlying ht,sizeOf,typeInfo,hi,Builtin.lenOf,Builtin.firstCells,loadCells,loadCellsFrom]
   ·have hr:=run_append_nil (P:=P) w t ty e i z ht hi hzz a c c' ys hyl (hrd.cells hw) (by omega) (by omega) (by have h2:=hb;simp only [Nat.zero_add] at h2;omega)
    refine ⟨_,[(w.heap.size,cl (ys++(Builtin.zeroCells z.cells (grownCap w c 0 e - c)).toList) e)],_,hr,.inr ⟨w.heap.size,grownCap w c 0 e,(Builtin.zeroCells z.cells (grownCap w c 0 e - c)).toList,by simp,by simp,by simpa using hyl,?_,by simpa using grownCap_ge w c 0 e,grownCap_le_maxLen w c 0 e (by omega)⟩,?_,by simp [hc],by simp⟩
    ·simp [size_zeroCells,hzk]
    ·have h0:=(hw.drop.same (w':=w.drew) rfl rfl rfl).alloc (.cells (ys.toArray++Builtin.zeroCells z.cells (grownCap w c 0 e - c)) e)
     have e1:(cl (ys++(Builtin.zeroCells z.cells (grownCap w c 0 e - c)).toList) e)=.cells (ys.toArray++Builtin.zeroCells z.cells (grownCap w c 0 e - c)) e (0,0):=by
      unfold cl;congr 1;apply Array.ext';simp
     rw [e1];exact h0
 ·rcases hsl with ⟨c',rfl,rfl,rfl⟩|⟨a,c',rfl,hrd,hyl⟩
  ·refine ⟨.slice (some ⟨b,0,none⟩) m cap,_,w,?_,.inr ⟨b,cap,rest,by simp,rfl,by simpa using hxl,by simpa using hrl,by simpa using hmc,hcm⟩,by simpa using hw,by simp,by simp⟩
   have hmc':m+0≤cap:=by omega
   simp [Builtin.append_,run_underlying ht,sizeOf,typeInfo,hi,Builtin.lenOf,Builtin.firstCells,hmc,storeCells]
  ·by_cases hroom:m+c≤cap
   ·have hfnd:w.heap[b]? =some (.cells (xs++rest).toArray e (0,0)):=(Fnd.here:Fnd ([(b,cl (xs++rest) e)]::L0) b _).get hw
    have hlen:m * i.size+ys.length≤(xs++rest).toArray.size:=by
     simp only [List.size_toArray,List.length_append,hxl,hrl,hyl,←Nat.add_mul]
     exact Nat.mul_le_mul_right _ (by omega)
    have hr:=run_append_room (P:=P) w t ty e i ht hi b m cap _ hfnd a c c' ys hyl (hrd.cells hw) (X9 h1) hroom hlen
    have hx1:((xs++rest).toArray.toList.take (m * i.size)++ys++(xs++rest).toArray.toList.drop (m * i.size+ys.length))=(xs++ys)++rest.drop ys.length:=by
     simp only [List.toList_toArray]
     rw [←hxl,List.take_left]
     congr 1
     rw [List.drop_append]
     simp
    refine ⟨_,[(b,cl ((xs++ys)++rest.drop ys.length) e)],_,hr,.inr ⟨b,cap,rest.drop ys.length,rfl,rfl,?_,?_,hroom,hcm⟩,?_,by simp,by simp⟩
    ·rw [List.length_append,hxl,hyl,Nat.add_mul]
    ·rw [List.length_drop,hrl,hyl,←Nat.sub_mul];congr 1;omega
    ·rw [hx1]
     exact hw.row .here
   ·have hrd0:zK ([(b,cl (xs++rest) e)]::L0) ⟨b,0,none⟩ xs:=zK.cl' .here (by simp [cut])
    have hr:=run_append_grow (P:=P) w t ty e i z ht hi hzz ⟨b,0,none⟩ m cap xs hxl (hrd0.cells hw) a c c' ys hyl (hrd.cells hw) (by omega) (by omega) (growslice_fits (by omega) hb)
    refine ⟨_,[(w.heap.size,cl ((xs++ys)++(Builtin.zeroCells z.cells (grownCap w (m+c) cap e - (m+c))).toList) e)],_,hr,.inr ⟨w.heap.size,_,_,rfl,rfl,?_,?_,grownCap_ge w (m+c) cap e,grownCap_le_maxLen w (m+c) cap e h63⟩,?_,by simp,by simp⟩
    ·rw [List.length_append,hxl,hyl,Nat.add_mul]
    ·simp [size_zeroCells,hzk]
    ·have h0:=(hw.drop.same (w':=w.drew) rfl rfl rfl).alloc (.cells (xs.toArray++ys.toArray++Builtin.zeroCells z.cells (grownCap w (m+c) cap e - (m+c))) e)
     have e1:(cl ((xs++ys)++(Builtin.zeroCells z.cells (grownCap w (m+c) cap e - (m+c))).toList) e)=.cells (xs.toArray++ys.toArray++Builtin.zeroCells z.cells (grownCap w (m+c) cap e - (m+c))) e (0,0):=by
      unfold cl;congr 1;apply Array.ext';simp
     rw [e1];exact h0
theorem Fnd.perm {L L':List Chunk} {b:Nat} {o:Obj} (h:Fnd L b o) (hp:L.Perm L'):Fnd L' b o:=hp.flatten.mem_iff.1 h
theorem zK.perm {L L':List Chunk} {a:Addr} {vs:List Value} (h:zK L a vs) (hp:L.Perm L'):zK L' a vs:=by
 rcases h with h|⟨b,off,c,T,fr,h1,h2,h3⟩
 ·exact .inl h
 ·exact .inr ⟨b,off,c,T,fr,h1,h2.perm hp,h3⟩
theorem Sl.perm {L L':List Chunk} {k m:Nat} {v:Value} {xs:List Value} (h:Sl L k v m xs) (hp:L.Perm L'):Sl L' k v m xs:=by
 rcases h with h|⟨a,cap,h1,h2,h3⟩
 ·exact .inl h
 ·exact .inr ⟨a,cap,h1,h2.perm hp,h3⟩
theorem zu {t e k by_:Nat} [hs:SL P t e k by_] {z:Value} [hz:ZV P e z] {v r:Value} {m c:Nat} {xs ys:List Value} {C:Chunk} {A B:List Chunk} (hx:ev M x=some v) (hy:ev M y=some r) (hown:Ow e k v m xs C)
 (hsl:Sl L k r c ys) (hzip:Zip C L A B) (hzk:z.cells.size=k) (h1:ones ys=true) (hb:(m+c) * by_≤140737488355328) (h63:m+c≤maxLen)
 (hn:Nat.blt d n=true) (h:∀v' C',Ow e k v' (m+c) (xs++ys) C'→(v=.slice none 0 0→c=0→v'=.slice none 0 0)→(v'=.slice none 0 0→v=.slice none 0 0)→K ((d,v')::M) (A++C'::B)) :
 OW P n ⟨some d,.call ⟨.builtin .append,#[x,y],#[t,t]⟩,ty,ps,af,g⟩ K M L:=⟨fun a w next Q ha hw hk=>by
 have hL:=hzip.eq
 subst hL
 obtain ⟨v',C',w',hr,ho,hw',hn1,hn2⟩:=run_append_own' (P:=P) (ty:=ty) hs hz hzk hown (hsl.perm List.perm_middle) h1 hb h63 (hw.perm List.perm_middle)
 unfold Oper.wp
 have hrun:(execOp a.eval ⟨some d,.call ⟨.builtin .append,#[x,y],#[t,t]⟩,ty,ps,af,g⟩).run P w=.ok (.value v') w':=by
  simp only [execOp,resolve,invoke,builtin,Sem.run_bind,Sem.run_pure,Result.andThen_ok,List.map_toArray,List.map_cons,List.map_nil,ha.eval hx,ha.eval hy,hr]
 rw [hrun,Oper.upon_value]
 exact (hk _ _ (h v' C' ho hn1 hn2)).out _ _ (ha.put v' hn) (hw'.perm List.perm_middle.symm)⟩
theorem zmn {t e k by_:Nat} [hs:SL P t e k by_] {b off dl dc sl:Nat} {r:Value} {l zs:List Value} {T:TypeId} {L':List Chunk} (hx:ev M x=some (.slice (some ⟨b,off,none⟩) dl dc)) (hy:ev M y=some r)
 (hsl:Sl L k r sl zs) (h1:ones (zs.take (min sl dl * k))=true) (hu:Upd L b (cl l T) (cl (patch l off (zs.take (min sl dl * k))) T) L') (hfit:off+min sl dl * k≤l.length)
 (hn:Nat.blt d n=true) (h:K ((d,.int .i64 ((min sl dl:Nat):Int))::M) L') :
 OW P n ⟨some d,.call ⟨.builtin .copy,#[x,y],#[t,t]⟩,ty,ps,af,g⟩ K M L:=⟨fun a w next Q ha hw hk=>by
 obtain ⟨ht,i,hi,hik,hib,hk0⟩:=hs.parts
 have hmin:sl.min dl=min sl dl:=rfl
 rcases hsl with ⟨c',rfl,rfl,rfl⟩|⟨a',c',rfl,hrd,hyl⟩
 ·have hL':patch l off (List.take (min 0 dl * k) [])=l:=by simp [patch]
  have hrun:(execOp a.eval ⟨some d,.call ⟨.builtin .copy,#[x,y],#[t,t]⟩,ty,ps,af,g⟩).run P w=.ok (.value (.int .i64 ((min 0 dl:Nat):Int))) (w.setRow b (patch l off (List.take (min 0 dl * k) [])).toArray):=by
   have hst:=wG (P:=P) (vs:=List.take (min 0 dl * k) []) hw hu (by simp;have:=hfit;omega) (by simp [ones])
   simp only [execOp,resolve,invoke,builtin,Sem.run_bind,Sem.run_pure,Result.andThen_ok,List.map_toArray,List.map_cons,List.map_nil,ha.eval hx,ha.eval hy]
   simp at hst
   simp [Builtin.copy_,run_underlying ht,Builtin.lenOf,Builtin.firstCells,sizeOf,typeInfo,hi,hst,goInt,hmin]
  unfold Oper.wp
  rw [hrun,Oper.upon_value]
  exact (hk _ _ h).out _ _ (ha.put _ hn) (hw.row hu)
 ·have hlen:(zs.take (min sl dl * k)).length=min sl dl * k:=by
   rw [List.length_take,hyl]
   exact Nat.min_eq_left (Nat.mul_le_mul_right _ (Nat.min_le_left _ _))
  have hcells:∀j u,(zs.take (min sl dl * k))[j]? =some u→w.cell? (a'.add j)=some u:=fun j u hj=>by
   refine hrd.cells hw j u ?_
   rw [List.getElem?_take] at hj
   split at hj
   ·exact hj
   ·simp at hj
  have hl2:=run_loadCells_list (P:=P) w a' _ hcells
  rw [hlen] at hl2
  have hst:=wG (P:=P) hw hu (by rw [hlen];exact hfit) h1
  have hrun:(execOp a.eval ⟨some d,.call ⟨.builtin .copy,#[x,y],#[t,t]⟩,ty,ps,af,g⟩).run P w=.ok (.value (.int .i64 ((min sl dl:Nat):Int))) (w.setRow b (patch l off (zs.take (min sl dl * k))).toArray):=by
   simp only [execOp,resolve,invoke,builtin,Sem.run_bind,Sem.run_pure,Result.andThen_ok,List.map_toArray,List.map_cons,List.map_nil,ha.eval hx,ha.eval hy]
   simp [Builtin.copy_,run_underlying ht,Builtin.lenOf,Builtin.firstCells,sizeOf,typeInfo,hi,hik,hl2,hst,goInt,hmin]
  unfold Oper.wp
  rw [hrun,Oper.upon_value]
  exact (hk _ _ h).out _ _ (ha.put _ hn) (hw.row hu)⟩
theorem zn {X:Type} {c:Code} (MI:X→List (Nat × Value)) (LI:X→List Chunk) (J:X→Prop) (μ:X→Nat) (x0:X) (hJ:J x0) (hM:Sub (MI x0) M) (hL:∀w,Holds w L→Holds w (LI x0))
 (hround:∀x,J x→WC P n c (Exit.then (fun a' w'=>∃x',μ x' < μ x∧J x'∧St n (MI x') a'∧Holds w' (LI x')) Q) (MI x) (LI x)):WC P n (.loop c) Q M L:=⟨fun a w ha hw=>by
 intro b k cs
 have key:∀m x,μ x=m→J x→∀a w,St n (MI x) a→Holds w (LI x)→
  ∃e a' w',Q e a' w'∧Arrives P (lone (b.at a (.code c::.inLoop c::k)) cs w) b k cs e a' w':=by
  intro m
  induction m using Nat.strongRecOn with
  |_ m ih=>
   intro x hm hx a w ha hw
   obtain ⟨e,a₁,w₁,hq,harr⟩:=(hround x hx).out a w ha hw b (.inLoop c::k) cs
   subst hm
   cases e with
   |normal=>
    obtain ⟨x',hlt,hJ',ha',hw'⟩:=hq
    obtain ⟨e₂,a₂,w₂,hq₂,harr₂⟩:=ih (μ x') hlt x' rfl hJ' a₁ w₁ ha' hw'
    exact ⟨e₂,a₂,w₂,hq₂,.of_steps (Steps.trans harr (.one step_inLoop)) harr₂⟩
   |exit id=>exact ⟨_,a₁,w₁,hq,.pass (x:=.inLoop c) rfl (fun _ _=>.inl (by simp)) harr⟩
   |goto l=>exact ⟨_,a₁,w₁,hq,.pass (x:=.inLoop c) rfl (fun _ _=>.inl (by simp)) harr⟩
   |ret=>exact ⟨_,a₁,w₁,hq,.pass (x:=.inLoop c) rfl (fun _ _=>.inl (by simp)) harr⟩
   |panic ch=>exact ⟨_,a₁,w₁,hq,.pass (x:=.inLoop c) rfl (fun _ _=>.inl (by simp)) harr⟩
   |outgrown=>exact ⟨_,a₁,w₁,hq,.pass (x:=.inLoop c) rfl (fun _ _=>.inl (by simp)) harr⟩
 obtain ⟨e,a',w',hq,harr⟩:=key _ x0 rfl hJ a w (ha.sub hM) (hL w hw)
 exact ⟨e,a',w',hq,.of_steps (.one step_loop) harr⟩⟩
theorem zf {X:Type} {MI:X→List (Nat × Value)} {LI:X→List Chunk} {J:X→Prop} {μ:X→Nat} {x:X} (x':X) (hlt:μ x' < μ x) (hJ:J x') (hM:Sub (MI x') M) (hL:∀w,Holds w L→Holds w (LI x')) :
 WQ n (fun a' w'=>∃x',μ x' < μ x∧J x'∧St n (MI x') a'∧Holds w' (LI x')) M L:=⟨fun _ w ha hw=>⟨x',hlt,hJ,ha.sub hM,hL w hw⟩⟩
end
end Go.Vx
namespace Go.Vx
open Go
set_option linter.all false
variable [W0]
section
variable {P : Program} {ops : Array Oper} {Q : Exit → Act → World → Prop} {md : Region.Mode} {S : World → Prop} {T : List Nat}
omit [W0] in
def Yg (P:Program) (md:Region.Mode) (ops:Array Oper) (Q:Exit→Act→World→Prop) (S:World→Prop) (T:List Nat):Nat→Array Bool→Act→World→Prop
 |0,listed,a,w=>Region.ready md ops listed=[]∧Q .normal a w
 |fuel+1,listed,a,w=>
  (Region.ready md ops listed=[]→Q .normal a w)∧
  ∀i∈Region.ready md ops listed,wpOp P ops Q i (fun a' w'=>(i∉T→S w')∧Yg P md ops Q S T fuel (listed.setIfInBounds i true) a' w') a w
theorem XA:∀(fuel:Nat) (listed:Array Bool) (a:Act) (w:World),Yg P md ops Q S T fuel listed a w→wpAny P md ops Q fuel listed a w
 |0,_,_,_,h=>h
 |fuel+1,_,_,_,h=>⟨h.1,fun i hi=>wpOp_mono (fun a' w' h'=>XA fuel _ a' w' h'.2) (h.2 i hi)⟩
omit [W0] in
def zbG (md:Region.Mode) (ops:Array Oper) (i:Nat):Nat→Nat→Bool
 |0,_=>false
 |f+1,j=>match ops[j]? with
  |some o=>(o.after.any fun e=>Region.binds md e&&e.on == i)||o.after.any fun e=>Region.binds md e&&zbG md ops i f e.on
  |none=>false
omit [W0] in
def DC (md:Region.Mode) (ops:Array Oper) (listed:Array Bool):Prop:=
 ∀k o,ops[k]? =some o→listed.getD k false=true→∀e∈o.after,Region.binds md e=true→listed.getD e.on false=true
omit [W0] in
def dcB (md:Region.Mode) (ops:Array Oper) (listed:Array Bool):Bool:=
 (List.range ops.size).all fun k=>!listed.getD k false||match ops[k]? with
   |some o=>o.after.all fun e=>!Region.binds md e||listed.getD e.on false
   |none=>true
theorem DC.of {listed:Array Bool} (h:dcB md ops listed=true):DC md ops listed:=by
 intro k o hk hl e he hb
 simp only [dcB,List.all_eq_true,List.mem_range] at h
 have h1:=h k (Array.getElem?_eq_some_iff.1 hk).1
 rw [hl,hk] at h1
 simp only [Bool.not_true,Bool.false_or] at h1
 have h2:=Array.all_eq_true_iff_forall_mem.1 h1 e he
 simpa [hb] using h2
theorem zbS {i:Nat} {listed:Array Bool} (hd:DC md ops listed):∀(f j:Nat) (o:Oper),zbG md ops i f j=true→ops[j]? =some o→
 (∀e∈o.after,Region.binds md e=true→listed.getD e.on false=true)→listed.getD i false=true:=by
 intro f
 induction f with
 |zero=>intro j o h;simp [zbG] at h
 |succ f ih=>
  intro j o h hj hall
  simp only [zbG,hj,Bool.or_eq_true] at h
  rcases h with h|h
  ·rw [←Array.any_toList,List.any_eq_true] at h
   obtain ⟨e,he,hh⟩:=h
   rw [Array.mem_toList_iff] at he
   simp only [Bool.and_eq_true,beq_iff_eq] at hh
   rw [←hh.2]
   exact hall e he hh.1
  ·rw [←Array.any_toList,List.any_eq_true] at h
   obtain ⟨e,he,hh⟩:=h
   rw [Array.mem_toList_iff] at he
   simp only [Bool.and_eq_true] at hh
   obtain ⟨hb,h2⟩:=hh
   have hl:=hall e he hb
   cases hk:ops[e.on]? with
   |none=>cases f<;>simp [zbG,hk] at h2
   |some o'=>exact ih e.on o' h2 hk (hd e.on o' hk hl)
theorem DC.set {listed:Array Bool} {j:Nat} (hd:DC md ops listed) (hj:j∈Region.ready md ops listed):DC md ops (listed.setIfInBounds j true):=by
 intro k o hk hl e he hb
 obtain ⟨_,oj,hoj,hall⟩:=mem_ready.1 hj
 by_cases hjk:j=k
 ·subst hjk
  rw [hoj] at hk
  cases hk
  exact getD_set_true (hall e he hb)
 ·rw [getD_set_ne false hjk] at hl
  exact getD_set_true (hd k o hk hl e he hb)
theorem vD {i:Nat} {listed:Array Bool} (h0:listed.getD i true=false) (h1:listed.getD i false=true):False:=by
 rcases Nat.lt_or_ge i listed.size with h'|h'
 ·simp [h'] at h0 h1;rw [h0] at h1;cases h1
 ·simp [Array.getElem?_eq_none h'] at h1
theorem zdF {i:Nat} {oi:Oper} {v:Value} (hi:ops[i]? =some oi) (hsel:∀(j:Nat) (o:Oper) cs b,ops[j]? =some o→o.op≠.select cs b)
 (hQ:∀c a w,Q (.panic c) (a.put oi.dst v) w→Q (.panic c) a w) (hT:∀j∈T,j≠i→∃f,zbG md ops i f j=true) :
 ∀(fuel:Nat) (listed:Array Bool) (a:Act) (w:World),
  (∀j oj,ops[j]? =some oj→j≠i→listed.getD j true=false→(∀e∈oj.after,Region.binds md e=true→e.on≠i)→oi.apart ops oj=true)→DC md ops listed→
  i∈Region.ready md ops listed→YieldsIf P ops S oi v a→S w→
  Yg P md ops Q S T fuel (listed.setIfInBounds i true) (a.put oi.dst v) w→Yg P md ops Q S T (fuel+1) listed a w:=by
 intro fuel
 induction fuel with
 |zero=>
  intro listed a w _ _ hr hy hS H
  refine ⟨fun h=>(by rw [h] at hr;cases hr),fun j hj=>?_⟩
  by_cases hji:j=i
  ·subst hji;exact hy.wpOp hi hS ⟨fun _=>hS,H⟩
  ·have:=ready_mono hj hji
   rw [H.1] at this
   cases this
 |succ fuel ih=>
  intro listed a w hfree hdc hr hy hS H
  refine ⟨fun h=>(by rw [h] at hr;cases hr),fun j hj=>?_⟩
  by_cases hji:j=i
  ·subst hji;exact hy.wpOp hi hS ⟨fun _=>hS,H⟩
  ·have h1:=H.2 j (ready_mono hj hji)
   obtain ⟨hjun,oj,hoj,hall⟩:=mem_ready.1 hj
   have hun:=(mem_ready.1 hr).1
   have hnot:∀e∈oj.after,Region.binds md e=true→e.on≠i:=fun e he hb heq=>by
    have h1:=hall e he hb
    rw [heq] at h1
    exact vD hun h1
   have hnT:j∉T:=fun hm=>by
    obtain ⟨f,hf⟩:=hT j hm hji
    exact vD hun (zbS hdc f j oj hf hoj hall)
   have h2:=wpOp_putIf hoj (hfree j oj hoj hji hjun hnot) (fun cs b=>hsel i oi cs b hi) (fun cs b=>hsel j oj cs b hoj) hQ hy h1
   have hfree':∀k ok,ops[k]? =some ok→k≠i→(listed.setIfInBounds j true).getD k true=false→
    (∀e∈ok.after,Region.binds md e=true→e.on≠i)→oi.apart ops ok=true:=fun k ok hk hki hun hno=>by
    refine hfree k ok hk hki ?_ hno
    by_cases hjk:j=k
    ·subst hjk;exact hjun
    ·rw [getD_set_ne true hjk] at hun;exact hun
   refine wpOp_mono (fun a' w' h3=>⟨fun _=>h3.2.1 hnT,ih (listed.setIfInBounds j true) a' w' hfree' (hdc.set hj) (ready_mono hr (Ne.symm hji)) h3.1 (h3.2.1 hnT) ?_⟩) h2
   rw [Array.setIfInBounds_comm _ _ hji]
   exact h3.2.2
end
omit [W0] in
structure PO (Q:Exit→Act→World→Prop):Prop where
 out:∀c (a:Act) d v w,Q (.panic c) (a.put d v) w→Q (.panic c) a w
theorem PO.then {Q:Exit→Act→World→Prop} {K:Act→World→Prop} (h:PO Q):PO (Exit.then K Q):=⟨h.out⟩
theorem PO.block {Q:Exit→Act→World→Prop} {i:Nat} (h:PO Q):PO (Exit.inBlock i Q):=⟨h.out⟩
theorem zeB {a:Act} {d:Option Tmp} {v:Value}:(a.put d v).defers=a.defers:=by cases d<;>rfl
theorem PO.body {P:Program} {fn:Func} {R:Ending→World→Prop}:PO (bodyPost P fn R):=⟨fun c a d v w h=>by
 obtain ⟨h1,h2⟩:=h
 exact ⟨by rw [zeB] at h1;exact h1,h2⟩⟩
omit [W0] in
structure Inc (S L:List Chunk):Prop where
 out:∃R,L.Perm (S++R)
theorem Inc.nil {L:List Chunk}:Inc [] L:=⟨L,.refl _⟩
theorem Inc.cons {C:Chunk} {S L L':List Chunk} (ht:Take C L L') (h:Inc S L'):Inc (C::S) L:=by
 obtain ⟨R,hR⟩:=h.out
 exact ⟨R,ht.perm.trans (hR.cons C)⟩
theorem Inc.skip {C:Chunk} {S L:List Chunk} (h:Inc S L):Inc S (C::L):=by
 obtain ⟨R,hR⟩:=h.out
 exact ⟨C::R,(hR.cons C).trans List.perm_middle.symm⟩
theorem Inc.refl {L:List Chunk}:Inc L L:=⟨[],by simp⟩
theorem Holds.front {w:World} {S R:List Chunk} (h:Holds w (S++R)):Holds w S:=by
 refine ⟨?_,fun x hx=>h.2.1 x (by simp only [List.flatten_append,List.mem_append];exact .inl hx),h.2.2⟩
 have:=h.1
 simp only [List.flatten_append,List.map_append,List.nodup_append] at this
 exact this.1
theorem Inc.holds {S L:List Chunk} (h:Inc S L) {w:World} (hw:Holds w L):Holds w S:=by
 obtain ⟨R,hR⟩:=h.out
 exact (hw.perm hR).front
structure WR (P:Program) (n:Nat) (ops:List Oper) (Q:Exit→Act→World→Prop) (S:List Chunk) (T:List Nat) (fuel:Nat) (listed:Array Bool) (M:List (Nat × Value)) (L:List Chunk):Prop where
 out:∀a w,St n M a→Holds w L→Yg P .any ops.toArray Q (fun w=>Holds w S) T fuel listed a w
structure WRk (P:Program) (n:Nat) (ops:List Oper) (Q:Exit→Act→World→Prop) (S:List Chunk) (T:List Nat) (fuel:Nat) (listed:Array Bool) (M:List (Nat × Value)) (L:List Chunk):Prop where
 inc:Inc S L
 out:WR P n ops Q S T fuel listed M L
section
variable {P : Program} {n : Nat} {Q : Exit → Act → World → Prop} {M : List (Nat × Value)} {L S : List Chunk} {ops : List Oper} {T : List Nat} {fuel : Nat} {listed : Array Bool}
theorem yO (S:List Chunk) (T:List Nat) {id:Nat} (hm:P.follows .mixedOrders=true) (h:WR P n ops Q S T ops.length (Array.replicate ops.length false) M L):WC P n (.region id ops.toArray true) Q M L:=⟨fun a w ha hw=>by
 refine wp_region_any hm (XA (S:=fun w=>Holds w S) (T:=T) _ _ _ _ ?_)
 have:=h.out a { w with drawn:=w.drawn+1 } ha (hw.same rfl rfl rfl)
 simpa using this⟩
theorem zk (T:List Nat) {id:Nat} (hm:P.follows .mixedOrders=true) (h:WR P n ops Q L T ops.length (Array.replicate ops.length false) M L):WC P n (.region id ops.toArray true) Q M L:=yO L T hm h
theorem zmw (hr:Region.ready .any ops.toArray listed=[]) (h:WQ n (Q .normal) M L):WR P n ops Q S T fuel listed M L:=⟨fun a w ha hw=>by
 cases fuel with
 |zero=>exact ⟨hr,h.out a w ha hw⟩
 |succ f=>exact ⟨fun _=>h.out a w ha hw,by rw [hr];simp⟩⟩
omit [W0] in
def takeB (ops:List Oper) (T:List Nat) (listed:Array Bool) (i:Nat):Bool:=
 Region.noSelect ops.toArray&&Region.free .any ops.toArray listed i&&(Region.ready .any ops.toArray listed).contains i&&dcB .any ops.toArray listed
  &&T.all fun j=>j == i||zbG .any ops.toArray i ops.length j
theorem XJ {i d:Nat} {o:Oper} {v:Value} (hi:ops[i]? =some o) (hd:o.dst=some d) (hb:takeB ops T listed i=true) (hPO:PO Q) (hinc:Inc S L) (hn:Nat.blt d n=true)
 (hy:∀a,St n M a→YieldsIf P ops.toArray (fun w=>Holds w S) o v a)
 (h:WR P n ops Q S T fuel (listed.setIfInBounds i true) ((d,v)::M) L):WR P n ops Q S T (fuel+1) listed M L:=⟨fun a w ha hw=>by
 simp only [takeB,Bool.and_eq_true,List.all_eq_true,Bool.or_eq_true,beq_iff_eq] at hb
 obtain ⟨⟨⟨⟨h1,h2⟩,h3⟩,h4⟩,h5⟩:=hb
 have hi':ops.toArray[i]? =some o:=by simpa using hi
 refine zdF hi' (Region.noSelect_spec h1) (fun c a w hq=>hPO.out c a _ _ w hq) (fun j hj hne=>⟨ops.length,(h5 j hj).resolve_left hne⟩) fuel listed a w (Region.free_spec hi' h2) (DC.of h4) (by simpa using h3) (hy a ha) (hinc.holds hw) ?_
 rw [hd]
 exact h.out _ w (ha.put v hn) hw⟩
theorem zah (i:Nat) {d:Nat} {o:Oper} {v:Value} (hi:ops[i]? =some o) (hg:o.guard=none) (hb:takeB ops T listed i=true) (hPO:PO Q) (hinc:Inc S L) (he:EV P n o M S d v) (hn:Nat.blt d n=true)
 (h:WR P n ops Q S T fuel (listed.setIfInBounds i true) ((d,v)::M) L):WR P n ops Q S T (fuel+1) listed M L:=
 XJ hi he.dst hb hPO hinc hn (fun a ha=>.inl ⟨by simp [Region.wanted,hg],fun w hw=>he.run a w ha hw⟩) h
theorem zbQ (i:Nat) {d j:Nat} {b:Bool} {o:Oper} {v:Value} (hi:ops[i]? =some o) (hg:o.guard=some (j,b)) (hy:yl ops M j=some (.bool b)) (hb:takeB ops T listed i=true) (hPO:PO Q) (hinc:Inc S L) (he:EV P n o M S d v) (hn:Nat.blt d n=true)
 (h:WR P n ops Q S T fuel (listed.setIfInBounds i true) ((d,v)::M) L):WR P n ops Q S T (fuel+1) listed M L:=
 XJ hi he.dst hb hPO hinc hn (fun a ha=>.inl ⟨by simp [Region.wanted,hg,wI ha hy],fun w hw=>he.run a w ha hw⟩) h
theorem zff (i:Nat) {d j:Nat} {b:Bool} {o:Oper} (hi:ops[i]? =some o) (hg:o.guard=some (j,b)) (hy:yl ops M j=some (.bool (!b))) (hd:o.dst=some d) (hb:takeB ops T listed i=true) (hPO:PO Q) (hinc:Inc S L) (hn:Nat.blt d n=true)
 (h:WR P n ops Q S T fuel (listed.setIfInBounds i true) ((d,undef)::M) L):WR P n ops Q S T (fuel+1) listed M L:=
 XJ hi hd hb hPO hinc hn (fun a ha=>.inr ⟨by simp [Region.wanted,hg,wI ha hy],rfl⟩) h
theorem zo1 (i:Nat) {o:Oper} (hr:Region.ready .any ops.toArray listed=[i]) (hi:ops[i]? =some o) (hg:o.guard=none) (h:OW P n o (WRk P n ops Q S T fuel (listed.setIfInBounds i true)) M L):WR P n ops Q S T (fuel+1) listed M L:=⟨fun a w ha hw=>by
 refine ⟨fun h0=>absurd (hr▸h0) (by simp),fun j hj=>?_⟩
 rw [hr] at hj
 simp only [List.mem_singleton] at hj
 subst hj
 unfold wpOp
 simp only [List.getElem?_toArray,hi]
 rw [if_pos (by simp [Region.wanted,hg])]
 exact .inl (h.out a w _ Q ha hw fun M' L' hk=>⟨fun a' w' ha' hw'=>⟨fun _=>hk.inc.holds hw',hk.out.out a' w' ha' hw'⟩⟩)⟩
theorem zmx (i:Nat) {o:Oper} (hr:Region.ready .any ops.toArray listed=[i]) (hT:T.contains i=true) (hi:ops[i]? =some o) (hg:o.guard=none) (h:OW P n o (WR P n ops Q S T fuel (listed.setIfInBounds i true)) M L):WR P n ops Q S T (fuel+1) listed M L:=⟨fun a w ha hw=>by
 refine ⟨fun h0=>absurd (hr▸h0) (by simp),fun j hj=>?_⟩
 rw [hr] at hj
 simp only [List.mem_singleton] at hj
 subst hj
 unfold wpOp
 simp only [List.getElem?_toArray,hi]
 rw [if_pos (by simp [Region.wanted,hg])]
 have hm:j∈T:=by simpa using hT
 exact .inl (h.out a w _ Q ha hw fun M' L' hk=>⟨fun a' w' ha' hw'=>⟨fun hn=>absurd hm hn,hk.out a' w' ha' hw'⟩⟩)⟩
theorem zT {fn:Func} {post:Value→List Chunk→Prop} {rs:List ResultVar} {vs:List Value} (hr:fn.results=rs.toArray) (h:Yj M rs=some vs) (hp:∃L',Inc L' L∧post (zV vs) L') :
 WQ n (bodyPost P fn (fun e w'=>∃v L',e=.returned v∧post v L'∧Holds w' L') .ret) M L:=⟨fun _ _ ha hw=>by
 obtain ⟨L',hi,hp⟩:=hp
 exact ⟨ha.defers,zV vs,uI ha hr h,_,L',rfl,hp,hi.holds hw⟩⟩
theorem zgr {fn:Func} {post:Value→List Chunk→Prop} {rs:List ResultVar} {vs:List Value} (hr:fn.results=rs.toArray) (h:Yj M rs=some vs) (hp:∃L',Inc L' L∧post (zV vs) L') :
 WQ n (bodyPost P fn (fun e w'=>∃v L',e=.returned v∧post v L'∧Holds w' L') .normal) M L:=⟨fun _ _ ha hw=>by
 obtain ⟨L',hi,hp⟩:=hp
 exact ⟨ha.defers,zV vs,uI ha hr h,_,L',rfl,hp,hi.holds hw⟩⟩
theorem um {fn:Func} {post:Value→List Chunk→Prop} {rs:List ResultVar} {vs:List Value} (hr:fn.results=rs.toArray) (h:Yj M rs=some vs) (hp:∃L',(∀w,Holds w L→Holds w L')∧post (zV vs) L') :
 WQ n (bodyPost P fn (fun e w'=>∃v L',e=.returned v∧post v L'∧Holds w' L') .ret) M L:=⟨fun _ w ha hw=>by
 obtain ⟨L',hi,hp⟩:=hp
 exact ⟨ha.defers,zV vs,uI ha hr h,_,L',rfl,hp,hi w hw⟩⟩
theorem zmv {fn:Func} {post:Value→List Chunk→Prop} {rs:List ResultVar} {vs:List Value} (hr:fn.results=rs.toArray) (h:Yj M rs=some vs) (hp:∃L',(∀w,Holds w L→Holds w L')∧post (zV vs) L') :
 WQ n (bodyPost P fn (fun e w'=>∃v L',e=.returned v∧post v L'∧Holds w' L') .normal) M L:=⟨fun _ w ha hw=>by
 obtain ⟨L',hi,hp⟩:=hp
 exact ⟨ha.defers,zV vs,uI ha hr h,_,L',rfl,hp,hi w hw⟩⟩
theorem qP {L':List Chunk} {c:Code} (hl:∀w,Holds w L→Holds w L') (h:WC P n c Q M L'):WC P n c Q M L:=h.holds hl
theorem Ze {L':List Chunk} {q:Act→World→Prop} (hl:∀w,Holds w L→Holds w L') (h:WQ n q M L'):WQ n q M L:=⟨fun a w ha hw=>h.out a w ha (hl w hw)⟩
theorem yD {L':List Chunk} {o:Oper} {K:List (Nat × Value)→List Chunk→Prop} (hl:∀w,Holds w L→Holds w L') (h:OW P n o K M L'):OW P n o K M L:=⟨fun a w next Q ha hw hk=>h.out a w next Q ha (hl w hw) hk⟩
def GvP (P:Program) (f:FuncId) (args:Array Value) (L:List Chunk) (v:Value):Prop:=Gv P f args L (fun r L'=>r=v∧L'=L)
theorem wR {d:Nat} {ty:TypeId} {ps:String} {af:Array Edge} {g:Option (Nat × Bool)} {x:Operand} {v:Value} {K:List (Nat × Value)→List Chunk→Prop} {f:FuncId} [hb:BD P f] {xs:List Operand} {ats:Array TypeId} {first cap:Array Value} {vs:List Value} {args:Array Value}
 (hx:ev M x=some (.func (.func f) first cap)) (hvs:evs M xs=some vs) (hargs:first++vs.toArray++cap=args) (hspec:GvP P f args L v)
 (hn:Nat.blt d n=true) (h:K ((d,v)::M) L):OW P n ⟨some d,.call ⟨.value x,xs.toArray,ats⟩,ty,ps,af,g⟩ K M L:=
 qF hx hvs hargs hspec hn (fun v' L' hp=>by obtain ⟨rfl,rfl⟩:=hp;exact h)
end
end Go.Vx
namespace Go.Vx
open Go
set_option linter.all false
variable [W0]
omit [W0] in
def zqX (P:Program) (t:Nat):Option (List (Nat × Nat)):=match P.underlying t with
 |some (.struct fs)=>fs.toList.mapM fun f=>(P.info? f.type).map fun i=>(f.offset,i.size)
 |_=>none
omit [W0] in
class BL (P:Program) (t:Nat) (pl:outParam (List (Nat × Nat))):Prop where out:zqX P t=some pl
omit [W0] in
class PT (P:Program) (t:Nat):Prop where out:∃e,P.underlying t=some (.pointer e)
omit [W0] in
class BB (P:Program) (t:Nat):Prop where out:P.underlying t=some .bool
omit [W0] in
def zA (pl:List (Nat × Nat)):List Value→List (Nat × Value)→Option (List Value)
 |cells,[]=>some cells
 |cells,(i,v)::r=>match pl[i]? with
  |none=>none
  |some (off,size)=>if v.cells.size=size∧off+size≤cells.length then zA pl (patch cells off v.cells.toList) r else none
theorem foldl_set (vs:List Value):∀(off j:Nat) (cs:Array Value),off+j+vs.length≤cs.size→
 (vs.zipIdx j).foldl (fun cs (x:Value × Nat)=>cs.setIfInBounds (off+x.2) x.1) cs=(patch cs.toList (off+j) vs).toArray:=by
 induction vs with
 |nil=>intro off j cs _;simp [patch]
 |cons v r ih=>
  intro off j cs h
  simp only [List.length_cons] at h
  simp only [List.zipIdx_cons,List.foldl_cons]
  rw [ih off (j+1) _ (by simp;omega)]
  apply Array.ext'
  have e:=list_seg_step cs.toList (off+j) v r (by simp;omega)
  simpa [patch,Array.toList_setIfInBounds,Nat.add_assoc] using e
theorem fill_eq (pl:List (Nat × Nat)):∀(parts:List (Nat × Value)) (cells:List Value) (cs:List Value),zA pl cells parts=some cs→Instr.fill (pl.toArray[·]?) cells.toArray parts=some cs.toArray:=by
 intro parts
 induction parts with
 |nil=>intro cells cs h;simp [zA] at h;subst h;simp [Instr.fill]
 |cons p r ih=>
  intro cells cs h
  obtain ⟨i,v⟩:=p
  unfold zA at h
  cases hp:pl[i]? with
  |none=>simp [hp] at h
  |some q=>
   obtain ⟨off,size⟩:=q
   simp only [hp] at h
   split at h
   ·rename_i hc
    unfold Instr.fill
    simp only [List.getElem?_toArray,hp]
    rw [if_neg (by simp;omega)]
    have e:v.cells.zipIdx.foldl (fun cs (x:Value × Nat)=>cs.setIfInBounds (off+x.2) x.1) cells.toArray=(patch cells off v.cells.toList).toArray:=by
     have:=foldl_set v.cells.toList off 0 cells.toArray (by simp;omega)
     rw [←Array.foldl_toList]
     simpa [Array.toList_zipIdx] using this
    have:=ih _ cs h
    rw [←e] at this
    simpa using this
   ·simp at h
omit [W0] in
def evp (M:List (Nat × Value)):List (Nat × Operand)→Option (List (Nat × Value))
 |[]=>some []
 |(i,x)::r=>match ev M x,evp M r with
  |some v,some vs=>some ((i,v)::vs)
  |_,_=>none
theorem St.evalp {n:Nat} {M:List (Nat × Value)} {a:Act} (h:St n M a):∀{xs:List (Nat × Operand)} {vs:List (Nat × Value)},evp M xs=some vs→xs.map (fun x=>(x.1,a.eval x.2))=vs
 |[],vs,he=>by simp [evp] at he;subst he;rfl
 |(i,x)::r,vs,he=>by
  unfold evp at he
  split at he
  ·rename_i v vs' h1 h2
   simp at he;subst he
   simp [h.eval h1,St.evalp h h2]
  ·simp at he
section
variable {P : Program} {n : Nat} {Q : Exit → Act → World → Prop} {M : List (Nat × Value)} {L : List Chunk} {K : List (Nat × Value) → List Chunk → Prop}
variable {d : Nat} {ty : TypeId} {ps : String} {af : Array Edge} {g : Option (Nat × Bool)} {x y : Operand} {v : Value}
theorem zeo {fs:List Field} {pl:List (Nat × Nat)} (h:fs.mapM (fun f=>(P.info? f.type).map fun i=>(f.offset,i.size))=some pl) (w:World) :
 (fs.mapM (m:=Sem) fun f=>do pure (f.offset,←sizeOf f.type)).run P w=.ok pl w:=by
 induction fs generalizing pl with
 |nil=>simp at h;subst h;rfl
 |cons f r ih=>
  simp only [List.mapM_cons] at h
  cases hi:P.info? f.type with
  |none=>simp [hi] at h
  |some i=>
   simp only [hi,Option.map_some,Option.pure_def,Option.bind_eq_bind,Option.bind_some] at h
   cases hr:r.mapM (fun f=>(P.info? f.type).map fun i=>(f.offset,i.size)) with
   |none=>simp [hr] at h
   |some pl'=>
    simp [hr] at h
    subst h
    have h2:=ih hr
    have h3:=wz (P:=P) (t:=f.type) (k:=i.size) (by rw [hi];rfl) w
    simp only [List.mapM_cons,Sem.run_bind,h3,Result.andThen_ok,Sem.run_pure,h2]
theorem uo {t:Nat} {pl:List (Nat × Nat)} {z:Value} [hb:BL P t pl] [hz:ZV P t z] {parts:List (Nat × Operand)} {pvs:List (Nat × Value)} {cs:List Value} (hp:evp M parts=some pvs)
 (hf:zA pl z.cells.toList pvs=some cs):EV P n ⟨some d,.build t parts.toArray,ty,ps,af,g⟩ M L d (.agg cs.toArray):=
 ⟨rfl,fun a w ha _=>by
   have h1:=hb.out
   unfold zqX at h1
   split at h1
   ·rename_i fs hu
    have hm:=zeo (P:=P) h1 w
    have hfill:=fill_eq pl pvs z.cells.toList cs hf
    rw [Array.toArray_toList] at hfill
    simp only [List.getElem?_toArray] at hfill
    have hpe:=ha.evalp hp
    simp only [execOp,Instr.build,Sem.run_bind,vN hz.out,run_underlying hu,Result.andThen_ok]
    rw [←Array.toArray_toList (xs:=fs)]
    simp only [List.mapM_toArray,Sem.run_map,hm,Result.andThen_ok]
    simp [hpe,hfill]
   ·simp at h1⟩
theorem Yi {T e:Nat} (hu:P.underlying T=some (.slice e)) (b:Option Addr) (len cap:Nat) (w:World):(Op.equal T (.slice b len cap) (.slice none 0 0)).run P w=.ok b.isNone w:=by
 unfold Op.equal
 rw [show Op.maxDepth=9999+1 from rfl]
 unfold Op.equalIn
 cases b<;>simp [run_underlying hu]
theorem Xg {T e:Nat} (hu:P.underlying T=some (.pointer e)) (b:Option Addr) (w:World):(Op.equal T (.pointer b) (.pointer none)).run P w=.ok b.isNone w:=by
 unfold Op.equal
 rw [show Op.maxDepth=9999+1 from rfl]
 unfold Op.equalIn
 cases b<;>simp [run_underlying hu]
theorem run_equal_bool {T:Nat} (hu:P.underlying T=some .bool) (b c:Bool) (w:World):(Op.equal T (.bool b) (.bool c)).run P w=.ok (b == c) w:=by
 unfold Op.equal
 rw [show Op.maxDepth=9999+1 from rfl]
 unfold Op.equalIn
 simp [run_underlying hu]
theorem qp {T e k by_:Nat} [hs:SL P T e k by_] {b:Option Addr} {len cap:Nat} {u:TypeId} (hx:ev M x=some (.slice b len cap)) (hy:ev M y=some (.slice none 0 0)) :
 EV P n ⟨some d,.binOp .eql T x y u,ty,ps,af,g⟩ M L d (.bool b.isNone):=
 ⟨rfl,fun a w ha _=>by
   obtain ⟨hu,_⟩:=hs.parts
   simp [execOp,ha.eval hx,ha.eval hy,eqGuard,binOp,Yi hu]⟩
theorem qw {T e k by_:Nat} [hs:SL P T e k by_] {b:Option Addr} {len cap:Nat} {u:TypeId} (hx:ev M x=some (.slice b len cap)) (hy:ev M y=some (.slice none 0 0)) :
 EV P n ⟨some d,.binOp .neq T x y u,ty,ps,af,g⟩ M L d (.bool (!b.isNone)):=
 ⟨rfl,fun a w ha _=>by
   obtain ⟨hu,_⟩:=hs.parts
   simp [execOp,ha.eval hx,ha.eval hy,eqGuard,binOp,Yi hu]⟩
theorem qZ {T:Nat} [hs:PT P T] {b:Option Addr} {u:TypeId} (hx:ev M x=some (.pointer b)) (hy:ev M y=some (.pointer none)) :
 EV P n ⟨some d,.binOp .eql T x y u,ty,ps,af,g⟩ M L d (.bool b.isNone):=
 ⟨rfl,fun a w ha _=>by
   obtain ⟨e,hu⟩:=hs.out
   simp [execOp,ha.eval hx,ha.eval hy,eqGuard,binOp,Xg hu]⟩
theorem q8 {T:Nat} [hs:PT P T] {b:Option Addr} {u:TypeId} (hx:ev M x=some (.pointer b)) (hy:ev M y=some (.pointer none)) :
 EV P n ⟨some d,.binOp .neq T x y u,ty,ps,af,g⟩ M L d (.bool (!b.isNone)):=
 ⟨rfl,fun a w ha _=>by
   obtain ⟨e,hu⟩:=hs.out
   simp [execOp,ha.eval hx,ha.eval hy,eqGuard,binOp,Xg hu]⟩
theorem vO {t:Nat} {u:TypeId} {b c:Bool} [hb:BB P t] (hx:ev M x=some (.bool b)) (hy:ev M y=some (.bool c)) :
 EV P n ⟨some d,.binOp .eql t x y u,ty,ps,af,g⟩ M L d (.bool (b == c)):=
 ⟨rfl,fun a w ha _=>by
   simp [execOp,ha.eval hx,ha.eval hy,eqGuard,binOp,run_equal_bool hb.out]⟩
theorem vP {t:Nat} {u:TypeId} {b c:Bool} [hb:BB P t] (hx:ev M x=some (.bool b)) (hy:ev M y=some (.bool c)) :
 EV P n ⟨some d,.binOp .neq t x y u,ty,ps,af,g⟩ M L d (.bool (b != c)):=
 ⟨rfl,fun a w ha _=>by
   simp [execOp,ha.eval hx,ha.eval hy,eqGuard,binOp,run_equal_bool hb.out,bne]⟩
theorem zbM {T e k by_:Nat} [hs:SL P T e k by_] {b off len cap:Nat} {lo hi mx:Operand} {l h m:Nat} {k1 k2 k3:IntKind} (hx:ev M x=some (.slice (some ⟨b,off,none⟩) len cap)) (hl:ev M lo=some (.int k1 (l:Int))) (hh:ev M hi=some (.int k2 (h:Int))) (hm:ev M mx=some (.int k3 (m:Int)))
 (h1:l≤h) (h2:h≤m) (h3:m≤cap):EV P n ⟨some d,.slice T x (some lo) (some hi) (some mx),ty,ps,af,g⟩ M L d (.slice (some ⟨b,if m=l then off else off+l * k,none⟩) (h - l) (m - l)):=
 ⟨rfl,fun a w ha _=>by
   obtain ⟨hu,i',hi',hk',_,hk0⟩:=hs.parts
   simp [execOp,ha.eval hx,Instr.sliceAt,Instr.slice,run_underlying hu,Instr.sliceBounds,Instr.sliceBound,ha.eval hl,ha.eval hh,ha.eval hm,asIntOf,h1,h2,h3,sizeOf,typeInfo,hi',hk',addr_add]
   split<;>simp_all⟩
omit [W0] in
def zeros (zc:List Value):Nat→List Value
 |0=>[]
 |n+1=>zc++zeros zc n
theorem zeros_length (zc:List Value):∀n,(zeros zc n).length=n * zc.length
 |0=>by simp [zeros]
 |n+1=>by simp [zeros,zeros_length zc n,Nat.add_mul,Nat.add_comm]
theorem zcw (zc:List Value):∀(n i:Nat),i < n * zc.length→(zeros zc n)[i]? =zc[i % zc.length]?
 |0,i,h=>by simp at h
 |n+1,i,h=>by
  have hp:0 < zc.length:=by
   rcases Nat.eq_zero_or_pos zc.length with h0|h0
   ·rw [h0] at h;simp at h
   ·exact h0
  rw [Nat.add_mul,Nat.one_mul] at h
  unfold zeros
  by_cases hi:i < zc.length
  ·rw [List.getElem?_append_left hi,Nat.mod_eq_of_lt hi]
  ·rw [List.getElem?_append_right (by omega),zcw zc n (i - zc.length) (by omega)]
   congr 1
   exact (Nat.mod_eq_sub_mod (Nat.le_of_not_lt hi)).symm
theorem wJ {z:Array Value} {m:Nat}:((Array.range (m * z.size)).map (fun i=>z[i % z.size]!))=(zeros z.toList m).toArray:=by
 apply Array.ext'
 apply List.ext_getElem?
 intro i
 by_cases h:i < m * z.size
 ·have hz:0 < z.size:=by
   rcases Nat.eq_zero_or_pos z.size with h0|h0
   ·rw [h0] at h;simp at h
   ·exact h0
  have hm:i % z.size < z.size:=Nat.mod_lt _ hz
  rw [zcw _ _ _ (by simpa using h)]
  simp [h,hm]
 ·rw [List.getElem?_eq_none (by simp;omega),List.getElem?_eq_none (by rw [zeros_length];simp;omega)]
theorem uW {z:Array Value} {m:Nat}:Builtin.zeroCells z m=(zeros z.toList m).toArray:=wJ
theorem zJ {t e k by_:Nat} {z:Value} [hs:SL P t e k by_] [hz:ZV P e z] {m c:Nat} {k1 k2:IntKind} (hx:ev M x=some (.int k1 (m:Int))) (hy:ev M y=some (.int k2 (c:Int))) (hzk:z.cells.size=k)
 (hmc:m≤c) (hc:c≤9223372036854775807) (hb:c * by_≤281474976710656) (hn:Nat.blt d n=true)
 (h:∀b,K ((d,.slice (some ⟨b,0,none⟩) m c)::M) ([(b,cl (zeros z.cells.toList c) e)]::L)):OW P n ⟨some d,.makeSlice t x y,ty,ps,af,g⟩ K M L:=
 uX (f:=fun b=>.slice (some ⟨b,0,none⟩) m c) rfl hn (fun a w ha hw=>by
  obtain ⟨hu,i,hi,hik,hib,hk0⟩:=hs.parts
  have hzz:i.zero=some z:=by have:=hz.out;rw [hi] at this;simpa using this
  subst hik hib
  have hr:=run_make (P:=P) w t e i z hu hi hzz k1 k2 m c (by omega) (by omega) (by
   rw [←Int.natCast_mul,Nat.mul_comm];exact Int.ofNat_le.2 hb) (by omega)
  have hz2:=wJ (z:=z.cells) (m:=c)
  rw [hzk] at hz2
  simp only [execOp,ha.eval hx,ha.eval hy,Sem.run_bind,hr,Result.andThen_ok,Sem.run_pure,Int.toNat_natCast]
  unfold madeCells cl
  rw [hzk,hz2]) h
theorem zl {t e k by_ len:Nat} {z:Value} [hs:SL P t e k by_] [hz:ZV P e z] {parts:List (Nat × Operand)} {pvs:List (Nat × Value)} {cs:List Value} (hp:evp M parts=some pvs) (hzk:z.cells.size=k)
 (hf:zA ((List.range len).map fun i=>(i * k,k)) (zeros z.cells.toList len) pvs=some cs) (hlen:len * k≤16777216) (hpl:pvs.all (fun x=>Nat.blt x.1 len)=true) (hn:Nat.blt d n=true)
 (h:∀b,K ((d,.slice (some ⟨b,0,none⟩) len len)::M) ([(b,cl cs e)]::L)):OW P n ⟨some d,.buildSlice t len parts.toArray,ty,ps,af,g⟩ K M L:=
 uX (f:=fun b=>.slice (some ⟨b,0,none⟩) len len) rfl hn (fun a w ha hw=>by
  obtain ⟨hu,i,hi,hik,hib,hk0⟩:=hs.parts
  subst hik
  have hpe:=ha.evalp hp
  have hz2:=wJ (z:=z.cells) (m:=len)
  rw [hzk] at hz2
  have hfill:=fill_eq _ pvs _ cs hf
  have hfill2:Instr.fill (fun j=>some (j * i.size,i.size)) (zeros z.cells.toList len).toArray pvs=some cs.toArray:=by
   have key:∀(ps:List (Nat × Value)) (c:Array Value),ps.all (fun x=>Nat.blt x.1 len)=true→Instr.fill (((List.range len).map fun j=>(j * i.size,i.size)).toArray[·]?) c ps=Instr.fill (fun j=>some (j * i.size,i.size)) c ps:=by
    intro ps
    induction ps with
    |nil=>intro c _;simp [Instr.fill]
    |cons p r ih=>
     intro c hall
     obtain ⟨j,v⟩:=p
     simp only [List.all_cons,Bool.and_eq_true,Nat.blt_eq] at hall
     unfold Instr.fill
     simp only [List.getElem?_toArray,List.getElem?_map,List.getElem?_range hall.1,Option.map_some]
     split
     ·rfl
     ·have:=ih (v.cells.zipIdx.foldl (fun cs (x:Value × Nat)=>cs.setIfInBounds (j * i.size+x.2) x.1) c) hall.2
      simp only [List.getElem?_toArray,List.getElem?_map] at this
      exact this
   rw [←key pvs _ hpl];exact hfill
  have hle:¬(16777216 < len * i.size):=by omega
  by_cases h0:len * i.size=0
  ·have hl0:len=0:=by
    rcases Nat.mul_eq_zero.1 h0 with h|h
    ·exact h
    ·omega
   subst hl0
   simp [zeros] at hfill2
   have e0:∀f:Nat→Value,Array.map f (Array.range 0)=#[]:=fun f=>by apply Array.ext';simp
   simp [execOp,Instr.buildSlice,run_underlying hu,sizeOf,typeInfo,hi,hpe,newRow,e0,hfill2,cl]
  ·simp only [execOp,Instr.buildSlice,Sem.run_bind,run_underlying hu,Result.andThen_ok]
   have hsz:(sizeOf e).run P w=.ok i.size w:=wz (by rw [hi];rfl) w
   simp [hsz,h0,vN hz.out,hpe,hzk,hle]
   rw [hz2]
   simp [hfill2,newRow,cl]) h
omit [W0] in
def bsv (l:List UInt8):List Value:=l.map fun b=>.int .u8 (b.toNat:Int)
theorem zH {l:List UInt8}:(bsv l).length=l.length:=by simp [bsv]
theorem yj {l:List UInt8}:ones (bsv l)=true:=by simp [ones,bsv,Value.oneCell']
theorem yt {a b:List UInt8}:bsv (a++b)=bsv a++bsv b:=by simp [bsv]
theorem zaX {size m:Nat} {s:ByteArray} (w:World) (hm:m=s.size):(Builtin.firstCells size m (.string s)).run P w=.ok (bsv s.data.toList).toArray w:=by
 subst hm
 simp only [Builtin.firstCells,Sem.run_pure]
 congr 1
 apply Array.ext'
 have:s.extract 0 s.size=s:=by simp
 rw [this]
 simp [bsv]
theorem zfd {t u e by_:Nat} [hs:SL P t e 1 by_] {b off dl dc:Nat} {s:ByteArray} {l:List Value} {T:TypeId} {L':List Chunk} (hx:ev M x=some (.slice (some ⟨b,off,none⟩) dl dc)) (hy:ev M y=some (.string s))
 (hdl:dl=s.size) (hu:Upd L b (cl l T) (cl (patch l off (bsv s.data.toList)) T) L') (hfit:off+s.size≤l.length)
 (hn:Nat.blt d n=true) (h:K ((d,.int .i64 (s.size:Int))::M) L') :
 OW P n ⟨some d,.call ⟨.builtin .copy,#[x,y],#[t,u]⟩,ty,ps,af,g⟩ K M L:=⟨fun a w next Q ha hw hk=>by
 obtain ⟨ht,i,hi,hik,hib,hk0⟩:=hs.parts
 subst hdl
 have hsz:(bsv s.data.toList).length=s.size:=by rw [zH];rfl
 have hst:=wG (P:=P) hw hu (by rw [hsz];exact hfit) yj
 have hfc:=zaX (P:=P) (size:=i.size) (s:=s) w rfl
 have hmin:s.size.min s.size=s.size:=Nat.min_self _
 have hrun:(execOp a.eval ⟨some d,.call ⟨.builtin .copy,#[x,y],#[t,u]⟩,ty,ps,af,g⟩).run P w=.ok (.value (.int .i64 (s.size:Int))) (w.setRow b (patch l off (bsv s.data.toList)).toArray):=by
  simp only [execOp,resolve,invoke,builtin,Sem.run_bind,Sem.run_pure,Result.andThen_ok,List.map_toArray,List.map_cons,List.map_nil,ha.eval hx,ha.eval hy]
  have hsz2:(sizeOf e).run P w=.ok i.size w:=wz (by rw [hi];rfl) w
  simp [Builtin.copy_,run_underlying ht,Builtin.lenOf,hsz2,hmin,hfc,hst,goInt]
 unfold Oper.wp
 rw [hrun,Oper.upon_value]
 exact (hk _ _ h).out _ _ (ha.put _ hn) (hw.row hu)⟩
theorem zh1 {w:World} {b off m:Nat} {c:Array Value} {T:TypeId} (hb:w.heap[b]? =some (.cells c T (0,0))) (hm:m≠0) :
 (w.freeze ⟨b,off,none⟩ m).heap[b]? =some (.cells c T (off,off+m))∧∀e,e≠b→(w.freeze ⟨b,off,none⟩ m).heap[e]? =w.heap[e]? :=by
 unfold World.freeze
 rw [if_neg hm]
 refine ⟨by simp [Array.getElem?_modify,hb],fun e he=>?_⟩
 simp only [Array.getElem?_modify]
 rw [if_neg (fun h=>he h.symm)]
theorem zca (w:World) (a:Addr) (m:Nat):(w.freeze a m).os=w.os∧(w.freeze a m).output=w.output:=by
 unfold World.freeze;split<;>exact ⟨rfl,rfl⟩
theorem Q6 {pt it e:Nat} {b:Nat} {l:List UInt8} {rest:List Value} {L':List Chunk} {i:Int} (hp:P.underlying pt=some (.pointer e)) (hc:P.cellsOf e=1) (hx:ev M x=some (.pointer (some ⟨b,0,none⟩))) (hy:ev M y=some (.int .i64 i)) (hi:i=(l.length:Int))
 (h0:l≠[]) (h63:l.length≤9223372036854775807) (hu:Upd L b (cl (bsv l++rest) e) (.cells (bsv l++rest).toArray e (0,0+l.length)) L')
 (hn:Nat.blt d n=true) (h:K ((d,.string ⟨l.toArray⟩)::M) L') :
 OW P n ⟨some d,.call ⟨.builtin .unsafeString,#[x,y],#[pt,it]⟩,ty,ps,af,g⟩ K M L:=⟨fun a w next Q ha hw hk=>by
 subst hi
 have hb:=hu.fnd.get hw
 have hl:l.length≠0:=by simpa using h0
 have hr:=Lib.run_unsafeString_row (P:=P) (w:=w) pt it ty e hp hc b (bsv l++rest).length (by simp [World.shape?,hb,cl]) l h0 (by simp [bsv]) h63 (fun j u hj=>by
  rw [addr_add,cell_of hb]
  have hj':j < l.length:=by
   rcases Nat.lt_or_ge j l.length with h'|h'
   ·exact h'
   ·simp [List.getElem?_eq_none h'] at hj
  simp only [Nat.zero_add,List.getElem?_toArray]
  rw [List.getElem?_append_left (by simpa [bsv] using hj')]
  simp [bsv,hj])
 have hrun:(execOp a.eval ⟨some d,.call ⟨.builtin .unsafeString,#[x,y],#[pt,it]⟩,ty,ps,af,g⟩).run P w=.ok (.value (.string ⟨l.toArray⟩)) (w.freeze ⟨b,0,none⟩ l.length):=by
  simp only [execOp,resolve,invoke,builtin,Sem.run_bind,Sem.run_pure,Result.andThen_ok,List.map_toArray,List.map_cons,List.map_nil,ha.eval hx,ha.eval hy,hr]
 unfold Oper.wp
 rw [hrun,Oper.upon_value]
 obtain ⟨f1,f2⟩:=zh1 (off:=0) hb hl
 exact (hk _ _ h).out _ _ (ha.put _ hn) (hw.upd hu f1 f2 (zca _ _ _).1 (zca _ _ _).2)⟩
theorem ziI {t e k by_:Nat} {z:Value} [hs:SL P t e k by_] [hz:ZV P e z] {b off m c:Nat} {l:List Value} {T:TypeId} {L':List Chunk} (hx:ev M x=some (.slice (some ⟨b,off,none⟩) m c)) (hzk:z.cells.size=k) (hone:ones z.cells.toList=true)
 (hu:Upd L b (cl l T) (cl (patch l off (zeros z.cells.toList m)) T) L') (hfit:off+m * k≤l.length) (h:K M L') :
 OW P n ⟨none,.call ⟨.builtin .clear,#[x],#[t]⟩,ty,ps,af,g⟩ K M L:=⟨fun a w next Q ha hw hk=>by
 obtain ⟨ht,i,hi,hik,hib,hk0⟩:=hs.parts
 have hzl:(zeros z.cells.toList m).length=m * k:=by rw [zeros_length];simp [hzk]
 have hon:ones (zeros z.cells.toList m)=true:=by
  have:∀q,ones (zeros z.cells.toList q)=true:=by
   intro q
   induction q with
   |zero=>simp [zeros,ones]
   |succ q ih=>simp only [zeros,ones,List.all_append,Bool.and_eq_true] at *;exact ⟨hone,ih⟩
  exact this m
 have hst:=wG (P:=P) hw hu (by rw [hzl];exact hfit) hon
 have hrun:∃w',(execOp a.eval ⟨none,.call ⟨.builtin .clear,#[x],#[t]⟩,ty,ps,af,g⟩).run P w=.ok (.value (.tuple #[])) w'∧Holds w' L':=by
  by_cases hm:m=0
  ·subst hm
   refine ⟨w,?_,?_⟩
   ·simp only [execOp,resolve,invoke,builtin,Sem.run_bind,Sem.run_pure,Result.andThen_ok,List.map_toArray,List.map_cons,List.map_nil,ha.eval hx]
    simp [Builtin.clear_,run_underlying ht]
   ·have:=hw.row hu
    have e:patch l off (zeros z.cells.toList 0)=l:=by simp [patch,zeros]
    rw [e] at this
    rwa [setRow_self w b l.toArray T (0,0) (hu.fnd.get hw)] at this
  ·refine ⟨_,?_,hw.row hu⟩
   simp only [execOp,resolve,invoke,builtin,Sem.run_bind,Sem.run_pure,Result.andThen_ok,List.map_toArray,List.map_cons,List.map_nil,ha.eval hx]
   obtain ⟨m',rfl⟩:∃m',m=m'+1:=⟨m - 1,by omega⟩
   simp [Builtin.clear_,run_underlying ht,vN hz.out,uW,hst]
 obtain ⟨w',hrun,hw'⟩:=hrun
 unfold Oper.wp
 rw [hrun,Oper.upon_value]
 exact (hk _ _ h).out _ _ ha hw'⟩
theorem zbE {t e k by_:Nat} [hs:SL P t e k by_] {b sl sc m:Nat} {r:Value} {l ys:List Value} {L':List Chunk} (hx:ev M x=some (.slice (some ⟨b,0,none⟩) sl sc)) (hy:ev M y=some r) (hsl:Sl L k r m ys) (h1:ones ys=true)
 (hroom:sl+m≤sc) (hu:Upd L b (cl l e) (cl (patch l (sl * k) ys) e) L') (hfit:sl * k+ys.length≤l.length)
 (hn:Nat.blt d n=true) (h:K ((d,.slice (some ⟨b,0,none⟩) (sl+m) sc)::M) L') :
 OW P n ⟨some d,.call ⟨.builtin .append,#[x,y],#[t,t]⟩,ty,ps,af,g⟩ K M L:=⟨fun a w next Q ha hw hk=>by
 obtain ⟨ht,i,hi,hik,hib,hk0⟩:=hs.parts
 subst hik
 have hb:=hu.fnd.get hw
 have hrun:∃w',(execOp a.eval ⟨some d,.call ⟨.builtin .append,#[x,y],#[t,t]⟩,ty,ps,af,g⟩).run P w=.ok (.value (.slice (some ⟨b,0,none⟩) (sl+m) sc)) w'∧Holds w' L':=by
  rcases hsl with ⟨c',rfl,rfl,rfl⟩|⟨a',c',rfl,hrd,hyl⟩
  ·refine ⟨w,?_,?_⟩
   ·have hroom':sl≤sc:=by omega
    simp only [execOp,resolve,invoke,builtin,Sem.run_bind,Sem.run_pure,Result.andThen_ok,List.map_toArray,List.map_cons,List.map_nil,ha.eval hx,ha.eval hy]
    simp [Builtin.append_,run_underlying ht,sizeOf,typeInfo,hi,Builtin.lenOf,Builtin.firstCells,hroom',storeCells]
   ·have:=hw.row hu
    have e2:patch l (sl * i.size) []=l:=by simp [patch]
    rw [e2] at this
    rwa [setRow_self w b l.toArray e (0,0) hb] at this
  ·have hr:=run_append_room (P:=P) w t ty e i ht hi b sl sc l.toArray hb a' m c' ys hyl (hrd.cells hw) (X9 h1) hroom (by simpa using hfit)
   refine ⟨_,?_,hw.row hu⟩
   simp only [execOp,resolve,invoke,builtin,Sem.run_bind,Sem.run_pure,Result.andThen_ok,List.map_toArray,List.map_cons,List.map_nil,ha.eval hx,ha.eval hy,hr]
   simp [patch]
 obtain ⟨w',hrun,hw'⟩:=hrun
 unfold Oper.wp
 rw [hrun,Oper.upon_value]
 exact (hk _ _ h).out _ _ (ha.put _ hn) hw'⟩
theorem zaC {t u e k by_:Nat} {z:Value} {ku:IntKind} [hs:SL P t e k by_] [hz:ZV P e z] [hi:IK P u ku] {a0:Addr} {sl sc c:Nat} {kk:IntKind} {old:List Value} (hx:ev M x=some (.slice (some a0) sl sc)) (hy:ev M y=some (.int kk (c:Int)))
 (hzk:z.cells.size=k) (hrd:zK L a0 old) (hol:old.length=sl * k) (hgrow:sc < sl+c) (hb:(sl+c) * by_≤140737488355328) (h63:sl+c≤9223372036854775807)
 (hn:Nat.blt d n=true) (h:∀b cap rest,sl+c≤cap→cap≤maxLen→rest.length=(cap - (sl+c)) * k→K ((d,.slice (some ⟨b,0,none⟩) (sl+c) cap)::M) ([(b,cl (old++zeros z.cells.toList c++rest) e)]::L)) :
 OW P n ⟨some d,.call ⟨.builtin .append,#[x,y],#[t,u]⟩,ty,ps,af,g⟩ K M L:=⟨fun a w next Q ha hw hk=>by
 obtain ⟨ht,i,hif,hik,hib,hk0⟩:=hs.parts
 subst hik hib
 have hzz:i.zero=some z:=by have:=hz.out;rw [hif] at this;simpa using this
 have hfit:=growslice_fits hgrow hb
 have hrd':=run_firstCells_some (P:=P) w.drew i.size sl a0 sl sc old hol (by simpa using hrd.cells hw)
 have hcap:=grownCap_ge w (sl+c) sc e
 have hcm:=grownCap_le_maxLen w (sl+c) sc e (by simp [maxLen];omega)
 have hz2:=wJ (z:=z.cells) (m:=c)
 have hz3:=wJ (z:=z.cells) (m:=grownCap w (sl+c) sc e - (sl+c))
 have hc1:=wrap_i64 (r:=(c:Int)) (by omega) (by omega)
 have hcb:¬(281474976710656 < (c:Int) * (i.bytes:Int)):=by
  have h1:c * i.bytes≤(sl+c) * i.bytes:=Nat.mul_le_mul_right _ (by omega)
  rw [←Int.natCast_mul];omega
 have hrun:(execOp a.eval ⟨some d,.call ⟨.builtin .append,#[x,y],#[t,u]⟩,ty,ps,af,g⟩).run P w=.ok (.value (.slice (some ⟨w.heap.size,0,none⟩) (sl+c) (grownCap w (sl+c) sc e)))
  (w.drew.alloc (cl (old++zeros z.cells.toList c++zeros z.cells.toList (grownCap w (sl+c) sc e - (sl+c))) e)):=by
  have hne:¬(sl+c≤sc):=by omega
  have h63':¬(9223372036854775807 < ((sl:Int)+(c:Int))):=by omega
  have h48':¬(281474976710656 < Builtin.nextslicecap (sl+c) sc * i.bytes):=by omega
  have hc0:¬((c:Int) < 0):=by omega
  simp only [execOp,resolve,invoke,builtin,Sem.run_bind,Sem.run_pure,Result.andThen_ok,List.map_toArray,List.map_cons,List.map_nil,ha.eval hx,ha.eval hy]
  simp [Builtin.append_,run_underlying ht,run_underlying hi.out,sizeOf,typeInfo,hif,asInt,asIntOf,hc1,hc0,hcb,hne,h63',h48',Question.forced,hrd',newRow,vN hz.out]
  split
  ·rename_i h0
   have hcz:c=0:=by
    rcases Nat.mul_eq_zero.1 h0 with h|h
    ·exact h
    ·omega
   subst hcz
   simp [uW,grownCap,cl,zeros]
  ·simp [uW,grownCap,cl]
 unfold Oper.wp
 rw [hrun,Oper.upon_value]
 have:=(hw.same (w':=w.drew) rfl rfl rfl).alloc (cl (old++zeros z.cells.toList c++zeros z.cells.toList (grownCap w (sl+c) sc e - (sl+c))) e)
 exact (hk _ _ (h w.heap.size _ _ hcap hcm (by rw [zeros_length];simp [hzk]))).out _ _ (ha.put _ hn) this⟩
theorem YU {f:FuncId} {fn:Func} {xs:List Operand} {ats:Array TypeId} {vs:List Value} {e:Array Value→Sem Value} (hx:ev M x=some (.func (.func f) #[] #[])) (hvs:evs M xs=some vs) (hf:P.funcs[f]? =some fn) (hname:(fn.name == "runtime.NumGoroutine")=false)
 (hb:fn.body.isNone=true) (hnx:Extern.findNext fn=none) (he:Extern.find fn=some e) (hr:∀w,Holds w L→(e vs.toArray).run P w=.ok v w):EV P n ⟨some d,.call ⟨.value x,xs.toArray,ats⟩,ty,ps,af,g⟩ M L d v:=
 ⟨rfl,fun a w ha hw=>by
   have hm:Array.map a.eval xs.toArray=vs.toArray:=by rw [←ha.evals hvs];simp
   have h1:=run_callFunc_extern hf hname hb hnx he vs.toArray w
   rw [hr w hw] at h1
   simp only [execOp,resolve,ha.eval hx,hm,Deferred.ofValue,Sem.run_bind,Sem.run_pure,Result.andThen_ok,invoke,Array.append_empty,Array.empty_append,h1]⟩
theorem wrap_u64 {r:Int} (h1:0≤r) (h2:r≤18446744073709551615):IntKind.u64.wrap r=r:=by
 simp [IntKind.wrap,IntKind.bits,IntKind.signed]
 omega
theorem Ya {a j m:Int} {k:IntKind} (h:0≤a) (hm:(2:Int) ^ (min j.toNat k.bits)=m):a.fdiv (2 ^ (min j.toNat k.bits))=a / m:=by
 rw [hm]
 subst hm
 exact Int.fdiv_eq_ediv_of_nonneg _ (Int.le_of_lt (Int.pow_pos (by decide)))
theorem zfC {t:Nat} {k:IntKind} {a b:Int} (h:lk M t=some (.int k a)) (e:a=b):lk M t=some (.int k b):=by rw [h,e]
theorem yx {T e k by_:Nat} [hs:SL P T e k by_] {b len cap:Nat} {lo hi:Option Operand} {l h:Nat} (hx:ev M x=some (.slice (some ⟨b,0,none⟩) len cap)) (hl:bnd M lo 0=some (l:Int)) (hh:bnd M hi len=some (h:Int))
 (h1:l≤h) (h2:h≤cap) (h3:l < cap):EV P n ⟨some d,.slice T x lo hi none,ty,ps,af,g⟩ M L d (.slice (some ⟨b,l * k,none⟩) (h - l) (cap - l)):=by
 have:=yS (P:=P) (n:=n) (L:=L) (d:=d) (ty:=ty) (ps:=ps) (af:=af) (g:=g) (T:=T) hx hl hh h1 h2
 rw [if_neg (by omega),Nat.zero_add] at this
 exact this
theorem qH {o:Operand} {dflt:Nat} {k:IntKind} {a b:Int} (h:ev M o=some (.int k a)) (e:a=b):bnd M (some o) dflt=some b:=by simp only [bnd,h,e]
theorem vR {t e k by_:Nat} [hs:SL P t e k by_] {b off dl dc sl:Nat} {r:Value} {l zs:List Value} {T:TypeId} {L':List Chunk} (l':List Value) (hx:ev M x=some (.slice (some ⟨b,off,none⟩) dl dc)) (hy:ev M y=some r)
 (hsl:Sl L k r sl zs) (h1:ones (zs.take (min sl dl * k))=true) (he:patch l off (zs.take (min sl dl * k))=l') (hu:Upd L b (cl l T) (cl l' T) L') (hfit:off+min sl dl * k≤l.length)
 (hn:Nat.blt d n=true) (h:K ((d,.int .i64 ((min sl dl:Nat):Int))::M) L') :
 OW P n ⟨some d,.call ⟨.builtin .copy,#[x,y],#[t,t]⟩,ty,ps,af,g⟩ K M L:=by
 subst he
 exact zmn hx hy hsl h1 hu hfit hn h
theorem Q5 {t e k by_:Nat} [hs:SL P t e k by_] {b sl sc m:Nat} {r:Value} {l ys:List Value} {L':List Chunk} (l':List Value) (hx:ev M x=some (.slice (some ⟨b,0,none⟩) sl sc)) (hy:ev M y=some r) (hsl:Sl L k r m ys) (h1:ones ys=true)
 (hroom:sl+m≤sc) (he:patch l (sl * k) ys=l') (hu:Upd L b (cl l e) (cl l' e) L') (hfit:sl * k+ys.length≤l.length)
 (hn:Nat.blt d n=true) (h:K ((d,.slice (some ⟨b,0,none⟩) (sl+m) sc)::M) L') :
 OW P n ⟨some d,.call ⟨.builtin .append,#[x,y],#[t,t]⟩,ty,ps,af,g⟩ K M L:=by
 subst he
 exact zbE hx hy hsl h1 hroom hu hfit hn h
theorem zfc {t e k by_:Nat} {z:Value} [hs:SL P t e k by_] [hz:ZV P e z] {b off m c:Nat} {l:List Value} {T:TypeId} {L':List Chunk} (l':List Value) (hx:ev M x=some (.slice (some ⟨b,off,none⟩) m c)) (hzk:z.cells.size=k) (hone:ones z.cells.toList=true)
 (he:patch l off (zeros z.cells.toList m)=l') (hu:Upd L b (cl l T) (cl l' T) L') (hfit:off+m * k≤l.length) (h:K M L') :
 OW P n ⟨none,.call ⟨.builtin .clear,#[x],#[t]⟩,ty,ps,af,g⟩ K M L:=by
 subst he
 exact ziI hx hzk hone hu hfit h
omit [W0] in
def tkN:List Value→Nat→Option (List Value)
 |_,0=>some []
 |[],_+1=>none
 |v::r,m+1=>match tkN r m with
  |some vs=>some (v::vs)
  |none=>none
omit [W0] in
def dpN:List Value→Nat→List Value
 |l,0=>l
 |[],_+1=>[]
 |_::r,m+1=>dpN r m
theorem zjG:∀(l:List Value) (m:Nat),dpN l m=l.drop m
 |l,0=>by simp [dpN]
 |[],m+1=>by simp [dpN]
 |v::r,m+1=>by simp [dpN,zjG r m]
theorem zl0:∀{l:List Value} {m:Nat} {vs:List Value},tkN l m=some vs→vs=l.take m∧vs.length=m
 |l,0,vs,h=>by simp [tkN] at h;subst h;simp
 |[],m+1,vs,h=>by simp [tkN] at h
 |v::r,m+1,vs,h=>by
  unfold tkN at h
  split at h
  ·rename_i us hu
   simp at h;subst h
   obtain ⟨h1,h2⟩:=zl0 hu
   simp [h1,h2]
   rw [←h2];simp [h1]
  ·simp at h
theorem qW {t k:Nat} [hag:AG P t k] {b off:Nat} {l vs:List Value} {T:TypeId} (hx:ev M x=some (.pointer (some ⟨b,off,none⟩))) (hf:Fnd L b (cl l T)) (hc:tkN (dpN l off) k=some vs) :
 EV P n ⟨some d,.load t x,ty,ps,af,g⟩ M L d (.agg vs.toArray):=by
 obtain ⟨h1,h2⟩:=zl0 hc
 rw [zjG] at h1
 exact zB hx (zK.cl' hf (by unfold cut;rw [h2,h1])) h2
theorem zo {t k:Nat} [hag:AG P t k] {b off:Nat} {l vs:List Value} {T:TypeId} {L':List Chunk} (l':List Value) (hx:ev M x=some (.pointer (some ⟨b,off,none⟩))) (hy:ev M y=some (.agg vs.toArray)) (hl:vs.length=k)
 (h1:ones vs=true) (he:patch l off vs=l') (hu:Upd L b (cl l T) (cl l' T) L') (hfit:off+vs.length≤l.length) (h:K M L') :
 OW P n ⟨none,.store t x y,ty,ps,af,g⟩ K M L:=by
 subst he
 exact QJ hx hy hl h1 hu hfit h
theorem zG {t:TypeId} [hs:SZ P t 1] {b off:Nat} {l:List Value} {T:TypeId} {L':List Chunk} (l':List Value) (hx:ev M x=some (.pointer (some ⟨b,off,none⟩))) (hy:ev M y=some v) (hv:v.oneCell'=true)
 (he:l.set off v=l') (hu:Upd L b (cl l T) (cl l' T) L') (hlt:off < l.length) (h:K M L') :
 OW P n ⟨none,.store t x y,ty,ps,af,g⟩ K M L:=by
 subst he
 exact qL hx hy hv hu hlt h
omit [W0] in
def zcN:BinOp→IntKind→Int→Int→Option Int
 |.and,k,x,y=>some (k.wrap ((BitVec.ofInt k.bits x&&&BitVec.ofInt k.bits y).toNat:Int))
 |.or,k,x,y=>some (k.wrap ((BitVec.ofInt k.bits x|||BitVec.ofInt k.bits y).toNat:Int))
 |.xor,k,x,y=>some (k.wrap ((BitVec.ofInt k.bits x ^^^ BitVec.ofInt k.bits y).toNat:Int))
 |.andNot,k,x,y=>some (k.wrap ((BitVec.ofInt k.bits x&&& ~~~ BitVec.ofInt k.bits y).toNat:Int))
 |_,_,_,_=>none
theorem wZ {op:BinOp} {t u:TypeId} {k:IntKind} {i j r:Int} (hx:ev M x=some (.int k i)) (hy:ev M y=some (.int k j)) (hb:zcN op k i j=some r) :
 EV P n ⟨some d,.binOp op t x y u,ty,ps,af,g⟩ M L d (.int k r):=
 ⟨rfl,fun a w ha _=>by
   cases op<;>simp [zcN] at hb<;>subst hb<;>simp [execOp,ha.eval hx,ha.eval hy,eqGuard,binOp,Op.intBits]⟩
omit [W0] in
def zkD (k:IntKind):Int→Option Int
 |.ofNat m=>bif Nat.beq (2 ^ Nat.log2 (m+1)) (m+1)&&Nat.ble (Nat.log2 (m+1)+1) k.bits then some (m+1:Nat) else none
 |.negSucc _=>none
theorem bits_mask {k:IntKind} {i m p:Int} (h:zkD k m=some p):k.wrap ((BitVec.ofInt k.bits i&&&BitVec.ofInt k.bits m).toNat:Int)=i % p:=by
 cases m with
 |negSucc _=>simp [zkD] at h
 |ofNat m=>
  have h:(bif Nat.beq (2 ^ Nat.log2 (m+1)) (m+1)&&Nat.ble (Nat.log2 (m+1)+1) k.bits then some ((m+1:Nat):Int) else none)=some p:=h
  cases h1:(Nat.beq (2 ^ Nat.log2 (m+1)) (m+1)&&Nat.ble (Nat.log2 (m+1)+1) k.bits) with
  |false=>rw [h1] at h;simp at h
  |true=>
   rw [h1] at h
   simp only [cond_true,Option.some.injEq] at h
   rw [Bool.and_eq_true,Nat.ble_eq] at h1
   obtain ⟨h2,h3⟩:=h1
   have h2:=Nat.eq_of_beq_eq_true h2
   generalize Nat.log2 (m+1)=j at h2 h3
   subst h
   have hj:j < k.bits:=by omega
   have hlt:2 ^ j < 2 ^ k.bits:=Nat.pow_lt_pow_right (by decide) hj
   have hm:m=2 ^ j - 1:=by omega
   have e1:(BitVec.ofInt k.bits (Int.ofNat m)).toNat=m:=by
    rw [BitVec.toNat_ofInt]
    have hml:m < 2 ^ k.bits:=by omega
    have:(Int.ofNat m) % ((2 ^ k.bits:Nat):Int)=Int.ofNat m:=Int.emod_eq_of_lt (Int.natCast_nonneg m) (by have:((m:Nat):Int) < ((2 ^ k.bits:Nat):Int):=by { exact_mod_cast hml };exact this)
    rw [this];rfl
   have e2:((BitVec.ofInt k.bits i).toNat:Int)=i % ((2 ^ k.bits:Nat):Int):=by
    rw [BitVec.toNat_ofInt]
    have h0:0 < 2 ^ k.bits:=Nat.pow_pos (by decide)
    exact Int.toNat_of_nonneg (Int.emod_nonneg _ (by omega))
   have e3:((BitVec.ofInt k.bits i&&&BitVec.ofInt k.bits (Int.ofNat m)).toNat:Int)=i % ((2 ^ j:Nat):Int):=by
    rw [BitVec.toNat_and,e1,hm,Nat.and_two_pow_sub_one_eq_mod,Int.natCast_emod,e2]
    refine Int.emod_emod_of_dvd _ ?_
    exact_mod_cast Nat.pow_dvd_pow 2 (Nat.le_of_lt hj)
   rw [e3,h2]
   have hp:(0:Int) < ((m+1:Nat):Int):=by omega
   have g1:=Int.emod_nonneg i (Int.ne_of_gt hp)
   have g2:=Int.emod_lt_of_pos i hp
   have g3:((m+1:Nat):Int)≤((2 ^ (k.bits - 1):Nat):Int):=by
    have:2 ^ j≤2 ^ (k.bits - 1):=Nat.pow_le_pow_right (by decide) (by omega)
    rw [←h2];exact_mod_cast this
   have g4:((m+1:Nat):Int) < ((2 ^ k.bits:Nat):Int):=by rw [←h2];exact_mod_cast hlt
   unfold IntKind.wrap
   have c1:((2:Int) ^ k.bits)=((2 ^ k.bits:Nat):Int):=by simp
   have c2:((2:Int) ^ (k.bits - 1))=((2 ^ (k.bits - 1):Nat):Int):=by simp
   simp only [c1,c2]
   rw [Int.emod_eq_of_lt g1 (by omega),if_neg]
   simp only [Bool.and_eq_true,decide_eq_true_eq]
   omega
theorem zmj {t u:TypeId} {k:IntKind} {i m p:Int} (hx:ev M x=some (.int k i)) (hy:ev M y=some (.int k m)) (hm:zkD k m=some p) :
 EV P n ⟨some d,.binOp .and t x y u,ty,ps,af,g⟩ M L d (.int k (i % p)):=by
 have:=wZ (P:=P) (n:=n) (L:=L) (d:=d) (ty:=ty) (ps:=ps) (af:=af) (g:=g) (op:=.and) (t:=t) (u:=u) hx hy rfl
 rwa [bits_mask hm] at this
theorem Xm {t u:TypeId} {k:IntKind} {i j:Int} (hx:ev M x=some (.int k i)) (hy:ev M y=some (.int k j)) (hj:j≠0) :
 EV P n ⟨some d,.binOp .rem t x y u,ty,ps,af,g⟩ M L d (.int k (i.tmod j)):=
 ⟨rfl,fun a w ha _=>by simp [execOp,ha.eval hx,ha.eval hy,eqGuard,binOp,Op.intDiv,hj]⟩
theorem ziC {t u:TypeId} {k:IntKind} {i j:Int} (hx:ev M x=some (.int k i)) (hy:ev M y=some (.int k j)) (hj:j≠0) :
 EV P n ⟨some d,.binOp .quo t x y u,ty,ps,af,g⟩ M L d (.int k (k.wrap (i.tdiv j))):=
 ⟨rfl,fun a w ha _=>by simp [execOp,ha.eval hx,ha.eval hy,eqGuard,binOp,Op.intDiv,hj]⟩
theorem zfa {t u:TypeId} {k k':IntKind} {i j r:Int} (hx:ev M x=some (.int k i)) (hy:ev M y=some (.int k' j)) (hj:0≤j) (hr:k.wrap (i * 2 ^ (min j.toNat k.bits))=r) :
 EV P n ⟨some d,.binOp .shl t x y u,ty,ps,af,g⟩ M L d (.int k r):=
 ⟨rfl,fun a w ha _=>by
   have:¬j < 0:=by omega
   simp [execOp,ha.eval hx,ha.eval hy,eqGuard,binOp,Op.shift,this,hr]⟩
theorem zdK {o:Oper} (h:K ((d,v)::M) L) (he:EV P n o M L d v:=by first|(show EV _ _ ⟨_,.move _,_,_,_,_⟩ _ _ _ _;first|exact ZO rfl)|(show EV _ _ ⟨_,.assign _,_,_,_,_⟩ _ _ _ _;first|exact yQ rfl)|(show EV _ _ ⟨_,.nilCheck _,_,_,_,_⟩ _ _ _ _;first|exact qY rfl)|(show EV _ _ ⟨_,.fieldAddr ..,_,_,_,_⟩ _ _ _ _;first|exact qm rfl|exact yH rfl)|(show EV _ _ ⟨_,.load ..,_,_,_,_⟩ _ _ _ _;first|exact zy rfl (by repeat (first|assumption|exact Fnd.here|refine Fnd.there ?_)) rfl|exact qW rfl (by repeat (first|assumption|exact Fnd.here|refine Fnd.there ?_)) rfl)|(show EV _ _ ⟨_,.binOp ..,_,_,_,_⟩ _ _ _ _;first|exact Xi rfl rfl rfl|exact qU rfl rfl rfl (by omega)|exact ZQ rfl rfl (by decide) (Ya (by omega) (by simp [IntKind.bits];rfl))|exact uy rfl rfl|exact Zc rfl rfl|exact Zb rfl rfl|exact qp rfl rfl|exact qw rfl rfl|exact qZ rfl rfl|exact q8 rfl rfl|exact vO rfl rfl|exact vP rfl rfl)|(show EV _ _ ⟨_,.convert ..,_,_,_,_⟩ _ _ _ _;first|exact zO rfl (wrap_i64 (by omega) (by omega))|exact zO rfl (wrap_u64 (by omega) (by omega))|exact zO rfl rfl)|(show EV _ _ ⟨_,.extract ..,_,_,_,_⟩ _ _ _ _;first|exact w9 rfl rfl)|(show EV _ _ ⟨_,.unOp ..,_,_,_,_⟩ _ _ _ _;first|exact Xl rfl)|(show EV _ _ ⟨_,.pick ..,_,_,_,_⟩ _ _ _ _;first|exact ZP rfl rfl)|(show EV _ _ ⟨_,.call ⟨.builtin .len,_,_⟩,_,_,_,_⟩ _ _ _ _;first|exact Za rfl|exact vQ rfl)|(show EV _ _ ⟨_,.call ⟨.builtin .cap,_,_⟩,_,_,_,_⟩ _ _ _ _;first|exact u7 rfl)|(show EV _ _ ⟨_,.call ⟨.builtin .min,_,_⟩,_,_,_,_⟩ _ _ _ _;first|exact Xk rfl rfl)|(show EV _ _ ⟨_,.call ⟨.builtin .max,_,_⟩,_,_,_,_⟩ _ _ _ _;first|exact Xj rfl rfl)|(show EV _ _ ⟨_,.makeInterface ..,_,_,_,_⟩ _ _ _ _;first|exact yM rfl)|(show EV _ _ ⟨_,.makeFunc ..,_,_,_,_⟩ _ _ _ _;first|exact qX rfl rfl)|(show EV _ _ ⟨_,.typeAssert ..,_,_,_,_⟩ _ _ _ _;first|exact qC rfl|exact qV rfl rfl)|(show EV _ _ ⟨_,.build ..,_,_,_,_⟩ _ _ _ _;first|exact uo rfl (by simp [zA,patch,Value.cells];rfl))) (hn:Nat.blt d n=true:=by exact rfl):OW P n o K M L:=ze he hn h
theorem za {S:List Chunk} {ops:List Oper} {T:List Nat} {fuel:Nat} {listed:Array Bool} (i:Nat) {o:Oper} (h:WR P n ops Q S T fuel (listed.setIfInBounds i true) ((d,v)::M) L)
 (hi:ops[i]? =some o:=by exact rfl) (hg:o.guard=none:=by exact rfl) (hb:takeB ops T listed i=true:=by kernel_rfl) (hPO:PO Q:=by exact (by repeat (first|with_reducible exact PO.body|with_reducible exact zgo|with_reducible refine PO.then ?_|with_reducible refine PO.block ?_))) (hinc:Inc S L:=by exact (by repeat (first|exact Inc.refl|exact Inc.nil|(show Inc (_::_) _;refine Inc.cons (by repeat (first|exact Take.here|apply Take.there)) ?_)|refine Inc.skip ?_))) (he:EV P n o M S d v:=by exact (by first|(show EV _ _ ⟨_,.move _,_,_,_,_⟩ _ _ _ _;first|exact ZO rfl)|(show EV _ _ ⟨_,.assign _,_,_,_,_⟩ _ _ _ _;first|exact yQ rfl)|(show EV _ _ ⟨_,.nilCheck _,_,_,_,_⟩ _ _ _ _;first|exact qY rfl)|(show EV _ _ ⟨_,.fieldAddr ..,_,_,_,_⟩ _ _ _ _;first|exact qm rfl|exact yH rfl)|(show EV _ _ ⟨_,.load ..,_,_,_,_⟩ _ _ _ _;first|exact zy rfl (by repeat (first|assumption|exact Fnd.here|refine Fnd.there ?_)) rfl|exact qW rfl (by repeat (first|assumption|exact Fnd.here|refine Fnd.there ?_)) rfl)|(show EV _ _ ⟨_,.binOp ..,_,_,_,_⟩ _ _ _ _;first|exact Xi rfl rfl rfl|exact qU rfl rfl rfl (by omega)|exact ZQ rfl rfl (by decide) (Ya (by omega) (by simp [IntKind.bits];rfl))|exact uy rfl rfl|exact Zc rfl rfl|exact Zb rfl rfl|exact qp rfl rfl|exact qw rfl rfl|exact qZ rfl rfl|exact q8 rfl rfl|exact vO rfl rfl|exact vP rfl rfl)|(show EV _ _ ⟨_,.convert ..,_,_,_,_⟩ _ _ _ _;first|exact zO rfl (wrap_i64 (by omega) (by omega))|exact zO rfl (wrap_u64 (by omega) (by omega))|exact zO rfl rfl)|(show EV _ _ ⟨_,.extract ..,_,_,_,_⟩ _ _ _ _;first|exact w9 rfl rfl)|(show EV _ _ ⟨_,.unOp ..,_,_,_,_⟩ _ _ _ _;first|exact Xl rfl)|(show EV _ _ ⟨_,.pick ..,_,_,_,_⟩ _ _ _ _;first|exact ZP rfl rfl)|(show EV _ _ ⟨_,.call ⟨.builtin .len,_,_⟩,_,_,_,_⟩ _ _ _ _;first|exact Za rfl|exact vQ rfl)|(show EV _ _ ⟨_,.call ⟨.builtin .cap,_,_⟩,_,_,_,_⟩ _ _ _ _;first|exact u7 rfl)|(show EV _ _ ⟨_,.call ⟨.builtin .min,_,_⟩,_,_,_,_⟩ _ _ _ _;first|exact Xk rfl rfl)|(show EV _ _ ⟨_,.call ⟨.builtin .max,_,_⟩,_,_,_,_⟩ _ _ _ _;first|exact Xj rfl rfl)|(show EV _ _ ⟨_,.makeInterface ..,_,_,_,_⟩ _ _ _ _;first|exact yM rfl)|(show EV _ _ ⟨_,.makeFunc ..,_,_,_,_⟩ _ _ _ _;first|exact qX rfl rfl)|(show EV _ _ ⟨_,.typeAssert ..,_,_,_,_⟩ _ _ _ _;first|exact qC rfl|exact qV rfl rfl)|(show EV _ _ ⟨_,.build ..,_,_,_,_⟩ _ _ _ _;first|exact uo rfl (by simp [zA,patch,Value.cells];rfl)))) (hn:Nat.blt d n=true:=by exact rfl) :
 WR P n ops Q S T (fuel+1) listed M L:=zah i hi hg hb hPO hinc he hn h
theorem a0 {o:Oper} (he:EV P n o M L d v) (h:K ((d,v)::M) L) (hn:Nat.blt d n=true:=by exact rfl):OW P n o K M L:=ze he hn h
end
theorem nrB:(∀(p:Prop) [Decidable p],(decide p=true)=p)∧(∀(p:Prop) [Decidable p],(decide p=false)=¬p)∧
 (∀{α:Type} [BEq α] [LawfulBEq α] (a b:α),((a == b)=true)=(a=b))∧(∀{α:Type} [BEq α] [LawfulBEq α] (a b:α),((a != b)=true)=¬(a=b))∧
 (∀{α:Type} [BEq α] [LawfulBEq α] (a b:α),((a == b)=false)=¬(a=b))∧(∀{α:Type} [BEq α] [LawfulBEq α] (a b:α),((a != b)=false)=(a=b))∧
 (∀b:Bool,((!b)=true)=(b=false))∧(∀b:Bool,((!b)=false)=(b=true))∧(∀b:Bool,(¬(b=true))=(b=false))∧
 (∀a b:Bool,((a&&b)=true)=(a=true∧b=true))∧(∀a b:Bool,((a||b)=true)=(a=true∨b=true))∧(∀a b:Bool,((a||b)=false)=(a=false∧b=false))∧
 (∀{α:Type} (a b:α),(a≠b)=¬(a=b))∧(∀b:Bool,(true != b)=!b)∧(∀b:Bool,(false != b)=b)∧(∀b:Bool,(b != true)=!b)∧(∀b:Bool,(b != false)=b):=by
 refine ⟨fun p _=>by simp,fun p _=>by simp,fun a b=>by simp,fun a b=>by simp,fun a b=>by simp,fun a b=>by simp,fun b=>by simp,fun b=>by simp,fun b=>by simp,fun a b=>by simp,fun a b=>by simp,fun a b=>by simp,fun a b=>rfl,fun b=>by simp,fun b=>by simp,fun b=>by simp,fun b=>by simp⟩
end Go.Vx
namespace Go.Vx
open Go
set_option linter.all false
variable [W0]
variable {P : Program} {n : Nat} {M : List (Nat × Value)} {L : List Chunk} {d : Nat} {x y : Operand} {v : Value} {ty : TypeId} {ps : String} {af : Array Edge} {g : Option (Nat × Bool)} {K : List (Nat × Value) → List Chunk → Prop}
theorem Qz {T e k by_:Nat} (h:zhw P T=some (e,k,by_)):P.underlying T=some (.slice e):=by
 unfold zhw at h
 split at h
 ·rename_i e' hu
  split at h
  ·split at h
   ·simp at h;rw [hu,h.1]
   ·simp at h
  ·simp at h
 ·simp at h
theorem qD {s t e k by_:Nat} [hs:SL P s e k by_] [he:IK P e .u8] [ht:ST P t] {m:Nat} {b:List UInt8} (hx:ev M x=some v) (hv:Sl L 1 v m (bsv b)) :
 EV P n ⟨some d,.convert s t x,ty,ps,af,g⟩ M L d (.string ⟨b.toArray⟩):=
 ⟨rfl,fun a w ha hw=>by
   simp only [execOp,Sem.run_bind,ha.eval hx]
   rcases hv with ⟨c,rfl,rfl,h0⟩|⟨ad,cap,rfl,hr,hl⟩
   ·have hb:b=[]:=by simpa [bsv] using h0
    subst hb
    rw [run_convert_bytes_nil w s e (Qz hs.out) he.out 0 c t ht.out]
    rfl
   ·have hlb:b.length=m:=by simpa [zH] using hl
    rw [run_convert_bytes_string w s t e _ m cap (Qz hs.out) he.out ht.out]
    have hmm:bsv b=(b.map fun c=>(c.toNat:Int)).map (Value.int .u8):=by simp [bsv]
    have hrun:=run_loadCells_list (P:=P) w ad (bsv b) (hr.cells hw)
    rw [zH,hlb] at hrun
    rw [run_bytesToString w ad m cap (b.map fun c=>(c.toNat:Int)) (by rw [hrun,hmm]),foldl_push_bytes]
    have:(ByteArray.empty.data++(List.map (fun n=>UInt8.ofNat n.toNat) (List.map (fun c=>(c.toNat:Int)) b)).toArray)=b.toArray:=by
     rw [List.map_map]
     have h2:((fun n:Int=>UInt8.ofNat n.toNat) ∘ fun c:UInt8=>(c.toNat:Int))=id:=by
      funext c;simp
     rw [h2,List.map_id]
     have h3:ByteArray.empty.data=#[]:=rfl
     rw [h3,Array.empty_append]
    rw [this]
    rfl⟩
end Go.Vx
namespace Go.Vx
open Go
set_option linter.all false
variable [W0]
variable {P : Program}
theorem z8 {l r:List Value} {i:Nat} {v:Value} (h:l[i]? =some v):(l++r)[i]? =some v:=by
 have:i < l.length:=by
  rcases Nat.lt_or_ge i l.length with h'|h'
  ·exact h'
  ·simp [List.getElem?_eq_none h'] at h
 rw [List.getElem?_append_left this];exact h
theorem uK {e k m:Nat} {v:Value} {xs:List Value} {C:Chunk} (h:Ow e k v m xs C):v.oneCell'=true:=by
 rcases h with ⟨rfl,_⟩|⟨b,cap,rest,rfl,_⟩<;>rfl
theorem zM {e k m:Nat} {v:Value} {xs:List Value} {C:Chunk} (h:Ow e k v m xs C):∃a c,v=.slice a m c:=by
 rcases h with ⟨rfl,rfl,_⟩|⟨b,cap,rest,rfl,_⟩
 ·exact ⟨_,_,rfl⟩
 ·exact ⟨_,_,rfl⟩
theorem qz {e k m:Nat} {v:Value} {xs:List Value} {C:Chunk} {L:List Chunk} (h:Ow e k v m xs C):Sl (C::L) k v m xs:=by
 rcases h with ⟨rfl,rfl,rfl,rfl⟩|⟨b,cap,rest,rfl,rfl,hxl,hrl,hmc,hcm⟩
 ·exact .inl ⟨_,rfl,rfl,rfl⟩
 ·exact .inr ⟨_,_,rfl,zK.cl' Fnd.here (by simp [cut]),hxl⟩
theorem YI {L:List Chunk} {k:Nat} {v:Value} {m:Nat} {xs:List Value} (h:Sl L k v m xs):∃a c,v=.slice a m c:=by
 rcases h with ⟨c,rfl,rfl,rfl⟩|⟨a,cap,rfl,_⟩
 ·exact ⟨_,_,rfl⟩
 ·exact ⟨_,_,rfl⟩
theorem zfX {L L':List Chunk} (hs:∀x∈L.flatten,x∈L'.flatten) {a:Addr} {vs:List Value} (h:zK L a vs):zK L' a vs:=by
 rcases h with h|⟨b,off,c,T,fr,e2,h7,h8⟩
 ·exact .inl h
 ·exact .inr ⟨b,off,c,T,fr,e2,hs _ h7,h8⟩
theorem zlG {L L':List Chunk} (hs:∀x∈L.flatten,x∈L'.flatten) {k m:Nat} {v:Value} {xs:List Value} (h:Sl L k v m xs):Sl L' k v m xs:=by
 rcases h with h|⟨a,cap,e1,h5,h6⟩
 ·exact .inl h
 ·exact .inr ⟨a,cap,e1,zfX hs h5,h6⟩
theorem y9 {L:List Chunk} {C:Chunk} {a:Addr} {vs:List Value} (h:zK L a vs):zK (C::L) a vs:=
 zfX (fun x hx=>by simp only [List.flatten_cons,List.mem_append];exact .inr hx) h
theorem zm {L:List Chunk} {C:Chunk} {k m:Nat} {v:Value} {xs:List Value} (h:Sl L k v m xs):Sl (C::L) k v m xs:=
 zlG (fun x hx=>by simp only [List.flatten_cons,List.mem_append];exact .inr hx) h
omit [W0] in
def yg (xs:List Int):List Value:=xs.map (Value.int .i64)
theorem zn1 {L:List Chunk} {v:Value} {m:Nat} {xs:List Value} (h:Sl L 1 v m xs) :
 (m=0∧∃a c,v=.slice a 0 c)∨∃b off cap c T fr,v=.slice (some ⟨b,off,none⟩) m cap∧Fnd L b (.cells c T fr)∧∀j u,xs[j]? =some u→c[off+j]? =some u:=by
 rcases h with ⟨c,rfl,rfl,rfl⟩|⟨a,cap,rfl,hr,hl⟩
 ·exact .inl ⟨rfl,_,_,rfl⟩
 ·rcases hr with h0|⟨b,off,c,T,fr,rfl,h1,h2⟩
  ·subst h0
   have:m=0:=by have:=hl;simp at this;omega
   subst this
   exact .inl ⟨rfl,_,_,rfl⟩
  ·exact .inr ⟨b,off,cap,c,T,fr,rfl,h1,h2⟩
theorem zcv:∀n,zeros [.int .u8 0] n=bsv (List.replicate n 0)
 |0=>rfl
 |n+1=>by simp only [zeros,List.replicate_succ];rw [zcv n];rfl
theorem zF {L:List Chunk} {k m cap b:Nat} {c:Array Value} {T:TypeId} {fr:Nat × Nat} {xs:List Value} (hf:Fnd L b (.cells c T fr)) (hl:xs.length=m * k) (hc:c.toList.take xs.length=xs):Sl L k (.slice (some ⟨b,0,none⟩) m cap) m xs:=by
 refine .inr ⟨_,cap,rfl,.inr ⟨b,0,c,T,fr,rfl,hf,fun j u hj=>?_⟩,hl⟩
 rw [←hc] at hj
 rw [List.getElem?_take] at hj
 split at hj
 ·simpa using hj
 ·simp at hj
theorem GvP.of {f:FuncId} {args:Array Value} {L L':List Chunk} {v:Value} (h:GvP P f args L' v) (h1:Inc L' L) (h2:Inc L L'):GvP P f args L v:=
 ⟨fun w hw=>(h.out w (h1.holds hw)).mono fun _ _ he=>by
   obtain ⟨v',L'',e1,⟨e2,e3⟩,hw'⟩:=he
   subst e2 e3
   exact ⟨v',L,e1,⟨rfl,rfl⟩,h2.holds hw'⟩⟩
theorem three {w:World} {A B C:Chunk} {L:List Chunk}:Holds w ((A++(B++C))::L)↔Holds w (A::B::C::L):=by
 simp [Holds,List.append_assoc]
theorem four {w:World} {A B C D:Chunk} {L:List Chunk}:Holds w ((A++(B++(C++D)))::L)↔Holds w (A::B::C::D::L):=by
 simp [Holds,List.append_assoc]
theorem two {w:World} {A B:Chunk} {L:List Chunk}:Holds w ((A++B)::L)↔Holds w (A::B::L):=by
 simp [Holds,List.append_assoc]
inductive zaD (P:Program) (M:List (Nat × Value)) (L:List Chunk):List ResultVar→List Value→Prop
 |nil:zaD P M L [] []
 |tmp {t:Nat} {v:Value} {rs:List ResultVar} {vs:List Value}:lk M t=some v→zaD P M L rs vs→zaD P M L (.tmp t::rs) (v::vs)
 |agg {x T k b off:Nat} {us:List Value} {rs:List ResultVar} {vs:List Value}:zmB P T=true∧(P.info? T).map (·.size)=some k→lk M x=some (.pointer (some ⟨b,off,none⟩))→zK L ⟨b,off,none⟩ us→us.length=k→zaD P M L rs vs→zaD P M L (.cell x T::rs) (.agg us.toArray::vs)
 |one {x T b off:Nat} {l:List Value} {U:TypeId} {v:Value} {rs:List ResultVar} {vs:List Value}:zmA P T=false→lk M x=some (.pointer (some ⟨b,off,none⟩))→Fnd L b (cl l U)→nth l off=some v→zaD P M L rs vs→zaD P M L (.cell x T::rs) (v::vs)
theorem zlb {n:Nat} {M:List (Nat × Value)} {L:List Chunk} {a:Act} {w:World} (ha:St n M a) (hw:Holds w L) {rs:List ResultVar} {vs:List Value} (h:zaD P M L rs vs) :
 (rs.mapM (Xz a.tmps)).run P w=.ok vs w:=by
 induction h with
 |nil=>rfl
 |tmp h1 _ ih=>simp [List.mapM_cons,ih,Xz,Array.getD_eq_getD_getElem?,ha.get _ _ h1]
 |@agg x T k b off us rs vs hT h1 h2 h3 _ ih=>
  have hrun:=run_loadCells_list (P:=P) w ⟨b,off,none⟩ us (h2.cells hw)
  rw [h3] at hrun
  simp [List.mapM_cons,ih,Xz,Array.getD_eq_getD_getElem?,ha.get _ _ h1,asAddr,loadVar,za7 hT.1,wz hT.2,hrun]
 |@one x T b off l U v rs vs hT h1 h2 h3 _ ih=>
  have hcell:w.cell? ⟨b,off,none⟩=some v:=by
   rw [cell_of (h2.get hw)]
   simpa [yu] using h3
  simp [List.mapM_cons,ih,Xz,Array.getD_eq_getD_getElem?,ha.get _ _ h1,asAddr,loadVar,Yx hT,hcell]
theorem Qc {n:Nat} {M:List (Nat × Value)} {L:List Chunk} {a:Act} {w:World} {fn:Func} {rs:List ResultVar} {vs:List Value} (ha:St n M a) (hw:Holds w L) (hr:fn.results=rs.toArray) (h:zaD P M L rs vs) :
 (results fn a.tmps).run P w=.ok (zV vs) w:=by
 rw [zbl,hr]
 simp only [List.mapM_toArray,Sem.run_bind,Sem.run_map,zlb ha hw h,Result.andThen_ok,Sem.run_pure]
 match vs with
 |[]=>simp [zV]
 |[v]=>simp [zV]
 |v::u::r=>simp [zV]
theorem zX {n:Nat} {M:List (Nat × Value)} {L:List Chunk} {fn:Func} {post:Value→List Chunk→Prop} {rs:List ResultVar} {vs:List Value} (hr:fn.results=rs.toArray) (h:zaD P M L rs vs) (hp:∃L',(∀w,Holds w L→Holds w L')∧post (zV vs) L') :
 WQ n (bodyPost P fn (fun e w'=>∃v L',e=.returned v∧post v L'∧Holds w' L') .ret) M L:=⟨fun _ w ha hw=>by
 obtain ⟨L',hi,hp⟩:=hp
 exact ⟨ha.defers,zV vs,Qc ha hw hr h,_,L',rfl,hp,hi w hw⟩⟩
theorem yF {n:Nat} {M:List (Nat × Value)} {L:List Chunk} {fn:Func} {post:Value→List Chunk→Prop} {rs:List ResultVar} {vs:List Value} (hr:fn.results=rs.toArray) (h:zaD P M L rs vs) (hp:∃L',(∀w,Holds w L→Holds w L')∧post (zV vs) L') :
 WQ n (bodyPost P fn (fun e w'=>∃v L',e=.returned v∧post v L'∧Holds w' L') .normal) M L:=⟨fun _ w ha hw=>by
 obtain ⟨L',hi,hp⟩:=hp
 exact ⟨ha.defers,zV vs,Qc ha hw hr h,_,L',rfl,hp,hi w hw⟩⟩
section
variable {n : Nat} {Q : Exit → Act → World → Prop} {M : List (Nat × Value)} {L : List Chunk} {d : Nat} {v : Value}
theorem zN {S:List Chunk} {ops:List Oper} {T:List Nat} {fuel:Nat} {listed:Array Bool} (i:Nat) {j:Nat} {b:Bool} {o:Oper} (h:WR P n ops Q S T fuel (listed.setIfInBounds i true) ((d,v)::M) L)
 (hi:ops[i]? =some o:=by exact rfl) (hg:o.guard=some (j,b):=by exact rfl) (hy:yl ops M j=some (.bool b):=by exact rfl) (hb:takeB ops T listed i=true:=by kernel_rfl) (hPO:PO Q:=by exact (by repeat (first|with_reducible exact PO.body|with_reducible exact zgo|with_reducible refine PO.then ?_|with_reducible refine PO.block ?_))) (hinc:Inc S L:=by exact (by repeat (first|exact Inc.refl|exact Inc.nil|(show Inc (_::_) _;refine Inc.cons (by repeat (first|exact Take.here|apply Take.there)) ?_)|refine Inc.skip ?_))) (he:EV P n o M S d v:=by exact (by first|(show EV _ _ ⟨_,.move _,_,_,_,_⟩ _ _ _ _;first|exact ZO rfl)|(show EV _ _ ⟨_,.assign _,_,_,_,_⟩ _ _ _ _;first|exact yQ rfl)|(show EV _ _ ⟨_,.nilCheck _,_,_,_,_⟩ _ _ _ _;first|exact qY rfl)|(show EV _ _ ⟨_,.fieldAddr ..,_,_,_,_⟩ _ _ _ _;first|exact qm rfl|exact yH rfl)|(show EV _ _ ⟨_,.load ..,_,_,_,_⟩ _ _ _ _;first|exact zy rfl (by repeat (first|assumption|exact Fnd.here|refine Fnd.there ?_)) rfl|exact qW rfl (by repeat (first|assumption|exact Fnd.here|refine Fnd.there ?_)) rfl)|(show EV _ _ ⟨_,.binOp ..,_,_,_,_⟩ _ _ _ _;first|exact Xi rfl rfl rfl|exact qU rfl rfl rfl (by omega)|exact ZQ rfl rfl (by decide) (Ya (by omega) (by simp [IntKind.bits];rfl))|exact uy rfl rfl|exact Zc rfl rfl|exact Zb rfl rfl|exact qp rfl rfl|exact qw rfl rfl|exact qZ rfl rfl|exact q8 rfl rfl|exact vO rfl rfl|exact vP rfl rfl)|(show EV _ _ ⟨_,.convert ..,_,_,_,_⟩ _ _ _ _;first|exact zO rfl (wrap_i64 (by omega) (by omega))|exact zO rfl (wrap_u64 (by omega) (by omega))|exact zO rfl rfl)|(show EV _ _ ⟨_,.extract ..,_,_,_,_⟩ _ _ _ _;first|exact w9 rfl rfl)|(show EV _ _ ⟨_,.unOp ..,_,_,_,_⟩ _ _ _ _;first|exact Xl rfl)|(show EV _ _ ⟨_,.pick ..,_,_,_,_⟩ _ _ _ _;first|exact ZP rfl rfl)|(show EV _ _ ⟨_,.call ⟨.builtin .len,_,_⟩,_,_,_,_⟩ _ _ _ _;first|exact Za rfl|exact vQ rfl)|(show EV _ _ ⟨_,.call ⟨.builtin .cap,_,_⟩,_,_,_,_⟩ _ _ _ _;first|exact u7 rfl)|(show EV _ _ ⟨_,.call ⟨.builtin .min,_,_⟩,_,_,_,_⟩ _ _ _ _;first|exact Xk rfl rfl)|(show EV _ _ ⟨_,.call ⟨.builtin .max,_,_⟩,_,_,_,_⟩ _ _ _ _;first|exact Xj rfl rfl)|(show EV _ _ ⟨_,.makeInterface ..,_,_,_,_⟩ _ _ _ _;first|exact yM rfl)|(show EV _ _ ⟨_,.makeFunc ..,_,_,_,_⟩ _ _ _ _;first|exact qX rfl rfl)|(show EV _ _ ⟨_,.typeAssert ..,_,_,_,_⟩ _ _ _ _;first|exact qC rfl|exact qV rfl rfl)|(show EV _ _ ⟨_,.build ..,_,_,_,_⟩ _ _ _ _;first|exact uo rfl (by simp [zA,patch,Value.cells];rfl)))) (hn:Nat.blt d n=true:=by exact rfl) :
 WR P n ops Q S T (fuel+1) listed M L:=zbQ i hi hg hy hb hPO hinc he hn h
theorem zD {S:List Chunk} {ops:List Oper} {T:List Nat} {fuel:Nat} {listed:Array Bool} (i:Nat) {j:Nat} {b:Bool} {o:Oper} (h:WR P n ops Q S T fuel (listed.setIfInBounds i true) ((d,undef)::M) L)
 (hi:ops[i]? =some o:=by exact rfl) (hg:o.guard=some (j,b):=by exact rfl) (hy:yl ops M j=some (.bool (!b)):=by exact rfl) (hd:o.dst=some d:=by exact rfl) (hb:takeB ops T listed i=true:=by kernel_rfl) (hPO:PO Q:=by exact (by repeat (first|with_reducible exact PO.body|with_reducible exact zgo|with_reducible refine PO.then ?_|with_reducible refine PO.block ?_))) (hinc:Inc S L:=by exact (by repeat (first|exact Inc.refl|exact Inc.nil|(show Inc (_::_) _;refine Inc.cons (by repeat (first|exact Take.here|apply Take.there)) ?_)|refine Inc.skip ?_))) (hn:Nat.blt d n=true:=by exact rfl) :
 WR P n ops Q S T (fuel+1) listed M L:=zff i hi hg hy hd hb hPO hinc hn h
theorem ziV {S:List Chunk} {ops:List Oper} {T:List Nat} {fuel:Nat} {listed:Array Bool} (i:Nat) {j:Nat} {b:Bool} {o:Oper} (hr:Region.ready .any ops.toArray listed=[i]) (hi:ops[i]? =some o) (hg:o.guard=some (j,b)) (hy:yl ops M j=some (.bool b)) (h:OW P n o (WRk P n ops Q S T fuel (listed.setIfInBounds i true)) M L):WR P n ops Q S T (fuel+1) listed M L:=⟨fun a w ha hw=>by
 refine ⟨fun h0=>absurd (hr▸h0) (by simp),fun j' hj=>?_⟩
 rw [hr] at hj
 simp only [List.mem_singleton] at hj
 subst hj
 unfold wpOp
 simp only [List.getElem?_toArray,hi]
 rw [if_pos (by simp [Region.wanted,hg,wI ha hy])]
 exact .inl (h.out a w _ Q ha hw fun M' L' hk=>⟨fun a' w' ha' hw'=>⟨fun _=>hk.inc.holds hw',hk.out.out a' w' ha' hw'⟩⟩)⟩
end
end Go.Vx
namespace Go.Vx
set_option linter.all false
theorem iC [W0] {S L:List Chunk} (h:Inc S L:=by exact (by repeat (first|exact Inc.refl|exact Inc.nil|(show Inc (_::_) _;refine Inc.cons (by repeat (first|exact Take.here|apply Take.there)) ?_)|refine Inc.skip ?_))):Inc S L:=h
theorem iS [W0] {M M2:List (Nat × Value)} (h:Sub M M2:=by exact (by repeat (first|exact Sub.nil|refine Sub.cons rfl ?_|refine Sub.cons (zfC rfl (by first|omega|(dsimp only;omega))) ?_))):Sub M M2:=h
theorem iH [W0] {S L:List Chunk} {w:World} (hw:Holds w L) (h:Inc S L:=by exact (by repeat (first|exact Inc.refl|exact Inc.nil|(show Inc (_::_) _;refine Inc.cons (by repeat (first|exact Take.here|apply Take.there)) ?_)|refine Inc.skip ?_))):Holds w S:=h.holds hw
section
variable [W0] {P : Program} {n : Nat} {Q : Exit → Act → World → Prop} {M : List (Nat × Value)} {L : List Chunk} {K : List (Nat × Value) → List Chunk → Prop}
variable {d : Nat} {ty : TypeId} {ps : String} {af : Array Edge} {g : Option (Nat × Bool)} {x y : Operand} {v : Value}
theorem jA {ops:Array Oper} {rest:List Oper} {o:Oper} (h:OW P n o (WL P n ops Q rest) M L) (hg:o.guard=none:=by exact rfl):WL P n ops Q (o::rest) M L:=ziQ hg h
theorem jB {ops:Array Oper} (h:WQ n (Q .normal) M L):WL P n ops Q [] M L:=zoW h
theorem jC {ops:List Oper} {rest:List Oper} {o:Oper} {j:Nat} {b:Bool} (h:OW P n o (WL P n ops.toArray Q rest) M L) (hg:o.guard=some (j,b):=by exact rfl) (hy:yl ops M j=some (.bool b):=by exact rfl):WL P n ops.toArray Q (o::rest) M L:=zqr hg hy h
theorem jD {ops:List Oper} {rest:List Oper} {o:Oper} {j d:Nat} {b:Bool} (h:WL P n ops.toArray Q rest ((d,undef)::M) L) (hg:o.guard=some (j,b):=by exact rfl) (hd:o.dst=some d:=by exact rfl) (hy:yl ops M j=some (.bool (!b)):=by exact rfl)
 (hn:Nat.blt d n=true:=by exact rfl):WL P n ops.toArray Q (o::rest) M L:=zoX hg hd hy hn h
theorem jE {ops:List Oper} {rest:List Oper} {o:Oper} {j d:Nat} {b:Bool} (h:WL P n ops.toArray Q rest ((d,undef)::M) L) (hg:o.guard=some (j,b):=by exact rfl) (hd:o.dst=some d:=by exact rfl) (hy:yl ops M j=some undef:=by exact rfl)
 (hn:Nat.blt d n=true:=by exact rfl):WL P n ops.toArray Q (o::rest) M L:=zms hg hd hy hn h
theorem jF {ops:List Oper} {rest:List Oper} {o:Oper} {j:Nat} {b:Bool} (h:WL P n ops.toArray Q rest M L) (hg:o.guard=some (j,b):=by exact rfl) (hd:o.dst=none:=by exact rfl) (hy:yl ops M j=some (.bool (!b)):=by exact rfl) :
 WL P n ops.toArray Q (o::rest) M L:=zmr hg hd hy h
theorem jG {ops:List Oper} {rest:List Oper} {o:Oper} {j:Nat} {b c:Bool} (ht:c=true→WL P n ops.toArray Q (o::rest) M L) (hf:c=false→WL P n ops.toArray Q (o::rest) M L) (hg:o.guard=some (j,b):=by exact rfl) (hy:yl ops M j=some (.bool c):=by exact rfl) :
 WL P n ops.toArray Q (o::rest) M L:=ziR hg hy ht hf
theorem jI {t:TypeId} [hs:SZ P t 1] {b off:Nat} {l:List Value} {T:TypeId} {L':List Chunk} (h:K M L') (hx:ev M x=some (.pointer (some ⟨b,off,none⟩)):=by exact rfl) (hy:ev M y=some v:=by exact rfl) (hv:v.oneCell'=true:=by exact rfl)
 (hu:Upd L b (cl l T) (cl (l.set off v) T) L':=by exact (by repeat (first|exact Upd.here|apply Upd.there))) (hlt:off < l.length:=by first|(simp;done)|(simp;omega)):OW P n ⟨none,.store t x y,ty,ps,af,g⟩ K M L:=qL hx hy hv hu hlt h
theorem jJ {t k:Nat} [hag:AG P t k] {b off:Nat} {l vs:List Value} {T:TypeId} {L':List Chunk} (h:K M L') (hx:ev M x=some (.pointer (some ⟨b,off,none⟩)):=by exact rfl) (hy:ev M y=some (.agg vs.toArray):=by exact rfl) (hl:vs.length=k:=by exact rfl)
 (h1:ones vs=true:=by exact rfl) (hu:Upd L b (cl l T) (cl (patch l off vs) T) L':=by exact (by repeat (first|exact Upd.here|apply Upd.there))) (hfit:off+vs.length≤l.length:=by first|(simp [Value.cells];done)|(simp [Value.cells];omega)) :
 OW P n ⟨none,.store t x y,ty,ps,af,g⟩ K M L:=QJ hx hy hl h1 hu hfit h
theorem jK {t:Nat} {z:Value} [hz:ZV P t z] (h:∀b,K ((d,.pointer (some ⟨b,0,none⟩))::M) ([(b,cl z.cells.toList t)]::L)) (hn:Nat.blt d n=true:=by exact rfl) :
 OW P n ⟨some d,.alloc t,ty,ps,af,g⟩ K M L:=wQ hn h
theorem jL {t:Nat} (h:∀b,K ((d,.pointer (some ⟨b,0,none⟩))::M) ([(b,cl v.cells.toList t)]::L)) (hx:ev M x=some v:=by exact rfl) (hn:Nat.blt d n=true:=by exact rfl) :
 OW P n ⟨some d,.box t x,ty,ps,af,g⟩ K M L:=ziH hx hn h
theorem jM {x y:Code} (h:WC P n x (Exit.then (y.wp P Q) Q) M L):WC P n (.seq x y) Q M L:=vg h
theorem jN {id:Nat} {l:List Oper} (h:WL P n l.toArray Q l M L):WC P n (.region id l.toArray false) Q M L:=zhN h
theorem jO {c:Operand} {x y:Code} (ht:WC P n x Q M L) (hc:ev M c=some (.bool true):=by exact rfl):WC P n (.cond c x y) Q M L:=zmq hc ht
theorem jP {c:Operand} {x y:Code} (ht:WC P n y Q M L) (hc:ev M c=some (.bool false):=by exact rfl):WC P n (.cond c x y) Q M L:=ziM hc ht
theorem jR (h:WQ n (Q .normal) M L):WC P n .skip Q M L:=zmp h
theorem jS (h:WQ n (Q .ret) M L):WC P n .ret Q M L:=zoV h
theorem jT {id:Nat} (h:WQ n (Q (.exit id)) M L):WC P n (.exit id) Q M L:=zmo h
theorem jU {id:Nat} {c:Code} (h:WC P n c (Exit.inBlock id Q) M L):WC P n (.block id c) Q M L:=ziL h
theorem jV {K:Act→World→Prop} (h:WQ n K M L):WQ n (Exit.then K Q .normal) M L:=zaG h
theorem jW {c:Code} (h:WC P n c Q M L):WQ n (c.wp P Q) M L:=zmu h
theorem jX {K:Act→World→Prop} (h:WQ n (Q .ret) M L):WQ n (Exit.then K Q .ret) M L:=zdN h
theorem jY {i:Nat} (h:WQ n (Q .ret) M L):WQ n (Exit.inBlock i Q .ret) M L:=zcH h
theorem jZ {K:Act→World→Prop} {id:Nat} (h:WQ n (Q (.exit id)) M L):WQ n (Exit.then K Q (.exit id)) M L:=zcI h
theorem kA {i:Nat} (h:WQ n (Q .normal) M L):WQ n (Exit.inBlock i Q (.exit i)) M L:=zcG h
theorem kB {i j:Nat} (h:WQ n (Q (.exit j)) M L) (hne:Nat.beq j i=false:=by with_unfolding_all exact rfl):WQ n (Exit.inBlock i Q (.exit j)) M L:=zbF hne h
theorem kC {i:Nat} (h:WQ n (Q .normal) M L):WQ n (Exit.inBlock i Q .normal) M L:=Q7 h
structure Wr (q:Prop):Prop where out:q
theorem kW {p q:Prop} (h:q) (s:Wr q→p:=by (intro h9;(first|(show WL _ _ _ _ _ _ _;first|refine jA ?_|refine jB ?_|refine jC ?_|refine jD ?_|refine jE ?_|refine jF ?_)|(show OW _ _ _ _ _ _;first|refine zdK ?_|refine jI ?_|refine jJ ?_)|(show WC _ _ _ _ _ _;first|refine jM ?_|refine jN ?_|refine jO ?_|refine jP ?_|refine jR ?_|refine jS ?_|refine jT ?_|refine jU ?_)|(show WQ _ _ _ _;with_reducible first|refine jV ?_|refine jW ?_|refine jX ?_|refine jY ?_|refine jZ ?_|refine kA ?_|refine kB ?_|refine kC ?_));(repeat (first|(show WL _ _ _ _ _ _ _;first|refine jA ?_|refine jB ?_|refine jC ?_|refine jD ?_|refine jE ?_|refine jF ?_)|(show OW _ _ _ _ _ _;first|refine zdK ?_|refine jI ?_|refine jJ ?_)|(show WC _ _ _ _ _ _;first|refine jM ?_|refine jN ?_|refine jO ?_|refine jP ?_|refine jR ?_|refine jS ?_|refine jT ?_|refine jU ?_)|(show WQ _ _ _ _;with_reducible first|refine jV ?_|refine jW ?_|refine jX ?_|refine jY ?_|refine jZ ?_|refine kA ?_|refine kB ?_|refine kC ?_)));exact h9.out)):p:=s ⟨h⟩
theorem kY {p q:Prop} (h:q) (s:Wr q→p:=by (intro h9;(first|(show WL _ _ _ _ _ _ _;first|refine jA ?_|refine jB ?_|refine jC ?_|refine jD ?_|refine jE ?_|refine jF ?_)|(show OW _ _ _ _ _ _;first|refine zdK ?_|refine jI ?_|refine jJ ?_)|(show WC _ _ _ _ _ _;first|refine jN ?_|refine jO ?_|refine jP ?_|refine jR ?_|refine jS ?_|refine jT ?_|refine jU ?_)|(show WQ _ _ _ _;with_reducible first|refine jV ?_|refine jW ?_|refine jX ?_|refine jY ?_|refine jZ ?_|refine kA ?_|refine kB ?_|refine kC ?_));(repeat (first|(show WL _ _ _ _ _ _ _;first|refine jA ?_|refine jB ?_|refine jC ?_|refine jD ?_|refine jE ?_|refine jF ?_)|(show OW _ _ _ _ _ _;first|refine zdK ?_|refine jI ?_|refine jJ ?_)|(show WC _ _ _ _ _ _;first|refine jN ?_|refine jO ?_|refine jP ?_|refine jR ?_|refine jS ?_|refine jT ?_|refine jU ?_)|(show WQ _ _ _ _;with_reducible first|refine jV ?_|refine jW ?_|refine jX ?_|refine jY ?_|refine jZ ?_|refine kA ?_|refine kB ?_|refine kC ?_)));exact h9.out)):p:=s ⟨h⟩
theorem kT {c:Operand} {x y:Code} {t:Bool} {p:Prop} (ht:p→WC P n x Q M L) (hc:ev M c=some (.bool t):=by exact rfl) (hn:t=false→False:=by (intro hc;(try simp only [nrB] at hc);first|omega|exact hc trivial|exact hc rfl)) (hp:t=true→p:=by (intro hc;(try simp only [nrB] at hc);exact hc)):WC P n (.cond c x y) Q M L:=
 zcB hc (fun h=>ht (hp h)) (fun h=>(hn h).elim)
theorem kF {c:Operand} {x y:Code} {t:Bool} {p:Prop} (hf:p→WC P n y Q M L) (hc:ev M c=some (.bool t):=by exact rfl) (hn:t=true→False:=by (intro hc;(try simp only [nrB] at hc);first|omega|exact hc trivial|exact hc rfl)) (hp:t=false→p:=by (intro hc;(try simp only [nrB] at hc);exact hc)):WC P n (.cond c x y) Q M L:=
 zcB hc (fun h=>(hn h).elim) (fun h=>hf (hp h))
theorem kQ {c:Operand} {x y:Code} {t:Bool} {p q:Prop} (ht:p→WC P n x Q M L) (hf:q→WC P n y Q M L) (hc:ev M c=some (.bool t):=by exact rfl) (hp:t=true→p:=by (intro hc;(try simp only [nrB] at hc);exact hc)) (hq:t=false→q:=by (intro hc;(try simp only [nrB] at hc);exact hc)):WC P n (.cond c x y) Q M L:=
 zcB hc (fun h=>ht (hp h)) (fun h=>hf (hq h))
theorem kU {A:Nat→Prop} {g:Prop} (h:∀b,A b) (s:Wr (∀b,A b)→g:=by (intro h9;(show OW _ _ _ _ _ _);first|exact jK h9.out|exact jL h9.out)):g:=s ⟨h⟩
theorem kV {p A g:Prop} (h:p→A) (s:Wr (p→A)→g:=by (intro h9;first|((show WC _ _ _ _ _ _);first|exact kT h9.out|exact kF h9.out)|((show WL _ _ _ _ _ _ _);first|(refine jG (fun hc=>?_) (fun hc=>?_);(focus (rw [hc];have h8:=hc;(try simp only [nrB] at h8);exact h9.out h8));(exfalso;(try simp only [nrB] at hc);first|done|omega))|(refine jG (fun hc=>?_) (fun hc=>?_);rotate_left;(focus (rw [hc];have h8:=hc;(try simp only [nrB] at h8);exact h9.out h8));(exfalso;(try simp only [nrB] at hc);first|done|omega))))):g:=s ⟨h⟩
theorem kZ {p q A B g:Prop} (ht:p→A) (hf:q→B) (s:Wr ((p→A)∧(q→B))→g:=by (intro h9;first|((show WC _ _ _ _ _ _);exact kQ h9.out.1 h9.out.2)|((show WL _ _ _ _ _ _ _);(refine jG (fun hc=>?_) (fun hc=>?_);(focus (rw [hc];have h8:=hc;(try simp only [nrB] at h8);exact h9.out.1 h8));(rw [hc];have h8:=hc;(try simp only [nrB] at h8);exact h9.out.2 h8))))):g:=s ⟨ht,hf⟩
theorem iP {R:Exit→Act→World→Prop} (h:PO R:=by exact (by repeat (first|with_reducible exact PO.body|with_reducible exact zgo|with_reducible refine PO.then ?_|with_reducible refine PO.block ?_))):PO R:=h
theorem iU {L':List Chunk} {b:Nat} {o o':Obj} (h:Upd L b o o' L':=by exact (by repeat (first|exact Upd.here|apply Upd.there))):Upd L b o o' L':=h
theorem kR {q g:Prop} (h:q) (s:Wr q→g:=by (intro h9;first|exact zT rfl rfl h9.out|exact zgr rfl rfl h9.out)):g:=s ⟨h⟩
theorem kE {g:Prop} (s:g:=by (first|refine zT rfl rfl ?_|refine zgr rfl rfl ?_);exact ⟨_,(by repeat (first|exact Inc.refl|exact Inc.nil|(show Inc (_::_) _;refine Inc.cons (by repeat (first|exact Take.here|apply Take.there)) ?_)|refine Inc.skip ?_)),rfl,rfl⟩):g:=s
end
end Go.Vx
namespace Go.Vx
open Go
set_option linter.all false
section
variable [W0] {P : Program} {n : Nat} {Q : Exit → Act → World → Prop} {M : List (Nat × Value)} {L S : List Chunk} {K : List (Nat × Value) → List Chunk → Prop}
variable {ops : List Oper} {T : List Nat} {fuel : Nat} {listed : Array Bool} {d : Nat} {ty : TypeId} {ps : String} {af : Array Edge} {g : Option (Nat × Bool)} {x y : Operand} {v : Value}
theorem cT (i:Nat) {o:Oper} (hi:ops[i]? =some o) (hg:o.guard=none) (he:EV P n o M S d v) (h:WR P n ops Q S T fuel (listed.setIfInBounds i true) ((d,v)::M) L)
 (hb:takeB ops T listed i=true:=by kernel_rfl) (hPO:PO Q:=by exact iP) (hinc:Inc S L:=by exact iC) (hn:Nat.blt d n=true:=by exact rfl):WR P n ops Q S T (fuel+1) listed M L:=zah i hi hg hb hPO hinc he hn h
theorem cO (i:Nat) {j:Nat} {b:Bool} {o:Oper} (hi:ops[i]? =some o) (hg:o.guard=some (j,b)) (hy:yl ops M j=some (.bool b)) (he:EV P n o M S d v) (h:WR P n ops Q S T fuel (listed.setIfInBounds i true) ((d,v)::M) L)
 (hb:takeB ops T listed i=true:=by kernel_rfl) (hPO:PO Q:=by exact iP) (hinc:Inc S L:=by exact iC) (hn:Nat.blt d n=true:=by exact rfl):WR P n ops Q S T (fuel+1) listed M L:=zbQ i hi hg hy hb hPO hinc he hn h
theorem cI (i:Nat) {o:Oper} (hi:ops[i]? =some o) (hg:o.guard=none) (h:OW P n o (WRk P n ops Q S T fuel (listed.setIfInBounds i true)) M L) (hr:Region.ready .any ops.toArray listed=[i]:=by kernel_rfl):WR P n ops Q S T (fuel+1) listed M L:=zo1 i hr hi hg h
theorem cL (i:Nat) {o:Oper} (hT:T.contains i=true) (hi:ops[i]? =some o) (hg:o.guard=none) (h:OW P n o (WR P n ops Q S T fuel (listed.setIfInBounds i true)) M L) (hr:Region.ready .any ops.toArray listed=[i]:=by kernel_rfl):WR P n ops Q S T (fuel+1) listed M L:=zmx i hr hT hi hg h
theorem cD (h:WQ n (Q .normal) M L) (hr:Region.ready .any ops.toArray listed=[]:=by kernel_rfl):WR P n ops Q S T fuel listed M L:=zmw hr h
theorem cP {f:FuncId} [hb:BD P f] {xs:List Operand} {ats:Array TypeId} {first cap:Array Value} {vs:List Value} {args:Array Value}
 (hx:ev M x=some (.func (.func f) first cap)) (hvs:evs M xs=some vs) (hspec:GvP P f args L v) (h:K ((d,v)::M) L) (hargs:first++vs.toArray++cap=args:=by exact rfl) (hn:Nat.blt d n=true:=by exact rfl) :
 OW P n ⟨some d,.call ⟨.value x,xs.toArray,ats⟩,ty,ps,af,g⟩ K M L:=wR hx hvs hargs hspec hn h
theorem cC {f:FuncId} [hb:BD P f] {xs:List Operand} {ats:Array TypeId} {first cap:Array Value} {vs:List Value} {args:Array Value} {post:Value→List Chunk→Prop}
 (hx:ev M x=some (.func (.func f) first cap)) (hvs:evs M xs=some vs) (hspec:Gv P f args L post) (h:∀v L',post v L'→K ((d,v)::M) L') (hargs:first++vs.toArray++cap=args:=by exact rfl) (hn:Nat.blt d n=true:=by exact rfl) :
 OW P n ⟨some d,.call ⟨.value x,xs.toArray,ats⟩,ty,ps,af,g⟩ K M L:=qF hx hvs hargs hspec hn h
theorem kH {q g:Prop} (h:q) (s:Wr q→g:=by (intro h9;first|exact um rfl rfl h9.out|exact zmv rfl rfl h9.out)):g:=s ⟨h⟩
end
end Go.Vx
namespace Go.Vx
open Go
set_option linter.all false
variable [W0]
omit [W0] in
class WI (i:Int) (a:outParam (BitVec 32)):Prop where out:BitVec.ofInt 32 i=a
omit [W0] in
instance instWIv (a:BitVec 32):WI (a.toNat:Int) a:=⟨by apply BitVec.eq_of_toNat_eq;rw [BitVec.toNat_ofInt];have:=a.isLt;omega⟩
omit [W0] in
instance instWIc (n:Nat):WI (no_index (@OfNat.ofNat Int n _)) (BitVec.ofNat 32 (@OfNat.ofNat Nat n _)):=⟨by apply BitVec.eq_of_toNat_eq;rw [BitVec.toNat_ofInt,BitVec.toNat_ofNat];show ((n:Int) % _).toNat=n % _;omega⟩
omit [W0] in
class WN (i:Int) (s:outParam Nat):Prop where out:i=(s:Int)
omit [W0] in
instance instWNv (n:Nat):WN (n:Int) n:=⟨rfl⟩
omit [W0] in
instance instWNc (n:Nat):WN (no_index (@OfNat.ofNat Int n _)) (@OfNat.ofNat Nat n _):=⟨rfl⟩
theorem wrap_u32 (r:Int):IntKind.u32.wrap r=((BitVec.ofInt 32 r).toNat:Int):=by
 rw [BitVec.toNat_ofInt]
 simp [IntKind.wrap,IntKind.bits,IntKind.signed]
 omega
theorem wrap_u8 (r:Int):IntKind.u8.wrap r=((r % 256).toNat:Int):=by
 simp [IntKind.wrap,IntKind.bits,IntKind.signed]
 omega
omit [W0] in
def wop:BinOp→BitVec 32→BitVec 32→Option (BitVec 32)
 |.add,a,b=>some (a+b)|.sub,a,b=>some (a - b)|.mul,a,b=>some (a * b)
 |.and,a,b=>some (a&&&b)|.or,a,b=>some (a|||b)|.xor,a,b=>some (a ^^^ b)
 |_,_,_=>none
omit [W0] in
def b2w (b:UInt8):BitVec 32:=BitVec.ofNat 32 b.toNat
omit [W0] in
def w2b (w:BitVec 32):UInt8:=UInt8.ofNat w.toNat
omit [W0] in
def wsv (l:List (BitVec 32)):List Value:=l.map fun w=>.int .u32 (w.toNat:Int)
theorem uh {l:List (BitVec 32)}:(wsv l).length=l.length:=by simp [wsv]
theorem ze8 {l:List (BitVec 32)}:ones (wsv l)=true:=by simp [ones,wsv,Value.oneCell']
theorem zdJ {l:List (BitVec 32)} {i:Nat} {w:BitVec 32} (h:l[i]? =some w):(wsv l)[i]? =some (.int .u32 (w.toNat:Int)):=by simp [wsv,h]
theorem wW {l:List UInt8} {i:Nat} {b:UInt8} (h:l[i]? =some b):(bsv l)[i]? =some (.int .u8 (b.toNat:Int)):=by simp [bsv,h]
section
variable {P : Program} {n : Nat} {Q : Exit → Act → World → Prop} {M : List (Nat × Value)} {L : List Chunk} {K : List (Nat × Value) → List Chunk → Prop}
variable {d : Nat} {ty : TypeId} {ps : String} {af : Array Edge} {g : Option (Nat × Bool)} {x y : Operand} {v : Value}
theorem Y6 (a:BitVec 32):BitVec.ofInt 32 (a.toNat:Int)=a:=(instWIv a).out
theorem ziE {op:BinOp} {t u:TypeId} {i j:Int} {a b r:BitVec 32} (hx:ev M x=some (.int .u32 i)) (hy:ev M y=some (.int .u32 j)) [ha':WI i a] [hb':WI j b] (hr:wop op a b=some r) :
 EV P n ⟨some d,.binOp op t x y u,ty,ps,af,g⟩ M L d (.int .u32 (r.toNat:Int)):=by
 have h1:=ha'.out
 have h2:=hb'.out
 subst h1 h2
 cases op<;>simp only [wop,Option.some.injEq,reduceCtorEq] at hr<;>subst hr
 ·have:=qj (P:=P) (n:=n) (L:=L) (d:=d) (ty:=ty) (ps:=ps) (af:=af) (g:=g) (op:=.add) (t:=t) (u:=u) hx hy rfl
  rw [wrap_u32,BitVec.ofInt_add] at this
  exact this
 ·have:=qj (P:=P) (n:=n) (L:=L) (d:=d) (ty:=ty) (ps:=ps) (af:=af) (g:=g) (op:=.sub) (t:=t) (u:=u) hx hy rfl
  rw [wrap_u32,Int.sub_eq_add_neg,BitVec.ofInt_add,BitVec.ofInt_neg,←BitVec.sub_eq_add_neg] at this
  exact this
 ·have:=qj (P:=P) (n:=n) (L:=L) (d:=d) (ty:=ty) (ps:=ps) (af:=af) (g:=g) (op:=.mul) (t:=t) (u:=u) hx hy rfl
  rw [wrap_u32,BitVec.ofInt_mul] at this
  exact this
 ·refine wZ (op:=.and) hx hy ?_
  show some (IntKind.u32.wrap ((BitVec.ofInt 32 i&&&BitVec.ofInt 32 j).toNat:Int))=_
  rw [wrap_u32,Y6]
 ·refine wZ (op:=.or) hx hy ?_
  show some (IntKind.u32.wrap ((BitVec.ofInt 32 i|||BitVec.ofInt 32 j).toNat:Int))=_
  rw [wrap_u32,Y6]
 ·refine wZ (op:=.xor) hx hy ?_
  show some (IntKind.u32.wrap ((BitVec.ofInt 32 i ^^^ BitVec.ofInt 32 j).toNat:Int))=_
  rw [wrap_u32,Y6]
theorem zcy {t:TypeId} {i:Int} {a:BitVec 32} (hx:ev M x=some (.int .u32 i)) [ha':WI i a] :
 EV P n ⟨some d,.unOp .xor t x,ty,ps,af,g⟩ M L d (.int .u32 ((~~~ a).toNat:Int)):=
 ⟨rfl,fun a' w ha _=>by
   have h1:=ha'.out
   subst h1
   have e:(Op.unary .xor (.int .u32 i)).run P w=.ok (.int .u32 ((~~~ BitVec.ofInt 32 i).toNat:Int)) w:=by
    show (Sem.pure (Value.int .u32 (IntKind.u32.wrap ((BitVec.ofInt 32 4294967295 ^^^ BitVec.ofInt 32 i).toNat:Int)))).run P w=_
    rw [wrap_u32,Y6]
    have e3:BitVec.ofInt 32 4294967295 ^^^ BitVec.ofInt 32 i= ~~~ BitVec.ofInt 32 i:=by
     have:BitVec.ofInt 32 4294967295=BitVec.allOnes 32:=by decide
     rw [this,BitVec.allOnes_xor]
    rw [e3];rfl
   simp only [execOp,ha.eval hx,Sem.run_bind,e,Result.andThen_ok,Sem.run_pure]⟩
theorem zgm {t u:TypeId} {k':IntKind} {i j:Int} {a:BitVec 32} {s:Nat} (hx:ev M x=some (.int .u32 i)) (hy:ev M y=some (.int k' j)) [ha':WI i a] [hj':WN j s] (hs:s≤32) :
 EV P n ⟨some d,.binOp .shl t x y u,ty,ps,af,g⟩ M L d (.int .u32 ((a <<< s).toNat:Int)):=
 ⟨rfl,fun a' w ha _=>by
   have hj:=hj'.out
   subst hj
   have h0:¬((s:Int) < 0):=by omega
   have hm:min (Int.toNat (s:Int)) IntKind.u32.bits=s:=by simp [IntKind.bits];omega
   have e:BitVec.ofInt 32 (i * 2 ^ s)=a <<< s:=by
    rw [BitVec.ofInt_mul,ha'.out,BitVec.shiftLeft_eq_mul_twoPow]
    congr 1
    apply BitVec.eq_of_toNat_eq
    rw [BitVec.toNat_ofInt,BitVec.toNat_twoPow]
    have:((2:Int) ^ s)=((2 ^ s:Nat):Int):=by simp
    rw [this]
    omega
   simp [execOp,ha.eval hx,ha.eval hy,eqGuard,binOp,Op.shift,h0,hm,wrap_u32,e]⟩
theorem zgn {t u:TypeId} {k':IntKind} {j:Int} {a:BitVec 32} {s:Nat} (hx:ev M x=some (.int .u32 (a.toNat:Int))) (hy:ev M y=some (.int k' j)) [hj':WN j s] (hs:s≤32) :
 EV P n ⟨some d,.binOp .shr t x y u,ty,ps,af,g⟩ M L d (.int .u32 ((a >>> s).toNat:Int)):=
 ⟨rfl,fun a' w ha _=>by
   have hj:=hj'.out
   subst hj
   have h0:¬((s:Int) < 0):=by omega
   have hm:min (Int.toNat (s:Int)) IntKind.u32.bits=s:=by simp [IntKind.bits];omega
   have e:(a.toNat:Int).fdiv (2 ^ s)=((a >>> s).toNat:Int):=by
    have:((2:Int) ^ s)=((2 ^ s:Nat):Int):=by simp
    rw [BitVec.toNat_ushiftRight,Nat.shiftRight_eq_div_pow,this,Int.fdiv_eq_ediv_of_nonneg _ (Int.natCast_nonneg _),←Int.natCast_ediv]
   simp only [execOp,ha.eval hx,ha.eval hy,eqGuard,binOp,Op.shift,h0,hm,e,if_false,Sem.run_bind,Sem.run_pure,Result.andThen_ok]
   simp [e]⟩
theorem zgl {t u:TypeId} {j:Int} {a b:BitVec 32} (hx:ev M x=some (.int .u32 (a.toNat:Int))) (hy:ev M y=some (.int .u32 j)) [hjb:WI j b] (hj:j=(b.toNat:Int)) (h0:b.toNat≠0) :
 EV P n ⟨some d,.binOp .rem t x y u,ty,ps,af,g⟩ M L d (.int .u32 ((a % b).toNat:Int)):=by
 subst hj
 have:=Xm (P:=P) (n:=n) (L:=L) (d:=d) (ty:=ty) (ps:=ps) (af:=af) (g:=g) (t:=t) (u:=u) hx hy (by omega)
 have e:(a.toNat:Int).tmod (b.toNat:Int)=((a % b).toNat:Int):=by
  rw [BitVec.toNat_umod,Int.tmod_eq_emod_of_nonneg (by omega),Int.natCast_emod]
 rwa [e] at this
theorem zbO {s t:Nat} {b:UInt8} [h1:IK P s .u8] [h2:IK P t .u32] (hx:ev M x=some (.int .u8 (b.toNat:Int))) :
 EV P n ⟨some d,.convert s t x,ty,ps,af,g⟩ M L d (.int .u32 ((b2w b).toNat:Int)):=
 zO hx (by rw [wrap_u32];congr 2)
theorem zbN {s t:Nat} {a:BitVec 32} [h1:IK P s .u32] [h2:IK P t .u8] (hx:ev M x=some (.int .u32 (a.toNat:Int))) :
 EV P n ⟨some d,.convert s t x,ty,ps,af,g⟩ M L d (.int .u8 ((w2b a).toNat:Int)):=
 zO hx (by rw [wrap_u8];simp only [w2b,UInt8.toNat_ofNat'];first|done|omega)
theorem zaB {s t:Nat} {i:Int} [h1:IK P s .u64] [h2:IK P t .u32] (hx:ev M x=some (.int .u64 i)) :
 EV P n ⟨some d,.convert s t x,ty,ps,af,g⟩ M L d (.int .u32 ((BitVec.ofInt 32 i).toNat:Int)):=
 zO hx (wrap_u32 i)
omit [W0] in
def zoq (P:Program) (T:Nat):Option (Nat × Nat × Nat):=match P.underlying T with
 |some (.array len e)=>match P.info? e with
  |some i=>if Nat.blt 0 i.size then some (e,len,i.size) else none
  |none=>none
 |_=>none
omit [W0] in
class AR (P:Program) (T:Nat) (e:outParam Nat) (len:outParam Nat) (k:outParam Nat):Prop where out:zoq P T=some (e,len,k)
theorem AR.parts {T e len k:Nat} (h:AR P T e len k):P.underlying T=some (.array len e)∧∃i,P.info? e=some i∧i.size=k∧0 < k:=by
 have h:=h.out
 unfold zoq at h
 split at h
 ·rename_i len' e' hu
  split at h
  ·rename_i i hi
   split at h
   ·rename_i hz
    simp at h
    obtain ⟨rfl,rfl,rfl⟩:=h
    rw [Nat.blt_eq] at hz
    exact ⟨hu,i,hi,rfl,hz⟩
   ·simp at h
  ·simp at h
 ·simp at h
theorem Zx {T e len k:Nat} [hs:AR P T e len k] {b off j:Nat} {kk:IntKind} {i:Int} (hx:ev M x=some (.pointer (some ⟨b,off,none⟩))) (hy:ev M y=some (.int kk i))
 [hj':WN i j] (hlt:j < len):EV P n ⟨some d,.indexAddr T x y,ty,ps,af,g⟩ M L d (.pointer (some ⟨b,off+j * k,none⟩)):=
 ⟨rfl,fun a w ha _=>by
   obtain ⟨hu,i',hi,hk,hk0⟩:=hs.parts
   have hj:=hj'.out
   subst hj
   have h2:(j:Int) < (len:Int):=by omega
   simp [execOp,ha.eval hx,ha.eval hy,Instr.indexAt,Instr.sureAddr,asIntOf,run_underlying hu,sizeOf,typeInfo,hi,hk,addr_add,h2,hlt]⟩
theorem Xb {T e k by_:Nat} [hs:SL P T e k by_] {b off len cap j:Nat} {kk:IntKind} {i:Int} (hx:ev M x=some (.slice (some ⟨b,off,none⟩) len cap)) (hy:ev M y=some (.int kk i))
 [hj':WN i j] (hlt:j < len):EV P n ⟨some d,.indexAddr T x y,ty,ps,af,g⟩ M L d (.pointer (some ⟨b,off+j * k,none⟩)):=zi hx hy hj'.out hlt
theorem Ym {T e k by_:Nat} [hs:SL P T e k by_] {b len cap j:Nat} {kk:IntKind} {i:Int} (hx:ev M x=some (.slice (some ⟨b,0,none⟩) len cap)) (hy:ev M y=some (.int kk i))
 [hj':WN i j] (hlt:j < len):EV P n ⟨some d,.indexAddr T x y,ty,ps,af,g⟩ M L d (.pointer (some ⟨b,j * k,none⟩)):=zh hx hy hj'.out hlt
theorem zR {T e len k:Nat} [hs:AR P T e len k] {b off:Nat} (j:Nat) {kk:IntKind} {i:Int} (hx:ev M x=some (.pointer (some ⟨b,off,none⟩))) (hy:ev M y=some (.int kk i))
 (hj:i=(j:Int)) (hlt:j < len):EV P n ⟨some d,.indexAddr T x y,ty,ps,af,g⟩ M L d (.pointer (some ⟨b,off+j * k,none⟩)):=by
 haveI:WN i j:=⟨hj⟩
 exact Zx hx hy hlt
theorem uw {T e len k:Nat} [hs:AR P T e len k] {b off:Nat} {lo hi:Option Operand} {l h:Nat} (hx:ev M x=some (.pointer (some ⟨b,off,none⟩))) (hl:bnd M lo 0=some (l:Int)) (hh:bnd M hi len=some (h:Int))
 (h1:l≤h) (h2:h≤len) (h3:l < len):EV P n ⟨some d,.slice T x lo hi none,ty,ps,af,g⟩ M L d (.slice (some ⟨b,off+l * k,none⟩) (h - l) (len - l)):=
 ⟨rfl,fun a w ha _=>by
   obtain ⟨hu,i',hi',hk',hk0⟩:=hs.parts
   have h4:¬(len=l):=by omega
   simp [execOp,ha.eval hx,Instr.sliceAt,Instr.sureAddr,run_underlying hu,qO ha hl hh h1 h2,sizeOf,typeInfo,hi',hk',addr_add,h4]⟩
theorem Zp {T e len:Nat} [hs:AR P T e len 1] [hn:NA P e] {vs:List Value} {j:Nat} {kk:IntKind} {i:Int} (hx:ev M x=some (.agg vs.toArray)) (hy:ev M y=some (.int kk i))
 (hj:i=(j:Int)) (hv:vs[j]? =some v) (hlt:j < len):EV P n ⟨some d,.index T x y,ty,ps,af,g⟩ M L d v:=
 ⟨rfl,fun a w ha _=>by
   obtain ⟨hu,i',hi,hk,hk0⟩:=hs.parts
   subst hj
   have h2:(j:Int) < (len:Int):=by omega
   simp [execOp,ha.eval hx,ha.eval hy,Instr.index,asIntOf,run_underlying hu,sizeOf,typeInfo,hi,hk,h2,hlt,part,Yx hn.out,hv]⟩
theorem zjS {len k:Nat}:∀(ps:List (Nat × Value)) (c:Array Value),ps.all (fun x=>Nat.blt x.1 len)=true→Instr.fill (((List.range len).map fun j=>(j * k,k)).toArray[·]?) c ps=Instr.fill (fun j=>some (j * k,k)) c ps:=by
 intro ps
 induction ps with
 |nil=>intro c _;simp [Instr.fill]
 |cons p r ih=>
  intro c hall
  obtain ⟨j,v⟩:=p
  simp only [List.all_cons,Bool.and_eq_true,Nat.blt_eq] at hall
  unfold Instr.fill
  simp only [List.getElem?_toArray,List.getElem?_map,List.getElem?_range hall.1,Option.map_some]
  split
  ·rfl
  ·have:=ih (v.cells.zipIdx.foldl (fun cs (x:Value × Nat)=>cs.setIfInBounds (j * k+x.2) x.1) c) hall.2
   simp only [List.getElem?_toArray,List.getElem?_map] at this
   exact this
theorem Yl {t e len k:Nat} {z:Value} [hb:AR P t e len k] [hz:ZV P t z] {parts:List (Nat × Operand)} {pvs:List (Nat × Value)} {cs:List Value} (hp:evp M parts=some pvs)
 (hf:zA ((List.range len).map fun i=>(i * k,k)) z.cells.toList pvs=some cs) (hpl:pvs.all (fun x=>Nat.blt x.1 len)=true):EV P n ⟨some d,.build t parts.toArray,ty,ps,af,g⟩ M L d (.agg cs.toArray):=
 ⟨rfl,fun a w ha _=>by
   obtain ⟨hu,i',hi,hk,hk0⟩:=hb.parts
   have hfill:=fill_eq _ pvs z.cells.toList cs hf
   rw [zjS pvs _ hpl,Array.toArray_toList] at hfill
   have hpe:=ha.evalp hp
   simp [execOp,Instr.build,vN hz.out,run_underlying hu,sizeOf,typeInfo,hi,hk,hpe,hfill]⟩
theorem wK {o:Oper} (h:K ((d,v)::M) L) (he:EV P n o M L d v:=by first|(show EV _ _ ⟨_,.binOp ..,_,_,_,_⟩ _ _ _ _;first|exact ziE rfl rfl rfl|exact zgm rfl rfl (by omega)|exact zgn rfl rfl (by omega)|exact zgl rfl rfl (by rfl) (by decide))|(show EV _ _ ⟨_,.unOp ..,_,_,_,_⟩ _ _ _ _;first|exact zcy rfl)|(show EV _ _ ⟨_,.convert ..,_,_,_,_⟩ _ _ _ _;first|exact zbO rfl|exact zbN rfl|exact zaB rfl)|(show EV _ _ ⟨_,.indexAddr ..,_,_,_,_⟩ _ _ _ _;first|exact Zx rfl rfl (by omega)|exact Ym rfl rfl (by omega)|exact Xb rfl rfl (by omega))|(show EV _ _ ⟨_,.build ..,_,_,_,_⟩ _ _ _ _;first|exact Yl rfl (by simp [zA,patch,Value.cells];rfl) (by rfl))|(show EV _ _ ⟨_,.move _,_,_,_,_⟩ _ _ _ _;first|exact ZO rfl)|(show EV _ _ ⟨_,.assign _,_,_,_,_⟩ _ _ _ _;first|exact yQ rfl)|(show EV _ _ ⟨_,.nilCheck _,_,_,_,_⟩ _ _ _ _;first|exact qY rfl)|(show EV _ _ ⟨_,.fieldAddr ..,_,_,_,_⟩ _ _ _ _;first|exact qm rfl|exact yH rfl)|(show EV _ _ ⟨_,.load ..,_,_,_,_⟩ _ _ _ _;first|exact zy rfl (by repeat (first|assumption|exact Fnd.here|refine Fnd.there ?_)) rfl|exact qW rfl (by repeat (first|assumption|exact Fnd.here|refine Fnd.there ?_)) rfl)|(show EV _ _ ⟨_,.binOp ..,_,_,_,_⟩ _ _ _ _;first|exact Xi rfl rfl rfl|exact qU rfl rfl rfl (by omega)|exact ZQ rfl rfl (by decide) (Ya (by omega) (by simp [IntKind.bits];rfl))|exact uy rfl rfl|exact Zc rfl rfl|exact Zb rfl rfl|exact qp rfl rfl|exact qw rfl rfl|exact qZ rfl rfl|exact q8 rfl rfl|exact vO rfl rfl|exact vP rfl rfl)|(show EV _ _ ⟨_,.convert ..,_,_,_,_⟩ _ _ _ _;first|exact zO rfl (wrap_i64 (by omega) (by omega))|exact zO rfl (wrap_u64 (by omega) (by omega))|exact zO rfl rfl)|(show EV _ _ ⟨_,.extract ..,_,_,_,_⟩ _ _ _ _;first|exact w9 rfl rfl)|(show EV _ _ ⟨_,.unOp ..,_,_,_,_⟩ _ _ _ _;first|exact Xl rfl)|(show EV _ _ ⟨_,.pick ..,_,_,_,_⟩ _ _ _ _;first|exact ZP rfl rfl)|(show EV _ _ ⟨_,.call ⟨.builtin .len,_,_⟩,_,_,_,_⟩ _ _ _ _;first|exact Za rfl|exact vQ rfl)|(show EV _ _ ⟨_,.call ⟨.builtin .cap,_,_⟩,_,_,_,_⟩ _ _ _ _;first|exact u7 rfl)|(show EV _ _ ⟨_,.call ⟨.builtin .min,_,_⟩,_,_,_,_⟩ _ _ _ _;first|exact Xk rfl rfl)|(show EV _ _ ⟨_,.call ⟨.builtin .max,_,_⟩,_,_,_,_⟩ _ _ _ _;first|exact Xj rfl rfl)|(show EV _ _ ⟨_,.makeInterface ..,_,_,_,_⟩ _ _ _ _;first|exact yM rfl)|(show EV _ _ ⟨_,.makeFunc ..,_,_,_,_⟩ _ _ _ _;first|exact qX rfl rfl)|(show EV _ _ ⟨_,.typeAssert ..,_,_,_,_⟩ _ _ _ _;first|exact qC rfl|exact qV rfl rfl)|(show EV _ _ ⟨_,.build ..,_,_,_,_⟩ _ _ _ _;first|exact uo rfl (by simp [zA,patch,Value.cells];rfl))) (hn:Nat.blt d n=true:=by exact rfl):OW P n o K M L:=ze he hn h
theorem kX {p q:Prop} (h:q) (s:Wr q→p:=by (intro h9;(first|(show WL _ _ _ _ _ _ _;first|refine jA ?_|refine jB ?_|refine jC ?_|refine jD ?_|refine jE ?_|refine jF ?_)|(show OW _ _ _ _ _ _;first|refine wK ?_|refine jI ?_|refine jJ ?_)|(show WC _ _ _ _ _ _;first|refine jM ?_|refine jN ?_|refine jO ?_|refine jP ?_|refine jR ?_|refine jS ?_|refine jT ?_|refine jU ?_)|(show WQ _ _ _ _;with_reducible first|refine jV ?_|refine jW ?_|refine jX ?_|refine jY ?_|refine jZ ?_|refine kA ?_|refine kB ?_|refine kC ?_));(repeat (first|(show WL _ _ _ _ _ _ _;first|refine jA ?_|refine jB ?_|refine jC ?_|refine jD ?_|refine jE ?_|refine jF ?_)|(show OW _ _ _ _ _ _;first|refine wK ?_|refine jI ?_|refine jJ ?_)|(show WC _ _ _ _ _ _;first|refine jM ?_|refine jN ?_|refine jO ?_|refine jP ?_|refine jR ?_|refine jS ?_|refine jT ?_|refine jU ?_)|(show WQ _ _ _ _;with_reducible first|refine jV ?_|refine jW ?_|refine jX ?_|refine jY ?_|refine jZ ?_|refine kA ?_|refine kB ?_|refine kC ?_)));exact h9.out)):p:=s ⟨h⟩
theorem zx {S:List Chunk} {ops:List Oper} {T:List Nat} {fuel:Nat} {listed:Array Bool} (i:Nat) {o:Oper} (h:WR P n ops Q S T fuel (listed.setIfInBounds i true) ((d,v)::M) L)
 (hi:ops[i]? =some o:=by exact rfl) (hg:o.guard=none:=by exact rfl) (hb:takeB ops T listed i=true:=by kernel_rfl) (hPO:PO Q:=by exact iP) (hinc:Inc S L:=by exact iC) (he:EV P n o M S d v:=by exact (by first|(show EV _ _ ⟨_,.binOp ..,_,_,_,_⟩ _ _ _ _;first|exact ziE rfl rfl rfl|exact zgm rfl rfl (by omega)|exact zgn rfl rfl (by omega)|exact zgl rfl rfl (by rfl) (by decide))|(show EV _ _ ⟨_,.unOp ..,_,_,_,_⟩ _ _ _ _;first|exact zcy rfl)|(show EV _ _ ⟨_,.convert ..,_,_,_,_⟩ _ _ _ _;first|exact zbO rfl|exact zbN rfl|exact zaB rfl)|(show EV _ _ ⟨_,.indexAddr ..,_,_,_,_⟩ _ _ _ _;first|exact Zx rfl rfl (by omega)|exact Ym rfl rfl (by omega)|exact Xb rfl rfl (by omega))|(show EV _ _ ⟨_,.build ..,_,_,_,_⟩ _ _ _ _;first|exact Yl rfl (by simp [zA,patch,Value.cells];rfl) (by rfl))|(show EV _ _ ⟨_,.move _,_,_,_,_⟩ _ _ _ _;first|exact ZO rfl)|(show EV _ _ ⟨_,.assign _,_,_,_,_⟩ _ _ _ _;first|exact yQ rfl)|(show EV _ _ ⟨_,.nilCheck _,_,_,_,_⟩ _ _ _ _;first|exact qY rfl)|(show EV _ _ ⟨_,.fieldAddr ..,_,_,_,_⟩ _ _ _ _;first|exact qm rfl|exact yH rfl)|(show EV _ _ ⟨_,.load ..,_,_,_,_⟩ _ _ _ _;first|exact zy rfl (by repeat (first|assumption|exact Fnd.here|refine Fnd.there ?_)) rfl|exact qW rfl (by repeat (first|assumption|exact Fnd.here|refine Fnd.there ?_)) rfl)|(show EV _ _ ⟨_,.binOp ..,_,_,_,_⟩ _ _ _ _;first|exact Xi rfl rfl rfl|exact qU rfl rfl rfl (by omega)|exact ZQ rfl rfl (by decide) (Ya (by omega) (by simp [IntKind.bits];rfl))|exact uy rfl rfl|exact Zc rfl rfl|exact Zb rfl rfl|exact qp rfl rfl|exact qw rfl rfl|exact qZ rfl rfl|exact q8 rfl rfl|exact vO rfl rfl|exact vP rfl rfl)|(show EV _ _ ⟨_,.convert ..,_,_,_,_⟩ _ _ _ _;first|exact zO rfl (wrap_i64 (by omega) (by omega))|exact zO rfl (wrap_u64 (by omega) (by omega))|exact zO rfl rfl)|(show EV _ _ ⟨_,.extract ..,_,_,_,_⟩ _ _ _ _;first|exact w9 rfl rfl)|(show EV _ _ ⟨_,.unOp ..,_,_,_,_⟩ _ _ _ _;first|exact Xl rfl)|(show EV _ _ ⟨_,.pick ..,_,_,_,_⟩ _ _ _ _;first|exact ZP rfl rfl)|(show EV _ _ ⟨_,.call ⟨.builtin .len,_,_⟩,_,_,_,_⟩ _ _ _ _;first|exact Za rfl|exact vQ rfl)|(show EV _ _ ⟨_,.call ⟨.builtin .cap,_,_⟩,_,_,_,_⟩ _ _ _ _;first|exact u7 rfl)|(show EV _ _ ⟨_,.call ⟨.builtin .min,_,_⟩,_,_,_,_⟩ _ _ _ _;first|exact Xk rfl rfl)|(show EV _ _ ⟨_,.call ⟨.builtin .max,_,_⟩,_,_,_,_⟩ _ _ _ _;first|exact Xj rfl rfl)|(show EV _ _ ⟨_,.makeInterface ..,_,_,_,_⟩ _ _ _ _;first|exact yM rfl)|(show EV _ _ ⟨_,.makeFunc ..,_,_,_,_⟩ _ _ _ _;first|exact qX rfl rfl)|(show EV _ _ ⟨_,.typeAssert ..,_,_,_,_⟩ _ _ _ _;first|exact qC rfl|exact qV rfl rfl)|(show EV _ _ ⟨_,.build ..,_,_,_,_⟩ _ _ _ _;first|exact uo rfl (by simp [zA,patch,Value.cells];rfl)))) (hn:Nat.blt d n=true:=by exact rfl) :
 WR P n ops Q S T (fuel+1) listed M L:=zah i hi hg hb hPO hinc he hn h
end
end Go.Vx
namespace Go.Proofs.YtemdlifojcgplaaGreatDoor
open Go Go.Vx
instance:IK Tryz.prog 2 .i64:=⟨by kernel_rfl⟩
instance:SZ Tryz.prog 3 1:=⟨by kernel_rfl⟩
instance:NA Tryz.prog 3:=⟨by kernel_rfl⟩
instance:IK Tryz.prog 3 .i64:=⟨by kernel_rfl⟩
instance:ZV Tryz.prog 3 (.int .i64 0):=⟨by kernel_rfl⟩
instance:SZ Tryz.prog 4 1:=⟨by kernel_rfl⟩
instance:NA Tryz.prog 4:=⟨by kernel_rfl⟩
instance:SZ Tryz.prog 5 1:=⟨by kernel_rfl⟩
instance:NA Tryz.prog 5:=⟨by kernel_rfl⟩
instance:IK Tryz.prog 5 .u8:=⟨by kernel_rfl⟩
instance:ZV Tryz.prog 5 (.int .u8 0):=⟨by kernel_rfl⟩
instance:NA Tryz.prog 9:=⟨by kernel_rfl⟩
instance:ST Tryz.prog 9:=⟨by kernel_rfl⟩
instance:ZV Tryz.prog 9 (.string .empty):=⟨by kernel_rfl⟩
instance:IK Tryz.prog 21 .i32:=⟨by kernel_rfl⟩
instance:SZ Tryz.prog 22 1:=⟨by kernel_rfl⟩
instance:NA Tryz.prog 22:=⟨by kernel_rfl⟩
instance:SL Tryz.prog 22 5 1 1:=⟨by kernel_rfl⟩
instance:SZ Tryz.prog 43 1:=⟨by kernel_rfl⟩
instance:NA Tryz.prog 43:=⟨by kernel_rfl⟩
instance:SL Tryz.prog 43 61 2 32:=⟨by kernel_rfl⟩
instance:SZ Tryz.prog 44 1:=⟨by kernel_rfl⟩
instance:NA Tryz.prog 44:=⟨by kernel_rfl⟩
instance:SL Tryz.prog 44 95 2 24:=⟨by kernel_rfl⟩
instance:SZ Tryz.prog 45 1:=⟨by kernel_rfl⟩
instance:NA Tryz.prog 45:=⟨by kernel_rfl⟩
instance:SL Tryz.prog 45 97 1 16:=⟨by kernel_rfl⟩
instance:FO Tryz.prog 47 0 0:=⟨by kernel_rfl⟩
instance:FO Tryz.prog 47 1 1:=⟨by kernel_rfl⟩
instance:FO Tryz.prog 47 2 2:=⟨by kernel_rfl⟩
instance:FO Tryz.prog 47 3 3:=⟨by kernel_rfl⟩
instance:FO Tryz.prog 47 4 4:=⟨by kernel_rfl⟩
instance:FO Tryz.prog 47 5 5:=⟨by kernel_rfl⟩
instance:FO Tryz.prog 47 6 6:=⟨by kernel_rfl⟩
instance:BL Tryz.prog 47 [(0,1),(1,1),(2,1),(3,1),(4,1),(5,1),(6,1)]:=⟨by kernel_rfl⟩
instance:ZV Tryz.prog 47 (.agg #[.int .i64 0,.slice none 0 0,.slice none 0 0,.slice none 0 0,.slice none 0 0,.int .i64 0,.bool false]):=⟨by kernel_rfl⟩
instance:SL Tryz.prog 50 9 1 16:=⟨by kernel_rfl⟩
instance:AG Tryz.prog 61 2:=⟨by kernel_rfl,by kernel_rfl⟩
instance:FO Tryz.prog 61 0 0:=⟨by kernel_rfl⟩
instance:FO Tryz.prog 61 1 1:=⟨by kernel_rfl⟩
instance:BL Tryz.prog 61 [(0,1),(1,1)]:=⟨by kernel_rfl⟩
instance:ZV Tryz.prog 61 (.agg #[.slice none 0 0,.int .i64 0]):=⟨by kernel_rfl⟩
instance:AG Tryz.prog 64 2:=⟨by kernel_rfl,by kernel_rfl⟩
instance:FO Tryz.prog 64 0 0:=⟨by kernel_rfl⟩
instance:FO Tryz.prog 64 1 1:=⟨by kernel_rfl⟩
instance:BL Tryz.prog 64 [(0,1),(1,1)]:=⟨by kernel_rfl⟩
instance:NI Tryz.prog 64:=⟨by kernel_rfl⟩
instance:ZV Tryz.prog 64 (.agg #[.string .empty,.int .i64 0]):=⟨by kernel_rfl⟩
instance:AG Tryz.prog 76 3:=⟨by kernel_rfl,by kernel_rfl⟩
instance:FO Tryz.prog 76 0 0:=⟨by kernel_rfl⟩
instance:FO Tryz.prog 76 1 1:=⟨by kernel_rfl⟩
instance:FO Tryz.prog 76 2 2:=⟨by kernel_rfl⟩
instance:BL Tryz.prog 76 [(0,1),(1,1),(2,1)]:=⟨by kernel_rfl⟩
instance:ZV Tryz.prog 76 (.agg #[.slice none 0 0,.int .i64 0,.int .i64 0]):=⟨by kernel_rfl⟩
instance:IK Tryz.prog 85 .u64:=⟨by kernel_rfl⟩
instance:SZ Tryz.prog 86 1:=⟨by kernel_rfl⟩
instance:NA Tryz.prog 86:=⟨by kernel_rfl⟩
instance:IK Tryz.prog 86 .u64:=⟨by kernel_rfl⟩
instance:SZ Tryz.prog 88 1:=⟨by kernel_rfl⟩
instance:NA Tryz.prog 88:=⟨by kernel_rfl⟩
instance:IK Tryz.prog 88 .u32:=⟨by kernel_rfl⟩
instance:ZV Tryz.prog 88 (.int .u32 0):=⟨by kernel_rfl⟩
instance:NA Tryz.prog 89:=⟨by kernel_rfl⟩
instance:SL Tryz.prog 89 88 1 4:=⟨by kernel_rfl⟩
instance:AG Tryz.prog 95 2:=⟨by kernel_rfl,by kernel_rfl⟩
instance:FO Tryz.prog 95 0 0:=⟨by kernel_rfl⟩
instance:FO Tryz.prog 95 1 1:=⟨by kernel_rfl⟩
instance:BL Tryz.prog 95 [(0,1),(1,1)]:=⟨by kernel_rfl⟩
instance:ZV Tryz.prog 95 (.agg #[.string .empty,.int .i64 0]):=⟨by kernel_rfl⟩
instance:ZV Tryz.prog 97 (.nilIface):=⟨by kernel_rfl⟩
instance:NA Tryz.prog 113:=⟨by kernel_rfl⟩
instance:SL Tryz.prog 113 173 1 16:=⟨by kernel_rfl⟩
instance:ZV Tryz.prog 113 (.slice none 0 0):=⟨by kernel_rfl⟩
instance:AG Tryz.prog 126 2:=⟨by kernel_rfl,by kernel_rfl⟩
instance:FO Tryz.prog 126 0 0:=⟨by kernel_rfl⟩
instance:FO Tryz.prog 126 1 1:=⟨by kernel_rfl⟩
instance:BL Tryz.prog 126 [(0,1),(1,1)]:=⟨by kernel_rfl⟩
instance:NI Tryz.prog 126:=⟨by kernel_rfl⟩
instance:ZV Tryz.prog 126 (.agg #[.string .empty,.string .empty]):=⟨by kernel_rfl⟩
instance:AG Tryz.prog 131 1:=⟨by kernel_rfl,by kernel_rfl⟩
instance:FO Tryz.prog 131 0 0:=⟨by kernel_rfl⟩
instance:BL Tryz.prog 131 [(0,1)]:=⟨by kernel_rfl⟩
instance:NI Tryz.prog 131:=⟨by kernel_rfl⟩
instance:ZV Tryz.prog 131 (.agg #[.string .empty]):=⟨by kernel_rfl⟩
instance:NA Tryz.prog 140:=⟨by kernel_rfl⟩
instance:SZ Tryz.prog 142 1:=⟨by kernel_rfl⟩
instance:NA Tryz.prog 142:=⟨by kernel_rfl⟩
instance:PT Tryz.prog 142:=⟨⟨324,by kernel_rfl⟩⟩
instance:FO Tryz.prog 144 0 0:=⟨by kernel_rfl⟩
instance:FO Tryz.prog 144 1 1:=⟨by kernel_rfl⟩
instance:FO Tryz.prog 144 2 2:=⟨by kernel_rfl⟩
instance:FO Tryz.prog 144 3 3:=⟨by kernel_rfl⟩
instance:BL Tryz.prog 144 [(0,1),(1,1),(2,1),(3,1)]:=⟨by kernel_rfl⟩
instance:ZV Tryz.prog 144 (.agg #[.pointer none,.slice none 0 0,.int .i64 0,.pointer none]):=⟨by kernel_rfl⟩
instance:NA Tryz.prog 149:=⟨by kernel_rfl⟩
instance:FO Tryz.prog 151 0 0:=⟨by kernel_rfl⟩
instance:FO Tryz.prog 151 1 1:=⟨by kernel_rfl⟩
instance:BL Tryz.prog 151 [(0,1),(1,1)]:=⟨by kernel_rfl⟩
instance:ZV Tryz.prog 151 (.agg #[.slice none 0 0,.int .i64 0]):=⟨by kernel_rfl⟩
instance:FO Tryz.prog 153 0 0:=⟨by kernel_rfl⟩
instance:FO Tryz.prog 153 1 1:=⟨by kernel_rfl⟩
instance:FO Tryz.prog 153 2 2:=⟨by kernel_rfl⟩
instance:FO Tryz.prog 153 3 3:=⟨by kernel_rfl⟩
instance:BL Tryz.prog 153 [(0,1),(1,1),(2,1),(3,1)]:=⟨by kernel_rfl⟩
instance:ZV Tryz.prog 153 (.agg #[.pointer none,.slice none 0 0,.int .i64 0,.int .i64 0]):=⟨by kernel_rfl⟩
instance:SZ Tryz.prog 154 1:=⟨by kernel_rfl⟩
instance:NA Tryz.prog 154:=⟨by kernel_rfl⟩
instance:SL Tryz.prog 154 3 1 8:=⟨by kernel_rfl⟩
instance:ZV Tryz.prog 154 (.slice none 0 0):=⟨by kernel_rfl⟩
instance:FO Tryz.prog 171 0 0:=⟨by kernel_rfl⟩
instance:FO Tryz.prog 171 1 1:=⟨by kernel_rfl⟩
instance:FO Tryz.prog 171 2 2:=⟨by kernel_rfl⟩
instance:BL Tryz.prog 171 [(0,1),(1,1),(2,1)]:=⟨by kernel_rfl⟩
instance:ZV Tryz.prog 171 (.agg #[.slice none 0 0,.int .u64 0,.int .i64 0]):=⟨by kernel_rfl⟩
instance:NA Tryz.prog 173:=⟨by kernel_rfl⟩
instance:ZV Tryz.prog 173 (.nilIface):=⟨by kernel_rfl⟩
instance:NA Tryz.prog 177:=⟨by kernel_rfl⟩
instance:SL Tryz.prog 177 236 2 16:=⟨by kernel_rfl⟩
instance:AG Tryz.prog 179 2:=⟨by kernel_rfl,by kernel_rfl⟩
instance:FO Tryz.prog 179 0 0:=⟨by kernel_rfl⟩
instance:FO Tryz.prog 179 1 1:=⟨by kernel_rfl⟩
instance:BL Tryz.prog 179 [(0,1),(1,1)]:=⟨by kernel_rfl⟩
instance:ZV Tryz.prog 179 (.agg #[.slice none 0 0,.slice none 0 0]):=⟨by kernel_rfl⟩
instance:AG Tryz.prog 182 2:=⟨by kernel_rfl,by kernel_rfl⟩
instance:FO Tryz.prog 182 0 0:=⟨by kernel_rfl⟩
instance:FO Tryz.prog 182 1 1:=⟨by kernel_rfl⟩
instance:BL Tryz.prog 182 [(0,1),(1,1)]:=⟨by kernel_rfl⟩
instance:ZV Tryz.prog 182 (.agg #[.slice none 0 0,.slice none 0 0]):=⟨by kernel_rfl⟩
instance:AG Tryz.prog 184 6:=⟨by kernel_rfl,by kernel_rfl⟩
instance:FO Tryz.prog 184 0 0:=⟨by kernel_rfl⟩
instance:FO Tryz.prog 184 1 1:=⟨by kernel_rfl⟩
instance:FO Tryz.prog 184 2 3:=⟨by kernel_rfl⟩
instance:FO Tryz.prog 184 3 5:=⟨by kernel_rfl⟩
instance:BL Tryz.prog 184 [(0,1),(1,2),(3,2),(5,1)]:=⟨by kernel_rfl⟩
instance:ZV Tryz.prog 184 (.agg #[.slice none 0 0,.slice none 0 0,.slice none 0 0,.slice none 0 0,.slice none 0 0,.int .i64 0]):=⟨by kernel_rfl⟩
instance:AG Tryz.prog 186 6:=⟨by kernel_rfl,by kernel_rfl⟩
instance:FO Tryz.prog 186 0 0:=⟨by kernel_rfl⟩
instance:BL Tryz.prog 186 [(0,6)]:=⟨by kernel_rfl⟩
instance:NI Tryz.prog 186:=⟨by kernel_rfl⟩
instance:ZV Tryz.prog 186 (.agg #[.slice none 0 0,.slice none 0 0,.slice none 0 0,.slice none 0 0,.slice none 0 0,.int .i64 0]):=⟨by kernel_rfl⟩
instance:FO Tryz.prog 191 0 0:=⟨by kernel_rfl⟩
instance:FO Tryz.prog 191 1 1:=⟨by kernel_rfl⟩
instance:BL Tryz.prog 191 [(0,1),(1,1)]:=⟨by kernel_rfl⟩
instance:ZV Tryz.prog 191 (.agg #[.int .u32 0,.int .u32 0]):=⟨by kernel_rfl⟩
instance:AG Tryz.prog 195 5:=⟨by kernel_rfl,by kernel_rfl⟩
instance:AR Tryz.prog 195 88 5 1:=⟨by kernel_rfl⟩
instance:ZV Tryz.prog 195 (.agg #[.int .u32 0,.int .u32 0,.int .u32 0,.int .u32 0,.int .u32 0]):=⟨by kernel_rfl⟩
instance:AR Tryz.prog 196 5 64 1:=⟨by kernel_rfl⟩
instance:AG Tryz.prog 198 70:=⟨by kernel_rfl,by kernel_rfl⟩
instance:FO Tryz.prog 198 0 0:=⟨by kernel_rfl⟩
instance:FO Tryz.prog 198 1 5:=⟨by kernel_rfl⟩
instance:FO Tryz.prog 198 2 69:=⟨by kernel_rfl⟩
instance:BL Tryz.prog 198 [(0,5),(5,64),(69,1)]:=⟨by kernel_rfl⟩
instance:ZV Tryz.prog 198 (.agg #[.int .u32 0,.int .u32 0,.int .u32 0,.int .u32 0,.int .u32 0,.int .u8 0,.int .u8 0,.int .u8 0,.int .u8 0,.int .u8 0,.int .u8 0,.int .u8 0,.int .u8 0,.int .u8 0,.int .u8 0,.int .u8 0,.int .u8 0,.int .u8 0,.int .u8 0,.int .u8 0,.int .u8 0,.int .u8 0,.int .u8 0,.int .u8 0,.int .u8 0,.int .u8 0,.int .u8 0,.int .u8 0,.int .u8 0,.int .u8 0,.int .u8 0,.int .u8 0,.int .u8 0,.int .u8 0,.int .u8 0,.int .u8 0,.int .u8 0,.int .u8 0,.int .u8 0,.int .u8 0,.int .u8 0,.int .u8 0,.int .u8 0,.int .u8 0,.int .u8 0,.int .u8 0,.int .u8 0,.int .u8 0,.int .u8 0,.int .u8 0,.int .u8 0,.int .u8 0,.int .u8 0,.int .u8 0,.int .u8 0,.int .u8 0,.int .u8 0,.int .u8 0,.int .u8 0,.int .u8 0,.int .u8 0,.int .u8 0,.int .u8 0,.int .u8 0,.int .u8 0,.int .u8 0,.int .u8 0,.int .u8 0,.int .u8 0,.int .u64 0]):=⟨by kernel_rfl⟩
instance:FO Tryz.prog 201 0 0:=⟨by kernel_rfl⟩
instance:FO Tryz.prog 201 1 1:=⟨by kernel_rfl⟩
instance:FO Tryz.prog 201 2 2:=⟨by kernel_rfl⟩
instance:FO Tryz.prog 201 3 3:=⟨by kernel_rfl⟩
instance:BL Tryz.prog 201 [(0,1),(1,1),(2,1),(3,1)]:=⟨by kernel_rfl⟩
instance:ZV Tryz.prog 201 (.agg #[.slice none 0 0,.int .i64 0,.int .u64 0,.int .i64 0]):=⟨by kernel_rfl⟩
instance:NA Tryz.prog 202:=⟨by kernel_rfl⟩
instance:AG Tryz.prog 203 3:=⟨by kernel_rfl,by kernel_rfl⟩
instance:AR Tryz.prog 203 202 3 1:=⟨by kernel_rfl⟩
instance:ZV Tryz.prog 203 (.agg #[.nilFunc,.nilFunc,.nilFunc]):=⟨by kernel_rfl⟩
instance:AG Tryz.prog 220 1:=⟨by kernel_rfl,by kernel_rfl⟩
instance:FO Tryz.prog 220 0 0:=⟨by kernel_rfl⟩
instance:BL Tryz.prog 220 [(0,1)]:=⟨by kernel_rfl⟩
instance:NI Tryz.prog 220:=⟨by kernel_rfl⟩
instance:ZV Tryz.prog 220 (.agg #[.slice none 0 0]):=⟨by kernel_rfl⟩
instance:NA Tryz.prog 224:=⟨by kernel_rfl⟩
instance:SL Tryz.prog 224 278 2 16:=⟨by kernel_rfl⟩
instance:AG Tryz.prog 226 6:=⟨by kernel_rfl,by kernel_rfl⟩
instance:FO Tryz.prog 226 0 0:=⟨by kernel_rfl⟩
instance:FO Tryz.prog 226 1 1:=⟨by kernel_rfl⟩
instance:FO Tryz.prog 226 2 2:=⟨by kernel_rfl⟩
instance:FO Tryz.prog 226 3 3:=⟨by kernel_rfl⟩
instance:FO Tryz.prog 226 4 5:=⟨by kernel_rfl⟩
instance:BL Tryz.prog 226 [(0,1),(1,1),(2,1),(3,2),(5,1)]:=⟨by kernel_rfl⟩
instance:ZV Tryz.prog 226 (.agg #[.int .i64 0,.int .i64 0,.slice none 0 0,.slice none 0 0,.slice none 0 0,.slice none 0 0]):=⟨by kernel_rfl⟩
instance:AG Tryz.prog 228 12:=⟨by kernel_rfl,by kernel_rfl⟩
instance:FO Tryz.prog 228 0 0:=⟨by kernel_rfl⟩
instance:FO Tryz.prog 228 1 6:=⟨by kernel_rfl⟩
instance:BL Tryz.prog 228 [(0,6),(6,6)]:=⟨by kernel_rfl⟩
instance:NI Tryz.prog 228:=⟨by kernel_rfl⟩
instance:ZV Tryz.prog 228 (.agg #[.slice none 0 0,.slice none 0 0,.slice none 0 0,.slice none 0 0,.slice none 0 0,.int .i64 0,.int .i64 0,.int .i64 0,.slice none 0 0,.slice none 0 0,.slice none 0 0,.slice none 0 0]):=⟨by kernel_rfl⟩
instance:SL Tryz.prog 230 233 3 24:=⟨by kernel_rfl⟩
instance:AG Tryz.prog 233 3:=⟨by kernel_rfl,by kernel_rfl⟩
instance:FO Tryz.prog 233 0 0:=⟨by kernel_rfl⟩
instance:FO Tryz.prog 233 1 1:=⟨by kernel_rfl⟩
instance:FO Tryz.prog 233 2 2:=⟨by kernel_rfl⟩
instance:BL Tryz.prog 233 [(0,1),(1,1),(2,1)]:=⟨by kernel_rfl⟩
instance:ZV Tryz.prog 233 (.agg #[.int .i64 0,.int .i64 0,.int .i64 0]):=⟨by kernel_rfl⟩
instance:AG Tryz.prog 236 2:=⟨by kernel_rfl,by kernel_rfl⟩
instance:FO Tryz.prog 236 0 0:=⟨by kernel_rfl⟩
instance:FO Tryz.prog 236 1 1:=⟨by kernel_rfl⟩
instance:BL Tryz.prog 236 [(0,1),(1,1)]:=⟨by kernel_rfl⟩
instance:ZV Tryz.prog 236 (.agg #[.int .i64 0,.int .i64 0]):=⟨by kernel_rfl⟩
instance:AG Tryz.prog 240 2:=⟨by kernel_rfl,by kernel_rfl⟩
instance:FO Tryz.prog 240 0 0:=⟨by kernel_rfl⟩
instance:FO Tryz.prog 240 1 1:=⟨by kernel_rfl⟩
instance:BL Tryz.prog 240 [(0,1),(1,1)]:=⟨by kernel_rfl⟩
instance:ZV Tryz.prog 240 (.agg #[.slice none 0 0,.slice none 0 0]):=⟨by kernel_rfl⟩
instance:SL Tryz.prog 242 113 1 24:=⟨by kernel_rfl⟩
instance:SL Tryz.prog 247 179 2 48:=⟨by kernel_rfl⟩
instance:AR Tryz.prog 251 5 24 1:=⟨by kernel_rfl⟩
instance:ZV Tryz.prog 251 (.agg #[.int .u8 0,.int .u8 0,.int .u8 0,.int .u8 0,.int .u8 0,.int .u8 0,.int .u8 0,.int .u8 0,.int .u8 0,.int .u8 0,.int .u8 0,.int .u8 0,.int .u8 0,.int .u8 0,.int .u8 0,.int .u8 0,.int .u8 0,.int .u8 0,.int .u8 0,.int .u8 0,.int .u8 0,.int .u8 0,.int .u8 0,.int .u8 0]):=⟨by kernel_rfl⟩
instance:AG Tryz.prog 258 80:=⟨by kernel_rfl,by kernel_rfl⟩
instance:AR Tryz.prog 258 88 80 1:=⟨by kernel_rfl⟩
instance:ZV Tryz.prog 258 (.agg #[.int .u32 0,.int .u32 0,.int .u32 0,.int .u32 0,.int .u32 0,.int .u32 0,.int .u32 0,.int .u32 0,.int .u32 0,.int .u32 0,.int .u32 0,.int .u32 0,.int .u32 0,.int .u32 0,.int .u32 0,.int .u32 0,.int .u32 0,.int .u32 0,.int .u32 0,.int .u32 0,.int .u32 0,.int .u32 0,.int .u32 0,.int .u32 0,.int .u32 0,.int .u32 0,.int .u32 0,.int .u32 0,.int .u32 0,.int .u32 0,.int .u32 0,.int .u32 0,.int .u32 0,.int .u32 0,.int .u32 0,.int .u32 0,.int .u32 0,.int .u32 0,.int .u32 0,.int .u32 0,.int .u32 0,.int .u32 0,.int .u32 0,.int .u32 0,.int .u32 0,.int .u32 0,.int .u32 0,.int .u32 0,.int .u32 0,.int .u32 0,.int .u32 0,.int .u32 0,.int .u32 0,.int .u32 0,.int .u32 0,.int .u32 0,.int .u32 0,.int .u32 0,.int .u32 0,.int .u32 0,.int .u32 0,.int .u32 0,.int .u32 0,.int .u32 0,.int .u32 0,.int .u32 0,.int .u32 0,.int .u32 0,.int .u32 0,.int .u32 0,.int .u32 0,.int .u32 0,.int .u32 0,.int .u32 0,.int .u32 0,.int .u32 0,.int .u32 0,.int .u32 0,.int .u32 0,.int .u32 0]):=⟨by kernel_rfl⟩
instance:NA Tryz.prog 261:=⟨by kernel_rfl⟩
instance:AG Tryz.prog 262 4:=⟨by kernel_rfl,by kernel_rfl⟩
instance:AR Tryz.prog 262 261 4 1:=⟨by kernel_rfl⟩
instance:ZV Tryz.prog 262 (.agg #[.nilFunc,.nilFunc,.nilFunc,.nilFunc]):=⟨by kernel_rfl⟩
instance:AG Tryz.prog 278 2:=⟨by kernel_rfl,by kernel_rfl⟩
instance:FO Tryz.prog 278 0 0:=⟨by kernel_rfl⟩
instance:FO Tryz.prog 278 1 1:=⟨by kernel_rfl⟩
instance:BL Tryz.prog 278 [(0,1),(1,1)]:=⟨by kernel_rfl⟩
instance:ZV Tryz.prog 278 (.agg #[.int .i64 0,.int .i64 0]):=⟨by kernel_rfl⟩
instance:NA Tryz.prog 280:=⟨by kernel_rfl⟩
instance:FO Tryz.prog 282 0 0:=⟨by kernel_rfl⟩
instance:FO Tryz.prog 282 1 1:=⟨by kernel_rfl⟩
instance:FO Tryz.prog 282 2 2:=⟨by kernel_rfl⟩
instance:FO Tryz.prog 282 3 3:=⟨by kernel_rfl⟩
instance:BL Tryz.prog 282 [(0,1),(1,1),(2,1),(3,1)]:=⟨by kernel_rfl⟩
instance:ZV Tryz.prog 282 (.agg #[.slice none 0 0,.int .i64 0,.map none,.slice none 0 0]):=⟨by kernel_rfl⟩
instance:AG Tryz.prog 305 3:=⟨by kernel_rfl,by kernel_rfl⟩
instance:AR Tryz.prog 305 5 3 1:=⟨by kernel_rfl⟩
instance:ZV Tryz.prog 305 (.agg #[.int .u8 0,.int .u8 0,.int .u8 0]):=⟨by kernel_rfl⟩
instance:SL Tryz.prog 307 154 1 24:=⟨by kernel_rfl⟩
instance:AG Tryz.prog 311 16:=⟨by kernel_rfl,by kernel_rfl⟩
instance:AR Tryz.prog 311 3 16 1:=⟨by kernel_rfl⟩
instance:ZV Tryz.prog 311 (.agg #[.int .i64 0,.int .i64 0,.int .i64 0,.int .i64 0,.int .i64 0,.int .i64 0,.int .i64 0,.int .i64 0,.int .i64 0,.int .i64 0,.int .i64 0,.int .i64 0,.int .i64 0,.int .i64 0,.int .i64 0,.int .i64 0]):=⟨by kernel_rfl⟩
instance:AG Tryz.prog 314 16:=⟨by kernel_rfl,by kernel_rfl⟩
instance:AR Tryz.prog 314 88 16 1:=⟨by kernel_rfl⟩
instance:ZV Tryz.prog 314 (.agg #[.int .u32 0,.int .u32 0,.int .u32 0,.int .u32 0,.int .u32 0,.int .u32 0,.int .u32 0,.int .u32 0,.int .u32 0,.int .u32 0,.int .u32 0,.int .u32 0,.int .u32 0,.int .u32 0,.int .u32 0,.int .u32 0]):=⟨by kernel_rfl⟩
instance:NA Tryz.prog 320:=⟨by kernel_rfl⟩
instance:FO Tryz.prog 324 0 0:=⟨by kernel_rfl⟩
instance:FO Tryz.prog 324 1 1:=⟨by kernel_rfl⟩
instance:BL Tryz.prog 324 [(0,1),(1,1)]:=⟨by kernel_rfl⟩
instance:ZV Tryz.prog 324 (.agg #[.pointer none,.pointer none]):=⟨by kernel_rfl⟩
instance:AR Tryz.prog 340 154 16 1:=⟨by kernel_rfl⟩
instance:FO Tryz.prog 342 0 0:=⟨by kernel_rfl⟩
instance:FO Tryz.prog 342 1 16:=⟨by kernel_rfl⟩
instance:FO Tryz.prog 342 2 32:=⟨by kernel_rfl⟩
instance:BL Tryz.prog 342 [(0,16),(16,16),(32,1)]:=⟨by kernel_rfl⟩
instance:ZV Tryz.prog 342 (.agg #[.int .u32 0,.int .u32 0,.int .u32 0,.int .u32 0,.int .u32 0,.int .u32 0,.int .u32 0,.int .u32 0,.int .u32 0,.int .u32 0,.int .u32 0,.int .u32 0,.int .u32 0,.int .u32 0,.int .u32 0,.int .u32 0,.slice none 0 0,.slice none 0 0,.slice none 0 0,.slice none 0 0,.slice none 0 0,.slice none 0 0,.slice none 0 0,.slice none 0 0,.slice none 0 0,.slice none 0 0,.slice none 0 0,.slice none 0 0,.slice none 0 0,.slice none 0 0,.slice none 0 0,.slice none 0 0,.int .i64 0]):=⟨by kernel_rfl⟩
instance:NA Tryz.prog 349:=⟨by kernel_rfl⟩
instance:SL Tryz.prog 349 352 2 16:=⟨by kernel_rfl⟩
instance:AG Tryz.prog 352 2:=⟨by kernel_rfl,by kernel_rfl⟩
instance:FO Tryz.prog 352 0 0:=⟨by kernel_rfl⟩
instance:FO Tryz.prog 352 1 1:=⟨by kernel_rfl⟩
instance:BL Tryz.prog 352 [(0,1),(1,1)]:=⟨by kernel_rfl⟩
instance:ZV Tryz.prog 352 (.agg #[.int .i64 0,.int .i64 0]):=⟨by kernel_rfl⟩
instance:NA Tryz.prog 354:=⟨by kernel_rfl⟩
instance:SL Tryz.prog 354 363 1 24:=⟨by kernel_rfl⟩
instance:SZ Tryz.prog 363 1:=⟨by kernel_rfl⟩
instance:NA Tryz.prog 363:=⟨by kernel_rfl⟩
instance:SL Tryz.prog 363 372 2 16:=⟨by kernel_rfl⟩
instance:ZV Tryz.prog 363 (.slice none 0 0):=⟨by kernel_rfl⟩
instance:AR Tryz.prog 367 3 19 1:=⟨by kernel_rfl⟩
instance:AG Tryz.prog 372 2:=⟨by kernel_rfl,by kernel_rfl⟩
instance:FO Tryz.prog 372 0 0:=⟨by kernel_rfl⟩
instance:FO Tryz.prog 372 1 1:=⟨by kernel_rfl⟩
instance:BL Tryz.prog 372 [(0,1),(1,1)]:=⟨by kernel_rfl⟩
instance:ZV Tryz.prog 372 (.agg #[.int .i64 0,.bool false]):=⟨by kernel_rfl⟩
theorem mixed:Tryz.prog.follows .mixedOrders=true:=by kernel_rfl
instance:BD Tryz.prog 5:=⟨by kernel_rfl⟩
instance:BD Tryz.prog 6:=⟨by kernel_rfl⟩
instance:BD Tryz.prog 8:=⟨by kernel_rfl⟩
instance:BD Tryz.prog 9:=⟨by kernel_rfl⟩
instance:BD Tryz.prog 10:=⟨by kernel_rfl⟩
instance:BD Tryz.prog 11:=⟨by kernel_rfl⟩
instance:BD Tryz.prog 12:=⟨by kernel_rfl⟩
instance:BD Tryz.prog 13:=⟨by kernel_rfl⟩
instance:BD Tryz.prog 14:=⟨by kernel_rfl⟩
instance:BD Tryz.prog 15:=⟨by kernel_rfl⟩
instance:BD Tryz.prog 16:=⟨by kernel_rfl⟩
instance:BD Tryz.prog 17:=⟨by kernel_rfl⟩
instance:BD Tryz.prog 20:=⟨by kernel_rfl⟩
instance:BD Tryz.prog 21:=⟨by kernel_rfl⟩
instance:BD Tryz.prog 22:=⟨by kernel_rfl⟩
instance:BD Tryz.prog 23:=⟨by kernel_rfl⟩
instance:BD Tryz.prog 24:=⟨by kernel_rfl⟩
instance:BD Tryz.prog 25:=⟨by kernel_rfl⟩
instance:BD Tryz.prog 26:=⟨by kernel_rfl⟩
instance:BD Tryz.prog 27:=⟨by kernel_rfl⟩
instance:BD Tryz.prog 28:=⟨by kernel_rfl⟩
instance:BD Tryz.prog 29:=⟨by kernel_rfl⟩
instance:BD Tryz.prog 30:=⟨by kernel_rfl⟩
instance:BD Tryz.prog 31:=⟨by kernel_rfl⟩
instance:BD Tryz.prog 32:=⟨by kernel_rfl⟩
instance:BD Tryz.prog 33:=⟨by kernel_rfl⟩
instance:BD Tryz.prog 34:=⟨by kernel_rfl⟩
instance:BD Tryz.prog 35:=⟨by kernel_rfl⟩
instance:BD Tryz.prog 36:=⟨by kernel_rfl⟩
instance:BD Tryz.prog 37:=⟨by kernel_rfl⟩
instance:BD Tryz.prog 38:=⟨by kernel_rfl⟩
instance:BD Tryz.prog 39:=⟨by kernel_rfl⟩
instance:BD Tryz.prog 40:=⟨by kernel_rfl⟩
instance:BD Tryz.prog 43:=⟨by kernel_rfl⟩
instance:BD Tryz.prog 44:=⟨by kernel_rfl⟩
instance:BD Tryz.prog 45:=⟨by kernel_rfl⟩
instance:BD Tryz.prog 46:=⟨by kernel_rfl⟩
instance:BD Tryz.prog 47:=⟨by kernel_rfl⟩
instance:BD Tryz.prog 48:=⟨by kernel_rfl⟩
instance:BD Tryz.prog 49:=⟨by kernel_rfl⟩
instance:BD Tryz.prog 50:=⟨by kernel_rfl⟩
instance:BD Tryz.prog 51:=⟨by kernel_rfl⟩
instance:BD Tryz.prog 52:=⟨by kernel_rfl⟩
instance:BD Tryz.prog 53:=⟨by kernel_rfl⟩
instance:BD Tryz.prog 54:=⟨by kernel_rfl⟩
instance:BD Tryz.prog 55:=⟨by kernel_rfl⟩
instance:BD Tryz.prog 56:=⟨by kernel_rfl⟩
instance:BD Tryz.prog 57:=⟨by kernel_rfl⟩
instance:BD Tryz.prog 58:=⟨by kernel_rfl⟩
instance:BD Tryz.prog 59:=⟨by kernel_rfl⟩
instance:BD Tryz.prog 60:=⟨by kernel_rfl⟩
instance:BD Tryz.prog 61:=⟨by kernel_rfl⟩
instance:BD Tryz.prog 62:=⟨by kernel_rfl⟩
instance:BD Tryz.prog 63:=⟨by kernel_rfl⟩
instance:BD Tryz.prog 64:=⟨by kernel_rfl⟩
instance:BD Tryz.prog 65:=⟨by kernel_rfl⟩
instance:BD Tryz.prog 66:=⟨by kernel_rfl⟩
instance:BD Tryz.prog 67:=⟨by kernel_rfl⟩
instance:BD Tryz.prog 68:=⟨by kernel_rfl⟩
instance:BD Tryz.prog 69:=⟨by kernel_rfl⟩
instance:BD Tryz.prog 70:=⟨by kernel_rfl⟩
instance:BD Tryz.prog 71:=⟨by kernel_rfl⟩
instance:BD Tryz.prog 72:=⟨by kernel_rfl⟩
instance:BD Tryz.prog 74:=⟨by kernel_rfl⟩
instance:BD Tryz.prog 75:=⟨by kernel_rfl⟩
instance:BD Tryz.prog 76:=⟨by kernel_rfl⟩
instance:BD Tryz.prog 77:=⟨by kernel_rfl⟩
instance:BD Tryz.prog 78:=⟨by kernel_rfl⟩
instance:BD Tryz.prog 79:=⟨by kernel_rfl⟩
instance:BD Tryz.prog 80:=⟨by kernel_rfl⟩
instance:BD Tryz.prog 81:=⟨by kernel_rfl⟩
instance:BD Tryz.prog 82:=⟨by kernel_rfl⟩
instance:BD Tryz.prog 83:=⟨by kernel_rfl⟩
instance:BD Tryz.prog 84:=⟨by kernel_rfl⟩
instance:BD Tryz.prog 85:=⟨by kernel_rfl⟩
instance:BD Tryz.prog 86:=⟨by kernel_rfl⟩
instance:BD Tryz.prog 87:=⟨by kernel_rfl⟩
instance:BD Tryz.prog 88:=⟨by kernel_rfl⟩
instance:BD Tryz.prog 89:=⟨by kernel_rfl⟩
instance:BD Tryz.prog 90:=⟨by kernel_rfl⟩
instance:BD Tryz.prog 91:=⟨by kernel_rfl⟩
instance:BD Tryz.prog 92:=⟨by kernel_rfl⟩
instance:BD Tryz.prog 93:=⟨by kernel_rfl⟩
instance:BD Tryz.prog 99:=⟨by kernel_rfl⟩
instance:BD Tryz.prog 100:=⟨by kernel_rfl⟩
instance:BD Tryz.prog 101:=⟨by kernel_rfl⟩
instance:BD Tryz.prog 102:=⟨by kernel_rfl⟩
instance:BD Tryz.prog 103:=⟨by kernel_rfl⟩
instance:BD Tryz.prog 104:=⟨by kernel_rfl⟩
instance:BD Tryz.prog 105:=⟨by kernel_rfl⟩
instance:BD Tryz.prog 106:=⟨by kernel_rfl⟩
instance:BD Tryz.prog 107:=⟨by kernel_rfl⟩
instance:BD Tryz.prog 114:=⟨by kernel_rfl⟩
instance:BD Tryz.prog 115:=⟨by kernel_rfl⟩
instance:BD Tryz.prog 116:=⟨by kernel_rfl⟩
instance:BD Tryz.prog 117:=⟨by kernel_rfl⟩
instance:BD Tryz.prog 118:=⟨by kernel_rfl⟩
instance:BD Tryz.prog 119:=⟨by kernel_rfl⟩
instance:BD Tryz.prog 120:=⟨by kernel_rfl⟩
instance:BD Tryz.prog 121:=⟨by kernel_rfl⟩
instance:BD Tryz.prog 122:=⟨by kernel_rfl⟩
instance:BD Tryz.prog 123:=⟨by kernel_rfl⟩
instance:BD Tryz.prog 124:=⟨by kernel_rfl⟩
instance:BD Tryz.prog 125:=⟨by kernel_rfl⟩
instance:BD Tryz.prog 126:=⟨by kernel_rfl⟩
instance:BD Tryz.prog 127:=⟨by kernel_rfl⟩
instance:BD Tryz.prog 128:=⟨by kernel_rfl⟩
instance:BD Tryz.prog 129:=⟨by kernel_rfl⟩
instance:BD Tryz.prog 130:=⟨by kernel_rfl⟩
instance:BD Tryz.prog 131:=⟨by kernel_rfl⟩
instance:BD Tryz.prog 135:=⟨by kernel_rfl⟩
instance:BD Tryz.prog 136:=⟨by kernel_rfl⟩
instance:BD Tryz.prog 137:=⟨by kernel_rfl⟩
instance:BD Tryz.prog 138:=⟨by kernel_rfl⟩
instance:BD Tryz.prog 139:=⟨by kernel_rfl⟩
instance:BD Tryz.prog 140:=⟨by kernel_rfl⟩
instance:BD Tryz.prog 141:=⟨by kernel_rfl⟩
instance:BD Tryz.prog 142:=⟨by kernel_rfl⟩
instance:BD Tryz.prog 143:=⟨by kernel_rfl⟩
instance:BD Tryz.prog 149:=⟨by kernel_rfl⟩
instance:BD Tryz.prog 150:=⟨by kernel_rfl⟩
instance:BD Tryz.prog 151:=⟨by kernel_rfl⟩
instance:BD Tryz.prog 152:=⟨by kernel_rfl⟩
instance:BD Tryz.prog 153:=⟨by kernel_rfl⟩
instance:BD Tryz.prog 154:=⟨by kernel_rfl⟩
instance:BD Tryz.prog 155:=⟨by kernel_rfl⟩
instance:BD Tryz.prog 156:=⟨by kernel_rfl⟩
instance:BD Tryz.prog 157:=⟨by kernel_rfl⟩
instance:BD Tryz.prog 158:=⟨by kernel_rfl⟩
instance:BD Tryz.prog 159:=⟨by kernel_rfl⟩
instance:BD Tryz.prog 160:=⟨by kernel_rfl⟩
instance:BD Tryz.prog 161:=⟨by kernel_rfl⟩
instance:BD Tryz.prog 162:=⟨by kernel_rfl⟩
instance:BD Tryz.prog 163:=⟨by kernel_rfl⟩
instance:BD Tryz.prog 164:=⟨by kernel_rfl⟩
instance:BD Tryz.prog 165:=⟨by kernel_rfl⟩
instance:BD Tryz.prog 166:=⟨by kernel_rfl⟩
instance:BD Tryz.prog 167:=⟨by kernel_rfl⟩
instance:BD Tryz.prog 168:=⟨by kernel_rfl⟩
instance:BD Tryz.prog 169:=⟨by kernel_rfl⟩
instance:BD Tryz.prog 170:=⟨by kernel_rfl⟩
instance:BD Tryz.prog 176:=⟨by kernel_rfl⟩
instance:BD Tryz.prog 177:=⟨by kernel_rfl⟩
instance:BD Tryz.prog 178:=⟨by kernel_rfl⟩
instance:BD Tryz.prog 179:=⟨by kernel_rfl⟩
instance:BD Tryz.prog 180:=⟨by kernel_rfl⟩
instance:BD Tryz.prog 181:=⟨by kernel_rfl⟩
instance:BD Tryz.prog 182:=⟨by kernel_rfl⟩
instance:BD Tryz.prog 185:=⟨by kernel_rfl⟩
instance:BD Tryz.prog 186:=⟨by kernel_rfl⟩
instance:BD Tryz.prog 187:=⟨by kernel_rfl⟩
instance:BD Tryz.prog 188:=⟨by kernel_rfl⟩
instance:BD Tryz.prog 189:=⟨by kernel_rfl⟩
instance:BD Tryz.prog 192:=⟨by kernel_rfl⟩
instance:BD Tryz.prog 193:=⟨by kernel_rfl⟩
instance:BD Tryz.prog 194:=⟨by kernel_rfl⟩
instance:BD Tryz.prog 195:=⟨by kernel_rfl⟩
instance:BD Tryz.prog 196:=⟨by kernel_rfl⟩
instance:BD Tryz.prog 197:=⟨by kernel_rfl⟩
instance:BD Tryz.prog 198:=⟨by kernel_rfl⟩
instance:BD Tryz.prog 199:=⟨by kernel_rfl⟩
instance:BD Tryz.prog 200:=⟨by kernel_rfl⟩
instance:BD Tryz.prog 201:=⟨by kernel_rfl⟩
instance:BD Tryz.prog 202:=⟨by kernel_rfl⟩
instance:BD Tryz.prog 203:=⟨by kernel_rfl⟩
instance:BD Tryz.prog 204:=⟨by kernel_rfl⟩
instance:BD Tryz.prog 205:=⟨by kernel_rfl⟩
instance:BD Tryz.prog 206:=⟨by kernel_rfl⟩
instance:BD Tryz.prog 207:=⟨by kernel_rfl⟩
instance:BD Tryz.prog 208:=⟨by kernel_rfl⟩
instance:BD Tryz.prog 209:=⟨by kernel_rfl⟩
instance:BD Tryz.prog 211:=⟨by kernel_rfl⟩
instance:BD Tryz.prog 216:=⟨by kernel_rfl⟩
instance:BD Tryz.prog 217:=⟨by kernel_rfl⟩
instance:BD Tryz.prog 218:=⟨by kernel_rfl⟩
instance:BD Tryz.prog 219:=⟨by kernel_rfl⟩
instance:BD Tryz.prog 220:=⟨by kernel_rfl⟩
instance:BD Tryz.prog 221:=⟨by kernel_rfl⟩
instance:BD Tryz.prog 222:=⟨by kernel_rfl⟩
instance:BD Tryz.prog 223:=⟨by kernel_rfl⟩
instance:BD Tryz.prog 224:=⟨by kernel_rfl⟩
instance:BD Tryz.prog 225:=⟨by kernel_rfl⟩
instance:BD Tryz.prog 227:=⟨by kernel_rfl⟩
instance:BD Tryz.prog 228:=⟨by kernel_rfl⟩
instance:BD Tryz.prog 229:=⟨by kernel_rfl⟩
instance:BD Tryz.prog 230:=⟨by kernel_rfl⟩
instance:BD Tryz.prog 231:=⟨by kernel_rfl⟩
instance:BD Tryz.prog 232:=⟨by kernel_rfl⟩
instance:BD Tryz.prog 233:=⟨by kernel_rfl⟩
instance:BD Tryz.prog 234:=⟨by kernel_rfl⟩
instance:BD Tryz.prog 235:=⟨by kernel_rfl⟩
instance:BD Tryz.prog 236:=⟨by kernel_rfl⟩
instance:BD Tryz.prog 237:=⟨by kernel_rfl⟩
instance:BD Tryz.prog 238:=⟨by kernel_rfl⟩
instance:BD Tryz.prog 239:=⟨by kernel_rfl⟩
instance:BD Tryz.prog 240:=⟨by kernel_rfl⟩
instance:BD Tryz.prog 241:=⟨by kernel_rfl⟩
instance:BD Tryz.prog 242:=⟨by kernel_rfl⟩
instance:BD Tryz.prog 243:=⟨by kernel_rfl⟩
instance:BD Tryz.prog 244:=⟨by kernel_rfl⟩
instance:BD Tryz.prog 248:=⟨by kernel_rfl⟩
instance:BD Tryz.prog 249:=⟨by kernel_rfl⟩
instance:BD Tryz.prog 250:=⟨by kernel_rfl⟩
instance:BD Tryz.prog 251:=⟨by kernel_rfl⟩
instance:BD Tryz.prog 252:=⟨by kernel_rfl⟩
instance:BD Tryz.prog 253:=⟨by kernel_rfl⟩
instance:BD Tryz.prog 254:=⟨by kernel_rfl⟩
instance:BD Tryz.prog 255:=⟨by kernel_rfl⟩
instance:BD Tryz.prog 256:=⟨by kernel_rfl⟩
instance:BD Tryz.prog 257:=⟨by kernel_rfl⟩
instance:BD Tryz.prog 258:=⟨by kernel_rfl⟩
instance:BD Tryz.prog 259:=⟨by kernel_rfl⟩
instance:BD Tryz.prog 260:=⟨by kernel_rfl⟩
instance:BD Tryz.prog 261:=⟨by kernel_rfl⟩
instance:BD Tryz.prog 262:=⟨by kernel_rfl⟩
instance:BD Tryz.prog 263:=⟨by kernel_rfl⟩
instance:BD Tryz.prog 264:=⟨by kernel_rfl⟩
instance:BD Tryz.prog 265:=⟨by kernel_rfl⟩
instance:BD Tryz.prog 266:=⟨by kernel_rfl⟩
instance:BD Tryz.prog 267:=⟨by kernel_rfl⟩
instance:BD Tryz.prog 268:=⟨by kernel_rfl⟩
instance:BD Tryz.prog 269:=⟨by kernel_rfl⟩
instance:BD Tryz.prog 270:=⟨by kernel_rfl⟩
instance:BD Tryz.prog 271:=⟨by kernel_rfl⟩
instance:BD Tryz.prog 272:=⟨by kernel_rfl⟩
instance:BD Tryz.prog 273:=⟨by kernel_rfl⟩
instance:BD Tryz.prog 275:=⟨by kernel_rfl⟩
instance:BD Tryz.prog 277:=⟨by kernel_rfl⟩
instance:BD Tryz.prog 278:=⟨by kernel_rfl⟩
instance:BD Tryz.prog 279:=⟨by kernel_rfl⟩
instance:BD Tryz.prog 280:=⟨by kernel_rfl⟩
instance:BD Tryz.prog 281:=⟨by kernel_rfl⟩
instance:BD Tryz.prog 282:=⟨by kernel_rfl⟩
instance:BD Tryz.prog 283:=⟨by kernel_rfl⟩
instance:BD Tryz.prog 284:=⟨by kernel_rfl⟩
instance:BD Tryz.prog 285:=⟨by kernel_rfl⟩
instance:BD Tryz.prog 286:=⟨by kernel_rfl⟩
instance:BD Tryz.prog 287:=⟨by kernel_rfl⟩
instance:BD Tryz.prog 288:=⟨by kernel_rfl⟩
instance:BD Tryz.prog 289:=⟨by kernel_rfl⟩
instance:BD Tryz.prog 290:=⟨by kernel_rfl⟩
instance:BD Tryz.prog 291:=⟨by kernel_rfl⟩
instance:BD Tryz.prog 292:=⟨by kernel_rfl⟩
instance:BD Tryz.prog 293:=⟨by kernel_rfl⟩
instance:BD Tryz.prog 294:=⟨by kernel_rfl⟩
instance:BD Tryz.prog 295:=⟨by kernel_rfl⟩
instance:BD Tryz.prog 296:=⟨by kernel_rfl⟩
instance:BD Tryz.prog 297:=⟨by kernel_rfl⟩
instance:BD Tryz.prog 298:=⟨by kernel_rfl⟩
instance:BD Tryz.prog 299:=⟨by kernel_rfl⟩
instance:BD Tryz.prog 300:=⟨by kernel_rfl⟩
instance:BD Tryz.prog 301:=⟨by kernel_rfl⟩
instance:BD Tryz.prog 302:=⟨by kernel_rfl⟩
instance:BD Tryz.prog 323:=⟨by kernel_rfl⟩
instance:BD Tryz.prog 324:=⟨by kernel_rfl⟩
instance:BD Tryz.prog 325:=⟨by kernel_rfl⟩
instance:BD Tryz.prog 326:=⟨by kernel_rfl⟩
end Go.Proofs.YtemdlifojcgplaaGreatDoor
namespace Go.Proofs.YtemdlifojcgplaaGreatDoor
open Go Go.Vx Go.ChangeShapes Go.WideShapes Go.ChangeAt Go.RowKit
set_option maxRecDepth 4000
set_option linter.all false
def blks (W:World):Chunk:=W.heap.toList.zipIdx.map fun x=>(x.2,x.1)
theorem Yo {W:World} {b:Nat} {o:Obj}:(b,o)∈blks W↔W.heap[b]? =some o:=by
 unfold blks
 rw [List.mem_map]
 constructor
 ·rintro ⟨⟨x,i⟩,hm,he⟩
  simp at he
  obtain ⟨rfl,rfl⟩:=he
  have:=List.mk_mem_zipIdx_iff_getElem?.1 hm
  simpa using this
 ·intro h
  exact ⟨(o,b),List.mk_mem_zipIdx_iff_getElem?.2 (by simpa using h),rfl⟩
theorem zhU (W:World):((blks W).map Prod.fst).Nodup:=by
 have:(blks W).map Prod.fst=List.range' 0 W.heap.toList.length:=by
  unfold blks
  rw [List.map_map]
  exact List.zipIdx_map_snd 0 _
 rw [this]
 exact List.nodup_range'
structure Kept (W W':World):Prop where
 os:W'.os=W.os
 output:W'.output=W.output
 block:∀k,k < W.heap.size→W'.heap[k]? =W.heap[k]?
theorem bridge {P:Program} {f:FuncId} {args:Array Value} {W:World} {v:Value} (h:∀[W0],GvP P f args [blks W] v):Calls P f args W fun e W'=>e=.returned v∧Kept W W':=by
 letI i:W0:=⟨W.os,W.output⟩
 have h0:GvP P f args [blks W] v:=h
 have hH:Holds W [blks W]:=⟨by simpa using zhU W,fun x hx=>Yo.1 (by simpa using hx),rfl,rfl⟩
 refine (h0.out W hH).mono fun e W' he=>?_
 obtain ⟨v',L',rfl,⟨rfl,rfl⟩,hw⟩:=he
 refine ⟨rfl,hw.2.2.1,hw.2.2.2,fun k hk=>?_⟩
 have hm:W.heap[k]? =some W.heap[k]:=by simp [hk]
 rw [hm]
 exact hw.2.1 (k,W.heap[k]) (by simpa using Yo.2 hm)
theorem Kept.frame {W W':World} (h:Kept W W') (may:MemPlace→Prop):W.keptBut W' may:=by
 refine ⟨h.os,h.output,fun i hi=>?_⟩
 rw [h.block i hi]
 split<;>simp_all
theorem Kept.same {W W':World} (h:Kept W W') {p:MemPlace} (hp:p.block < W.heap.size):W.sameAt W' p:=by
 cases p with
 |cell b o=>exact World.cell?_of_block (w:=W) (h.block b hp)
 |map b=>exact h.block b hp
theorem Kept.trod {H:Type} {enc:TypeId × Value→H} {P:Program} {t:TypeId} (hl:laidOutB P=true) (hr:P.readableRec t=true) (hrow:t < P.types.size) {W W':World} {v:Value} {d:DataW H} {ps:List MemPlace}
 (h:DataW.Trod enc P W 0 (fun _=>true) true t v d ps) (hb:Kept W W') (hlt:∀x∈ps,x.block < W.heap.size) :
 DataW.Trod enc P W' 0 (fun b=>decide (b < W.heap.size)) true t v d ps:=
 WideElems.Trod_stays hl hr hrow h (fun x hx=>hb.same (hlt x hx)) (fun x hx=>by simpa using hlt x hx)
theorem zbW {H:Type} (k:IntKind):∀xs:List Int,Rows.uptoBulkAll (H:=H) (lits k xs)=xs.length
 |[]=>rfl
 |x::r=>by
  have:=zbW (H:=H) k r
  simp only [lits,List.map_cons,Rows.uptoBulkAll,Rows.uptoBulk,List.length_cons] at *
  omega
theorem open_row {H:Type} {enc:TypeId × Value→H} {P:Program} {W:World} {t e:TypeId} {k:IntKind} {a:Option Addr} {len cap:Nat} {d:DataW H} {ps:List MemPlace} (ht:P.underlying t=some (.slice e)) (he:P.underlying e=some (.int k)) (hc:P.cellsOf e=1)
 (h:DataW.Trod enc P W 0 (fun _=>true) true t (.slice a len cap) d ps) :
 ∃xs:List Int,xs.length=len∧(∀n∈xs,(Lit.int k n).wf=true)∧Sl [blks W] 1 (.slice a len cap) len (xs.map (Value.int k))∧len≤Rows.uptoBulk d:=by
 letI:W0:=⟨W.os,W.output⟩
 obtain ⟨fuel,hf⟩:=h
 rcases open_ints ht he hc hf with ⟨hcs,_⟩|⟨x,l,c,zs,hcs,_,hl,hm,hz,hx,hcell,hwz⟩
 ·simp [Value.cells] at hcs
  obtain ⟨rfl,rfl,rfl⟩:=hcs
  exact ⟨[],rfl,fun n h=>by simp at h,.inl ⟨0,rfl,rfl,rfl⟩,Nat.zero_le _⟩
 ·simp [Value.cells] at hcs
  obtain ⟨rfl,rfl,rfl⟩:=hcs
  have hzl:zs.length=cap:=by simpa using hz
  have hd:d=.slice (lits k (zs.take len)) (lits k (zs.drop len)):=by injection hx
  refine ⟨zs.take len,by simp;omega,fun n hn=>hwz n (List.mem_of_mem_take hn),?_,?_⟩
  ·refine .inr ⟨x,cap,rfl,?_,by simp;omega⟩
   rcases Nat.eq_zero_or_pos len with h0|h0
   ·subst h0;exact .inl (by simp)
   ·have hc0:=hcell 0 (by omega)
    obtain ⟨b,off,spot⟩:=x
    have hspot:spot=none:=by simpa [Addr.add] using World.cell?_spot hc0
    subst hspot
    have hblk:∃C T fr,W.heap[b]? =some (.cells C T fr):=by
     have:(⟨b,off,none⟩:Addr).add 0=⟨b,off,none⟩:=by simp [Addr.add]
     rw [this] at hc0
     unfold World.cell? at hc0
     split at hc0
     ·rename_i C T fr hb;exact ⟨C,T,fr,hb⟩
     ·cases hc0
    obtain ⟨C,T,fr,hb⟩:=hblk
    refine .inr ⟨b,off,C,T,fr,rfl,by simpa [Fnd] using Yo.2 hb,fun j u hj=>?_⟩
    have hjl:j < len:=by
     rcases Nat.lt_or_ge j len with h'|h'
     ·exact h'
     ·rw [List.getElem?_eq_none (by simp;omega)] at hj;simp at hj
    have hcj:=hcell j (by omega)
    rw [addr_add,cell_of hb] at hcj
    rw [hcj,←hj]
    simp [List.getElem?_take,hjl,List.getD,List.getElem?_eq_getElem (show j < zs.length by omega)]
  ·rw [hd]
   simp only [Rows.uptoBulk,zbW,List.length_take]
   omega
theorem zjb (xs:List Int) (h:∀n∈xs,(Lit.int .u8 n).wf=true):bsv (xs.map fun n=>UInt8.ofNat n.toNat)=xs.map (Value.int .u8):=by
 unfold bsv
 rw [List.map_map]
 refine List.map_congr_left fun n hn=>?_
 have:=h n hn
 simp [Lit.wf,IntKind.min,IntKind.max,IntKind.signed,IntKind.bits] at this
 have h2:n.toNat < 256:=by omega
 simp [UInt8.toNat_ofNat,Nat.mod_eq_of_lt h2]
 omega
theorem Tryz.own:ownKnob Tryz.prog.godebug=none:=by kernel_rfl
theorem Tryz.laidOut:laidOutB Tryz.prog=true:=by kernel_rfl
end Go.Proofs.YtemdlifojcgplaaGreatDoor
namespace Go.Proofs.YtemdlifojcgplaaGreatDoor
open Go Go.Vx
variable [W0]
set_option maxRecDepth 4000
set_option linter.all false
omit [W0] in
def rol (w:BitVec 32) (s:Nat):BitVec 32:=w <<< s|||w >>> (32 - s)
omit [W0] in
def zeS (b c d:BitVec 32):BitVec 32:=(b&&&c||| ~~~ b&&&d)+1518500249#32
omit [W0] in
def zeU (b c d:BitVec 32):BitVec 32:=(b ^^^ c ^^^ d)+1859775393#32
omit [W0] in
def zbr (b c d:BitVec 32):BitVec 32:=(b&&&c|||b&&&d|||c&&&d)+2400959708#32
omit [W0] in
def zlL (b c d:BitVec 32):BitVec 32:=(b ^^^ c ^^^ d)+3395469782#32
abbrev w32 (w:BitVec 32):Value:=.int .u32 (w.toNat:Int)
theorem zbm (w:BitVec 32) (s:Nat) (L:List Chunk) (hs:s≤32):GvP Tryz.prog 178 [w32 w,.int .u64 (s:Int)].toArray L (w32 (rol w s)):=by
 refine Gv.of_body Tryz.func178 rfl rfl ?_
 refine kX ?_
 refine ze (qj rfl rfl rfl) rfl ?_
 rw [show IntKind.u64.wrap (32 - (s:Int))=((32 - s:Nat):Int) from by rw [wrap_u64 (by omega) (by omega)];omega]
 refine kX ?_
 exact kE
theorem zjk (b c d:BitVec 32) (L:List Chunk):GvP Tryz.prog 216 [w32 b,w32 c,w32 d].toArray L (w32 (zeS b c d)):=by
 refine Gv.of_body Tryz.func216 rfl rfl ?_
 refine kX ?_
 exact kE
theorem zkZ (b c d:BitVec 32) (L:List Chunk):GvP Tryz.prog 217 [w32 b,w32 c,w32 d].toArray L (w32 (zeU b c d)):=by
 refine Gv.of_body Tryz.func217 rfl rfl ?_
 refine kX ?_
 exact kE
theorem zfE (b c d:BitVec 32) (L:List Chunk):GvP Tryz.prog 218 [w32 b,w32 c,w32 d].toArray L (w32 (zbr b c d)):=by
 refine Gv.of_body Tryz.func218 rfl rfl ?_
 refine kX ?_
 exact kE
theorem zpy (b c d:BitVec 32) (L:List Chunk):GvP Tryz.prog 219 [w32 b,w32 c,w32 d].toArray L (w32 (zlL b c d)):=by
 refine Gv.of_body Tryz.func219 rfl rfl ?_
 refine kX ?_
 exact kE
omit [W0] in
def wb (w:BitVec 32):List UInt8:=[w2b (w >>> 24),w2b (w >>> 16),w2b (w >>> 8),w2b w]
omit [W0] in
def wbs:List (BitVec 32)→List UInt8
 |[]=>[]
 |w::r=>wb w++wbs r
theorem zgh (a b:List (BitVec 32)):wbs (a++b)=wbs a++wbs b:=by
 induction a with
 |nil=>rfl
 |cons w r ih=>simp [wbs,ih]
theorem zcu (w:BitVec 32):(wb w).length=4:=rfl
theorem zgi (l:List (BitVec 32)):(wbs l).length=4 * l.length:=by
 induction l with
 |nil=>rfl
 |cons w r ih=>simp [wbs,ih,zcu];omega
omit [W0] in
def QB:List Value:=[.func (.func 216) #[] #[],.func (.func 217) #[] #[],.func (.func 218) #[] #[],.func (.func 219) #[] #[]]
theorem zn5 (L:List Chunk):GvP Tryz.prog 177 [].toArray L (.agg QB.toArray):=by
 refine Gv.of_body Tryz.func177 rfl rfl ?_
 (refine kX ?_;refine kU fun bk=>?_;refine kX ?_)
 refine zX (vs:=[.agg QB.toArray]) rfl (.agg ⟨by kernel_rfl,by kernel_rfl⟩ rfl (zK.cl' (vs:=QB) (by repeat (first|assumption|exact Fnd.here|refine Fnd.there ?_)) rfl) rfl .nil) ?_
 exact ⟨L,fun w h=>(iC:Inc L _).holds h,rfl,rfl⟩
theorem Qk (t:List UInt8) (w:BitVec 32) (v:Value) (m:Nat) (C:Chunk) (L:List Chunk) (h:Ow 5 1 v m (bsv t) C) (hm:m+4≤140737488355328) :
 Gv Tryz.prog 129 [v,w32 w].toArray (C::L) (fun r L'=>∃v' C',r=v'∧L'=C'::L∧Ow 5 1 v' (m+4) (bsv (t++wb w)) C'):=by
 refine Gv.of_body Tryz.func129 rfl rfl ?_
 refine kX ?_
 refine zl (cs:=bsv (wb w)) rfl (by rfl) (by simp [zA,patch,Value.cells,zeros];rfl) (by omega) rfl rfl (fun bk=>?_)
 refine kX ?_
 refine zu rfl rfl h (zF (c:=(bsv (wb w)).toArray) (xs:=bsv (wb w)) (m:=4) Fnd.here rfl (by simp)) (by repeat (first|exact Zip.here _|apply Zip.there)) rfl yj (by omega) (by simp [maxLen];omega) rfl (fun v' C' ho h1 h2=>?_)
 refine kX ?_
 refine kR ?_
 rw [←yt] at ho
 exact ⟨C'::L,iC,v',C',rfl,rfl,ho⟩
omit [W0] in
def zmc (blk:List UInt8) (i:Nat):BitVec 32:=
 b2w (blk.getD (4 * i) 0) <<< 24|||b2w (blk.getD (4 * i+1) 0) <<< 16|||b2w (blk.getD (4 * i+2) 0) <<< 8|||b2w (blk.getD (4 * i+3) 0)
omit [W0] in
def ug (blk:List UInt8) (l:List (BitVec 32)):BitVec 32:=
 if l.length < 16 then zmc blk l.length
 else rol (l.getD (l.length - 3) 0 ^^^ l.getD (l.length - 8) 0 ^^^ l.getD (l.length - 14) 0 ^^^ l.getD (l.length - 16) 0) 1
omit [W0] in
def sched (blk:List UInt8):Nat→List (BitVec 32)
 |0=>[]
 |t+1=>sched blk t++[ug blk (sched blk t)]
theorem yI (blk:List UInt8):∀t,(sched blk t).length=t
 |0=>rfl
 |t+1=>by simp [sched,yI blk t]
theorem zeJ {blk:List UInt8} {t:Nat} (h:t < 16):ug blk (sched blk t)=zmc blk t:=by
 simp [ug,yI,h]
theorem zeI {blk:List UInt8} {t:Nat} (h:16≤t):ug blk (sched blk t)=rol ((sched blk t).getD (t - 3) 0 ^^^ (sched blk t).getD (t - 8) 0 ^^^ (sched blk t).getD (t - 14) 0 ^^^ (sched blk t).getD (t - 16) 0) 1:=by
 have:¬t < 16:=by omega
 simp [ug,yI,this]
theorem zhJ (a:List (BitVec 32)) (w:BitVec 32) (rest:List Value) (j:Nat) (hj:j=a.length) (h:0 < rest.length):(wsv a++rest).set j (w32 w)=wsv (a++[w])++rest.tail:=by
 subst hj
 cases rest with
 |nil=>simp at h
 |cons r rest=>
  have e:(wsv a).length=a.length:=uh
  rw [←e,List.set_append_right _ _ (Nat.le_refl _)]
  simp [wsv]
theorem ze7 (a:List (BitVec 32)) (rest:List Value) {j:Nat} (h:j < a.length):(wsv a++rest)[j]? =some (w32 (a.getD j 0)):=by
 rw [List.getElem?_append_left (by simpa [uh] using h)]
 exact zdJ (by simp [List.getD,h])
omit [W0] in
structure H5 where
 a:BitVec 32
 b:BitVec 32
 c:BitVec 32
 d:BitVec 32
 e:BitVec 32
omit [W0] in
def yT (h:H5) (blk:List UInt8) (n:Nat):List Value:=w32 h.a::w32 h.b::w32 h.c::w32 h.d::w32 h.e::(bsv blk++[.int .u64 (n:Int)])
theorem zlB {h:H5} {blk:List UInt8} {n j:Nat} (hj:j < blk.length):(yT h blk n)[5+j]? =some (.int .u8 ((blk.getD j 0).toNat:Int)):=by
 unfold yT
 rw [show 5+j=(j+1+1+1+1)+1 from by omega]
 simp only [List.getElem?_cons_succ]
 rw [List.getElem?_append_left (by simpa [zH] using hj)]
 exact wW (by simp [List.getD,hj])
theorem zeP {h:H5} {blk:List UInt8} {n:Nat} (hb:blk.length=64):(yT h blk n)[69]? =some (.int .u64 (n:Int)):=by
 unfold yT
 simp only [List.getElem?_cons_succ]
 rw [List.getElem?_append_right (by simp [zH,hb])]
 simp [zH,hb]
omit [W0] in
def Z80:List Value:=List.replicate 80 (.int .u32 0)
theorem zf4 (h:H5) (blk:List UInt8) (n p:Nat) (T:TypeId) (L:List Chunk) (hb:blk.length=64) (hp:Fnd L p (cl (yT h blk n) T)) :
 GvP Tryz.prog 176 [.pointer (some ⟨p,5,none⟩)].toArray L (.agg (wsv (sched blk 80)).toArray):=by
 refine Gv.of_body Tryz.func176 rfl rfl ?_
 (refine kX ?_;refine kU fun bk=>?_;refine kX ?_;refine kU fun bk=>?_;refine kX ?_)
 rename_i b2
 refine qP (L':=[(bk,cl Z80 258)]::[(b2,cl Z80 258)]::L) (fun w h=>h) ?_
 refine zn (X:=Nat × List Value) (fun x=>[(0,.pointer (some ⟨p,5,none⟩)),(2,.pointer (some ⟨b2,0,none⟩)),(3,.pointer (some ⟨bk,0,none⟩)),(7,.int .i64 (x.1:Int))])
  (fun x=>[(bk,cl (wsv (sched blk x.1)++x.2) 258)]::[(b2,cl Z80 258)]::L) (fun x=>x.1≤16∧x.2.length=80 - x.1) (fun x=>80 - x.1) (0,Z80) ⟨by decide,by decide⟩ iS (fun w h=>h) ?_
 intro x ⟨hx1,hx2⟩
 obtain ⟨t,rest⟩:=x
 simp only at hx1 hx2 ⊢
 (repeat' first|refine kX ?_|refine kU fun bk=>?_|refine kV fun hc=>?_|refine kZ (fun hc=>?_) fun hc=>?_|fail)
 ·refine wK ?_ (he:=uw (l:=4 * t) (h:=4 * t+4) rfl (qH rfl (by omega)) (qH rfl (by omega)) (by omega) (by omega) (by omega))
  refine kX ?_
  have ld:∀j,j < 4→nth (yT h blk n) (5+4 * t * 1+j * 1)=some (.int .u8 ((blk.getD (4 * t+j) 0).toNat:Int)):=fun j hj=>by
   rw [yu,show 5+4 * t * 1+j * 1=5+(4 * t+j) from by omega]
   exact zlB (by omega)
  have hf:Fnd ([(bk,cl (wsv (sched blk t)++rest) 258)]::[(b2,cl Z80 258)]::L) p (cl (yT h blk n) T):=hp.there.there
  refine zk [24] mixed ?_
  (refine zx 0 ?_;refine zx 1 ?_;refine zx 2 ?_)
  refine zx 3 ?_ (he:=zy rfl hf (ld 0 (by omega)))
  (refine zx 4 ?_;refine zx 5 ?_;refine zx 6 ?_;refine zx 7 ?_)
  refine zx 8 ?_ (he:=zy rfl hf (ld 1 (by omega)))
  (refine zx 9 ?_;refine zx 10 ?_;refine zx 11 ?_;refine zx 12 ?_;refine zx 13 ?_)
  refine zx 14 ?_ (he:=zy rfl hf (ld 2 (by omega)))
  (refine zx 15 ?_;refine zx 16 ?_;refine zx 17 ?_;refine zx 18 ?_;refine zx 19 ?_)
  refine zx 20 ?_ (he:=zy rfl hf (ld 3 (by omega)))
  (refine zx 21 ?_;refine zx 22 ?_;refine zx 23 ?_)
  refine cL 24 rfl rfl rfl ?_
  refine zG (wsv (sched blk (t+1))++rest.tail) rfl rfl rfl ?_ iU (by simp [uh,yI];omega) ?_
  ·rw [Nat.zero_add,Nat.mul_one]
   have:=zhJ (sched blk t) (ug blk (sched blk t)) rest t (yI blk t).symm (by omega)
   rw [zeJ (by omega)] at this
   rw [sched,zeJ (by omega)]
   exact this
  refine cD ?_
  refine kX ?_
  refine zf (X:=Nat × List Value) (μ:=fun x=>80 - x.1) (x:=(t,rest)) (t+1,rest.tail) (by simp only;omega) ⟨by omega,by simp;omega⟩ iS (fun w h=>h)
 ·have ht:t=16:=by omega
  subst ht
  refine zn (X:=Nat × List Value) (fun x=>[(2,.pointer (some ⟨b2,0,none⟩)),(3,.pointer (some ⟨bk,0,none⟩)),(6,.int .i64 (x.1:Int))])
   (fun x=>[(bk,cl (wsv (sched blk x.1)++x.2) 258)]::[(b2,cl Z80 258)]::L) (fun x=>16≤x.1∧x.1≤80∧x.2.length=80 - x.1) (fun x=>80 - x.1) (16,rest) ⟨Nat.le_refl _,by simp only;omega,hx2⟩ iS (fun w h=>h) ?_
  intro x ⟨hy0,hy1,hy2⟩
  clear hx1 hx2 hc rest
  obtain ⟨t,rest⟩:=x
  simp only at hy0 hy1 hy2 ⊢
  (repeat' first|refine kX ?_|refine kU fun bk=>?_|refine kV fun hc=>?_|refine kZ (fun hc=>?_) fun hc=>?_|fail)
  ·have ld:∀j,0 < j→j≤t→nth (wsv (sched blk t)++rest) (0+(t - j) * 1)=some (w32 ((sched blk t).getD (t - j) 0)):=fun j h0 hj=>by
    rw [yu,Nat.zero_add,Nat.mul_one]
    exact ze7 _ _ (by rw [yI];omega)
   refine zk [22] mixed ?_
   (refine zx 0 ?_;refine zx 1 ?_;refine zx 2 ?_)
   refine cT 3 rfl rfl (zR (t - 3) rfl rfl (by omega) (by omega)) ?_
   refine zx 4 ?_ (he:=zy rfl (by repeat (first|assumption|exact Fnd.here|refine Fnd.there ?_)) (ld 3 (by omega) (by omega)))
   (refine zx 5 ?_;refine zx 6 ?_)
   refine cT 7 rfl rfl (zR (t - 8) rfl rfl (by omega) (by omega)) ?_
   refine zx 8 ?_ (he:=zy rfl (by repeat (first|assumption|exact Fnd.here|refine Fnd.there ?_)) (ld 8 (by omega) (by omega)))
   (refine zx 9 ?_;refine zx 10 ?_;refine zx 11 ?_)
   refine cT 12 rfl rfl (zR (t - 14) rfl rfl (by omega) (by omega)) ?_
   refine zx 13 ?_ (he:=zy rfl (by repeat (first|assumption|exact Fnd.here|refine Fnd.there ?_)) (ld 14 (by omega) (by omega)))
   (refine zx 14 ?_;refine zx 15 ?_;refine zx 16 ?_)
   refine cT 17 rfl rfl (zR (t - 16) rfl rfl (by omega) (by omega)) ?_
   refine zx 18 ?_ (he:=zy rfl (by repeat (first|assumption|exact Fnd.here|refine Fnd.there ?_)) (ld 16 (by omega) (by omega)))
   (refine zx 19 ?_)
   refine cI 20 rfl rfl ?_
   refine cP rfl rfl (zbm _ 1 _ (by omega)) ?_
   refine ⟨iC,?_⟩
   refine cT 21 rfl rfl (zR t rfl rfl rfl (by omega)) ?_
   refine cL 22 rfl rfl rfl ?_
   refine zG (wsv (sched blk (t+1))++rest.tail) rfl rfl rfl ?_ iU (by simp [uh,yI];omega) ?_
   ·rw [Nat.zero_add,Nat.mul_one]
    have:=zhJ (sched blk t) (ug blk (sched blk t)) rest t (yI blk t).symm (by omega)
    rw [zeI (by omega)] at this
    rw [sched,zeI (by omega)]
    exact this
   refine cD ?_
   refine kX ?_
   refine zf (X:=Nat × List Value) (μ:=fun x=>80 - x.1) (x:=(t,rest)) (t+1,rest.tail) (by simp only;omega) ⟨by omega,by omega,by simp;omega⟩ iS (fun w h=>h)
  ·have ht:t=80:=by omega
   subst ht
   have hr:rest=[]:=List.eq_nil_of_length_eq_zero (by simpa using hy2)
   subst hr
   rw [List.append_nil]
   have hwl:(wsv (sched blk 80)).length=80:=by rw [uh,yI]
   have hwo:ones (wsv (sched blk 80))=true:=ze8
   generalize wsv (sched blk 80)=vs at hwl hwo ⊢
   refine wK ?_ (he:=zB rfl (zK.cl' (vs:=vs) Fnd.here (by simp [cut])) hwl)
   refine kX ?_
   refine zo vs rfl rfl hwl hwo ?_ iU ?_ ?_
   ·simp [patch,hwl,Z80]
   ·rw [hwl];decide
   refine kX ?_
   refine zX (vs:=[.agg vs.toArray]) rfl (.agg ⟨by kernel_rfl,by kernel_rfl⟩ rfl (zK.cl' (vs:=vs) (Fnd.there Fnd.here) (by simp [cut])) hwl .nil) ?_
   exact ⟨L,fun w h=>(iC:Inc L _).holds h,rfl,rfl⟩
omit [W0] in
def zkn:Nat→BitVec 32→BitVec 32→BitVec 32→BitVec 32
 |0=>zeS
 |1=>zeU
 |2=>zbr
 |_=>zlL
omit [W0] in
def Qs:Nat→Nat
 |0=>216
 |1=>217
 |2=>218
 |_=>219
theorem znl (i:Nat):BD Tryz.prog (Qs i):=by
 unfold Qs
 split
 ·exact inferInstance
 ·exact inferInstance
 ·exact inferInstance
 ·exact inferInstance
theorem zpx (i:Nat) (b c d:BitVec 32) (L:List Chunk):GvP Tryz.prog (Qs i) [w32 b,w32 c,w32 d].toArray L (w32 (zkn i b c d)):=by
 unfold Qs zkn
 split
 ·exact zjk b c d L
 ·exact zkZ b c d L
 ·exact zfE b c d L
 ·exact zpy b c d L
theorem zko {i:Nat} (h:i < 4):QB[i]? =some (.func (.func (Qs i)) #[] #[]):=by
 match i,h with
 |0,_=>rfl
 |1,_=>rfl
 |2,_=>rfl
 |3,_=>rfl
omit [W0] in
def rnd (k:Nat) (h:H5) (w:BitVec 32):H5:=⟨rol h.a 5+zkn k h.b h.c h.d+h.e+w,h.a,rol h.b 30,h.c,h.d⟩
omit [W0] in
def rounds (ws:List (BitVec 32)) (h:H5):Nat→H5
 |0=>h
 |t+1=>rnd (t / 20) (rounds ws h t) (ws.getD t 0)
theorem zio {ws:List (BitVec 32)} {h:H5} {i j:Nat} (hj:j < 20):rounds ws h (20 * i+(j+1))=rnd i (rounds ws h (20 * i+j)) (ws.getD (20 * i+j) 0):=by
 show rnd ((20 * i+j) / 20) _ _=_
 rw [show (20 * i+j) / 20=i from by omega]
 rfl
omit [W0] in
def zqs (h r:H5):H5:=⟨h.a+r.a,h.b+r.b,h.c+r.c,h.d+r.d,h.e+r.e⟩
omit [W0] in
def zkG (h:H5) (blk:List UInt8):H5:=zqs h (rounds (sched blk 80) h 80)
theorem zqS (h:H5) (blk:List UInt8) (n p:Nat) (L:List Chunk) (hb:blk.length=64) :
 Gv Tryz.prog 127 [.pointer (some ⟨p,0,none⟩)].toArray ([(p,cl (yT h blk n) 198)]::L) (fun r L'=>r=.tuple #[]∧L'=[(p,cl (yT (zkG h blk) blk n) 198)]::L):=by
 refine Gv.of_body Tryz.func127 rfl rfl ?_
 refine kX ?_
 refine cP rfl rfl (zf4 h blk n p _ _ hb Fnd.here) ?_
 have hwl:(wsv (sched blk 80)).length=80:=by rw [uh,yI]
 have hwo:ones (wsv (sched blk 80))=true:=ze8
 have hm:zkG h blk=zqs h (rounds (sched blk 80) h 80):=rfl
 have hsl:=yI blk 80
 rw [hm]
 clear hm
 generalize sched blk 80=ws at hwl hwo hsl ⊢
 (refine kX ?_;refine kU fun bk=>?_;refine kX ?_)
 refine yD (L':=[(bk,cl Z80 258)]::[(p,cl (yT h blk n) 198)]::L) (fun w h=>h) ?_
 refine zo (wsv ws) rfl rfl hwl hwo ?_ iU ?_ ?_
 ·simp [patch,hwl,Z80]
 ·rw [hwl];decide
 refine kX ?_
 refine zk [] mixed ?_
 (refine zx 0 ?_;refine zx 1 ?_;refine zx 2 ?_;refine zx 3 ?_;refine zx 4 ?_;refine zx 5 ?_;refine zx 6 ?_;refine zx 7 ?_;refine zx 8 ?_;refine zx 9 ?_;refine zx 10 ?_;refine zx 11 ?_;refine zx 12 ?_;refine zx 13 ?_;refine zx 14 ?_;refine zx 15 ?_;refine zx 16 ?_;refine zx 17 ?_;refine zx 18 ?_;refine zx 19 ?_;refine zx 20 ?_;refine zx 21 ?_;refine zx 22 ?_;refine zx 23 ?_;refine zx 24 ?_;refine zx 25 ?_;refine zx 26 ?_;refine zx 27 ?_;refine zx 28 ?_;refine zx 29 ?_)
 refine cD ?_
 refine kX ?_
 refine cP rfl rfl (zn5 _) ?_
 refine kX ?_
 refine zn (X:=Nat × H5) (fun x=>[(0,.pointer (some ⟨p,0,none⟩)),(2,.pointer (some ⟨bk,0,none⟩)),(3,w32 x.2.a),(4,w32 x.2.b),(5,w32 x.2.c),(6,w32 x.2.d),(7,w32 x.2.e),(41,.agg QB.toArray),(42,.int .i64 (x.1:Int))])
  (fun x=>[(bk,cl (wsv ws) 258)]::[(p,cl (yT h blk n) 198)]::L) (fun x=>x.1≤4∧x.2=rounds ws h (20 * x.1)) (fun x=>4 - x.1) (0,h) ⟨by simp only;omega,rfl⟩ iS (fun w h=>h) ?_
 intro x ⟨hx1,hx2⟩
 obtain ⟨i,r⟩:=x
 simp only at hx1 hx2 ⊢
 (repeat' first|refine kX ?_|refine kU fun bk=>?_|refine kV fun hc=>?_|refine kZ (fun hc=>?_) fun hc=>?_|fail)
 ·have hi:i < 4:=by omega
  refine wK ?_ (he:=Zp rfl rfl rfl (zko hi) hi)
  refine kX ?_
  refine wK ?_ (he:=uw (l:=i * 20) (h:=(i+1) * 20) rfl (qH rfl (by omega)) (qH rfl (by omega)) (by omega) (by omega) (by omega))
  refine kX ?_
  refine zn (X:=Nat × H5) (fun x=>[(0,.pointer (some ⟨p,0,none⟩)),(2,.pointer (some ⟨bk,0,none⟩)),(3,w32 x.2.a),(4,w32 x.2.b),(5,w32 x.2.c),(6,w32 x.2.d),(7,w32 x.2.e),(9,.func (.func (Qs i)) #[] #[]),(41,.agg QB.toArray),(42,.int .i64 (i:Int)),
   (51,.slice (some ⟨bk,0+i * 20 * 1,none⟩) ((i+1) * 20 - i * 20) (80 - i * 20)),(52,.int .i64 (((i+1) * 20 - i * 20:Nat):Int)),(53,.int .i64 (x.1:Int))])
   (fun x=>[(bk,cl (wsv ws) 258)]::[(p,cl (yT h blk n) 198)]::L) (fun x=>x.1≤20∧x.2=rounds ws h (20 * i+x.1)) (fun x=>20 - x.1) (0,r) ⟨by simp only;omega,hx2⟩ iS (fun w h=>h) ?_
  intro y ⟨hy1,hy2⟩
  clear hx2 r hc
  obtain ⟨j,r⟩:=y
  simp only at hy1 hy2 ⊢
  (repeat' first|refine kX ?_|refine kU fun bk=>?_|refine kV fun hc=>?_|refine kZ (fun hc=>?_) fun hc=>?_|fail)
  ·have hj:j < 20:=by omega
   have hld:nth (wsv ws) (0+i * 20 * 1+j * 1)=some (w32 (ws.getD (20 * i+j) 0)):=by
    rw [yu,show 0+i * 20 * 1+j * 1=20 * i+j from by omega]
    exact zdJ (by simp [List.getD,show 20 * i+j < ws.length from by omega])
   refine wK ?_ (he:=zy rfl (by repeat (first|assumption|exact Fnd.here|refine Fnd.there ?_)) hld)
   refine kX ?_
   refine cP rfl rfl (zbm _ 5 _ (by omega)) ?_
   refine kX ?_
   haveI:=znl i
   refine cP rfl rfl (zpx i _ _ _ _) ?_
   refine kX ?_
   refine cP rfl rfl (zbm _ 30 _ (by omega)) ?_
   refine kX ?_
   refine zf (X:=Nat × H5) (μ:=fun x=>20 - x.1) (x:=(j,r)) (j+1,rnd i r (ws.getD (20 * i+j) 0)) (by simp only;omega) ⟨by simp only;omega,by simp only;rw [zio hj,hy2]⟩ iS (fun w h=>h)
  ·have hj:j=20:=by omega
   subst hj
   skip
   refine zf (X:=Nat × H5) (μ:=fun x=>4 - x.1) (x:=(i,r)) (i+1,r) (by simp only;omega) ⟨by simp only;omega,by simp only;rw [hy2];rfl⟩ iS (fun w h=>h)
 ·have hi:i=4:=by omega
  subst hi
  rw [←show r=rounds ws h 80 from hx2]
  clear hx2
  refine zk [10] mixed ?_
  (refine zx 0 ?_;refine zx 1 ?_;refine zx 2 ?_;refine zx 3 ?_;refine zx 4 ?_;refine zx 5 ?_;refine zx 6 ?_;refine zx 7 ?_;refine zx 8 ?_;refine zx 9 ?_)
  refine cL 10 rfl rfl rfl ?_
  refine zG (yT ⟨h.a+r.a,h.b,h.c,h.d,h.e⟩ blk n) rfl rfl rfl rfl iU (by simp [yT]) ?_
  refine cD ?_
  refine kX ?_
  refine zk [10] mixed ?_
  (refine zx 0 ?_;refine zx 1 ?_;refine zx 2 ?_;refine zx 3 ?_;refine zx 4 ?_;refine zx 5 ?_;refine zx 6 ?_;refine zx 7 ?_;refine zx 8 ?_;refine zx 9 ?_)
  refine cL 10 rfl rfl rfl ?_
  refine zG (yT ⟨h.a+r.a,h.b+r.b,h.c,h.d,h.e⟩ blk n) rfl rfl rfl rfl iU (by simp [yT]) ?_
  refine cD ?_
  refine kX ?_
  refine zk [10] mixed ?_
  (refine zx 0 ?_;refine zx 1 ?_;refine zx 2 ?_;refine zx 3 ?_;refine zx 4 ?_;refine zx 5 ?_;refine zx 6 ?_;refine zx 7 ?_;refine zx 8 ?_;refine zx 9 ?_)
  refine cL 10 rfl rfl rfl ?_
  refine zG (yT ⟨h.a+r.a,h.b+r.b,h.c+r.c,h.d,h.e⟩ blk n) rfl rfl rfl rfl iU (by simp [yT]) ?_
  refine cD ?_
  refine kX ?_
  refine zk [10] mixed ?_
  (refine zx 0 ?_;refine zx 1 ?_;refine zx 2 ?_;refine zx 3 ?_;refine zx 4 ?_;refine zx 5 ?_;refine zx 6 ?_;refine zx 7 ?_;refine zx 8 ?_;refine zx 9 ?_)
  refine cL 10 rfl rfl rfl ?_
  refine zG (yT ⟨h.a+r.a,h.b+r.b,h.c+r.c,h.d+r.d,h.e⟩ blk n) rfl rfl rfl rfl iU (by simp [yT]) ?_
  refine cD ?_
  refine kX ?_
  refine zk [10] mixed ?_
  (refine zx 0 ?_;refine zx 1 ?_;refine zx 2 ?_;refine zx 3 ?_;refine zx 4 ?_;refine zx 5 ?_;refine zx 6 ?_;refine zx 7 ?_;refine zx 8 ?_;refine zx 9 ?_)
  refine cL 10 rfl rfl rfl ?_
  refine zG (yT ⟨h.a+r.a,h.b+r.b,h.c+r.c,h.d+r.d,h.e+r.e⟩ blk n) rfl rfl rfl rfl iU (by simp [yT]) ?_
  refine cD ?_
  skip
  refine kR ?_
  exact ⟨_,iC,rfl,rfl⟩
omit [W0] in
def h50:H5:=⟨1732584193#32,4023233417#32,2562383102#32,271733878#32,3285377520#32⟩
omit [W0] in
def Xo (t:List UInt8):Nat→H5
 |0=>h50
 |k+1=>zkG (Xo t k) ((t.drop (64 * k)).take 64)
theorem Xp (t u:List UInt8):∀k,64 * k≤t.length→Xo (t++u) k=Xo t k
 |0,_=>rfl
 |k+1,h=>by
  have e:((t++u).drop (64 * k)).take 64=(t.drop (64 * k)).take 64:=by
   rw [List.drop_append_of_le_length (by omega),List.take_append_of_le_length (by simp;omega)]
  simp only [Xo,Xp t u k (by omega),e]
omit [W0] in
structure XF (t:List UInt8) (h:H5) (blk:List UInt8):Prop where
 len:blk.length=64
 chain:h=Xo t (t.length / 64)
 rest:blk.take (t.length % 64)=t.drop (64 * (t.length / 64))
omit [W0] in
def uL (blk:List UInt8) (r:Nat) (u:List UInt8):List UInt8:=blk.take r++(u++blk.drop (r+u.length))
theorem Z0 {blk u:List UInt8} {r:Nat} (hb:blk.length=64) (h:r+u.length≤64):(uL blk r u).length=64:=by
 simp [uL];omega
theorem zaW {blk u:List UInt8} {r:Nat} (hb:blk.length=64) (h:r+u.length≤64):(uL blk r u).take (r+u.length)=blk.take r++u:=by
 unfold uL
 have e:(blk.take r++u).length=r+u.length:=by simp;omega
 rw [←List.append_assoc,←e,List.take_left]
theorem XF.part {t u:List UInt8} {h:H5} {blk:List UInt8} (hi:XF t h blk) (hu:t.length % 64+u.length < 64):XF (t++u) h (uL blk (t.length % 64) u):=by
 have e1:(t++u).length / 64=t.length / 64:=by simp;omega
 have e2:(t++u).length % 64=t.length % 64+u.length:=by simp;omega
 refine ⟨Z0 hi.len (by omega),?_,?_⟩
 ·rw [e1,Xp _ _ _ (by omega)];exact hi.chain
 ·rw [e1,e2,zaW hi.len (by omega),hi.rest,List.drop_append_of_le_length (by omega)]
theorem XF.full {t u:List UInt8} {h:H5} {blk:List UInt8} (hi:XF t h blk) (hu:t.length % 64+u.length=64):XF (t++u) (zkG h (uL blk (t.length % 64) u)) (uL blk (t.length % 64) u):=by
 have e1:(t++u).length / 64=t.length / 64+1:=by simp;omega
 have e2:(t++u).length % 64=0:=by simp;omega
 have hl:=Z0 (u:=u) hi.len (show t.length % 64+u.length≤64 by omega)
 have ht:=zaW (u:=u) hi.len (show t.length % 64+u.length≤64 by omega)
 rw [hu,List.take_of_length_le (by omega),hi.rest] at ht
 have e3:((t++u).drop (64 * (t.length / 64))).take 64=uL blk (t.length % 64) u:=by
  rw [ht,List.drop_append_of_le_length (by omega),List.take_of_length_le]
  simp;omega
 refine ⟨hl,?_,?_⟩
 ·rw [e1]
  simp only [Xo]
  rw [Xp _ _ _ (by omega),←hi.chain,e3]
 ·rw [e1,e2,List.take_zero,List.drop_of_length_le (by simp;omega)]
theorem XF.new:XF [] h50 (List.replicate 64 0):=⟨by simp,rfl,rfl⟩
theorem YH {h:H5} {blk:List UInt8} {n:Nat}:(yT h blk n).length=6+blk.length:=by simp [yT,zH];omega
theorem zfR {v:Value} {l vs:List Value} {o:Nat}:patch (v::l) (o+1) vs=v::patch l o vs:=by
 simp [patch,Nat.add_right_comm o 1]
theorem zf6 {h:H5} {blk u:List UInt8} {n r:Nat} (hu:r+u.length≤blk.length):patch (yT h blk n) (5+r * 1) (bsv u)=yT h (uL blk r u) n:=by
 unfold yT
 rw [Nat.mul_one,show 5+r=(((((r+1)+1)+1)+1)+1) from by omega]
 simp only [zfR]
 have e:patch (bsv blk++[Value.int .u64 (n:Int)]) r (bsv u)=bsv (uL blk r u)++[.int .u64 (n:Int)]:=by
  unfold patch uL
  rw [List.take_append_of_le_length (by simp [zH];omega),List.drop_append_of_le_length (by simp [zH];omega)]
  simp [bsv,List.map_take,List.map_drop]
 rw [e]
theorem zeQ {h:H5} {blk:List UInt8} {n:Nat} (m:Nat) (hb:blk.length=64):(yT h blk n).set 69 (.int .u64 (m:Int))=yT h blk m:=by
 unfold yT
 simp only [List.set_cons_succ]
 rw [List.set_append_right _ _ (by simp [zH,hb])]
 simp [zH,hb]
omit [W0] in
structure SlC (L:List Chunk) (k:Nat) (v:Value) (m:Nat) (xs:List Value):Prop where
 sl:Sl L k v m xs
 room:∃a c,v=.slice a m c∧m≤c
theorem SlC.there {L:List Chunk} {C:Chunk} {k m:Nat} {v:Value} {xs:List Value} (h:SlC L k v m xs):SlC (C::L) k v m xs:=⟨zm h.sl,h.room⟩
theorem SlC.ow {e k m:Nat} {v:Value} {xs:List Value} {C:Chunk} {L:List Chunk} (h:Ow e k v m xs C):SlC (C::L) k v m xs:=by
 refine ⟨qz h,?_⟩
 rcases h with ⟨rfl,rfl,_⟩|⟨b,cap,rest,rfl,_,_,_,hmc,_⟩
 ·exact ⟨_,_,rfl,Nat.le_refl _⟩
 ·exact ⟨_,_,rfl,hmc⟩
theorem SlC.cut {L:List Chunk} {bb off m cap q:Nat} {l:List UInt8} {c:Array Value} {T:TypeId} {fr:Nat × Nat} (hf:Fnd L bb (.cells c T fr)) (hc:∀j u,(bsv l)[j]? =some u→c[off+j]? =some u) (hm:l.length=m) (hq:q≤m) (hmc:m≤cap) :
 SlC L 1 (.slice (some ⟨bb,if cap=q then off else off+q * 1,none⟩) (m - q) (cap - q)) (m - q) (bsv (l.drop q)):=by
 refine ⟨.inr ⟨_,_,rfl,?_,by simp [zH,hm]⟩,_,_,rfl,by omega⟩
 by_cases h0:m=q
 ·refine .inl ?_
  rw [List.drop_of_length_le (by omega)];rfl
 ·refine .inr ⟨bb,_,c,T,fr,rfl,hf,fun j u hj=>?_⟩
  rw [if_neg (by omega),Nat.mul_one,Nat.add_assoc]
  refine hc _ _ ?_
  rw [←hj]
  simp [bsv]
theorem zhI (t b:List UInt8) (h:H5) (blk:List UInt8) (v:Value) (p:Nat) (L:List Chunk) (hi:XF t h blk) (hlen:t.length+b.length < 1152921504606846976) (hv:SlC L 1 v b.length (bsv b)) :
 Gv Tryz.prog 88 [.pointer (some ⟨p,0,none⟩),v].toArray ([(p,cl (yT h blk t.length) 198)]::L)
  (fun r L'=>r=.tuple #[]∧∃h' blk',XF (t++b) h' blk'∧L'=[(p,cl (yT h' blk' (t++b).length) 198)]::L):=by
 refine Gv.of_body Tryz.func88 rfl rfl ?_
 refine kX ?_
 refine zn (X:=Nat × Value × H5 × List UInt8) (fun x=>[(0,.pointer (some ⟨p,0,none⟩)),(1,x.2.1)])
  (fun x=>[(p,cl (yT x.2.2.1 x.2.2.2 (t++b.take x.1).length) 198)]::L)
  (fun x=>x.1≤b.length∧SlC L 1 x.2.1 (b.length - x.1) (bsv (b.drop x.1))∧XF (t++b.take x.1) x.2.2.1 x.2.2.2) (fun x=>b.length - x.1) (0,v,h,blk) ⟨Nat.zero_le _,by simpa using hv,by simpa using hi⟩ iS (fun w h=>by simpa using h) ?_
 clear hi hv h blk v
 intro x ⟨hx1,hx2,hx3⟩
 obtain ⟨k,v,h,blk⟩:=x
 simp only at hx1 hx2 hx3 ⊢
 obtain ⟨a,c,rfl,hmc⟩:=hx2.room
 (repeat' first|refine kX ?_|refine kU fun bk=>?_|refine kV fun hc=>?_|refine kZ (fun hc=>?_) fun hc=>?_|fail)
 ·have hm0:0 < b.length - k:=by omega
  have hN:(t++b.take k).length=t.length+k:=by simp;omega
  obtain ⟨s,hs⟩:∃s,s=t++b.take k:=⟨_,rfl⟩
  obtain ⟨u,hu⟩:∃u,u=b.drop k:=⟨_,rfl⟩
  have hul:u.length=b.length - k:=by rw [hu,List.length_drop]
  rw [←hs] at hx3 hN ⊢
  rw [←hu] at hx2
  rw [←hul] at hx2 hm0 hmc ⊢
  rcases zn1 hx2.sl with ⟨h0,_⟩|⟨bb,off,cap,cc,T,fr,hve,hfn,hcell⟩
  ·omega
  injection hve with e1 e2 e3
  subst e1 e3
  clear e2
  have hr:(s.length:Int).tmod 64=((s.length % 64:Nat):Int):=by rw [Int.tmod_eq_emod_of_nonneg (by omega)];omega
  have hlv:∀(h:H5) (blk:List UInt8) (n:Nat),blk.length=64→nth (yT h blk n) 69=some (.int .u64 (n:Int)):=fun h blk n hb=>by rw [yu];exact zeP hb
  have hbl:=hx3.len
  obtain ⟨q,hq⟩:∃q,q=min u.length (64 - s.length % 64):=⟨_,rfl⟩
  have hql:(u.take q).length=q:=by simp;omega
  have htk:(bsv u).take (min u.length (64 - s.length % 64) * 1)=bsv (u.take q):=by simp [bsv,hq]
  have hbl2:=Z0 (u:=u.take q) (r:=s.length % 64) hbl (by omega)
  refine zk [10,11] mixed ?_
  (refine zx 0 ?_;refine zx 1 ?_;refine zx 2 ?_;refine zx 3 ?_;refine zx 4 ?_;refine zx 5 ?_)
  refine zx 6 ?_ (he:=zy rfl Fnd.here (hlv h blk _ hbl))
  refine cT 7 rfl rfl (Xm rfl rfl (by decide)) ?_
  rw [hr]
  refine cT 8 rfl rfl (uw (l:=s.length % 64) (h:=64) rfl rfl rfl (by omega) (by omega) (by omega)) ?_
  (refine zx 9 ?_)
  refine cL 10 rfl rfl rfl ?_
  refine vR (yT h (uL blk (s.length % 64) (u.take q)) s.length) rfl rfl (zm hx2.sl) (by rw [htk];exact yj) ?_ iU ?_ rfl ?_
  ·rw [htk]
   exact zf6 (by omega)
  ·rw [YH];omega
  rw [←hq]
  refine cL 11 rfl rfl rfl ?_
  refine wK ?_
  refine cD ?_
  refine kX ?_
  refine ze (yS (l:=q) (h:=u.length) rfl rfl rfl (by omega) hmc) rfl ?_
  refine kX ?_
  refine ze (zy rfl Fnd.here (hlv _ _ _ hbl2)) rfl ?_
  refine kX ?_
  refine ze (qj rfl rfl rfl) rfl ?_
  rw [wrap_u64 (by omega) (by omega),show (s.length:Int)+(q:Int)=((s.length+q:Nat):Int) from by omega]
  refine kX ?_
  refine zG (yT h (uL blk (s.length % 64) (u.take q)) (s.length+q)) rfl rfl rfl (zeQ _ hbl2) iU (by rw [YH];omega) ?_
  refine kX ?_
  refine ze (zy rfl Fnd.here (hlv _ _ _ hbl2)) rfl ?_
  refine kX ?_
  refine ze (Xm rfl rfl (by decide)) rfl ?_
  rw [show ((s.length+q:Nat):Int).tmod 64=(((s.length+q) % 64:Nat):Int) from by rw [Int.tmod_eq_emod_of_nonneg (by omega)];omega]
  have hnx:t++b.take (k+q)=s++u.take q:=by
   rw [hs,hu,List.append_assoc,←List.take_add]
  have hnl:(t++b.take (k+q)).length=s.length+q:=by rw [hnx];simp;omega
  have hsc:SlC L 1 (.slice (some ⟨bb,if c=q then off else off+q * 1,none⟩) (u.length - q) (c - q)) (b.length - (k+q)) (bsv (b.drop (k+q))):=by
   have:=SlC.cut (L:=L) (q:=q) (cap:=c) hfn hcell rfl (by omega) hmc
   rw [hul,hu,List.drop_drop] at this
   rw [hul,show b.length - (k+q)=b.length - k - q from by omega]
   exact this
  (repeat' first|refine kX ?_|refine kU fun bk=>?_|refine kV fun hc=>?_|refine kZ (fun hc=>?_) fun hc=>?_|fail)
  ·have h64:s.length % 64+q=64:=by omega
   refine cC rfl rfl (zqS _ _ _ p L hbl2) (fun r L' hp=>?_)
   obtain ⟨rfl,rfl⟩:=hp
   refine kX ?_
   rw [hul] at hsc ⊢
   refine zf (X:=Nat × Value × H5 × List UInt8) (μ:=fun x=>b.length - x.1) (x:=(k,.slice (some ⟨bb,off,none⟩) u.length c,h,blk)) (k+q,_,zkG h (uL blk (s.length % 64) (u.take q)),uL blk (s.length % 64) (u.take q)) (by simp only;omega)
    ⟨by simp only;omega,hsc,by simp only;rw [hnx];exact hx3.full (by omega)⟩ iS (fun w h=>by simp only;rw [hnl];exact h)
  ·have h64:s.length % 64+q < 64:=by omega
   rw [hul] at hsc ⊢
   refine zf (X:=Nat × Value × H5 × List UInt8) (μ:=fun x=>b.length - x.1) (x:=(k,.slice (some ⟨bb,off,none⟩) u.length c,h,blk)) (k+q,_,h,uL blk (s.length % 64) (u.take q)) (by simp only;omega)
    ⟨by simp only;omega,hsc,by simp only;rw [hnx];exact hx3.part (by omega)⟩ iS (fun w h=>by simp only;rw [hnl];exact h)
 ·have hk:k=b.length:=by omega
  subst hk
  rw [List.take_length] at hx3 ⊢
  refine kR ?_
  exact ⟨_,iC,rfl,h,blk,hx3,rfl⟩
omit [W0] in
def hiW (n:Nat):BitVec 32:=BitVec.ofNat 32 (8 * n / 4294967296)
omit [W0] in
def loW (n:Nat):BitVec 32:=BitVec.ofNat 32 (8 * n)
omit [W0] in
def Xf (n:Nat):List UInt8:=128::List.replicate ((119 - n % 64) % 64) 0++wb (hiW n)++wb (loW n)
theorem zdm (n:Nat):(Xf n).length=(119 - n % 64) % 64+9:=by simp [Xf,zcu]
omit [W0] in
def hbs (h:H5):List (BitVec 32):=[h.a,h.b,h.c,h.d,h.e]
omit [W0] in
def zf7 (t:List UInt8):List UInt8:=wbs (hbs (Xo (t++Xf t.length) ((t++Xf t.length).length / 64)))
theorem QY (t:List UInt8):(zf7 t).length=20:=by simp [zf7,zgi,hbs]
theorem zqD (t:List UInt8) (h:H5) (blk:List UInt8) (p:Nat) (L:List Chunk) (hi:XF t h blk) (hlen:t.length < 576460752303423488) :
 Gv Tryz.prog 128 [.pointer (some ⟨p,0,none⟩)].toArray ([(p,cl (yT h blk t.length) 198)]::L)
  (fun r L'=>r=.tuple #[]∧∃h' blk',XF (t++Xf t.length) h' blk'∧L'=[(p,cl (yT h' blk' (t++Xf t.length).length) 198)]::L):=by
 refine Gv.of_body Tryz.func128 rfl rfl ?_
 have hbl:=hi.len
 have hlv:nth (yT h blk t.length) 69=some (.int .u64 (t.length:Int)):=by rw [yu];exact zeP hbl
 obtain ⟨n,hn⟩:∃n,n=t.length:=⟨_,rfl⟩
 rw [←hn] at hlv hlen
 rw [←hn]
 obtain ⟨z,hz⟩:∃z,z=(119 - n % 64) % 64:=⟨_,rfl⟩
 refine kX ?_
 refine ze (zy rfl Fnd.here hlv) rfl ?_
 refine kX ?_
 refine ze (qj rfl rfl rfl) rfl ?_
 rw [wrap_u64 (by omega) (by omega)]
 refine kX ?_
 refine ze (zy rfl Fnd.here hlv) rfl ?_
 refine kX ?_
 refine ze (qj rfl rfl rfl) rfl ?_
 refine kX ?_
 refine ze (Xm rfl rfl (by decide)) rfl ?_
 have e1:(IntKind.u64.wrap (55 - (n:Int))).tmod 64=(z:Int):=by
  simp [IntKind.wrap,IntKind.bits,IntKind.signed]
  rw [Int.tmod_eq_emod_of_nonneg (by omega)]
  omega
 rw [e1]
 refine kX ?_
 refine ze (qj rfl rfl rfl) rfl ?_
 rw [wrap_u64 (by omega) (by omega),show 1+(z:Int)=((z+1:Nat):Int) from by omega]
 refine kX ?_
 refine zJ rfl rfl (by rfl) (Nat.le_refl _) (by omega) (by omega) rfl (fun bn=>?_)
 refine kX ?_
 refine zG (bsv (128::List.replicate z 0)) rfl rfl rfl ?_ iU (by simp [zeros_length,Value.cells]) ?_
 ·show (zeros [.int .u8 0] (z+1)).set 0 _=_
  rw [zcv];rfl
 refine kX ?_
 have ho:Ow 5 1 (.slice (some ⟨bn,0,none⟩) (z+1) (z+1)) (z+1) (bsv (128::List.replicate z 0)) [(bn,cl (bsv (128::List.replicate z 0)) 5)]:=
  .inr ⟨bn,z+1,[],rfl,by simp,by simp [zH],by simp,Nat.le_refl _,by simp [maxLen];omega⟩
 have e2:BitVec.ofInt 32 ((n:Int) * 8 / 4294967296)=hiW n:=by
  apply BitVec.eq_of_toNat_eq
  rw [BitVec.toNat_ofInt,hiW,BitVec.toNat_ofNat]
  omega
 have e3:BitVec.ofInt 32 ((n:Int) * 8)=loW n:=by
  apply BitVec.eq_of_toNat_eq
  rw [BitVec.toNat_ofInt,loW,BitVec.toNat_ofNat]
  omega
 rw [e2]
 refine cC rfl rfl (Qk _ (hiW n) _ _ _ _ ho (by omega)) (fun v1 L' hp=>?_)
 obtain ⟨_,C1,rfl,rfl,ho1⟩:=hp
 refine kX ?_
 rw [e3]
 refine cC rfl rfl (Qk _ (loW n) _ _ _ _ ho1 (by omega)) (fun v2 L' hp=>?_)
 obtain ⟨_,C2,rfl,rfl,ho2⟩:=hp
 refine kX ?_
 have hpad:128::List.replicate z 0++wb (hiW n)++wb (loW n)=Xf n:=by rw [hz];rfl
 rw [hpad] at ho2
 have hpl:=zdm n
 have hv2:SlC (C2::L) 1 v2 (Xf n).length (bsv (Xf n)):=by
  rw [hpl,show (119 - n % 64) % 64+9=z+1+4+4 from by omega]
  exact SlC.ow ho2
 have hw:=zhI t (Xf n) h blk v2 p (C2::L) hi (by omega) hv2
 rw [←hn] at hw
 refine cC rfl rfl (Gv.take hw (by repeat (first|exact Take.here|apply Take.there))) (fun r L' hp=>?_)
 obtain ⟨rfl,h',blk',hi',rfl⟩:=hp
 refine kX ?_
 refine kR ?_
 exact ⟨_,iC,rfl,h',blk',hi',rfl⟩
omit [W0] in
def Z70:List Value:=yT ⟨0,0,0,0,0⟩ (List.replicate 64 0) 0
theorem zkJ (L:List Chunk):Gv Tryz.prog 87 [].toArray L (fun r L'=>∃p,r=.pointer (some ⟨p,0,none⟩)∧L'=[(p,cl (yT h50 (List.replicate 64 0) 0) 198)]::L):=by
 refine Gv.of_body Tryz.func87 rfl rfl ?_
 (refine kX ?_;refine kU fun bk=>?_;refine kX ?_)
 refine kH ?_
 exact ⟨[(bk,cl (yT h50 (List.replicate 64 0) 0) 198)]::L,fun w h=>h,bk,rfl,rfl⟩
theorem zra (t:List UInt8) (h:H5) (blk:List UInt8) (p:Nat) (L:List Chunk) (hi:XF t h blk) (hlen:t.length < 576460752303423488) :
 Gv Tryz.prog 89 [.pointer (some ⟨p,0,none⟩)].toArray ([(p,cl (yT h blk t.length) 198)]::L)
  (fun r L'=>∃C,L'=C::[(p,cl (yT h blk t.length) 198)]::L∧Ow 5 1 r 20 (bsv (zf7 t)) C):=by
 refine Gv.of_body Tryz.func89 rfl rfl ?_
 have hbl:=hi.len
 have hsl:(yT h blk t.length).length=70:=by rw [YH,hbl]
 have hone:ones (yT h blk t.length)=true:=by
  have:=yj (l:=blk)
  simp only [ones,yT,List.all_cons,List.all_append] at *
  simp [this,Value.oneCell']
 refine kX ?_
 refine wK ?_ (he:=zB rfl (zK.cl' (vs:=yT h blk t.length) Fnd.here (by simp [cut])) hsl)
 (refine kX ?_;refine kU fun bk=>?_;refine kX ?_)
 refine yD (L':=[(bk,cl Z70 198)]::[(p,cl (yT h blk t.length) 198)]::L) (fun w h=>h) ?_
 refine zo (yT h blk t.length) rfl rfl hsl hone ?_ iU ?_ ?_
 ·have:Z70.length=70:=by decide
  simp [patch,hsl,this]
 ·rw [hsl];decide
 refine kX ?_
 refine cC rfl rfl (zqD t h blk bk _ hi hlen) (fun r L' hp=>?_)
 obtain ⟨rfl,h',blk',hi',rfl⟩:=hp
 have hch:=hi'.chain
 refine kX ?_
 refine zJ (m:=0) (c:=20) rfl rfl (by rfl) (by omega) (by omega) (by omega) rfl (fun bn=>?_)
 refine kX ?_
 refine wK ?_ (he:=zB rfl (zK.cl' (vs:=[w32 h'.a,w32 h'.b,w32 h'.c,w32 h'.d,w32 h'.e]) (Fnd.there Fnd.here) rfl) rfl)
 refine kX ?_
 have ho:Ow 5 1 (.slice (some ⟨bn,0,none⟩) 0 20) 0 (bsv []) [(bn,cl (zeros [.int .u8 0] 20) 5)]:=
  .inr ⟨bn,20,zeros [.int .u8 0] 20,rfl,rfl,rfl,by simp [zeros_length],by omega,by simp [maxLen]⟩
 refine zn (X:=Nat × Value × Chunk) (fun x=>[(4,x.2.1),(13,.agg [w32 h'.a,w32 h'.b,w32 h'.c,w32 h'.d,w32 h'.e].toArray),(14,.int .i64 (x.1:Int))])
  (fun x=>x.2.2::[(p,cl (yT h blk t.length) 198)]::L)
  (fun x=>x.1≤5∧Ow 5 1 x.2.1 (4 * x.1) (bsv (wbs ((hbs h').take x.1))) x.2.2) (fun x=>5 - x.1) (0,_,_) ⟨Nat.zero_le _,ho⟩ iS (fun w h=>iH h) ?_
 intro x ⟨hx1,hx2⟩
 obtain ⟨k,v,C⟩:=x
 simp only at hx1 hx2 ⊢
 (repeat' first|refine kX ?_|refine kU fun bk=>?_|refine kV fun hc=>?_|refine kZ (fun hc=>?_) fun hc=>?_|fail)
 ·have hk:k < 5:=by omega
  obtain ⟨w,hw⟩:∃w,(hbs h')[k]? =some w:=⟨(hbs h')[k]'hk,List.getElem?_eq_getElem hk⟩
  have hwv:[w32 h'.a,w32 h'.b,w32 h'.c,w32 h'.d,w32 h'.e][k]? =some (w32 w):=zdJ hw
  refine wK ?_ (he:=Zp rfl rfl rfl hwv hk)
  refine kX ?_
  refine cC rfl rfl (Qk _ w _ _ _ _ hx2 (by omega)) (fun v1 L' hp=>?_)
  obtain ⟨_,C1,rfl,rfl,ho1⟩:=hp
  refine kX ?_
  have e:wbs ((hbs h').take k)++wb w=wbs ((hbs h').take (k+1)):=by
   rw [List.take_add_one,hw,zgh];simp [wbs]
  rw [e] at ho1
  refine zf (X:=Nat × Value × Chunk) (μ:=fun x=>5 - x.1) (x:=(k,v,C)) (k+1,v1,C1) (by simp only;omega) ⟨by simp only;omega,ho1⟩ iS (fun w h=>h)
 ·have hk:k=5:=by omega
  subst hk
  skip
  refine kR ?_
  refine ⟨_,iC,C,rfl,?_⟩
  rw [zf7,←hch]
  exact hx2
theorem zp7 (t:List UInt8) (v:Value) (L:List Chunk) (hlen:t.length < 576460752303423488) (hv:SlC L 1 v t.length (bsv t)) :
 Gv Tryz.prog 56 [v].toArray L (fun r L'=>∃C,L'=C::L∧Ow 5 1 r 20 (bsv (zf7 t)) C):=by
 refine Gv.of_body Tryz.func56 rfl rfl ?_
 refine kX ?_
 refine cC rfl rfl (zkJ L) (fun r L' hp=>?_)
 obtain ⟨p,rfl,rfl⟩:=hp
 refine kX ?_
 refine cC rfl rfl (zhI [] t h50 (List.replicate 64 0) v p L .new (by simp;omega) hv) (fun r L' hp=>?_)
 obtain ⟨rfl,h',blk',hi',rfl⟩:=hp
 rw [List.nil_append] at hi' ⊢
 refine kX ?_
 refine cC rfl rfl (zra t h' blk' p L hi' hlen) (fun r L' hp=>?_)
 obtain ⟨C,rfl,ho⟩:=hp
 refine kX ?_
 refine kR ?_
 exact ⟨C::L,iC,C,rfl,ho⟩
theorem Qe {L:List Chunk} {v:Value} {m k:Nat} {t:List UInt8} (h:Sl L 1 v m (bsv t)) (hk:k < m) :
 ∃bb off cap c T fr,v=.slice (some ⟨bb,off,none⟩) m cap∧Fnd L bb (.cells c T fr)∧c[off+k * 1]? =some (.int .u8 ((t.getD k 0).toNat:Int)):=by
 rcases h with ⟨c,rfl,rfl,h0⟩|⟨a,cap,rfl,hr,hl⟩
 ·omega
 ·have hlt:k < t.length:=by rw [zH] at hl;omega
  have hg:(bsv t)[k]? =some (.int .u8 ((t.getD k 0).toNat:Int)):=wW (by simp [List.getD,hlt])
  rcases hr with h0|⟨b,off,c,T,fr,rfl,h1,h2⟩
  ·rw [h0] at hg;simp at hg
  ·exact ⟨b,off,cap,c,T,fr,rfl,h1,by rw [Nat.mul_one];exact h2 _ _ hg⟩
theorem take_succ {α:Type} {t:List α} {k:Nat} (d:α) (h:k < t.length):t.take (k+1)=t.take k++[t.getD k d]:=by
 rw [List.take_add_one,List.getElem?_eq_getElem h]
 simp [List.getD,h]
omit [W0] in
def zmy (a:BitVec 32) (x:UInt8):BitVec 32:=(a+b2w x) % 65521#32
omit [W0] in
def uO (s:BitVec 32 × BitVec 32) (t:List UInt8):BitVec 32 × BitVec 32:=t.foldl (fun s x=>(zmy s.1 x,(s.2+zmy s.1 x) % 65521#32)) s
theorem zbR (s:BitVec 32 × BitVec 32) (t:List UInt8) (x:UInt8):uO s (t++[x])=(zmy (uO s t).1 x,((uO s t).2+zmy (uO s t).1 x) % 65521#32):=by simp [uO]
omit [W0] in
def Ql (s:BitVec 32 × BitVec 32):BitVec 32:=s.2 <<< 16|||s.1
theorem zfK (L:List Chunk):Gv Tryz.prog 76 [].toArray L (fun r L'=>∃p,r=.pointer (some ⟨p,0,none⟩)∧L'=[(p,cl [w32 1#32,w32 0#32] 191)]::L):=by
 refine Gv.of_body Tryz.func76 rfl rfl ?_
 (refine kX ?_;refine kU fun bk=>?_;refine kX ?_)
 refine kH ?_
 exact ⟨[(bk,cl [w32 1#32,w32 0#32] 191)]::L,fun w h=>h,bk,rfl,rfl⟩
theorem zcK (s:BitVec 32 × BitVec 32) (t:List UInt8) (v:Value) (p:Nat) (L:List Chunk) (hlen:t.length < 576460752303423488) (hv:SlC L 1 v t.length (bsv t)) :
 Gv Tryz.prog 77 [.pointer (some ⟨p,0,none⟩),v].toArray ([(p,cl [w32 s.1,w32 s.2] 191)]::L)
  (fun z L'=>z=.tuple #[]∧L'=[(p,cl [w32 (uO s t).1,w32 (uO s t).2] 191)]::L):=by
 refine Gv.of_body Tryz.func77 rfl rfl ?_
 obtain ⟨a,c,rfl,hmc⟩:=hv.room
 refine kX ?_
 refine zk [] mixed ?_
 (refine zx 0 ?_;refine zx 1 ?_;refine zx 2 ?_;refine zx 3 ?_;refine zx 4 ?_;refine zx 5 ?_;refine zx 6 ?_;refine zx 7 ?_;refine zx 8 ?_;refine zx 9 ?_)
 refine cD ?_
 refine kX ?_
 refine zn (X:=Nat) (fun k=>[(0,.pointer (some ⟨p,0,none⟩)),(4,w32 (uO s (t.take k)).1),(5,w32 (uO s (t.take k)).2),(16,.slice a t.length c),(17,.int .i64 (t.length:Int)),(18,.int .i64 (k:Int))])
  (fun k=>[(p,cl [w32 s.1,w32 s.2] 191)]::L) (fun k=>k≤t.length) (fun k=>t.length - k) 0 (Nat.zero_le _) iS (fun w h=>h) ?_
 intro k hk
 replace hk:k≤t.length:=hk
 (repeat' first|refine kX ?_|refine kU fun bk=>?_|refine kV fun hc=>?_|refine kZ (fun hc=>?_) fun hc=>?_|fail)
 ·have hlt:k < t.length:=by omega
  obtain ⟨bb,off,cap,cc,bT,bfr,hve,hfn,hcell⟩:=Qe hv.sl hlt
  injection hve with e1 e2 e3
  subst e1 e3
  clear e2
  refine kX ?_
  refine wK ?_ (he:=zq rfl hfn.there hcell)
  refine kX ?_
  refine zf (X:=Nat) (J:=fun k=>k≤t.length) (μ:=fun k=>t.length - k) (x:=k) (k+1) (by omega) (show k+1≤t.length by omega) ?_ (fun w h=>h)
  rw [take_succ 0 hlt,zbR]
  exact iS
 ·have hk:k=t.length:=by omega
  subst hk
  rw [List.take_length]
  refine kR ?_
  exact ⟨_,iC,rfl,rfl⟩
theorem zcJ (s:BitVec 32 × BitVec 32) (p:Nat) (L:List Chunk) (hf:Fnd L p (cl [w32 s.1,w32 s.2] 191)):GvP Tryz.prog 78 [.pointer (some ⟨p,0,none⟩)].toArray L (w32 (Ql s)):=by
 refine Gv.of_body Tryz.func78 rfl rfl ?_
 refine kX ?_
 refine zk [] mixed ?_
 (refine zx 0 ?_;refine zx 1 ?_;refine zx 2 ?_;refine zx 3 ?_;refine zx 4 ?_;refine zx 5 ?_;refine zx 6 ?_;refine zx 7 ?_;refine zx 8 ?_;refine zx 9 ?_;refine zx 10 ?_)
 refine cD ?_
 refine kX ?_
 exact kE
theorem zgs (t:List UInt8) (v:Value) (L:List Chunk) (hlen:t.length < 576460752303423488) (hv:SlC L 1 v t.length (bsv t)) :
 GvP Tryz.prog 47 [v].toArray L (w32 (Ql (uO (1#32,0#32) t))):=by
 refine Gv.of_body Tryz.func47 rfl rfl ?_
 refine kX ?_
 refine cC rfl rfl (zfK L) (fun r L' hp=>?_)
 obtain ⟨p,rfl,rfl⟩:=hp
 refine kX ?_
 refine cC rfl rfl (zcK (1#32,0#32) t v p L hlen hv) (fun r L' hp=>?_)
 obtain ⟨rfl,rfl⟩:=hp
 refine kX ?_
 refine cP rfl rfl (zcJ (uO (1#32,0#32) t) p _ Fnd.here) ?_
 refine kX ?_
 exact kE
omit [W0] in
def zqA:List UInt8:=[48,49,50,51,52,53,54,55,56,57,97,98,99,100,101,102]
omit [W0] in
def zjE:ByteArray:=⟨zqA.toArray⟩
omit [W0] in
def dig (i:Nat):UInt8:=zqA.getD i 0
theorem zcZ {i:Nat} (h:i < 16):zjE[i]? =some (dig i):=by
 have:∀i:Fin 16,zjE[i.val]? =some (dig i.val):=by decide
 exact this ⟨i,h⟩
omit [W0] in
def zkb (x:UInt8):List UInt8:=[dig (x.toNat / 16),dig (x.toNat % 16)]
omit [W0] in
def zab:List UInt8→List UInt8
 |[]=>[]
 |x::r=>zkb x++zab r
theorem zei (a b:List UInt8):zab (a++b)=zab a++zab b:=by
 induction a with
 |nil=>rfl
 |cons x r ih=>simp [zab,ih]
theorem zqM (t:List UInt8) (v:Value) (L:List Chunk) (hlen:t.length≤35184372088832) (hv:SlC L 1 v t.length (bsv t)) :
 GvP Tryz.prog 55 [v].toArray L (.string ⟨(zab t).toArray⟩):=by
 refine Gv.of_body Tryz.func55 rfl rfl ?_
 obtain ⟨a,c,rfl,hmc⟩:=hv.room
 refine kX ?_
 refine zJ (m:=0) (c:=2 * t.length) rfl rfl (by rfl) (by omega) (by omega) (by omega) rfl (fun bn=>?_)
 refine kX ?_
 have ho:Ow 5 1 (.slice (some ⟨bn,0,none⟩) 0 (2 * t.length)) 0 (bsv []) [(bn,cl (zeros [.int .u8 0] (2 * t.length)) 5)]:=
  .inr ⟨bn,2 * t.length,zeros [.int .u8 0] (2 * t.length),rfl,rfl,rfl,by simp [zeros_length],by omega,by simp [maxLen];omega⟩
 refine zn (X:=Nat × Value × Chunk) (fun x=>[(3,x.2.1),(10,.slice a t.length c),(11,.int .i64 (t.length:Int)),(12,.int .i64 (x.1:Int))])
  (fun x=>x.2.2::L) (fun x=>x.1≤t.length∧Ow 5 1 x.2.1 (2 * x.1) (bsv (zab (t.take x.1))) x.2.2) (fun x=>t.length - x.1) (0,_,_) ⟨Nat.zero_le _,ho⟩ iS (fun w h=>h) ?_
 intro x ⟨hx1,hx2⟩
 obtain ⟨k,s,C⟩:=x
 simp only at hx1 hx2 ⊢
 (repeat' first|refine kX ?_|refine kU fun bk=>?_|refine kV fun hc=>?_|refine kZ (fun hc=>?_) fun hc=>?_|fail)
 ·have hlt:k < t.length:=by omega
  obtain ⟨bb,off,cap,cc,bT,bfr,hve,hfn,hcell⟩:=Qe hv.sl hlt
  injection hve with e1 e2 e3
  subst e1 e3
  clear e2
  obtain ⟨x,hx⟩:∃x,x=t.getD k 0:=⟨_,rfl⟩
  rw [←hx] at hcell
  have hxl:=x.toNat_lt
  refine kX ?_
  refine wK ?_ (he:=zq rfl hfn.there hcell)
  refine kX ?_
  refine zk [8,9] mixed ?_
  (refine zx 0 ?_;refine zx 1 ?_;refine zx 2 ?_)
  refine cT 3 rfl rfl (yK (s:=zjE) (j:=x.toNat / 16) rfl rfl (by omega) (zcZ (by omega))) ?_
  (refine zx 4 ?_)
  refine cT 5 rfl rfl (zmj rfl rfl rfl) ?_
  refine cT 6 rfl rfl (yK (s:=zjE) (j:=x.toNat % 16) rfl rfl rfl (zcZ (by omega))) ?_
  refine cI 7 rfl rfl ?_
  refine zl (cs:=bsv (zkb x)) rfl (by rfl) (by simp [zA,patch,Value.cells,zeros];rfl) (by omega) rfl rfl (fun bk=>?_)
  refine ⟨iC,?_⟩
  refine cL 8 rfl rfl rfl ?_
  refine zu rfl rfl hx2 (zF (c:=(bsv (zkb x)).toArray) (xs:=bsv (zkb x)) (m:=2) Fnd.here rfl (by simp)) (by repeat (first|exact Zip.here _|apply Zip.there)) (by rfl) yj (by omega) (by simp [maxLen];omega) rfl (fun v' C' ho1 h1 h2=>?_)
  refine cL 9 rfl rfl rfl ?_
  refine wK ?_
  refine cD ?_
  refine kX ?_
  have e:zab (t.take (k+1))=zab (t.take k)++zkb x:=by
   rw [take_succ 0 hlt,zei,←hx];simp [zab]
  rw [←yt,←e] at ho1
  refine zf (X:=Nat × Value × Chunk) (μ:=fun x=>t.length - x.1) (x:=(k,s,C)) (k+1,v',C') (by simp only;omega) ⟨by simp only;omega,ho1⟩ iS (fun w h=>iH h)
 ·have hk:k=t.length:=by omega
  subst hk
  rw [List.take_length] at hx2
  refine ze (qD (b:=zab t) rfl (qz hx2)) rfl ?_
  refine kX ?_
  refine kR ?_
  exact ⟨L,iC,rfl,rfl⟩
end Go.Proofs.YtemdlifojcgplaaGreatDoor
namespace Go.Vx
open Go
set_option linter.all false
variable [W0]
omit [W0] in
def zbD (fr:Nat × Nat) (n:Nat):Prop:=∀j,j < n→¬(fr.1≤j∧j < fr.2)
theorem zbD.zero (n:Nat):zbD (0,0) n:=fun j _ h=>by simp at h
theorem zbD.behind (n:Nat):zbD (n,n+1) n:=fun j hj h=>by simp at h;omega
omit [W0] in
def OwF (e k:Nat) (v:Value) (m:Nat) (xs:List Value) (C:Chunk):Prop:=
 ∃b cap rest fr,v=.slice (some ⟨b,0,none⟩) m cap∧C=[(b,.cells (xs++rest).toArray e fr)]∧xs.length=m * k∧rest.length=(cap - m) * k∧m≤cap∧cap≤maxLen∧zbD fr (xs++rest).length
theorem zpR {e k m:Nat} {v:Value} {xs:List Value} {C:Chunk} {L:List Chunk} (h:OwF e k v m xs C):Sl (C::L) k v m xs:=by
 obtain ⟨b,cap,rest,fr,rfl,rfl,hxl,hrl,hmc,hcm,hfr⟩:=h
 exact .inr ⟨_,_,rfl,.inr ⟨b,0,_,_,_,rfl,.here,fun j u hj=>by rw [Nat.zero_add];simpa using z8 hj⟩,hxl⟩
theorem setCells_at {b:Nat} {T:TypeId} {fr:Nat × Nat}:∀(vs:List Value) (off:Nat) (c:Array Value) (w:World),w.heap[b]? =some (.cells c T fr)→off+vs.length≤c.size→
 (w.setCells b off vs).heap[b]? =some (.cells (patch c.toList off vs).toArray T fr)
 |[],off,c,w,h,_=>by simpa [World.setCells,patch] using h
 |v::r,off,c,w,h,hf=>by
  simp only [List.length_cons] at hf
  have h1:=setCell_at (off:=off) (v:=v) h
  have h2:=setCells_at r (off+1) _ _ h1 (by simp;omega)
  rw [World.setCells,h2]
  congr 2
  have e:=list_seg_step c.toList off v r (by simp;omega)
  simpa [patch,Array.toList_setIfInBounds,Nat.add_assoc,Nat.add_comm 1] using e
theorem YF {b:Nat}:∀(vs:List Value) (off:Nat) (w:World) (c:Nat),c≠b→(w.setCells b off vs).heap[c]? =w.heap[c]?
 |[],_,_,_,_=>rfl
 |v::r,off,w,c,h=>by
  rw [World.setCells,YF r _ _ _ h,zbn h]
theorem vM {b:Nat}:∀(vs:List Value) (off:Nat) (w:World),(w.setCells b off vs).os=w.os∧(w.setCells b off vs).output=w.output
 |[],_,_=>⟨rfl,rfl⟩
 |v::r,off,w=>by rw [World.setCells];exact vM r _ _
section
variable {P : Program} {n : Nat} {M : List (Nat × Value)} {L : List Chunk} {K : List (Nat × Value) → List Chunk → Prop}
variable {d : Nat} {ty : TypeId} {ps : String} {af : Array Edge} {g : Option (Nat × Bool)} {x y : Operand} {v : Value}
theorem zd0 {s:ByteArray} {cap:Nat}:bytesRow s cap=(bsv s.data.toList++List.replicate (cap - s.size) (Value.int .u8 0)).toArray:=by
 apply Array.ext'
 simp [bytesRow,bsv]
theorem zcA {s t e by_:Nat} [hs:ST P s] [ht:SL P t e 1 by_] [he:IK P e .u8] {str:ByteArray} (hx:ev M x=some (.string str)) (hm:str.size≤maxLen) (hn:Nat.blt d n=true)
 (h:∀v C,OwF e 1 v str.size (bsv str.data.toList) C→K ((d,v)::M) (C::L)):OW P n ⟨some d,.convert s t x,ty,ps,af,g⟩ K M L:=⟨fun a w next Q ha hw hk=>by
 have hr:=run_bytes_of_string (P:=P) w s t e str hs.out (Qz ht.out) he.out
 have hrun:(execOp a.eval ⟨some d,.convert s t x,ty,ps,af,g⟩).run P w=.ok (.value (.slice (some ⟨w.heap.size,0,none⟩) str.size (grownCap w str.size 0 e)))
  (w.drew.alloc (.cells (bytesRow str (grownCap w str.size 0 e)) e ((bytesRow str (grownCap w str.size 0 e)).size,(bytesRow str (grownCap w str.size 0 e)).size+1))):=by
  simp only [execOp,Sem.run_bind,ha.eval hx,hr,Result.andThen_ok,Sem.run_pure]
 unfold Oper.wp
 rw [hrun,Oper.upon_value]
 have hH:=(hw.same (w':=w.drew) rfl rfl rfl).alloc (.cells (bytesRow str (grownCap w str.size 0 e)) e ((bytesRow str (grownCap w str.size 0 e)).size,(bytesRow str (grownCap w str.size 0 e)).size+1))
 rw [zd0] at hH ⊢
 have hge:=grownCap_ge w str.size 0 e
 refine (hk _ _ (h _ _ ⟨w.heap.size,grownCap w str.size 0 e,List.replicate (grownCap w str.size 0 e - str.size) (Value.int .u8 0),(_,_),rfl,rfl,?_,by simp,hge,grownCap_le_maxLen w str.size 0 e hm,?_⟩)).out _ _ (ha.put _ hn) hH
 ·rw [zH,Nat.mul_one];rfl
 ·simp only [List.size_toArray]
  exact zbD.behind _⟩
theorem zfb {t e k by_:Nat} [hs:SL P t e k by_] {z:Value} [hz:ZV P e z] {v r:Value} {m c:Nat} {xs ys:List Value} {C:Chunk} {A B:List Chunk} (hx:ev M x=some v) (hy:ev M y=some r) (hown:OwF e k v m xs C)
 (hsl:Sl L k r c ys) (hzip:Zip C L A B) (hzk:z.cells.size=k) (h1:ones ys=true) (hb:(m+c) * by_≤140737488355328) (h63:m+c≤maxLen)
 (hn:Nat.blt d n=true) (h:∀v' C',OwF e k v' (m+c) (xs++ys) C'→K ((d,v')::M) (A++C'::B)) :
 OW P n ⟨some d,.call ⟨.builtin .append,#[x,y],#[t,t]⟩,ty,ps,af,g⟩ K M L:=⟨fun a w next Q ha hw0 hk=>by
 have hL:=hzip.eq
 subst hL
 have hw:=hw0.perm List.perm_middle
 replace hsl:=hsl.perm (List.perm_middle (a:=C) (l₁:=A) (l₂:=B))
 obtain ⟨ht,i,hi,hik,hib,hk0⟩:=hs.parts
 have hzz:i.zero=some z:=by have:=hz.out;rw [hi] at this;simpa using this
 subst hik hib
 have hsmall:m+c≤9223372036854775807:=by simpa [maxLen] using h63
 obtain ⟨b,cap,rest,fr,rfl,rfl,hxl,hrl,hmc,hcm,hfr⟩:=hown
 have main:∃v' C' w',(Builtin.append_ #[t,t] ty #[.slice (some ⟨b,0,none⟩) m cap,r]).run P w=.ok v' w'∧OwF e i.size v' (m+c) (xs++ys) C'∧Holds w' (C'::(A++B)):=by
  have hfnd:w.heap[b]? =some (.cells (xs++rest).toArray e fr):=(Fnd.here:Fnd ([(b,.cells (xs++rest).toArray e fr)]::(A++B)) b _).get hw
  rcases hsl with ⟨c',rfl,rfl,rfl⟩|⟨a',c',rfl,hrd,hyl⟩
  ·refine ⟨.slice (some ⟨b,0,none⟩) m cap,_,w,?_,⟨b,cap,rest,fr,by simp,rfl,by simpa using hxl,by simpa using hrl,by simpa using hmc,hcm,by simpa using hfr⟩,by simpa using hw⟩
   simp [Builtin.append_,run_underlying ht,sizeOf,typeInfo,hi,Builtin.lenOf,Builtin.firstCells,hmc,storeCells]
  ·by_cases hroom:m+c≤cap
   ·have hlen:m * i.size+ys.length≤(xs++rest).length:=by
     simp only [List.length_append,hxl,hrl,hyl,←Nat.add_mul]
     exact Nat.mul_le_mul_right _ (by omega)
    have hr:=run_append_room_cells (P:=P) (w:=w) t ty e i ht hi b 0 m cap a' c c' ys hyl (hrd.cells hw) (X9 h1) hroom
     (fun j hj=>by rw [cell_of hfnd];simp;simp at hlen;omega)
     (fun j hj=>by
       have:=hfr (0+m * i.size+j) (by omega)
       simp only [World.frozen?,hfnd]
       cases hd:(decide (fr.1≤0+m * i.size+j)&&decide (0+m * i.size+j < fr.2)) with
       |false=>rfl
       |true=>simp at hd;exact absurd (by simpa using hd) this)
    rw [Nat.zero_add] at hr
    have hx1:patch (xs++rest).toArray.toList (m * i.size) ys=(xs++ys)++rest.drop ys.length:=by
     simp only [List.toList_toArray,patch]
     rw [←hxl,List.take_left]
     congr 1
     rw [List.drop_append]
     simp
    have hat:=setCells_at (T:=e) (fr:=fr) ys (m * i.size) _ w hfnd (by simpa using hlen)
    rw [hx1] at hat
    refine ⟨_,[(b,.cells ((xs++ys)++rest.drop ys.length).toArray e fr)],_,hr,⟨b,cap,rest.drop ys.length,fr,rfl,rfl,?_,?_,hroom,hcm,?_⟩,?_⟩
    ·rw [List.length_append,hxl,hyl,Nat.add_mul]
    ·rw [List.length_drop,hrl,hyl,←Nat.sub_mul];congr 1;omega
    ·intro j hj
     refine hfr j ?_
     simp at hj hlen ⊢
     omega
    ·exact hw.upd .here hat (fun q hq=>YF _ _ _ _ hq) (vM _ _ _).1 (vM _ _ _).2
   ·have hrd0:zK ([(b,.cells (xs++rest).toArray e fr)]::(A++B)) ⟨b,0,none⟩ xs:=.inr ⟨b,0,_,_,_,rfl,.here,fun j u hj=>by rw [Nat.zero_add];simpa using z8 hj⟩
    have hr:=run_append_grow (P:=P) w t ty e i z ht hi hzz ⟨b,0,none⟩ m cap xs hxl (hrd0.cells hw) a' c c' ys hyl (hrd.cells hw) (by omega) (by omega) (growslice_fits (by omega) hb)
    refine ⟨_,[(w.heap.size,.cells ((xs++ys)++(Builtin.zeroCells z.cells (grownCap w (m+c) cap e - (m+c))).toList).toArray e (0,0))],_,hr,⟨w.heap.size,_,_,(0,0),rfl,rfl,?_,?_,grownCap_ge w (m+c) cap e,grownCap_le_maxLen w (m+c) cap e h63,zbD.zero _⟩,?_⟩
    ·rw [List.length_append,hxl,hyl,Nat.add_mul]
    ·simp [size_zeroCells,hzk]
    ·have h0:=(hw.drop.same (w':=w.drew) rfl rfl rfl).alloc (.cells (xs.toArray++ys.toArray++Builtin.zeroCells z.cells (grownCap w (m+c) cap e - (m+c))) e)
     have e1:(xs++ys++(Builtin.zeroCells z.cells (grownCap w (m+c) cap e - (m+c))).toList).toArray=xs.toArray++ys.toArray++Builtin.zeroCells z.cells (grownCap w (m+c) cap e - (m+c)):=by
      apply Array.ext';simp
     rw [e1];exact h0
 obtain ⟨v',C',w',hr,ho,hw'⟩:=main
 unfold Oper.wp
 have hrun:(execOp a.eval ⟨some d,.call ⟨.builtin .append,#[x,y],#[t,t]⟩,ty,ps,af,g⟩).run P w=.ok (.value v') w':=by
  simp only [execOp,resolve,invoke,builtin,Sem.run_bind,Sem.run_pure,Result.andThen_ok,List.map_toArray,List.map_cons,List.map_nil,ha.eval hx,ha.eval hy,hr]
 rw [hrun,Oper.upon_value]
 exact (hk _ _ (h v' C' ho)).out _ _ (ha.put v' hn) (hw'.perm List.perm_middle.symm)⟩
end
end Go.Vx
namespace Go.Proofs.YtemdlifojcgplaaGreatDoor
open Go Go.Vx
variable [W0]
set_option maxRecDepth 4000
set_option linter.all false
omit [W0] in
def str (t:List UInt8):ByteArray:=⟨t.toArray⟩
theorem yE (t:List UInt8):(str t).size=t.length:=rfl
theorem Ye {t:List UInt8} {k:Nat} (h:k < t.length):(str t)[k]? =some (t.getD k 0):=by
 show (str t).data[k]? =_
 simp [str,List.getD,h]
theorem zeV (t:List UInt8):(str t).data.toList=t:=rfl
theorem zfY (t:List UInt8) (L:List Chunk) (hlen:t.length < 576460752303423488) :
 GvP Tryz.prog 66 [.string (str t)].toArray L (w32 (Ql (uO (1#32,0#32) t))):=by
 refine Gv.of_body Tryz.func66 rfl rfl ?_
 refine kX ?_
 refine zn (X:=Nat) (fun k=>[(0,.string (str t)),(3,w32 (uO (1#32,0#32) (t.take k)).1),(4,w32 (uO (1#32,0#32) (t.take k)).2),(5,.int .i64 (k:Int))])
  (fun k=>L) (fun k=>k≤t.length) (fun k=>t.length - k) 0 (Nat.zero_le _) iS (fun w h=>h) ?_
 intro k hk
 replace hk:k≤t.length:=hk
 (repeat' first|refine kX ?_|refine kU fun bk=>?_|refine kV fun hc=>?_|refine kZ (fun hc=>?_) fun hc=>?_|fail)
 ·rw [yE] at hc
  have hlt:k < t.length:=by omega
  refine ze (yK (s:=str t) rfl rfl rfl (Ye hlt)) rfl ?_
  refine kX ?_
  refine zf (X:=Nat) (J:=fun k=>k≤t.length) (μ:=fun k=>t.length - k) (x:=k) (k+1) (by omega) (show k+1≤t.length by omega) ?_ (fun w h=>h)
  rw [take_succ 0 hlt,zbR]
  exact iS
 ·rw [yE] at hc
  have hk:k=t.length:=by omega
  subst hk
  rw [List.take_length]
  refine kR ?_
  exact ⟨L,iC,rfl,rfl⟩
end Go.Proofs.YtemdlifojcgplaaGreatDoor
