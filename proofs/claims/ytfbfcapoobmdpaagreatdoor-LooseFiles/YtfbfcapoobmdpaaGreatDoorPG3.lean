/- Contracts and facts on the way to the top. It proves no statement by itself. No conditions. -/
import Derived.Test.YtfbfcapoobmdpaaGreatDoorPG2
set_option maxHeartbeats 16000000
namespace Go.Vx
open Go
set_option linter.all false
variable [W0]
section
variable {P : Program} {ops : Array Oper} {Q : Exit → Act → World → Prop} {md : Region.Mode} {S : World → Prop} {T : List Nat}
theorem zbJ {i:Nat} {oi:Oper} {v:Value} (hi:ops[i]? =some oi) (hsel:∀(j:Nat) (o:Oper) cs b,ops[j]? =some o→o.op≠.select cs b)
 (hQ:∀c a w,Q (.panic c) (a.put oi.dst v) w→Q (.panic c) a w) :
 ∀(fuel:Nat) (listed:Array Bool) (a:Act) (w:World),(∀j∈T,j≠i→listed.getD j false=true∨∃f,zbF md ops i f j=true)→
  (∀j oj,ops[j]? =some oj→j≠i→listed.getD j true=false→(∀e∈oj.after,Region.binds md e=true→e.on≠i)→oi.apart ops oj=true)→DC md ops listed→
  i∈Region.ready md ops listed→YieldsIf P ops S oi v a→S w→
  Yf P md ops Q S T fuel (listed.setIfInBounds i true) (a.put oi.dst v) w→Yf P md ops Q S T (fuel+1) listed a w:=by
 intro fuel
 induction fuel with
 |zero=>
  intro listed a w _ _ _ hr hy hS H
  refine ⟨fun h=>(by rw [h] at hr;cases hr),fun j hj=>?_⟩
  by_cases hji:j=i
  ·subst hji;exact hy.wpOp hi hS ⟨fun _=>hS,H⟩
  ·have:=ready_mono hj hji
   rw [H.1] at this
   cases this
 |succ fuel ih=>
  intro listed a w hT hfree hdc hr hy hS H
  refine ⟨fun h=>(by rw [h] at hr;cases hr),fun j hj=>?_⟩
  by_cases hji:j=i
  ·subst hji;exact hy.wpOp hi hS ⟨fun _=>hS,H⟩
  ·have h1:=H.2 j (ready_mono hj hji)
   obtain ⟨hjun,oj,hoj,hall⟩:=mem_ready.1 hj
   have hun:=(mem_ready.1 hr).1
   have hnot:∀e∈oj.after,Region.binds md e=true→e.on≠i:=fun e he hb heq=>by
    have h1:=hall e he hb
    rw [heq] at h1
    exact vD hun h1
   have hnT:j∉T:=fun hm=>by
    rcases hT j hm hji with hl|⟨f,hf⟩
    ·exact vD hjun hl
    ·exact vD hun (zbR hdc f j oj hf hoj hall)
   have h2:=wpOp_putIf hoj (hfree j oj hoj hji hjun hnot) (fun cs b=>hsel i oi cs b hi) (fun cs b=>hsel j oj cs b hoj) hQ hy h1
   have hfree':∀k ok,ops[k]? =some ok→k≠i→(listed.setIfInBounds j true).getD k true=false→
    (∀e∈ok.after,Region.binds md e=true→e.on≠i)→oi.apart ops ok=true:=fun k ok hk hki hun hno=>by
    refine hfree k ok hk hki ?_ hno
    by_cases hjk:j=k
    ·subst hjk;exact hjun
    ·rw [getD_set_ne true hjk] at hun;exact hun
   have hT':∀k∈T,k≠i→(listed.setIfInBounds j true).getD k false=true∨∃f,zbF md ops i f k=true:=fun k hk hki=>(hT k hk hki).imp getD_set_true id
   refine wpOp_mono (fun a' w' h3=>⟨fun _=>h3.2.1 hnT,ih (listed.setIfInBounds j true) a' w' hT' hfree' (hdc.set hj) (ready_mono hr (Ne.symm hji)) h3.1 (h3.2.1 hnT) ?_⟩) h2
   rw [Array.setIfInBounds_comm _ _ hji]
   exact h3.2.2
theorem zdF {i:Nat} {oi:Oper} {v:Value} (hi:ops[i]? =some oi) (hsel:∀(j:Nat) (o:Oper) cs b,ops[j]? =some o→o.op≠.select cs b)
 (hQ:∀c a w,Q (.panic c) (a.put oi.dst v) w→Q (.panic c) a w) (hiT:i∈T) :
 ∀(fuel:Nat) (listed:Array Bool) (a:Act) (w:World),
  (∀j oj,ops[j]? =some oj→j≠i→listed.getD j true=false→(∀e∈oj.after,Region.binds md e=true→e.on≠i)→oi.apart ops oj=true)→DC md ops listed→
  i∈Region.ready md ops listed→YieldsIf P ops (fun _=>True) oi v a→
  Yf P md ops Q S T fuel (listed.setIfInBounds i true) (a.put oi.dst v) w→Yf P md ops Q S T (fuel+1) listed a w:=by
 intro fuel
 induction fuel with
 |zero=>
  intro listed a w _ _ hr hy H
  refine ⟨fun h=>(by rw [h] at hr;cases hr),fun j hj=>?_⟩
  by_cases hji:j=i
  ·subst hji;exact hy.wpOp hi trivial ⟨fun hn=>absurd hiT hn,H⟩
  ·have:=ready_mono hj hji
   rw [H.1] at this
   cases this
 |succ fuel ih=>
  intro listed a w hfree hdc hr hy H
  refine ⟨fun h=>(by rw [h] at hr;cases hr),fun j hj=>?_⟩
  by_cases hji:j=i
  ·subst hji;exact hy.wpOp hi trivial ⟨fun hn=>absurd hiT hn,H⟩
  ·have h1:=H.2 j (ready_mono hj hji)
   obtain ⟨hjun,oj,hoj,hall⟩:=mem_ready.1 hj
   have hun:=(mem_ready.1 hr).1
   have hnot:∀e∈oj.after,Region.binds md e=true→e.on≠i:=fun e he hb heq=>by
    have h1:=hall e he hb
    rw [heq] at h1
    exact vD hun h1
   have h2:=wpOp_putIf hoj (hfree j oj hoj hji hjun hnot) (fun cs b=>hsel i oi cs b hi) (fun cs b=>hsel j oj cs b hoj) hQ hy h1
   have hfree':∀k ok,ops[k]? =some ok→k≠i→(listed.setIfInBounds j true).getD k true=false→
    (∀e∈ok.after,Region.binds md e=true→e.on≠i)→oi.apart ops ok=true:=fun k ok hk hki hun hno=>by
    refine hfree k ok hk hki ?_ hno
    by_cases hjk:j=k
    ·subst hjk;exact hjun
    ·rw [getD_set_ne true hjk] at hun;exact hun
   refine wpOp_mono (fun a' w' h3=>⟨h3.2.1,ih (listed.setIfInBounds j true) a' w' hfree' (hdc.set hj) (ready_mono hr (Ne.symm hji)) h3.1 ?_⟩) h2
   rw [Array.setIfInBounds_comm _ _ hji]
   exact h3.2.2
end
omit [W0] in
def zgc (ops:List Oper) (T:List Nat) (listed:Array Bool) (i:Nat):Bool:=
 Region.noSelect ops.toArray&&Region.free .any ops.toArray listed i&&(Region.ready .any ops.toArray listed).contains i&&dcB .any ops.toArray listed
  &&T.all fun j=>j == i||listed.getD j false||zbF .any ops.toArray i ops.length j
omit [W0] in
def zgd (ops:List Oper) (T:List Nat) (listed:Array Bool) (i:Nat):Bool:=
 Region.noSelect ops.toArray&&Region.free .any ops.toArray listed i&&(Region.ready .any ops.toArray listed).contains i&&dcB .any ops.toArray listed&&T.contains i
section
variable {P : Program} {n : Nat} {Q : Exit → Act → World → Prop} {M : List (Nat × Value)} {L S : List Chunk} {ops : List Oper} {T : List Nat} {fuel : Nat} {listed : Array Bool} {d : Nat} {v : Value}
theorem yB (i:Nat) {o:Oper} (hi:ops[i]? =some o) (hg:o.guard=none) (hb:zgc ops T listed i=true) (hPO:PO Q) (hinc:Inc S L) (he:EV P n o M S d v) (hn:Nat.blt d n=true)
 (h:WR P n ops Q S T fuel (listed.setIfInBounds i true) ((d,v)::M) L):WR P n ops Q S T (fuel+1) listed M L:=⟨fun a w ha hw=>by
 simp only [zgc,Bool.and_eq_true,List.all_eq_true,Bool.or_eq_true,beq_iff_eq] at hb
 obtain ⟨⟨⟨⟨h1,h2⟩,h3⟩,h4⟩,h5⟩:=hb
 have hi':ops.toArray[i]? =some o:=by simpa using hi
 refine zbJ hi' (Region.noSelect_spec h1) (fun c a w hq=>hPO.out c a _ _ w hq) fuel listed a w (fun j hj hne=>?_) (Region.free_spec hi' h2) (DC.of h4) (by simpa using h3) (.inl ⟨by simp [Region.wanted,hg],fun w hw=>he.run a w ha hw⟩) (hinc.holds hw) ?_
 ·rcases h5 j hj with (h|h)|h
  ·exact absurd h hne
  ·exact .inl h
  ·exact .inr ⟨_,h⟩
 ·rw [he.dst]
  exact h.out _ w (ha.put v hn) hw⟩
structure EF (P:Program) (n:Nat) (o:Oper) (M:List (Nat × Value)) (d:Nat) (v:Value):Prop where
 dst:o.dst=some d
 run:∀a w,St n M a→(execOp a.eval o).run P w=.ok (.value v) w
theorem ziU (i:Nat) {o:Oper} (hi:ops[i]? =some o) (hg:o.guard=none) (hb:zgd ops T listed i=true) (hPO:PO Q) (he:EF P n o M d v) (hn:Nat.blt d n=true)
 (h:WR P n ops Q S T fuel (listed.setIfInBounds i true) ((d,v)::M) L):WR P n ops Q S T (fuel+1) listed M L:=⟨fun a w ha hw=>by
 simp only [zgd,Bool.and_eq_true] at hb
 obtain ⟨⟨⟨⟨h1,h2⟩,h3⟩,h4⟩,h5⟩:=hb
 have hi':ops.toArray[i]? =some o:=by simpa using hi
 refine zdF hi' (Region.noSelect_spec h1) (fun c a w hq=>hPO.out c a _ _ w hq) (by simpa using h5) fuel listed a w (Region.free_spec hi' h2) (DC.of h4) (by simpa using h3) (.inl ⟨by simp [Region.wanted,hg],fun w _=>he.run a w ha⟩) ?_
 rw [he.dst]
 exact h.out _ w (ha.put v hn) hw⟩
variable {ty : TypeId} {ps : String} {af : Array Edge} {g : Option (Nat × Bool)} {x y : Operand}
theorem zmg (hx:ev M x=some v):EF P n ⟨some d,.move x,ty,ps,af,g⟩ M d v:=⟨rfl,fun a w ha=>by simp [execOp,ha.eval hx]⟩
theorem ziy {op:BinOp} {t u:TypeId} {i j r:Int} (hx:ev M x=some (.int .i64 i)) (hy:ev M y=some (.int .i64 j)) (hb:zdP op i j=some r) (h1: -9223372036854775808≤r∧r≤9223372036854775807) :
 EF P n ⟨some d,.binOp op t x y u,ty,ps,af,g⟩ M d (.int .i64 r):=⟨rfl,fun a w ha=>by
 have hw:=wrap_i64 h1.1 h1.2
 cases op<;>simp [zdP] at hb<;>subst hb<;>simp [execOp,ha.eval hx,ha.eval hy,eqGuard,binOp,Op.intArith,hw]⟩
theorem Zx {X:Type} {x y:Code} (MI:X→List (Nat × Value)) (LI:X→List Chunk) (J:X→Prop) (h1:WC P n x (Exit.then (fun a' w'=>∃z,J z∧St n (MI z) a'∧Holds w' (LI z)) Q) M L) (h2:∀z,J z→WC P n y Q (MI z) (LI z)):WC P n (.seq x y) Q M L:=⟨fun a w ha hw=>by
 refine wp_seq (wp_mono (h1.out a w ha hw) ?_)
 intro e a' w' hq
 cases e with
 |normal=>
  obtain ⟨z,hz,hs,hw'⟩:=hq
  exact (h2 z hz).out a' w' hs hw'
 |exit id=>exact hq
 |goto l=>exact hq
 |ret=>exact hq
 |panic c=>exact hq
 |outgrown=>exact hq⟩
theorem yA {X:Type} {MI:X→List (Nat × Value)} {LI:X→List Chunk} {J:X→Prop} (z:X) (hJ:J z) (hM:Sub (MI z) M) (hL:∀w,Holds w L→Holds w (LI z)):WQ n (fun a' w'=>∃z,J z∧St n (MI z) a'∧Holds w' (LI z)) M L:=⟨fun _ w ha hw=>⟨z,hJ,ha.sub hM,hL w hw⟩⟩
theorem yU (i:Nat) {o:Oper} (h:WR P n ops Q S T fuel (listed.setIfInBounds i true) ((d,v)::M) L)
 (hi:ops[i]? =some o:=by exact rfl) (hg:o.guard=none:=by exact rfl) (hb:zgc ops T listed i=true:=by kernel_rfl) (hPO:PO Q:=by exact iP) (hinc:Inc S L:=by exact iC) (he:EV P n o M S d v:=by exact (by first|(show EV _ _ ⟨_,.move _,_,_,_,_⟩ _ _ _ _;first|exact ZN rfl)|(show EV _ _ ⟨_,.assign _,_,_,_,_⟩ _ _ _ _;first|exact yP rfl)|(show EV _ _ ⟨_,.nilCheck _,_,_,_,_⟩ _ _ _ _;first|exact qX rfl)|(show EV _ _ ⟨_,.fieldAddr ..,_,_,_,_⟩ _ _ _ _;first|exact qm rfl|exact yH rfl)|(show EV _ _ ⟨_,.load ..,_,_,_,_⟩ _ _ _ _;first|exact zx rfl (by repeat (first|assumption|exact Fnd.here|refine Fnd.there ?_)) rfl|exact qV rfl (by repeat (first|assumption|exact Fnd.here|refine Fnd.there ?_)) rfl)|(show EV _ _ ⟨_,.binOp ..,_,_,_,_⟩ _ _ _ _;first|exact Xi rfl rfl rfl|exact qR rfl rfl rfl (by omega)|exact ZP rfl rfl (by decide) (Z9 (by omega) (by simp [IntKind.bits];rfl))|exact uy rfl rfl|exact Zb rfl rfl|exact Za rfl rfl|exact qo rfl rfl|exact qp rfl rfl|exact qY rfl rfl|exact qZ rfl rfl|exact vO rfl rfl|exact vP rfl rfl)|(show EV _ _ ⟨_,.convert ..,_,_,_,_⟩ _ _ _ _;first|exact zO rfl (wrap_i64 (by omega) (by omega))|exact zO rfl (wrap_u64 (by omega) (by omega))|exact zO rfl rfl)|(show EV _ _ ⟨_,.extract ..,_,_,_,_⟩ _ _ _ _;first|exact w9 rfl rfl)|(show EV _ _ ⟨_,.unOp ..,_,_,_,_⟩ _ _ _ _;first|exact Xl rfl)|(show EV _ _ ⟨_,.pick ..,_,_,_,_⟩ _ _ _ _;first|exact ZO rfl rfl)|(show EV _ _ ⟨_,.call ⟨.builtin .len,_,_⟩,_,_,_,_⟩ _ _ _ _;first|exact u7 rfl|exact vQ rfl)|(show EV _ _ ⟨_,.call ⟨.builtin .cap,_,_⟩,_,_,_,_⟩ _ _ _ _;first|exact u6 rfl)|(show EV _ _ ⟨_,.call ⟨.builtin .min,_,_⟩,_,_,_,_⟩ _ _ _ _;first|exact Xk rfl rfl)|(show EV _ _ ⟨_,.call ⟨.builtin .max,_,_⟩,_,_,_,_⟩ _ _ _ _;first|exact Xj rfl rfl)|(show EV _ _ ⟨_,.makeInterface ..,_,_,_,_⟩ _ _ _ _;first|exact yM rfl)|(show EV _ _ ⟨_,.makeFunc ..,_,_,_,_⟩ _ _ _ _;first|exact qW rfl rfl)|(show EV _ _ ⟨_,.typeAssert ..,_,_,_,_⟩ _ _ _ _;first|exact qB rfl|exact qU rfl rfl)|(show EV _ _ ⟨_,.build ..,_,_,_,_⟩ _ _ _ _;first|exact uo rfl (by simp [zA,patch,Value.cells];rfl)))) (hn:Nat.blt d n=true:=by exact rfl) :
 WR P n ops Q S T (fuel+1) listed M L:=yB i hi hg hb hPO hinc he hn h
theorem Qj (i:Nat) {o:Oper} (h:WR P n ops Q S T fuel (listed.setIfInBounds i true) ((d,v)::M) L)
 (hi:ops[i]? =some o:=by exact rfl) (hg:o.guard=none:=by exact rfl) (hb:zgd ops T listed i=true:=by kernel_rfl) (hPO:PO Q:=by exact iP) (he:EF P n o M d v:=by first|exact zmg rfl|exact ziy rfl rfl rfl (by omega)) (hn:Nat.blt d n=true:=by exact rfl) :
 WR P n ops Q S T (fuel+1) listed M L:=ziU i hi hg hb hPO he hn h
end
end Go.Vx
namespace Go.If
open Go.Vx Go.Hf
set_option linter.all false
structure S6 where
 t:Nat
 out:List UInt8
 e:Nat
def fl (s:S6) (k:Nat):S6:=if s.e=0 then ⟨s.t,s.out,k⟩ else s
def tk (d:List UInt8) (s:S6) (n:Nat):S6:=if s.t+n≤8 * d.length then ⟨s.t+n,s.out,s.e⟩ else fl s 4
def tv [W0] (d:List UInt8) (s:S6) (n:Nat):Nat:=if s.t+n≤8 * d.length then val d / 2 ^ s.t % 2 ^ n else 0
def pt (most:Nat) (s:S6) (c:UInt8):S6:=if most≤s.out.length then fl s 5 else ⟨s.t,s.out++[c],s.e⟩
def sy [W0] (d:List UInt8) (s:S6) (l:List Nat):S6:=if s.e=0 then fl ⟨s.t+(rdS l (val d) s.t (8 * d.length) 16 0).2.2,s.out,s.e⟩ (rdS l (val d) s.t (8 * d.length) 16 0).2.1 else s
def sv [W0] (d:List UInt8) (s:S6) (l:List Nat):Nat:=if s.e=0 then (rdS l (val d) s.t (8 * d.length) 16 0).1 else 0
theorem vU (s:S6) (k:Nat):(fl s k).t=s.t:=by unfold fl;split<;>rfl
theorem ql (s:S6) (k:Nat):(fl s k).out=s.out:=by unfold fl;split<;>rfl
theorem ZC (s:S6) (k:Nat):(fl s k).e=if s.e=0 then k else s.e:=by unfold fl;split<;>rfl
theorem yw (d:List UInt8) (s:S6) (n:Nat):(tk d s n).out=s.out:=by
 unfold tk
 split
 ·rfl
 ·exact ql _ _
end Go.If
namespace Go.Proofs.YtfbfcapoobmdpaaGreatDoor
open Go Go.Vx Go.Hf Go.If
variable [W0]
set_option maxRecDepth 4000
set_option linter.all false
theorem wU (d:List UInt8) (s:S6) (n:Nat):tv d s n < 2 ^ n:=by
 unfold tv
 split
 ·exact Nat.mod_lt _ (Nat.pow_pos (by decide))
 ·exact Nat.pow_pos (by decide)
end Go.Proofs.YtfbfcapoobmdpaaGreatDoor
namespace Go.If
open Go.Vx Go.Hf
set_option linter.all false
def stL [W0] (d:List UInt8) (most:Nat):Nat→S6→S6
 |0,s=>s
 |k+1,s=>if s.e=0 then stL d most k (if (tk d s 8).e=0 then pt most (tk d s 8) (UInt8.ofNat (tv d s 8)) else tk d s 8) else s
def stS [W0] (d:List UInt8) (most:Nat) (s:S6):S6:=
 let s0:S6:=⟨8 * ((s.t+7) / 8),s.out,s.e⟩
 let s1:=tk d s0 16
 let s2:=tk d s1 16
 stL d most (tv d s0 16) (if tv d s0 16+tv d s1 16=65535 then s2 else fl s2 3)
theorem zhR {n m:Nat} (h:n+m=65535):n&&&m=0:=by
 have e:m=2 ^ 16 - (n+1):=by omega
 apply Nat.eq_of_testBit_eq
 intro i
 rw [Nat.testBit_and,e,Nat.testBit_two_pow_sub_succ (by omega),Nat.zero_testBit]
 rcases Nat.testBit n i with _|_<;>simp
theorem zeA (most:Nat) (s:S6) (c:UInt8):(pt most s c).t=s.t:=by
 unfold pt
 split
 ·exact vU _ _
 ·rfl
end Go.If
namespace Go.Proofs.YtfbfcapoobmdpaaGreatDoor
open Go Go.Vx Go.Hf Go.If
variable [W0]
set_option maxRecDepth 4000
set_option linter.all false
theorem QF {n:Nat} (h:n < 65536):IntKind.i64.wrap (n:Int)=(n:Int):=by
 simp only [IntKind.wrap,IntKind.bits,IntKind.signed]
 simp
 omega
theorem Qm {a b:Nat} (ha:a < 65536) (hb:b < 65536):zcM .and .i64 (a:Int) (b:Int)=some ((a&&&b:Nat):Int):=by
 have h1:a&&&b≤a:=Nat.and_le_left
 have e:((BitVec.ofInt 64 (a:Int)&&&BitVec.ofInt 64 (b:Int)).toNat)=a&&&b:=by
  rw [BitVec.toNat_and,BitVec.ofInt_natCast,BitVec.ofInt_natCast,BitVec.toNat_ofNat,BitVec.toNat_ofNat,Nat.mod_eq_of_lt (by omega),Nat.mod_eq_of_lt (by omega)]
 show some (IntKind.i64.wrap (((BitVec.ofInt 64 (a:Int)&&&BitVec.ofInt 64 (b:Int)).toNat:Nat):Int))=_
 rw [e]
 congr 1
 exact QF (by omega)
theorem byte_of {n:Nat} (h:n < 256):((UInt8.ofNat n).toNat:Int)=(n:Int):=by
 rw [UInt8.toNat_ofNat']
 omega
end Go.Proofs.YtfbfcapoobmdpaaGreatDoor
namespace Go.If
open Go.Vx Go.Hf Go.Pm
set_option linter.all false
def exB (s g st:Nat):Nat:=if s < st then 0 else (s - st) / g+1
def baB (first g st:Nat):Nat→Nat
 |0=>first
 |s+1=>baB first g st s+2 ^ exB s g st
def fxN (i:Nat):Nat:=if 256≤i∧i < 280 then 7 else if 144≤i∧i < 256 then 9 else 8
def fxL:List Nat:=(List.range 288).map fxN
def fxD:List Nat:=List.replicate 32 5
def sgl (l:List Nat):Bool:=l.all (fun x=>decide (x≤1))&&decide (l.sum < 2)
end Go.If
namespace Go.If
open Go.Vx Go.Hf
set_option linter.all false
def cpL (most far:Nat):Nat→S6→S6
 |0,s=>s
 |k+1,s=>if s.e=0 then cpL most far k (pt most s (s.out.getD (s.out.length - far) 0)) else s
def lnB (s:Nat):Nat × Nat:=if s=285 then (258,0) else (baB 3 4 8 (s - 257),exB (s - 257) 4 8)
def mtD [W0] (d:List UInt8) (most n t:Nat) (s:S6):S6:=
 cpL most (baB 1 2 4 t+tv d s (exB t 2 4)) n (if (tk d s (exB t 2 4)).e=0∧(tk d s (exB t 2 4)).out.length < baB 1 2 4 t+tv d s (exB t 2 4) then fl (tk d s (exB t 2 4)) 3 else tk d s (exB t 2 4))
def mtS [W0] (d:List UInt8) (most k:Nat) (dl:List Nat) (s:S6):S6:=
 if 285 < k then fl s 3
 else if (sy d (tk d s (lnB k).2) dl).e≠0 then sy d (tk d s (lnB k).2) dl
 else if 29 < sv d (tk d s (lnB k).2) dl then fl (sy d (tk d s (lnB k).2) dl) 3
 else mtD d most ((lnB k).1+tv d s (lnB k).2) (sv d (tk d s (lnB k).2) dl) (sy d (tk d s (lnB k).2) dl)
theorem zo2:∀t,t < 30→baB 1 2 4 t≤32768:=by decide
theorem zjO:∀t,t < 30→exB t 2 4≤13:=by decide
theorem ziZ:∀t,t < 30→baB 3 4 8 t≤400:=by decide
theorem zfr:∀t,t < 30→exB t 4 8≤6:=by decide
theorem zgt:∀t,1≤baB 1 2 4 t
 |0=>Nat.le_refl _
 |t+1=>by
  have:=zgt t
  have h2:0 < 2 ^ exB t 2 4:=Nat.pow_pos (by decide)
  unfold baB
  omega
end Go.If
namespace Go.Proofs.YtfbfcapoobmdpaaGreatDoor
open Go Go.Vx Go.Hf Go.If
variable [W0]
set_option maxRecDepth 4000
set_option linter.all false
theorem Zh (l:List Nat):nl (icn l)=l:=by simp [nl,icn,Function.comp_def]
theorem zbt (d:List UInt8) (s:S6) (l:List Nat):(sy d s l).out=s.out:=by
 unfold sy
 split
 ·exact ql _ _
 ·rfl
end Go.Proofs.YtfbfcapoobmdpaaGreatDoor
namespace Go.Hf
open Go.Vx
set_option linter.all false
theorem zeY {l:List Nat} {n v i:Nat} (h:Zk l n v=some i):i < l.length∧0 < n:=by
 have h1:=List.mem_of_find?_eq_some h
 have h2:=List.find?_some h
 exact ⟨List.mem_range.1 h1,(zao.1 h2).2.1⟩
theorem zdq (l:List Nat) (w t z:Nat):∀f n,(rdS l w t z f n).1≤l.length∧((rdS l w t z f n).2.1=0→1≤(rdS l w t z f n).2.2)
 |0,n=>⟨Nat.zero_le _,fun h=>by simp [rdS] at h⟩
 |f+1,n=>by
  have ih:=zdq l w t z f (n+1)
  unfold rdS
  split
  ·rename_i i h
   have:=zeY h
   exact ⟨by simp only;omega,fun _=>this.2⟩
  ·split
   ·exact ⟨Nat.zero_le _,fun h=>by simp at h⟩
   ·split
    ·exact ⟨Nat.zero_le _,fun h=>by simp at h⟩
    ·exact ih
end Go.Hf
namespace Go.If
open Go.Vx Go.Hf
set_option linter.all false
def cdC [W0] (d:List UInt8) (most:Nat) (l dl:List Nat):Nat→S6→S6
 |0,s=>s
 |f+1,s=>if s.e≠0 then s else if (sy d s l).e≠0 then sy d s l else if sv d s l < 256 then cdC d most l dl f (pt most (sy d s l) (UInt8.ofNat (sv d s l)))
   else if sv d s l=256 then sy d s l else cdC d most l dl f (mtS d most (sv d s l) dl (sy d s l))
theorem zai [W0] {d:List UInt8} {most:Nat} {l dl:List Nat} {s:S6} (h:s.e≠0):∀f,cdC d most l dl f s=s
 |0=>rfl
 |f+1=>by rw [cdC,if_pos h]
theorem zqg (d:List UInt8) (s:S6) (n:Nat):s.t≤(tk d s n).t:=by
 unfold tk
 split
 ·exact Nat.le_add_right _ _
 ·rw [vU];exact Nat.le_refl _
theorem zrc [W0] (d:List UInt8) (s:S6) (l:List Nat):s.t≤(sy d s l).t:=by
 unfold sy
 split
 ·rw [vU];exact Nat.le_add_right _ _
 ·exact Nat.le_refl _
theorem zoO [W0] {d:List UInt8} {s:S6} {l:List Nat} (h0:s.e=0) (h1:(sy d s l).e=0):s.t+1≤(sy d s l).t:=by
 unfold sy at h1 ⊢
 rw [if_pos h0] at h1 ⊢
 rw [vU]
 rw [ZC,if_pos h0] at h1
 have:=(zdq l (val d) s.t (8 * d.length) 16 0).2 h1
 simp only
 omega
theorem zoN [W0] (d:List UInt8) (s:S6) (l:List Nat):sv d s l≤l.length:=by
 unfold sv
 split
 ·exact (zdq l _ _ _ _ _).1
 ·exact Nat.zero_le _
theorem zou (most far:Nat):∀n s,(cpL most far n s).t=s.t
 |0,s=>rfl
 |n+1,s=>by
  unfold cpL
  split
  ·rw [zou most far n]
   unfold pt
   split
   ·exact vU _ _
   ·rfl
  ·rfl
theorem zoC [W0] (d:List UInt8) (most k:Nat) (dl:List Nat) (s:S6):s.t≤(mtS d most k dl s).t:=by
 unfold mtS
 have h1:=zqg d s (lnB k).2
 have h2:=zrc d (tk d s (lnB k).2) dl
 generalize tk d s (lnB k).2=s1 at h1 h2 ⊢
 generalize sy d s1 dl=s2 at h2 ⊢
 split
 ·rw [vU];exact Nat.le_refl _
 ·split
  ·omega
  ·split
   ·rw [vU];omega
   ·unfold mtD
    have h3:=zqg d s2 (exB (sv d s1 dl) 2 4)
    rw [zou]
    split
    ·rw [vU];omega
    ·omega
end Go.If
namespace Go.Proofs.YtfbfcapoobmdpaaGreatDoor
open Go Go.Vx Go.Hf Go.If
variable [W0]
set_option maxRecDepth 4000
set_option linter.all false
theorem zhS (p t:Nat) (v:Value) (L:List Chunk) (ht:t≤1125899906842624) :
 Gv Tryz.prog 136 [.pointer (some ⟨p,0,none⟩)].toArray ([(p,cl [v,.int .i64 (t:Int)] 151)]::L) (fun r L'=>r=.tuple #[]∧L'=[(p,cl [v,.int .i64 ((8 * ((t+7) / 8):Nat):Int)] 151)]::L):=by
 refine Gv.of_body Tryz.func136 rfl rfl ?_
 refine kW ?_
 refine ze (uN (t+7) 8 rfl rfl (by omega) rfl (by decide) (by omega)) rfl ?_
 refine kW ?_
 rw [show (((t+7) / 8:Nat):Int) * 8=((8 * ((t+7) / 8):Nat):Int) from by omega]
 skip
 refine kR ?_
 exact ⟨_,iC,rfl,rfl⟩
theorem zja (p t n:Nat) (fa:Option Addr) (fc:Nat) (d:List UInt8) (L:List Chunk) (hv:Sl L 1 (.slice fa d.length fc) d.length (bsv d)) (hl:d.length≤140737488355328) (ht:t≤8 * d.length) (hn:n≤32) :
 Gv Tryz.prog 135 [.pointer (some ⟨p,0,none⟩),.int .i64 (n:Int)].toArray ([(p,cl [.slice fa d.length fc,.int .i64 (t:Int)] 151)]::L) (fun r L'=>
  (t+n≤8 * d.length∧r=.tuple #[.int .u32 ((val d / 2 ^ t % 2 ^ n:Nat):Int),.bool true]∧L'=[(p,cl [.slice fa d.length fc,.int .i64 ((t+n:Nat):Int)] 151)]::L)∨
  (¬t+n≤8 * d.length∧r=.tuple #[.int .u32 0,.bool false]∧L'=[(p,cl [.slice fa d.length fc,.int .i64 (t:Int)] 151)]::L)):=by
 refine Gv.of_body Tryz.func135 rfl rfl ?_
 (refine kW ?_;refine kV fun hc=>?_;refine kW ?_)
 refine cP rfl rfl (zgu p d.length t fa fc _ _ Fnd.here hl ht) ?_
 (repeat' first|refine kW ?_|refine kU fun bk=>?_|refine kV fun hc=>?_|refine kZ (fun hc=>?_) fun hc=>?_|fail)
 ·refine zT (rs:=[.tmp 4,.tmp 5]) (vs:=[.int .u32 0,.bool false]) rfl rfl ?_
  exact ⟨_,iC,.inr ⟨by omega,rfl,rfl⟩⟩
 refine zn (X:=Nat) (fun k=>[(0,.pointer (some ⟨p,0,none⟩)),(1,.int .i64 (n:Int)),(6,.int .u32 ((val d / 2 ^ t % 2 ^ k:Nat):Int)),(7,.int .i64 (k:Int))])
  (fun k=>[(p,cl [.slice fa d.length fc,.int .i64 ((t+k:Nat):Int)] 151)]::L) (fun k=>k≤n) (fun k=>n - k) 0 (Nat.zero_le _) (Sub.cons rfl (Sub.cons rfl (Sub.cons (by rw [Nat.pow_zero,Nat.mod_one];rfl) iS))) (fun w h=>h) ?_
 intro k hk
 (repeat' first|refine kW ?_|refine kU fun bk=>?_|refine kV fun hc=>?_|refine kZ (fun hc=>?_) fun hc=>?_|fail)
 ·have hml:val d / 2 ^ t % 2 ^ k < 2 ^ k:=Nat.mod_lt _ (Nat.pow_pos (by decide))
  refine cC rfl rfl (zgv p (t+k) (.slice fa d.length fc) d L hv hl (by omega)) (fun r L' hp=>?_)
  obtain ⟨rfl,rfl⟩:=hp
  have e3:val d / 2 ^ t % 2 ^ k+val d / 2 ^ (t+k) % 2 * 2 ^ k=val d / 2 ^ t % 2 ^ (k+1):=by
   rw [Nat.pow_add 2 k 1,Nat.mod_mul,Nat.pow_one,Nat.div_div_eq_div_mul,←Nat.pow_add,Nat.mul_comm (2 ^ k)]
  have e4:val d / 2 ^ t % 2 ^ (k+1) < 2 ^ (k+1):=Nat.mod_lt _ (Nat.pow_pos (by decide))
  have e5:2 ^ (k+1)≤2 ^ 32:=Nat.pow_le_pow_right (by decide) (by omega)
  refine kW ?_
  refine ze (vH (val d / 2 ^ (t+k) % 2) k rfl rfl rfl rfl rfl (by simp only [IntKind.bits];omega)) rfl ?_
  refine kW ?_
  refine ze (ze9 (val d / 2 ^ t % 2 ^ k) (val d / 2 ^ (t+k) % 2) k rfl rfl rfl rfl rfl hml (by simp only [IntKind.bits];omega)) rfl ?_
  rw [e3]
  refine kW ?_
  refine zf (X:=Nat) (μ:=fun k=>n - k) (x:=k) (k+1) (by omega) (by omega) iS (fun w h=>h)
 ·obtain rfl:k=n:=by omega
  refine kR ?_
  exact ⟨_,iC,.inl ⟨by omega,rfl,rfl⟩⟩
omit [W0] in
def wkC (p q:Nat) (v:Value) (most e:Nat):Chunk:=[(p,cl [.pointer (some ⟨q,0,none⟩),v,.int .i64 (most:Int),.int .i64 (e:Int)] 153)]
omit [W0] in
def biC (q:Nat) (fa:Option Addr) (m fc t:Nat):Chunk:=[(q,cl [.slice fa m fc,.int .i64 (t:Int)] 151)]
theorem wN (p q most k e:Nat) (v:Value) (L:List Chunk) :
 Gv Tryz.prog 104 [.pointer (some ⟨p,0,none⟩),.int .i64 (k:Int)].toArray (wkC p q v most e::L) (fun r L'=>r=.tuple #[]∧L'=wkC p q v most (if e=0 then k else e)::L):=by
 refine Gv.of_body Tryz.func104 rfl rfl ?_
 unfold wkC
 (repeat' first|refine kW ?_|refine kU fun bk=>?_|refine kV fun hc=>?_|refine kZ (fun hc=>?_) fun hc=>?_|fail)
 ·have h0:e=0:=by omega
  rw [if_pos h0]
  refine kR ?_
  exact ⟨_,iC,rfl,rfl⟩
 ·have h0:¬e=0:=by omega
  rw [if_neg h0]
  refine kR ?_
  exact ⟨_,iC,rfl,rfl⟩
theorem wY (p q most n:Nat) (v:Value) (fa:Option Addr) (fc:Nat) (d:List UInt8) (s:S6) (L:List Chunk) (hv:Sl L 1 (.slice fa d.length fc) d.length (bsv d)) (hl:d.length≤140737488355328) (ht:s.t≤8 * d.length) (hn:n≤32) :
 Gv Tryz.prog 99 [.pointer (some ⟨p,0,none⟩),.int .i64 (n:Int)].toArray (wkC p q v most s.e::biC q fa d.length fc s.t::L) (fun r L'=>
  r=.int .i64 ((tv d s n:Nat):Int)∧L'=wkC p q v most (tk d s n).e::biC q fa d.length fc (tk d s n).t::L∧(tk d s n).t≤8 * d.length):=by
 refine Gv.of_body Tryz.func99 rfl rfl ?_
 have hbt:=zja q s.t n fa fc d (wkC p q v most s.e::L) (zm hv) hl ht hn
 have hb32:val d / 2 ^ s.t % 2 ^ n < 2 ^ 32:=Nat.lt_of_lt_of_le (Nat.mod_lt _ (Nat.pow_pos (by decide))) (Nat.pow_le_pow_right (by decide) hn)
 unfold wkC biC tv tk
 unfold wkC at hbt
 obtain ⟨t,out,e⟩:=s
 simp only at hbt hb32 ht ⊢
 refine kW ?_
 refine cC rfl rfl (Gv.holds hbt (fun w h=>iH h)) (fun r L' hp=>?_)
 rcases hp with ⟨h1,rfl,rfl⟩|⟨h1,rfl,rfl⟩
 ·simp only [if_pos h1]
  refine kW ?_
  refine kR ?_
  exact ⟨_,iC,rfl,rfl,h1⟩
 ·simp only [if_neg h1,fl]
  (repeat' first|refine kW ?_|refine kU fun bk=>?_|refine kV fun hc=>?_|refine kZ (fun hc=>?_) fun hc=>?_|fail)
  ·obtain rfl:e=0:=by omega
   refine kR ?_
   exact ⟨_,iC,rfl,rfl,ht⟩
  ·have h0:¬e=0:=by omega
   simp only [if_neg h0]
   refine kR ?_
   exact ⟨_,iC,rfl,rfl,ht⟩
theorem zdG (p q most:Nat) (c:UInt8) (v:Value) (s:S6) (C:Chunk) (L:List Chunk) (ho:Ow 5 1 v s.out.length (bsv s.out) C) (hm:most≤1000000) :
 Gv Tryz.prog 137 [.pointer (some ⟨p,0,none⟩),.int .u8 (c.toNat:Int)].toArray (wkC p q v most s.e::C::L) (fun r L'=>
  ∃v' C',r=.tuple #[]∧Ow 5 1 v' (pt most s c).out.length (bsv (pt most s c).out) C'∧L'=wkC p q v' most (pt most s c).e::C'::L):=by
 refine Gv.of_body Tryz.func137 rfl rfl ?_
 obtain ⟨t,out,e⟩:=s
 simp only at ho ⊢
 obtain ⟨va,vc,rfl⟩:=zM ho
 by_cases h1:most≤out.length
 ·have hf:=wN p q most 5 e (.slice va out.length vc) (C::L)
  simp only [pt,if_pos h1,ql,ZC]
  unfold wkC at hf ⊢
  refine kW ?_
  refine zk [] mixed ?_
  (refine za 0 ?_;refine za 1 ?_;refine za 2 ?_;refine za 3 ?_;refine za 4 ?_;refine za 5 ?_;refine za 6 ?_;refine za 7 ?_;refine za 8 ?_;refine za 9 ?_)
  refine cD ?_
  (refine kW ?_;refine kV fun hc=>?_;refine kW ?_)
  refine cC rfl rfl hf (fun r L' hp=>?_)
  obtain ⟨rfl,rfl⟩:=hp
  refine kW ?_
  refine kR ?_
  exact ⟨_,iC,_,_,rfl,ho,rfl⟩
 ·simp only [pt,if_neg h1]
  unfold wkC
  refine kW ?_
  refine zk [] mixed ?_
  (refine za 0 ?_;refine za 1 ?_;refine za 2 ?_;refine za 3 ?_;refine za 4 ?_;refine za 5 ?_;refine za 6 ?_;refine za 7 ?_;refine za 8 ?_;refine za 9 ?_)
  refine cD ?_
  (refine kW ?_;refine kV fun hc=>?_;refine kW ?_)
  refine zl (cs:=[.int .u8 (c.toNat:Int)]) rfl (by rfl) (by first|(simp [zA,patch,Value.cells,zeros];done)|(simp [zA,patch,Value.cells,zeros];rfl)) (by omega) rfl rfl (fun bn=>?_)
  refine kW ?_
  refine zu rfl rfl ho (zF (k:=1) (c:=#[.int .u8 (c.toNat:Int)]) (xs:=[.int .u8 (c.toNat:Int)]) (m:=1) Fnd.here rfl (by simp)) (by repeat (first|exact Zip.here _|apply Zip.there)) rfl (by rfl) (by omega) (by simp [maxLen];omega) rfl (fun v' C' ho' _ _=>?_)
  refine kW ?_
  refine zG [.pointer (some ⟨q,0,none⟩),v',.int .i64 (most:Int),.int .i64 (e:Int)] rfl rfl (by rcases ho' with ⟨rfl,_⟩|⟨_,_,_,rfl,_⟩<;>rfl) rfl iU (by simp) ?_
  refine kW ?_
  refine kR ?_
  rw [List.length_append,show bsv (out++[c])=bsv out++[Value.int .u8 (c.toNat:Int)] from by simp [bsv]]
  exact ⟨_,iC,v',C',rfl,ho',rfl⟩
theorem zgk (p q most:Nat) (v:Value) (a:Option Addr) (c:Nat) (ls:List Int) (fa:Option Addr) (fc:Nat) (d:List UInt8) (s:S6) (L:List Chunk) (h:Sl L 1 (.slice a ls.length c) ls.length (yg ls)) (hok:cdE ls=0)
 (hv:Sl L 1 (.slice fa d.length fc) d.length (bsv d)) (hl:d.length≤140737488355328) (ht:s.t≤8 * d.length) :
 Gv Tryz.prog 138 [.pointer (some ⟨p,0,none⟩),.slice a ls.length c].toArray (wkC p q v most s.e::biC q fa d.length fc s.t::L) (fun r L'=>
  r=.int .i64 ((sv d s (nl ls):Nat):Int)∧L'=wkC p q v most (sy d s (nl ls)).e::biC q fa d.length fc (sy d s (nl ls)).t::L∧(sy d s (nl ls)).t≤8 * d.length):=by
 refine Gv.of_body Tryz.func138 rfl rfl ?_
 obtain ⟨t,out,e⟩:=s
 simp only at ht ⊢
 by_cases h1:e=0
 ·have hr:=zf0 a c ls fa fc q t d (biC q fa d.length fc t) (wkC p q v most e::L) (zm h) hok ⟨ht,rfl,zm hv⟩ hl
  simp only [sy,sv,if_pos h1]
  subst h1
  generalize rdS (nl ls) (val d) t (8 * d.length) 16 0=z at hr ⊢
  obtain ⟨z1,z2,z3⟩:=z
  simp only at hr ⊢
  have hf:=wN p q most z2 0 v (biC q fa d.length fc (t+z3)::L)
  simp only [ZC,vU,if_true]
  unfold wkC biC at hr hf ⊢
  refine kW ?_
  refine cC rfl rfl (Gv.holds hr (fun w h=>iH h)) (fun r L' hp=>?_)
  obtain ⟨D',rfl,⟨ht2,rfl,_⟩,rfl⟩:=hp
  refine kW ?_
  refine cC rfl rfl (Gv.holds hf (fun w h=>iH h)) (fun r L' hp=>?_)
  obtain ⟨rfl,rfl⟩:=hp
  simp only [if_true]
  refine kW ?_
  refine kR ?_
  exact ⟨_,iC,rfl,rfl,ht2⟩
 ·simp only [sy,sv,if_neg h1]
  unfold wkC biC
  (refine kW ?_;refine kV fun hc=>?_;refine kW ?_)
  refine kR ?_
  exact ⟨_,iC,rfl,rfl,ht⟩
theorem ziw (p q most:Nat) (v:Value) (fa:Option Addr) (fc:Nat) (d:List UInt8) (s:S6) (C:Chunk) (L:List Chunk) (hv:Sl L 1 (.slice fa d.length fc) d.length (bsv d)) (hl:d.length≤1000000) (ht:s.t≤8 * d.length) (hm:most≤1000000)
 (ho:Ow 5 1 v s.out.length (bsv s.out) C) :
 Gv Tryz.prog 100 [.pointer (some ⟨p,0,none⟩)].toArray (wkC p q v most s.e::biC q fa d.length fc s.t::C::L) (fun r L'=>
  ∃v' C',r=.tuple #[]∧Ow 5 1 v' (stS d most s).out.length (bsv (stS d most s).out) C'∧L'=wkC p q v' most (stS d most s).e::biC q fa d.length fc (stS d most s).t::C'::L∧(stS d most s).t≤8 * d.length):=by
 refine Gv.of_body Tryz.func100 rfl rfl ?_
 have hst:stS d most s=stL d most (tv d ⟨8 * ((s.t+7) / 8),s.out,s.e⟩ 16) (if tv d ⟨8 * ((s.t+7) / 8),s.out,s.e⟩ 16+tv d (tk d ⟨8 * ((s.t+7) / 8),s.out,s.e⟩ 16) 16=65535 then tk d (tk d ⟨8 * ((s.t+7) / 8),s.out,s.e⟩ 16) 16 else fl (tk d (tk d ⟨8 * ((s.t+7) / 8),s.out,s.e⟩ 16) 16) 3):=rfl
 rw [hst]
 clear hst
 have hal:=zhS q s.t (.slice fa d.length fc) (wkC p q v most s.e::C::L) (by omega)
 obtain ⟨s0,hs0⟩:∃s0:S6,s0=⟨8 * ((s.t+7) / 8),s.out,s.e⟩:=⟨_,rfl⟩
 have e0:s.e=s0.e:=by rw [hs0]
 have et:8 * ((s.t+7) / 8)=s0.t:=by rw [hs0]
 have eo:s.out=s0.out:=by rw [hs0]
 rw [←hs0]
 rw [e0,et] at hal
 have ht0:s0.t≤8 * d.length:=by omega
 rw [e0]
 rw [eo] at ho
 clear hs0
 have ht1:=wY p q most 16 v fa fc d s0 (C::L) (zm hv) (by omega) ht0 (by omega)
 have ht2:=fun h=>wY p q most 16 v fa fc d (tk d s0 16) (C::L) (zm hv) (by omega) h (by omega)
 have hf:=wN p q most 3 (tk d (tk d s0 16) 16).e v (biC q fa d.length fc (tk d (tk d s0 16) 16).t::C::L)
 have hn1:=wU d s0 16
 have hn2:=wU d (tk d s0 16) 16
 have ho2:Ow 5 1 v (tk d (tk d s0 16) 16).out.length (bsv (tk d (tk d s0 16) 16).out) C:=by rw [yw,yw];exact ho
 have hw1:∀v e (L:List Chunk),wkC p q v most e::L=[(p,cl [.pointer (some ⟨q,0,none⟩),v,.int .i64 (most:Int),.int .i64 (e:Int)] 153)]::L:=fun _ _ _=>rfl
 obtain ⟨n,hn⟩:∃n,n=tv d s0 16:=⟨_,rfl⟩
 obtain ⟨m,hm'⟩:∃m,m=tv d (tk d s0 16) 16:=⟨_,rfl⟩
 rw [←hn] at hn1 ht1 ⊢
 rw [←hm'] at hn2 ht2 ⊢
 rw [hw1]
 refine kW ?_
 refine cC rfl rfl (Gv.holds hal (fun w h=>iH h)) (fun r L' hp=>?_)
 obtain ⟨rfl,rfl⟩:=hp
 refine kW ?_
 refine cC rfl rfl (Gv.holds ht1 (fun w h=>iH h)) (fun r L' hp=>?_)
 obtain ⟨rfl,rfl,hb1⟩:=hp
 refine kW ?_
 refine cC rfl rfl (ht2 hb1) (fun r L' hp=>?_)
 obtain ⟨rfl,rfl,hb2⟩:=hp
 (repeat' first|refine kW ?_|refine kU fun bk=>?_|refine kV fun hc=>?_|refine kZ (fun hc=>?_) fun hc=>?_|fail)
 ·rw [if_neg (show ¬n+m=65535 by omega)]
  refine cC rfl rfl hf (fun r L' hp=>?_)
  obtain ⟨rfl,rfl⟩:=hp
  rw [show (if (tk d (tk d s0 16) 16).e=0 then 3 else (tk d (tk d s0 16) 16).e)=(fl (tk d (tk d s0 16) 16) 3).e from (ZC _ _).symm,show (tk d (tk d s0 16) 16).t=(fl (tk d (tk d s0 16) 16) 3).t from (vU _ _).symm]
  rw [←vU _ 3] at hb2
  rw [←ql _ 3] at ho2
  generalize fl (tk d (tk d s0 16) 16) 3=s3 at hb2 ho2 ⊢
  clear hf
  refine kW ?_
  refine zn (X:=Nat × S6 × Value × Chunk) (fun x=>[(0,.pointer (some ⟨p,0,none⟩)),(2,.int .i64 (n:Int)),(4,.int .i64 (x.1:Int))]) (fun x=>wkC p q x.2.2.1 most x.2.1.e::biC q fa d.length fc x.2.1.t::x.2.2.2::L)
   (fun x=>x.1≤n∧x.2.1.t≤8 * d.length∧Ow 5 1 x.2.2.1 x.2.1.out.length (bsv x.2.1.out) x.2.2.2∧stL d most n s3=stL d most (n - x.1) x.2.1) (fun x=>n - x.1) (0,s3,v,C) ⟨Nat.zero_le _,hb2,ho2,rfl⟩ iS (fun w h=>h) ?_
  rintro ⟨i,s4,v1,C1⟩ ⟨hi,hst,hov,hsl⟩
  simp only at hi hst hov hsl ⊢
  rw [hw1]
  (repeat' first|refine kW ?_|refine kU fun bk=>?_|refine kV fun hc=>?_|refine kZ (fun hc=>?_) fun hc=>?_|fail)
  ·have ht8:=wY p q most 8 v1 fa fc d s4 (C1::L) (zm hv) (by omega) hst (by omega)
   have hput:=fun c=>zdG p q most c v1 (tk d s4 8) C1 (biC q fa d.length fc (tk d s4 8).t::L) (by rw [yw];exact hov) hm
   have he0:s4.e=0:=by omega
   obtain ⟨k,hk⟩:∃k,n - i=k+1:=⟨n - i - 1,by omega⟩
   have hk2:n - (i+1)=k:=by omega
   rw [hk,stL,if_pos he0] at hsl
   refine cC rfl rfl ht8 (fun r L' hp=>?_)
   obtain ⟨rfl,rfl,hb8⟩:=hp
   rw [hw1]
   (repeat' first|refine kW ?_|refine kU fun bk=>?_|refine kV fun hc=>?_|refine kZ (fun hc=>?_) fun hc=>?_|fail)
   ·have he1:(tk d s4 8).e=0:=by omega
    rw [if_pos he1] at hsl
    try rw [uZ]
    have hp1:=hput (UInt8.ofNat (tv d s4 8))
    unfold wkC at hp1
    refine cC rfl rfl (Gv.holds hp1 (fun w h=>iH h)) (fun r L' hp=>?_)
    obtain ⟨v2,C2,rfl,ho3,rfl⟩:=hp
    refine kW ?_
    refine zf (X:=Nat × S6 × Value × Chunk) (μ:=fun x=>n - x.1) (x:=(i,s4,v1,C1)) (i+1,pt most (tk d s4 8) (UInt8.ofNat (tv d s4 8)),v2,C2) (by simp only;omega) ⟨by simp only;omega,by simp only;rw [zeA];exact hb8,ho3,by simp only;rw [hk2];exact hsl⟩ iS (fun w h=>?_)
    simp only [zeA]
    unfold wkC
    exact iH h
   ·have he1:¬(tk d s4 8).e=0:=by omega
    rw [if_neg he1] at hsl
    refine zf (X:=Nat × S6 × Value × Chunk) (μ:=fun x=>n - x.1) (x:=(i,s4,v1,C1)) (i+1,tk d s4 8,v1,C1) (by simp only;omega) ⟨by simp only;omega,hb8,by simp only;rw [yw];exact hov,by simp only;rw [hk2];exact hsl⟩ iS (fun w h=>h)
  ·have he0:¬s4.e=0:=by omega
   obtain ⟨k,hk⟩:∃k,n - i=k+1:=⟨n - i - 1,by omega⟩
   rw [hk,stL,if_neg he0] at hsl
   rw [hsl]
   refine kR ?_
   exact ⟨_,iC,v1,C1,rfl,hov,rfl,hst⟩
  ·rw [show n - i=0 from by omega,stL] at hsl
   rw [hsl]
   refine kR ?_
   exact ⟨_,iC,v1,C1,rfl,hov,rfl,hst⟩
 ·refine ze (wZ (r:=((n&&&m:Nat):Int)) rfl rfl (Qm hn1 hn2)) rfl ?_
  rw [zhR (show n+m=65535 by omega),if_pos (show n+m=65535 by omega)]
  generalize tk d (tk d s0 16) 16=s3 at hb2 ho2 ⊢
  refine kW ?_
  refine zn (X:=Nat × S6 × Value × Chunk) (fun x=>[(0,.pointer (some ⟨p,0,none⟩)),(2,.int .i64 (n:Int)),(4,.int .i64 (x.1:Int))]) (fun x=>wkC p q x.2.2.1 most x.2.1.e::biC q fa d.length fc x.2.1.t::x.2.2.2::L)
   (fun x=>x.1≤n∧x.2.1.t≤8 * d.length∧Ow 5 1 x.2.2.1 x.2.1.out.length (bsv x.2.1.out) x.2.2.2∧stL d most n s3=stL d most (n - x.1) x.2.1) (fun x=>n - x.1) (0,s3,v,C) ⟨Nat.zero_le _,hb2,ho2,rfl⟩ iS (fun w h=>h) ?_
  rintro ⟨i,s4,v1,C1⟩ ⟨hi,hst,hov,hsl⟩
  simp only at hi hst hov hsl ⊢
  rw [hw1]
  (repeat' first|refine kW ?_|refine kU fun bk=>?_|refine kV fun hc=>?_|refine kZ (fun hc=>?_) fun hc=>?_|fail)
  ·have ht8:=wY p q most 8 v1 fa fc d s4 (C1::L) (zm hv) (by omega) hst (by omega)
   have hput:=fun c=>zdG p q most c v1 (tk d s4 8) C1 (biC q fa d.length fc (tk d s4 8).t::L) (by rw [yw];exact hov) hm
   have he0:s4.e=0:=by omega
   obtain ⟨k,hk⟩:∃k,n - i=k+1:=⟨n - i - 1,by omega⟩
   have hk2:n - (i+1)=k:=by omega
   rw [hk,stL,if_pos he0] at hsl
   refine cC rfl rfl ht8 (fun r L' hp=>?_)
   obtain ⟨rfl,rfl,hb8⟩:=hp
   rw [hw1]
   (repeat' first|refine kW ?_|refine kU fun bk=>?_|refine kV fun hc=>?_|refine kZ (fun hc=>?_) fun hc=>?_|fail)
   ·have he1:(tk d s4 8).e=0:=by omega
    rw [if_pos he1] at hsl
    try rw [uZ]
    have hp1:=hput (UInt8.ofNat (tv d s4 8))
    unfold wkC at hp1
    refine cC rfl rfl (Gv.holds hp1 (fun w h=>iH h)) (fun r L' hp=>?_)
    obtain ⟨v2,C2,rfl,ho3,rfl⟩:=hp
    refine kW ?_
    refine zf (X:=Nat × S6 × Value × Chunk) (μ:=fun x=>n - x.1) (x:=(i,s4,v1,C1)) (i+1,pt most (tk d s4 8) (UInt8.ofNat (tv d s4 8)),v2,C2) (by simp only;omega) ⟨by simp only;omega,by simp only;rw [zeA];exact hb8,ho3,by simp only;rw [hk2];exact hsl⟩ iS (fun w h=>?_)
    simp only [zeA]
    unfold wkC
    exact iH h
   ·have he1:¬(tk d s4 8).e=0:=by omega
    rw [if_neg he1] at hsl
    refine zf (X:=Nat × S6 × Value × Chunk) (μ:=fun x=>n - x.1) (x:=(i,s4,v1,C1)) (i+1,tk d s4 8,v1,C1) (by simp only;omega) ⟨by simp only;omega,hb8,by simp only;rw [yw];exact hov,by simp only;rw [hk2];exact hsl⟩ iS (fun w h=>h)
  ·have he0:¬s4.e=0:=by omega
   obtain ⟨k,hk⟩:∃k,n - i=k+1:=⟨n - i - 1,by omega⟩
   rw [hk,stL,if_neg he0] at hsl
   rw [hsl]
   refine kR ?_
   exact ⟨_,iC,v1,C1,rfl,hov,rfl,hst⟩
  ·rw [show n - i=0 from by omega,stL] at hsl
   rw [hsl]
   refine kR ?_
   exact ⟨_,iC,v1,C1,rfl,hov,rfl,hst⟩
theorem zke {l:List Nat} {i:Nat} (h:i < l.length):(yg (icn l))[i]? =some (.int .i64 (l.getD i 0:Int)):=by simp [yg,icn,List.getD,h]
theorem zow (s g st:Nat) (L:List Chunk) (hs:s≤1000) (hg:0 < g) (hst:st≤1000) :
 GvP Tryz.prog 228 [.int .i64 (s:Int),.int .i64 (g:Int),.int .i64 (st:Int)].toArray L (.int .i64 ((exB s g st:Nat):Int)):=by
 refine Gv.of_body Tryz.func228 rfl rfl ?_
 unfold exB
 (repeat' first|refine kW ?_|refine kU fun bk=>?_|refine kV fun hc=>?_|refine kZ (fun hc=>?_) fun hc=>?_|fail)
 ·rw [if_pos (show s < st by omega)]
  exact kE
 ·rw [if_neg (show ¬s < st by omega)]
  have hq:(s - st) / g≤s - st:=Nat.div_le_self _ _
  refine ze (uN (s - st) g rfl rfl (by omega) rfl (by omega) (by omega)) rfl ?_
  generalize (s - st) / g=z at hq ⊢
  refine kW ?_
  refine kR ?_
  exact ⟨L,iC,by simp;rfl,rfl⟩
theorem zi1 (first s g st B:Nat) (L:List Chunk) (hf:first≤1000) (hs:s≤100) (hg:0 < g) (hst:st≤1000) (hB:∀i,i≤s→exB i g st≤20) :
 GvP Tryz.prog 188 [.int .i64 (first:Int),.int .i64 (s:Int),.int .i64 (g:Int),.int .i64 (st:Int)].toArray L (.tuple #[.int .i64 ((baB first g st s:Nat):Int),.int .i64 ((exB s g st:Nat):Int)]):=by
 refine Gv.of_body Tryz.func188 rfl rfl ?_
 refine kW ?_
 refine zn (X:=Nat) (fun i=>[(0,.int .i64 (first:Int)),(1,.int .i64 (s:Int)),(2,.int .i64 (g:Int)),(3,.int .i64 (st:Int)),(10,.int .i64 ((baB first g st i:Nat):Int)),(11,.int .i64 (i:Int))]) (fun _=>L)
  (fun i=>i≤s∧baB first g st i≤1000+i * 1048576) (fun i=>s - i) 0 ⟨Nat.zero_le _,by show first≤_;omega⟩ iS (fun w h=>h) ?_
 rintro i ⟨hi,hb⟩
 (repeat' first|refine kW ?_|refine kU fun bk=>?_|refine kV fun hc=>?_|refine kZ (fun hc=>?_) fun hc=>?_|fail)
 ·have hx:=hB i (by omega)
  have hp:2 ^ exB i g st≤2 ^ 20:=Nat.pow_le_pow_right (by decide) hx
  have hnx:baB first g st (i+1)=baB first g st i+2 ^ exB i g st:=rfl
  refine cP rfl rfl (zow i g st L (by omega) hg hst) ?_
  refine kW ?_
  refine ze (uq 1 (exB i g st) rfl rfl rfl rfl (by omega) (by omega)) rfl ?_
  refine kW ?_
  rw [Nat.one_mul,←Int.natCast_add,←hnx]
  refine zf (X:=Nat) (μ:=fun i=>s - i) (x:=i) (i+1) (by omega) ⟨by omega,by omega⟩ iS (fun w h=>h)
 ·obtain rfl:i=s:=by omega
  refine cP rfl rfl (zow i g st L (by omega) hg hst) ?_
  refine kW ?_
  refine kR ?_
  exact ⟨L,iC,rfl,rfl⟩
theorem zlB (a:Option Addr) (c:Nat) (l:List Nat) (L:List Chunk) (h:Sl L 1 (.slice a l.length c) l.length (yg (icn l))) (hl:l.length≤1000) :
 GvP Tryz.prog 142 [.slice a l.length c].toArray L (.bool (sgl l)):=by
 refine Gv.of_body Tryz.func142 rfl rfl ?_
 refine kW ?_
 refine zn (X:=Nat) (fun i=>[(0,.slice a l.length c),(3,.int .i64 (((l.take i).sum:Nat):Int)),(4,.int .i64 (i:Int))]) (fun _=>L)
  (fun i=>i≤l.length∧(l.take i).all (fun x=>decide (x≤1))=true∧(l.take i).sum≤i) (fun i=>l.length - i) 0 ⟨Nat.zero_le _,rfl,Nat.le_refl _⟩ iS (fun w h=>h) ?_
 rintro i ⟨hi,hal,hsm⟩
 (repeat' first|refine kW ?_|refine kU fun bk=>?_|refine kV fun hc=>?_|refine kZ (fun hc=>?_) fun hc=>?_|fail)
 ·have hlt:i < l.length:=by omega
  obtain ⟨b,off,cap,cc,T,fr,hve,hfn,hcell⟩:=yV h (zke hlt)
  injection hve with q1 q2 q3
  subst q1 q3
  clear q2
  have hg:l.getD i 0=l[i]:=by simp [List.getD,hlt]
  have htk:l.take (i+1)=l.take i++[l.getD i 0]:=by rw [List.take_add_one,List.getElem?_eq_getElem hlt,hg];rfl
  have hmem:l.getD i 0∈l:=by rw [hg];exact List.getElem_mem _
  obtain ⟨x,hx⟩:∃x,x=l.getD i 0:=⟨_,rfl⟩
  rw [←hx] at hcell htk hmem
  refine ze (zi (j:=i) rfl rfl rfl hlt) rfl ?_
  refine kW ?_
  refine ze (zq rfl hfn hcell) rfl ?_
  (repeat' first|refine kW ?_|refine kU fun bk=>?_|refine kV fun hc=>?_|refine kZ (fun hc=>?_) fun hc=>?_|fail)
  ·refine kR ?_
   refine ⟨L,iC,congrArg Value.bool (show false=sgl l from ?_),rfl⟩
   have:l.all (fun x=>decide (x≤1))=false:=by
    rw [←Bool.not_eq_true,List.all_eq_true]
    intro hh
    have:=hh x hmem
    simp at this
    omega
   unfold sgl
   rw [this]
   rfl
  ·refine ze (zi (j:=i) rfl rfl rfl hlt) rfl ?_
   refine kW ?_
   refine ze (zq rfl hfn hcell) rfl ?_
   refine kW ?_
   have hs2:(((l.take (i+1)).sum:Nat):Int)=((l.take i).sum:Int)+(x:Int):=by rw [htk,List.sum_append];simp
   refine zf (X:=Nat) (μ:=fun i=>l.length - i) (x:=i) (i+1) (by omega) ⟨by omega,by rw [htk,List.all_append,hal];simp;omega,by rw [htk,List.sum_append];simp;omega⟩ ?_ (fun w h=>h)
   simp only [hs2]
   exact iS
 ·obtain rfl:i=l.length:=by omega
  rw [List.take_length] at hal hsm ⊢
  refine kR ?_
  refine ⟨L,iC,congrArg Value.bool (show decide ((l.sum:Int) < 2)=sgl l from ?_),rfl⟩
  unfold sgl
  rw [hal,Bool.true_and]
  exact decide_eq_decide.2 (by omega)
omit [W0] in
def fxP (i:Nat):List Nat:=(List.range i).map fxN
theorem zjX (i:Nat):yg (icn (fxP i))++[Value.int .i64 (fxN i:Int)]=yg (icn (fxP (i+1))):=by simp [yg,icn,fxP,List.range_succ]
theorem zk9 (i:Nat):yg (icn (List.replicate i 5))++[Value.int .i64 5]=yg (icn (List.replicate (i+1) 5)):=by simp [yg,icn,List.replicate_succ']
theorem zna (L:List Chunk):Gv Tryz.prog 101 #[] L (fun r L'=>∃u v C D,r=.tuple #[u,v]∧L'=D::C::L∧Ow 3 1 u 288 (yg (icn fxL)) C∧Ow 3 1 v 32 (yg (icn fxD)) D):=by
 refine Gv.of_body (args:=[]) Tryz.func101 rfl rfl ?_
 refine kW ?_
 refine zn (X:=Nat × Value × Chunk) (fun x=>[(2,x.2.1),(3,.slice none 0 0),(4,.int .i64 (x.1:Int))]) (fun x=>x.2.2::L)
  (fun x=>x.1≤288∧Ow 3 1 x.2.1 x.1 (yg (icn (fxP x.1))) x.2.2) (fun x=>288 - x.1) (0,.slice none 0 0,[]) ⟨Nat.zero_le _,.inl ⟨rfl,rfl,rfl,rfl⟩⟩ iS (fun w h=>Holds.nil.2 h) ?_
 rintro ⟨i,v,C⟩ ⟨hi,ho⟩
 simp only at hi ho ⊢
 have hst:=zjX i
 (repeat' first|refine kW ?_|refine kU fun bk=>?_|refine kV fun hc=>?_|refine kZ (fun hc=>?_) fun hc=>?_|fail)
 ·have e:fxN i=9:=by
   unfold fxN
   repeat' split
   all_goals omega
  rw [e] at hst
  refine zl (cs:=[.int .i64 9]) rfl (by rfl) (by first|(simp [zA,patch,Value.cells,zeros];done)|(simp [zA,patch,Value.cells,zeros];rfl)) (by omega) rfl rfl (fun bn=>?_)
  refine kW ?_
  refine zu rfl rfl ho (zF (k:=1) (c:=#[.int .i64 9]) (xs:=[.int .i64 9]) (m:=1) Fnd.here rfl (by simp)) (by repeat (first|exact Zip.here _|apply Zip.there)) rfl (by rfl) (by omega) (by simp [maxLen];omega) rfl (fun v' C' ho' _ _=>?_)
  rw [show [Value.int IntKind.i64 9]=[Value.int .i64 ((9:Nat):Int)] from rfl,hst] at ho'
  refine kW ?_
  refine zf (X:=Nat × Value × Chunk) (μ:=fun x=>288 - x.1) (x:=(i,v,C)) (i+1,v',C') (by simp only;omega) ⟨by simp only;omega,ho'⟩ iS (fun w h=>h.drop)
 ·have e:fxN i=7:=by
   unfold fxN
   repeat' split
   all_goals omega
  rw [e] at hst
  refine zl (cs:=[.int .i64 7]) rfl (by rfl) (by first|(simp [zA,patch,Value.cells,zeros];done)|(simp [zA,patch,Value.cells,zeros];rfl)) (by omega) rfl rfl (fun bn=>?_)
  refine kW ?_
  refine zu rfl rfl ho (zF (k:=1) (c:=#[.int .i64 7]) (xs:=[.int .i64 7]) (m:=1) Fnd.here rfl (by simp)) (by repeat (first|exact Zip.here _|apply Zip.there)) rfl (by rfl) (by omega) (by simp [maxLen];omega) rfl (fun v' C' ho' _ _=>?_)
  rw [show [Value.int IntKind.i64 7]=[Value.int .i64 ((7:Nat):Int)] from rfl,hst] at ho'
  refine kW ?_
  refine zf (X:=Nat × Value × Chunk) (μ:=fun x=>288 - x.1) (x:=(i,v,C)) (i+1,v',C') (by simp only;omega) ⟨by simp only;omega,ho'⟩ iS (fun w h=>h.drop)
 ·have e:fxN i=8:=by
   unfold fxN
   repeat' split
   all_goals omega
  rw [e] at hst
  refine zl (cs:=[.int .i64 8]) rfl (by rfl) (by first|(simp [zA,patch,Value.cells,zeros];done)|(simp [zA,patch,Value.cells,zeros];rfl)) (by omega) rfl rfl (fun bn=>?_)
  refine kW ?_
  refine zu rfl rfl ho (zF (k:=1) (c:=#[.int .i64 8]) (xs:=[.int .i64 8]) (m:=1) Fnd.here rfl (by simp)) (by repeat (first|exact Zip.here _|apply Zip.there)) rfl (by rfl) (by omega) (by simp [maxLen];omega) rfl (fun v' C' ho' _ _=>?_)
  rw [show [Value.int IntKind.i64 8]=[Value.int .i64 ((8:Nat):Int)] from rfl,hst] at ho'
  refine kW ?_
  refine zf (X:=Nat × Value × Chunk) (μ:=fun x=>288 - x.1) (x:=(i,v,C)) (i+1,v',C') (by simp only;omega) ⟨by simp only;omega,ho'⟩ iS (fun w h=>h.drop)
 ·have e:fxN i=8:=by
   unfold fxN
   repeat' split
   all_goals omega
  rw [e] at hst
  refine zl (cs:=[.int .i64 8]) rfl (by rfl) (by first|(simp [zA,patch,Value.cells,zeros];done)|(simp [zA,patch,Value.cells,zeros];rfl)) (by omega) rfl rfl (fun bn=>?_)
  refine kW ?_
  refine zu rfl rfl ho (zF (k:=1) (c:=#[.int .i64 8]) (xs:=[.int .i64 8]) (m:=1) Fnd.here rfl (by simp)) (by repeat (first|exact Zip.here _|apply Zip.there)) rfl (by rfl) (by omega) (by simp [maxLen];omega) rfl (fun v' C' ho' _ _=>?_)
  rw [show [Value.int IntKind.i64 8]=[Value.int .i64 ((8:Nat):Int)] from rfl,hst] at ho'
  refine kW ?_
  refine zf (X:=Nat × Value × Chunk) (μ:=fun x=>288 - x.1) (x:=(i,v,C)) (i+1,v',C') (by simp only;omega) ⟨by simp only;omega,ho'⟩ iS (fun w h=>h.drop)
 ·obtain rfl:i=288:=by omega
  clear hst
  refine zn (X:=Nat × Value × Chunk) (fun x=>[(2,v),(3,x.2.1),(6,.int .i64 (x.1:Int))]) (fun x=>x.2.2::C::L)
   (fun x=>x.1≤32∧Ow 3 1 x.2.1 x.1 (yg (icn (List.replicate x.1 5))) x.2.2) (fun x=>32 - x.1) (0,.slice none 0 0,[]) ⟨Nat.zero_le _,.inl ⟨rfl,rfl,rfl,rfl⟩⟩ iS (fun w h=>Holds.nil.2 h) ?_
  rintro ⟨j,u,D⟩ ⟨hj,hoj⟩
  simp only at hj hoj ⊢
  have hst:=zk9 j
  (repeat' first|refine kW ?_|refine kU fun bk=>?_|refine kV fun hc=>?_|refine kZ (fun hc=>?_) fun hc=>?_|fail)
  ·refine zl (cs:=[.int .i64 5]) rfl (by rfl) (by first|(simp [zA,patch,Value.cells,zeros];done)|(simp [zA,patch,Value.cells,zeros];rfl)) (by omega) rfl rfl (fun bn=>?_)
   refine kW ?_
   refine zu rfl rfl hoj (zF (k:=1) (c:=#[.int .i64 5]) (xs:=[.int .i64 5]) (m:=1) Fnd.here rfl (by simp)) (by repeat (first|exact Zip.here _|apply Zip.there)) rfl (by rfl) (by omega) (by simp [maxLen];omega) rfl (fun v' C' ho' _ _=>?_)
   rw [hst] at ho'
   refine kW ?_
   refine zf (X:=Nat × Value × Chunk) (μ:=fun x=>32 - x.1) (x:=(j,u,D)) (j+1,v',C') (by simp only;omega) ⟨by simp only;omega,ho'⟩ iS (fun w h=>h.drop)
  ·obtain rfl:j=32:=by omega
   refine kR ?_
   exact ⟨_,iC,v,u,C,D,rfl,rfl,ho,hoj⟩
end Go.Proofs.YtfbfcapoobmdpaaGreatDoor
namespace Go.Vx
open Go
set_option linter.all false
variable [W0]
omit [W0] in
abbrev Fr (ro:Option Nat):Fence:={ Fence.wide with round:=ro }
omit [W0] in
structure NL (Q:Exit→Act→World→Prop):Prop where
 out:∀a w,¬Q .outgrown a w
theorem NL.then {Q:Exit→Act→World→Prop} {K:Act→World→Prop} (h:NL Q):NL (Exit.then K Q):=⟨h.out⟩
theorem NL.block {Q:Exit→Act→World→Prop} {i:Nat} (h:NL Q):NL (Exit.inBlock i Q):=⟨h.out⟩
omit [W0] in
def ZF (o:Oper):Bool:=match o.op with|.defer _=>false|_=>true
omit [W0] in
theorem zkL {o:Oper} (h:ZF o=true):∀c,o.op≠.defer c:=fun c hc=>by unfold ZF at h;rw [hc] at h;cases h
section
variable {P : Program} {n : Nat} {ro : Option Nat} {Q : Exit → Act → World → Prop} {M : List (Nat × Value)} {L : List Chunk} {K : List (Nat × Value) → List Chunk → Prop}
omit [W0] in
theorem znX {row:String} {args:Array Value} {w:World} {R:Value→World→Prop} (h:Rows P row args w R):RowsIn (Fr ro) 0 P row args w R:=
 fun c cs _=>let ⟨v,w',r,s⟩:=h c cs;⟨v,w',r,(stepsIn_wide (P:=P)).2 s⟩
omit [W0] in
theorem zjf {f:FuncId} {args:Array Value} {w:World} {R:Ending→World→Prop} {m:Nat} (h:Calls P f args w R):CallsIn (Fr ro) m P f args w R:=(callsIn_wide (n:=m)).2 h
omit [W0] in
theorem zod {o:Oper} {a:Act} {next:Act→World→Prop} {r:Result Next} (h:o.upon P a next Q r):o.uponIn (Fr ro) 0 P a next Q r:=by
 cases r with
 |ok x w'=>
  cases x<;>simp only [Oper.upon] at h<;>simp only [Oper.uponIn]<;>
   first
    |exact h
    |exact ⟨fun hh=>absurd (a:=false=true) hh Bool.false_ne_true,(zjf h).mono (fun e w'' he=>by cases e<;>exact he)⟩
    |exact ⟨fun hh=>absurd (a:=false=true) hh Bool.false_ne_true,znX h⟩
    |exact False.elim h
 |halt x w'=>cases x<;>simp only [Oper.upon] at h<;>simp only [Oper.uponIn]<;>exact h
omit [W0] in
theorem zeM {o:Oper} (hd:ZF o=true) (ρ:Operand→Value):o.semAt ro ρ=execOp ρ o:=Oper.semAt_eq ro ρ o (zkL hd)
omit [W0] in
theorem zmc {o:Oper} {a:Act} {w:World} {next:Act→World→Prop} (hd:ZF o=true) (h:o.wp P a w next Q):o.wpIn (Fr ro) 0 P a w next Q:=by
 refine ⟨fun _ _=>trivial,?_⟩
 show o.uponIn (Fr ro) 0 P a next Q ((o.semAt ro a.eval).run P w)
 rw [zeM hd]
 exact zod h
omit [W0] in
theorem QE {ops:Array Oper} (hN:NL Q):∀{rest:List Oper} {a:Act} {w:World},rest.all ZF=true→wpList P ops Q rest a w→wpListIn (Fr ro) 0 P ops Q rest a w
 |[],_,_,_,h=>h
 |o::rest,a,w,hd,h=>by
  simp only [List.all_cons,Bool.and_eq_true] at hd
  unfold wpList at h
  unfold wpListIn
  split
  ·rename_i hw
   rw [if_pos hw] at h
   rcases h with h|⟨_,a',w',hl⟩
   ·exact Oper.wpIn_mono (fun a w hh=>QE hN hd.2 hh) (zmc hd.1 h)
   ·exact absurd hl (hN.out a' w')
  ·rename_i hw
   rw [if_neg hw] at h
   exact ⟨fun _ _=>trivial,QE hN hd.2 h⟩
omit [W0] in
theorem zoj {ops:Array Oper} (hN:NL Q) (hd:∀(i:Nat) (o:Oper),ops[i]? =some o→ZF o=true) {i:Nat} {K K':Act→World→Prop} {a:Act} {w:World} (hk:∀a w,K a w→K' a w) (h:wpOp P ops Q i K a w):wpOpIn (Fr ro) 0 P ops Q i K' a w:=by
 unfold wpOp at h
 unfold wpOpIn
 split
 ·rename_i ho;rw [ho] at h;exact hk _ _ h
 ·rename_i o ho
  rw [ho] at h
  simp only at h
  split
  ·rename_i hw
   rw [if_pos hw] at h
   rcases h with h|⟨_,a',w',hl⟩
   ·exact Oper.wpIn_mono hk (zmc (hd i o ho) h)
   ·exact absurd hl (hN.out a' w')
  ·rename_i hw
   rw [if_neg hw] at h
   exact ⟨fun _ _=>trivial,hk _ _ h⟩
omit [W0] in
theorem ze6 {ops:Array Oper} {md:Region.Mode} (hN:NL Q) (hd:∀(i:Nat) (o:Oper),ops[i]? =some o→ZF o=true):∀(fuel:Nat) (listed:Array Bool) (a:Act) (w:World),wpAny P md ops Q fuel listed a w→wpAnyIn (Fr ro) 0 P md ops Q fuel listed a w
 |0,_,_,_,h=>h
 |fuel+1,listed,a,w,h=>⟨h.1,fun i hi=>zoj hN hd (fun a w hh=>ze6 hN hd fuel _ a w hh) (h.2 i hi)⟩
structure Wic (P:Program) (n:Nat) (ro:Option Nat) (c:Code) (Q:Exit→Act→World→Prop) (M:List (Nat × Value)) (L:List Chunk):Prop where
 out:∀a w,St n M a→Holds w L→c.wpIn (Fr ro) 0 P Q a w
structure Wjc (P:Program) (n:Nat) (ro:Option Nat) (ops:Array Oper) (Q:Exit→Act→World→Prop) (rest:List Oper) (M:List (Nat × Value)) (L:List Chunk):Prop where
 out:∀a w,St n M a→Holds w L→wpListIn (Fr ro) 0 P ops Q rest a w
theorem Wic.holds {L':List Chunk} {c:Code} (h:Wic P n ro c Q M L') (hl:∀w,Holds w L→Holds w L'):Wic P n ro c Q M L:=⟨fun a w ha hw=>h.out a w ha (hl w hw)⟩
theorem Wic.sub {M':List (Nat × Value)} {c:Code} (h:Wic P n ro c Q M' L) (hs:Sub M' M):Wic P n ro c Q M L:=⟨fun a w ha hw=>h.out a w (ha.sub hs) hw⟩
theorem zcE {x y:Code} (h:Wic P n ro x (Exit.then (y.wpIn (Fr ro) 0 P Q) Q) M L):Wic P n ro (.seq x y) Q M L:=⟨fun a w ha hw=>wpIn_seq (h.out a w ha hw)⟩
theorem zae (h:WQ n (Q .normal) M L):Wic P n ro .skip Q M L:=⟨fun a w ha hw=>wpIn_skip (h.out a w ha hw)⟩
theorem zad {id:Nat} (h:WQ n (Q (.exit id)) M L):Wic P n ro (.exit id) Q M L:=⟨fun a w ha hw=>wpIn_exit (h.out a w ha hw)⟩
theorem zcD (h:WQ n (Q .ret) M L):Wic P n ro .ret Q M L:=⟨fun a w ha hw=>wpIn_ret (h.out a w ha hw)⟩
theorem XG {id:Nat} {c:Code} (h:Wic P n ro c (Exit.inBlock id Q) M L):Wic P n ro (.block id c) Q M L:=⟨fun a w ha hw=>wpIn_block (h.out a w ha hw)⟩
theorem zcB {c:Operand} {x y:Code} {t:Bool} (hc:ev M c=some (.bool t)) (ht:t=true→Wic P n ro x Q M L) (hf:t=false→Wic P n ro y Q M L) :
 Wic P n ro (.cond c x y) Q M L:=⟨fun a w ha hw=>wpIn_cond_split (ha.eval hc) (fun h=>(ht h).out a w ha hw) (fun h=>(hf h).out a w ha hw)⟩
theorem zaf {c:Operand} {x y:Code} (hc:ev M c=some (.bool true)) (ht:Wic P n ro x Q M L):Wic P n ro (.cond c x y) Q M L:=⟨fun a w ha hw=>wpIn_cond_true (ha.eval hc) (ht.out a w ha hw)⟩
theorem XH {c:Operand} {x y:Code} (hc:ev M c=some (.bool false)) (ht:Wic P n ro y Q M L):Wic P n ro (.cond c x y) Q M L:=⟨fun a w ha hw=>wpIn_cond_false (ha.eval hc) (ht.out a w ha hw)⟩
theorem zhO {id:Nat} {l:List Oper} (hN:NL Q) (hd:l.all ZF=true) (h:WL P n l.toArray Q l M L):Wic P n ro (.region id l.toArray false) Q M L:=⟨fun a w ha hw=>wpIn_region_lit (QE hN hd (h.out a w ha hw))⟩
theorem zgq {id:Nat} {l:List Oper} (h:Wjc P n ro l.toArray Q l M L):Wic P n ro (.region id l.toArray false) Q M L:=⟨fun a w ha hw=>wpIn_region_lit (h.out a w ha hw)⟩
theorem zmB {l:List Oper} (hd:l.all ZF=true):∀(i:Nat) (o:Oper),l.toArray[i]? =some o→ZF o=true:=fun i o h=>by
 rw [List.getElem?_toArray] at h
 exact (List.all_eq_true.1 hd) o (List.mem_of_getElem? h)
theorem zgp (S:List Chunk) (T:List Nat) {id:Nat} {ops:List Oper} (hN:NL Q) (hd:ops.all ZF=true) (hm:P.follows .mixedOrders=true) (h:WR P n ops Q S T ops.length (Array.replicate ops.length false) M L):Wic P n ro (.region id ops.toArray true) Q M L:=⟨fun a w ha hw=>by
 refine wpIn_region_any hm (ze6 hN (zmB hd) _ _ _ _ (XA (S:=fun w=>Holds w S) (T:=T) _ _ _ _ ?_))
 have:=h.out a { w with drawn:=w.drawn+1 } ha (hw.same rfl rfl rfl)
 simpa using this⟩
theorem ziP {ops:Array Oper} (h:WQ n (Q .normal) M L):Wjc P n ro ops Q [] M L:=⟨fun a w ha hw=>h.out a w ha hw⟩
theorem zom {ops:Array Oper} {rest:List Oper} {o:Oper} (hg:o.guard=none) (hd:ZF o=true) (h:OW P n o (Wjc P n ro ops Q rest) M L):Wjc P n ro ops Q (o::rest) M L:=⟨fun a w ha hw=>by
 unfold wpListIn
 rw [if_pos (by simp [Region.wanted,hg])]
 exact zmc hd (h.out a w _ Q ha hw fun M' L' hk=>⟨hk.out⟩)⟩
theorem XI {c:Code} (h:Wic P n ro c Q M L):WQ n (c.wpIn (Fr ro) 0 P Q) M L:=⟨h.out⟩
theorem zcC {X:Type} {c:Code} (MI:X→List (Nat × Value)) (LI:X→List Chunk) (J:X→Prop) (μ:X→Nat) (x0:X) (hJ:J x0) (hM:Sub (MI x0) M) (hL:∀w,Holds w L→Holds w (LI x0))
 (hround:∀x,J x→Wic P n ro c (Exit.then (fun a' w'=>∃x',μ x' < μ x∧J x'∧St n (MI x') a'∧Holds w' (LI x')) Q) (MI x) (LI x)):Wic P n ro (.loop c) Q M L:=⟨fun a w ha hw=>by
 intro b k cs hro hb hr
 have key:∀m x,μ x=m→J x→∀a w,St n (MI x) a→Holds w (LI x)→
  ∃e a' w',Q e a' w'∧ArrivesIn (Machine.fenced P (Fr ro)) P (lone (b.atR a (.code c::.inLoop c::k)) cs w) b k cs e a' w':=by
  intro m
  induction m using Nat.strongRecOn with
  |_ m ih=>
   intro x hm hx a w ha hw
   obtain ⟨e,a₁,w₁,hq,harr⟩:=(hround x hx).out a w ha hw b (.inLoop c::k) cs hro hb hr
   subst hm
   cases e with
   |normal=>
    obtain ⟨x',hlt,hJ',ha',hw'⟩:=hq
    obtain ⟨e₂,a₂,w₂,hq₂,harr₂⟩:=ih (μ x') hlt x' rfl hJ' a₁ w₁ ha' hw'
    exact ⟨e₂,a₂,w₂,hq₂,.of_steps (StepsIn.trans harr (.one (fenced_calm hb hr rfl) stepR_inLoop)) harr₂⟩
   |exit id=>exact ⟨_,a₁,w₁,hq,.pass (x:=.inLoop c) rfl (fun _ _=>.inl (by simp)) harr⟩
   |goto l=>exact ⟨_,a₁,w₁,hq,.pass (x:=.inLoop c) rfl (fun _ _=>.inl (by simp)) harr⟩
   |ret=>exact ⟨_,a₁,w₁,hq,.pass (x:=.inLoop c) rfl (fun _ _=>.inl (by simp)) harr⟩
   |panic ch=>exact ⟨_,a₁,w₁,hq,.pass (x:=.inLoop c) rfl (fun _ _=>.inl (by simp)) harr⟩
   |outgrown=>exact ⟨_,a₁,w₁,hq,.pass (x:=.inLoop c) rfl (fun _ _=>.inl (by simp)) harr⟩
 obtain ⟨e,a',w',hq,harr⟩:=key _ x0 rfl hJ a w (ha.sub hM) (hL w hw)
 exact ⟨e,a',w',hq,.of_steps (.one (fenced_calm hb hr rfl) stepR_loop) harr⟩⟩
end
end Go.Vx
namespace Go.Vx
open Go
set_option linter.all false
variable [W0]
section
variable {P : Program} {n : Nat} {ro : Option Nat} {Q : Exit → Act → World → Prop} {M : List (Nat × Value)} {L : List Chunk} {K : List (Nat × Value) → List Chunk → Prop}
structure Yd (P:Program) (l:Nat) (args:List Value) (L:List Chunk) (post:List Chunk→Prop):Prop where
 out:∀w,Holds w L→∃fn tmps assign body,(Instr.yield l args.toArray).run P w=.ok (.round l fn tmps assign body) w∧
  RoundIn Fence.wide 0 P l fn tmps assign body w (fun e w'=>e=.returned (.bool true)∧∃L',post L'∧Holds w' L')
theorem zdL {ops:Array Oper} {rest:List Oper} {d l:Nat} {ty:TypeId} {ps:String} {af:Array Edge} {x:Operand} {xs:List Operand} {ats:Array TypeId} {vs:List Value} {post:List Chunk→Prop}
 (hx:ev M x=some (.func (.yield l) #[] #[])) (hvs:evs M xs=some vs) (hy:Yd P l vs L post) (hn:Nat.blt d n=true) (h:∀L',post L'→Wjc P n ro ops Q rest ((d,.bool true)::M) L') :
 Wjc P n ro ops Q (⟨some d,.call ⟨.value x,xs.toArray,ats⟩,ty,ps,af,none⟩::rest) M L:=⟨fun a w ha hw=>by
 unfold wpListIn
 rw [if_pos (by simp [Region.wanted])]
 refine ⟨fun _ _=>trivial,?_⟩
 obtain ⟨fn,tmps,assign,body,hrun,hround⟩:=hy.out w hw
 have hr:(execOp a.eval ⟨some d,.call ⟨.value x,xs.toArray,ats⟩,ty,ps,af,none⟩).run P w=.ok (.round l fn tmps assign body) w:=by
  have hm:Array.map a.eval xs.toArray=vs.toArray:=by rw [←ha.evals hvs];simp
  simp only [execOp,resolve,ha.eval hx,hm,Deferred.ofValue,Sem.run_bind,Sem.run_pure,Result.andThen_ok,invoke]
  simpa using hrun
 show Oper.uponIn (Fr ro) 0 P _ a _ Q ((Oper.semAt ro a.eval _).run P w)
 rw [zeM rfl,hr]
 refine ⟨fun hh=>absurd (a:=false=true) hh Bool.false_ne_true,?_⟩
 refine RoundIn.mono (F:=Fr ro) (show RoundIn (Fr ro) (0 - 1) P l fn tmps assign body w _ from hround) ?_
 rintro e w' ⟨rfl,L',hp,hw'⟩
 exact (h L' hp).out _ _ (ha.put _ hn) hw'⟩
def ziX (P:Program) (l:Nat) (xs:List (List Value)) (J:Nat→List Chunk→Prop):Prop:=
 ∀(R:List Chunk) (k:Nat) (L':List Chunk),k < xs.length→J k L'→Yd P l (xs.getD k []) (L'++R) (fun L''=>∃L3,J (k+1) L3∧L''=L3++R)
structure It (P:Program) (gf:FuncId) (lb:Array Value) (Lit:List Chunk) (xs:List (List Value)):Prop where
 out:∀(l:Nat) (J:Nat→List Chunk→Prop) (L0:List Chunk),J 0 L0→ziX P l xs J→∀w,Holds w (L0++Lit)→
  CallsIn Fence.wide 0 P gf (#[.func (.yield l) #[] #[]]++lb) w (fun e w'=>∃v L',e=.returned v∧(∃L3,J xs.length L3∧L'=L3++Lit)∧Holds w' L')
theorem It.of_body {gf:FuncId} {fn:Func} {c:Code} {lb:List Value} {Lit:List Chunk} {xs:List (List Value)} (hf:P.funcs[gf]? =some fn) (hb:fn.body=some c) (hle:Nat.ble (lb.length+1) fn.ntmps=true)
 (h:∀(l:Nat) (J:Nat→List Chunk→Prop) (L0:List Chunk),J 0 L0→ziX P l xs J→Wic P fn.ntmps none c (bodyPost P fn (fun e w'=>∃v L',e=.returned v∧(∃L3,J xs.length L3∧L'=L3++Lit)∧Holds w' L')) (params 0 (.func (.yield l) #[] #[]::lb)) (L0++Lit)) :
 It P gf lb.toArray Lit xs:=⟨fun l J L0 h0 hy w hw=>by
 have e:#[Value.func (.yield l) #[] #[]]++lb.toArray=(Value.func (.yield l) #[] #[]::lb).toArray:=by simp
 rw [e]
 refine callsIn_of_wp hf hb trivial ((h l J L0 h0 hy).out _ w ⟨rfl,?_,?_⟩ hw)
 ·have:=Nat.le_of_ble_eq_true hle
  simp;omega
 ·intro t v ht
  obtain ⟨_,h2⟩:=Z6 (.func (.yield l) #[] #[]::lb) 0 t v ht
  have h2':(Value.func (.yield l) #[] #[]::lb)[t]? =some v:=by simpa using h2
  have hlt:t < (Value.func (.yield l) #[] #[]::lb).length:=by
   rcases Nat.lt_or_ge t (Value.func (.yield l) #[] #[]::lb).length with h'|h'
   ·exact h'
   ·simp [List.getElem?_eq_none h'] at h2'
  rw [Array.getElem?_append_left (by simpa using hlt)]
  simpa using h2'⟩
def zp6 (zs:List (Nat × Value)) (M:List (Nat × Value)):List (Nat × Value):=zs.foldl (fun M x=>x::M) M
theorem St.setp:∀{zs:List (Nat × Value)} {M:List (Nat × Value)} {tm:Array Value},St n M ⟨tm,[]⟩→zs.all (fun z=>Nat.blt z.1 n)=true→St n (zp6 zs M) ⟨zs.foldl (fun t x=>t.setIfInBounds x.1 x.2) tm,[]⟩
 |[],_,_,h,_=>h
 |z::r,M,tm,h,hz=>by
  simp only [List.all_cons,Bool.and_eq_true] at hz
  exact St.setp (zs:=r) (M:=z::M) (tm:=tm.setIfInBounds z.1 z.2) (h.put z.2 hz.1) hz.2
theorem Holds.putL {w:World} {l:Nat} {o o':Obj} (h:Holds w ([(l,o)]::L)):Holds (w.putObj l o') ([(l,o')]::L):=by
 have hb:w.heap[l]? =some o:=Fnd.here.get h
 have hlt:l < w.heap.size:=(Array.getElem?_eq_some_iff.1 hb).1
 exact h.upd .here (World.putObj_heap_same hlt) (fun c hc=>World.putObj_heap_other hc) rfl rfl
theorem NL.body {fn:Func} {X:Value→List Chunk→World→Prop}:NL (bodyPost P fn (fun e w'=>∃v L3,e=.returned v∧X v L3 w')):=⟨fun a w h=>by
 obtain ⟨v,L3,he,_⟩:=h
 cases he⟩
def zqU (o:Oper):Bool:=match o.op with|.call c=>(match c.callee with|.value (.tmp _)=>false|_=>true)|_=>true
theorem ZR {id:Nat} {l:List Oper} (hv:l.all zqU=true) (hN:NL Q) (hd:l.all ZF=true) (h:WL P n l.toArray Q l M L):Wic P n ro (.region id l.toArray false) Q M L:=zhO hN hd h
theorem Fnd.right {A B:List Chunk} {b:Nat} {o:Obj} (h:Fnd B b o):Fnd (A++B) b o:=by
 simp only [Fnd,List.flatten_append,List.mem_append] at *;exact .inr h
theorem Fnd.left {A B:List Chunk} {b:Nat} {o:Obj} (h:Fnd A b o):Fnd (A++B) b o:=by
 simp only [Fnd,List.flatten_append,List.mem_append] at *;exact .inl h
def RP (J:Nat→List Chunk→Prop) (k:Nat) (R:List Chunk):Exit→Act→World→Prop:=fun e _ w=>e=.normal∧∃L3,J k L3∧Holds w (L3++R)
theorem zgo {J:Nat→List Chunk→Prop} {k:Nat} {R:List Chunk}:PO (RP J k R):=⟨fun c a d v w h=>by cases h.1⟩
theorem zbO {J:Nat→List Chunk→Prop} {k:Nat} {R:List Chunk}:NL (RP J k R):=⟨fun a w h=>by cases h.1⟩
theorem ziT {J:Nat→List Chunk→Prop} {k:Nat} {R:List Chunk} (L3:List Chunk) (hJ:J k L3) (hL:∀w,Holds w L→Holds w (L3++R)):WQ n (RP J k R .normal) M L:=⟨fun a w _ hw=>⟨rfl,L3,hJ,hL w hw⟩⟩
def AP (n:Nat) (MA:List (Nat × Value)) (L:List Chunk):Exit→Act→World→Prop:=Exit.then (fun a w=>St n MA a∧Holds w L) (fun _ _ _=>False)
theorem zbK {MA:List (Nat × Value)} {L:List Chunk}:NL (AP n MA L):=⟨fun a w h=>h⟩
theorem zoo {MA:List (Nat × Value)} {L1:List Chunk} (hs:Sub MA M) (hL:∀w,Holds w L→Holds w L1):WQ n (AP n MA L1 .normal) M L:=⟨fun a w ha hw=>⟨ha.sub hs,hL w hw⟩⟩
theorem ziW {S:List Chunk} {ops:List Oper} {T:List Nat} {fuel:Nat} {listed:Array Bool} {d:Nat} {v:Value} (i:Nat) {o:Oper} (h:WR P n ops Q S T fuel (listed.setIfInBounds i true) ((d,v)::M) L)
 (hi:ops[i]? =some o:=by exact rfl) (hg:o.guard=none:=by exact rfl) (hb:takeB ops T listed i=true:=by kernel_rfl) (hPO:PO Q:=by exact iP) (hinc:Inc S L:=by exact iC) (he:EV P n o M S d v:=by exact (by first|(show EV _ _ ⟨_,.move _,_,_,_,_⟩ _ _ _ _;first|exact ZN rfl)|(show EV _ _ ⟨_,.assign _,_,_,_,_⟩ _ _ _ _;first|exact yP rfl)|(show EV _ _ ⟨_,.nilCheck _,_,_,_,_⟩ _ _ _ _;first|exact qX rfl)|(show EV _ _ ⟨_,.fieldAddr ..,_,_,_,_⟩ _ _ _ _;first|exact qm rfl|exact yH rfl)|(show EV _ _ ⟨_,.load ..,_,_,_,_⟩ _ _ _ _;first|exact zx rfl (by repeat (first|assumption|exact Fnd.here|refine Fnd.there ?_)) rfl|exact qV rfl (by repeat (first|assumption|exact Fnd.here|refine Fnd.there ?_)) rfl)|(show EV _ _ ⟨_,.binOp ..,_,_,_,_⟩ _ _ _ _;first|exact Xi rfl rfl rfl|exact qR rfl rfl rfl (by omega)|exact ZP rfl rfl (by decide) (Z9 (by omega) (by simp [IntKind.bits];rfl))|exact uy rfl rfl|exact Zb rfl rfl|exact Za rfl rfl|exact qo rfl rfl|exact qp rfl rfl|exact qY rfl rfl|exact qZ rfl rfl|exact vO rfl rfl|exact vP rfl rfl)|(show EV _ _ ⟨_,.convert ..,_,_,_,_⟩ _ _ _ _;first|exact zO rfl (wrap_i64 (by omega) (by omega))|exact zO rfl (wrap_u64 (by omega) (by omega))|exact zO rfl rfl)|(show EV _ _ ⟨_,.extract ..,_,_,_,_⟩ _ _ _ _;first|exact w9 rfl rfl)|(show EV _ _ ⟨_,.unOp ..,_,_,_,_⟩ _ _ _ _;first|exact Xl rfl)|(show EV _ _ ⟨_,.pick ..,_,_,_,_⟩ _ _ _ _;first|exact ZO rfl rfl)|(show EV _ _ ⟨_,.call ⟨.builtin .len,_,_⟩,_,_,_,_⟩ _ _ _ _;first|exact u7 rfl|exact vQ rfl)|(show EV _ _ ⟨_,.call ⟨.builtin .cap,_,_⟩,_,_,_,_⟩ _ _ _ _;first|exact u6 rfl)|(show EV _ _ ⟨_,.call ⟨.builtin .min,_,_⟩,_,_,_,_⟩ _ _ _ _;first|exact Xk rfl rfl)|(show EV _ _ ⟨_,.call ⟨.builtin .max,_,_⟩,_,_,_,_⟩ _ _ _ _;first|exact Xj rfl rfl)|(show EV _ _ ⟨_,.makeInterface ..,_,_,_,_⟩ _ _ _ _;first|exact yM rfl)|(show EV _ _ ⟨_,.makeFunc ..,_,_,_,_⟩ _ _ _ _;first|exact qW rfl rfl)|(show EV _ _ ⟨_,.typeAssert ..,_,_,_,_⟩ _ _ _ _;first|exact qB rfl|exact qU rfl rfl)|(show EV _ _ ⟨_,.build ..,_,_,_,_⟩ _ _ _ _;first|exact uo rfl (by simp [zA,patch,Value.cells];rfl)))) (hn:Nat.blt d n=true:=by exact rfl) :
 WR P n ops Q S T (fuel+1) listed M L:=zah i hi hg hb hPO hinc he hn h
theorem zdK {g:Operand} {ps:List Tmp} {assign body:Code} {gf:FuncId} {lb:Array Value} [hbd:BD P gf] (hx:ev M g=some (.func (.func gf) #[] lb)) {Lit:List Chunk} {xs:List (List Value)} (hit:It P gf lb Lit xs)
 (J:Nat→List Chunk→Prop) (L0:List Chunk) (h0:J 0 L0) (hL:∀w,Holds w L→Holds w (L0++Lit)) (hps:∀k,k < xs.length→(xs.getD k []).length=ps.length) (hpn:ps.all (fun t=>Nat.blt t n)=true)
 (MA:Nat→List Chunk→List (Nat × Value))
 (hassign:∀(l k:Nat) (L' R:List Chunk),k < xs.length→J k L'→Wic P n (some l) assign (AP n (MA k L') (L'++R)) (zp6 (ps.zip (xs.getD k [])) M) (L'++R))
 (hbody:∀(l k:Nat) (L' R:List Chunk),k < xs.length→J k L'→Wic P n (some l) body (RP J (k+1) R) (MA k L') (L'++R))
 (hdone:∀(D:Nat) (a:Act) (w:World) (L3:List Chunk),St n M { a with defers:=[] }→a.defers=[⟨.collected D,#[]⟩]→J xs.length L3→Holds w ([(D,.deferred (some []))]::(L3++Lit))→Q .normal a w) :
 WC P n (.rangeFunc g ps.toArray assign body) Q M L:=⟨fun a w ha hw=>by
 refine (wpIn_wide (n:=0)).1 (wpIn_rangeFunc fun fn _=>?_)
 obtain ⟨rec,hrec⟩:∃rec:LoopState→Loop,rec=fun st=>{ state:=st,pending:=none,fn,tmps:=a.tmps,params:=ps.toArray,assign,body,defers:=w.heap.size }:=⟨_,rfl⟩
 obtain ⟨D,hD⟩:∃D,D=w.heap.size:=⟨_,rfl⟩
 obtain ⟨l,hl⟩:∃l,l=w.heap.size+1:=⟨_,rfl⟩
 have hW1:Holds ((w.alloc (.deferred (some []))).alloc (.loop (rec .ready))) ([(l,.loop (rec .ready))]::[(D,.deferred (some []))]::(L0++Lit)):=by
  have h1:=((hL w hw).alloc (.deferred (some []))).alloc (.loop (rec .ready))
  rw [World.size_alloc,←hl,←hD] at h1
  exact h1
 obtain ⟨W1,hW1e⟩:∃W1,W1=(w.alloc (.deferred (some []))).alloc (.loop (rec .ready)):=⟨_,rfl⟩
 rw [←hW1e] at hW1
 refine ⟨l,[{ target:=.collected D,args:=#[] }],W1,{ target:=.fn (.func gf) lb,args:=#[.func (.yield l) #[] #[]] },W1,gf,#[.func (.yield l) #[] #[]]++lb,W1,?_,?_,fun _ _=>trivial,?_,fun hh=>absurd (a:=false=true) hh Bool.false_ne_true,?_⟩
 ·have:=run_enterLoop_outer (P:=P) (w:=w) fn a.tmps ps.toArray assign body
  rw [hl,hD,hW1e,hrec]
  exact this
 ·simp only [resolve,ha.eval hx]
  simp [Deferred.ofValue,Act.eval]
 ·simp only [invoke]
  exact ZT hbd.out _ _
 ·obtain ⟨J',hJ'⟩:∃J':Nat→List Chunk→Prop,∀k L'',J' k L''↔∃L',J k L'∧L''=[(l,.loop (rec .ready))]::[(D,.deferred (some []))]::L':=⟨fun k L''=>∃L',J k L'∧L''=[(l,.loop (rec .ready))]::[(D,.deferred (some []))]::L',fun _ _=>Iff.rfl⟩
  have hyd:ziX P l xs J':=by
   intro R k L'' hk hj
   obtain ⟨L',hj0,rfl⟩:=(hJ' k L'').1 hj
   refine ⟨fun w1 hw1=>?_⟩
   have hrl:w1.heap[l]? =some (.loop (rec .ready)):=Fnd.here.get hw1
   have hy:=run_yield (P:=P) (args:=(xs.getD k []).toArray) hrl (by rw [hrec];simpa using hps k hk)
   rw [hrec] at hy
   refine ⟨fn,_,assign,body,hy,roundIn_of_wpIn trivial ?_⟩
   have hperm:∀(A B:Chunk),(A::B::(L'++R)).Perm (L'++(A::B::R)):=fun A B=>by
    refine ((List.perm_middle (l₁:=L') (a:=A) (l₂:=B::R)).trans (.cons A ?_)).symm
    exact List.perm_middle
   have hst:St n (zp6 (ps.zip (xs.getD k [])) M) ⟨(ps.zip (xs.getD k [])).foldl (fun t x=>t.setIfInBounds x.1 x.2) a.tmps,[]⟩:=by
    refine St.setp ⟨rfl,ha.size,ha.get⟩ ?_
    rw [List.all_eq_true]
    intro z hz
    exact (List.all_eq_true.1 hpn) z.1 (List.of_mem_zip hz).1
   have ha1:=(hassign l k L' ([(l,.loop (rec .ready))]::[(D,.deferred (some []))]::R) hk hj0).out _ w1 hst (hw1.perm (hperm _ _))
   have etm:(ps.toArray.zip (xs.getD k []).toArray).foldl (fun tmps (x:Tmp × Value)=>tmps.setIfInBounds x.1 x.2) a.tmps=(ps.zip (xs.getD k [])).foldl (fun t x=>t.setIfInBounds x.1 x.2) a.tmps:=by simp
   show Code.wpIn (Fence.wide.inRound l) 0 P assign _ { tmps:=(ps.toArray.zip (xs.getD k []).toArray).foldl (fun tmps (x:Tmp × Value)=>tmps.setIfInBounds x.1 x.2) a.tmps,defers:=[] } w1
   rw [etm]
   refine wpIn_mono (F:=Fr (some l)) ha1 ?_
   rintro e a2 w2 h2
   cases e with
   |normal=>
    obtain ⟨hs2,hw2⟩:=h2
    have hw2':=hw2.perm (hperm _ _).symm
    have hrl2:w2.heap[l]? =some (.loop (rec .ready)):=Fnd.here.get hw2'
    have hw3:=hw2'.putL (o':=.loop { rec .ready with state:=.busy })
    refine ⟨_,run_beginRound hrl2 (by rw [hrec]),?_⟩
    have hb1:=(hbody l k L' ([(l,.loop { rec .ready with state:=.busy })]::[(D,.deferred (some []))]::R) hk hj0).out a2 _ hs2 (hw3.perm (hperm _ _))
    refine wpIn_mono (F:=Fr (some l)) hb1 ?_
    rintro e a3 w4 ⟨rfl,L3,hj3,hw4⟩
    have hperm3:([(l,.loop { rec .ready with state:=.busy })]::[(D,.deferred (some []))]::(L3++R)).Perm (L3++([(l,.loop { rec .ready with state:=.busy })]::[(D,.deferred (some []))]::R)):=by
     refine ((List.perm_middle (l₁:=L3)).trans (.cons _ ?_)).symm
     exact List.perm_middle
    have hw4':=hw4.perm hperm3.symm
    have hrl4:w4.heap[l]? =some (.loop { rec .ready with state:=.busy }):=Fnd.here.get hw4'
    refine ⟨_,_,run_endRound none hrl4,?_⟩
    refine ⟨rfl,_,⟨_,(hJ' (k+1) _).2 ⟨L3,hj3,rfl⟩,rfl⟩,?_⟩
    have hw5:=hw4'.putL (o':=.loop (rec .ready))
    have er:(Obj.loop { { rec .ready with state:=.busy } with state:=if (none:Option Code).isNone then .ready else .done,pending:=none })=.loop (rec .ready):=by rw [hrec];rfl
    rw [er]
    exact hw5
   |exit id=>exact h2.elim
   |goto t=>exact h2.elim
   |ret=>exact h2.elim
   |panic c=>exact h2.elim
   |outgrown=>exact h2.elim
  have hW1':Holds W1 (([(l,.loop (rec .ready))]::[(D,.deferred (some []))]::L0)++Lit):=hW1
  have hcall:=hit.out l J' _ ((hJ' 0 _).2 ⟨L0,h0,rfl⟩) hyd _ hW1'
  refine CallsIn.mono hcall ?_
  rintro e w3 ⟨v,L3',rfl,⟨L3,hj3,rfl⟩,hw3⟩
  obtain ⟨L4,hj4,rfl⟩:=(hJ' _ _).1 hj3
  have hrl3:w3.heap[l]? =some (.loop (rec .ready)):=Fnd.here.get hw3
  have hpn:(rec .ready).pending=none:=by rw [hrec]
  have hend:(Instr.endLoop l).run P w3=.ok none (w3.putObj l (.loop { rec .ready with state:=.exhausted })):=
   (run_endLoop (P:=P) hrl3 (by rw [hrec];intro h;cases h)).trans (by simp [hpn])
  refine ⟨none,w3.putObj l (.loop { rec .ready with state:=.exhausted }),hend,?_⟩
  have hw5:Holds (w3.putObj l (.loop { rec .ready with state:=.exhausted })) ([(l,.loop { rec .ready with state:=.exhausted })]::[(D,.deferred (some []))]::(L4++Lit)):=hw3.putL
  refine hdone D _ _ L4 ⟨rfl,ha.size,ha.get⟩ ?_ hj4 hw5.drop
  show [_]++a.defers=_
  rw [ha.defers]
  rfl⟩
structure Wmc (P:Program) (n D:Nat) (c:Code) (Q:Exit→Act→World→Prop) (M:List (Nat × Value)) (L:List Chunk):Prop where
 out:∀a w,St n M { a with defers:=[] }→a.defers=[⟨.collected D,#[]⟩]→Holds w L→c.wp P Q a w
structure Wnc (P:Program) (n D:Nat) (ops:Array Oper) (Q:Exit→Act→World→Prop) (rest:List Oper) (M:List (Nat × Value)) (L:List Chunk):Prop where
 out:∀a w,St n M { a with defers:=[] }→a.defers=[⟨.collected D,#[]⟩]→Holds w L→wpList P ops Q rest a w
structure Wpc (n D:Nat) (q:Act→World→Prop) (M:List (Nat × Value)) (L:List Chunk):Prop where
 out:∀a w,St n M { a with defers:=[] }→a.defers=[⟨.collected D,#[]⟩]→Holds w L→q a w
theorem zoY {D:Nat} {x y:Code} (h:Wmc P n D x (Exit.then (y.wp P Q) Q) M L):Wmc P n D (.seq x y) Q M L:=⟨fun a w ha hd hw=>wp_seq (h.out a w ha hd hw)⟩
theorem zoX {D:Nat} (h:Wpc n D (Q .ret) M L):Wmc P n D .ret Q M L:=⟨fun a w ha hd hw=>wp_ret (h.out a w ha hd hw)⟩
theorem zhP {D:Nat} {id:Nat} {l:List Oper} (h:Wnc P n D l.toArray Q l M L):Wmc P n D (.region id l.toArray false) Q M L:=⟨fun a w ha hd hw=>wp_region_lit (h.out a w ha hd hw)⟩
theorem zoZ {D:Nat} {ops:Array Oper} (h:Wpc n D (Q .normal) M L):Wnc P n D ops Q [] M L:=⟨fun a w ha hd hw=>wpList_nil (h.out a w ha hd hw)⟩
theorem zon {D:Nat} {ops:Array Oper} {rest:List Oper} {o:Oper} {d:Nat} {v:Value} (hg:o.guard=none) (he:EV P n o M L d v) (hn:Nat.blt d n=true) (h:Wnc P n D ops Q rest ((d,v)::M) L):Wnc P n D ops Q (o::rest) M L:=⟨fun a w ha hd hw=>by
 unfold wpList
 rw [if_pos (by simp [Region.wanted,hg])]
 refine .inl ?_
 unfold Oper.wp
 have hr:=he.run { a with defers:=[] } w ha hw
 have hae:({ a with defers:=[] }:Act).eval=a.eval:=by funext x;cases x<;>rfl
 rw [hae] at hr
 rw [hr,Oper.upon_value,he.dst]
 refine h.out _ w (ha.put v hn) ?_ hw
 exact hd⟩
theorem zms {D:Nat} {c:Code} {K:Act→World→Prop} (hK:K=c.wp P Q) (h:Wmc P n D c Q M L):Wpc n D K M L:=by subst hK;exact ⟨h.out⟩
theorem ziS {D:Nat} {fn:Func} {post:Value→List Chunk→Prop} {rs:List ResultVar} {vs:List Value} {e:Exit} (he:e=.ret∨e=.normal) (hr:fn.results=rs.toArray) (h:Yi M rs=some vs) {L1:List Chunk} (hL:∀w,Holds w L→Holds w ([(D,.deferred (some []))]::L1)) (hp:post (zV vs) L1) :
 Wpc n D (bodyPostM Fence.wide 0 P fn (fun e w'=>∃v L',e=.returned v∧post v L'∧Holds w' L') e) M L:=⟨fun a w ha hd hw=>by
 have key:LeavesInM Fence.wide 0 P fn a.tmps (fun e w'=>∃v L',e=.returned v∧post v L'∧Holds w' L') a.defers .returning w:=by
  rw [hd]
  have hw2:=hL w hw
  have hk:w.heap[D]? =some (.deferred (some [])):=Fnd.here.get hw2
  have hw3:Holds (w.putObj D (.deferred none)) ([(D,.deferred none)]::L1):=hw2.putL
  refine ⟨by simp,.inl ⟨D,_,rfl,run_takeDeferred hk,?_⟩⟩
  exact ⟨zV vs,uI (a:={ a with defers:=[] }) ha hr h,zV vs,L1,rfl,hp,hw3.drop⟩
 rcases he with rfl|rfl<;>exact key⟩
theorem Gv.of_bodyM {f:FuncId} {fn:Func} {c:Code} {args:List Value} {post:Value→List Chunk→Prop} (hf:P.funcs[f]? =some fn) (hb:fn.body=some c) (hle:Nat.ble args.length fn.ntmps=true)
 (h:WC P fn.ntmps c (bodyPostM Fence.wide 0 P fn (fun e w'=>∃v L',e=.returned v∧post v L'∧Holds w' L')) (params 0 args) L):Gv P f args.toArray L post:=⟨fun w hw=>by
 refine (callsIn_wide (n:=0)).1 (callsIn_of_wp_marks hf hb trivial ((wpIn_wide (n:=0)).2 (h.out _ w ⟨rfl,?_,?_⟩ hw)))
 ·have:=Nat.le_of_ble_eq_true hle
  simp;omega
 ·intro t v ht
  obtain ⟨_,h2⟩:=Z6 args 0 t v ht
  have h2':args[t]? =some v:=by simpa using h2
  have hlt:t < args.length:=by
   rcases Nat.lt_or_ge t args.length with h'|h'
   ·exact h'
   ·simp [List.getElem?_eq_none h'] at h2'
  rw [Array.getElem?_append_left (by simpa using hlt)]
  simpa using h2'⟩
theorem kTi {c:Operand} {x y:Code} {t:Bool} {p:Prop} (ht:p→Wic P n ro x Q M L) (hc:ev M c=some (.bool t):=by exact rfl) (hn:t=false→False:=by (intro hc;(try simp only [nrB] at hc);first|omega|exact hc trivial|exact hc rfl)) (hp:t=true→p:=by (intro hc;(try simp only [nrB] at hc);exact hc)):Wic P n ro (.cond c x y) Q M L:=
 zcB hc (fun h=>ht (hp h)) (fun h=>(hn h).elim)
theorem kFi {c:Operand} {x y:Code} {t:Bool} {p:Prop} (hf:p→Wic P n ro y Q M L) (hc:ev M c=some (.bool t):=by exact rfl) (hn:t=true→False:=by (intro hc;(try simp only [nrB] at hc);first|omega|exact hc trivial|exact hc rfl)) (hp:t=false→p:=by (intro hc;(try simp only [nrB] at hc);exact hc)):Wic P n ro (.cond c x y) Q M L:=
 zcB hc (fun h=>(hn h).elim) (fun h=>hf (hp h))
theorem kQi {c:Operand} {x y:Code} {t:Bool} {p q:Prop} (ht:p→Wic P n ro x Q M L) (hf:q→Wic P n ro y Q M L) (hc:ev M c=some (.bool t):=by exact rfl) (hp:t=true→p:=by (intro hc;(try simp only [nrB] at hc);exact hc)) (hq:t=false→q:=by (intro hc;(try simp only [nrB] at hc);exact hc)):Wic P n ro (.cond c x y) Q M L:=
 zcB hc (fun h=>ht (hp h)) (fun h=>hf (hq h))
theorem kI {p q:Prop} (h:q) (s:Wr q→p:=by (intro h9;(first|(show WL _ _ _ _ _ _ _;first|refine jA ?_|refine jB ?_|refine jC ?_|refine jD ?_|refine jE ?_|refine jF ?_)|(show OW _ _ _ _ _ _;first|refine zdJ ?_|refine jI ?_|refine jJ ?_)|(show Wic _ _ _ _ _ _ _;first|refine zcE ?_|refine ZR rfl (by repeat (first|with_reducible exact NL.body|with_reducible exact zbO|with_reducible exact zbK|with_reducible refine NL.then ?_|with_reducible refine NL.block ?_)) rfl ?_|refine zaf rfl ?_|refine XH rfl ?_|refine zae ?_|refine zcD ?_|refine zad ?_|refine XG ?_)|(show WQ _ _ _ _;with_reducible first|refine jV ?_|refine XI ?_|refine jX ?_|refine jY ?_|refine jZ ?_|refine kA ?_|refine kB ?_|refine kC ?_));(repeat (first|(show WL _ _ _ _ _ _ _;first|refine jA ?_|refine jB ?_|refine jC ?_|refine jD ?_|refine jE ?_|refine jF ?_)|(show OW _ _ _ _ _ _;first|refine zdJ ?_|refine jI ?_|refine jJ ?_)|(show Wic _ _ _ _ _ _ _;first|refine zcE ?_|refine ZR rfl (by repeat (first|with_reducible exact NL.body|with_reducible exact zbO|with_reducible exact zbK|with_reducible refine NL.then ?_|with_reducible refine NL.block ?_)) rfl ?_|refine zaf rfl ?_|refine XH rfl ?_|refine zae ?_|refine zcD ?_|refine zad ?_|refine XG ?_)|(show WQ _ _ _ _;with_reducible first|refine jV ?_|refine XI ?_|refine jX ?_|refine jY ?_|refine jZ ?_|refine kA ?_|refine kB ?_|refine kC ?_)));exact h9.out)):p:=s ⟨h⟩
theorem kJ {p A g:Prop} (h:p→A) (s:Wr (p→A)→g:=by (intro h9;first|((show Wic _ _ _ _ _ _ _);first|exact kTi h9.out|exact kFi h9.out)|((show WL _ _ _ _ _ _ _);first|(refine jG (fun hc=>?_) (fun hc=>?_);(focus (rw [hc];have h8:=hc;(try simp only [nrB] at h8);exact h9.out h8));(exfalso;(try simp only [nrB] at hc);first|done|omega))|(refine jG (fun hc=>?_) (fun hc=>?_);rotate_left;(focus (rw [hc];have h8:=hc;(try simp only [nrB] at h8);exact h9.out h8));(exfalso;(try simp only [nrB] at hc);first|done|omega))))):g:=s ⟨h⟩
theorem kK {p q A B g:Prop} (ht:p→A) (hf:q→B) (s:Wr ((p→A)∧(q→B))→g:=by (intro h9;first|((show Wic _ _ _ _ _ _ _);exact kQi h9.out.1 h9.out.2)|((show WL _ _ _ _ _ _ _);(refine jG (fun hc=>?_) (fun hc=>?_);(focus (rw [hc];have h8:=hc;(try simp only [nrB] at h8);exact h9.out.1 h8));(rw [hc];have h8:=hc;(try simp only [nrB] at h8);exact h9.out.2 h8))))):g:=s ⟨ht,hf⟩
theorem kL {p q:Prop} (h:q) (s:Wr q→p:=by (intro h9;(first|(show Wjc _ _ _ _ _ _ _ _;first|refine zom rfl rfl ?_|refine ziP ?_)|(show OW _ _ _ _ _ _;first|refine zdJ ?_|refine jI ?_|refine jJ ?_)|(show Wic _ _ _ _ _ _ _;first|refine zcE ?_|refine ZR rfl (by repeat (first|with_reducible exact NL.body|with_reducible exact zbO|with_reducible exact zbK|with_reducible refine NL.then ?_|with_reducible refine NL.block ?_)) rfl ?_|refine zaf rfl ?_|refine XH rfl ?_|refine zae ?_|refine zcD ?_|refine zad ?_|refine XG ?_)|(show WQ _ _ _ _;with_reducible first|refine jV ?_|refine XI ?_|refine jX ?_|refine jY ?_|refine jZ ?_|refine kA ?_|refine kB ?_|refine kC ?_));(repeat (first|(show Wjc _ _ _ _ _ _ _ _;first|refine zom rfl rfl ?_|refine ziP ?_)|(show OW _ _ _ _ _ _;first|refine zdJ ?_|refine jI ?_|refine jJ ?_)|(show Wic _ _ _ _ _ _ _;first|refine zcE ?_|refine ZR rfl (by repeat (first|with_reducible exact NL.body|with_reducible exact zbO|with_reducible exact zbK|with_reducible refine NL.then ?_|with_reducible refine NL.block ?_)) rfl ?_|refine zaf rfl ?_|refine XH rfl ?_|refine zae ?_|refine zcD ?_|refine zad ?_|refine XG ?_)|(show WQ _ _ _ _;with_reducible first|refine jV ?_|refine XI ?_|refine jX ?_|refine jY ?_|refine jZ ?_|refine kA ?_|refine kB ?_|refine kC ?_)));exact h9.out)):p:=s ⟨h⟩
end
end Go.Vx
namespace Go.Proofs.YtfbfcapoobmdpaaGreatDoor
open Go Go.Vx Go.Hf Go.If
variable [W0]
set_option maxRecDepth 4000
set_option linter.all false
theorem zl8 (p q most k:Nat) (v:Value) (a:Option Addr) (c:Nat) (dl:List Nat) (fa:Option Addr) (fc:Nat) (d:List UInt8) (s:S6) (C:Chunk) (L:List Chunk) (hd:Sl L 1 (.slice a dl.length c) dl.length (yg (icn dl))) (hok:cdE (icn dl)=0)
 (hv:Sl L 1 (.slice fa d.length fc) d.length (bsv d)) (hl:d.length≤1000000) (ht:s.t≤8 * d.length) (hm:most≤1000000) (ho:Ow 5 1 v s.out.length (bsv s.out) C) (hk1:257≤k) (hk2:k≤1000) :
 Gv Tryz.prog 139 [.pointer (some ⟨p,0,none⟩),.int .i64 (k:Int),.slice a dl.length c].toArray (wkC p q v most s.e::biC q fa d.length fc s.t::C::L) (fun r L'=>
  ∃v' C',r=.tuple #[]∧Ow 5 1 v' (mtS d most k dl s).out.length (bsv (mtS d most k dl s).out) C'∧L'=wkC p q v' most (mtS d most k dl s).e::biC q fa d.length fc (mtS d most k dl s).t::C'::L∧(mtS d most k dl s).t≤8 * d.length):=by
 refine Gv.of_body Tryz.func139 rfl rfl ?_
 have hil:(icn dl).length=dl.length:=zL dl
 by_cases h285:285 < k
 ·have hf:=wN p q most 3 s.e v (biC q fa d.length fc s.t::C::L)
  unfold mtS
  simp only [if_pos h285,ZC,vU,ql]
  (refine kW ?_;refine kV fun hc=>?_;refine kW ?_)
  refine cC rfl rfl hf (fun r L' hp=>?_)
  obtain ⟨rfl,rfl⟩:=hp
  refine kW ?_
  refine kR ?_
  exact ⟨_,iC,v,C,rfl,ho,rfl,ht⟩
 have hms:mtS d most k dl s=if (sy d (tk d s (lnB k).2) dl).e≠0 then sy d (tk d s (lnB k).2) dl
  else if 29 < sv d (tk d s (lnB k).2) dl then fl (sy d (tk d s (lnB k).2) dl) 3
  else mtD d most ((lnB k).1+tv d s (lnB k).2) (sv d (tk d s (lnB k).2) dl) (sy d (tk d s (lnB k).2) dl):=by
  unfold mtS
  rw [if_neg h285]
 rw [hms]
 clear hms
 have hb0:=zi1 3 (k - 257) 4 8 20 (wkC p q v most s.e::biC q fa d.length fc s.t::C::L) (by omega) (by omega) (by omega) (by omega) (fun i hi=>Nat.le_trans (zfr i (by omega)) (by decide))
 have hbl:=ziZ (k - 257) (by omega)
 have hxl:=zfr (k - 257) (by omega)
 obtain ⟨n0,hn0⟩:∃n0,n0=(lnB k).1:=⟨_,rfl⟩
 obtain ⟨mo,hmo⟩:∃mo,mo=(lnB k).2:=⟨_,rfl⟩
 rw [←hn0,←hmo]
 have hn400:n0≤400∧mo≤6∧(k=285→n0=258∧mo=0)∧(k≠285→n0=baB 3 4 8 (k - 257)∧mo=exB (k - 257) 4 8):=by
  rw [hn0,hmo]
  unfold lnB
  split
  ·exact ⟨by simp,by simp,fun _=>⟨rfl,rfl⟩,fun h=>by omega⟩
  ·exact ⟨hbl,hxl,fun h=>by omega,fun _=>⟨rfl,rfl⟩⟩
 obtain ⟨hq1,hq2,hq3,hq4⟩:=hn400
 (refine kW ?_;refine kV fun hc=>?_;refine kW ?_)
 rw [show (k:Int) - 257=((k - 257:Nat):Int) from by omega]
 refine cP rfl rfl hb0 ?_
 (repeat' first|refine kY ?_|refine kU fun bk=>?_|refine kV fun hc=>?_|refine kZ (fun hc=>?_) fun hc=>?_|fail)
 refine Zx (X:=Unit) (fun _=>[(0,.pointer (some ⟨p,0,none⟩)),(2,.slice a dl.length c),(6,.int .i64 (n0:Int)),(7,.int .i64 (mo:Int))]) (fun _=>wkC p q v most s.e::biC q fa d.length fc s.t::C::L) (fun _=>True) ?_ ?_
 ·(repeat' first|refine kW ?_|refine kU fun bk=>?_|refine kV fun hc=>?_|refine kZ (fun hc=>?_) fun hc=>?_|fail)
  ·obtain ⟨rfl,rfl⟩:=hq3 (by omega)
   exact yA () trivial iS (fun w h=>h)
  ·obtain ⟨e1,e2⟩:=hq4 (by omega)
   rw [←e1,←e2]
   exact yA () trivial iS (fun w h=>h)
 intro _ _
 clear hb0 hbl hxl hq3 hq4 hn0 hmo
 have ht1:=wY p q most mo v fa fc d s (C::L) (zm hv) (by omega) ht (by omega)
 have hs1:=fun h=>zgk p q most v a c (icn dl) fa fc d (tk d s mo) (C::L) (by rw [hil];exact zm hd) hok (zm hv) (by omega) h
 rw [hil,Zh] at hs1
 have htv:=wU d s mo
 have hto:=yw d s mo
 have hpw:2 ^ mo≤2 ^ 6:=Nat.pow_le_pow_right (by decide) hq2
 obtain ⟨n,hn⟩:∃n,n=n0+tv d s mo:=⟨_,rfl⟩
 rw [←hn]
 generalize hz:tv d s mo=z at ht1 htv hn
 generalize tk d s mo=s1 at ht1 hs1 hto ⊢
 rw [←hto] at ho
 refine kW ?_
 refine cC rfl rfl ht1 (fun r L' hp=>?_)
 obtain ⟨rfl,rfl,hb1⟩:=hp
 refine kW ?_
 rw [show (n0:Int)+(z:Int)=(n:Int) from by omega]
 refine cC rfl rfl (hs1 hb1) (fun r L' hp=>?_)
 obtain ⟨rfl,rfl,hb2⟩:=hp
 have hw1:∀v e (L:List Chunk),wkC p q v most e::L=[(p,cl [.pointer (some ⟨q,0,none⟩),v,.int .i64 (most:Int),.int .i64 (e:Int)] 153)]::L:=fun _ _ _=>rfl
 have hso:=zbt d s1 dl
 generalize sv d s1 dl=t
 generalize sy d s1 dl=s2 at hb2 hso ⊢
 rw [←hso] at ho
 clear hs1 ht1
 rw [hw1]
 (repeat' first|refine kW ?_|refine kU fun bk=>?_|refine kV fun hc=>?_|refine kZ (fun hc=>?_) fun hc=>?_|fail)
 ·rw [if_pos (show s2.e≠0 by omega)]
  refine kR ?_
  exact ⟨_,iC,v,C,rfl,ho,rfl,hb2⟩
 ·rw [if_neg (show ¬s2.e≠0 by omega),if_pos (show 29 < t by omega)]
  have hf:=wN p q most 3 s2.e v (biC q fa d.length fc s2.t::C::L)
  simp only [ZC,vU,ql]
  refine cC rfl rfl hf (fun r L' hp=>?_)
  obtain ⟨rfl,rfl⟩:=hp
  refine kW ?_
  refine kR ?_
  exact ⟨_,iC,v,C,rfl,ho,rfl,hb2⟩
 rw [if_neg (show ¬s2.e≠0 by omega),if_neg (show ¬29 < t by omega)]
 have hb0:=zi1 1 t 2 4 20 (wkC p q v most s2.e::biC q fa d.length fc s2.t::C::L) (by omega) (by omega) (by omega) (by omega) (fun i hi=>Nat.le_trans (zjO i (by omega)) (by decide))
 have hbl:=zo2 t (by omega)
 have hxl:=zjO t (by omega)
 have hbp:=zgt t
 unfold mtD
 generalize baB 1 2 4 t=f0 at hb0 hbl hbp ⊢
 generalize exB t 2 4=mo at hb0 hxl ⊢
 have ht1:=wY p q most mo v fa fc d s2 (C::L) (zm hv) (by omega) hb2 (by omega)
 have htv:=wU d s2 mo
 have hto:=yw d s2 mo
 have hpw:2 ^ mo≤2 ^ 13:=Nat.pow_le_pow_right (by decide) hxl
 obtain ⟨far,hfar⟩:∃far,far=f0+tv d s2 mo:=⟨_,rfl⟩
 rw [←hfar]
 generalize tv d s2 mo=z2 at ht1 htv hfar
 generalize tk d s2 mo=s3 at ht1 hto ⊢
 rw [←hto] at ho
 refine cP rfl rfl hb0 ?_
 refine kW ?_
 refine cC rfl rfl ht1 (fun r L' hp=>?_)
 obtain ⟨rfl,rfl,hb3⟩:=hp
 (repeat' first|refine kY ?_|refine kU fun bk=>?_|refine kV fun hc=>?_|refine kZ (fun hc=>?_) fun hc=>?_|fail)
 rw [show (f0:Int)+(z2:Int)=(far:Int) from by omega]
 (repeat' first|refine kY ?_|refine kU fun bk=>?_|refine kV fun hc=>?_|refine kZ (fun hc=>?_) fun hc=>?_|fail)
 obtain ⟨s4,hs4⟩:∃s4,s4=if s3.e=0∧s3.out.length < far then fl s3 3 else s3:=⟨_,rfl⟩
 rw [←hs4]
 obtain ⟨va,vc,rfl⟩:=zM ho
 have h4t:s4.t=s3.t:=by rw [hs4];split;exact vU _ _;rfl
 have h4o:s4.out=s3.out:=by rw [hs4];split;exact ql _ _;rfl
 have h4e:s4.e=if s3.e=0∧s3.out.length < far then 3 else s3.e:=by
  rw [hs4]
  split
  ·rename_i h;rw [ZC,if_pos h.1]
  ·rfl
 have h4f:s4.e=0→far≤s4.out.length:=by
  intro h
  rw [h4o]
  rw [h4e] at h
  split at h
  ·cases h
  ·omega
 refine Zx (X:=Unit) (fun _=>[(0,.pointer (some ⟨p,0,none⟩)),(6,.int .i64 (n:Int)),(9,.int .i64 (far:Int))]) (fun _=>wkC p q (.slice va s3.out.length vc) most s4.e::biC q fa d.length fc s4.t::C::L) (fun _=>True) ?_ ?_
 ·have hf:=wN p q most 3 s3.e (.slice va s3.out.length vc) (biC q fa d.length fc s3.t::C::L)
  rw [h4t,hw1,h4e]
  (repeat' first|refine kW ?_|refine kU fun bk=>?_|refine kV fun hc=>?_|refine kZ (fun hc=>?_) fun hc=>?_|fail)
  ·rw [if_pos (show s3.e=0∧s3.out.length < far by omega)]
   rw [if_pos (show s3.e=0 by omega)] at hf
   refine cC rfl rfl hf (fun r L' hp=>?_)
   obtain ⟨rfl,rfl⟩:=hp
   refine kW ?_
   exact yA () trivial iS (fun w h=>h)
  ·rw [if_neg (show ¬(s3.e=0∧s3.out.length < far) by omega)]
   exact yA () trivial iS (fun w h=>h)
  ·rw [if_neg (show ¬(s3.e=0∧s3.out.length < far) by omega)]
   exact yA () trivial iS (fun w h=>h)
 intro _ _
 have ho4:Ow 5 1 (.slice va s3.out.length vc) s4.out.length (bsv s4.out) C:=by rw [h4o];exact ho
 rw [←h4t] at hb3
 clear hs4 h4e h4t h4o hb0 ht1
 refine kW ?_
 refine zn (X:=Nat × S6 × Value × Chunk) (fun x=>[(0,.pointer (some ⟨p,0,none⟩)),(6,.int .i64 (n:Int)),(9,.int .i64 (far:Int)),(11,.int .i64 (x.1:Int))]) (fun x=>wkC p q x.2.2.1 most x.2.1.e::biC q fa d.length fc x.2.1.t::x.2.2.2::L)
  (fun x=>x.1≤n∧x.2.1.t≤8 * d.length∧Ow 5 1 x.2.2.1 x.2.1.out.length (bsv x.2.1.out) x.2.2.2∧(x.2.1.e=0→far≤x.2.1.out.length)∧cpL most far n s4=cpL most far (n - x.1) x.2.1) (fun x=>n - x.1) (0,s4,.slice va s3.out.length vc,C) ⟨Nat.zero_le _,hb3,ho4,h4f,rfl⟩ iS (fun w h=>h) ?_
 rintro ⟨i,s5,v1,C1⟩ ⟨hi,hst,hov,hfr,hsl⟩
 simp only at hi hst hov hfr hsl ⊢
 obtain ⟨wa,wc,rfl⟩:=zM hov
 rw [hw1]
 (repeat' first|refine kW ?_|refine kU fun bk=>?_|refine kV fun hc=>?_|refine kZ (fun hc=>?_) fun hc=>?_|fail)
 ·have he0:s5.e=0:=by omega
  have hfr:=hfr he0
  obtain ⟨k2,hk2⟩:∃k2,n - i=k2+1:=⟨n - i - 1,by omega⟩
  have hk3:n - (i+1)=k2:=by omega
  rw [hk2,cpL,if_pos he0] at hsl
  have hput:=zdG p q most (s5.out.getD (s5.out.length - far) 0) (.slice wa s5.out.length wc) s5 C1 (biC q fa d.length fc s5.t::L) hov hm
  have hov2:=hov
  rcases hov2 with ⟨_,h1,_⟩|⟨b,cap,rest,hve,rfl,hxl,hrl,hmc,hcm⟩
  ·omega
  injection hve with e1 e2 e3
  subst e1 e3
  clear e2
  have hcell:(bsv s5.out++rest).toArray[(s5.out.length - far) * 1]? =some (.int .u8 ((s5.out.getD (s5.out.length - far) 0).toNat:Int)):=by
   rw [Nat.mul_one]
   simpa using z8 (r:=rest) (wW (l:=s5.out) (i:=s5.out.length - far) (b:=s5.out.getD (s5.out.length - far) 0) (by simp [List.getD,show s5.out.length - far < s5.out.length from by omega]))
  have hlen:s5.out.length≤9223372036854775807:=by simp [maxLen] at hcm;omega
  unfold wkC at hput
  refine zk [14] mixed ?_
  (refine za 0 ?_;refine za 1 ?_;refine za 2 ?_;refine za 3 ?_;refine za 4 ?_;refine za 5 ?_;refine za 6 ?_;refine za 7 ?_;refine za 8 ?_;refine za 9 ?_;refine za 10 ?_;refine za 11 ?_)
  rw [show (s5.out.length:Int) - (far:Int)=((s5.out.length - far:Nat):Int) from by omega]
  refine cT 12 rfl rfl (zh (j:=s5.out.length - far) (len:=s5.out.length) rfl rfl rfl (by omega)) ?_
  refine cT 13 rfl rfl (zq rfl (by exact Fnd.there (Fnd.there Fnd.here)) hcell) ?_
  refine cL 14 rfl rfl rfl ?_
  refine cC rfl rfl (Gv.holds hput (fun w h=>iH h)) (fun r L' hp=>?_)
  obtain ⟨v2,C2,rfl,ho3,rfl⟩:=hp
  refine cD ?_
  refine kW ?_
  have hptt:=zeA most s5 (s5.out.getD (s5.out.length - far) 0)
  have hpf:(pt most s5 (s5.out.getD (s5.out.length - far) 0)).e=0→far≤(pt most s5 (s5.out.getD (s5.out.length - far) 0)).out.length:=by
   intro _
   unfold pt
   split
   ·rw [ql];exact hfr
   ·simp;omega
  generalize pt most s5 (s5.out.getD (s5.out.length - far) 0)=s6 at hsl ho3 hptt hpf ⊢
  refine zf (X:=Nat × S6 × Value × Chunk) (μ:=fun x=>n - x.1) (x:=(i,s5,.slice (some ⟨b,0,none⟩) s5.out.length wc,[(b,cl (bsv s5.out++rest) 5)])) (i+1,s6,v2,C2) (by simp only;omega) ⟨by simp only;omega,by simp only;rw [hptt];exact hst,ho3,hpf,by simp only;rw [hk3];exact hsl⟩ iS (fun w h=>?_)
  simp only [hptt]
  unfold wkC
  exact iH h
 ·have he0:¬s5.e=0:=by omega
  obtain ⟨k2,hk2⟩:∃k2,n - i=k2+1:=⟨n - i - 1,by omega⟩
  rw [hk2,cpL,if_neg he0] at hsl
  rw [hsl]
  refine kR ?_
  exact ⟨_,iC,_,C1,rfl,hov,rfl,hst⟩
 ·rw [show n - i=0 from by omega,cpL] at hsl
  rw [hsl]
  refine kR ?_
  exact ⟨_,iC,_,C1,rfl,hov,rfl,hst⟩
theorem ze5 (p q most:Nat) (v:Value) (a a2:Option Addr) (c c2:Nat) (l dl:List Nat) (fa:Option Addr) (fc:Nat) (d:List UInt8) (s:S6) (C:Chunk) (L:List Chunk) (hls:Sl L 1 (.slice a l.length c) l.length (yg (icn l))) (hokl:cdE (icn l)=0) (hll:l.length≤400)
 (hd:Sl L 1 (.slice a2 dl.length c2) dl.length (yg (icn dl))) (hok:cdE (icn dl)=0) (hv:Sl L 1 (.slice fa d.length fc) d.length (bsv d)) (hl:d.length≤1000000) (ht:s.t≤8 * d.length) (hm:most≤1000000) (ho:Ow 5 1 v s.out.length (bsv s.out) C) :
 Gv Tryz.prog 102 [.pointer (some ⟨p,0,none⟩),.slice a l.length c,.slice a2 dl.length c2].toArray (wkC p q v most s.e::biC q fa d.length fc s.t::C::L) (fun r L'=>
  ∃v' C',r=.tuple #[]∧Ow 5 1 v' (cdC d most l dl (8 * d.length+1) s).out.length (bsv (cdC d most l dl (8 * d.length+1) s).out) C'∧L'=wkC p q v' most (cdC d most l dl (8 * d.length+1) s).e::biC q fa d.length fc (cdC d most l dl (8 * d.length+1) s).t::C'::L∧(cdC d most l dl (8 * d.length+1) s).t≤8 * d.length):=by
 refine Gv.of_body Tryz.func102 rfl rfl ?_
 have hil:(icn l).length=l.length:=zL l
 have hw1:∀v e (L:List Chunk),wkC p q v most e::L=[(p,cl [.pointer (some ⟨q,0,none⟩),v,.int .i64 (most:Int),.int .i64 (e:Int)] 153)]::L:=fun _ _ _=>rfl
 generalize hR:cdC d most l dl (8 * d.length+1) s=R
 refine kW ?_
 refine zn (X:=Nat × S6 × Value × Chunk) (fun x=>[(0,.pointer (some ⟨p,0,none⟩)),(1,.slice a l.length c),(2,.slice a2 dl.length c2)]) (fun x=>wkC p q x.2.2.1 most x.2.1.e::biC q fa d.length fc x.2.1.t::x.2.2.2::L)
  (fun x=>x.2.1.t≤8 * d.length∧(x.2.1.e=0→8 * d.length < x.1+x.2.1.t)∧Ow 5 1 x.2.2.1 x.2.1.out.length (bsv x.2.1.out) x.2.2.2∧cdC d most l dl x.1 x.2.1=R) (fun x=>x.1) (8 * d.length+1,s,v,C) ⟨ht,fun _=>by simp only;omega,ho,hR⟩ iS (fun w h=>h) ?_
 rintro ⟨f,s1,v1,C1⟩ ⟨hst,hf,hov,hsl⟩
 simp only at hst hf hov hsl ⊢
 rw [hw1]
 (repeat' first|refine kW ?_|refine kU fun bk=>?_|refine kV fun hc=>?_|refine kZ (fun hc=>?_) fun hc=>?_|fail)
 ·have he0:s1.e=0:=by omega
  have hf:=hf he0
  obtain ⟨f,rfl⟩:∃g,f=g+1:=⟨f - 1,by omega⟩
  have hs1:=zgk p q most v1 a c (icn l) fa fc d s1 (C1::L) (by rw [hil];exact zm hls) hokl (zm hv) (by omega) hst
  rw [hil,Zh] at hs1
  rw [cdC,if_neg (show ¬s1.e≠0 by omega)] at hsl
  have hgo:=fun h=>zoO (d:=d) (l:=l) he0 h
  have hsv:=zoN d s1 l
  have hso:=zbt d s1 l
  have hpt:=fun c=>zeA most (sy d s1 l) c
  have hmt:=fun k=>zoC d most k dl (sy d s1 l)
  rw [←hso] at hov
  generalize sv d s1 l=k at hs1 hsl hsv
  generalize sy d s1 l=s2 at hs1 hsl hgo hso hpt hmt hov
  refine cC rfl rfl hs1 (fun r L' hp=>?_)
  obtain ⟨rfl,rfl,hb2⟩:=hp
  rw [hw1]
  (repeat' first|refine kW ?_|refine kU fun bk=>?_|refine kV fun hc=>?_|refine kZ (fun hc=>?_) fun hc=>?_|fail)
  ·rw [if_pos (show s2.e≠0 by omega)] at hsl
   have he2:s2.e≠0:=by omega
   refine zf (X:=Nat × S6 × Value × Chunk) (μ:=fun x=>x.1) (x:=(f+1,s1,v1,C1)) (f,s2,v1,C1) (by simp only;omega) ⟨hb2,fun h=>absurd h he2,hov,by simp only;rw [zai he2];exact hsl⟩ iS (fun w h=>h)
  ·have hgo:=hgo (by omega)
   rw [if_neg (show ¬s2.e≠0 by omega),if_pos (show k < 256 by omega)] at hsl
   try rw [uZ]
   have hput:=zdG p q most (UInt8.ofNat k) v1 s2 C1 (biC q fa d.length fc s2.t::L) hov hm
   have hpt:=hpt (UInt8.ofNat k)
   unfold wkC at hput
   refine cC rfl rfl (Gv.holds hput (fun w h=>iH h)) (fun r L' hp=>?_)
   obtain ⟨v2,C2,rfl,ho3,rfl⟩:=hp
   refine kW ?_
   generalize pt most s2 (UInt8.ofNat k)=s3 at hsl hpt ho3
   refine zf (X:=Nat × S6 × Value × Chunk) (μ:=fun x=>x.1) (x:=(f+1,s1,v1,C1)) (f,s3,v2,C2) (by simp only;omega) ⟨by simp only;omega,fun _=>by simp only;omega,ho3,hsl⟩ iS (fun w h=>?_)
   simp only [hpt]
   unfold wkC
   exact iH h
  ·rw [if_neg (show ¬s2.e≠0 by omega),if_neg (show ¬k < 256 by omega),if_pos (show k=256 by omega)] at hsl
   rw [←hsl]
   refine kR ?_
   exact ⟨_,iC,v1,C1,rfl,hov,rfl,hb2⟩
  ·have hgo:=hgo (by omega)
   rw [if_neg (show ¬s2.e≠0 by omega),if_neg (show ¬k < 256 by omega),if_neg (show ¬k=256 by omega)] at hsl
   have hmt:=hmt k
   have hma:=zl8 p q most k v1 a2 c2 dl fa fc d s2 C1 L hd hok hv hl hb2 hm hov (by omega) (by omega)
   refine cC rfl rfl hma (fun r L' hp=>?_)
   obtain ⟨v2,C2,rfl,ho3,rfl,hb3⟩:=hp
   refine kW ?_
   generalize mtS d most k dl s2=s3 at hsl hmt ho3 hb3
   refine zf (X:=Nat × S6 × Value × Chunk) (μ:=fun x=>x.1) (x:=(f+1,s1,v1,C1)) (f,s3,v2,C2) (by simp only;omega) ⟨hb3,fun _=>by simp only;omega,ho3,hsl⟩ iS (fun w h=>h)
 ·rw [zai (show s1.e≠0 by omega)] at hsl
  rw [←hsl]
  refine kR ?_
  exact ⟨_,iC,v1,C1,rfl,hov,rfl,hst⟩
end Go.Proofs.YtfbfcapoobmdpaaGreatDoor
namespace Go.Vx
open Go
set_option linter.all false
variable [W0]
section
variable {P : Program} {n : Nat} {M : List (Nat × Value)} {L : List Chunk} {d : Nat} {ty : TypeId} {ps : String} {af : Array Edge} {g : Option (Nat × Bool)} {x y : Operand} {k : IntKind} {i j : Int} {t u : TypeId}
theorem XB (a b:Nat) (hx:ev M x=some (.int k i)) (hy:ev M y=some (.int k j)) (hi:i=(a:Int)) (hj:j=(b:Int)) (hs:k.signed=false) (hr:a+b < 2 ^ k.bits) :
 EV P n ⟨some d,.binOp .add t x y u,ty,ps,af,g⟩ M L d (.int k ((a+b:Nat):Int)):=by
 subst hi hj
 have h:=qj (P:=P) (n:=n) (L:=L) (d:=d) (ty:=ty) (ps:=ps) (af:=af) (g:=g) (op:=.add) (t:=t) (u:=u) hx hy rfl
 rwa [show (a:Int)+(b:Int)=((a+b:Nat):Int) from by omega,yX hs hr] at h
theorem YS (a b:Nat) (hx:ev M x=some (.int k i)) (hy:ev M y=some (.int k j)) (hi:i=(a:Int)) (hj:j=(b:Int)) (hs:k.signed=false) (hr:a * b < 2 ^ k.bits) :
 EV P n ⟨some d,.binOp .mul t x y u,ty,ps,af,g⟩ M L d (.int k ((a * b:Nat):Int)):=by
 subst hi hj
 have h:=qj (P:=P) (n:=n) (L:=L) (d:=d) (ty:=ty) (ps:=ps) (af:=af) (g:=g) (op:=.mul) (t:=t) (u:=u) hx hy rfl
 rwa [show (a:Int) * (b:Int)=((a * b:Nat):Int) from by rw [Int.natCast_mul],yX hs hr] at h
theorem zmk (a b:Nat) (hx:ev M x=some (.int k i)) (hy:ev M y=some (.int k j)) (hi:i=(a:Int)) (hj:j=(b:Int)) (hs:k.signed=false) (hle:b≤a) (hr:a < 2 ^ k.bits) :
 EV P n ⟨some d,.binOp .sub t x y u,ty,ps,af,g⟩ M L d (.int k ((a - b:Nat):Int)):=by
 subst hi hj
 have h:=qj (P:=P) (n:=n) (L:=L) (d:=d) (ty:=ty) (ps:=ps) (af:=af) (g:=g) (op:=.sub) (t:=t) (u:=u) hx hy rfl
 rwa [show (a:Int) - (b:Int)=((a - b:Nat):Int) from by omega,yX hs (by omega)] at h
theorem qD {t k':Nat} [hag:AG P t k'] {b:Nat} {T:TypeId} {vs:List Value} (hx:ev M x=some (.pointer (some ⟨b,0,none⟩))) (hf:Fnd L b (cl vs T)) (hl:vs.length=k') :
 EV P n ⟨some d,.load t x,ty,ps,af,g⟩ M L d (.agg vs.toArray):=zB hx (zK.cl' hf (by simp [cut])) hl
end
omit [W0] in
def ivn (l:List Nat):List Value:=l.map fun (n:Nat)=>Value.int .i64 (n:Int)
theorem zC {l:List Nat}:(ivn l).length=l.length:=by simp [ivn]
theorem qM {l:List Nat}:ones (ivn l)=true:=by simp [ones,ivn,Value.oneCell']
theorem yF {l:List Nat} {i n:Nat} (h:l[i]? =some n):(ivn l)[i]? =some (.int .i64 (n:Int)):=by simp [ivn,h]
end Go.Vx
namespace Go.Hf
set_option linter.all false
def tal (l:List Nat):List Nat:=(List.range 16).map fun n=>if n=0 then 0 else cn l n
theorem Ye (l:List Nat):(tal l).length=16:=by simp [tal]
theorem Zu (l:List Nat) {n:Nat} (h:n < 16):(tal l)[n]? =some (if n=0 then 0 else cn l n):=by simp [tal,h]
theorem vw {a b:List Nat} (ha:a.length=16) (hb:b.length=16) (h:∀n,n < 16→a[n]? =b[n]?):a=b:=by
 apply List.ext_getElem?
 intro n
 rcases Nat.lt_or_ge n 16 with hn|hn
 ·exact h n hn
 ·rw [List.getElem?_eq_none (by omega),List.getElem?_eq_none (by omega)]
theorem zn9 (l:List Nat) {x:Nat} (h0:0 < x) (h:x≤15):(tal l).set x (cn l x+1)=tal (l++[x]):=by
 refine vw (by simp [tal]) (by simp [tal]) fun n hn=>?_
 by_cases he:x=n
 ·subst he
  rw [List.getElem?_set_self (by rw [Ye];exact hn),Zu _ hn,if_neg (by omega),Yr,uQ,if_pos rfl]
  simp [cn]
 ·rw [List.getElem?_set_ne he,Zu _ hn,Zu _ hn,Yr,uQ,if_neg he]
  simp [cn]
theorem zlW (l:List Nat):tal (l++[0])=tal l:=by
 refine vw (by simp [tal]) (by simp [tal]) fun n hn=>?_
 rw [Zu _ hn,Zu _ hn]
 by_cases he:n=0
 ·simp [he]
 ·rw [if_neg he,if_neg he,Yr,uQ,if_neg (by omega)]
  simp [cn]
def fsl (l:List Nat) (i:Nat):List Nat:=(List.range 16).map fun n=>if n < i then fs l n else 0
theorem vV (l:List Nat) (i:Nat):(fsl l i).length=16:=by simp [fsl]
theorem Z0 (l:List Nat) (i:Nat) {n:Nat} (h:n < 16):(fsl l i)[n]? =some (if n < i then fs l n else 0):=by simp [fsl,h]
theorem znd (l:List Nat) {i:Nat} (h:i < 16):(fsl l i).set i (fs l i)=fsl l (i+1):=by
 refine vw (by simp [fsl]) (by simp [fsl]) fun n hn=>?_
 by_cases he:i=n
 ·subst he
  rw [List.getElem?_set_self (by rw [vV];exact hn),Z0 _ _ hn,if_pos (by omega)]
 ·rw [List.getElem?_set_ne he,Z0 _ _ hn,Z0 _ _ hn]
  congr 1
  have:(n < i)=(n < i+1):=by apply propext;omega
  simp only [this]
theorem znc (l:List Nat):fsl l 1=List.replicate 16 0:=by
 refine vw (vV _ _) (by simp) fun n hn=>?_
 rw [Z0 _ _ hn,List.getElem?_replicate,if_pos hn]
 by_cases h:n=0
 ·subst h;rfl
 ·rw [if_neg (by omega)]
theorem znA (ls:List Int) {i:Nat} (hi:i < ls.length):nl (ls.take (i+1))=nl (ls.take i)++[(ls.getD i 0).toNat]:=by
 have hg:ls.getD i 0=ls[i]:=by simp [List.getD,hi]
 rw [List.take_add_one,List.getElem?_eq_getElem hi,hg]
 simp only [nl,List.map_append,List.map_cons,List.map_nil,Option.toList]
end Go.Hf
namespace Go.Proofs.YtfbfcapoobmdpaaGreatDoor
open Go Go.Vx Go.Hf
variable [W0]
set_option maxRecDepth 4000
set_option linter.all false
omit [W0] in
def zI:List Nat:=List.replicate 16 0
omit [W0] in
def Yj (ls:List Int):List Nat:=if okL ls then tal (nl ls) else zI
theorem YO (ls:List Int):(Yj ls).length=16:=by unfold Yj;split<;>simp [tal,zI]
theorem zcr (a:Option Addr) (c:Nat) (ls:List Int) (L:List Chunk) (h:Sl L 1 (.slice a ls.length c) ls.length (yg ls)) (hl:ls.length≤17592186044416) :
 GvP Tryz.prog 258 [.slice a ls.length c].toArray L (.tuple #[.agg (ivn (Yj ls)).toArray,.bool (okL ls)]):=by
 refine Gv.of_body Tryz.func258 rfl rfl ?_
 have hout:∀(b:Bool) (l:List Nat) (M:List (Nat × Value)) (p q:Nat) (o:Obj),okL ls=b→Yj ls=l→lk M 2=some (.pointer (some ⟨p,0,none⟩))→lk M 3=some (.bool b)→
  WQ Tryz.f258.ntmps (bodyPost Tryz.prog Tryz.f258 (fun e w'=>∃v L',e=.returned v∧(v=.tuple #[.agg (ivn (Yj ls)).toArray,.bool (okL ls)]∧L'=L)∧Holds w' L') .ret) M ([(q,o)]::[(p,cl (ivn l) 311)]::L):=by
  intro b l M p q o hb hl2 h2 h3
  have hlen:(ivn l).length=16:=by rw [zC,←hl2,YO]
  refine zX (vs:=[.agg (ivn l).toArray,.bool b]) rfl (.agg ⟨by kernel_rfl,by kernel_rfl⟩ h2 (zK.cl' (vs:=ivn l) (Fnd.there Fnd.here) (by simp [cut])) hlen (.tmp h3 .nil)) ?_
  exact ⟨L,fun w h=>(iC:Inc L _).holds h,by rw [hb,hl2];rfl,rfl⟩
 (refine kX ?_;refine kU fun bk=>?_;refine kX ?_;refine kU fun bk=>?_;refine kX ?_)
 rename_i b2
 obtain ⟨b4,hb4⟩:∃b4,b4=bk:=⟨_,rfl⟩
 rw [←hb4]
 obtain ⟨F,hF⟩:∃F:Nat→List Value,∀i,F i=ivn (tal (nl (ls.take i))):=⟨_,fun _=>rfl⟩
 have hF0:ivn zI=F 0:=by rw [hF];rfl
 have hFl:∀i,(F i).length=16:=fun i=>by rw [hF,zC,Ye]
 refine zn (X:=Nat) (fun i=>[(2,.pointer (some ⟨b2,0,none⟩)),(4,.pointer (some ⟨b4,0,none⟩)),(7,.slice a ls.length c),(8,.int .i64 (ls.length:Int)),(9,.int .i64 (i:Int))])
  (fun i=>[(b4,cl (F i) 311)]::[(b2,cl (ivn zI) 311)]::L) (fun i=>i≤ls.length∧okL (ls.take i)=true) (fun i=>ls.length - i) 0 ⟨Nat.zero_le _,rfl⟩ iS (fun w h=>by rw [←hF0];exact h) ?_
 intro i ⟨hi,hok⟩
 (repeat' first|refine kX ?_|refine kU fun bk=>?_|refine kV fun hc=>?_|refine kZ (fun hc=>?_) fun hc=>?_|fail)
 ·have hlt:i < ls.length:=by omega
  obtain ⟨b,off,cap,cc,T,fr,hve,hfn,hcell⟩:=yV h (wT hlt)
  injection hve with e1 e2 e3
  subst e1 e3
  clear e2
  have hbad:=zhd hlt
  have hgood:=zeu hlt hok
  have hst:=znA ls hlt
  obtain ⟨x,hx⟩:∃x,x=ls.getD i 0:=⟨_,rfl⟩
  rw [←hx] at hcell hst hbad hgood
  refine ze (zi (j:=i) rfl rfl rfl hlt) rfl ?_
  refine kX ?_
  refine ze (zq rfl hfn.there.there hcell) rfl ?_
  have hcap:cn (nl (ls.take i)) x.toNat≤i:=by
   have h1:cn (nl (ls.take i)) x.toNat≤(nl (ls.take i)).length:=List.length_filter_le _ _
   have h2:(nl (ls.take i)).length=i:=by rw [zS,List.length_take];omega
   omega
  (repeat' first|refine kX ?_|refine kU fun bk=>?_|refine kV fun hc=>?_|refine kZ (fun hc=>?_) fun hc=>?_|fail)
  all_goals first
   |(refine zo (l:=ivn zI) (vs:=ivn zI) (ivn zI) rfl rfl (by rfl) qM (by rfl) iU (by decide) ?_
     refine kX ?_
     exact hout false zI _ _ _ _ (hbad (by omega)) (by unfold Yj;rw [hbad (by omega)];rfl) rfl rfl)
   |skip
  ·have hxt:0 < x.toNat:=by omega
   have hx15:x.toNat≤15:=by omega
   have hxn:x=(x.toNat:Int):=by omega
   have hadd:=zn9 (nl (ls.take i)) hxt hx15
   rw [←hst] at hadd
   refine wP ?_ (he:=zQ x.toNat rfl rfl hxn (by omega))
   refine kX ?_
   have hld:nth (F i) (0+x.toNat * 1)=some (.int .i64 ((cn (nl (ls.take i)) x.toNat:Nat):Int)):=by
    rw [hF,yu,Nat.zero_add,Nat.mul_one]
    have:=Zu (nl (ls.take i)) (show x.toNat < 16 by omega)
    rw [if_neg (by omega)] at this
    exact yF this
   refine wP ?_ (he:=zx rfl (by repeat (first|assumption|exact Fnd.here|refine Fnd.there ?_)) hld)
   refine kX ?_
   refine wP ?_ (he:=zQ x.toNat rfl rfl hxn (by omega))
   refine kX ?_
   refine zG (F (i+1)) rfl rfl rfl ?_ iU (by rw [hFl];omega) ?_
   ·rw [Nat.zero_add,Nat.mul_one,hF,hF,←hadd]
    simp [ivn,List.map_set]
   refine kX ?_
   refine zf (X:=Nat) (μ:=fun i=>ls.length - i) (x:=i) (i+1) (by omega) ⟨by omega,hgood (by omega) (by omega)⟩ iS (fun w h=>h)
  ·have hx0:x.toNat=0:=by omega
   rw [hx0] at hst
   have hz:=zlW (nl (ls.take i))
   rw [←hst] at hz
   refine zf (X:=Nat) (μ:=fun i=>ls.length - i) (x:=i) (i+1) (by omega) ⟨by omega,hgood (by omega) (by omega)⟩ iS (fun w h=>?_)
   rw [hF,hz,←hF];exact h
 ·have hil:i=ls.length:=by omega
  rw [hil,List.take_length] at hok
  have hones:ones (F i)=true:=by rw [hF];exact qM
  have hFi:F i=ivn (tal (nl ls)):=by rw [hF,hil,List.take_length]
  refine wP ?_ (he:=qD (vs:=F i) rfl Fnd.here (hFl i))
  refine kX ?_
  refine zo (l:=ivn zI) (vs:=F i) (F i) rfl rfl (hFl i) hones ?_ iU (by rw [hFl];decide) ?_
  ·have e:(ivn zI).length=16:=by decide
   simp [patch,hFl,e]
  rw [hFi]
  refine kX ?_
  exact hout true (tal (nl ls)) _ _ _ _ hok (by unfold Yj;rw [hok];rfl) rfl rfl
theorem zdx (l:List Nat) (L:List Chunk) (hl:l.length≤17592186044416) (h15:∀x∈l,x≤15) :
 GvP Tryz.prog 259 [.agg (ivn (tal l)).toArray].toArray L (.int .i64 ((kS l:Nat):Int)):=by
 have htl:(ivn (tal l)).length=16:=by rw [zC,Ye]
 have htg:∀i,i < 16→(ivn (tal l))[i]? =some (.int .i64 ((if i=0 then 0 else cn l i:Nat):Int)):=fun i hi=>yF (Zu l hi)
 generalize ivn (tal l)=tv at htl htg ⊢
 refine Gv.of_body Tryz.func259 rfl rfl ?_
 (refine kX ?_;refine kU fun bk=>?_;refine kX ?_)
 refine wP ?_ (he:=qD (vs:=tv) rfl Fnd.here htl)
 refine kX ?_
 refine zn (X:=Nat) (fun i=>[(3,.int .i64 ((ks l (i - 1):Nat):Int)),(6,.agg tv.toArray),(7,.int .i64 (i:Int))])
  (fun i=>L) (fun i=>i≤16) (fun i=>16 - i) 0 (Nat.zero_le _) (by rw [show 0 - 1=0 from rfl,zda];exact iS) (fun w h=>(iC:Inc L _).holds h) ?_
 intro i hi
 have hkl:=zgR l
 have hkb:=zgV l i
 have hkb1:=zgV l (i - 1)
 have hst:ks l i=ks l (i - 1)+(if i=0 then 0 else cn l i) * 2 ^ (15 - i):=by
  by_cases h0:i=0
  ·subst h0;simp
  ·have:=X6 l (i - 1)
   rw [show i - 1+1=i from by omega] at this
   rw [if_neg h0];exact this
 (repeat' first|refine kX ?_|refine kU fun bk=>?_|refine kV fun hc=>?_|refine kZ (fun hc=>?_) fun hc=>?_|fail)
 ·have hi15:i < 16:=by omega
  refine wP ?_ (he:=Ym rfl rfl rfl (htg i hi15) hi15)
  obtain ⟨q,hq⟩:∃q,q=if i=0 then 0 else cn l i:=⟨_,rfl⟩
  rw [←hq] at hst ⊢
  have hsz:q * 2 ^ (15 - i)≤ks l i:=by omega
  refine kX ?_
  refine wP ?_ (he:=uq q (15 - i) rfl rfl rfl (by omega) (by omega) (by omega))
  refine kX ?_
  rw [show ((ks l (i - 1):Nat):Int)+((q * 2 ^ (15 - i):Nat):Int)=((ks l i:Nat):Int) from by rw [hst];omega]
  skip
  refine zf (X:=Nat) (μ:=fun i=>16 - i) (x:=i) (i+1) (by omega) (by omega) iS (fun w h=>h)
 ·have h16:i=16:=by omega
  have hka:=zfA (l:=l) (n:=15) h15
  rw [h16,show 16 - 1=15 from rfl,hka]
  exact kE
theorem zeb (l:List Nat) (L:List Chunk) (hk:kS l≤32768) (hl:l.length≤400) :
 GvP Tryz.prog 241 [.agg (ivn (tal l)).toArray].toArray L (.agg (wnv (fsl l 16)).toArray):=by
 have htl:(ivn (tal l)).length=16:=by rw [zC,Ye]
 have htg:∀i,i < 16→(ivn (tal l))[i]? =some (.int .i64 ((if i=0 then 0 else cn l i:Nat):Int)):=fun i hi=>yF (Zu l hi)
 generalize ivn (tal l)=tv at htl htg ⊢
 obtain ⟨F,hF⟩:∃F:Nat→List Value,∀i,F i=wnv (fsl l i):=⟨_,fun _=>rfl⟩
 have hF1:wnv zI=F 1:=by rw [hF,znc];rfl
 have hFl:∀i,(F i).length=16:=fun i=>by rw [hF,wG,vV]
 rw [←hF]
 refine Gv.of_body Tryz.func241 rfl rfl ?_
 (refine kX ?_;refine kU fun bk=>?_;refine kX ?_;refine kU fun bk=>?_;refine kX ?_;refine kU fun bk=>?_;refine kX ?_)
 rename_i b1 b2
 obtain ⟨b3,hb3⟩:∃b3,b3=bk:=⟨_,rfl⟩
 rw [←hb3]
 refine zn (X:=Nat) (fun i=>[(1,.pointer (some ⟨b1,0,none⟩)),(2,.pointer (some ⟨b2,0,none⟩)),(3,.pointer (some ⟨b3,0,none⟩)),(4,.int .i64 (i:Int))])
  (fun i=>[(b3,cl (F i) 314)]::[(b2,cl (wnv zI) 314)]::[(b1,cl tv 311)]::L) (fun i=>1≤i∧i≤16) (fun i=>16 - i) 1 ⟨by omega,by omega⟩ iS (fun w h=>by rw [←hF1];exact h) ?_
 intro i ⟨hi1,hi2⟩
 (repeat' first|refine kX ?_|refine kU fun bk=>?_|refine kV fun hc=>?_|refine kZ (fun hc=>?_) fun hc=>?_|fail)
 ·have hi15:i≤15:=by omega
  have hfit:∀n,1≤n→n≤15→fs l n+cn l n≤32768:=fun n h1 h2=>Nat.le_trans (zaZ hk h1 h2) (Nat.le_trans (Nat.pow_le_pow_right (by decide) h2) (by decide))
  obtain ⟨p,hp⟩:∃p,p=fs l (i - 1):=⟨_,rfl⟩
  obtain ⟨q,hq⟩:∃q,q=if i - 1=0 then 0 else cn l (i - 1):=⟨_,rfl⟩
  have hpq:fs l i=2 * (p+q):=by
   obtain ⟨m,rfl⟩:∃m,i=m+1:=⟨i - 1,by omega⟩
   rw [hp,hq];rfl
  have hsm:p+q≤32768:=by
   by_cases h0:i - 1=0
   ·rw [hp,hq,if_pos h0,h0];simp [fs]
   ·rw [hp,hq,if_neg h0];exact hfit _ (by omega) (by omega)
  have hld1:nth (F i) (0+(i - 1) * 1)=some (.int .u32 (p:Int)):=by
   rw [hF,yu,Nat.zero_add,Nat.mul_one,hp]
   have:=Z0 l i (show i - 1 < 16 by omega)
   rw [if_pos (by omega)] at this
   exact zaA this
  have hld2:nth tv (0+(i - 1) * 1)=some (.int .i64 (q:Int)):=by
   rw [yu,Nat.zero_add,Nat.mul_one,hq]
   exact htg _ (show i - 1 < 16 by omega)
  refine zk [13] mixed ?_
  (refine zy 0 ?_;refine zy 1 ?_;refine zy 2 ?_)
  refine cT 3 rfl rfl (zQ (i - 1) rfl rfl (by omega) (by omega)) ?_
  refine cT 4 rfl rfl (zx rfl (by repeat (first|exact Fnd.here|refine Fnd.there ?_)) hld1) ?_
  (refine zy 5 ?_;refine zy 6 ?_)
  refine cT 7 rfl rfl (zQ (i - 1) rfl rfl (by omega) (by omega)) ?_
  refine cT 8 rfl rfl (zx rfl (by repeat (first|exact Fnd.here|refine Fnd.there ?_)) hld2) ?_
  refine cT 9 rfl rfl (vG q rfl rfl rfl (by simp only [IntKind.bits];omega)) ?_
  refine cT 10 rfl rfl (XB p q rfl rfl rfl rfl rfl (by simp only [IntKind.bits];omega)) ?_
  refine cT 11 rfl rfl (YS 2 (p+q) rfl rfl rfl rfl rfl (by simp only [IntKind.bits];omega)) ?_
  rw [←hpq]
  refine cT 12 rfl rfl (zQ i rfl rfl rfl (by omega)) ?_
  refine cL 13 rfl rfl rfl ?_
  refine zG (F (i+1)) rfl rfl rfl ?_ iU (by rw [hFl];omega) ?_
  ·rw [Nat.zero_add,Nat.mul_one,hF,hF,←znd l (by omega)]
   simp [wnv,List.map_set]
  refine cD ?_
  refine kX ?_
  refine zf (X:=Nat) (μ:=fun i=>16 - i) (x:=i) (i+1) (by omega) ⟨by omega,by omega⟩ iS (fun w h=>h)
 ·have h16:i=16:=by omega
  rw [h16]
  have hl16:(F 16).length=16:=hFl 16
  have ho16:ones (F 16)=true:=by rw [hF];exact zbB
  refine wP ?_ (he:=qD (vs:=F 16) rfl Fnd.here hl16)
  refine kX ?_
  refine zo (l:=wnv zI) (vs:=F 16) (F 16) rfl rfl hl16 ho16 ?_ iU (by rw [hl16];decide) ?_
  ·have e:(wnv zI).length=16:=by decide
   simp [patch,hl16,e]
  refine kX ?_
  refine zX (vs:=[.agg (F 16).toArray]) rfl (.agg ⟨by kernel_rfl,by kernel_rfl⟩ rfl (zK.cl' (vs:=F 16) (Fnd.there Fnd.here) (by simp [cut])) hl16 .nil) ?_
  exact ⟨L,fun w h=>(iC:Inc L _).holds h,rfl,rfl⟩
theorem znf (a0 a1:Option Addr) (c0 c1:Nat) (cs ls:List Nat) (L:List Chunk) (h0:Sl L 1 (.slice a0 cs.length c0) cs.length (yg (icn cs))) (h1:Sl L 1 (.slice a1 ls.length c1) ls.length (yg (icn ls)))
 (hl:cs.length≤1000) (hcB:∀i,cs.getD i 0≤2147483648) (hsB:∀i,ls.getD i 0≤1048576) :
 GvP Tryz.prog 239 [.slice a0 cs.length c0,.slice a1 ls.length c1].toArray L (.int .i64 ((QL cs ls (min cs.length ls.length):Nat):Int)):=by
 refine Gv.of_body Tryz.func239 rfl rfl ?_
 refine kW ?_
 rw [show min (cs.length:Int) (ls.length:Int)=((min cs.length ls.length:Nat):Int) from by omega]
 refine zn (X:=Nat) (fun i=>[(0,.slice a0 cs.length c0),(1,.slice a1 ls.length c1),(5,.int .i64 ((QL cs ls i:Nat):Int)),(11,.int .i64 ((min cs.length ls.length:Nat):Int)),(12,.int .i64 (i:Int))]) (fun _=>L) (fun i=>i≤min cs.length ls.length) (fun i=>cs.length - i) 0 (Nat.zero_le _) iS (fun w h=>h) ?_
 intro i hi
 have hb:=zjv hcB hsB i
 (repeat' first|refine kW ?_|refine kU fun bk=>?_|refine kV fun hc=>?_|refine kZ (fun hc=>?_) fun hc=>?_|fail)
 ·have hlt0:i < cs.length:=by omega
  have hlt1:i < ls.length:=by omega
  obtain ⟨b,off,cap,cc,T,fr,hve,hfn,hcell⟩:=yV h0 (wT (l:=icn cs) (by rw [zL];exact hlt0))
  injection hve with e1 e2 e3
  subst e1 e3
  clear e2
  obtain ⟨b',off',cap',cc',T',fr',hve,hfn',hcell'⟩:=yV h1 (wT (l:=icn ls) (by rw [zL];exact hlt1))
  injection hve with e1 e2 e3
  subst e1 e3
  clear e2
  rw [zej] at hcell hcell'
  have hm:=Nat.mul_le_mul (hcB i) (hsB i)
  have hst:QL cs ls (i+1)=QL cs ls i+cs.getD i 0 * ls.getD i 0:=rfl
  refine zk [] mixed ?_
  (refine za 0 ?_;refine za 1 ?_;refine za 2 ?_)
  refine cT 3 rfl rfl (zi (j:=i) rfl rfl rfl hlt0) ?_
  refine cT 4 rfl rfl (zq rfl hfn hcell) ?_
  (refine za 5 ?_;refine za 6 ?_)
  refine cT 7 rfl rfl (zi (j:=i) rfl rfl rfl hlt1) ?_
  refine cT 8 rfl rfl (zq rfl hfn' hcell') ?_
  refine cT 9 rfl rfl (qR rfl rfl rfl (by rw [←Int.natCast_mul];omega)) ?_
  rw [←Int.natCast_mul]
  (refine za 10 ?_)
  rw [←Int.natCast_add,←hst]
  (refine za 11 ?_)
  refine cD ?_
  refine kW ?_
  refine zf (X:=Nat) (μ:=fun i=>cs.length - i) (x:=i) (i+1) (by omega) (by omega) iS (fun w h=>h)
 ·rw [show i=min cs.length ls.length from by omega]
  exact kE
theorem zeg (a:Option Addr) (c:Nat) (ls:List Int) (L:List Chunk) (h:Sl L 1 (.slice a ls.length c) ls.length (yg ls)) (hl:ls.length≤17592186044416) :
 GvP Tryz.prog 266 [.slice a ls.length c].toArray L (.bool (wgt ls == 32768)):=by
 refine Gv.of_body Tryz.func266 rfl rfl ?_
 have ht:=fun L' h'=>zcr a c ls L' h' hl
 have hs:=fun L' (hok:okL ls=true)=>zdx (nl ls) L' (by rw [zS];exact hl) (fun x hx=>Xw hok hx)
 have hte:okL ls=true→ivn (Yj ls)=ivn (tal (nl ls)):=fun hok=>by unfold Yj;rw [hok];rfl
 have htl:(ivn (Yj ls)).length=16:=by rw [zC,YO]
 have hto:ones (ivn (Yj ls))=true:=qM
 generalize ivn (tal (nl ls))=sv at hs hte
 generalize ivn (Yj ls)=tv at ht hte htl hto
 refine kX ?_
 refine cP rfl rfl (ht L h) ?_
 (refine kX ?_;refine kU fun bk=>?_;refine kX ?_)
 refine yC (L':=[(bk,cl (ivn zI) 311)]::L) (fun w h=>h) ?_
 refine zo (l:=ivn zI) (vs:=tv) tv rfl rfl htl hto ?_ iU (by rw [htl];decide) ?_
 ·have e:(ivn zI).length=16:=by decide
  simp [patch,htl,e]
 cases hok:okL ls with
 |false=>
  rw [show wgt ls= -1 from by unfold wgt;rw [hok];rfl]
  refine kX ?_
  refine kR ?_
  exact ⟨L,iC,rfl,rfl⟩
 |true=>
  have hs:=hs ([(bk,cl tv 311)]::L) hok
  rw [←hte hok] at hs
  rw [show wgt ls=((kS (nl ls):Nat):Int) from by unfold wgt;rw [hok];rfl]
  refine kX ?_
  refine wP ?_ (he:=qD (vs:=tv) rfl Fnd.here htl)
  refine kX ?_
  refine cP rfl rfl hs ?_
  refine kX ?_
  refine kR ?_
  exact ⟨L,iC,rfl,rfl⟩
omit [W0] in
def ZJ (ls:List Int):List Nat:=if cdE ls=0 then tal (nl ls) else zI
theorem YN (ls:List Int):(ZJ ls).length=16:=by unfold ZJ;split<;>simp [tal,zI]
theorem zbY (a:Option Addr) (c:Nat) (ls:List Int) (L:List Chunk) (h:Sl L 1 (.slice a ls.length c) ls.length (yg ls)) (hl:ls.length≤17592186044416) :
 GvP Tryz.prog 240 [.slice a ls.length c].toArray L (.tuple #[.agg (ivn (ZJ ls)).toArray,.int .i64 (cdE ls:Int)]):=by
 refine Gv.of_body Tryz.func240 rfl rfl ?_
 have hout:∀(e:Nat) (l:List Nat) (M:List (Nat × Value)) (p q:Nat) (o:Obj),cdE ls=e→ZJ ls=l→lk M 2=some (.pointer (some ⟨p,0,none⟩))→lk M 3=some (.int .i64 (e:Int))→
  WQ Tryz.f240.ntmps (bodyPost Tryz.prog Tryz.f240 (fun e w'=>∃v L',e=.returned v∧(v=.tuple #[.agg (ivn (ZJ ls)).toArray,.int .i64 (cdE ls:Int)]∧L'=L)∧Holds w' L') .ret) M ([(q,o)]::[(p,cl (ivn l) 311)]::L):=by
  intro b l M p q o hb hl2 h2 h3
  have hlen:(ivn l).length=16:=by rw [zC,←hl2,YN]
  refine zX (vs:=[.agg (ivn l).toArray,.int .i64 (b:Int)]) rfl (.agg ⟨by kernel_rfl,by kernel_rfl⟩ h2 (zK.cl' (vs:=ivn l) (Fnd.there Fnd.here) (by simp [cut])) hlen (.tmp h3 .nil)) ?_
  exact ⟨L,fun w h=>(iC:Inc L _).holds h,by rw [hb,hl2];rfl,rfl⟩
 have ht:=fun L' h'=>zcr a c ls L' h' hl
 have hs:=fun L' (hok:okL ls=true)=>zdx (nl ls) L' (by rw [zS];exact hl) (fun x hx=>Xw hok hx)
 have hte:okL ls=true→ivn (Yj ls)=ivn (tal (nl ls)):=fun hok=>by unfold Yj;rw [hok];rfl
 have htc:cdE ls=0→ivn (Yj ls)=ivn (ZJ ls):=fun h0=>by unfold ZJ;rw [if_pos h0,hte (uP h0).2.1]
 have htl:(ivn (Yj ls)).length=16:=by rw [zC,YO]
 have hto:ones (ivn (Yj ls))=true:=qM
 generalize ivn (tal (nl ls))=sv at hs hte
 generalize ivn (Yj ls)=tv at ht hte htl hto htc
 have hkl:=zgR (nl ls)
 rw [zS] at hkl
 have hbad:∀(e:Nat),0 < e→cdE ls=e→ZJ ls=zI:=fun e h0 he=>by unfold ZJ;rw [if_neg (by omega)]
 (refine kX ?_;refine kU fun bk=>?_;refine kX ?_)
 obtain ⟨b2,hb2⟩:∃b2,b2=bk:=⟨_,rfl⟩
 rw [←hb2]
 clear hb2
 refine cP rfl rfl (ht _ (zm h)) ?_
 (refine kX ?_;refine kU fun bk=>?_;refine kX ?_)
 obtain ⟨b4,hb4⟩:∃b4,b4=bk:=⟨_,rfl⟩
 rw [←hb4]
 refine yC (L':=[(b4,cl (ivn zI) 311)]::[(b2,cl (ivn zI) 311)]::L) (fun w h=>h) ?_
 refine zo (l:=ivn zI) (vs:=tv) tv rfl rfl htl hto ?_ iU (by rw [htl];decide) ?_
 ·have e:(ivn zI).length=16:=by decide
  simp [patch,htl,e]
 have hz:∀(M:List (Nat × Value)) (K:List (Nat × Value)→List Chunk→Prop) (o:Oper) (dst:Operand) (y:Operand) (ty:TypeId) (ps:String) (af:Array Edge) (g:Option (Nat × Bool)),ev M dst=some (.pointer (some ⟨b2,0,none⟩))→ev M y=some (.agg (ivn zI).toArray)→
  K M ([(b4,cl tv 311)]::[(b2,cl (ivn zI) 311)]::L)→OW Tryz.prog Tryz.f240.ntmps ⟨none,.store 311 dst y,ty,ps,af,g⟩ K M ([(b4,cl tv 311)]::[(b2,cl (ivn zI) 311)]::L):=by
  intro M K o dst y ty ps af g h1 h2 h3
  exact zo (l:=ivn zI) (vs:=ivn zI) (ivn zI) h1 h2 (by rfl) qM (by rfl) iU (by decide) h3
 cases hok:okL ls with
 |false=>
  have e1:=(zaj (ls:=ls) (.inr hok)).1
  refine kX ?_
  refine hz _ _ default _ _ _ _ _ _ rfl rfl ?_
  refine kX ?_
  exact hout 1 zI _ _ _ _ e1 (hbad 1 (by omega) e1) rfl rfl
 |true=>
  have hs:=hs ([(b4,cl tv 311)]::[(b2,cl (ivn zI) 311)]::L) hok
  rw [←hte hok] at hs
  (repeat' first|refine kX ?_|refine kU fun bk=>?_|refine kV fun hc=>?_|refine kZ (fun hc=>?_) fun hc=>?_|fail)
  ·have e1:=(zaj (ls:=ls) (.inl (by omega))).1
   refine hz _ _ default _ _ _ _ _ _ rfl rfl ?_
   refine kX ?_
   exact hout 1 zI _ _ _ _ e1 (hbad 1 (by omega) e1) rfl rfl
  refine wP ?_ (he:=qD (vs:=tv) rfl Fnd.here htl)
  refine kX ?_
  refine cP rfl rfl hs ?_
  (repeat' first|refine kX ?_|refine kU fun bk=>?_|refine kV fun hc=>?_|refine kZ (fun hc=>?_) fun hc=>?_|fail)
  ·have e1:=(zbW (ls:=ls) (by omega) hok (by omega)).1
   refine hz _ _ default _ _ _ _ _ _ rfl rfl ?_
   refine kX ?_
   exact hout 3 zI _ _ _ _ e1 (hbad 3 (by omega) e1) rfl rfl
  ·have e1:=(Yq (ls:=ls) (by omega) hok (by omega)).1
   refine wP ?_ (he:=qD (vs:=tv) rfl Fnd.here htl)
   refine kX ?_
   refine zo (l:=ivn zI) (vs:=tv) tv rfl rfl htl hto ?_ iU (by rw [htl];decide) ?_
   ·have e:(ivn zI).length=16:=by decide
    simp [patch,htl,e]
   rw [htc e1]
   refine kX ?_
   exact hout 0 (ZJ ls) _ _ _ _ e1 rfl rfl rfl
end Go.Proofs.YtfbfcapoobmdpaaGreatDoor
namespace Go.Hf
set_option linter.all false
def nxl (l:List Nat) (i:Nat):List Nat:=(List.range 16).map fun n=>if n=0 then 0 else fs l n+cn (l.take i) n
theorem vY (l:List Nat) (i:Nat):(nxl l i).length=16:=by simp [nxl]
theorem Y5 (l:List Nat) (i:Nat) {n:Nat} (h:n < 16):(nxl l i)[n]? =some (if n=0 then 0 else fs l n+cn (l.take i) n):=by simp [nxl,h]
theorem zkN (l:List Nat):nxl l 0=fsl l 16:=by
 refine vw (vY _ _) (vV _ _) fun n hn=>?_
 rw [Y5 _ _ hn,Z0 _ _ hn,if_pos hn]
 by_cases h:n=0
 ·subst h;rfl
 ·rw [if_neg h];simp [cn]
theorem znB {l:List Nat} {i:Nat} (hi:i < l.length) (h0:0 < l.getD i 0) (h15:l.getD i 0≤15):(nxl l i).set (l.getD i 0) (fs l (l.getD i 0)+cn (l.take i) (l.getD i 0)+1)=nxl l (i+1):=by
 refine vw (by simp [nxl]) (vY _ _) fun n hn=>?_
 rw [Y5 _ _ hn,vI hi]
 by_cases he:l.getD i 0=n
 ·subst he
  rw [List.getElem?_set_self (by rw [vY];exact hn),if_neg (by omega),if_pos rfl,Nat.add_assoc]
 ·rw [List.getElem?_set_ne he,Y5 _ _ hn,if_neg he,Nat.add_zero]
theorem zkM {l:List Nat} {i:Nat} (hi:i < l.length) (h0:l.getD i 0=0):nxl l i=nxl l (i+1):=by
 refine vw (vY _ _) (vY _ _) fun n hn=>?_
 rw [Y5 _ _ hn,Y5 _ _ hn,vI hi]
 by_cases he:n=0
 ·rw [if_pos he,if_pos he]
 ·rw [if_neg he,if_neg he,if_neg (by omega),Nat.add_zero]
def cdp (l:List Nat) (i:Nat):List Nat:=(List.range l.length).map fun j=>if j < i then cd l j else 0
theorem ZW (l:List Nat) (i:Nat):(cdp l i).length=l.length:=by simp [cdp]
theorem zcR {l:List Nat} {i j:Nat} (hj:j < l.length):(cdp l i)[j]? =some (if j < i then cd l j else 0):=by simp [cdp,hj]
theorem zak {l A:List Nat} {i:Nat} (hl:A.length=l.length) (h:∀j,j < l.length→A[j]? =some (if j < i then cd l j else 0)):A=cdp l i:=by
 apply List.ext_getElem?
 intro j
 rcases Nat.lt_or_ge j l.length with hj|hj
 ·rw [h j hj,zcR hj]
 ·rw [List.getElem?_eq_none (by omega),List.getElem?_eq_none (by rw [ZW];exact hj)]
theorem zji (l:List Nat):cdp l 0=List.replicate l.length 0:=by
 refine (zak (by simp) fun j hj=>?_).symm
 rw [List.getElem?_replicate,if_pos hj,if_neg (by omega)]
theorem zmJ {l:List Nat} {i:Nat} (hi:i < l.length):(cdp l i).set i (cd l i)=cdp l (i+1):=by
 refine zak (by simp [cdp]) fun j hj=>?_
 by_cases he:i=j
 ·subst he
  rw [List.getElem?_set_self (by rw [ZW];exact hj),if_pos (by omega)]
 ·rw [List.getElem?_set_ne he,zcR hj]
  congr 1
  have e:(j < i)=(j < i+1):=by apply propext;omega
  simp only [e]
theorem zjh {l:List Nat} {i:Nat} (h0:l.getD i 0=0):cdp l i=cdp l (i+1):=by
 refine zak (ZW _ _) fun j hj=>?_
 rw [zcR hj]
 by_cases he:j=i
 ·subst he
  rw [if_neg (by omega),if_pos (by omega)]
  unfold cd
  rw [if_pos h0]
 ·congr 1
  have e:(j < i)=(j < i+1):=by apply propext;omega
  simp only [e]
theorem zmI (l:List Nat):cdp l l.length=cds l:=by
 refine (zak (by simp [cds]) fun j hj=>?_).symm
 rw [if_pos hj]
 simp [cds,hj]
end Go.Hf
namespace Go.Proofs.YtfbfcapoobmdpaaGreatDoor
open Go Go.Vx Go.Hf
variable [W0]
set_option maxRecDepth 4000
set_option linter.all false
theorem zj6 (a:Option Addr) (c:Nat) (ls:List Int) (L:List Chunk) (h:Sl L 1 (.slice a ls.length c) ls.length (yg ls)) (hl:ls.length≤17592186044416) :
 Gv Tryz.prog 205 [.slice a ls.length c].toArray L (fun r L'=>∃u C,r=.tuple #[u,.int .i64 (cdE ls:Int)]∧L'=C::L∧Ow 88 1 u (cdL ls).length (wnv (cdL ls)) C):=by
 refine Gv.of_body Tryz.func205 rfl rfl ?_
 have hno:cdE ls≠0→∀(M:List (Nat × Value)) (D:Chunk),lk M 2=some (.slice none 0 0)→lk M 3=some (.int .i64 (cdE ls:Int))→
  WQ Tryz.f205.ntmps (bodyPost Tryz.prog Tryz.f205 (fun e w'=>∃v L',e=.returned v∧(∃u C,v=.tuple #[u,.int .i64 (cdE ls:Int)]∧L'=C::L∧Ow 88 1 u (cdL ls).length (wnv (cdL ls)) C)∧Holds w' L') .ret) M (D::L):=by
  intro he M D h2 h3
  refine um (rs:=[.tmp 2,.tmp 3]) (vs:=[.slice none 0 0,.int .i64 (cdE ls:Int)]) rfl (by simp [Yi,h2,h3]) ?_
  have e:cdL ls=[]:=if_neg he
  rw [e]
  exact ⟨[]::L,fun w hw=>Holds.nil.2 hw.drop,_,[],rfl,rfl,.inl ⟨rfl,rfl,rfl,rfl⟩⟩
 have ht:=fun L' h'=>zbY a c ls L' h' hl
 have hf:=fun L' (h0:cdE ls=0)=>zeb (nl ls) L' (uP h0).2.2 (by rw [zS];exact (uP h0).1)
 have hte:cdE ls=0→ivn (tal (nl ls))=ivn (ZJ ls):=fun h0=>by unfold ZJ;rw [if_pos h0]
 have htl:(ivn (ZJ ls)).length=16:=by rw [zC,YN]
 have hto:ones (ivn (ZJ ls))=true:=qM
 generalize ivn (tal (nl ls))=sv at hf hte
 generalize ivn (ZJ ls)=tv at ht hte htl hto
 refine kX ?_
 refine cP rfl rfl (ht _ h) ?_
 (refine kX ?_;refine kU fun bk=>?_;refine kX ?_)
 obtain ⟨b4,hb4⟩:∃b4,b4=bk:=⟨_,rfl⟩
 rw [←hb4]
 refine yC (L':=[(b4,cl (ivn zI) 311)]::L) (fun w h=>h) ?_
 clear hb4
 refine zo (l:=ivn zI) (vs:=tv) tv rfl rfl htl hto ?_ iU (by rw [htl];decide) ?_
 ·have e:(ivn zI).length=16:=by decide
  simp [patch,htl,e]
 (repeat' first|refine kX ?_|refine kU fun bk=>?_|refine kV fun hc=>?_|refine kZ (fun hc=>?_) fun hc=>?_|fail)
 ·exact hno (by omega) _ _ rfl rfl
 have h0:cdE ls=0:=by omega
 obtain ⟨h400,hok,hk⟩:=uP h0
 have hf:=hf ([(b4,cl tv 311)]::L) h0
 rw [hte h0] at hf
 have e2:cdL ls=cds (nl ls):=if_pos h0
 obtain ⟨l,hll⟩:∃l,l=nl ls:=⟨_,rfl⟩
 have hlen:l.length=ls.length:=by rw [hll,zS]
 rw [←hll] at hk hf e2
 have h15:∀x∈l,x≤15:=fun x hx=>Xw hok (by rw [←hll];exact hx)
 have hfit:∀n,1≤n→n≤15→fs l n+cn l n≤32768:=fun n h1 h2=>Nat.le_trans (zaZ hk h1 h2) (Nat.le_trans (Nat.pow_le_pow_right (by decide) h2) (by decide))
 obtain ⟨F,hF⟩:∃F:Nat→List Value,∀i,F i=wnv (nxl l i):=⟨_,fun _=>rfl⟩
 have hFl:∀i,(F i).length=16:=fun i=>by rw [hF,wG,vY]
 have hFo:ones (F 0)=true:=by rw [hF];exact zbB
 rw [←zkN,←hF] at hf
 refine wP ?_ (he:=qD (vs:=tv) rfl Fnd.here htl)
 refine kX ?_
 refine cP rfl rfl hf ?_
 (refine kX ?_;refine kU fun bk=>?_;refine kX ?_)
 obtain ⟨b6,hb6⟩:∃b6,b6=bk:=⟨_,rfl⟩
 rw [←hb6]
 refine yC (L':=[(b6,cl (wnv zI) 314)]::[(b4,cl tv 311)]::L) (fun w h=>h) ?_
 clear hb6
 refine zo (l:=wnv zI) (vs:=F 0) (F 0) rfl rfl (hFl 0) hFo ?_ iU (by rw [hFl];decide) ?_
 ·have e:(wnv zI).length=16:=by decide
  simp [patch,hFl,e]
 refine kX ?_
 refine zJ (m:=ls.length) (c:=ls.length) rfl rfl (by rfl) (by omega) (by omega) (by omega) rfl (fun bn=>?_)
 rw [show zeros (Value.int .u32 0).cells.toList ls.length=wnv (cdp l 0) from by rw [zji,hlen];exact QG _]
 refine kX ?_
 have hls:(nl ls).length=ls.length:=zS ls
 refine zn (X:=Nat) (fun i=>[(6,.pointer (some ⟨b6,0,none⟩)),(7,.slice (some ⟨bn,0,none⟩) ls.length ls.length),(23,.slice a ls.length c),(24,.int .i64 (ls.length:Int)),(25,.int .i64 (i:Int))])
  (fun i=>[(bn,cl (wnv (cdp l i)) 88)]::[(b6,cl (F i) 314)]::[(b4,cl tv 311)]::L) (fun i=>i≤ls.length) (fun i=>ls.length - i) 0 (Nat.zero_le _) iS (fun w h=>h) ?_
 intro i hi
 (repeat' first|refine kX ?_|refine kU fun bk=>?_|refine kV fun hc=>?_|refine kZ (fun hc=>?_) fun hc=>?_|fail)
 ·have hlt:i < ls.length:=by omega
  obtain ⟨b,off,cap,cc,T,fr,hve,hfn,hcell⟩:=yV h (wT hlt)
  injection hve with q1 q2 q3
  subst q1 q3
  clear q2
  have hat:=zdg hok i
  rw [←hll] at hat
  rw [←hat.2.2] at hcell
  obtain ⟨x,hx⟩:∃x,x=l.getD i 0:=⟨_,rfl⟩
  have hx15:x≤15:=by omega
  have hset:=znB (l:=l) (i:=i) (by omega)
  have hskip:=zkM (l:=l) (i:=i) (by omega)
  have hskip2:=zjh (l:=l) (i:=i)
  have hcd:0 < x→cd l i=fs l x+cn (l.take i) x:=fun h=>by unfold cd;rw [←hx,if_neg (by omega)]
  rw [←hx] at hcell hset hskip hskip2
  refine wP ?_ (he:=zi (j:=i) rfl rfl rfl hlt)
  refine kX ?_
  refine wP ?_ (he:=zq rfl hfn.there.there.there hcell)
  (repeat' first|refine kX ?_|refine kU fun bk=>?_|refine kV fun hc=>?_|refine kZ (fun hc=>?_) fun hc=>?_|fail)
  ·have hx0:0 < x:=by omega
   have hsm:=hfit x (by omega) hx15
   have hct:=ZX l i x
   have hct2:cn (l.take i) x+1≤cn l x:=by
    have h1:=vI (l:=l) (j:=i) (by omega) x
    rw [if_pos hx.symm] at h1
    have h2:=ZX l (i+1) x
    omega
   have hcd:=hcd hx0
   have hld:nth (F i) (0+x * 1)=some (.int .u32 ((cd l i:Nat):Int)):=by
    rw [hF,yu,Nat.zero_add,Nat.mul_one]
    have:=Y5 l i (show x < 16 by omega)
    rw [if_neg (by omega),←hcd] at this
    exact zaA this
   refine wP ?_ (he:=zx rfl (by repeat (first|assumption|exact Fnd.here|refine Fnd.there ?_)) hld)
   refine kX ?_
   refine zG (l:=wnv (cdp l i)) (wnv (cdp l (i+1))) rfl rfl rfl (by rw [Nat.mul_one,←zmJ (by omega)];simp [wnv,List.map_set]) iU (by rw [wG,ZW];omega) ?_
   refine kX ?_
   refine wP ?_ (he:=zx rfl (by repeat (first|assumption|exact Fnd.here|refine Fnd.there ?_)) hld)
   refine kX ?_
   refine zG (F (i+1)) rfl rfl rfl ?_ iU (by rw [hFl];omega) ?_
   ·rw [Nat.zero_add,Nat.mul_one,hF,hF,←hset hx0 hx15,←hcd]
    simp only [wnv,List.map_set]
    refine congrArg _ (congrArg _ ?_)
    show (((BitVec.ofNat 32 (cd l i)+1#32).toNat:Nat):Int)=_
    rw [BitVec.toNat_add,BitVec.toNat_ofNat]
    show ((((cd l i) % 4294967296+1) % 4294967296:Nat):Int)=_
    omega
   refine kX ?_
   refine zf (X:=Nat) (μ:=fun i=>ls.length - i) (x:=i) (i+1) (by omega) (by omega) iS (fun w h=>h)
  ·have hx0:x=0:=by omega
   refine zf (X:=Nat) (μ:=fun i=>ls.length - i) (x:=i) (i+1) (by omega) (by omega) iS (fun w h=>?_)
   rw [hF,←hskip hx0,←hskip2 hx0,←hF]
   exact h
 ·have hie:i=l.length:=by omega
  rw [hie,zmI]
  refine kR ?_
  have hcl:(cds l).length=ls.length:=by simp [cds,hlen]
  refine ⟨[(bn,cl (wnv (cds l)) 88)]::L,iC,_,_,by rw [h0];rfl,rfl,?_⟩
  rw [e2,hcl]
  exact .inr ⟨bn,ls.length,[],rfl,by rw [List.append_nil],by rw [wG,hcl,Nat.mul_one],by simp,Nat.le_refl _,by simp [maxLen];omega⟩
end Go.Proofs.YtfbfcapoobmdpaaGreatDoor
namespace Go.Hf
set_option linter.all false
def smb (l:List Nat) (i n:Nat):List Nat:=(List.range i).filter fun j=>l.getD j 0 == n&&decide (0 < n)
theorem ZI (l:List Nat) (i n:Nat):smb l (i+1) n=smb l i n++(if l.getD i 0=n∧0 < n then [i] else []):=by
 unfold smb
 rw [List.range_succ,List.filter_append]
 congr 1
 by_cases h:l.getD i 0=n∧0 < n
 ·rw [if_pos h,List.filter_cons,if_pos (by simp only [Bool.and_eq_true,beq_iff_eq,decide_eq_true_eq];exact h)];rfl
 ·rw [if_neg h,List.filter_cons,if_neg (by simp only [Bool.and_eq_true,beq_iff_eq,decide_eq_true_eq];exact h)];rfl
theorem zp8 (l:List Nat) (i n:Nat):(smb l i n).length≤i:=by
 have:=List.length_filter_le (fun j=>l.getD j 0 == n&&decide (0 < n)) (List.range i)
 rw [List.length_range] at this
 exact this
theorem Ya {l:List Nat} {n:Nat} (h0:0 < n):∀{i:Nat},i≤l.length→(smb l i n).length=cn (l.take i) n
 |0,_=>by simp [smb,cn]
 |i+1,hi=>by
  rw [ZI,List.length_append,Ya h0 (by omega),vI (by omega)]
  congr 1
  by_cases h:l.getD i 0=n
  ·rw [if_pos ⟨h,h0⟩,if_pos h];rfl
  ·rw [if_neg (fun hh=>h hh.1),if_neg h];rfl
theorem zhx (l:List Nat) (n i:Nat):∀k,∃r,smb l (i+k) n=smb l i n++r
 |0=>⟨[],by simp⟩
 |k+1=>by
  obtain ⟨r,hr⟩:=zhx l n i k
  rw [show i+(k+1)=(i+k)+1 from rfl,ZI,hr,List.append_assoc]
  exact ⟨_,rfl⟩
theorem zn3 {l:List Nat} {n i:Nat} (hi:l[i]? =some n) (h0:0 < n):(smb l l.length n)[cn (l.take i) n]? =some i:=by
 have hlt:i < l.length:=(List.getElem?_eq_some_iff.1 hi).1
 have hg:l.getD i 0=n:=by simp [List.getD,hi]
 obtain ⟨r,hr⟩:=zhx l n (i+1) (l.length - (i+1))
 rw [show i+1+(l.length - (i+1))=l.length from by omega] at hr
 rw [hr,ZI,if_pos ⟨hg,h0⟩,←Ya h0 (Nat.le_of_lt hlt)]
 simp
end Go.Hf
namespace Go.Proofs.YtfbfcapoobmdpaaGreatDoor
open Go Go.Vx Go.Hf
variable [W0]
set_option maxRecDepth 4000
set_option linter.all false
omit [W0] in
structure SyR (l:List Nat) (i:Nat) (vs:List Value) (Cs:List Chunk):Prop where
 lv:vs.length=16
 lc:Cs.length=16
 at_:∀n,n < 16→∃v C,vs[n]? =some v∧Cs[n]? =some C∧Ow 3 1 v (smb l i n).length (ivn (smb l i n)) C
theorem zec {α:Type}:∀{Cs:List (List α)} {n:Nat} {C:List α},Cs[n]? =some C→∃D1 D2,Cs.flatten=D1++(C++D2)∧∀C',(Cs.set n C').flatten=D1++(C'++D2)
 |[],n,C,h=>by simp at h
 |D::r,0,C,h=>by
  simp at h
  subst h
  exact ⟨[],r.flatten,by simp,fun C'=>by simp⟩
 |D::r,n+1,C,h=>by
  simp at h
  obtain ⟨D1,D2,h1,h2⟩:=zec h
  exact ⟨D++D1,D2,by simp [h1],fun C'=>by simp [h2]⟩
theorem SyR.new (l:List Nat):SyR l 0 (List.replicate 16 (.slice none 0 0)) (List.replicate 16 []):=by
 refine ⟨by simp,by simp,fun n hn=>⟨_,_,?_,?_,.inl ⟨rfl,rfl,rfl,rfl⟩⟩⟩
 ·rw [List.getElem?_replicate,if_pos hn]
 ·rw [List.getElem?_replicate,if_pos hn]
theorem SyR.step {l:List Nat} {i:Nat} {vs:List Value} {Cs:List Chunk} (h:SyR l i vs Cs) {v':Value} {C':Chunk} (h0:0 < l.getD i 0) (h15:l.getD i 0 < 16)
 (ho:Ow 3 1 v' ((smb l i (l.getD i 0)).length+1) (ivn (smb l i (l.getD i 0))++ivn [i]) C'):SyR l (i+1) (vs.set (l.getD i 0) v') (Cs.set (l.getD i 0) C'):=by
 refine ⟨by rw [List.length_set];exact h.lv,by rw [List.length_set];exact h.lc,fun n hn=>?_⟩
 by_cases he:l.getD i 0=n
 ·subst he
  refine ⟨v',C',List.getElem?_set_self (by rw [h.lv];exact hn),List.getElem?_set_self (by rw [h.lc];exact hn),?_⟩
  rw [ZI,if_pos ⟨rfl,h0⟩,List.length_append]
  have e:ivn (smb l i (l.getD i 0)++[i])=ivn (smb l i (l.getD i 0))++ivn [i]:=by simp [ivn]
  rw [e]
  exact ho
 ·obtain ⟨v,C,h1,h2,h3⟩:=h.at_ n hn
  refine ⟨v,C,by rw [List.getElem?_set_ne he];exact h1,by rw [List.getElem?_set_ne he];exact h2,?_⟩
  rw [ZI,if_neg (fun hh=>he hh.1),List.append_nil]
  exact h3
theorem SyR.skip {l:List Nat} {i:Nat} {vs:List Value} {Cs:List Chunk} (h:SyR l i vs Cs) (h0:l.getD i 0=0):SyR l (i+1) vs Cs:=by
 refine ⟨h.lv,h.lc,fun n hn=>?_⟩
 obtain ⟨v,C,h1,h2,h3⟩:=h.at_ n hn
 refine ⟨v,C,h1,h2,?_⟩
 rw [ZI,if_neg (fun hh=>by omega),List.append_nil]
 exact h3
omit [W0] in
def coC (l:List Nat) (vs:List Value):List Value:=wnv (fsl l 16)++(vs++[.int .i64 (kS l:Int)])
omit [W0] in
def CoD (l:List Nat) (p:Nat) (C:Chunk):Prop:=∃vs Cs,C=[(p,cl (coC l vs) 342)]++Cs.flatten∧SyR l l.length vs Cs
theorem zjs (Fv:List Value) (h:Fv.length=16) (k:Int):zA [(0,16),(16,16),(32,1)] (wnv zI++(List.replicate 16 (.slice none 0 0)++[.int .i64 0])) [(0,.agg Fv.toArray),(2,.int .i64 k)]=some (Fv++(List.replicate 16 (.slice none 0 0)++[.int .i64 k])):=by
 have e:(wnv zI).length=16:=by decide
 have p1:patch (wnv zI++(List.replicate 16 (Value.slice none 0 0)++[.int .i64 0])) 0 Fv=Fv++(List.replicate 16 (.slice none 0 0)++[.int .i64 0]):=by
  unfold patch
  rw [Nat.zero_add,h,←e,List.drop_left]
  simp
 have p2:patch (Fv++(List.replicate 16 (Value.slice none 0 0)++[.int .i64 0])) 32 [.int .i64 k]=Fv++(List.replicate 16 (.slice none 0 0)++[.int .i64 k]):=by
  unfold patch
  rw [List.take_append,List.drop_append,h]
  rw [List.take_of_length_le (by omega),List.drop_of_length_le (by simp;omega)]
  simp
 have c1:(Value.agg Fv.toArray).cells.toList=Fv:=rfl
 have c2:(Value.int .i64 k).cells.toList=[.int .i64 k]:=rfl
 unfold zA
 simp only [List.getElem?_cons_zero]
 rw [if_pos (by refine ⟨by rw [←Array.length_toList,c1,h],by simp [e]⟩),c1,p1]
 unfold zA
 simp only [List.getElem?_cons_succ,List.getElem?_cons_zero]
 rw [if_pos (by refine ⟨rfl,by simp [h]⟩),c2,p2]
 rfl
theorem zfm {Fv vs:List Value} {s v:Value} {x:Nat} (h:Fv.length=16) (hv:vs[x]? =some v):nth (Fv++(vs++[s])) (16+x * 1)=some v:=by
 have hlt:=(List.getElem?_eq_some_iff.1 hv).1
 rw [yu,Nat.mul_one,List.getElem?_append_right (by omega),h,show 16+x - 16=x from by omega,List.getElem?_append_left hlt]
 exact hv
theorem zpe {Fv vs:List Value} {s v:Value} {x:Nat} (h:Fv.length=16) (hv:x < vs.length):(Fv++(vs++[s])).set (16+x * 1) v=Fv++(vs.set x v++[s]):=by
 rw [Nat.mul_one,List.set_append_right _ _ (by omega),h,show 16+x - 16=x from by omega,List.set_append_left _ _ hv]
theorem zkb (a:Option Addr) (c:Nat) (ls:List Int) (L:List Chunk) (h:Sl L 1 (.slice a ls.length c) ls.length (yg ls)) (hl:ls.length≤17592186044416) :
 Gv Tryz.prog 267 [.slice a ls.length c].toArray L (fun r L'=>(cdE ls≠0∧r=.tuple #[.pointer none,.int .i64 (cdE ls:Int)]∧L'=L)∨
  (cdE ls=0∧∃p C,r=.tuple #[.pointer (some ⟨p,0,none⟩),.int .i64 0]∧L'=C::L∧CoD (nl ls) p C)):=by
 refine Gv.of_body Tryz.func267 rfl rfl ?_
 have hno:cdE ls≠0→∀(M:List (Nat × Value)) (D:Chunk),lk M 2=some (.pointer none)→lk M 3=some (.int .i64 (cdE ls:Int))→
  WQ Tryz.f267.ntmps (bodyPost Tryz.prog Tryz.f267 (fun e w'=>∃v L',e=.returned v∧((cdE ls≠0∧v=.tuple #[.pointer none,.int .i64 (cdE ls:Int)]∧L'=L)∨
  (cdE ls=0∧∃p C,v=.tuple #[.pointer (some ⟨p,0,none⟩),.int .i64 0]∧L'=C::L∧CoD (nl ls) p C))∧Holds w' L') .ret) M (D::L):=by
  intro he M D h2 h3
  refine um (rs:=[.tmp 2,.tmp 3]) (vs:=[.pointer none,.int .i64 (cdE ls:Int)]) rfl (by simp [Yi,h2,h3]) ?_
  exact ⟨L,fun w hw=>hw.drop,.inl ⟨he,rfl,rfl⟩⟩
 have ht:=fun L' h'=>zbY a c ls L' h' hl
 have hf:=fun L' (h0:cdE ls=0)=>zeb (nl ls) L' (uP h0).2.2 (by rw [zS];exact (uP h0).1)
 have hs:=fun L' (h0:cdE ls=0)=>zdx (nl ls) L' (by rw [zS];exact hl) (fun x hx=>Xw (uP h0).2.1 hx)
 have hte:cdE ls=0→ivn (tal (nl ls))=ivn (ZJ ls):=fun h0=>by unfold ZJ;rw [if_pos h0]
 have htl:(ivn (ZJ ls)).length=16:=by rw [zC,YN]
 have hto:ones (ivn (ZJ ls))=true:=qM
 generalize ivn (tal (nl ls))=sv at hf hte hs
 generalize ivn (ZJ ls)=tv at ht hte htl hto
 refine kX ?_
 refine cP rfl rfl (ht _ h) ?_
 (refine kX ?_;refine kU fun bk=>?_;refine kX ?_)
 obtain ⟨b4,hb4⟩:∃b4,b4=bk:=⟨_,rfl⟩
 rw [←hb4]
 refine yC (L':=[(b4,cl (ivn zI) 311)]::L) (fun w h=>h) ?_
 clear hb4
 refine zo (l:=ivn zI) (vs:=tv) tv rfl rfl htl hto ?_ iU (by rw [htl];decide) ?_
 ·have e:(ivn zI).length=16:=by decide
  simp [patch,htl,e]
 (repeat' first|refine kX ?_|refine kU fun bk=>?_|refine kV fun hc=>?_|refine kZ (fun hc=>?_) fun hc=>?_|fail)
 ·exact hno (by omega) _ _ rfl rfl
 have h0:cdE ls=0:=by omega
 obtain ⟨h400,hok,hk⟩:=uP h0
 have hf:=hf ([(b4,cl tv 311)]::L) h0
 have hs:=hs ([(b4,cl tv 311)]::L) h0
 rw [hte h0] at hf hs
 obtain ⟨l,hll⟩:∃l,l=nl ls:=⟨_,rfl⟩
 have hlen:l.length=ls.length:=by rw [hll,zS]
 rw [←hll] at hk hf hs
 have h15:∀x∈l,x≤15:=fun x hx=>Xw hok (by rw [←hll];exact hx)
 have hco:∀vs,coC l vs=wnv (fsl l 16)++(vs++[.int .i64 (kS l:Int)]):=fun vs=>rfl
 have hFl:(wnv (fsl l 16)).length=16:=by rw [wG,vV]
 have hFo:ones (wnv (fsl l 16))=true:=zbB
 generalize hFv:wnv (fsl l 16)=Fv at hf hco hFl hFo
 refine zk [] mixed ?_
 refine zy 0 ?_ (he:=qD (vs:=tv) rfl Fnd.here htl)
 refine zy 2 ?_ (he:=qD (vs:=tv) rfl Fnd.here htl)
 refine cI 1 rfl rfl ?_
 refine cP rfl rfl hf ?_
 refine ⟨iC,?_⟩
 refine cI 3 rfl rfl ?_
 refine cP rfl rfl hs ?_
 refine ⟨iC,?_⟩
 refine cT 4 rfl rfl (uo rfl (zjs Fv hFl (kS l:Int))) ?_
 refine cI 5 rfl rfl ?_
 refine ziH rfl rfl (fun p=>?_)
 refine ⟨iC,?_⟩
 (refine zy 6 ?_)
 refine cD ?_
 refine kX ?_
 have hls:(nl ls).length=ls.length:=zS ls
 refine zn (X:=Nat × List Value × List Chunk) (fun x=>[(6,.pointer (some ⟨p,0,none⟩)),(23,.slice a ls.length c),(24,.int .i64 (ls.length:Int)),(25,.int .i64 (x.1:Int))])
  (fun x=>[(p,cl (Fv++(x.2.1++[.int .i64 (kS l:Int)])) 342)]::x.2.2.flatten::[(b4,cl tv 311)]::L) (fun x=>x.1≤ls.length∧SyR l x.1 x.2.1 x.2.2) (fun x=>ls.length - x.1)
  (0,List.replicate 16 (.slice none 0 0),List.replicate 16 []) ⟨Nat.zero_le _,SyR.new l⟩ iS (fun w h=>?_) ?_
 ·show Holds w (_::(List.replicate 16 ([]:Chunk)).flatten::_)
  rw [show (List.replicate 16 ([]:Chunk)).flatten=[] from by decide]
  exact (iC:Inc _ _).holds (Holds.gap.2 h)
 intro x ⟨hx1,hx2⟩
 obtain ⟨i,vs,Cs⟩:=x
 simp only at hx1 hx2 ⊢
 (repeat' first|refine kX ?_|refine kU fun bk=>?_|refine kV fun hc=>?_|refine kZ (fun hc=>?_) fun hc=>?_|fail)
 ·have hlt:i < ls.length:=by omega
  obtain ⟨b,off,cap,cc,T,fr,hve,hfn,hcell⟩:=yV h (wT hlt)
  injection hve with q1 q2 q3
  subst q1 q3
  clear q2
  have hat:=zdg hok i
  rw [←hll] at hat
  rw [←hat.2.2] at hcell
  have hstep:=@SyR.step _ l i vs Cs hx2
  have hskip:=hx2.skip
  obtain ⟨x,hx⟩:∃x,x=l.getD i 0:=⟨_,rfl⟩
  have hx15:x≤15:=by omega
  rw [←hx] at hcell hstep hskip
  refine wP ?_ (he:=zi (j:=i) rfl rfl rfl hlt)
  refine kX ?_
  refine wP ?_ (he:=zq rfl hfn.there.there.there hcell)
  (repeat' first|refine kX ?_|refine kU fun bk=>?_|refine kV fun hc=>?_|refine kZ (fun hc=>?_) fun hc=>?_|fail)
  ·have hx0:0 < x:=by omega
   obtain ⟨v,C,hv,hC,ho⟩:=hx2.at_ x (by omega)
   obtain ⟨D1,D2,hfl,hfl2⟩:=zec hC
   have hsl:=zp8 l i x
   refine wJ (L':=[(p,cl (Fv++(vs++[.int .i64 (kS l:Int)])) 342)]::D1::C::D2::[(b4,cl tv 311)]::L) (fun w h=>?_) ?_
   ·rw [hfl] at h
    simpa [Holds,List.append_assoc] using h
   refine yQ [[(p,cl (Fv++(vs++[.int .i64 (kS l:Int)])) 342)]] [14] mixed ?_
   (refine zy 0 ?_;refine zy 1 ?_;refine zy 2 ?_;refine zy 3 ?_;refine zy 4 ?_;refine zy 5 ?_;refine zy 6 ?_)
   refine zy 7 ?_ (he:=zx rfl (by repeat (first|exact Fnd.here|refine Fnd.there ?_)) (zfm hFl hv))
   (refine zy 8 ?_;refine zy 11 ?_;refine zy 12 ?_)
   refine cI 9 rfl rfl ?_
   refine zl (cs:=ivn [i]) rfl (by rfl) (by simp [zA,patch,Value.cells,zeros];rfl) (by omega) rfl rfl (fun bs=>?_)
   refine ⟨iC,?_⟩
   refine cI 10 rfl rfl ?_
   refine zu rfl rfl ho (zF (c:=(ivn [i]).toArray) (xs:=ivn [i]) (m:=1) Fnd.here rfl (by simp)) (by repeat (first|exact Zip.here _|apply Zip.there)) rfl qM (by omega) (by simp [maxLen];omega) rfl (fun v' C' ho' _ _=>?_)
   refine ⟨iC,?_⟩
   (refine zy 13 ?_)
   refine cL 14 rfl rfl rfl ?_
   refine zG (Fv++(vs.set x v'++[.int .i64 (kS l:Int)])) rfl rfl (uK ho') (zpe hFl (by rw [hx2.lv];omega)) iU (by rw [List.length_append,List.length_append,hFl,hx2.lv];simp;omega) ?_
   refine cD ?_
   refine kX ?_
   refine zf (X:=Nat × List Value × List Chunk) (μ:=fun x=>ls.length - x.1) (x:=(i,vs,Cs)) (i+1,vs.set x v',Cs.set x C') (by simp only;omega) ⟨by simp only;omega,hstep hx0 (by omega) ho'⟩ iS (fun w h=>?_)
   have h2:=(iC:Inc ([(p,cl (Fv++(vs.set x v'++[.int .i64 (kS l:Int)])) 342)]::D1::C'::D2::[(b4,cl tv 311)]::L) _).holds h
   simp only [hfl2]
   simpa [Holds,List.append_assoc] using h2
  ·have hx0:x=0:=by omega
   refine zf (X:=Nat × List Value × List Chunk) (μ:=fun x=>ls.length - x.1) (x:=(i,vs,Cs)) (i+1,vs,Cs) (by simp only;omega) ⟨by simp only;omega,hskip hx0⟩ iS (fun w h=>h)
 ·have hie:i=l.length:=by omega
  rw [hie] at hx2
  refine kH ?_
  refine ⟨(_::L),fun w h=>?_,.inr ⟨h0,p,_,rfl,rfl,vs,Cs,rfl,by rw [←hll];exact hx2⟩⟩
  rw [←hll,hco]
  have h2:=(iC:Inc ([(p,cl (Fv++(vs++[.int .i64 (kS l:Int)])) 342)]::Cs.flatten::L) _).holds h
  exact Holds.split.2 h2
end Go.Proofs.YtfbfcapoobmdpaaGreatDoor
namespace Go.Proofs.YtfbfcapoobmdpaaGreatDoor
open Go Go.Vx
variable [W0]
set_option maxRecDepth 4000
set_option linter.all false
omit [W0] in
def clp (n:Int):Nat:=(min (max n 0) 32).toNat
theorem zjn (n:Int):clp n≤32:=by unfold clp;omega
theorem zjm (n:Int):min (max n 0) 32=((clp n:Nat):Int):=by unfold clp;omega
theorem XL {n:Nat} (h:n≤32):clp (n:Int)=n:=by unfold clp;omega
theorem zbZ (n:Int) (L:List Chunk):GvP Tryz.prog 149 [.int .i64 n].toArray L (.int .i64 ((clp n:Nat):Int)):=by
 refine Gv.of_body Tryz.func149 rfl rfl ?_
 refine kW ?_
 rw [zjm]
 skip
 exact kE
theorem Z7 {a b:Nat} (h:a≤b):2 ^ a≤2 ^ b:=Nat.pow_le_pow_right (by decide) h
theorem zen (n:Nat) (L:List Chunk) (h:n≤32):GvP Tryz.prog 150 [.int .i64 (n:Int)].toArray L (.int .u64 ((2 ^ n - 1:Nat):Int)):=by
 refine Gv.of_body Tryz.func150 rfl rfl ?_
 have h1:=Z7 h
 have h0:0 < 2 ^ n:=Nat.pow_pos (by decide)
 refine kW ?_
 refine ze (vH 1 n rfl rfl rfl rfl rfl (by simp [IntKind.bits];omega)) rfl ?_
 refine kW ?_
 refine ze (qj rfl rfl rfl) rfl ?_
 rw [show ((1 * 2 ^ n:Nat):Int) - 1=((2 ^ n - 1:Nat):Int) from by omega,yX rfl (by simp [IntKind.bits];omega)]
 refine kW ?_
 exact kE
theorem zfG (v n:Nat) (L:List Chunk) (hv:v < 2 ^ 32) (h:n≤32):GvP Tryz.prog 256 [.int .u32 (v:Int),.int .i64 (n:Int)].toArray L (.int .u32 ((mir v n:Nat):Int)):=by
 refine Gv.of_body Tryz.func256 rfl rfl ?_
 refine kW ?_
 refine zn (X:=Nat) (fun k=>[(0,.int .u32 ((v / 2 ^ k:Nat):Int)),(5,.int .u32 ((mir v k:Nat):Int)),(6,.int .i64 (n:Int)),(7,.int .i64 (k:Int))]) (fun k=>L) (fun k=>k≤n) (fun k=>n - k) 0 (Nat.zero_le _)
  (Sub.cons (by rw [Nat.pow_zero,Nat.div_one];rfl) iS) (fun w h=>h) ?_
 intro k hk
 have hm:=zde v k
 (repeat' first|refine kW ?_|refine kU fun bk=>?_|refine kV fun hc=>?_|refine kZ (fun hc=>?_) fun hc=>?_|fail)
 ·have h1:2 ^ (k+1)≤2 ^ 32:=Z7 (by omega)
  have h2:=Nat.pow_succ 2 k
  have h3:v / 2 ^ k≤v:=Nat.div_le_self _ _
  refine ze (vH (mir v k) 1 rfl rfl rfl rfl rfl (by simp only [IntKind.bits];omega)) rfl ?_
  refine kW ?_
  refine ze (uM (v / 2 ^ k) 1 rfl rfl rfl rfl rfl (by simp only [IntKind.bits];omega) (by decide)) rfl ?_
  refine kW ?_
  refine ze (YT (v / 2 ^ k % 2 ^ 1) (mir v k) 1 rfl rfl rfl rfl rfl (Nat.mod_lt _ (by decide)) (by simp only [IntKind.bits];omega)) rfl ?_
  rw [show v / 2 ^ k % 2 ^ 1+mir v k * 2 ^ 1=mir v (k+1) from by simp only [mir];omega]
  refine kW ?_
  refine ze (Zo (v / 2 ^ k) 1 rfl rfl rfl rfl (by simp only [IntKind.bits];omega)) rfl ?_
  rw [Nat.div_div_eq_div_mul,←Nat.pow_add]
  refine kW ?_
  refine zf (X:=Nat) (μ:=fun k=>n - k) (x:=k) (k+1) (by omega) (by omega) iS (fun w h=>h)
 ·have hk2:k=n:=by omega
  subst hk2
  exact kE
omit [W0] in
def WrD (p V N:Nat) (D E:Chunk):Prop:=V < 2 ^ N∧∃v,D=[(p,cl [v,.int .u64 ((V / 2 ^ (8 * (N / 8)):Nat):Int),.int .i64 ((N % 8:Nat):Int)] 171)]∧Ow 5 1 v (N / 8) (bsv (leB V (N / 8))) E
theorem WrD.new (p:Nat):WrD p 0 0 [(p,cl [.slice none 0 0,.int .u64 0,.int .i64 0] 171)] []:=⟨by decide,_,rfl,.inl ⟨rfl,rfl,rfl,rfl⟩⟩
theorem add_lt {V N x c:Nat} (hV:V < 2 ^ N) (hx:x < 2 ^ c):V+2 ^ N * x < 2 ^ (N+c):=by
 rw [Nat.pow_add]
 have h:2 ^ N * (x+1)≤2 ^ N * 2 ^ c:=Nat.mul_le_mul_left _ hx
 rw [Nat.mul_add] at h
 omega
theorem zhm (p V N v:Nat) (n:Int) (D E:Chunk) (L:List Chunk) (h:WrD p V N D E) (hv:v < 2 ^ 32) (hN:N≤1125899906841600) :
 Gv Tryz.prog 114 [.pointer (some ⟨p,0,none⟩),.int .u32 (v:Int),.int .i64 n].toArray (D::E::L) (fun r L'=>r=.tuple #[]∧∃D' E',WrD p (V+2 ^ N * (v % 2 ^ clp n)) (N+clp n) D' E'∧L'=D'::E'::L):=by
 obtain ⟨hV,f,rfl,hf⟩:=h
 refine Gv.of_body Tryz.func114 rfl rfl ?_
 refine kW ?_
 refine cP rfl rfl (zbZ n _) ?_
 have hc:=zjn n
 generalize clp n=c at hc ⊢
 obtain ⟨V',hV'⟩:∃V',V'=V+2 ^ N * (v % 2 ^ c):=⟨_,rfl⟩
 obtain ⟨N',hN'⟩:∃N',N'=N+c:=⟨_,rfl⟩
 rw [←hV',←hN']
 have hlt:V' < 2 ^ N':=by rw [hV',hN'];exact add_lt hV (Nat.mod_lt _ (Nat.pow_pos (by decide)))
 have hw:V / 2 ^ (8 * (N / 8)) < 2 ^ (N % 8):=by
  rw [Nat.div_lt_iff_lt_mul (Nat.pow_pos (by decide)),←Nat.pow_add,show N % 8+8 * (N / 8)=N from by omega]
  exact hV
 have hw':V / 2 ^ (8 * (N / 8))+v % 2 ^ c * 2 ^ (N % 8)=V' / 2 ^ (8 * (N / 8)):=by
  rw [hV',show 2 ^ N * (v % 2 ^ c)=2 ^ (8 * (N / 8)) * (v % 2 ^ c * 2 ^ (N % 8)) from by
   rw [show 2 ^ N=2 ^ (8 * (N / 8)) * 2 ^ (N % 8) from by rw [←Nat.pow_add];congr 1;omega];ac_rfl,Nat.add_mul_div_left _ _ (Nat.pow_pos (by decide))]
 have hb1:v % 2 ^ c < 2 ^ 32:=Nat.lt_of_le_of_lt (Nat.mod_le _ _) hv
 have hb2:v % 2 ^ c * 2 ^ (N % 8) < 2 ^ 32 * 2 ^ 8:=Nat.mul_lt_mul_of_lt_of_le hb1 (Z7 (by omega)) (Nat.pow_pos (by decide))
 have hb3:2 ^ (N % 8)≤2 ^ 8:=Z7 (by omega)
 refine kW ?_
 refine zk [17] mixed ?_
 (refine za 0 ?_;refine za 1 ?_;refine za 2 ?_;refine za 3 ?_;refine za 4 ?_)
 refine cT 5 rfl rfl (vG v rfl rfl rfl (by simp only [IntKind.bits];omega)) ?_
 (refine za 6 ?_;refine za 9 ?_;refine za 10 ?_;refine za 11 ?_;refine za 12 ?_)
 refine cI 7 rfl rfl ?_
 refine cP rfl rfl (zen c _ hc) ?_
 refine ⟨iC,?_⟩
 refine cT 8 rfl rfl (uM v c rfl rfl rfl rfl rfl (by simp only [IntKind.bits];omega) (by simp only [IntKind.bits];omega)) ?_
 refine cT 13 rfl rfl (vH (v % 2 ^ c) (N % 8) rfl rfl rfl rfl rfl (by simp only [IntKind.bits];omega)) ?_
 refine cT 14 rfl rfl (ze9 (V / 2 ^ (8 * (N / 8))) (v % 2 ^ c) (N % 8) rfl rfl rfl rfl rfl hw (by simp only [IntKind.bits];omega)) ?_
 rw [hw']
 (refine za 15 ?_;refine za 16 ?_)
 refine cL 17 rfl rfl rfl ?_
 refine qL rfl rfl rfl iU (by simp) ?_
 refine cD ?_
 refine kW ?_
 rw [show ((N % 8:Nat):Int)+(c:Int)=(N':Int) - 8 * ((N / 8:Nat):Int) from by omega]
 skip
 refine zn (X:=Nat × Value × Chunk) (fun x=>[(0,.pointer (some ⟨p,0,none⟩))])
  (fun x=>[(p,cl [x.2.1,.int .u64 ((V' / 2 ^ (8 * x.1):Nat):Int),.int .i64 ((N':Int) - 8 * (x.1:Int))] 171)]::x.2.2::L)
  (fun x=>8 * x.1≤N'∧N'≤8 * x.1+40∧Ow 5 1 x.2.1 x.1 (bsv (leB V' x.1)) x.2.2) (fun x=>N' - 8 * x.1) (N / 8,f,E) ⟨by simp only;omega,by simp only;omega,by rw [hV',znp (by omega)];exact hf⟩ iS (fun w h=>h) ?_
 intro x ⟨hx1,hx3,hx2⟩
 obtain ⟨k,s,C⟩:=x
 simp only at hx1 hx2 hx3 ⊢
 (repeat' first|refine kW ?_|refine kU fun bk=>?_|refine kV fun hc=>?_|refine kZ (fun hc=>?_) fun hc=>?_|fail)
 ·refine yQ ([(p,cl [s,.int .u64 ((V' / 2 ^ (8 * k):Nat):Int),.int .i64 ((N':Int) - 8 * (k:Int))] 171)]::L) [14] mixed ?_
  (refine za 0 ?_;refine za 1 ?_;refine za 2 ?_;refine za 3 ?_;refine za 4 ?_;refine za 5 ?_;refine za 6 ?_;refine za 7 ?_;refine za 8 ?_)
  refine cT 9 rfl rfl (ziB (V' / 2 ^ (8 * k)) rfl rfl) ?_
  refine cI 10 rfl rfl ?_
  refine zl (cs:=bsv [byB V' k]) rfl (by rfl) (by simp [zA,patch,Value.cells,zeros];rfl) (by omega) rfl rfl (fun bk=>?_)
  refine ⟨iC,?_⟩
  refine cI 11 rfl rfl ?_
  refine zu rfl rfl hx2 (zF (c:=(bsv [byB V' k]).toArray) (xs:=bsv [byB V' k]) (m:=1) Fnd.here rfl (by simp)) (by repeat (first|exact Zip.here _|apply Zip.there)) (by rfl) yj (by omega) (by simp [maxLen];omega) rfl (fun v' C' ho1 h1 h2=>?_)
  rw [←yt,←za8] at ho1
  refine ⟨iC,?_⟩
  (refine za 12 ?_;refine za 13 ?_)
  refine cL 14 rfl rfl rfl ?_
  refine qL rfl rfl (uK ho1) iU (by simp) ?_
  refine cD ?_
  refine kW ?_
  have hq:V' / 2 ^ (8 * k) < 2 ^ 64:=by
   rw [Nat.div_lt_iff_lt_mul (Nat.pow_pos (by decide)),←Nat.pow_add]
   exact Nat.lt_of_lt_of_le hlt (Z7 (by omega))
  refine ze (Zo (V' / 2 ^ (8 * k)) 8 rfl rfl rfl rfl (by simp only [IntKind.bits];exact hq)) rfl ?_
  rw [Nat.div_div_eq_div_mul,←Nat.pow_add,show 8 * k+8=8 * (k+1) from by omega]
  refine kW ?_
  rw [show ((N':Int) - 8 * (k:Int)) - 8=(N':Int) - 8 * ((k+1:Nat):Int) from by omega]
  skip
  refine zf (X:=Nat × Value × Chunk) (μ:=fun x=>N' - 8 * x.1) (x:=(k,s,C)) (k+1,v',C') (by simp only;omega) ⟨by simp only;omega,by simp only;omega,ho1⟩ iS (fun w h=>iH h)
 ·have hk:k=N' / 8:=by omega
  subst hk
  refine kR ?_
  refine ⟨[(p,cl [s,.int .u64 ((V' / 2 ^ (8 * (N' / 8)):Nat):Int),.int .i64 ((N' % 8:Nat):Int)] 171)]::C::L,?_,rfl,_,_,⟨hlt,s,rfl,hx2⟩,rfl⟩
  rw [show ((N' % 8:Nat):Int)=(N':Int) - 8 * ((N' / 8:Nat):Int) from by omega]
  exact iC
theorem zpf (p V N v:Nat) (n:Int) (D E:Chunk) (L:List Chunk) (h:WrD p V N D E) (hv:v < 2 ^ 32) (hN:N≤1125899906841600) :
 Gv Tryz.prog 230 [.pointer (some ⟨p,0,none⟩),.int .u32 (v:Int),.int .i64 n].toArray (D::E::L) (fun r L'=>r=.tuple #[]∧∃D' E',WrD p (V+2 ^ N * mir v (clp n)) (N+clp n) D' E'∧L'=D'::E'::L):=by
 refine Gv.of_body Tryz.func230 rfl rfl ?_
 refine kW ?_
 refine cP rfl rfl (zbZ n _) ?_
 have hc:=zjn n
 generalize clp n=c at hc ⊢
 refine kW ?_
 refine cP rfl rfl (zfG v c _ hv hc) ?_
 refine kW ?_
 have hm:=zde v c
 have h2:=Z7 hc
 refine cC rfl rfl (zhm p V N (mir v c) (c:Int) D E L h (by omega) hN) (fun r L' hp=>?_)
 obtain ⟨rfl,D',E',hw,rfl⟩:=hp
 rw [XL hc,Nat.mod_eq_of_lt hm] at hw
 refine kW ?_
 refine kR ?_
 exact ⟨_,iC,rfl,D',E',hw,rfl⟩
theorem WrD.cast {p V N N':Nat} {D E:Chunk} (h:WrD p V N D E) (he:N=N'):WrD p V N' D E:=he▸h
theorem ze4 (p V N:Nat) (D E:Chunk) (L:List Chunk) (h:WrD p V N D E) (hN:N≤1125899906841600) :
 Gv Tryz.prog 192 [.pointer (some ⟨p,0,none⟩)].toArray (D::E::L) (fun r L'=>r=.tuple #[]∧∃D' E',WrD p V (8 * ((N+7) / 8)) D' E'∧L'=D'::E'::L):=by
 refine Gv.of_body Tryz.func192 rfl rfl ?_
 have hW:=h
 obtain ⟨hV,f,rfl,hf⟩:=h
 (repeat' first|refine kW ?_|refine kU fun bk=>?_|refine kV fun hc=>?_|refine kZ (fun hc=>?_) fun hc=>?_|fail)
 ·rw [show (8:Int) - ((N % 8:Nat):Int)=((8 - N % 8:Nat):Int) from by omega]
  skip
  refine cC rfl rfl (zhm p V N 0 ((8 - N % 8:Nat):Int) _ E L hW (by decide) hN) (fun r L' hp=>?_)
  obtain ⟨rfl,D',E',hw,rfl⟩:=hp
  rw [XL (by omega),Nat.zero_mod,Nat.mul_zero,Nat.add_zero] at hw
  refine kW ?_
  refine kR ?_
  exact ⟨_,iC,rfl,D',E',hw.cast (by omega),rfl⟩
 ·refine kR ?_
  exact ⟨_,iC,rfl,_,E,hW.cast (by omega),rfl⟩
theorem WrD.full {p V q:Nat} {D E:Chunk} (h:WrD p V (8 * q) D E):∃v,D=[(p,cl [v,.int .u64 0,.int .i64 0] 171)]∧Ow 5 1 v q (bsv (leB V q)) E:=by
 obtain ⟨hV,v,hD,hO⟩:=h
 rw [show 8 * q / 8=q from by omega] at hD hO
 rw [Nat.div_eq_of_lt hV,show 8 * q % 8=0 from by omega] at hD
 exact ⟨v,hD,hO⟩
theorem WrD.ofFull {p V q:Nat} {E:Chunk} {v:Value} (hV:V < 2 ^ (8 * q)) (h:Ow 5 1 v q (bsv (leB V q)) E):WrD p V (8 * q) [(p,cl [v,.int .u64 0,.int .i64 0] 171)] E:=by
 refine ⟨hV,v,?_,?_⟩
 ·rw [show 8 * q / 8=q from by omega,Nat.div_eq_of_lt hV,show 8 * q % 8=0 from by omega];rfl
 ·rw [show 8 * q / 8=q from by omega];exact h
theorem zqZ (p V N:Nat) (b:List UInt8) (vb:Value) (D E:Chunk) (L:List Chunk) (h:WrD p V N D E) (hN:N≤1125899906841600) (hb:Sl L 1 vb b.length (bsv b)) (hl:N / 8+b.length≤140737488355000) :
 Gv Tryz.prog 193 [.pointer (some ⟨p,0,none⟩),vb].toArray (D::E::L) (fun r L'=>r=.tuple #[]∧∃D' E',WrD p (V+2 ^ (8 * ((N+7) / 8)) * val b) (8 * ((N+7) / 8+b.length)) D' E'∧L'=D'::E'::L):=by
 refine Gv.of_body Tryz.func193 rfl rfl ?_
 refine kW ?_
 refine cC rfl rfl (ze4 p V N D E L h hN) (fun r L' hp=>?_)
 obtain ⟨rfl,D',E',hw,rfl⟩:=hp
 have hV:=hw.1
 obtain ⟨f,rfl,hf⟩:=hw.full
 obtain ⟨q,hq⟩:∃q,q=(N+7) / 8:=⟨_,rfl⟩
 rw [←hq] at hf hV ⊢
 refine kW ?_
 refine zu rfl rfl hf (zm (zm hb)) (by repeat (first|exact Zip.here _|apply Zip.there)) (by rfl) yj (by omega) (by simp [maxLen];omega) rfl (fun v' C' ho1 h1 h2=>?_)
 rw [←yt,←znq hV] at ho1
 have ho:=uK ho1
 refine kW ?_
 refine qL rfl rfl ho iU (by simp) ?_
 refine kW ?_
 refine kR ?_
 refine ⟨[(p,cl [v',.int .u64 0,.int .i64 0] 171)]::C'::L,iC,rfl,_,_,WrD.ofFull ?_ ho1,rfl⟩
 have:=add_lt hV (zl5 b)
 rw [Nat.mul_add]
 exact this
theorem zl7 (p V N:Nat) (D E:Chunk) (L:List Chunk) (h:WrD p V N D E) (hN:N≤1125899906841600) :
 Gv Tryz.prog 116 [.pointer (some ⟨p,0,none⟩)].toArray (D::E::L) (fun r L'=>∃C,L'=C::D::E::L∧Ow 5 1 r ((N+7) / 8) (bsv (leB V ((N+7) / 8))) C):=by
 refine Gv.of_body Tryz.func116 rfl rfl ?_
 obtain ⟨hV,f,rfl,hf⟩:=h
 obtain ⟨fa,fc,rfl⟩:=zM hf
 refine kW ?_
 refine zk [] mixed ?_
 (refine za 0 ?_;refine za 1 ?_;refine za 2 ?_;refine za 3 ?_;refine za 4 ?_;refine za 5 ?_;refine za 7 ?_;refine za 8 ?_;refine za 9 ?_;refine za 10 ?_)
 refine cI 6 rfl rfl ?_
 refine zJ (m:=0) (c:=N / 8+1) rfl rfl (by rfl) (by omega) (by omega) (by omega) rfl (fun bn=>?_)
 refine ⟨iC,?_⟩
 refine cI 11 rfl rfl ?_
 have ho:Ow 5 1 (.slice (some ⟨bn,0,none⟩) 0 (N / 8+1)) 0 (bsv []) [(bn,cl (zeros [.int .u8 0] (N / 8+1)) 5)]:=
  .inr ⟨bn,N / 8+1,zeros [.int .u8 0] (N / 8+1),rfl,rfl,rfl,by simp [zeros_length],by omega,by simp [maxLen];omega⟩
 refine zu rfl rfl ho (zm (zm (qy hf))) (by repeat (first|exact Zip.here _|apply Zip.there)) (by rfl) yj (by omega) (by simp [maxLen];omega) rfl (fun v' C' ho1 h1 h2=>?_)
 rw [←yt,List.nil_append,Nat.zero_add] at ho1
 refine ⟨iC,?_⟩
 (refine za 12 ?_)
 refine cD ?_
 (repeat' first|refine kW ?_|refine kU fun bk=>?_|refine kV fun hc=>?_|refine kZ (fun hc=>?_) fun hc=>?_|fail)
 ·rw [uZ]
  refine zl (cs:=bsv [byB V (N / 8)]) rfl (by rfl) (by simp [zA,patch,Value.cells,zeros];rfl) (by omega) rfl rfl (fun bk=>?_)
  refine kW ?_
  refine zu rfl rfl ho1 (zF (c:=(bsv [byB V (N / 8)]).toArray) (xs:=bsv [byB V (N / 8)]) (m:=1) Fnd.here rfl (by simp)) (by repeat (first|exact Zip.here _|apply Zip.there)) (by rfl) yj (by omega) (by simp [maxLen];omega) rfl (fun v2 C2 ho2 h1 h2=>?_)
  rw [←yt,←za8] at ho2
  refine kW ?_
  refine kR ?_
  rw [show (N+7) / 8=N / 8+1 from by omega]
  exact ⟨C2::_,iC,C2,rfl,ho2⟩
 ·refine kR ?_
  rw [show (N+7) / 8=N / 8 from by omega]
  exact ⟨C'::_,iC,C',rfl,ho1⟩
omit [W0] in
def rdC (v:Value) (d:List UInt8) (t nx:Nat):List Value:=[v,.int .i64 (nx:Int),.int .u64 ((val d / 2 ^ t % 2 ^ (8 * nx - t):Nat):Int),.int .i64 ((8 * nx - t:Nat):Int)]
omit [W0] in
def RdD (p:Nat) (d:List UInt8) (t nx:Nat) (D E:Chunk):Prop:=∃v,D=[(p,cl (rdC v d t nx) 201)]∧Ow 5 1 v d.length (bsv d) E
omit [W0] in
def RdN (p:Nat) (d:List UInt8) (t:Nat) (D E:Chunk):Prop:=t≤8 * d.length∧RdD p d t ((t+7) / 8) D E
theorem zp3 (b:List UInt8) (v:Value) (L:List Chunk) (hv:Sl L 1 v b.length (bsv b)) (hl:b.length≤140737488355328) :
 Gv Tryz.prog 90 [v].toArray L (fun r L'=>∃p D E,r=.pointer (some ⟨p,0,none⟩)∧RdN p b 0 D E∧L'=D::E::L):=by
 refine Gv.of_body Tryz.func90 rfl rfl ?_
 refine kW ?_
 refine yC (L':=[]::L) (fun w h=>Holds.nil.2 h) ?_
 refine zu rfl rfl (.inl ⟨rfl,rfl,rfl,rfl⟩) (zm hv) (by repeat (first|exact Zip.here _|apply Zip.there)) (by rfl) yj (by omega) (by simp [maxLen];omega) rfl (fun v' C' ho1 h1 h2=>?_)
 rw [List.nil_append,Nat.zero_add] at ho1
 obtain ⟨fa,fc,rfl⟩:=zM ho1
 (refine kW ?_;refine kU fun bk=>?_;refine kW ?_)
 refine kR ?_
 refine ⟨[(bk,cl (rdC (.slice fa b.length fc) b 0 0) 201)]::C'::L,?_,bk,_,C',rfl,⟨Nat.zero_le _,_,rfl,ho1⟩,rfl⟩
 have e:((val b / 2 ^ 0 % 2 ^ (8 * 0 - 0):Nat):Int)=0:=by simp [Nat.mod_one]
 unfold rdC
 rw [e]
 exact iC
theorem zpA (p m nx:Nat) (a:Option Addr) (c:Nat) (w wt:Value) (T:TypeId) (L:List Chunk) (hf:Fnd L p (cl [.slice a m c,.int .i64 (nx:Int),w,wt] T)) (hm:m≤140737488355328) (hn:nx≤m) :
 GvP Tryz.prog 255 [.pointer (some ⟨p,0,none⟩)].toArray L (.int .i64 ((m - nx:Nat):Int)):=by
 refine Gv.of_body Tryz.func255 rfl rfl ?_
 refine kW ?_
 refine zk [] mixed ?_
 (refine za 0 ?_;refine za 1 ?_;refine za 2 ?_;refine za 3 ?_;refine za 4 ?_;refine za 5 ?_;refine za 6 ?_;refine za 7 ?_;refine za 8 ?_;refine za 9 ?_)
 rw [show (m:Int) - (nx:Int)=((m - nx:Nat):Int) from by omega]
 (refine za 10 ?_)
 refine cD ?_
 refine kW ?_
 exact kE
theorem zql (p nx:Nat) (v w wt:Value) (T:TypeId) (L:List Chunk) (hf:Fnd L p (cl [v,.int .i64 (nx:Int),w,wt] T)) :
 GvP Tryz.prog 92 [.pointer (some ⟨p,0,none⟩)].toArray L (.int .i64 (nx:Int)):=by
 refine Gv.of_body Tryz.func92 rfl rfl ?_
 refine kW ?_
 exact kE
theorem zhV (n:Int) (m:Nat) (L:List Chunk) (h:n+7=(m:Int)) (hm:m≤1000):GvP Tryz.prog 254 [.int .i64 n].toArray L (.int .i64 ((m / 8:Nat):Int)):=by
 refine Gv.of_body Tryz.func254 rfl rfl ?_
 refine kW ?_
 refine ze (uN m 8 rfl rfl (by omega) rfl (by decide) (by omega)) rfl ?_
 refine kW ?_
 exact kE
theorem zk5 (p t:Nat) (d:List UInt8) (D E:Chunk) (L:List Chunk) (h:RdN p d t D E) :
 Gv Tryz.prog 220 [.pointer (some ⟨p,0,none⟩)].toArray (D::E::L) (fun r L'=>r=.tuple #[]∧∃D',RdN p d (8 * ((t+7) / 8)) D' E∧L'=D'::E::L):=by
 obtain ⟨ht,v,rfl,ho⟩:=h
 refine Gv.of_body Tryz.func220 rfl rfl ?_
 unfold rdC
 refine kW ?_
 refine kR ?_
 obtain ⟨q,hq⟩:∃q,q=(t+7) / 8:=⟨_,rfl⟩
 rw [←hq]
 refine ⟨[(p,cl (rdC v d (8 * q) q) 201)]::E::L,?_,rfl,_,⟨by omega,v,by rw [show (8 * q+7) / 8=q from by omega],ho⟩,rfl⟩
 have e:((val d / 2 ^ (8 * q) % 2 ^ (8 * q - 8 * q):Nat):Int)=0:=by rw [Nat.sub_self];simp [Nat.mod_one]
 unfold rdC
 rw [e,Nat.sub_self]
 exact iC
theorem znS {d:List UInt8} {t w i:Nat} (hw:t+w=8 * i) (hi:i < d.length):val d / 2 ^ t % 2 ^ w+(d.getD i 0).toNat * 2 ^ w=val d / 2 ^ t % 2 ^ (w+8):=by
 rw [Nat.pow_add,Nat.mod_mul,Nat.div_div_eq_div_mul,←Nat.pow_add,hw,Nat.mul_comm (2 ^ w)]
 have:=zay d i hi
 rw [show (2:Nat) ^ 8=256 from rfl,this]
theorem zhX (p t n:Nat) (d:List UInt8) (D E:Chunk) (L:List Chunk) (h:RdN p d t D E) (hn:n≤32) (hl:d.length≤140737488355328) :
 Gv Tryz.prog 225 [.pointer (some ⟨p,0,none⟩),.int .i64 (n:Int)].toArray (D::E::L) (fun r L'=>
  (t+n≤8 * d.length∧r=.bool true∧∃D',RdD p d t ((t+7) / 8+(n+7 - (8 * ((t+7) / 8) - t)) / 8) D' E∧L'=D'::E::L)∨(8 * d.length < t+n∧r=.bool false∧L'=D::E::L)):=by
 obtain ⟨ht,v,rfl,ho⟩:=h
 refine Gv.of_body Tryz.func225 rfl rfl ?_
 obtain ⟨fa,fc,rfl⟩:=zM ho
 obtain ⟨nx,hnx⟩:∃nx,nx=(t+7) / 8:=⟨_,rfl⟩
 rw [←hnx]
 obtain ⟨nd,hnd⟩:∃nd,nd=(n+7 - (8 * nx - t)) / 8:=⟨_,rfl⟩
 rw [←hnd]
 unfold rdC
 refine kW ?_
 refine wR rfl rfl rfl (zhV _ (n+7 - (8 * nx - t)) _ (by omega) (by omega)) rfl ?_
 rw [←hnd]
 refine kW ?_
 refine wR rfl rfl rfl (zpA p d.length nx fa fc _ _ _ _ Fnd.here hl (by omega)) rfl ?_
 (repeat' first|refine kW ?_|refine kU fun bk=>?_|refine kV fun hc=>?_|refine kZ (fun hc=>?_) fun hc=>?_|fail)
 ·refine kR ?_
  exact ⟨_,iC,.inr ⟨by omega,rfl,rfl⟩⟩
 ·refine zn (X:=Nat) (fun k=>[(0,.pointer (some ⟨p,0,none⟩)),(17,.int .i64 (nd:Int)),(18,.int .i64 (k:Int))])
   (fun k=>[(p,cl (rdC (.slice fa d.length fc) d t (nx+k)) 201)]::E::L) (fun k=>k≤nd) (fun k=>nd - k) 0 (Nat.zero_le _) iS (fun w h=>h) ?_
  intro k hk
  unfold rdC
  obtain ⟨wt,hwt⟩:∃wt,wt=8 * (nx+k) - t:=⟨_,rfl⟩
  rw [←hwt]
  (repeat' first|refine kW ?_|refine kU fun bk=>?_|refine kV fun hc=>?_|refine kZ (fun hc=>?_) fun hc=>?_|fail)
  ·obtain ⟨b,cap,rest,hve,rfl,hcell⟩:=znG ho (k:=nx+k) (by omega)
   injection hve with e1 e2 e3
   subst e1 e3
   clear e2
   have hwl:wt < 32:=by omega
   have hp:=Z7 (Nat.le_of_lt hwl)
   have hml:val d / 2 ^ t % 2 ^ wt < 2 ^ wt:=Nat.mod_lt _ (Nat.pow_pos (by decide))
   have hbl:=(d.getD (nx+k) 0).toNat_lt
   have hst:=znS (d:=d) (t:=t) (w:=wt) (i:=nx+k) (by omega) (by omega)
   obtain ⟨x,hx⟩:∃x,x=(d.getD (nx+k) 0).toNat:=⟨_,rfl⟩
   rw [←hx] at hcell hbl hst
   have hxm:x * 2 ^ wt≤255 * 2 ^ 32:=Nat.mul_le_mul (by omega) hp
   refine zk [23] mixed ?_
   (refine za 0 ?_;refine za 1 ?_;refine za 2 ?_;refine za 3 ?_;refine za 4 ?_;refine za 5 ?_;refine za 6 ?_;refine za 7 ?_;refine za 8 ?_;refine za 9 ?_;refine za 10 ?_;refine za 11 ?_)
   refine cT 12 rfl rfl (zh rfl rfl rfl (by omega)) ?_
   refine cT 13 rfl rfl (zq rfl (Fnd.there Fnd.here) hcell) ?_
   refine cT 14 rfl rfl (vG x rfl rfl rfl (by simp only [IntKind.bits];omega)) ?_
   (refine za 15 ?_;refine za 16 ?_;refine za 17 ?_;refine za 18 ?_)
   refine cT 19 rfl rfl (vH x wt rfl rfl rfl rfl rfl (by simp only [IntKind.bits];omega)) ?_
   refine cT 20 rfl rfl (ze9 (val d / 2 ^ t % 2 ^ wt) x wt rfl rfl rfl rfl rfl hml (by simp only [IntKind.bits];omega)) ?_
   rw [hst]
   (refine za 21 ?_;refine za 22 ?_)
   refine cL 23 rfl rfl rfl ?_
   refine qL rfl rfl rfl iU (by simp) ?_
   refine cD ?_
   refine kW ?_
   refine zf (X:=Nat) (μ:=fun k=>nd - k) (x:=k) (k+1) (by omega) (by omega) iS ?_
   rw [show 8 * (nx+(k+1)) - t=wt+8 from by omega,show ((wt+8:Nat):Int)=(wt:Int)+8 from by omega,show ((nx+(k+1):Nat):Int)=((nx+k:Nat):Int)+1 from by omega]
   exact fun w h=>iH h
  ·have hk2:k=nd:=by omega
   subst hk2
   refine kR ?_
   rw [hwt]
   exact ⟨_,iC,.inl ⟨by omega,rfl,_,⟨_,rfl,ho⟩,rfl⟩⟩
omit [W0] in
def tkB (d:List UInt8) (t:Nat) (n:Int):Bool:=decide (0≤n)&&decide (n≤32)&&decide (t+n.toNat≤8 * d.length)
omit [W0] in
def tkV (d:List UInt8) (t:Nat) (n:Int):Nat:=if tkB d t n then val d / 2 ^ t % 2 ^ n.toNat else 0
omit [W0] in
def tkT (d:List UInt8) (t:Nat) (n:Int):Nat:=if tkB d t n then t+n.toNat else t
theorem zau {d:List UInt8} {t n:Nat} (h:n≤32) (h2:t+n≤8 * d.length):tkB d t (n:Int)=true:=by
 simp only [tkB,Bool.and_eq_true,decide_eq_true_eq];omega
theorem zbw {d:List UInt8} {t:Nat} {n:Int} (h:n < 0∨32 < n∨8 * d.length < t+n.toNat):tkB d t n=false:=by
 simp only [tkB,Bool.and_eq_false_iff,decide_eq_false_iff_not];omega
theorem zdA {d:List UInt8} {t n:Nat} (h:n≤32) (h2:t+n≤8 * d.length):tkV d t (n:Int)=val d / 2 ^ t % 2 ^ n∧tkT d t (n:Int)=t+n:=by
 unfold tkV tkT
 rw [zau h h2]
 exact ⟨rfl,rfl⟩
theorem zby {d:List UInt8} {t:Nat} {n:Int} (h:tkB d t n=false):tkV d t n=0∧tkT d t n=t:=by
 unfold tkV tkT
 rw [h]
 exact ⟨rfl,rfl⟩
theorem zlV (p t:Nat) (n:Int) (d:List UInt8) (D E:Chunk) (L:List Chunk) (h:RdN p d t D E) (hl:d.length≤140737488355328) :
 Gv Tryz.prog 182 [.pointer (some ⟨p,0,none⟩),.int .i64 n].toArray (D::E::L) (fun r L'=>
  r=.tuple #[.int .u32 ((tkV d t n:Nat):Int),.bool (tkB d t n)]∧∃D',RdN p d (tkT d t n) D' E∧L'=D'::E::L):=by
 refine Gv.of_body Tryz.func182 rfl rfl ?_
 have hno:∀M:List (Nat × Value),tkB d t n=false→lk M 4=some (.int .u32 0)→lk M 5=some (.bool false)→
  WQ Tryz.f182.ntmps (bodyPost Tryz.prog Tryz.f182 (fun e w'=>∃v L',e=.returned v∧(v=.tuple #[.int .u32 ((tkV d t n:Nat):Int),.bool (tkB d t n)]∧∃D',RdN p d (tkT d t n) D' E∧L'=D'::E::L)∧Holds w' L') .ret) M (D::E::L):=by
  intro M hb h4 h5
  refine zT (rs:=[.tmp 4,.tmp 5]) (vs:=[.int .u32 0,.bool false]) rfl (by simp [Yi,h4,h5]) ?_
  obtain ⟨e1,e2⟩:=zby hb
  rw [e1,e2,hb]
  exact ⟨_,iC,rfl,D,h,rfl⟩
 (repeat' first|refine kW ?_|refine kU fun bk=>?_|refine kV fun hc=>?_|refine kZ (fun hc=>?_) fun hc=>?_|fail)
 ·exact hno _ (zbw (by omega)) rfl rfl
 ·exact hno _ (zbw (by omega)) rfl rfl
 obtain ⟨m,rfl⟩:∃m:Nat,n=(m:Int):=⟨n.toNat,by omega⟩
 have hm:m≤32:=by omega
 refine qF rfl rfl rfl (zhX p t m d D E L h hm hl) rfl (fun r L' hp=>?_)
 obtain ⟨hfit,rfl,D',⟨v,rfl,ho⟩,rfl⟩|⟨hfit,rfl,rfl⟩:=hp
 ·obtain ⟨e1,e2⟩:=zdA hm hfit
  rw [e1,e2,zau hm hfit]
  have hnx:(t+7) / 8+(m+7 - (8 * ((t+7) / 8) - t)) / 8=(t+m+7) / 8:=by omega
  rw [hnx]
  obtain ⟨nx,hq⟩:∃nx,nx=(t+m+7) / 8:=⟨_,rfl⟩
  rw [←hq]
  obtain ⟨wt,hwt⟩:∃wt,wt=8 * nx - t:=⟨_,rfl⟩
  unfold rdC
  rw [←hwt]
  have hml:val d / 2 ^ t % 2 ^ wt < 2 ^ wt:=Nat.mod_lt _ (Nat.pow_pos (by decide))
  have hp:=Z7 (show wt≤40 by omega)
  have hp2:=Z7 hm
  have hp3:val d / 2 ^ t % 2 ^ wt % 2 ^ m < 2 ^ m:=Nat.mod_lt _ (Nat.pow_pos (by decide))
  refine kW ?_
  refine zk [] mixed ?_
  (refine za 0 ?_;refine za 1 ?_;refine za 2 ?_;refine za 3 ?_;refine za 4 ?_)
  refine cI 5 rfl rfl ?_
  refine wR rfl rfl rfl (zen m _ hm) rfl ?_
  refine ⟨iC,?_⟩
  refine cT 6 rfl rfl (uM (val d / 2 ^ t % 2 ^ wt) m rfl rfl rfl rfl rfl (by simp only [IntKind.bits];omega) (by simp only [IntKind.bits];omega)) ?_
  (refine za 7 ?_)
  refine cD ?_
  refine kW ?_
  refine ze (Zo (val d / 2 ^ t % 2 ^ wt) m rfl rfl rfl rfl (by simp only [IntKind.bits];omega)) rfl ?_
  refine kW ?_
  rw [yX (k:=.u32) rfl (m:=val d / 2 ^ t % 2 ^ wt % 2 ^ m) (by simp only [IntKind.bits];omega)]
  skip
  refine kR ?_
  have f1:val d / 2 ^ t % 2 ^ wt % 2 ^ m=val d / 2 ^ t % 2 ^ m:=Nat.mod_mod_of_dvd _ (Nat.pow_dvd_pow 2 (by omega))
  have f2:val d / 2 ^ t % 2 ^ wt / 2 ^ m=val d / 2 ^ (t+m) % 2 ^ (8 * nx - (t+m)):=by
   rw [show wt=m+(8 * nx - (t+m)) from by omega,Nat.pow_add,Nat.mod_mul_right_div_self,Nat.div_div_eq_div_mul,←Nat.pow_add]
  rw [f1]
  refine ⟨[(p,cl (rdC v d (t+m) nx) 201)]::E::L,?_,rfl,_,⟨by omega,v,by rw [hq],ho⟩,rfl⟩
  unfold rdC
  rw [←f2,show ((8 * nx - (t+m):Nat):Int)=(wt:Int) - (m:Int) from by omega]
  exact iC
 ·refine kW ?_
  exact hno _ (zbw (by omega)) rfl rfl
end Go.Proofs.YtfbfcapoobmdpaaGreatDoor
namespace Go.Proofs.YtfbfcapoobmdpaaGreatDoor
open Go Go.Vx Go.Hf
variable [W0]
set_option maxRecDepth 4000
set_option linter.all false
theorem zj1 (p n v s:Nat) (Fv vs:List Value) (L:List Chunk) (hFl:Fv.length=16) (hvl:vs.length=16) (hf:Fnd L p (cl (Fv++(vs++[.int .i64 (s:Int)])) 342)) (hn:n≤15) (hv:v < 65536) :
 GvP Tryz.prog 268 [.pointer (some ⟨p,0,none⟩),.int .u32 (v:Int),.int .i64 (n:Int)].toArray L (.bool (decide (v * 2 ^ (15 - n) < s))):=by
 have hnt:nth (Fv++(vs++[Value.int .i64 (s:Int)])) 32=some (.int .i64 (s:Int)):=by
  rw [yu,List.getElem?_append_right (by omega),hFl,List.getElem?_append_right (by omega),hvl];rfl
 have hpw:v * 2 ^ (15 - n)≤65536 * 2 ^ 15:=Nat.mul_le_mul (by omega) (Nat.pow_le_pow_right (by decide) (by omega))
 refine Gv.of_body Tryz.func268 rfl rfl ?_
 refine kX ?_
 refine zk [] mixed ?_
 (refine za 0 ?_;refine za 1 ?_;refine za 2 ?_;refine za 3 ?_)
 refine cT 4 rfl rfl (uq v (15 - n) rfl rfl rfl (by omega) (by omega) (by omega)) ?_
 (refine za 5 ?_;refine za 6 ?_;refine za 7 ?_)
 refine cT 8 rfl rfl (zx rfl hf hnt) ?_
 (refine za 9 ?_;refine za 10 ?_)
 refine cD ?_
 refine kX ?_
 refine kR ?_
 refine ⟨L,iC,?_,rfl⟩
 exact congrArg Value.bool (decide_eq_decide.2 Int.ofNat_lt)
theorem zpZ {l:List Nat} {w t z n:Nat} (hn:n≤15) (hI:rdS l w t z 16 0=rdS l w t z (16 - n) n) (hS:Zk l n (hv w t n)=none) :
 rdS l w t z 16 0=if XU l n (hv w t n)=false then (0,3,n) else if z≤t+n then (0,4,n) else rdS l w t z (16 - (n+1)) (n+1):=by
 rw [hI,show 16 - n=(16 - (n+1))+1 from by omega,rdS,hS]
theorem zn2 {l:List Nat} {vs:List Value} {Cs:List Chunk} {n:Nat} (h:SyR l l.length vs Cs) (h0:0 < n) (hn:n < 16) {i:Nat} (hi:l[i]? =some n) {D:Chunk} {L:List Chunk} :
 ∃b cap c fr,vs[n]? =some (.slice (some ⟨b,0,none⟩) (cn l n) cap)∧Fnd (D::Cs.flatten::L) b (.cells c 3 fr)∧c[cn (l.take i) n]? =some (.int .i64 (i:Int)):=by
 obtain ⟨v,C,h1,h2,h3⟩:=h.at_ n hn
 have hg:=zn3 hi h0
 have hlen:=Ya h0 (Nat.le_refl l.length)
 rw [List.take_length] at hlen
 have hlt:=zaN hi
 rcases h3 with ⟨_,h4,_⟩|⟨b,cap,rest,rfl,rfl,_⟩
 ·omega
 ·refine ⟨b,cap,(ivn (smb l l.length n)++rest).toArray,(0,0),by rw [h1,hlen],?_,?_⟩
  ·show Fnd _ b (cl (ivn (smb l l.length n)++rest) 3)
   refine Fnd.there (Fnd.mem ?_)
   exact List.mem_flatten.2 ⟨_,List.mem_of_getElem? h2,by simp⟩
  ·have h5:=yF hg
   have h6:=(List.getElem?_eq_some_iff.1 h5).1
   rw [List.getElem?_toArray,List.getElem?_append_left h6]
   exact h5
theorem zgN (p q t:Nat) (l:List Nat) (d:List UInt8) (C D E:Chunk) (L:List Chunk) (hC:CoD l p C) (hk:kS l≤32768) (h15:∀x∈l,x≤15) (h400:l.length≤400) (hR:RdN q d t D E) (hl:d.length≤140737488355328) :
 Gv Tryz.prog 250 [.pointer (some ⟨p,0,none⟩),.pointer (some ⟨q,0,none⟩)].toArray (C::D::E::L) (fun r L'=>∃D',r=.tuple #[.int .i64 ((rdS l (val d) t (8 * d.length) 16 0).1:Int),.int .i64 ((rdS l (val d) t (8 * d.length) 16 0).2.1:Int)]∧
  RdN q d (t+(rdS l (val d) t (8 * d.length) 16 0).2.2) D' E∧L'=C::D'::E::L):=by
 obtain ⟨vs,Cs,rfl,hS⟩:=hC
 have hco:coC l vs=wnv (fsl l 16)++(vs++[.int .i64 (kS l:Int)]):=rfl
 have hFl:(wnv (fsl l 16)).length=16:=by rw [wG,vV]
 have hFg:∀n,n < 16→nth (wnv (fsl l 16)++(vs++[.int .i64 (kS l:Int)])) (0+n * 1)=some (.int .u32 ((fs l n:Nat):Int)):=fun n hn=>by
  rw [Nat.zero_add,Nat.mul_one,yu,List.getElem?_append_left (by omega)]
  have:=Z0 l 16 hn
  rw [if_pos hn] at this
  exact zaA this
 rw [hco]
 generalize wnv (fsl l 16)=Fv at hFl hFg
 obtain ⟨w,hw⟩:∃w,w=val d:=⟨_,rfl⟩
 obtain ⟨z,hz⟩:∃z,z=8 * d.length:=⟨_,rfl⟩
 rw [←hw,←hz]
 refine Gv.holds (L':=[(p,cl (Fv++(vs++[.int .i64 (kS l:Int)])) 342)]::Cs.flatten::D::E::L) ?_ (fun w h=>Holds.split.1 h)
 refine Gv.of_body Tryz.func250 rfl rfl ?_
 refine kX ?_
 refine zn (X:=Nat × Chunk) (fun x=>[(0,.pointer (some ⟨p,0,none⟩)),(1,.pointer (some ⟨q,0,none⟩)),(6,.int .u32 ((hv w t x.1:Nat):Int)),(7,.int .i64 ((x.1+1:Nat):Int))])
  (fun x=>[(p,cl (Fv++(vs++[.int .i64 (kS l:Int)])) 342)]::Cs.flatten::x.2::E::L)
  (fun x=>x.1≤15∧RdN q d (t+x.1) x.2 E∧(if x.1=0 then 0 else fs l x.1+cn l x.1)≤hv w t x.1∧rdS l w t z 16 0=rdS l w t z (16 - x.1) x.1∧Zk l x.1 (hv w t x.1)=none) (fun x=>16 - x.1)
  (0,D) ⟨Nat.zero_le _,hR,Nat.zero_le _,rfl,QZ⟩ iS (fun w h=>h) ?_
 intro x ⟨hx1,hx2,hx3,hx4,hx5⟩
 obtain ⟨n,D1⟩:=x
 simp only at hx1 hx2 hx3 hx4 hx5 ⊢
 have hat:=zpZ hx1 hx4 hx5
 have hlt:=zgO w t n
 have hp15:2 ^ n≤2 ^ 15:=Nat.pow_le_pow_right (by decide) hx1
 have hext:XU l n (hv w t n)=decide (hv w t n * 2 ^ (15 - n) < kS l):=by
  rw [Bool.eq_iff_iff,zaV,ext_iff hk h15 hx1,decide_eq_true_eq]
  exact ⟨fun h=>h.2,fun h=>⟨hx3,h⟩⟩
 have hend:∀(e m:Nat) (M:List (Nat × Value)) (D':Chunk),rdS l w t z 16 0=(0,e,m)→RdN q d (t+m) D' E→lk M 4=some (.int .i64 0)→lk M 5=some (.int .i64 (e:Int))→
  WQ Tryz.f250.ntmps (bodyPost Tryz.prog Tryz.f250 (fun e w'=>∃v L',e=.returned v∧(∃D',v=.tuple #[.int .i64 ((rdS l w t z 16 0).1:Int),.int .i64 ((rdS l w t z 16 0).2.1:Int)]∧
  RdN q d (t+(rdS l w t z 16 0).2.2) D' E∧L'=([(p,cl (Fv++(vs++[.int .i64 (kS l:Int)])) 342)]++Cs.flatten)::D'::E::L)∧Holds w' L') .ret) M ([(p,cl (Fv++(vs++[.int .i64 (kS l:Int)])) 342)]::Cs.flatten::D'::E::L):=by
  intro e m M D' he hr h4 h5
  refine um (rs:=[.tmp 4,.tmp 5]) (vs:=[.int .i64 0,.int .i64 (e:Int)]) rfl (by simp [Yi,h4,h5]) ?_
  rw [he]
  exact ⟨_,fun w h=>Holds.split.2 h,D',rfl,hr,rfl⟩
 (repeat' first|refine kX ?_|refine kU fun bk=>?_|refine kV fun hc=>?_|refine kZ (fun hc=>?_) fun hc=>?_|fail)
 ·have hn14:n≤14:=by omega
  rw [show (((n+1:Nat):Nat):Int) - 1=(n:Int) from by omega]
  refine cP rfl rfl (zj1 p n (hv w t n) (kS l) Fv vs _ hFl hS.lv Fnd.here (by omega) (by omega)) ?_
  by_cases hgo:¬hv w t n * 2 ^ (15 - n) < kS l
  ·rw [decide_eq_false hgo] at hext ⊢
   rw [if_pos hext] at hat
   refine kX ?_
   exact hend 3 n _ _ hat hx2 rfl rfl
  rw [decide_eq_true (Decidable.of_not_not hgo)] at hext ⊢
  rw [if_neg (by rw [hext];simp)] at hat
  refine kX ?_
  refine cC rfl rfl (Gv.take2 (zlV q (t+n) 1 d D1 E ([(p,cl (Fv++(vs++[.int .i64 (kS l:Int)])) 342)]::Cs.flatten::L) hx2 hl) (by repeat (first|exact Take.here|apply Take.there)) (by repeat (first|exact Take.here|apply Take.there))) (fun r L' hp=>?_)
  obtain ⟨rfl,D2,hr2,rfl⟩:=hp
  by_cases hz2:z≤t+n
  ·rw [if_pos hz2] at hat
   have hb:tkB d (t+n) 1=false:=zbw (by omega)
   have htt:tkT d (t+n) 1=t+n:=by unfold tkT;rw [hb];rfl
   rw [htt] at hr2
   rw [hb]
   refine kX ?_
   refine Zd (L':=[(p,cl (Fv++(vs++[.int .i64 (kS l:Int)])) 342)]::Cs.flatten::D2::E::L) (fun w h=>iH h) ?_
   exact hend 4 n _ _ hat hr2 rfl rfl
  rw [if_neg hz2] at hat
  have hb:tkB d (t+n) 1=true:=zau (n:=1) (by omega) (by omega)
  obtain ⟨hv1,hv2⟩:=zdA (d:=d) (t:=t+n) (n:=1) (by omega) (by omega)
  have hv1:tkV d (t+n) 1=w / 2 ^ (t+n) % 2:=by rw [hw];exact hv1
  have hv2:tkT d (t+n) 1=t+(n+1):=hv2
  rw [hv2] at hr2
  rw [hb,hv1]
  have hvs:hv w t (n+1)=2 * hv w t n+w / 2 ^ (t+n) % 2:=rfl
  obtain ⟨bt,hbt⟩:∃bt,bt=w / 2 ^ (t+n) % 2:=⟨_,rfl⟩
  have hbt2:bt < 2:=by omega
  rw [←hbt] at hvs ⊢
  have hvl:=zgO w t (n+1)
  have hp16:2 ^ (n+1)≤2 ^ 15:=Nat.pow_le_pow_right (by decide) (by omega)
  have hfsn:fs l (n+1)=2 * (fs l n+if n=0 then 0 else cn l n):=rfl
  have hge:fs l (n+1)≤hv w t (n+1):=by
   rw [hvs,hfsn]
   by_cases h0:n=0
   ·subst h0;simp [fs]
   ·rw [if_neg h0] at hx3 ⊢;omega
  have hlast:rdS l w t z 16 0=match Zk l (n+1) (hv w t (n+1)) with
   |some i=>(i,0,n+1)
   |none=>rdS l w t z (16 - (n+1)) (n+1):=by
   rw [hat]
   cases hs:Zk l (n+1) (hv w t (n+1)) with
   |none=>rfl
   |some i=>rw [show 16 - (n+1)=(15 - (n+1))+1 from by omega,rdS,hs]
  refine kW ?_
  refine ze (vH (hv w t n) 1 rfl rfl rfl rfl rfl (by simp only [IntKind.bits];omega)) rfl ?_
  refine kW ?_
  refine ze (YT bt (hv w t n) 1 rfl rfl rfl rfl rfl (by omega) (by simp only [IntKind.bits];omega)) rfl ?_
  rw [show bt+hv w t n * 2 ^ 1=hv w t (n+1) from by rw [hvs];omega]
  refine kW ?_
  refine ze (zQ (n+1) rfl rfl rfl (by omega)) rfl ?_
  refine kW ?_
  refine ze (zx rfl (by repeat (first|assumption|exact Fnd.here|refine Fnd.there ?_)) (hFg (n+1) (by omega))) rfl ?_
  refine kW ?_
  refine ze (zmk (hv w t (n+1)) (fs l (n+1)) rfl rfl rfl rfl rfl hge (by simp only [IntKind.bits];omega)) rfl ?_
  obtain ⟨x,hx⟩:∃x,x=hv w t (n+1) - fs l (n+1):=⟨_,rfl⟩
  rw [←hx]
  have hxb:x≤32768:=by omega
  refine kW ?_
  refine ze (zQ (n+1) rfl rfl rfl (by omega)) rfl ?_
  refine kW ?_
  obtain ⟨v,C1,hv1,hC1,ho1⟩:=hS.at_ (n+1) (by omega)
  obtain ⟨sa,sc,rfl⟩:=zM ho1
  have hsl:=Ya (l:=l) (n:=n+1) (by omega) (Nat.le_refl l.length)
  rw [List.take_length] at hsl
  rw [hsl] at hv1
  refine ze (zx rfl (by repeat (first|assumption|exact Fnd.here|refine Fnd.there ?_)) (zfm hFl hv1)) rfl ?_
  (repeat' first|refine kW ?_|refine kU fun bk=>?_|refine kV fun hc=>?_|refine kZ (fun hc=>?_) fun hc=>?_|fail)
  ·refine ze (zQ (n+1) rfl rfl rfl (by omega)) rfl ?_
   refine kW ?_
   obtain ⟨i,hi1,hi2⟩:=zgz (l:=l) (n:=n+1) (by omega) hge (show hv w t (n+1) < fs l (n+1)+cn l (n+1) by omega)
   obtain ⟨b,cap,cc,fr,hvb,hfn,hcell⟩:=zn2 hS (by omega) (by omega) hi1 (D:=[(p,cl (Fv++(vs++[.int .i64 (kS l:Int)])) 342)]) (L:=D2::E::L)
   rw [hv1] at hvb
   injection hvb with hvb
   injection hvb with e1 e2 e3
   subst e1 e3
   refine ze (zx rfl (by repeat (first|assumption|exact Fnd.here|refine Fnd.there ?_)) (zfm hFl hv1)) rfl ?_
   refine kW ?_
   have hcd:cd l i=fs l (n+1)+cn (l.take i) (n+1):=by
    have hg:l.getD i 0=n+1:=by simp [List.getD,hi1]
    unfold cd;rw [hg,if_neg (by omega)]
   have hxc:x=cn (l.take i) (n+1):=by omega
   have hcell':cc[x * 1]? =some (.int .i64 (i:Int)):=by rw [Nat.mul_one,hxc];exact hcell
   have hsy:=zbv hi1 (by omega)
   rw [hi2] at hsy
   rw [hsy] at hlast
   refine yC (L':=[(p,cl (Fv++(vs++[.int .i64 (kS l:Int)])) 342)]::Cs.flatten::D2::E::L) (fun w h=>iH h) ?_
   refine ze (zh (j:=x) rfl rfl rfl (by omega)) rfl ?_
   refine kW ?_
   refine ze (zq rfl hfn hcell') rfl ?_
   refine kW ?_
   refine kH ?_
   rw [hlast]
   exact ⟨_,fun w h=>Holds.split.2 h,D2,rfl,hr2,rfl⟩
  ·have hs:Zk l (n+1) (hv w t (n+1))=none:=zbu (.inr (by omega))
   rw [hs] at hlast
   refine zf (X:=Nat × Chunk) (μ:=fun x=>16 - x.1) (x:=(n,D1)) (n+1,D2) (by simp only;omega) ⟨by simp only;omega,hr2,?_,hlast,hs⟩ iS (fun w h=>iH h)
   simp only
   rw [if_neg (by omega)]
   omega
 ·have hn15:n=15:=by omega
  subst hn15
  have hno:XU l 15 (hv w t 15)=false:=by
   cases he:XU l 15 (hv w t 15) with
   |false=>rfl
   |true=>
    obtain ⟨i,m,h1,h2,_⟩:=zaV.1 he
    have:=h15 m (List.mem_of_getElem? h1)
    omega
  rw [if_pos hno] at hat
  exact hend 3 15 _ _ hat hx2 rfl rfl
end Go.Proofs.YtfbfcapoobmdpaaGreatDoor
namespace Go.If
open Go.Vx Go.Hf
set_option linter.all false
theorem zhB {d:List UInt8} {s:S6} {n:Nat} (h:s.t+n≤8 * d.length):tk d s n=⟨s.t+n,s.out,s.e⟩:=by unfold tk;rw [if_pos h]
theorem zby {d:List UInt8} {s:S6} {n:Nat} (h:¬s.t+n≤8 * d.length) (he:s.e=0):tk d s n=⟨s.t,s.out,4⟩:=by unfold tk fl;rw [if_neg h,if_pos he]
theorem zoP [W0] {d:List UInt8} {s:S6} {n:Nat} (h:s.t+n≤8 * d.length):tv d s n=val d / 2 ^ s.t % 2 ^ n:=by unfold tv;rw [if_pos h]
theorem zob [W0] (d:List UInt8) (s:S6):tv d s 0=0:=by unfold tv;split<;>simp [Nat.mod_one]
theorem zoa {d:List UInt8} {s:S6} (h:s.t≤8 * d.length):tk d s 0=s:=by unfold tk;rw [if_pos (by omega)];rfl
def spF (n st:Nat):Nat:=if n < 2 * st then n else (st+n % st) * 2 ^ (n / st - 1)
def spX (n st:Nat):Nat:=if n < 2 * st then 0 else n / st - 1
theorem zp9:∀t,t < 28→3+spF t 4=baB 3 4 8 t∧spX t 4=exB t 4 8:=by decide
theorem zga:∀t,t < 30→1+spF t 2=baB 1 2 4 t∧spX t 2=exB t 2 4:=by decide
def lnS (d:List UInt8) (k:Nat) (s:S6):S6:=if 285 < k then fl s 3 else tk d s (lnB k).2
def dsS [W0] (d:List UInt8) (dl:List Nat) (s:S6):S6:=if (sy d s dl).e≠0 then sy d s dl else if 29 < sv d s dl then fl (sy d s dl) 3 else tk d (sy d s dl) (exB (sv d s dl) 2 4)
def dsV [W0] (d:List UInt8) (dl:List Nat) (s:S6):Nat:=baB 1 2 4 (sv d s dl)+tv d (sy d s dl) (exB (sv d s dl) 2 4)
theorem zfu {s:S6} {k:Nat} (h:s.e≠0):fl s k=s:=by unfold fl;rw [if_neg h]
theorem zqc [W0] {d:List UInt8} {s:S6} {l:List Nat} (h:s.e≠0):sy d s l=s:=by unfold sy;rw [if_neg h]
theorem zcT {most far:Nat} {s:S6} (h:s.e≠0):∀n,cpL most far n s=s
 |0=>rfl
 |n+1=>by rw [cpL,if_neg h]
theorem zkG [W0] {d:List UInt8} {most k:Nat} {dl:List Nat} {s:S6} (h:(lnS d k s).e≠0):(mtS d most k dl s).e=(lnS d k s).e:=by
 unfold lnS at h ⊢
 unfold mtS
 split
 ·rfl
 ·rename_i h2
  rw [if_neg h2] at h
  rw [zqc h,if_pos h]
theorem zkH [W0] {d:List UInt8} {most k:Nat} {dl:List Nat} {s:S6} (h1:¬285 < k) (h:(dsS d dl (tk d s (lnB k).2)).e≠0):(mtS d most k dl s).e=(dsS d dl (tk d s (lnB k).2)).e:=by
 unfold dsS at h ⊢
 unfold mtS
 rw [if_neg h1]
 split
 ·rfl
 ·rename_i h2
  rw [if_neg h2] at h
  split
  ·rfl
  ·rename_i h3
   rw [if_neg h3] at h
   unfold mtD
   rw [if_neg (fun hh=>h hh.1),zcT h]
theorem zpH [W0] {d:List UInt8} {most k:Nat} {dl:List Nat} {s:S6} (h1:¬285 < k) (h:(dsS d dl (tk d s (lnB k).2)).e=0) :
 mtS d most k dl s=cpL most (dsV d dl (tk d s (lnB k).2)) ((lnB k).1+tv d s (lnB k).2) (if (dsS d dl (tk d s (lnB k).2)).out.length < dsV d dl (tk d s (lnB k).2) then fl (dsS d dl (tk d s (lnB k).2)) 3 else dsS d dl (tk d s (lnB k).2)):=by
 unfold dsS at h ⊢
 unfold mtS dsV
 rw [if_neg h1]
 split
 ·rename_i h2;rw [if_pos h2] at h;exact absurd h h2
 ·rename_i h2
  rw [if_neg h2] at h
  split
  ·rename_i h3
   rw [if_pos h3,ZC] at h
   split at h
   ·cases h
   ·exact absurd h (by assumption)
  ·rename_i h3
   rw [if_neg h3] at h
   unfold mtD
   simp only [h,true_and]
theorem Qa {most:Nat} {s:S6} {c:UInt8} (h:s.out.length < most):pt most s c=⟨s.t,s.out++[c],s.e⟩:=by unfold pt;rw [if_neg (by omega)]
theorem zez {most:Nat} {s:S6} {c:UInt8} (h:most≤s.out.length):pt most s c=fl s 5:=by unfold pt;rw [if_pos h]
theorem zd7 (most far:Nat):∀n s,s.e=0→s.out.length≤most→most < s.out.length+n→(cpL most far n s).e=5
 |0,s,_,h2,h=>by omega
 |n+1,s,he,h2,h=>by
  rw [cpL,if_pos he]
  by_cases h1:s.out.length < most
  ·rw [Qa h1]
   exact zd7 most far n _ he (by simp;omega) (by simp;omega)
  ·rw [zez (by omega)]
   have:(fl s 5).e=5:=by rw [ZC,if_pos he]
   rw [zcT (by rw [this];decide),this]
end Go.If
namespace Go.Proofs.YtfbfcapoobmdpaaGreatDoor
open Go Go.Vx Go.Hf Go.If
variable [W0]
set_option maxRecDepth 4000
set_option linter.all false
omit [W0] in
def rdR (p q:Nat) (v:Value) (most:Nat) (kn:Value):Chunk:=[(p,cl [.pointer (some ⟨q,0,none⟩),v,.int .i64 (most:Int),kn] 144)]
theorem Y7 (p q most n:Nat) (v kn:Value) (d:List UInt8) (s:S6) (D E:Chunk) (L:List Chunk) (h:RdN q d s.t D E) (hl:d.length≤140737488355328) (hn:n≤32) (he:s.e=0) :
 Gv Tryz.prog 131 [.pointer (some ⟨p,0,none⟩),.int .i64 (n:Int)].toArray (rdR p q v most kn::D::E::L) (fun r L'=>
  ((tk d s n).e≠0∧r=.tuple #[.int .i64 0,.int .i64 ((tk d s n).e:Int)]∧L'=L)∨
  ((tk d s n).e=0∧r=.tuple #[.int .i64 ((tv d s n:Nat):Int),.int .i64 0]∧∃D',RdN q d (tk d s n).t D' E∧L'=rdR p q v most kn::D'::E::L)):=by
 refine Gv.of_body Tryz.func131 rfl rfl ?_
 have hbt:=zlV q s.t (n:Int) d D E (rdR p q v most kn::L) h hl
 by_cases hc:s.t+n≤8 * d.length
 ·rw [zau hn hc,(zdA hn hc).1,(zdA hn hc).2] at hbt
  rw [zhB hc,zoP hc]
  have hb32:val d / 2 ^ s.t % 2 ^ n < 2 ^ 32:=Nat.lt_of_lt_of_le (Nat.mod_lt _ (Nat.pow_pos (by decide))) (Nat.pow_le_pow_right (by decide) hn)
  generalize val d / 2 ^ s.t % 2 ^ n=z at hbt hb32 ⊢
  unfold rdR at hbt ⊢
  refine kW ?_
  refine cC rfl rfl (Gv.holds hbt (fun w h=>iH h)) (fun r L' hp=>?_)
  obtain ⟨rfl,D',hr,rfl⟩:=hp
  refine kW ?_
  refine zT (rs:=[.tmp 4,.tmp 5]) (vs:=[.int .i64 (z:Int),.int .i64 0]) rfl rfl ?_
  exact ⟨_,iC,.inr ⟨he,rfl,D',hr,rfl⟩⟩
 ·have hb0:=zbw (d:=d) (t:=s.t) (n:=(n:Int)) (by omega)
  rw [hb0,(Go.Proofs.YtfbfcapoobmdpaaGreatDoor.zby hb0).1,(Go.Proofs.YtfbfcapoobmdpaaGreatDoor.zby hb0).2] at hbt
  rw [Go.If.zby hc he]
  unfold rdR at hbt ⊢
  refine kW ?_
  refine cC rfl rfl (Gv.holds hbt (fun w h=>iH h)) (fun r L' hp=>?_)
  obtain ⟨rfl,D',hr,rfl⟩:=hp
  refine kW ?_
  refine zT (rs:=[.tmp 4,.tmp 5]) (vs:=[.int .i64 0,.int .i64 4]) rfl rfl ?_
  exact ⟨_,iC,.inl ⟨by simp,rfl,rfl⟩⟩
theorem ZH (p q most n least:Nat) (v kn:Value) (d:List UInt8) (s:S6) (D E:Chunk) (L:List Chunk) (h:RdN q d s.t D E) (hl:d.length≤140737488355328) (hn:n≤32) (he:s.e=0) (hle:least≤1000000) :
 Gv Tryz.prog 252 [.pointer (some ⟨p,0,none⟩),.int .i64 (n:Int),.int .i64 (least:Int)].toArray (rdR p q v most kn::D::E::L) (fun r L'=>
  ((tk d s n).e≠0∧r=.tuple #[.int .i64 0,.int .i64 ((tk d s n).e:Int)]∧L'=L)∨
  ((tk d s n).e=0∧r=.tuple #[.int .i64 ((least+tv d s n:Nat):Int),.int .i64 0]∧∃D',RdN q d (tk d s n).t D' E∧L'=rdR p q v most kn::D'::E::L)):=by
 refine Gv.of_body Tryz.func252 rfl rfl ?_
 have hbt:=Y7 p q most n v kn d s D E L h hl hn he
 have htl:tv d s n < 2 ^ 32:=Nat.lt_of_lt_of_le (wU d s n) (Nat.pow_le_pow_right (by decide) hn)
 generalize tv d s n=z at hbt htl ⊢
 generalize tk d s n=s1 at hbt ⊢
 refine kW ?_
 refine cC rfl rfl hbt (fun r L' hp=>?_)
 rcases hp with ⟨h1,rfl,rfl⟩|⟨h1,rfl,D',hr,rfl⟩
 ·(refine kW ?_;refine kV fun hc=>?_;refine kW ?_)
  refine kR ?_
  exact ⟨_,iC,.inl ⟨h1,rfl,rfl⟩⟩
 ·refine kW ?_
  rw [show (least:Int)+(z:Int)=((least+z:Nat):Int) from by omega]
  refine kR ?_
  exact ⟨_,iC,.inr ⟨h1,rfl,D',hr,rfl⟩⟩
theorem zk2 (p q most:Nat) (c:UInt8) (v kn:Value) (s:S6) (C:Chunk) (L:List Chunk) (ho:Ow 5 1 v s.out.length (bsv s.out) C) (hm:most≤1000000) (he:s.e=0) (hk:kn.oneCell'=true) :
 Gv Tryz.prog 221 [.pointer (some ⟨p,0,none⟩),.int .u8 (c.toNat:Int)].toArray (rdR p q v most kn::C::L) (fun r L'=>
  ((pt most s c).e≠0∧r=.int .i64 ((pt most s c).e:Int)∧L'=L)∨
  ((pt most s c).e=0∧r=.int .i64 0∧∃v' C',Ow 5 1 v' (pt most s c).out.length (bsv (pt most s c).out) C'∧L'=rdR p q v' most kn::C'::L)):=by
 refine Gv.of_body Tryz.func221 rfl rfl ?_
 obtain ⟨t,out,e⟩:=s
 simp only at ho he ⊢
 subst he
 obtain ⟨va,vc,rfl⟩:=zM ho
 by_cases h1:most≤out.length
 ·rw [zez (by exact h1)]
  simp only [fl,if_true]
  unfold rdR
  refine kW ?_
  refine zk [] mixed ?_
  (refine za 0 ?_;refine za 1 ?_;refine za 2 ?_;refine za 3 ?_;refine za 4 ?_;refine za 5 ?_;refine za 6 ?_;refine za 7 ?_;refine za 8 ?_;refine za 9 ?_)
  refine cD ?_
  (refine kW ?_;refine kV fun hc=>?_;refine kW ?_)
  refine kR ?_
  exact ⟨_,iC,.inl ⟨by simp,rfl,rfl⟩⟩
 ·rw [Qa (by simp only;omega)]
  unfold rdR
  refine kW ?_
  refine zk [] mixed ?_
  (refine za 0 ?_;refine za 1 ?_;refine za 2 ?_;refine za 3 ?_;refine za 4 ?_;refine za 5 ?_;refine za 6 ?_;refine za 7 ?_;refine za 8 ?_;refine za 9 ?_)
  refine cD ?_
  (refine kW ?_;refine kV fun hc=>?_;refine kW ?_)
  refine zl (cs:=[.int .u8 (c.toNat:Int)]) rfl (by rfl) (by first|(simp [zA,patch,Value.cells,zeros];done)|(simp [zA,patch,Value.cells,zeros];rfl)) (by omega) rfl rfl (fun bn=>?_)
  refine kW ?_
  refine zu rfl rfl ho (zF (k:=1) (c:=#[.int .u8 (c.toNat:Int)]) (xs:=[.int .u8 (c.toNat:Int)]) (m:=1) Fnd.here rfl (by simp)) (by repeat (first|exact Zip.here _|apply Zip.there)) rfl (by rfl) (by omega) (by simp [maxLen];omega) rfl (fun v' C' ho' _ _=>?_)
  refine kW ?_
  refine zG [.pointer (some ⟨q,0,none⟩),v',.int .i64 (most:Int),kn] rfl rfl (by rcases ho' with ⟨rfl,_⟩|⟨_,_,_,rfl,_⟩<;>rfl) rfl iU (by simp) ?_
  refine kW ?_
  refine kR ?_
  refine ⟨_,iC,.inr ⟨rfl,rfl,v',C',?_,rfl⟩⟩
  rw [List.length_append,show bsv (out++[c])=bsv out++[Value.int .u8 (c.toNat:Int)] from by simp [bsv]]
  exact ho'
theorem zlH (n st:Nat) (L:List Chunk) (h1:n≤100) (h2:1≤st) (h3:st≤100) (h4:spX n st≤20) :
 GvP Tryz.prog 231 [.int .i64 (n:Int),.int .i64 (st:Int)].toArray L (.tuple #[.int .i64 ((spF n st:Nat):Int),.int .i64 ((spX n st:Nat):Int)]):=by
 refine Gv.of_body Tryz.func231 rfl rfl ?_
 unfold spF spX at *
 (repeat' first|refine kW ?_|refine kU fun bk=>?_|refine kV fun hc=>?_|refine kZ (fun hc=>?_) fun hc=>?_|fail)
 ·rw [if_pos (show n < 2 * st by omega),if_pos (show n < 2 * st by omega)]
  exact kE
 ·rw [if_neg (show ¬n < 2 * st by omega)] at h4 ⊢
  rw [if_neg (show ¬n < 2 * st by omega)]
  have hq:n / st≤n:=Nat.div_le_self _ _
  have hq2:2≤n / st:=by
   rw [Nat.le_div_iff_mul_le (by omega)];omega
  have hr:n % st < st:=Nat.mod_lt _ (by omega)
  refine ze (uN n st rfl rfl (by omega) rfl (by omega) (by omega)) rfl ?_
  generalize n / st=z at hq hq2 h4 ⊢
  refine kW ?_
  refine ze (XC n st rfl rfl rfl rfl (by omega)) rfl ?_
  generalize n % st=y at hr ⊢
  have hp:2 ^ (z - 1)≤2 ^ 20:=Nat.pow_le_pow_right (by decide) h4
  have hpm:(st+y) * 2 ^ (z - 1)≤200 * 2 ^ 20:=Nat.mul_le_mul (by omega) hp
  refine kW ?_
  rw [show (z:Int) - 1=((z - 1:Nat):Int) from by omega,show (st:Int)+(y:Int)=((st+y:Nat):Int) from by omega]
  refine ze (uq (st+y) (z - 1) rfl rfl rfl (by omega) (by omega) (by omega)) rfl ?_
  refine kW ?_
  exact kE
end Go.Proofs.YtfbfcapoobmdpaaGreatDoor
namespace Go.If
open Go.Vx Go.Hf
set_option linter.all false
def yY:List Nat:=[16,17,18,0,8,7,9,6,10,5,11,4,12,3,13,2,14,1,15]
def rpB (k:Nat):Nat:=if k=16 then 2 else if k=17 then 3 else if k=18 then 7 else 0
def rpA (k:Nat):Nat:=if k=16 then 3 else if k=17 then 3 else if k=18 then 11 else 1
theorem zcd:∀k,k < 286→257≤k→(lnB k).1≤258∧(lnB k).2≤5:=by decide+kernel
theorem zb3:∀t,t < 30→baB 1 2 4 t≤32768∧exB t 2 4≤13:=by decide+kernel
end Go.If
namespace Go.Proofs.YtfbfcapoobmdpaaGreatDoor
open Go Go.Vx Go.Hf Go.If
variable [W0]
set_option maxRecDepth 4000
set_option linter.all false
theorem QA (k:Nat) (L:List Chunk) (h1:257≤k) (h2:k≤285) :
 GvP Tryz.prog 196 [.int .i64 (k:Int)].toArray L (.tuple #[.int .i64 (((lnB k).1:Nat):Int),.int .i64 (((lnB k).2:Nat):Int)]):=by
 refine Gv.of_body Tryz.func196 rfl rfl ?_
 by_cases h285:k=285
 ·subst h285
  refine kW ?_
  refine kR ?_
  exact ⟨_,iC,rfl,rfl⟩
 ·have hsp:=zp9 (k - 257) (by omega)
  have hb:=zcd k (by omega) h1
  have e1:(lnB k).1=3+spF (k - 257) 4∧(lnB k).2=spX (k - 257) 4:=by
   unfold lnB
   rw [if_neg h285]
   exact ⟨hsp.1.symm,hsp.2.symm⟩
  rw [e1.1,e1.2] at hb ⊢
  have hspn:=zlH (k - 257) 4 L (by omega) (by decide) (by decide) (by omega)
  generalize spX (k - 257) 4=x4 at hspn hb ⊢
  generalize spF (k - 257) 4=f4 at hspn hb ⊢
  (refine kW ?_;refine kV fun hc=>?_;refine kW ?_)
  rw [show (k:Int) - 256 - 1=((k - 257:Nat):Int) from by omega]
  refine cP rfl rfl hspn ?_
  refine kW ?_
  rw [show (3:Int)+(f4:Int)=((3+f4:Nat):Int) from by omega]
  refine kR ?_
  exact ⟨_,iC,rfl,rfl⟩
theorem YE (t:Nat) (L:List Chunk) (h1:t < 30) :
 GvP Tryz.prog 232 [.int .i64 (t:Int)].toArray L (.tuple #[.int .i64 ((baB 1 2 4 t:Nat):Int),.int .i64 ((exB t 2 4:Nat):Int)]):=by
 refine Gv.of_body Tryz.func232 rfl rfl ?_
 have hsp:=zga t h1
 have hb:=zb3 t h1
 rw [←hsp.1,←hsp.2] at hb ⊢
 have hspn:=zlH t 2 L (by omega) (by decide) (by decide) (by omega)
 generalize spX t 2=x4 at hspn hb ⊢
 generalize spF t 2=f4 at hspn hb ⊢
 refine kW ?_
 refine cP rfl rfl hspn ?_
 refine kW ?_
 rw [show (1:Int)+(f4:Int)=((1+f4:Nat):Int) from by omega]
 refine kR ?_
 exact ⟨_,iC,rfl,rfl⟩
theorem zbp (k:Nat) (L:List Chunk) (h:k≤1000000) :
 GvP Tryz.prog 198 [.int .i64 (k:Int)].toArray L (.tuple #[.int .i64 ((rpA k:Nat):Int),.int .i64 ((rpB k:Nat):Int)]):=by
 refine Gv.of_body Tryz.func198 rfl rfl ?_
 (repeat' first|refine kW ?_|refine kU fun bk=>?_|refine kV fun hc=>?_|refine kZ (fun hc=>?_) fun hc=>?_|fail)
 ·have:k=16:=by omega
  subst this
  refine kR ?_
  exact ⟨_,iC,rfl,rfl⟩
 ·have:k=17:=by omega
  subst this
  refine kR ?_
  exact ⟨_,iC,rfl,rfl⟩
 ·have:k=18:=by omega
  subst this
  refine kR ?_
  exact ⟨_,iC,rfl,rfl⟩
 ·have e1:rpA k=1:=by unfold rpA;rw [if_neg (by omega),if_neg (by omega),if_neg (by omega)]
  have e2:rpB k=0:=by unfold rpB;rw [if_neg (by omega),if_neg (by omega),if_neg (by omega)]
  rw [e1,e2]
  refine kR ?_
  exact ⟨_,iC,rfl,rfl⟩
def qP (L:List Chunk):Prop:=∃c T fr,Fnd L 6 (.cells c T fr)∧∀i,i < 19→c[i]? =some (.int .i64 (yY.getD i 0:Int))
theorem qP.there {L:List Chunk} {C:Chunk} (h:qP L):qP (C::L):=by
 obtain ⟨c,T,fr,h1,h2⟩:=h
 exact ⟨c,T,fr,h1.there,h2⟩
theorem zbo (i:Nat) (L:List Chunk) (hor:qP L) (h:i < 19) :
 GvP Tryz.prog 283 [.int .i64 (i:Int)].toArray L (.int .i64 ((yY.getD i 0:Nat):Int)):=by
 refine Gv.of_body Tryz.func283 rfl rfl ?_
 obtain ⟨c,T,fr,h1,h2⟩:=hor
 have h3:=h2 i h
 obtain ⟨z,hz⟩:∃z,z=yY.getD i 0:=⟨_,rfl⟩
 rw [←hz] at h3 ⊢
 refine kW ?_
 refine ze (zQ i rfl rfl rfl (by omega)) rfl ?_
 refine kW ?_
 refine ze (zq rfl h1 (by simpa using h3)) rfl ?_
 refine kW ?_
 refine kR ?_
 exact ⟨_,iC,rfl,rfl⟩
theorem zii (p q most k:Nat) (v kn:Value) (d:List UInt8) (s:S6) (D E:Chunk) (L:List Chunk) (h:RdN q d s.t D E) (hl:d.length≤140737488355328) (he:s.e=0) (hk1:257≤k) (hk2:k≤1000) :
 Gv Tryz.prog 269 [.pointer (some ⟨p,0,none⟩),.int .i64 (k:Int)].toArray (rdR p q v most kn::D::E::L) (fun r L'=>
  ((lnS d k s).e≠0∧r=.tuple #[.int .i64 0,.int .i64 ((lnS d k s).e:Int)]∧L'=L)∨
  ((lnS d k s).e=0∧k≤285∧r=.tuple #[.int .i64 (((lnB k).1+tv d s (lnB k).2:Nat):Int),.int .i64 0]∧∃D',RdN q d (lnS d k s).t D' E∧L'=rdR p q v most kn::D'::E::L)):=by
 refine Gv.of_body Tryz.func269 rfl rfl ?_
 by_cases h285:285 < k
 ·unfold lnS
  rw [if_pos h285,ZC,if_pos he]
  (refine kW ?_;refine kV fun hc=>?_;refine kW ?_)
  refine zT (rs:=[.tmp 4,.tmp 5]) (vs:=[.int .i64 0,.int .i64 3]) rfl rfl ?_
  exact ⟨_,iC,.inl ⟨by decide,rfl,rfl⟩⟩
 ·unfold lnS
  rw [if_neg h285]
  have hb:=zcd k (by omega) hk1
  have hsl:=QA k (rdR p q v most kn::D::E::L) hk1 (by omega)
  have hcn:=ZH p q most (lnB k).2 (lnB k).1 v kn d s D E L h hl (by omega) he (by omega)
  generalize lnB k=lk at hb hsl hcn ⊢
  generalize tv d s lk.2=z at hcn ⊢
  generalize tk d s lk.2=s1 at hcn ⊢
  (refine kW ?_;refine kV fun hc=>?_;refine kW ?_)
  refine cP rfl rfl hsl ?_
  refine kW ?_
  refine cC rfl rfl hcn (fun r L' hp=>?_)
  rcases hp with ⟨h1,rfl,rfl⟩|⟨h1,rfl,D',hr,rfl⟩
  ·refine kW ?_
   refine kR ?_
   exact ⟨_,iC,.inl ⟨h1,rfl,rfl⟩⟩
  ·refine kW ?_
   refine kR ?_
   exact ⟨_,iC,.inr ⟨h1,by omega,rfl,D',hr,rfl⟩⟩
theorem znK (p q pc most:Nat) (v kn:Value) (dl:List Nat) (d:List UInt8) (s:S6) (D E Cd:Chunk) (L:List Chunk) (h:RdN q d s.t D E) (hl:d.length≤140737488355328) (he:s.e=0)
 (hC:CoD dl pc Cd) (hk:kS dl≤32768) (h15:∀x∈dl,x≤15) (h400:dl.length≤400) :
 Gv Tryz.prog 270 [.pointer (some ⟨p,0,none⟩),.pointer (some ⟨pc,0,none⟩)].toArray (rdR p q v most kn::D::E::Cd::L) (fun r L'=>
  ((dsS d dl s).e≠0∧r=.tuple #[.int .i64 0,.int .i64 ((dsS d dl s).e:Int)]∧L'=L)∨
  ((dsS d dl s).e=0∧r=.tuple #[.int .i64 ((dsV d dl s:Nat):Int),.int .i64 0]∧dsV d dl s≤1000000∧1≤dsV d dl s∧∃D',RdN q d (dsS d dl s).t D' E∧L'=rdR p q v most kn::D'::E::Cd::L)):=by
 refine Gv.of_body Tryz.func270 rfl rfl ?_
 have hr:=zgN pc q s.t dl d Cd D E (rdR p q v most kn::L) hC hk h15 h400 h hl
 have hsv:sv d s dl=(rdS dl (val d) s.t (8 * d.length) 16 0).1:=by unfold sv;rw [if_pos he]
 have hsy:sy d s dl=⟨s.t+(rdS dl (val d) s.t (8 * d.length) 16 0).2.2,s.out,(rdS dl (val d) s.t (8 * d.length) 16 0).2.1⟩:=by unfold sy fl;rw [if_pos he,if_pos (by exact he)]
 have hlt:=(zdq dl (val d) s.t (8 * d.length) 16 0).1
 rw [←hsv] at hr hlt
 have e1:s.t+(rdS dl (val d) s.t (8 * d.length) 16 0).2.2=(sy d s dl).t:=by rw [hsy]
 have e2:(rdS dl (val d) s.t (8 * d.length) 16 0).2.1=(sy d s dl).e:=by rw [hsy]
 rw [e1,e2] at hr
 clear hsy hsv e1 e2
 unfold dsS dsV
 generalize sv d s dl=t at hr hlt ⊢
 generalize sy d s dl=s1 at hr ⊢
 unfold rdR at hr ⊢
 refine kW ?_
 refine cC rfl rfl (Gv.holds hr (fun w h=>iH h)) (fun r L' hp=>?_)
 obtain ⟨D1,rfl,hR1,rfl⟩:=hp
 (repeat' first|refine kW ?_|refine kU fun bk=>?_|refine kV fun hc=>?_|refine kZ (fun hc=>?_) fun hc=>?_|fail)
 ·rw [if_pos (show s1.e≠0 by omega)]
  refine kR ?_
  exact ⟨_,iC,.inl ⟨by omega,rfl,rfl⟩⟩
 ·have h0:s1.e=0:=by omega
  rw [if_neg (show ¬s1.e≠0 by omega),if_pos (show 29 < t by omega),ZC,if_pos h0]
  refine zT (rs:=[.tmp 4,.tmp 5]) (vs:=[.int .i64 0,.int .i64 3]) rfl rfl ?_
  exact ⟨_,iC,.inl ⟨by decide,rfl,rfl⟩⟩
 ·have h0:s1.e=0:=by omega
  rw [if_neg (show ¬s1.e≠0 by omega),if_neg (show ¬29 < t by omega)]
  have hb:=zb3 t (by omega)
  have hb1:1≤baB 1 2 4 t:=by have:=(zga t (by omega)).1;omega
  have hsp:=fun L=>YE t L (by omega)
  have hcn:=ZH p q most (exB t 2 4) (baB 1 2 4 t) v kn d s1 D1 E (Cd::L) hR1 hl (by omega) h0 (by omega)
  have hvl:=wU d s1 (exB t 2 4)
  have hpw:2 ^ exB t 2 4≤2 ^ 13:=Nat.pow_le_pow_right (by decide) hb.2
  generalize exB t 2 4=x4 at hsp hcn hvl hpw hb ⊢
  generalize baB 1 2 4 t=f4 at hsp hcn hb hb1 ⊢
  generalize tv d s1 x4=z at hcn hvl ⊢
  generalize tk d s1 x4=s2 at hcn ⊢
  unfold rdR at hcn
  refine cP rfl rfl (hsp _) ?_
  refine kW ?_
  refine cC rfl rfl (Gv.holds hcn (fun w h=>iH h)) (fun r L' hp=>?_)
  rcases hp with ⟨h1,rfl,rfl⟩|⟨h1,rfl,D',hr,rfl⟩
  ·refine kW ?_
   refine kR ?_
   exact ⟨_,iC,.inl ⟨h1,rfl,rfl⟩⟩
  ·refine kW ?_
   refine kR ?_
   exact ⟨_,iC,.inr ⟨h1,rfl,by omega,by omega,D',hr,rfl⟩⟩
end Go.Proofs.YtfbfcapoobmdpaaGreatDoor
namespace Go.If
open Go.Vx Go.Hf
set_option linter.all false
theorem zm1 [W0] (d:List UInt8) (dl:List Nat) (s:S6):(dsS d dl s).out=s.out:=by
 have h:(sy d s dl).out=s.out:=by
  unfold sy
  split
  ·exact ql _ _
  ·rfl
 unfold dsS
 split
 ·exact h
 ·split
  ·rw [ql,h]
  ·rw [yw,h]
end Go.If
namespace Go.Proofs.YtfbfcapoobmdpaaGreatDoor
open Go Go.Vx Go.Hf Go.If
variable [W0]
set_option maxRecDepth 4000
set_option linter.all false
theorem zk1 (p q pc most k:Nat) (v kn:Value) (dl:List Nat) (d:List UInt8) (s:S6) (D E C Cd:Chunk) (L:List Chunk) (h:RdN q d s.t D E) (hl:d.length≤140737488355328) (he:s.e=0) (hm:most≤1000000) (hkn:kn.oneCell'=true)
 (ho:Ow 5 1 v s.out.length (bsv s.out) C) (hom:s.out.length≤most) (hk1:257≤k) (hk2:k≤1000) (hC:CoD dl pc Cd) (hk:kS dl≤32768) (h15:∀x∈dl,x≤15) (h400:dl.length≤400) :
 Gv Tryz.prog 251 [.pointer (some ⟨p,0,none⟩),.int .i64 (k:Int),.pointer (some ⟨pc,0,none⟩)].toArray (rdR p q v most kn::D::E::C::Cd::L) (fun r L'=>
  ((mtS d most k dl s).e≠0∧r=.int .i64 ((mtS d most k dl s).e:Int)∧L'=L)∨
  ((mtS d most k dl s).e=0∧r=.int .i64 0∧∃v' D' C',Ow 5 1 v' (mtS d most k dl s).out.length (bsv (mtS d most k dl s).out) C'∧(mtS d most k dl s).out.length≤most∧RdN q d (mtS d most k dl s).t D' E∧L'=rdR p q v' most kn::D'::E::C'::Cd::L)):=by
 refine Gv.of_body Tryz.func251 rfl rfl ?_
 have hlen:=zii p q most k v kn d s D E (C::Cd::L) h hl he hk1 hk2
 have hx1:=zkG (d:=d) (most:=most) (k:=k) (dl:=dl) (s:=s)
 refine kW ?_
 refine cC rfl rfl hlen (fun r L' hp=>?_)
 rcases hp with ⟨h1,rfl,rfl⟩|⟨h1,h285,rfl,D1,hr1,rfl⟩
 ·have q:=hx1 h1
  rw [←q] at h1 ⊢
  generalize mtS d most k dl s=S at h1 ⊢
  (refine kW ?_;refine kV fun hc=>?_;refine kW ?_)
  refine kR ?_
  exact ⟨_,iC,.inl ⟨h1,rfl,rfl⟩⟩
 clear hlen hx1
 have hlns:lnS d k s=tk d s (lnB k).2:=by unfold lnS;rw [if_neg (by omega)]
 have hlb:(lnB k).1≤400∧(lnB k).2≤6:=by
  unfold lnB
  split
  ·exact ⟨by decide,by decide⟩
  ·exact ⟨ziZ _ (by omega),zfr _ (by omega)⟩
 have htv:=wU d s (lnB k).2
 have hpw:2 ^ (lnB k).2≤2 ^ 6:=Nat.pow_le_pow_right (by decide) hlb.2
 rw [hlns] at h1 hr1
 have hx2:=zkH (d:=d) (most:=most) (k:=k) (dl:=dl) (s:=s) (by omega)
 have hok:=zpH (d:=d) (most:=most) (k:=k) (dl:=dl) (s:=s) (by omega)
 have hso:(tk d s (lnB k).2).out=s.out:=yw _ _ _
 rw [←hso] at ho hom
 obtain ⟨n,hn⟩:∃n,n=(lnB k).1+tv d s (lnB k).2:=⟨_,rfl⟩
 rw [←hn] at hok ⊢
 have hn464:n≤464:=by omega
 generalize tk d s (lnB k).2=s1 at h1 hr1 hx2 hok ho hom
 have hdi:=znK p q pc most v kn dl d s1 D1 E Cd (C::L) hr1 hl h1 hC hk h15 h400
 have hdo:=zm1 d dl s1
 generalize mtS d most k dl s=R at hx2 hok ⊢
 generalize dsV d dl s1=far at hdi hok
 rw [←hdo] at ho hom
 generalize dsS d dl s1=s2 at hdi hok hx2 ho hom
 clear htv hpw hn hlb hlns
 unfold rdR at hdi ⊢
 refine kW ?_
 refine cC rfl rfl (Gv.holds hdi (fun w h=>iH h)) (fun r L' hp=>?_)
 rcases hp with ⟨h2,rfl,rfl⟩|⟨h2,rfl,hf1,hf2,D2,hr2,rfl⟩
 ·have q:=hx2 h2
  rw [←q] at h2 ⊢
  (refine kW ?_;refine kV fun hc=>?_;refine kW ?_)
  refine kR ?_
  exact ⟨_,iC,.inl ⟨h2,rfl,rfl⟩⟩
 have hok:=hok h2
 obtain ⟨va,vc,rfl⟩:=zM ho
 (repeat' first|refine kW ?_|refine kU fun bk=>?_|refine kV fun hc=>?_|refine kZ (fun hc=>?_) fun hc=>?_|fail)
 ·rw [if_pos (show s2.out.length < far by omega)] at hok
  have e3:(fl s2 3).e=3:=by rw [ZC,if_pos h2]
  rw [zcT (by rw [e3];decide)] at hok
  rw [hok,e3]
  refine kR ?_
  exact ⟨_,iC,.inl ⟨by decide,rfl,rfl⟩⟩
 rw [if_neg (show ¬s2.out.length < far by omega)] at hok
 refine zk [] mixed ?_
 (refine za 0 ?_;refine za 1 ?_;refine za 2 ?_;refine za 3 ?_;refine za 4 ?_;refine za 5 ?_;refine za 6 ?_;refine za 7 ?_;refine za 8 ?_;refine za 9 ?_;refine za 10 ?_;refine za 11 ?_)
 refine cD ?_
 (repeat' first|refine kW ?_|refine kU fun bk=>?_|refine kV fun hc=>?_|refine kZ (fun hc=>?_) fun hc=>?_|fail)
 ·rw [hok,zd7 most far n s2 h2 hom (by omega)]
  refine kR ?_
  exact ⟨_,iC,.inl ⟨by decide,rfl,rfl⟩⟩
 have hfit:s2.out.length+n≤most:=by omega
 refine zn (X:=Nat × S6 × Value × Chunk) (fun x=>[(0,.pointer (some ⟨p,0,none⟩)),(9,.int .i64 (far:Int)),(47,.int .i64 (n:Int)),(48,.int .i64 (x.1:Int))]) (fun x=>rdR p q x.2.2.1 most kn::x.2.2.2::D2::E::Cd::L)
  (fun x=>x.1≤n∧x.2.1.t=s2.t∧x.2.1.e=0∧Ow 5 1 x.2.2.1 x.2.1.out.length (bsv x.2.1.out) x.2.2.2∧x.2.1.out.length=s2.out.length+x.1∧cpL most far (n - x.1) x.2.1=R) (fun x=>n - x.1) (0,s2,.slice va s2.out.length vc,C) ⟨Nat.zero_le _,rfl,h2,ho,rfl,hok.symm⟩ iS (fun w h=>iH h) ?_
 rintro ⟨i,s5,v1,C1⟩ ⟨hi,hst,he5,hov,hol,hsl⟩
 simp only at hi hst he5 hov hol hsl ⊢
 obtain ⟨wa,wc,rfl⟩:=zM hov
 unfold rdR
 (repeat' first|refine kW ?_|refine kU fun bk=>?_|refine kV fun hc=>?_|refine kZ (fun hc=>?_) fun hc=>?_|fail)
 ·obtain ⟨k2,hk2⟩:∃k2,n - i=k2+1:=⟨n - i - 1,by omega⟩
  have hk3:n - (i+1)=k2:=by omega
  rw [hk2,cpL,if_pos he5,Qa (by omega)] at hsl
  have hov2:=hov
  rcases hov2 with ⟨_,h1,_⟩|⟨b,cap,rest,hve,rfl,hxl,hrl,hmc,hcm⟩
  ·omega
  injection hve with e1 e2 e3
  subst e1 e3
  clear e2
  have hcell:(bsv s5.out++rest).toArray[(s5.out.length - far) * 1]? =some (.int .u8 ((s5.out.getD (s5.out.length - far) 0).toNat:Int)):=by
   rw [Nat.mul_one]
   simpa using z8 (r:=rest) (wW (l:=s5.out) (i:=s5.out.length - far) (b:=s5.out.getD (s5.out.length - far) 0) (by simp [List.getD,show s5.out.length - far < s5.out.length from by omega]))
  generalize s5.out.getD (s5.out.length - far) 0=cc at hsl hcell
  refine yQ [[(p,cl [.pointer (some ⟨q,0,none⟩),.slice (some ⟨b,0,none⟩) s5.out.length wc,.int .i64 (most:Int),kn] 144)]] [22] mixed ?_
  (refine za 0 ?_;refine za 1 ?_;refine za 2 ?_;refine za 3 ?_;refine za 4 ?_;refine za 5 ?_;refine za 6 ?_;refine za 7 ?_;refine za 8 ?_;refine za 9 ?_;refine za 10 ?_;refine za 11 ?_;refine za 12 ?_;refine za 13 ?_;refine za 14 ?_;refine za 15 ?_)
  rw [show (s5.out.length:Int) - (far:Int)=((s5.out.length - far:Nat):Int) from by omega]
  refine cT 16 rfl rfl (zh (j:=s5.out.length - far) (len:=s5.out.length) rfl rfl rfl (by omega)) ?_
  refine cI 17 rfl rfl ?_
  refine ze (zq rfl (by exact Fnd.there Fnd.here) hcell) rfl ?_
  refine ⟨iC,?_⟩
  refine cI 18 rfl rfl ?_
  refine zl (cs:=[.int .u8 (cc.toNat:Int)]) rfl (by rfl) (by first|(simp [zA,patch,Value.cells,zeros];done)|(simp [zA,patch,Value.cells,zeros];rfl)) (by omega) rfl rfl (fun bn=>?_)
  refine ⟨iC,?_⟩
  refine cI 19 rfl rfl ?_
  refine zu rfl rfl hov (zF (k:=1) (c:=#[.int .u8 (cc.toNat:Int)]) (xs:=[.int .u8 (cc.toNat:Int)]) (m:=1) Fnd.here rfl (by simp)) (by repeat (first|exact Zip.here _|apply Zip.there)) rfl (by rfl) (by omega) (by simp [maxLen];omega) rfl (fun v' C' ho' _ _=>?_)
  refine ⟨iC,?_⟩
  (refine za 20 ?_;refine za 21 ?_)
  refine cL 22 rfl rfl rfl ?_
  refine zG [.pointer (some ⟨q,0,none⟩),v',.int .i64 (most:Int),kn] rfl rfl (by rcases ho' with ⟨rfl,_⟩|⟨_,_,_,rfl,_⟩<;>rfl) rfl iU (by simp) ?_
  refine cD ?_
  refine kW ?_
  rw [show bsv s5.out++[Value.int .u8 (cc.toNat:Int)]=bsv (s5.out++[cc]) from by simp [bsv]] at ho'
  refine zf (X:=Nat × S6 × Value × Chunk) (μ:=fun x=>n - x.1) (x:=(i,s5,.slice (some ⟨b,0,none⟩) s5.out.length wc,[(b,cl (bsv s5.out++rest) 5)])) (i+1,⟨s5.t,s5.out++[cc],s5.e⟩,v',C') (by simp only;omega) ⟨by simp only;omega,hst,he5,by simpa using ho',by simp;omega,by simp only;rw [hk3];exact hsl⟩ iS (fun w h=>iH h)
 ·obtain rfl:i=n:=by omega
  rw [show i - i=0 from by omega,cpL] at hsl
  subst hsl
  refine kR ?_
  exact ⟨_,iC,.inr ⟨he5,rfl,_,D2,C1,hov,by omega,by rw [hst];exact hr2,rfl⟩⟩
end Go.Proofs.YtfbfcapoobmdpaaGreatDoor
