/- Contracts and facts on the way to the top. It proves no statement by itself. No conditions. -/
import Derived.Test.YtemdlifojcgplaaGreatDoorSV2
set_option maxHeartbeats 16000000
namespace Go.Vx
open Go
set_option linter.all false
variable [W0]
section
variable {P : Program} {n : Nat} {ro : Option Nat} {Q : Exit → Act → World → Prop} {M : List (Nat × Value)} {L : List Chunk} {K : List (Nat × Value) → List Chunk → Prop}
structure Yd (P:Program) (l:Nat) (args:List Value) (L:List Chunk) (post:List Chunk→Prop):Prop where
 out:∀w,Holds w L→∃fn tmps assign body,(Instr.yield l args.toArray).run P w=.ok (.round l fn tmps assign body) w∧
  RoundIn Fence.wide 0 P l fn tmps assign body w (fun e w'=>e=.returned (.bool true)∧∃L',post L'∧Holds w' L')
theorem zdM {ops:Array Oper} {rest:List Oper} {d l:Nat} {ty:TypeId} {ps:String} {af:Array Edge} {x:Operand} {xs:List Operand} {ats:Array TypeId} {vs:List Value} {post:List Chunk→Prop}
 (hx:ev M x=some (.func (.yield l) #[] #[])) (hvs:evs M xs=some vs) (hy:Yd P l vs L post) (hn:Nat.blt d n=true) (h:∀L',post L'→Wjc P n ro ops Q rest ((d,.bool true)::M) L') :
 Wjc P n ro ops Q (⟨some d,.call ⟨.value x,xs.toArray,ats⟩,ty,ps,af,none⟩::rest) M L:=⟨fun a w ha hw=>by
 unfold wpListIn
 rw [if_pos (by simp [Region.wanted])]
 refine ⟨fun _ _=>trivial,?_⟩
 obtain ⟨fn,tmps,assign,body,hrun,hround⟩:=hy.out w hw
 have hr:(execOp a.eval ⟨some d,.call ⟨.value x,xs.toArray,ats⟩,ty,ps,af,none⟩).run P w=.ok (.round l fn tmps assign body) w:=by
  have hm:Array.map a.eval xs.toArray=vs.toArray:=by rw [←ha.evals hvs];simp
  simp only [execOp,resolve,ha.eval hx,hm,Deferred.ofValue,Sem.run_bind,Sem.run_pure,Result.andThen_ok,invoke]
  simpa using hrun
 show Oper.uponIn (Fr ro) 0 P _ a _ Q ((Oper.semAt ro a.eval _).run P w)
 rw [zeM rfl,hr]
 refine ⟨fun hh=>absurd (a:=false=true) hh Bool.false_ne_true,?_⟩
 refine RoundIn.mono (F:=Fr ro) (show RoundIn (Fr ro) (0 - 1) P l fn tmps assign body w _ from hround) ?_
 rintro e w' ⟨rfl,L',hp,hw'⟩
 exact (h L' hp).out _ _ (ha.put _ hn) hw'⟩
def ziX (P:Program) (l:Nat) (xs:List (List Value)) (J:Nat→List Chunk→Prop):Prop:=
 ∀(R:List Chunk) (k:Nat) (L':List Chunk),k < xs.length→J k L'→Yd P l (xs.getD k []) (L'++R) (fun L''=>∃L3,J (k+1) L3∧L''=L3++R)
structure It (P:Program) (gf:FuncId) (lb:Array Value) (Lit:List Chunk) (xs:List (List Value)):Prop where
 out:∀(l:Nat) (J:Nat→List Chunk→Prop) (L0:List Chunk),J 0 L0→ziX P l xs J→∀w,Holds w (L0++Lit)→
  CallsIn Fence.wide 0 P gf (#[.func (.yield l) #[] #[]]++lb) w (fun e w'=>∃v L',e=.returned v∧(∃L3,J xs.length L3∧L'=L3++Lit)∧Holds w' L')
theorem It.of_body {gf:FuncId} {fn:Func} {c:Code} {lb:List Value} {Lit:List Chunk} {xs:List (List Value)} (hf:P.funcs[gf]? =some fn) (hb:fn.body=some c) (hle:Nat.ble (lb.length+1) fn.ntmps=true)
 (h:∀(l:Nat) (J:Nat→List Chunk→Prop) (L0:List Chunk),J 0 L0→ziX P l xs J→Wic P fn.ntmps none c (bodyPost P fn (fun e w'=>∃v L',e=.returned v∧(∃L3,J xs.length L3∧L'=L3++Lit)∧Holds w' L')) (params 0 (.func (.yield l) #[] #[]::lb)) (L0++Lit)) :
 It P gf lb.toArray Lit xs:=⟨fun l J L0 h0 hy w hw=>by
 have e:#[Value.func (.yield l) #[] #[]]++lb.toArray=(Value.func (.yield l) #[] #[]::lb).toArray:=by simp
 rw [e]
 refine callsIn_of_wp hf hb trivial ((h l J L0 h0 hy).out _ w ⟨rfl,?_,?_⟩ hw)
 ·have:=Nat.le_of_ble_eq_true hle
  simp;omega
 ·intro t v ht
  obtain ⟨_,h2⟩:=Z7 (.func (.yield l) #[] #[]::lb) 0 t v ht
  have h2':(Value.func (.yield l) #[] #[]::lb)[t]? =some v:=by simpa using h2
  have hlt:t < (Value.func (.yield l) #[] #[]::lb).length:=by
   rcases Nat.lt_or_ge t (Value.func (.yield l) #[] #[]::lb).length with h'|h'
   ·exact h'
   ·simp [List.getElem?_eq_none h'] at h2'
  rw [Array.getElem?_append_left (by simpa using hlt)]
  simpa using h2'⟩
def zp6 (zs:List (Nat × Value)) (M:List (Nat × Value)):List (Nat × Value):=zs.foldl (fun M x=>x::M) M
theorem St.setp:∀{zs:List (Nat × Value)} {M:List (Nat × Value)} {tm:Array Value},St n M ⟨tm,[]⟩→zs.all (fun z=>Nat.blt z.1 n)=true→St n (zp6 zs M) ⟨zs.foldl (fun t x=>t.setIfInBounds x.1 x.2) tm,[]⟩
 |[],_,_,h,_=>h
 |z::r,M,tm,h,hz=>by
  simp only [List.all_cons,Bool.and_eq_true] at hz
  exact St.setp (zs:=r) (M:=z::M) (tm:=tm.setIfInBounds z.1 z.2) (h.put z.2 hz.1) hz.2
theorem Holds.putL {w:World} {l:Nat} {o o':Obj} (h:Holds w ([(l,o)]::L)):Holds (w.putObj l o') ([(l,o')]::L):=by
 have hb:w.heap[l]? =some o:=Fnd.here.get h
 have hlt:l < w.heap.size:=(Array.getElem?_eq_some_iff.1 hb).1
 exact h.upd .here (World.putObj_heap_same hlt) (fun c hc=>World.putObj_heap_other hc) rfl rfl
theorem NL.body {fn:Func} {X:Value→List Chunk→World→Prop}:NL (bodyPost P fn (fun e w'=>∃v L3,e=.returned v∧X v L3 w')):=⟨fun a w h=>by
 obtain ⟨v,L3,he,_⟩:=h
 cases he⟩
def zqU (o:Oper):Bool:=match o.op with|.call c=>(match c.callee with|.value (.tmp _)=>false|_=>true)|_=>true
theorem ZT {id:Nat} {l:List Oper} (hv:l.all zqU=true) (hN:NL Q) (hd:l.all ZH=true) (h:WL P n l.toArray Q l M L):Wic P n ro (.region id l.toArray false) Q M L:=zhO hN hd h
theorem Fnd.right {A B:List Chunk} {b:Nat} {o:Obj} (h:Fnd B b o):Fnd (A++B) b o:=by
 simp only [Fnd,List.flatten_append,List.mem_append] at *;exact .inr h
theorem Fnd.left {A B:List Chunk} {b:Nat} {o:Obj} (h:Fnd A b o):Fnd (A++B) b o:=by
 simp only [Fnd,List.flatten_append,List.mem_append] at *;exact .inl h
def RP (J:Nat→List Chunk→Prop) (k:Nat) (R:List Chunk):Exit→Act→World→Prop:=fun e _ w=>e=.normal∧∃L3,J k L3∧Holds w (L3++R)
theorem zgo {J:Nat→List Chunk→Prop} {k:Nat} {R:List Chunk}:PO (RP J k R):=⟨fun c a d v w h=>by cases h.1⟩
theorem zbP {J:Nat→List Chunk→Prop} {k:Nat} {R:List Chunk}:NL (RP J k R):=⟨fun a w h=>by cases h.1⟩
theorem ziT {J:Nat→List Chunk→Prop} {k:Nat} {R:List Chunk} (L3:List Chunk) (hJ:J k L3) (hL:∀w,Holds w L→Holds w (L3++R)):WQ n (RP J k R .normal) M L:=⟨fun a w _ hw=>⟨rfl,L3,hJ,hL w hw⟩⟩
def AP (n:Nat) (MA:List (Nat × Value)) (L:List Chunk):Exit→Act→World→Prop:=Exit.then (fun a w=>St n MA a∧Holds w L) (fun _ _ _=>False)
theorem zbL {MA:List (Nat × Value)} {L:List Chunk}:NL (AP n MA L):=⟨fun a w h=>h⟩
theorem zop {MA:List (Nat × Value)} {L1:List Chunk} (hs:Sub MA M) (hL:∀w,Holds w L→Holds w L1):WQ n (AP n MA L1 .normal) M L:=⟨fun a w ha hw=>⟨ha.sub hs,hL w hw⟩⟩
theorem ziW {S:List Chunk} {ops:List Oper} {T:List Nat} {fuel:Nat} {listed:Array Bool} {d:Nat} {v:Value} (i:Nat) {o:Oper} (h:WR P n ops Q S T fuel (listed.setIfInBounds i true) ((d,v)::M) L)
 (hi:ops[i]? =some o:=by exact rfl) (hg:o.guard=none:=by exact rfl) (hb:takeB ops T listed i=true:=by kernel_rfl) (hPO:PO Q:=by exact iP) (hinc:Inc S L:=by exact iC) (he:EV P n o M S d v:=by exact (by first|(show EV _ _ ⟨_,.move _,_,_,_,_⟩ _ _ _ _;first|exact ZO rfl)|(show EV _ _ ⟨_,.assign _,_,_,_,_⟩ _ _ _ _;first|exact yQ rfl)|(show EV _ _ ⟨_,.nilCheck _,_,_,_,_⟩ _ _ _ _;first|exact qY rfl)|(show EV _ _ ⟨_,.fieldAddr ..,_,_,_,_⟩ _ _ _ _;first|exact qm rfl|exact yH rfl)|(show EV _ _ ⟨_,.load ..,_,_,_,_⟩ _ _ _ _;first|exact zy rfl (by repeat (first|assumption|exact Fnd.here|refine Fnd.there ?_)) rfl|exact qW rfl (by repeat (first|assumption|exact Fnd.here|refine Fnd.there ?_)) rfl)|(show EV _ _ ⟨_,.binOp ..,_,_,_,_⟩ _ _ _ _;first|exact Xi rfl rfl rfl|exact qU rfl rfl rfl (by omega)|exact ZQ rfl rfl (by decide) (Ya (by omega) (by simp [IntKind.bits];rfl))|exact uy rfl rfl|exact Zc rfl rfl|exact Zb rfl rfl|exact qp rfl rfl|exact qw rfl rfl|exact qZ rfl rfl|exact q8 rfl rfl|exact vO rfl rfl|exact vP rfl rfl)|(show EV _ _ ⟨_,.convert ..,_,_,_,_⟩ _ _ _ _;first|exact zO rfl (wrap_i64 (by omega) (by omega))|exact zO rfl (wrap_u64 (by omega) (by omega))|exact zO rfl rfl)|(show EV _ _ ⟨_,.extract ..,_,_,_,_⟩ _ _ _ _;first|exact w9 rfl rfl)|(show EV _ _ ⟨_,.unOp ..,_,_,_,_⟩ _ _ _ _;first|exact Xl rfl)|(show EV _ _ ⟨_,.pick ..,_,_,_,_⟩ _ _ _ _;first|exact ZP rfl rfl)|(show EV _ _ ⟨_,.call ⟨.builtin .len,_,_⟩,_,_,_,_⟩ _ _ _ _;first|exact Za rfl|exact vQ rfl)|(show EV _ _ ⟨_,.call ⟨.builtin .cap,_,_⟩,_,_,_,_⟩ _ _ _ _;first|exact u7 rfl)|(show EV _ _ ⟨_,.call ⟨.builtin .min,_,_⟩,_,_,_,_⟩ _ _ _ _;first|exact Xk rfl rfl)|(show EV _ _ ⟨_,.call ⟨.builtin .max,_,_⟩,_,_,_,_⟩ _ _ _ _;first|exact Xj rfl rfl)|(show EV _ _ ⟨_,.makeInterface ..,_,_,_,_⟩ _ _ _ _;first|exact yM rfl)|(show EV _ _ ⟨_,.makeFunc ..,_,_,_,_⟩ _ _ _ _;first|exact qX rfl rfl)|(show EV _ _ ⟨_,.typeAssert ..,_,_,_,_⟩ _ _ _ _;first|exact qC rfl|exact qV rfl rfl)|(show EV _ _ ⟨_,.build ..,_,_,_,_⟩ _ _ _ _;first|exact uo rfl (by simp [zA,patch,Value.cells];rfl)))) (hn:Nat.blt d n=true:=by exact rfl) :
 WR P n ops Q S T (fuel+1) listed M L:=zah i hi hg hb hPO hinc he hn h
theorem zdL {g:Operand} {ps:List Tmp} {assign body:Code} {gf:FuncId} {lb:Array Value} [hbd:BD P gf] (hx:ev M g=some (.func (.func gf) #[] lb)) {Lit:List Chunk} {xs:List (List Value)} (hit:It P gf lb Lit xs)
 (J:Nat→List Chunk→Prop) (L0:List Chunk) (h0:J 0 L0) (hL:∀w,Holds w L→Holds w (L0++Lit)) (hps:∀k,k < xs.length→(xs.getD k []).length=ps.length) (hpn:ps.all (fun t=>Nat.blt t n)=true)
 (MA:Nat→List Chunk→List (Nat × Value))
 (hassign:∀(l k:Nat) (L' R:List Chunk),k < xs.length→J k L'→Wic P n (some l) assign (AP n (MA k L') (L'++R)) (zp6 (ps.zip (xs.getD k [])) M) (L'++R))
 (hbody:∀(l k:Nat) (L' R:List Chunk),k < xs.length→J k L'→Wic P n (some l) body (RP J (k+1) R) (MA k L') (L'++R))
 (hdone:∀(D:Nat) (a:Act) (w:World) (L3:List Chunk),St n M { a with defers:=[] }→a.defers=[⟨.collected D,#[]⟩]→J xs.length L3→Holds w ([(D,.deferred (some []))]::(L3++Lit))→Q .normal a w) :
 WC P n (.rangeFunc g ps.toArray assign body) Q M L:=⟨fun a w ha hw=>by
 refine (wpIn_wide (n:=0)).1 (wpIn_rangeFunc fun fn _=>?_)
 obtain ⟨rec,hrec⟩:∃rec:LoopState→Loop,rec=fun st=>{ state:=st,pending:=none,fn,tmps:=a.tmps,params:=ps.toArray,assign,body,defers:=w.heap.size }:=⟨_,rfl⟩
 obtain ⟨D,hD⟩:∃D,D=w.heap.size:=⟨_,rfl⟩
 obtain ⟨l,hl⟩:∃l,l=w.heap.size+1:=⟨_,rfl⟩
 have hW1:Holds ((w.alloc (.deferred (some []))).alloc (.loop (rec .ready))) ([(l,.loop (rec .ready))]::[(D,.deferred (some []))]::(L0++Lit)):=by
  have h1:=((hL w hw).alloc (.deferred (some []))).alloc (.loop (rec .ready))
  rw [World.size_alloc,←hl,←hD] at h1
  exact h1
 obtain ⟨W1,hW1e⟩:∃W1,W1=(w.alloc (.deferred (some []))).alloc (.loop (rec .ready)):=⟨_,rfl⟩
 rw [←hW1e] at hW1
 refine ⟨l,[{ target:=.collected D,args:=#[] }],W1,{ target:=.fn (.func gf) lb,args:=#[.func (.yield l) #[] #[]] },W1,gf,#[.func (.yield l) #[] #[]]++lb,W1,?_,?_,fun _ _=>trivial,?_,fun hh=>absurd (a:=false=true) hh Bool.false_ne_true,?_⟩
 ·have:=run_enterLoop_outer (P:=P) (w:=w) fn a.tmps ps.toArray assign body
  rw [hl,hD,hW1e,hrec]
  exact this
 ·simp only [resolve,ha.eval hx]
  simp [Deferred.ofValue,Act.eval]
 ·simp only [invoke]
  exact ZU hbd.out _ _
 ·obtain ⟨J',hJ'⟩:∃J':Nat→List Chunk→Prop,∀k L'',J' k L''↔∃L',J k L'∧L''=[(l,.loop (rec .ready))]::[(D,.deferred (some []))]::L':=⟨fun k L''=>∃L',J k L'∧L''=[(l,.loop (rec .ready))]::[(D,.deferred (some []))]::L',fun _ _=>Iff.rfl⟩
  have hyd:ziX P l xs J':=by
   intro R k L'' hk hj
   obtain ⟨L',hj0,rfl⟩:=(hJ' k L'').1 hj
   refine ⟨fun w1 hw1=>?_⟩
   have hrl:w1.heap[l]? =some (.loop (rec .ready)):=Fnd.here.get hw1
   have hy:=run_yield (P:=P) (args:=(xs.getD k []).toArray) hrl (by rw [hrec];simpa using hps k hk)
   rw [hrec] at hy
   refine ⟨fn,_,assign,body,hy,roundIn_of_wpIn trivial ?_⟩
   have hperm:∀(A B:Chunk),(A::B::(L'++R)).Perm (L'++(A::B::R)):=fun A B=>by
    refine ((List.perm_middle (l₁:=L') (a:=A) (l₂:=B::R)).trans (.cons A ?_)).symm
    exact List.perm_middle
   have hst:St n (zp6 (ps.zip (xs.getD k [])) M) ⟨(ps.zip (xs.getD k [])).foldl (fun t x=>t.setIfInBounds x.1 x.2) a.tmps,[]⟩:=by
    refine St.setp ⟨rfl,ha.size,ha.get⟩ ?_
    rw [List.all_eq_true]
    intro z hz
    exact (List.all_eq_true.1 hpn) z.1 (List.of_mem_zip hz).1
   have ha1:=(hassign l k L' ([(l,.loop (rec .ready))]::[(D,.deferred (some []))]::R) hk hj0).out _ w1 hst (hw1.perm (hperm _ _))
   have etm:(ps.toArray.zip (xs.getD k []).toArray).foldl (fun tmps (x:Tmp × Value)=>tmps.setIfInBounds x.1 x.2) a.tmps=(ps.zip (xs.getD k [])).foldl (fun t x=>t.setIfInBounds x.1 x.2) a.tmps:=by simp
   show Code.wpIn (Fence.wide.inRound l) 0 P assign _ { tmps:=(ps.toArray.zip (xs.getD k []).toArray).foldl (fun tmps (x:Tmp × Value)=>tmps.setIfInBounds x.1 x.2) a.tmps,defers:=[] } w1
   rw [etm]
   refine wpIn_mono (F:=Fr (some l)) ha1 ?_
   rintro e a2 w2 h2
   cases e with
   |normal=>
    obtain ⟨hs2,hw2⟩:=h2
    have hw2':=hw2.perm (hperm _ _).symm
    have hrl2:w2.heap[l]? =some (.loop (rec .ready)):=Fnd.here.get hw2'
    have hw3:=hw2'.putL (o':=.loop { rec .ready with state:=.busy })
    refine ⟨_,run_beginRound hrl2 (by rw [hrec]),?_⟩
    have hb1:=(hbody l k L' ([(l,.loop { rec .ready with state:=.busy })]::[(D,.deferred (some []))]::R) hk hj0).out a2 _ hs2 (hw3.perm (hperm _ _))
    refine wpIn_mono (F:=Fr (some l)) hb1 ?_
    rintro e a3 w4 ⟨rfl,L3,hj3,hw4⟩
    have hperm3:([(l,.loop { rec .ready with state:=.busy })]::[(D,.deferred (some []))]::(L3++R)).Perm (L3++([(l,.loop { rec .ready with state:=.busy })]::[(D,.deferred (some []))]::R)):=by
     refine ((List.perm_middle (l₁:=L3)).trans (.cons _ ?_)).symm
     exact List.perm_middle
    have hw4':=hw4.perm hperm3.symm
    have hrl4:w4.heap[l]? =some (.loop { rec .ready with state:=.busy }):=Fnd.here.get hw4'
    refine ⟨_,_,run_endRound none hrl4,?_⟩
    refine ⟨rfl,_,⟨_,(hJ' (k+1) _).2 ⟨L3,hj3,rfl⟩,rfl⟩,?_⟩
    have hw5:=hw4'.putL (o':=.loop (rec .ready))
    have er:(Obj.loop { { rec .ready with state:=.busy } with state:=if (none:Option Code).isNone then .ready else .done,pending:=none })=.loop (rec .ready):=by rw [hrec];rfl
    rw [er]
    exact hw5
   |exit id=>exact h2.elim
   |goto t=>exact h2.elim
   |ret=>exact h2.elim
   |panic c=>exact h2.elim
   |outgrown=>exact h2.elim
  have hW1':Holds W1 (([(l,.loop (rec .ready))]::[(D,.deferred (some []))]::L0)++Lit):=hW1
  have hcall:=hit.out l J' _ ((hJ' 0 _).2 ⟨L0,h0,rfl⟩) hyd _ hW1'
  refine CallsIn.mono hcall ?_
  rintro e w3 ⟨v,L3',rfl,⟨L3,hj3,rfl⟩,hw3⟩
  obtain ⟨L4,hj4,rfl⟩:=(hJ' _ _).1 hj3
  have hrl3:w3.heap[l]? =some (.loop (rec .ready)):=Fnd.here.get hw3
  have hpn:(rec .ready).pending=none:=by rw [hrec]
  have hend:(Instr.endLoop l).run P w3=.ok none (w3.putObj l (.loop { rec .ready with state:=.exhausted })):=
   (run_endLoop (P:=P) hrl3 (by rw [hrec];intro h;cases h)).trans (by simp [hpn])
  refine ⟨none,w3.putObj l (.loop { rec .ready with state:=.exhausted }),hend,?_⟩
  have hw5:Holds (w3.putObj l (.loop { rec .ready with state:=.exhausted })) ([(l,.loop { rec .ready with state:=.exhausted })]::[(D,.deferred (some []))]::(L4++Lit)):=hw3.putL
  refine hdone D _ _ L4 ⟨rfl,ha.size,ha.get⟩ ?_ hj4 hw5.drop
  show [_]++a.defers=_
  rw [ha.defers]
  rfl⟩
structure Wmc (P:Program) (n D:Nat) (c:Code) (Q:Exit→Act→World→Prop) (M:List (Nat × Value)) (L:List Chunk):Prop where
 out:∀a w,St n M { a with defers:=[] }→a.defers=[⟨.collected D,#[]⟩]→Holds w L→c.wp P Q a w
structure Wnc (P:Program) (n D:Nat) (ops:Array Oper) (Q:Exit→Act→World→Prop) (rest:List Oper) (M:List (Nat × Value)) (L:List Chunk):Prop where
 out:∀a w,St n M { a with defers:=[] }→a.defers=[⟨.collected D,#[]⟩]→Holds w L→wpList P ops Q rest a w
structure Wpc (n D:Nat) (q:Act→World→Prop) (M:List (Nat × Value)) (L:List Chunk):Prop where
 out:∀a w,St n M { a with defers:=[] }→a.defers=[⟨.collected D,#[]⟩]→Holds w L→q a w
theorem zoZ {D:Nat} {x y:Code} (h:Wmc P n D x (Exit.then (y.wp P Q) Q) M L):Wmc P n D (.seq x y) Q M L:=⟨fun a w ha hd hw=>wp_seq (h.out a w ha hd hw)⟩
theorem zoY {D:Nat} (h:Wpc n D (Q .ret) M L):Wmc P n D .ret Q M L:=⟨fun a w ha hd hw=>wp_ret (h.out a w ha hd hw)⟩
theorem zhP {D:Nat} {id:Nat} {l:List Oper} (h:Wnc P n D l.toArray Q l M L):Wmc P n D (.region id l.toArray false) Q M L:=⟨fun a w ha hd hw=>wp_region_lit (h.out a w ha hd hw)⟩
theorem zo0 {D:Nat} {ops:Array Oper} (h:Wpc n D (Q .normal) M L):Wnc P n D ops Q [] M L:=⟨fun a w ha hd hw=>wpList_nil (h.out a w ha hd hw)⟩
theorem zoo {D:Nat} {ops:Array Oper} {rest:List Oper} {o:Oper} {d:Nat} {v:Value} (hg:o.guard=none) (he:EV P n o M L d v) (hn:Nat.blt d n=true) (h:Wnc P n D ops Q rest ((d,v)::M) L):Wnc P n D ops Q (o::rest) M L:=⟨fun a w ha hd hw=>by
 unfold wpList
 rw [if_pos (by simp [Region.wanted,hg])]
 refine .inl ?_
 unfold Oper.wp
 have hr:=he.run { a with defers:=[] } w ha hw
 have hae:({ a with defers:=[] }:Act).eval=a.eval:=by funext x;cases x<;>rfl
 rw [hae] at hr
 rw [hr,Oper.upon_value,he.dst]
 refine h.out _ w (ha.put v hn) ?_ hw
 exact hd⟩
theorem zmt {D:Nat} {c:Code} {K:Act→World→Prop} (hK:K=c.wp P Q) (h:Wmc P n D c Q M L):Wpc n D K M L:=by subst hK;exact ⟨h.out⟩
theorem ziS {D:Nat} {fn:Func} {post:Value→List Chunk→Prop} {rs:List ResultVar} {vs:List Value} {e:Exit} (he:e=.ret∨e=.normal) (hr:fn.results=rs.toArray) (h:Yj M rs=some vs) {L1:List Chunk} (hL:∀w,Holds w L→Holds w ([(D,.deferred (some []))]::L1)) (hp:post (zV vs) L1) :
 Wpc n D (bodyPostM Fence.wide 0 P fn (fun e w'=>∃v L',e=.returned v∧post v L'∧Holds w' L') e) M L:=⟨fun a w ha hd hw=>by
 have key:LeavesInM Fence.wide 0 P fn a.tmps (fun e w'=>∃v L',e=.returned v∧post v L'∧Holds w' L') a.defers .returning w:=by
  rw [hd]
  have hw2:=hL w hw
  have hk:w.heap[D]? =some (.deferred (some [])):=Fnd.here.get hw2
  have hw3:Holds (w.putObj D (.deferred none)) ([(D,.deferred none)]::L1):=hw2.putL
  refine ⟨by simp,.inl ⟨D,_,rfl,run_takeDeferred hk,?_⟩⟩
  exact ⟨zV vs,uI (a:={ a with defers:=[] }) ha hr h,zV vs,L1,rfl,hp,hw3.drop⟩
 rcases he with rfl|rfl<;>exact key⟩
theorem Gv.of_bodyM {f:FuncId} {fn:Func} {c:Code} {args:List Value} {post:Value→List Chunk→Prop} (hf:P.funcs[f]? =some fn) (hb:fn.body=some c) (hle:Nat.ble args.length fn.ntmps=true)
 (h:WC P fn.ntmps c (bodyPostM Fence.wide 0 P fn (fun e w'=>∃v L',e=.returned v∧post v L'∧Holds w' L')) (params 0 args) L):Gv P f args.toArray L post:=⟨fun w hw=>by
 refine (callsIn_wide (n:=0)).1 (callsIn_of_wp_marks hf hb trivial ((wpIn_wide (n:=0)).2 (h.out _ w ⟨rfl,?_,?_⟩ hw)))
 ·have:=Nat.le_of_ble_eq_true hle
  simp;omega
 ·intro t v ht
  obtain ⟨_,h2⟩:=Z7 args 0 t v ht
  have h2':args[t]? =some v:=by simpa using h2
  have hlt:t < args.length:=by
   rcases Nat.lt_or_ge t args.length with h'|h'
   ·exact h'
   ·simp [List.getElem?_eq_none h'] at h2'
  rw [Array.getElem?_append_left (by simpa using hlt)]
  simpa using h2'⟩
theorem kTi {c:Operand} {x y:Code} {t:Bool} {p:Prop} (ht:p→Wic P n ro x Q M L) (hc:ev M c=some (.bool t):=by exact rfl) (hn:t=false→False:=by (intro hc;(try simp only [nrB] at hc);first|omega|exact hc trivial|exact hc rfl)) (hp:t=true→p:=by (intro hc;(try simp only [nrB] at hc);exact hc)):Wic P n ro (.cond c x y) Q M L:=
 zcC hc (fun h=>ht (hp h)) (fun h=>(hn h).elim)
theorem kFi {c:Operand} {x y:Code} {t:Bool} {p:Prop} (hf:p→Wic P n ro y Q M L) (hc:ev M c=some (.bool t):=by exact rfl) (hn:t=true→False:=by (intro hc;(try simp only [nrB] at hc);first|omega|exact hc trivial|exact hc rfl)) (hp:t=false→p:=by (intro hc;(try simp only [nrB] at hc);exact hc)):Wic P n ro (.cond c x y) Q M L:=
 zcC hc (fun h=>(hn h).elim) (fun h=>hf (hp h))
theorem kQi {c:Operand} {x y:Code} {t:Bool} {p q:Prop} (ht:p→Wic P n ro x Q M L) (hf:q→Wic P n ro y Q M L) (hc:ev M c=some (.bool t):=by exact rfl) (hp:t=true→p:=by (intro hc;(try simp only [nrB] at hc);exact hc)) (hq:t=false→q:=by (intro hc;(try simp only [nrB] at hc);exact hc)):Wic P n ro (.cond c x y) Q M L:=
 zcC hc (fun h=>ht (hp h)) (fun h=>hf (hq h))
theorem kI {p q:Prop} (h:q) (s:Wr q→p:=by (intro h9;(first|(show WL _ _ _ _ _ _ _;first|refine jA ?_|refine jB ?_|refine jC ?_|refine jD ?_|refine jE ?_|refine jF ?_)|(show OW _ _ _ _ _ _;first|refine zdK ?_|refine jI ?_|refine jJ ?_)|(show Wic _ _ _ _ _ _ _;first|refine zcF ?_|refine ZT rfl (by repeat (first|with_reducible exact NL.body|with_reducible exact zbP|with_reducible exact zbL|with_reducible refine NL.then ?_|with_reducible refine NL.block ?_)) rfl ?_|refine zaf rfl ?_|refine XH rfl ?_|refine zae ?_|refine zcE ?_|refine zad ?_|refine XG ?_)|(show WQ _ _ _ _;with_reducible first|refine jV ?_|refine XI ?_|refine jX ?_|refine jY ?_|refine jZ ?_|refine kA ?_|refine kB ?_|refine kC ?_));(repeat (first|(show WL _ _ _ _ _ _ _;first|refine jA ?_|refine jB ?_|refine jC ?_|refine jD ?_|refine jE ?_|refine jF ?_)|(show OW _ _ _ _ _ _;first|refine zdK ?_|refine jI ?_|refine jJ ?_)|(show Wic _ _ _ _ _ _ _;first|refine zcF ?_|refine ZT rfl (by repeat (first|with_reducible exact NL.body|with_reducible exact zbP|with_reducible exact zbL|with_reducible refine NL.then ?_|with_reducible refine NL.block ?_)) rfl ?_|refine zaf rfl ?_|refine XH rfl ?_|refine zae ?_|refine zcE ?_|refine zad ?_|refine XG ?_)|(show WQ _ _ _ _;with_reducible first|refine jV ?_|refine XI ?_|refine jX ?_|refine jY ?_|refine jZ ?_|refine kA ?_|refine kB ?_|refine kC ?_)));exact h9.out)):p:=s ⟨h⟩
theorem kJ {p A g:Prop} (h:p→A) (s:Wr (p→A)→g:=by (intro h9;first|((show Wic _ _ _ _ _ _ _);first|exact kTi h9.out|exact kFi h9.out)|((show WL _ _ _ _ _ _ _);first|(refine jG (fun hc=>?_) (fun hc=>?_);(focus (rw [hc];have h8:=hc;(try simp only [nrB] at h8);exact h9.out h8));(exfalso;(try simp only [nrB] at hc);first|done|omega))|(refine jG (fun hc=>?_) (fun hc=>?_);rotate_left;(focus (rw [hc];have h8:=hc;(try simp only [nrB] at h8);exact h9.out h8));(exfalso;(try simp only [nrB] at hc);first|done|omega))))):g:=s ⟨h⟩
theorem kK {p q A B g:Prop} (ht:p→A) (hf:q→B) (s:Wr ((p→A)∧(q→B))→g:=by (intro h9;first|((show Wic _ _ _ _ _ _ _);exact kQi h9.out.1 h9.out.2)|((show WL _ _ _ _ _ _ _);(refine jG (fun hc=>?_) (fun hc=>?_);(focus (rw [hc];have h8:=hc;(try simp only [nrB] at h8);exact h9.out.1 h8));(rw [hc];have h8:=hc;(try simp only [nrB] at h8);exact h9.out.2 h8))))):g:=s ⟨ht,hf⟩
theorem kL {p q:Prop} (h:q) (s:Wr q→p:=by (intro h9;(first|(show Wjc _ _ _ _ _ _ _ _;first|refine zon rfl rfl ?_|refine ziP ?_)|(show OW _ _ _ _ _ _;first|refine zdK ?_|refine jI ?_|refine jJ ?_)|(show Wic _ _ _ _ _ _ _;first|refine zcF ?_|refine ZT rfl (by repeat (first|with_reducible exact NL.body|with_reducible exact zbP|with_reducible exact zbL|with_reducible refine NL.then ?_|with_reducible refine NL.block ?_)) rfl ?_|refine zaf rfl ?_|refine XH rfl ?_|refine zae ?_|refine zcE ?_|refine zad ?_|refine XG ?_)|(show WQ _ _ _ _;with_reducible first|refine jV ?_|refine XI ?_|refine jX ?_|refine jY ?_|refine jZ ?_|refine kA ?_|refine kB ?_|refine kC ?_));(repeat (first|(show Wjc _ _ _ _ _ _ _ _;first|refine zon rfl rfl ?_|refine ziP ?_)|(show OW _ _ _ _ _ _;first|refine zdK ?_|refine jI ?_|refine jJ ?_)|(show Wic _ _ _ _ _ _ _;first|refine zcF ?_|refine ZT rfl (by repeat (first|with_reducible exact NL.body|with_reducible exact zbP|with_reducible exact zbL|with_reducible refine NL.then ?_|with_reducible refine NL.block ?_)) rfl ?_|refine zaf rfl ?_|refine XH rfl ?_|refine zae ?_|refine zcE ?_|refine zad ?_|refine XG ?_)|(show WQ _ _ _ _;with_reducible first|refine jV ?_|refine XI ?_|refine jX ?_|refine jY ?_|refine jZ ?_|refine kA ?_|refine kB ?_|refine kC ?_)));exact h9.out)):p:=s ⟨h⟩
end
end Go.Vx
namespace Go.Proofs.YtemdlifojcgplaaGreatDoor
open Go Go.Vx Go.Hf Go.If
variable [W0]
set_option maxRecDepth 4000
set_option linter.all false
theorem zl9 (p q most k:Nat) (v:Value) (a:Option Addr) (c:Nat) (dl:List Nat) (fa:Option Addr) (fc:Nat) (d:List UInt8) (s:S6) (C:Chunk) (L:List Chunk) (hd:Sl L 1 (.slice a dl.length c) dl.length (yg (icn dl))) (hok:cdE (icn dl)=0)
 (hv:Sl L 1 (.slice fa d.length fc) d.length (bsv d)) (hl:d.length≤1000000) (ht:s.t≤8 * d.length) (hm:most≤1000000) (ho:Ow 5 1 v s.out.length (bsv s.out) C) (hk1:257≤k) (hk2:k≤1000) :
 Gv Tryz.prog 139 [.pointer (some ⟨p,0,none⟩),.int .i64 (k:Int),.slice a dl.length c].toArray (wkC p q v most s.e::biC q fa d.length fc s.t::C::L) (fun r L'=>
  ∃v' C',r=.tuple #[]∧Ow 5 1 v' (mtS d most k dl s).out.length (bsv (mtS d most k dl s).out) C'∧L'=wkC p q v' most (mtS d most k dl s).e::biC q fa d.length fc (mtS d most k dl s).t::C'::L∧(mtS d most k dl s).t≤8 * d.length):=by
 refine Gv.of_body Tryz.func139 rfl rfl ?_
 have hil:(icn dl).length=dl.length:=zL dl
 by_cases h285:285 < k
 ·have hf:=wO p q most 3 s.e v (biC q fa d.length fc s.t::C::L)
  unfold mtS
  simp only [if_pos h285,ZF,vU,ql]
  (refine kW ?_;refine kV fun hc=>?_;refine kW ?_)
  refine cC rfl rfl hf (fun r L' hp=>?_)
  obtain ⟨rfl,rfl⟩:=hp
  refine kW ?_
  refine kR ?_
  exact ⟨_,iC,v,C,rfl,ho,rfl,ht⟩
 have hms:mtS d most k dl s=if (sy d (tk d s (lnB k).2) dl).e≠0 then sy d (tk d s (lnB k).2) dl
  else if 29 < sv d (tk d s (lnB k).2) dl then fl (sy d (tk d s (lnB k).2) dl) 3
  else mtD d most ((lnB k).1+tv d s (lnB k).2) (sv d (tk d s (lnB k).2) dl) (sy d (tk d s (lnB k).2) dl):=by
  unfold mtS
  rw [if_neg h285]
 rw [hms]
 clear hms
 have hb0:=zi1 3 (k - 257) 4 8 20 (wkC p q v most s.e::biC q fa d.length fc s.t::C::L) (by omega) (by omega) (by omega) (by omega) (fun i hi=>Nat.le_trans (zfr i (by omega)) (by decide))
 have hbl:=ziZ (k - 257) (by omega)
 have hxl:=zfr (k - 257) (by omega)
 obtain ⟨n0,hn0⟩:∃n0,n0=(lnB k).1:=⟨_,rfl⟩
 obtain ⟨mo,hmo⟩:∃mo,mo=(lnB k).2:=⟨_,rfl⟩
 rw [←hn0,←hmo]
 have hn400:n0≤400∧mo≤6∧(k=285→n0=258∧mo=0)∧(k≠285→n0=baB 3 4 8 (k - 257)∧mo=exB (k - 257) 4 8):=by
  rw [hn0,hmo]
  unfold lnB
  split
  ·exact ⟨by simp,by simp,fun _=>⟨rfl,rfl⟩,fun h=>by omega⟩
  ·exact ⟨hbl,hxl,fun h=>by omega,fun _=>⟨rfl,rfl⟩⟩
 obtain ⟨hq1,hq2,hq3,hq4⟩:=hn400
 (refine kW ?_;refine kV fun hc=>?_;refine kW ?_)
 rw [show (k:Int) - 257=((k - 257:Nat):Int) from by omega]
 refine cP rfl rfl hb0 ?_
 (repeat' first|refine kY ?_|refine kU fun bk=>?_|refine kV fun hc=>?_|refine kZ (fun hc=>?_) fun hc=>?_|fail)
 refine Zy (X:=Unit) (fun _=>[(0,.pointer (some ⟨p,0,none⟩)),(2,.slice a dl.length c),(6,.int .i64 (n0:Int)),(7,.int .i64 (mo:Int))]) (fun _=>wkC p q v most s.e::biC q fa d.length fc s.t::C::L) (fun _=>True) ?_ ?_
 ·(repeat' first|refine kW ?_|refine kU fun bk=>?_|refine kV fun hc=>?_|refine kZ (fun hc=>?_) fun hc=>?_|fail)
  ·obtain ⟨rfl,rfl⟩:=hq3 (by omega)
   exact yA () trivial iS (fun w h=>h)
  ·obtain ⟨e1,e2⟩:=hq4 (by omega)
   rw [←e1,←e2]
   exact yA () trivial iS (fun w h=>h)
 intro _ _
 clear hb0 hbl hxl hq3 hq4 hn0 hmo
 have ht1:=wY p q most mo v fa fc d s (C::L) (zm hv) (by omega) ht (by omega)
 have hs1:=fun h=>zgk p q most v a c (icn dl) fa fc d (tk d s mo) (C::L) (by rw [hil];exact zm hd) hok (zm hv) (by omega) h
 rw [hil,Zi] at hs1
 have htv:=wU d s mo
 have hto:=yw d s mo
 have hpw:2 ^ mo≤2 ^ 6:=Nat.pow_le_pow_right (by decide) hq2
 obtain ⟨n,hn⟩:∃n,n=n0+tv d s mo:=⟨_,rfl⟩
 rw [←hn]
 generalize hz:tv d s mo=z at ht1 htv hn
 generalize tk d s mo=s1 at ht1 hs1 hto ⊢
 rw [←hto] at ho
 refine kW ?_
 refine cC rfl rfl ht1 (fun r L' hp=>?_)
 obtain ⟨rfl,rfl,hb1⟩:=hp
 refine kW ?_
 rw [show (n0:Int)+(z:Int)=(n:Int) from by omega]
 refine cC rfl rfl (hs1 hb1) (fun r L' hp=>?_)
 obtain ⟨rfl,rfl,hb2⟩:=hp
 have hw1:∀v e (L:List Chunk),wkC p q v most e::L=[(p,cl [.pointer (some ⟨q,0,none⟩),v,.int .i64 (most:Int),.int .i64 (e:Int)] 153)]::L:=fun _ _ _=>rfl
 have hso:=zbu d s1 dl
 generalize sv d s1 dl=t
 generalize sy d s1 dl=s2 at hb2 hso ⊢
 rw [←hso] at ho
 clear hs1 ht1
 rw [hw1]
 (repeat' first|refine kW ?_|refine kU fun bk=>?_|refine kV fun hc=>?_|refine kZ (fun hc=>?_) fun hc=>?_|fail)
 ·rw [if_pos (show s2.e≠0 by omega)]
  refine kR ?_
  exact ⟨_,iC,v,C,rfl,ho,rfl,hb2⟩
 ·rw [if_neg (show ¬s2.e≠0 by omega),if_pos (show 29 < t by omega)]
  have hf:=wO p q most 3 s2.e v (biC q fa d.length fc s2.t::C::L)
  simp only [ZF,vU,ql]
  refine cC rfl rfl hf (fun r L' hp=>?_)
  obtain ⟨rfl,rfl⟩:=hp
  refine kW ?_
  refine kR ?_
  exact ⟨_,iC,v,C,rfl,ho,rfl,hb2⟩
 rw [if_neg (show ¬s2.e≠0 by omega),if_neg (show ¬29 < t by omega)]
 have hb0:=zi1 1 t 2 4 20 (wkC p q v most s2.e::biC q fa d.length fc s2.t::C::L) (by omega) (by omega) (by omega) (by omega) (fun i hi=>Nat.le_trans (zjP i (by omega)) (by decide))
 have hbl:=zo3 t (by omega)
 have hxl:=zjP t (by omega)
 have hbp:=zgt t
 unfold mtD
 generalize baB 1 2 4 t=f0 at hb0 hbl hbp ⊢
 generalize exB t 2 4=mo at hb0 hxl ⊢
 have ht1:=wY p q most mo v fa fc d s2 (C::L) (zm hv) (by omega) hb2 (by omega)
 have htv:=wU d s2 mo
 have hto:=yw d s2 mo
 have hpw:2 ^ mo≤2 ^ 13:=Nat.pow_le_pow_right (by decide) hxl
 obtain ⟨far,hfar⟩:∃far,far=f0+tv d s2 mo:=⟨_,rfl⟩
 rw [←hfar]
 generalize tv d s2 mo=z2 at ht1 htv hfar
 generalize tk d s2 mo=s3 at ht1 hto ⊢
 rw [←hto] at ho
 refine cP rfl rfl hb0 ?_
 refine kW ?_
 refine cC rfl rfl ht1 (fun r L' hp=>?_)
 obtain ⟨rfl,rfl,hb3⟩:=hp
 (repeat' first|refine kY ?_|refine kU fun bk=>?_|refine kV fun hc=>?_|refine kZ (fun hc=>?_) fun hc=>?_|fail)
 rw [show (f0:Int)+(z2:Int)=(far:Int) from by omega]
 (repeat' first|refine kY ?_|refine kU fun bk=>?_|refine kV fun hc=>?_|refine kZ (fun hc=>?_) fun hc=>?_|fail)
 obtain ⟨s4,hs4⟩:∃s4,s4=if s3.e=0∧s3.out.length < far then fl s3 3 else s3:=⟨_,rfl⟩
 rw [←hs4]
 obtain ⟨va,vc,rfl⟩:=zM ho
 have h4t:s4.t=s3.t:=by rw [hs4];split;exact vU _ _;rfl
 have h4o:s4.out=s3.out:=by rw [hs4];split;exact ql _ _;rfl
 have h4e:s4.e=if s3.e=0∧s3.out.length < far then 3 else s3.e:=by
  rw [hs4]
  split
  ·rename_i h;rw [ZF,if_pos h.1]
  ·rfl
 have h4f:s4.e=0→far≤s4.out.length:=by
  intro h
  rw [h4o]
  rw [h4e] at h
  split at h
  ·cases h
  ·omega
 refine Zy (X:=Unit) (fun _=>[(0,.pointer (some ⟨p,0,none⟩)),(6,.int .i64 (n:Int)),(9,.int .i64 (far:Int))]) (fun _=>wkC p q (.slice va s3.out.length vc) most s4.e::biC q fa d.length fc s4.t::C::L) (fun _=>True) ?_ ?_
 ·have hf:=wO p q most 3 s3.e (.slice va s3.out.length vc) (biC q fa d.length fc s3.t::C::L)
  rw [h4t,hw1,h4e]
  (repeat' first|refine kW ?_|refine kU fun bk=>?_|refine kV fun hc=>?_|refine kZ (fun hc=>?_) fun hc=>?_|fail)
  ·rw [if_pos (show s3.e=0∧s3.out.length < far by omega)]
   rw [if_pos (show s3.e=0 by omega)] at hf
   refine cC rfl rfl hf (fun r L' hp=>?_)
   obtain ⟨rfl,rfl⟩:=hp
   refine kW ?_
   exact yA () trivial iS (fun w h=>h)
  ·rw [if_neg (show ¬(s3.e=0∧s3.out.length < far) by omega)]
   exact yA () trivial iS (fun w h=>h)
  ·rw [if_neg (show ¬(s3.e=0∧s3.out.length < far) by omega)]
   exact yA () trivial iS (fun w h=>h)
 intro _ _
 have ho4:Ow 5 1 (.slice va s3.out.length vc) s4.out.length (bsv s4.out) C:=by rw [h4o];exact ho
 rw [←h4t] at hb3
 clear hs4 h4e h4t h4o hb0 ht1
 refine kW ?_
 refine zn (X:=Nat × S6 × Value × Chunk) (fun x=>[(0,.pointer (some ⟨p,0,none⟩)),(6,.int .i64 (n:Int)),(9,.int .i64 (far:Int)),(11,.int .i64 (x.1:Int))]) (fun x=>wkC p q x.2.2.1 most x.2.1.e::biC q fa d.length fc x.2.1.t::x.2.2.2::L)
  (fun x=>x.1≤n∧x.2.1.t≤8 * d.length∧Ow 5 1 x.2.2.1 x.2.1.out.length (bsv x.2.1.out) x.2.2.2∧(x.2.1.e=0→far≤x.2.1.out.length)∧cpL most far n s4=cpL most far (n - x.1) x.2.1) (fun x=>n - x.1) (0,s4,.slice va s3.out.length vc,C) ⟨Nat.zero_le _,hb3,ho4,h4f,rfl⟩ iS (fun w h=>h) ?_
 rintro ⟨i,s5,v1,C1⟩ ⟨hi,hst,hov,hfr,hsl⟩
 simp only at hi hst hov hfr hsl ⊢
 obtain ⟨wa,wc,rfl⟩:=zM hov
 rw [hw1]
 (repeat' first|refine kW ?_|refine kU fun bk=>?_|refine kV fun hc=>?_|refine kZ (fun hc=>?_) fun hc=>?_|fail)
 ·have he0:s5.e=0:=by omega
  have hfr:=hfr he0
  obtain ⟨k2,hk2⟩:∃k2,n - i=k2+1:=⟨n - i - 1,by omega⟩
  have hk3:n - (i+1)=k2:=by omega
  rw [hk2,cpL,if_pos he0] at hsl
  have hput:=zdH p q most (s5.out.getD (s5.out.length - far) 0) (.slice wa s5.out.length wc) s5 C1 (biC q fa d.length fc s5.t::L) hov hm
  have hov2:=hov
  rcases hov2 with ⟨_,h1,_⟩|⟨b,cap,rest,hve,rfl,hxl,hrl,hmc,hcm⟩
  ·omega
  injection hve with e1 e2 e3
  subst e1 e3
  clear e2
  have hcell:(bsv s5.out++rest).toArray[(s5.out.length - far) * 1]? =some (.int .u8 ((s5.out.getD (s5.out.length - far) 0).toNat:Int)):=by
   rw [Nat.mul_one]
   simpa using z8 (r:=rest) (wW (l:=s5.out) (i:=s5.out.length - far) (b:=s5.out.getD (s5.out.length - far) 0) (by simp [List.getD,show s5.out.length - far < s5.out.length from by omega]))
  have hlen:s5.out.length≤9223372036854775807:=by simp [maxLen] at hcm;omega
  unfold wkC at hput
  refine zk [14] mixed ?_
  (refine za 0 ?_;refine za 1 ?_;refine za 2 ?_;refine za 3 ?_;refine za 4 ?_;refine za 5 ?_;refine za 6 ?_;refine za 7 ?_;refine za 8 ?_;refine za 9 ?_;refine za 10 ?_;refine za 11 ?_)
  rw [show (s5.out.length:Int) - (far:Int)=((s5.out.length - far:Nat):Int) from by omega]
  refine cT 12 rfl rfl (zh (j:=s5.out.length - far) (len:=s5.out.length) rfl rfl rfl (by omega)) ?_
  refine cT 13 rfl rfl (zq rfl (by exact Fnd.there (Fnd.there Fnd.here)) hcell) ?_
  refine cL 14 rfl rfl rfl ?_
  refine cC rfl rfl (Gv.holds hput (fun w h=>iH h)) (fun r L' hp=>?_)
  obtain ⟨v2,C2,rfl,ho3,rfl⟩:=hp
  refine cD ?_
  refine kW ?_
  have hptt:=zeA most s5 (s5.out.getD (s5.out.length - far) 0)
  have hpf:(pt most s5 (s5.out.getD (s5.out.length - far) 0)).e=0→far≤(pt most s5 (s5.out.getD (s5.out.length - far) 0)).out.length:=by
   intro _
   unfold pt
   split
   ·rw [ql];exact hfr
   ·simp;omega
  generalize pt most s5 (s5.out.getD (s5.out.length - far) 0)=s6 at hsl ho3 hptt hpf ⊢
  refine zf (X:=Nat × S6 × Value × Chunk) (μ:=fun x=>n - x.1) (x:=(i,s5,.slice (some ⟨b,0,none⟩) s5.out.length wc,[(b,cl (bsv s5.out++rest) 5)])) (i+1,s6,v2,C2) (by simp only;omega) ⟨by simp only;omega,by simp only;rw [hptt];exact hst,ho3,hpf,by simp only;rw [hk3];exact hsl⟩ iS (fun w h=>?_)
  simp only [hptt]
  unfold wkC
  exact iH h
 ·have he0:¬s5.e=0:=by omega
  obtain ⟨k2,hk2⟩:∃k2,n - i=k2+1:=⟨n - i - 1,by omega⟩
  rw [hk2,cpL,if_neg he0] at hsl
  rw [hsl]
  refine kR ?_
  exact ⟨_,iC,_,C1,rfl,hov,rfl,hst⟩
 ·rw [show n - i=0 from by omega,cpL] at hsl
  rw [hsl]
  refine kR ?_
  exact ⟨_,iC,_,C1,rfl,hov,rfl,hst⟩
theorem ze5 (p q most:Nat) (v:Value) (a a2:Option Addr) (c c2:Nat) (l dl:List Nat) (fa:Option Addr) (fc:Nat) (d:List UInt8) (s:S6) (C:Chunk) (L:List Chunk) (hls:Sl L 1 (.slice a l.length c) l.length (yg (icn l))) (hokl:cdE (icn l)=0) (hll:l.length≤400)
 (hd:Sl L 1 (.slice a2 dl.length c2) dl.length (yg (icn dl))) (hok:cdE (icn dl)=0) (hv:Sl L 1 (.slice fa d.length fc) d.length (bsv d)) (hl:d.length≤1000000) (ht:s.t≤8 * d.length) (hm:most≤1000000) (ho:Ow 5 1 v s.out.length (bsv s.out) C) :
 Gv Tryz.prog 102 [.pointer (some ⟨p,0,none⟩),.slice a l.length c,.slice a2 dl.length c2].toArray (wkC p q v most s.e::biC q fa d.length fc s.t::C::L) (fun r L'=>
  ∃v' C',r=.tuple #[]∧Ow 5 1 v' (cdC d most l dl (8 * d.length+1) s).out.length (bsv (cdC d most l dl (8 * d.length+1) s).out) C'∧L'=wkC p q v' most (cdC d most l dl (8 * d.length+1) s).e::biC q fa d.length fc (cdC d most l dl (8 * d.length+1) s).t::C'::L∧(cdC d most l dl (8 * d.length+1) s).t≤8 * d.length):=by
 refine Gv.of_body Tryz.func102 rfl rfl ?_
 have hil:(icn l).length=l.length:=zL l
 have hw1:∀v e (L:List Chunk),wkC p q v most e::L=[(p,cl [.pointer (some ⟨q,0,none⟩),v,.int .i64 (most:Int),.int .i64 (e:Int)] 153)]::L:=fun _ _ _=>rfl
 generalize hR:cdC d most l dl (8 * d.length+1) s=R
 refine kW ?_
 refine zn (X:=Nat × S6 × Value × Chunk) (fun x=>[(0,.pointer (some ⟨p,0,none⟩)),(1,.slice a l.length c),(2,.slice a2 dl.length c2)]) (fun x=>wkC p q x.2.2.1 most x.2.1.e::biC q fa d.length fc x.2.1.t::x.2.2.2::L)
  (fun x=>x.2.1.t≤8 * d.length∧(x.2.1.e=0→8 * d.length < x.1+x.2.1.t)∧Ow 5 1 x.2.2.1 x.2.1.out.length (bsv x.2.1.out) x.2.2.2∧cdC d most l dl x.1 x.2.1=R) (fun x=>x.1) (8 * d.length+1,s,v,C) ⟨ht,fun _=>by simp only;omega,ho,hR⟩ iS (fun w h=>h) ?_
 rintro ⟨f,s1,v1,C1⟩ ⟨hst,hf,hov,hsl⟩
 simp only at hst hf hov hsl ⊢
 rw [hw1]
 (repeat' first|refine kW ?_|refine kU fun bk=>?_|refine kV fun hc=>?_|refine kZ (fun hc=>?_) fun hc=>?_|fail)
 ·have he0:s1.e=0:=by omega
  have hf:=hf he0
  obtain ⟨f,rfl⟩:∃g,f=g+1:=⟨f - 1,by omega⟩
  have hs1:=zgk p q most v1 a c (icn l) fa fc d s1 (C1::L) (by rw [hil];exact zm hls) hokl (zm hv) (by omega) hst
  rw [hil,Zi] at hs1
  rw [cdC,if_neg (show ¬s1.e≠0 by omega)] at hsl
  have hgo:=fun h=>zoP (d:=d) (l:=l) he0 h
  have hsv:=zoO d s1 l
  have hso:=zbu d s1 l
  have hpt:=fun c=>zeA most (sy d s1 l) c
  have hmt:=fun k=>zoD d most k dl (sy d s1 l)
  rw [←hso] at hov
  generalize sv d s1 l=k at hs1 hsl hsv
  generalize sy d s1 l=s2 at hs1 hsl hgo hso hpt hmt hov
  refine cC rfl rfl hs1 (fun r L' hp=>?_)
  obtain ⟨rfl,rfl,hb2⟩:=hp
  rw [hw1]
  (repeat' first|refine kW ?_|refine kU fun bk=>?_|refine kV fun hc=>?_|refine kZ (fun hc=>?_) fun hc=>?_|fail)
  ·rw [if_pos (show s2.e≠0 by omega)] at hsl
   have he2:s2.e≠0:=by omega
   refine zf (X:=Nat × S6 × Value × Chunk) (μ:=fun x=>x.1) (x:=(f+1,s1,v1,C1)) (f,s2,v1,C1) (by simp only;omega) ⟨hb2,fun h=>absurd h he2,hov,by simp only;rw [zai he2];exact hsl⟩ iS (fun w h=>h)
  ·have hgo:=hgo (by omega)
   rw [if_neg (show ¬s2.e≠0 by omega),if_pos (show k < 256 by omega)] at hsl
   try rw [u6]
   have hput:=zdH p q most (UInt8.ofNat k) v1 s2 C1 (biC q fa d.length fc s2.t::L) hov hm
   have hpt:=hpt (UInt8.ofNat k)
   unfold wkC at hput
   refine cC rfl rfl (Gv.holds hput (fun w h=>iH h)) (fun r L' hp=>?_)
   obtain ⟨v2,C2,rfl,ho3,rfl⟩:=hp
   refine kW ?_
   generalize pt most s2 (UInt8.ofNat k)=s3 at hsl hpt ho3
   refine zf (X:=Nat × S6 × Value × Chunk) (μ:=fun x=>x.1) (x:=(f+1,s1,v1,C1)) (f,s3,v2,C2) (by simp only;omega) ⟨by simp only;omega,fun _=>by simp only;omega,ho3,hsl⟩ iS (fun w h=>?_)
   simp only [hpt]
   unfold wkC
   exact iH h
  ·rw [if_neg (show ¬s2.e≠0 by omega),if_neg (show ¬k < 256 by omega),if_pos (show k=256 by omega)] at hsl
   rw [←hsl]
   refine kR ?_
   exact ⟨_,iC,v1,C1,rfl,hov,rfl,hb2⟩
  ·have hgo:=hgo (by omega)
   rw [if_neg (show ¬s2.e≠0 by omega),if_neg (show ¬k < 256 by omega),if_neg (show ¬k=256 by omega)] at hsl
   have hmt:=hmt k
   have hma:=zl9 p q most k v1 a2 c2 dl fa fc d s2 C1 L hd hok hv hl hb2 hm hov (by omega) (by omega)
   refine cC rfl rfl hma (fun r L' hp=>?_)
   obtain ⟨v2,C2,rfl,ho3,rfl,hb3⟩:=hp
   refine kW ?_
   generalize mtS d most k dl s2=s3 at hsl hmt ho3 hb3
   refine zf (X:=Nat × S6 × Value × Chunk) (μ:=fun x=>x.1) (x:=(f+1,s1,v1,C1)) (f,s3,v2,C2) (by simp only;omega) ⟨hb3,fun _=>by simp only;omega,ho3,hsl⟩ iS (fun w h=>h)
 ·rw [zai (show s1.e≠0 by omega)] at hsl
  rw [←hsl]
  refine kR ?_
  exact ⟨_,iC,v1,C1,rfl,hov,rfl,hst⟩
end Go.Proofs.YtemdlifojcgplaaGreatDoor
namespace Go.Vx
open Go
set_option linter.all false
variable [W0]
section
variable {P : Program} {n : Nat} {M : List (Nat × Value)} {L : List Chunk} {d : Nat} {ty : TypeId} {ps : String} {af : Array Edge} {g : Option (Nat × Bool)} {x y : Operand} {k : IntKind} {i j : Int} {t u : TypeId}
theorem XB (a b:Nat) (hx:ev M x=some (.int k i)) (hy:ev M y=some (.int k j)) (hi:i=(a:Int)) (hj:j=(b:Int)) (hs:k.signed=false) (hr:a+b < 2 ^ k.bits) :
 EV P n ⟨some d,.binOp .add t x y u,ty,ps,af,g⟩ M L d (.int k ((a+b:Nat):Int)):=by
 subst hi hj
 have h:=qj (P:=P) (n:=n) (L:=L) (d:=d) (ty:=ty) (ps:=ps) (af:=af) (g:=g) (op:=.add) (t:=t) (u:=u) hx hy rfl
 rwa [show (a:Int)+(b:Int)=((a+b:Nat):Int) from by omega,yX hs hr] at h
theorem YS (a b:Nat) (hx:ev M x=some (.int k i)) (hy:ev M y=some (.int k j)) (hi:i=(a:Int)) (hj:j=(b:Int)) (hs:k.signed=false) (hr:a * b < 2 ^ k.bits) :
 EV P n ⟨some d,.binOp .mul t x y u,ty,ps,af,g⟩ M L d (.int k ((a * b:Nat):Int)):=by
 subst hi hj
 have h:=qj (P:=P) (n:=n) (L:=L) (d:=d) (ty:=ty) (ps:=ps) (af:=af) (g:=g) (op:=.mul) (t:=t) (u:=u) hx hy rfl
 rwa [show (a:Int) * (b:Int)=((a * b:Nat):Int) from by rw [Int.natCast_mul],yX hs hr] at h
theorem zml (a b:Nat) (hx:ev M x=some (.int k i)) (hy:ev M y=some (.int k j)) (hi:i=(a:Int)) (hj:j=(b:Int)) (hs:k.signed=false) (hle:b≤a) (hr:a < 2 ^ k.bits) :
 EV P n ⟨some d,.binOp .sub t x y u,ty,ps,af,g⟩ M L d (.int k ((a - b:Nat):Int)):=by
 subst hi hj
 have h:=qj (P:=P) (n:=n) (L:=L) (d:=d) (ty:=ty) (ps:=ps) (af:=af) (g:=g) (op:=.sub) (t:=t) (u:=u) hx hy rfl
 rwa [show (a:Int) - (b:Int)=((a - b:Nat):Int) from by omega,yX hs (by omega)] at h
theorem qo {t k':Nat} [hag:AG P t k'] {b:Nat} {T:TypeId} {vs:List Value} (hx:ev M x=some (.pointer (some ⟨b,0,none⟩))) (hf:Fnd L b (cl vs T)) (hl:vs.length=k') :
 EV P n ⟨some d,.load t x,ty,ps,af,g⟩ M L d (.agg vs.toArray):=zB hx (zK.cl' hf (by simp [cut])) hl
end
omit [W0] in
def ivn (l:List Nat):List Value:=l.map fun (n:Nat)=>Value.int .i64 (n:Int)
theorem zC {l:List Nat}:(ivn l).length=l.length:=by simp [ivn]
theorem qM {l:List Nat}:ones (ivn l)=true:=by simp [ones,ivn,Value.oneCell']
theorem yC {l:List Nat} {i n:Nat} (h:l[i]? =some n):(ivn l)[i]? =some (.int .i64 (n:Int)):=by simp [ivn,h]
end Go.Vx
namespace Go.Hf
set_option linter.all false
def tal (l:List Nat):List Nat:=(List.range 16).map fun n=>if n=0 then 0 else cn l n
theorem Yf (l:List Nat):(tal l).length=16:=by simp [tal]
theorem uV (l:List Nat) {n:Nat} (h:n < 16):(tal l)[n]? =some (if n=0 then 0 else cn l n):=by simp [tal,h]
theorem vw {a b:List Nat} (ha:a.length=16) (hb:b.length=16) (h:∀n,n < 16→a[n]? =b[n]?):a=b:=by
 apply List.ext_getElem?
 intro n
 rcases Nat.lt_or_ge n 16 with hn|hn
 ·exact h n hn
 ·rw [List.getElem?_eq_none (by omega),List.getElem?_eq_none (by omega)]
theorem zoa (l:List Nat) {x:Nat} (h0:0 < x) (h:x≤15):(tal l).set x (cn l x+1)=tal (l++[x]):=by
 refine vw (by simp [tal]) (by simp [tal]) fun n hn=>?_
 by_cases he:x=n
 ·subst he
  rw [List.getElem?_set_self (by rw [Yf];exact hn),uV _ hn,if_neg (by omega),Yr,uQ,if_pos rfl]
  simp [cn]
 ·rw [List.getElem?_set_ne he,uV _ hn,uV _ hn,Yr,uQ,if_neg he]
  simp [cn]
theorem zlX (l:List Nat):tal (l++[0])=tal l:=by
 refine vw (by simp [tal]) (by simp [tal]) fun n hn=>?_
 rw [uV _ hn,uV _ hn]
 by_cases he:n=0
 ·simp [he]
 ·rw [if_neg he,if_neg he,Yr,uQ,if_neg (by omega)]
  simp [cn]
def fsl (l:List Nat) (i:Nat):List Nat:=(List.range 16).map fun n=>if n < i then fs l n else 0
theorem vV (l:List Nat) (i:Nat):(fsl l i).length=16:=by simp [fsl]
theorem Z4 (l:List Nat) (i:Nat) {n:Nat} (h:n < 16):(fsl l i)[n]? =some (if n < i then fs l n else 0):=by simp [fsl,h]
theorem zne (l:List Nat) {i:Nat} (h:i < 16):(fsl l i).set i (fs l i)=fsl l (i+1):=by
 refine vw (by simp [fsl]) (by simp [fsl]) fun n hn=>?_
 by_cases he:i=n
 ·subst he
  rw [List.getElem?_set_self (by rw [vV];exact hn),Z4 _ _ hn,if_pos (by omega)]
 ·rw [List.getElem?_set_ne he,Z4 _ _ hn,Z4 _ _ hn]
  congr 1
  have:(n < i)=(n < i+1):=by apply propext;omega
  simp only [this]
theorem znd (l:List Nat):fsl l 1=List.replicate 16 0:=by
 refine vw (vV _ _) (by simp) fun n hn=>?_
 rw [Z4 _ _ hn,List.getElem?_replicate,if_pos hn]
 by_cases h:n=0
 ·subst h;rfl
 ·rw [if_neg (by omega)]
theorem znB (ls:List Int) {i:Nat} (hi:i < ls.length):nl (ls.take (i+1))=nl (ls.take i)++[(ls.getD i 0).toNat]:=by
 have hg:ls.getD i 0=ls[i]:=by simp [List.getD,hi]
 rw [List.take_add_one,List.getElem?_eq_getElem hi,hg]
 simp only [nl,List.map_append,List.map_cons,List.map_nil,Option.toList]
end Go.Hf
namespace Go.Proofs.YtemdlifojcgplaaGreatDoor
open Go Go.Vx Go.Hf
variable [W0]
set_option maxRecDepth 4000
set_option linter.all false
omit [W0] in
def zI:List Nat:=List.replicate 16 0
omit [W0] in
def Yk (ls:List Int):List Nat:=if okL ls then tal (nl ls) else zI
theorem YO (ls:List Int):(Yk ls).length=16:=by unfold Yk;split<;>simp [tal,zI]
theorem zcs (a:Option Addr) (c:Nat) (ls:List Int) (L:List Chunk) (h:Sl L 1 (.slice a ls.length c) ls.length (yg ls)) (hl:ls.length≤17592186044416) :
 GvP Tryz.prog 258 [.slice a ls.length c].toArray L (.tuple #[.agg (ivn (Yk ls)).toArray,.bool (okL ls)]):=by
 refine Gv.of_body Tryz.func258 rfl rfl ?_
 have hout:∀(b:Bool) (l:List Nat) (M:List (Nat × Value)) (p q:Nat) (o:Obj),okL ls=b→Yk ls=l→lk M 2=some (.pointer (some ⟨p,0,none⟩))→lk M 3=some (.bool b)→
  WQ Tryz.f258.ntmps (bodyPost Tryz.prog Tryz.f258 (fun e w'=>∃v L',e=.returned v∧(v=.tuple #[.agg (ivn (Yk ls)).toArray,.bool (okL ls)]∧L'=L)∧Holds w' L') .ret) M ([(q,o)]::[(p,cl (ivn l) 311)]::L):=by
  intro b l M p q o hb hl2 h2 h3
  have hlen:(ivn l).length=16:=by rw [zC,←hl2,YO]
  refine zX (vs:=[.agg (ivn l).toArray,.bool b]) rfl (.agg ⟨by kernel_rfl,by kernel_rfl⟩ h2 (zK.cl' (vs:=ivn l) (Fnd.there Fnd.here) (by simp [cut])) hlen (.tmp h3 .nil)) ?_
  exact ⟨L,fun w h=>(iC:Inc L _).holds h,by rw [hb,hl2];rfl,rfl⟩
 (refine kX ?_;refine kU fun bk=>?_;refine kX ?_;refine kU fun bk=>?_;refine kX ?_)
 rename_i b2
 obtain ⟨b4,hb4⟩:∃b4,b4=bk:=⟨_,rfl⟩
 rw [←hb4]
 obtain ⟨F,hF⟩:∃F:Nat→List Value,∀i,F i=ivn (tal (nl (ls.take i))):=⟨_,fun _=>rfl⟩
 have hF0:ivn zI=F 0:=by rw [hF];rfl
 have hFl:∀i,(F i).length=16:=fun i=>by rw [hF,zC,Yf]
 refine zn (X:=Nat) (fun i=>[(2,.pointer (some ⟨b2,0,none⟩)),(4,.pointer (some ⟨b4,0,none⟩)),(7,.slice a ls.length c),(8,.int .i64 (ls.length:Int)),(9,.int .i64 (i:Int))])
  (fun i=>[(b4,cl (F i) 311)]::[(b2,cl (ivn zI) 311)]::L) (fun i=>i≤ls.length∧okL (ls.take i)=true) (fun i=>ls.length - i) 0 ⟨Nat.zero_le _,rfl⟩ iS (fun w h=>by rw [←hF0];exact h) ?_
 intro i ⟨hi,hok⟩
 (repeat' first|refine kX ?_|refine kU fun bk=>?_|refine kV fun hc=>?_|refine kZ (fun hc=>?_) fun hc=>?_|fail)
 ·have hlt:i < ls.length:=by omega
  obtain ⟨b,off,cap,cc,T,fr,hve,hfn,hcell⟩:=yV h (wT hlt)
  injection hve with e1 e2 e3
  subst e1 e3
  clear e2
  have hbad:=zhd hlt
  have hgood:=zeu hlt hok
  have hst:=znB ls hlt
  obtain ⟨x,hx⟩:∃x,x=ls.getD i 0:=⟨_,rfl⟩
  rw [←hx] at hcell hst hbad hgood
  refine ze (zi (j:=i) rfl rfl rfl hlt) rfl ?_
  refine kX ?_
  refine ze (zq rfl hfn.there.there hcell) rfl ?_
  have hcap:cn (nl (ls.take i)) x.toNat≤i:=by
   have h1:cn (nl (ls.take i)) x.toNat≤(nl (ls.take i)).length:=List.length_filter_le _ _
   have h2:(nl (ls.take i)).length=i:=by rw [zQ,List.length_take];omega
   omega
  (repeat' first|refine kX ?_|refine kU fun bk=>?_|refine kV fun hc=>?_|refine kZ (fun hc=>?_) fun hc=>?_|fail)
  all_goals first
   |(refine zo (l:=ivn zI) (vs:=ivn zI) (ivn zI) rfl rfl (by rfl) qM (by rfl) iU (by decide) ?_
     refine kX ?_
     exact hout false zI _ _ _ _ (hbad (by omega)) (by unfold Yk;rw [hbad (by omega)];rfl) rfl rfl)
   |skip
  ·have hxt:0 < x.toNat:=by omega
   have hx15:x.toNat≤15:=by omega
   have hxn:x=(x.toNat:Int):=by omega
   have hadd:=zoa (nl (ls.take i)) hxt hx15
   rw [←hst] at hadd
   refine wK ?_ (he:=zR x.toNat rfl rfl hxn (by omega))
   refine kX ?_
   have hld:nth (F i) (0+x.toNat * 1)=some (.int .i64 ((cn (nl (ls.take i)) x.toNat:Nat):Int)):=by
    rw [hF,yu,Nat.zero_add,Nat.mul_one]
    have:=uV (nl (ls.take i)) (show x.toNat < 16 by omega)
    rw [if_neg (by omega)] at this
    exact yC this
   refine wK ?_ (he:=zy rfl (by repeat (first|assumption|exact Fnd.here|refine Fnd.there ?_)) hld)
   refine kX ?_
   refine wK ?_ (he:=zR x.toNat rfl rfl hxn (by omega))
   refine kX ?_
   refine zG (F (i+1)) rfl rfl rfl ?_ iU (by rw [hFl];omega) ?_
   ·rw [Nat.zero_add,Nat.mul_one,hF,hF,←hadd]
    simp [ivn,List.map_set]
   refine kX ?_
   refine zf (X:=Nat) (μ:=fun i=>ls.length - i) (x:=i) (i+1) (by omega) ⟨by omega,hgood (by omega) (by omega)⟩ iS (fun w h=>h)
  ·have hx0:x.toNat=0:=by omega
   rw [hx0] at hst
   have hz:=zlX (nl (ls.take i))
   rw [←hst] at hz
   refine zf (X:=Nat) (μ:=fun i=>ls.length - i) (x:=i) (i+1) (by omega) ⟨by omega,hgood (by omega) (by omega)⟩ iS (fun w h=>?_)
   rw [hF,hz,←hF];exact h
 ·have hil:i=ls.length:=by omega
  rw [hil,List.take_length] at hok
  have hones:ones (F i)=true:=by rw [hF];exact qM
  have hFi:F i=ivn (tal (nl ls)):=by rw [hF,hil,List.take_length]
  refine wK ?_ (he:=qo (vs:=F i) rfl Fnd.here (hFl i))
  refine kX ?_
  refine zo (l:=ivn zI) (vs:=F i) (F i) rfl rfl (hFl i) hones ?_ iU (by rw [hFl];decide) ?_
  ·have e:(ivn zI).length=16:=by decide
   simp [patch,hFl,e]
  rw [hFi]
  refine kX ?_
  exact hout true (tal (nl ls)) _ _ _ _ hok (by unfold Yk;rw [hok];rfl) rfl rfl
theorem zdy (l:List Nat) (L:List Chunk) (hl:l.length≤17592186044416) (h15:∀x∈l,x≤15) :
 GvP Tryz.prog 259 [.agg (ivn (tal l)).toArray].toArray L (.int .i64 ((kS l:Nat):Int)):=by
 have htl:(ivn (tal l)).length=16:=by rw [zC,Yf]
 have htg:∀i,i < 16→(ivn (tal l))[i]? =some (.int .i64 ((if i=0 then 0 else cn l i:Nat):Int)):=fun i hi=>yC (uV l hi)
 generalize ivn (tal l)=tv at htl htg ⊢
 refine Gv.of_body Tryz.func259 rfl rfl ?_
 (refine kX ?_;refine kU fun bk=>?_;refine kX ?_)
 refine wK ?_ (he:=qo (vs:=tv) rfl Fnd.here htl)
 refine kX ?_
 refine zn (X:=Nat) (fun i=>[(3,.int .i64 ((ks l (i - 1):Nat):Int)),(6,.agg tv.toArray),(7,.int .i64 (i:Int))])
  (fun i=>L) (fun i=>i≤16) (fun i=>16 - i) 0 (Nat.zero_le _) (by rw [show 0 - 1=0 from rfl,zdb];exact iS) (fun w h=>(iC:Inc L _).holds h) ?_
 intro i hi
 have hkl:=zgR l
 have hkb:=zgV l i
 have hkb1:=zgV l (i - 1)
 have hst:ks l i=ks l (i - 1)+(if i=0 then 0 else cn l i) * 2 ^ (15 - i):=by
  by_cases h0:i=0
  ·subst h0;simp
  ·have:=X6 l (i - 1)
   rw [show i - 1+1=i from by omega] at this
   rw [if_neg h0];exact this
 (repeat' first|refine kX ?_|refine kU fun bk=>?_|refine kV fun hc=>?_|refine kZ (fun hc=>?_) fun hc=>?_|fail)
 ·have hi15:i < 16:=by omega
  refine wK ?_ (he:=Zp rfl rfl rfl (htg i hi15) hi15)
  obtain ⟨q,hq⟩:∃q,q=if i=0 then 0 else cn l i:=⟨_,rfl⟩
  rw [←hq] at hst ⊢
  have hsz:q * 2 ^ (15 - i)≤ks l i:=by omega
  refine kX ?_
  refine wK ?_ (he:=uq q (15 - i) rfl rfl rfl (by omega) (by omega) (by omega))
  refine kX ?_
  rw [show ((ks l (i - 1):Nat):Int)+((q * 2 ^ (15 - i):Nat):Int)=((ks l i:Nat):Int) from by rw [hst];omega]
  skip
  refine zf (X:=Nat) (μ:=fun i=>16 - i) (x:=i) (i+1) (by omega) (by omega) iS (fun w h=>h)
 ·have h16:i=16:=by omega
  have hka:=zfA (l:=l) (n:=15) h15
  rw [h16,show 16 - 1=15 from rfl,hka]
  exact kE
theorem zec (l:List Nat) (L:List Chunk) (hk:kS l≤32768) (hl:l.length≤400) :
 GvP Tryz.prog 241 [.agg (ivn (tal l)).toArray].toArray L (.agg (wnv (fsl l 16)).toArray):=by
 have htl:(ivn (tal l)).length=16:=by rw [zC,Yf]
 have htg:∀i,i < 16→(ivn (tal l))[i]? =some (.int .i64 ((if i=0 then 0 else cn l i:Nat):Int)):=fun i hi=>yC (uV l hi)
 generalize ivn (tal l)=tv at htl htg ⊢
 obtain ⟨F,hF⟩:∃F:Nat→List Value,∀i,F i=wnv (fsl l i):=⟨_,fun _=>rfl⟩
 have hF1:wnv zI=F 1:=by rw [hF,znd];rfl
 have hFl:∀i,(F i).length=16:=fun i=>by rw [hF,wH,vV]
 rw [←hF]
 refine Gv.of_body Tryz.func241 rfl rfl ?_
 (refine kX ?_;refine kU fun bk=>?_;refine kX ?_;refine kU fun bk=>?_;refine kX ?_;refine kU fun bk=>?_;refine kX ?_)
 rename_i b1 b2
 obtain ⟨b3,hb3⟩:∃b3,b3=bk:=⟨_,rfl⟩
 rw [←hb3]
 refine zn (X:=Nat) (fun i=>[(1,.pointer (some ⟨b1,0,none⟩)),(2,.pointer (some ⟨b2,0,none⟩)),(3,.pointer (some ⟨b3,0,none⟩)),(4,.int .i64 (i:Int))])
  (fun i=>[(b3,cl (F i) 314)]::[(b2,cl (wnv zI) 314)]::[(b1,cl tv 311)]::L) (fun i=>1≤i∧i≤16) (fun i=>16 - i) 1 ⟨by omega,by omega⟩ iS (fun w h=>by rw [←hF1];exact h) ?_
 intro i ⟨hi1,hi2⟩
 (repeat' first|refine kX ?_|refine kU fun bk=>?_|refine kV fun hc=>?_|refine kZ (fun hc=>?_) fun hc=>?_|fail)
 ·have hi15:i≤15:=by omega
  have hfit:∀n,1≤n→n≤15→fs l n+cn l n≤32768:=fun n h1 h2=>Nat.le_trans (za0 hk h1 h2) (Nat.le_trans (Nat.pow_le_pow_right (by decide) h2) (by decide))
  obtain ⟨p,hp⟩:∃p,p=fs l (i - 1):=⟨_,rfl⟩
  obtain ⟨q,hq⟩:∃q,q=if i - 1=0 then 0 else cn l (i - 1):=⟨_,rfl⟩
  have hpq:fs l i=2 * (p+q):=by
   obtain ⟨m,rfl⟩:∃m,i=m+1:=⟨i - 1,by omega⟩
   rw [hp,hq];rfl
  have hsm:p+q≤32768:=by
   by_cases h0:i - 1=0
   ·rw [hp,hq,if_pos h0,h0];simp [fs]
   ·rw [hp,hq,if_neg h0];exact hfit _ (by omega) (by omega)
  have hld1:nth (F i) (0+(i - 1) * 1)=some (.int .u32 (p:Int)):=by
   rw [hF,yu,Nat.zero_add,Nat.mul_one,hp]
   have:=Z4 l i (show i - 1 < 16 by omega)
   rw [if_pos (by omega)] at this
   exact zaA this
  have hld2:nth tv (0+(i - 1) * 1)=some (.int .i64 (q:Int)):=by
   rw [yu,Nat.zero_add,Nat.mul_one,hq]
   exact htg _ (show i - 1 < 16 by omega)
  refine zk [13] mixed ?_
  (refine zx 0 ?_;refine zx 1 ?_;refine zx 2 ?_)
  refine cT 3 rfl rfl (zR (i - 1) rfl rfl (by omega) (by omega)) ?_
  refine cT 4 rfl rfl (zy rfl (by repeat (first|exact Fnd.here|refine Fnd.there ?_)) hld1) ?_
  (refine zx 5 ?_;refine zx 6 ?_)
  refine cT 7 rfl rfl (zR (i - 1) rfl rfl (by omega) (by omega)) ?_
  refine cT 8 rfl rfl (zy rfl (by repeat (first|exact Fnd.here|refine Fnd.there ?_)) hld2) ?_
  refine cT 9 rfl rfl (vG q rfl rfl rfl (by simp only [IntKind.bits];omega)) ?_
  refine cT 10 rfl rfl (XB p q rfl rfl rfl rfl rfl (by simp only [IntKind.bits];omega)) ?_
  refine cT 11 rfl rfl (YS 2 (p+q) rfl rfl rfl rfl rfl (by simp only [IntKind.bits];omega)) ?_
  rw [←hpq]
  refine cT 12 rfl rfl (zR i rfl rfl rfl (by omega)) ?_
  refine cL 13 rfl rfl rfl ?_
  refine zG (F (i+1)) rfl rfl rfl ?_ iU (by rw [hFl];omega) ?_
  ·rw [Nat.zero_add,Nat.mul_one,hF,hF,←zne l (by omega)]
   simp [wnv,List.map_set]
  refine cD ?_
  refine kX ?_
  refine zf (X:=Nat) (μ:=fun i=>16 - i) (x:=i) (i+1) (by omega) ⟨by omega,by omega⟩ iS (fun w h=>h)
 ·have h16:i=16:=by omega
  rw [h16]
  have hl16:(F 16).length=16:=hFl 16
  have ho16:ones (F 16)=true:=by rw [hF];exact zbC
  refine wK ?_ (he:=qo (vs:=F 16) rfl Fnd.here hl16)
  refine kX ?_
  refine zo (l:=wnv zI) (vs:=F 16) (F 16) rfl rfl hl16 ho16 ?_ iU (by rw [hl16];decide) ?_
  ·have e:(wnv zI).length=16:=by decide
   simp [patch,hl16,e]
  refine kX ?_
  refine zX (vs:=[.agg (F 16).toArray]) rfl (.agg ⟨by kernel_rfl,by kernel_rfl⟩ rfl (zK.cl' (vs:=F 16) (Fnd.there Fnd.here) (by simp [cut])) hl16 .nil) ?_
  exact ⟨L,fun w h=>(iC:Inc L _).holds h,rfl,rfl⟩
theorem zng (a0 a1:Option Addr) (c0 c1:Nat) (cs ls:List Nat) (L:List Chunk) (h0:Sl L 1 (.slice a0 cs.length c0) cs.length (yg (icn cs))) (h1:Sl L 1 (.slice a1 ls.length c1) ls.length (yg (icn ls)))
 (hl:cs.length≤1000) (hcB:∀i,cs.getD i 0≤2147483648) (hsB:∀i,ls.getD i 0≤1048576) :
 GvP Tryz.prog 239 [.slice a0 cs.length c0,.slice a1 ls.length c1].toArray L (.int .i64 ((QL cs ls (min cs.length ls.length):Nat):Int)):=by
 refine Gv.of_body Tryz.func239 rfl rfl ?_
 refine kW ?_
 rw [show min (cs.length:Int) (ls.length:Int)=((min cs.length ls.length:Nat):Int) from by omega]
 refine zn (X:=Nat) (fun i=>[(0,.slice a0 cs.length c0),(1,.slice a1 ls.length c1),(5,.int .i64 ((QL cs ls i:Nat):Int)),(11,.int .i64 ((min cs.length ls.length:Nat):Int)),(12,.int .i64 (i:Int))]) (fun _=>L) (fun i=>i≤min cs.length ls.length) (fun i=>cs.length - i) 0 (Nat.zero_le _) iS (fun w h=>h) ?_
 intro i hi
 have hb:=zjw hcB hsB i
 (repeat' first|refine kW ?_|refine kU fun bk=>?_|refine kV fun hc=>?_|refine kZ (fun hc=>?_) fun hc=>?_|fail)
 ·have hlt0:i < cs.length:=by omega
  have hlt1:i < ls.length:=by omega
  obtain ⟨b,off,cap,cc,T,fr,hve,hfn,hcell⟩:=yV h0 (wT (l:=icn cs) (by rw [zL];exact hlt0))
  injection hve with e1 e2 e3
  subst e1 e3
  clear e2
  obtain ⟨b',off',cap',cc',T',fr',hve,hfn',hcell'⟩:=yV h1 (wT (l:=icn ls) (by rw [zL];exact hlt1))
  injection hve with e1 e2 e3
  subst e1 e3
  clear e2
  rw [zej] at hcell hcell'
  have hm:=Nat.mul_le_mul (hcB i) (hsB i)
  have hst:QL cs ls (i+1)=QL cs ls i+cs.getD i 0 * ls.getD i 0:=rfl
  refine zk [] mixed ?_
  (refine za 0 ?_;refine za 1 ?_;refine za 2 ?_)
  refine cT 3 rfl rfl (zi (j:=i) rfl rfl rfl hlt0) ?_
  refine cT 4 rfl rfl (zq rfl hfn hcell) ?_
  (refine za 5 ?_;refine za 6 ?_)
  refine cT 7 rfl rfl (zi (j:=i) rfl rfl rfl hlt1) ?_
  refine cT 8 rfl rfl (zq rfl hfn' hcell') ?_
  refine cT 9 rfl rfl (qU rfl rfl rfl (by rw [←Int.natCast_mul];omega)) ?_
  rw [←Int.natCast_mul]
  (refine za 10 ?_)
  rw [←Int.natCast_add,←hst]
  (refine za 11 ?_)
  refine cD ?_
  refine kW ?_
  refine zf (X:=Nat) (μ:=fun i=>cs.length - i) (x:=i) (i+1) (by omega) (by omega) iS (fun w h=>h)
 ·rw [show i=min cs.length ls.length from by omega]
  exact kE
theorem zeg (a:Option Addr) (c:Nat) (ls:List Int) (L:List Chunk) (h:Sl L 1 (.slice a ls.length c) ls.length (yg ls)) (hl:ls.length≤17592186044416) :
 GvP Tryz.prog 266 [.slice a ls.length c].toArray L (.bool (wgt ls == 32768)):=by
 refine Gv.of_body Tryz.func266 rfl rfl ?_
 have ht:=fun L' h'=>zcs a c ls L' h' hl
 have hs:=fun L' (hok:okL ls=true)=>zdy (nl ls) L' (by rw [zQ];exact hl) (fun x hx=>Xw hok hx)
 have hte:okL ls=true→ivn (Yk ls)=ivn (tal (nl ls)):=fun hok=>by unfold Yk;rw [hok];rfl
 have htl:(ivn (Yk ls)).length=16:=by rw [zC,YO]
 have hto:ones (ivn (Yk ls))=true:=qM
 generalize ivn (tal (nl ls))=sv at hs hte
 generalize ivn (Yk ls)=tv at ht hte htl hto
 refine kX ?_
 refine cP rfl rfl (ht L h) ?_
 (refine kX ?_;refine kU fun bk=>?_;refine kX ?_)
 refine yD (L':=[(bk,cl (ivn zI) 311)]::L) (fun w h=>h) ?_
 refine zo (l:=ivn zI) (vs:=tv) tv rfl rfl htl hto ?_ iU (by rw [htl];decide) ?_
 ·have e:(ivn zI).length=16:=by decide
  simp [patch,htl,e]
 cases hok:okL ls with
 |false=>
  rw [show wgt ls= -1 from by unfold wgt;rw [hok];rfl]
  refine kX ?_
  refine kR ?_
  exact ⟨L,iC,rfl,rfl⟩
 |true=>
  have hs:=hs ([(bk,cl tv 311)]::L) hok
  rw [←hte hok] at hs
  rw [show wgt ls=((kS (nl ls):Nat):Int) from by unfold wgt;rw [hok];rfl]
  refine kX ?_
  refine wK ?_ (he:=qo (vs:=tv) rfl Fnd.here htl)
  refine kX ?_
  refine cP rfl rfl hs ?_
  refine kX ?_
  refine kR ?_
  exact ⟨L,iC,rfl,rfl⟩
omit [W0] in
def ZA (ls:List Int):List Nat:=if cdE ls=0 then tal (nl ls) else zI
theorem YN (ls:List Int):(ZA ls).length=16:=by unfold ZA;split<;>simp [tal,zI]
theorem zbZ (a:Option Addr) (c:Nat) (ls:List Int) (L:List Chunk) (h:Sl L 1 (.slice a ls.length c) ls.length (yg ls)) (hl:ls.length≤17592186044416) :
 GvP Tryz.prog 240 [.slice a ls.length c].toArray L (.tuple #[.agg (ivn (ZA ls)).toArray,.int .i64 (cdE ls:Int)]):=by
 refine Gv.of_body Tryz.func240 rfl rfl ?_
 have hout:∀(e:Nat) (l:List Nat) (M:List (Nat × Value)) (p q:Nat) (o:Obj),cdE ls=e→ZA ls=l→lk M 2=some (.pointer (some ⟨p,0,none⟩))→lk M 3=some (.int .i64 (e:Int))→
  WQ Tryz.f240.ntmps (bodyPost Tryz.prog Tryz.f240 (fun e w'=>∃v L',e=.returned v∧(v=.tuple #[.agg (ivn (ZA ls)).toArray,.int .i64 (cdE ls:Int)]∧L'=L)∧Holds w' L') .ret) M ([(q,o)]::[(p,cl (ivn l) 311)]::L):=by
  intro b l M p q o hb hl2 h2 h3
  have hlen:(ivn l).length=16:=by rw [zC,←hl2,YN]
  refine zX (vs:=[.agg (ivn l).toArray,.int .i64 (b:Int)]) rfl (.agg ⟨by kernel_rfl,by kernel_rfl⟩ h2 (zK.cl' (vs:=ivn l) (Fnd.there Fnd.here) (by simp [cut])) hlen (.tmp h3 .nil)) ?_
  exact ⟨L,fun w h=>(iC:Inc L _).holds h,by rw [hb,hl2];rfl,rfl⟩
 have ht:=fun L' h'=>zcs a c ls L' h' hl
 have hs:=fun L' (hok:okL ls=true)=>zdy (nl ls) L' (by rw [zQ];exact hl) (fun x hx=>Xw hok hx)
 have hte:okL ls=true→ivn (Yk ls)=ivn (tal (nl ls)):=fun hok=>by unfold Yk;rw [hok];rfl
 have htc:cdE ls=0→ivn (Yk ls)=ivn (ZA ls):=fun h0=>by unfold ZA;rw [if_pos h0,hte (uP h0).2.1]
 have htl:(ivn (Yk ls)).length=16:=by rw [zC,YO]
 have hto:ones (ivn (Yk ls))=true:=qM
 generalize ivn (tal (nl ls))=sv at hs hte
 generalize ivn (Yk ls)=tv at ht hte htl hto htc
 have hkl:=zgR (nl ls)
 rw [zQ] at hkl
 have hbad:∀(e:Nat),0 < e→cdE ls=e→ZA ls=zI:=fun e h0 he=>by unfold ZA;rw [if_neg (by omega)]
 (refine kX ?_;refine kU fun bk=>?_;refine kX ?_)
 obtain ⟨b2,hb2⟩:∃b2,b2=bk:=⟨_,rfl⟩
 rw [←hb2]
 clear hb2
 refine cP rfl rfl (ht _ (zm h)) ?_
 (refine kX ?_;refine kU fun bk=>?_;refine kX ?_)
 obtain ⟨b4,hb4⟩:∃b4,b4=bk:=⟨_,rfl⟩
 rw [←hb4]
 refine yD (L':=[(b4,cl (ivn zI) 311)]::[(b2,cl (ivn zI) 311)]::L) (fun w h=>h) ?_
 refine zo (l:=ivn zI) (vs:=tv) tv rfl rfl htl hto ?_ iU (by rw [htl];decide) ?_
 ·have e:(ivn zI).length=16:=by decide
  simp [patch,htl,e]
 have hz:∀(M:List (Nat × Value)) (K:List (Nat × Value)→List Chunk→Prop) (o:Oper) (dst:Operand) (y:Operand) (ty:TypeId) (ps:String) (af:Array Edge) (g:Option (Nat × Bool)),ev M dst=some (.pointer (some ⟨b2,0,none⟩))→ev M y=some (.agg (ivn zI).toArray)→
  K M ([(b4,cl tv 311)]::[(b2,cl (ivn zI) 311)]::L)→OW Tryz.prog Tryz.f240.ntmps ⟨none,.store 311 dst y,ty,ps,af,g⟩ K M ([(b4,cl tv 311)]::[(b2,cl (ivn zI) 311)]::L):=by
  intro M K o dst y ty ps af g h1 h2 h3
  exact zo (l:=ivn zI) (vs:=ivn zI) (ivn zI) h1 h2 (by rfl) qM (by rfl) iU (by decide) h3
 cases hok:okL ls with
 |false=>
  have e1:=(zaj (ls:=ls) (.inr hok)).1
  refine kX ?_
  refine hz _ _ default _ _ _ _ _ _ rfl rfl ?_
  refine kX ?_
  exact hout 1 zI _ _ _ _ e1 (hbad 1 (by omega) e1) rfl rfl
 |true=>
  have hs:=hs ([(b4,cl tv 311)]::[(b2,cl (ivn zI) 311)]::L) hok
  rw [←hte hok] at hs
  (repeat' first|refine kX ?_|refine kU fun bk=>?_|refine kV fun hc=>?_|refine kZ (fun hc=>?_) fun hc=>?_|fail)
  ·have e1:=(zaj (ls:=ls) (.inl (by omega))).1
   refine hz _ _ default _ _ _ _ _ _ rfl rfl ?_
   refine kX ?_
   exact hout 1 zI _ _ _ _ e1 (hbad 1 (by omega) e1) rfl rfl
  refine wK ?_ (he:=qo (vs:=tv) rfl Fnd.here htl)
  refine kX ?_
  refine cP rfl rfl hs ?_
  (repeat' first|refine kX ?_|refine kU fun bk=>?_|refine kV fun hc=>?_|refine kZ (fun hc=>?_) fun hc=>?_|fail)
  ·have e1:=(zbX (ls:=ls) (by omega) hok (by omega)).1
   refine hz _ _ default _ _ _ _ _ _ rfl rfl ?_
   refine kX ?_
   exact hout 3 zI _ _ _ _ e1 (hbad 3 (by omega) e1) rfl rfl
  ·have e1:=(Yq (ls:=ls) (by omega) hok (by omega)).1
   refine wK ?_ (he:=qo (vs:=tv) rfl Fnd.here htl)
   refine kX ?_
   refine zo (l:=ivn zI) (vs:=tv) tv rfl rfl htl hto ?_ iU (by rw [htl];decide) ?_
   ·have e:(ivn zI).length=16:=by decide
    simp [patch,htl,e]
   rw [htc e1]
   refine kX ?_
   exact hout 0 (ZA ls) _ _ _ _ e1 rfl rfl rfl
end Go.Proofs.YtemdlifojcgplaaGreatDoor
namespace Go.Hf
set_option linter.all false
def nxl (l:List Nat) (i:Nat):List Nat:=(List.range 16).map fun n=>if n=0 then 0 else fs l n+cn (l.take i) n
theorem vY (l:List Nat) (i:Nat):(nxl l i).length=16:=by simp [nxl]
theorem Y5 (l:List Nat) (i:Nat) {n:Nat} (h:n < 16):(nxl l i)[n]? =some (if n=0 then 0 else fs l n+cn (l.take i) n):=by simp [nxl,h]
theorem zkO (l:List Nat):nxl l 0=fsl l 16:=by
 refine vw (vY _ _) (vV _ _) fun n hn=>?_
 rw [Y5 _ _ hn,Z4 _ _ hn,if_pos hn]
 by_cases h:n=0
 ·subst h;rfl
 ·rw [if_neg h];simp [cn]
theorem znC {l:List Nat} {i:Nat} (hi:i < l.length) (h0:0 < l.getD i 0) (h15:l.getD i 0≤15):(nxl l i).set (l.getD i 0) (fs l (l.getD i 0)+cn (l.take i) (l.getD i 0)+1)=nxl l (i+1):=by
 refine vw (by simp [nxl]) (vY _ _) fun n hn=>?_
 rw [Y5 _ _ hn,vI hi]
 by_cases he:l.getD i 0=n
 ·subst he
  rw [List.getElem?_set_self (by rw [vY];exact hn),if_neg (by omega),if_pos rfl,Nat.add_assoc]
 ·rw [List.getElem?_set_ne he,Y5 _ _ hn,if_neg he,Nat.add_zero]
theorem zkN {l:List Nat} {i:Nat} (hi:i < l.length) (h0:l.getD i 0=0):nxl l i=nxl l (i+1):=by
 refine vw (vY _ _) (vY _ _) fun n hn=>?_
 rw [Y5 _ _ hn,Y5 _ _ hn,vI hi]
 by_cases he:n=0
 ·rw [if_pos he,if_pos he]
 ·rw [if_neg he,if_neg he,if_neg (by omega),Nat.add_zero]
def cdp (l:List Nat) (i:Nat):List Nat:=(List.range l.length).map fun j=>if j < i then cd l j else 0
theorem ZX (l:List Nat) (i:Nat):(cdp l i).length=l.length:=by simp [cdp]
theorem zcS {l:List Nat} {i j:Nat} (hj:j < l.length):(cdp l i)[j]? =some (if j < i then cd l j else 0):=by simp [cdp,hj]
theorem zak {l A:List Nat} {i:Nat} (hl:A.length=l.length) (h:∀j,j < l.length→A[j]? =some (if j < i then cd l j else 0)):A=cdp l i:=by
 apply List.ext_getElem?
 intro j
 rcases Nat.lt_or_ge j l.length with hj|hj
 ·rw [h j hj,zcS hj]
 ·rw [List.getElem?_eq_none (by omega),List.getElem?_eq_none (by rw [ZX];exact hj)]
theorem zji (l:List Nat):cdp l 0=List.replicate l.length 0:=by
 refine (zak (by simp) fun j hj=>?_).symm
 rw [List.getElem?_replicate,if_pos hj,if_neg (by omega)]
theorem zmK {l:List Nat} {i:Nat} (hi:i < l.length):(cdp l i).set i (cd l i)=cdp l (i+1):=by
 refine zak (by simp [cdp]) fun j hj=>?_
 by_cases he:i=j
 ·subst he
  rw [List.getElem?_set_self (by rw [ZX];exact hj),if_pos (by omega)]
 ·rw [List.getElem?_set_ne he,zcS hj]
  congr 1
  have e:(j < i)=(j < i+1):=by apply propext;omega
  simp only [e]
theorem zjh {l:List Nat} {i:Nat} (h0:l.getD i 0=0):cdp l i=cdp l (i+1):=by
 refine zak (ZX _ _) fun j hj=>?_
 rw [zcS hj]
 by_cases he:j=i
 ·subst he
  rw [if_neg (by omega),if_pos (by omega)]
  unfold cd
  rw [if_pos h0]
 ·congr 1
  have e:(j < i)=(j < i+1):=by apply propext;omega
  simp only [e]
theorem zmJ (l:List Nat):cdp l l.length=cds l:=by
 refine (zak (by simp [cds]) fun j hj=>?_).symm
 rw [if_pos hj]
 simp [cds,hj]
end Go.Hf
namespace Go.Proofs.YtemdlifojcgplaaGreatDoor
open Go Go.Vx Go.Hf
variable [W0]
set_option maxRecDepth 4000
set_option linter.all false
theorem zj7 (a:Option Addr) (c:Nat) (ls:List Int) (L:List Chunk) (h:Sl L 1 (.slice a ls.length c) ls.length (yg ls)) (hl:ls.length≤17592186044416) :
 Gv Tryz.prog 205 [.slice a ls.length c].toArray L (fun r L'=>∃u C,r=.tuple #[u,.int .i64 (cdE ls:Int)]∧L'=C::L∧Ow 88 1 u (cdL ls).length (wnv (cdL ls)) C):=by
 refine Gv.of_body Tryz.func205 rfl rfl ?_
 have hno:cdE ls≠0→∀(M:List (Nat × Value)) (D:Chunk),lk M 2=some (.slice none 0 0)→lk M 3=some (.int .i64 (cdE ls:Int))→
  WQ Tryz.f205.ntmps (bodyPost Tryz.prog Tryz.f205 (fun e w'=>∃v L',e=.returned v∧(∃u C,v=.tuple #[u,.int .i64 (cdE ls:Int)]∧L'=C::L∧Ow 88 1 u (cdL ls).length (wnv (cdL ls)) C)∧Holds w' L') .ret) M (D::L):=by
  intro he M D h2 h3
  refine um (rs:=[.tmp 2,.tmp 3]) (vs:=[.slice none 0 0,.int .i64 (cdE ls:Int)]) rfl (by simp [Yj,h2,h3]) ?_
  have e:cdL ls=[]:=if_neg he
  rw [e]
  exact ⟨[]::L,fun w hw=>Holds.nil.2 hw.drop,_,[],rfl,rfl,.inl ⟨rfl,rfl,rfl,rfl⟩⟩
 have ht:=fun L' h'=>zbZ a c ls L' h' hl
 have hf:=fun L' (h0:cdE ls=0)=>zec (nl ls) L' (uP h0).2.2 (by rw [zQ];exact (uP h0).1)
 have hte:cdE ls=0→ivn (tal (nl ls))=ivn (ZA ls):=fun h0=>by unfold ZA;rw [if_pos h0]
 have htl:(ivn (ZA ls)).length=16:=by rw [zC,YN]
 have hto:ones (ivn (ZA ls))=true:=qM
 generalize ivn (tal (nl ls))=sv at hf hte
 generalize ivn (ZA ls)=tv at ht hte htl hto
 refine kX ?_
 refine cP rfl rfl (ht _ h) ?_
 (refine kX ?_;refine kU fun bk=>?_;refine kX ?_)
 obtain ⟨b4,hb4⟩:∃b4,b4=bk:=⟨_,rfl⟩
 rw [←hb4]
 refine yD (L':=[(b4,cl (ivn zI) 311)]::L) (fun w h=>h) ?_
 clear hb4
 refine zo (l:=ivn zI) (vs:=tv) tv rfl rfl htl hto ?_ iU (by rw [htl];decide) ?_
 ·have e:(ivn zI).length=16:=by decide
  simp [patch,htl,e]
 (repeat' first|refine kX ?_|refine kU fun bk=>?_|refine kV fun hc=>?_|refine kZ (fun hc=>?_) fun hc=>?_|fail)
 ·exact hno (by omega) _ _ rfl rfl
 have h0:cdE ls=0:=by omega
 obtain ⟨h400,hok,hk⟩:=uP h0
 have hf:=hf ([(b4,cl tv 311)]::L) h0
 rw [hte h0] at hf
 have e2:cdL ls=cds (nl ls):=if_pos h0
 obtain ⟨l,hll⟩:∃l,l=nl ls:=⟨_,rfl⟩
 have hlen:l.length=ls.length:=by rw [hll,zQ]
 rw [←hll] at hk hf e2
 have h15:∀x∈l,x≤15:=fun x hx=>Xw hok (by rw [←hll];exact hx)
 have hfit:∀n,1≤n→n≤15→fs l n+cn l n≤32768:=fun n h1 h2=>Nat.le_trans (za0 hk h1 h2) (Nat.le_trans (Nat.pow_le_pow_right (by decide) h2) (by decide))
 obtain ⟨F,hF⟩:∃F:Nat→List Value,∀i,F i=wnv (nxl l i):=⟨_,fun _=>rfl⟩
 have hFl:∀i,(F i).length=16:=fun i=>by rw [hF,wH,vY]
 have hFo:ones (F 0)=true:=by rw [hF];exact zbC
 rw [←zkO,←hF] at hf
 refine wK ?_ (he:=qo (vs:=tv) rfl Fnd.here htl)
 refine kX ?_
 refine cP rfl rfl hf ?_
 (refine kX ?_;refine kU fun bk=>?_;refine kX ?_)
 obtain ⟨b6,hb6⟩:∃b6,b6=bk:=⟨_,rfl⟩
 rw [←hb6]
 refine yD (L':=[(b6,cl (wnv zI) 314)]::[(b4,cl tv 311)]::L) (fun w h=>h) ?_
 clear hb6
 refine zo (l:=wnv zI) (vs:=F 0) (F 0) rfl rfl (hFl 0) hFo ?_ iU (by rw [hFl];decide) ?_
 ·have e:(wnv zI).length=16:=by decide
  simp [patch,hFl,e]
 refine kX ?_
 refine zJ (m:=ls.length) (c:=ls.length) rfl rfl (by rfl) (by omega) (by omega) (by omega) rfl (fun bn=>?_)
 rw [show zeros (Value.int .u32 0).cells.toList ls.length=wnv (cdp l 0) from by rw [zji,hlen];exact QG _]
 refine kX ?_
 have hls:(nl ls).length=ls.length:=zQ ls
 refine zn (X:=Nat) (fun i=>[(6,.pointer (some ⟨b6,0,none⟩)),(7,.slice (some ⟨bn,0,none⟩) ls.length ls.length),(23,.slice a ls.length c),(24,.int .i64 (ls.length:Int)),(25,.int .i64 (i:Int))])
  (fun i=>[(bn,cl (wnv (cdp l i)) 88)]::[(b6,cl (F i) 314)]::[(b4,cl tv 311)]::L) (fun i=>i≤ls.length) (fun i=>ls.length - i) 0 (Nat.zero_le _) iS (fun w h=>h) ?_
 intro i hi
 (repeat' first|refine kX ?_|refine kU fun bk=>?_|refine kV fun hc=>?_|refine kZ (fun hc=>?_) fun hc=>?_|fail)
 ·have hlt:i < ls.length:=by omega
  obtain ⟨b,off,cap,cc,T,fr,hve,hfn,hcell⟩:=yV h (wT hlt)
  injection hve with q1 q2 q3
  subst q1 q3
  clear q2
  have hat:=zdh hok i
  rw [←hll] at hat
  rw [←hat.2.2] at hcell
  obtain ⟨x,hx⟩:∃x,x=l.getD i 0:=⟨_,rfl⟩
  have hx15:x≤15:=by omega
  have hset:=znC (l:=l) (i:=i) (by omega)
  have hskip:=zkN (l:=l) (i:=i) (by omega)
  have hskip2:=zjh (l:=l) (i:=i)
  have hcd:0 < x→cd l i=fs l x+cn (l.take i) x:=fun h=>by unfold cd;rw [←hx,if_neg (by omega)]
  rw [←hx] at hcell hset hskip hskip2
  refine wK ?_ (he:=zi (j:=i) rfl rfl rfl hlt)
  refine kX ?_
  refine wK ?_ (he:=zq rfl hfn.there.there.there hcell)
  (repeat' first|refine kX ?_|refine kU fun bk=>?_|refine kV fun hc=>?_|refine kZ (fun hc=>?_) fun hc=>?_|fail)
  ·have hx0:0 < x:=by omega
   have hsm:=hfit x (by omega) hx15
   have hct:=ZY l i x
   have hct2:cn (l.take i) x+1≤cn l x:=by
    have h1:=vI (l:=l) (j:=i) (by omega) x
    rw [if_pos hx.symm] at h1
    have h2:=ZY l (i+1) x
    omega
   have hcd:=hcd hx0
   have hld:nth (F i) (0+x * 1)=some (.int .u32 ((cd l i:Nat):Int)):=by
    rw [hF,yu,Nat.zero_add,Nat.mul_one]
    have:=Y5 l i (show x < 16 by omega)
    rw [if_neg (by omega),←hcd] at this
    exact zaA this
   refine wK ?_ (he:=zy rfl (by repeat (first|assumption|exact Fnd.here|refine Fnd.there ?_)) hld)
   refine kX ?_
   refine zG (l:=wnv (cdp l i)) (wnv (cdp l (i+1))) rfl rfl rfl (by rw [Nat.mul_one,←zmK (by omega)];simp [wnv,List.map_set]) iU (by rw [wH,ZX];omega) ?_
   refine kX ?_
   refine wK ?_ (he:=zy rfl (by repeat (first|assumption|exact Fnd.here|refine Fnd.there ?_)) hld)
   refine kX ?_
   refine zG (F (i+1)) rfl rfl rfl ?_ iU (by rw [hFl];omega) ?_
   ·rw [Nat.zero_add,Nat.mul_one,hF,hF,←hset hx0 hx15,←hcd]
    simp only [wnv,List.map_set]
    refine congrArg _ (congrArg _ ?_)
    show (((BitVec.ofNat 32 (cd l i)+1#32).toNat:Nat):Int)=_
    rw [BitVec.toNat_add,BitVec.toNat_ofNat]
    show ((((cd l i) % 4294967296+1) % 4294967296:Nat):Int)=_
    omega
   refine kX ?_
   refine zf (X:=Nat) (μ:=fun i=>ls.length - i) (x:=i) (i+1) (by omega) (by omega) iS (fun w h=>h)
  ·have hx0:x=0:=by omega
   refine zf (X:=Nat) (μ:=fun i=>ls.length - i) (x:=i) (i+1) (by omega) (by omega) iS (fun w h=>?_)
   rw [hF,←hskip hx0,←hskip2 hx0,←hF]
   exact h
 ·have hie:i=l.length:=by omega
  rw [hie,zmJ]
  refine kR ?_
  have hcl:(cds l).length=ls.length:=by simp [cds,hlen]
  refine ⟨[(bn,cl (wnv (cds l)) 88)]::L,iC,_,_,by rw [h0];rfl,rfl,?_⟩
  rw [e2,hcl]
  exact .inr ⟨bn,ls.length,[],rfl,by rw [List.append_nil],by rw [wH,hcl,Nat.mul_one],by simp,Nat.le_refl _,by simp [maxLen];omega⟩
end Go.Proofs.YtemdlifojcgplaaGreatDoor
namespace Go.Hf
set_option linter.all false
def smb (l:List Nat) (i n:Nat):List Nat:=(List.range i).filter fun j=>l.getD j 0 == n&&decide (0 < n)
theorem ZK (l:List Nat) (i n:Nat):smb l (i+1) n=smb l i n++(if l.getD i 0=n∧0 < n then [i] else []):=by
 unfold smb
 rw [List.range_succ,List.filter_append]
 congr 1
 by_cases h:l.getD i 0=n∧0 < n
 ·rw [if_pos h,List.filter_cons,if_pos (by simp only [Bool.and_eq_true,beq_iff_eq,decide_eq_true_eq];exact h)];rfl
 ·rw [if_neg h,List.filter_cons,if_neg (by simp only [Bool.and_eq_true,beq_iff_eq,decide_eq_true_eq];exact h)];rfl
theorem zp8 (l:List Nat) (i n:Nat):(smb l i n).length≤i:=by
 have:=List.length_filter_le (fun j=>l.getD j 0 == n&&decide (0 < n)) (List.range i)
 rw [List.length_range] at this
 exact this
theorem Yb {l:List Nat} {n:Nat} (h0:0 < n):∀{i:Nat},i≤l.length→(smb l i n).length=cn (l.take i) n
 |0,_=>by simp [smb,cn]
 |i+1,hi=>by
  rw [ZK,List.length_append,Yb h0 (by omega),vI (by omega)]
  congr 1
  by_cases h:l.getD i 0=n
  ·rw [if_pos ⟨h,h0⟩,if_pos h];rfl
  ·rw [if_neg (fun hh=>h hh.1),if_neg h];rfl
theorem zhx (l:List Nat) (n i:Nat):∀k,∃r,smb l (i+k) n=smb l i n++r
 |0=>⟨[],by simp⟩
 |k+1=>by
  obtain ⟨r,hr⟩:=zhx l n i k
  rw [show i+(k+1)=(i+k)+1 from rfl,ZK,hr,List.append_assoc]
  exact ⟨_,rfl⟩
theorem zn4 {l:List Nat} {n i:Nat} (hi:l[i]? =some n) (h0:0 < n):(smb l l.length n)[cn (l.take i) n]? =some i:=by
 have hlt:i < l.length:=(List.getElem?_eq_some_iff.1 hi).1
 have hg:l.getD i 0=n:=by simp [List.getD,hi]
 obtain ⟨r,hr⟩:=zhx l n (i+1) (l.length - (i+1))
 rw [show i+1+(l.length - (i+1))=l.length from by omega] at hr
 rw [hr,ZK,if_pos ⟨hg,h0⟩,←Yb h0 (Nat.le_of_lt hlt)]
 simp
end Go.Hf
namespace Go.Proofs.YtemdlifojcgplaaGreatDoor
open Go Go.Vx Go.Hf
variable [W0]
set_option maxRecDepth 4000
set_option linter.all false
omit [W0] in
structure SyR (l:List Nat) (i:Nat) (vs:List Value) (Cs:List Chunk):Prop where
 lv:vs.length=16
 lc:Cs.length=16
 at_:∀n,n < 16→∃v C,vs[n]? =some v∧Cs[n]? =some C∧Ow 3 1 v (smb l i n).length (ivn (smb l i n)) C
theorem zaY {α:Type}:∀{Cs:List (List α)} {n:Nat} {C:List α},Cs[n]? =some C→∃D1 D2,Cs.flatten=D1++(C++D2)∧∀C',(Cs.set n C').flatten=D1++(C'++D2)
 |[],n,C,h=>by simp at h
 |D::r,0,C,h=>by
  simp at h
  subst h
  exact ⟨[],r.flatten,by simp,fun C'=>by simp⟩
 |D::r,n+1,C,h=>by
  simp at h
  obtain ⟨D1,D2,h1,h2⟩:=zaY h
  exact ⟨D++D1,D2,by simp [h1],fun C'=>by simp [h2]⟩
theorem SyR.new (l:List Nat):SyR l 0 (List.replicate 16 (.slice none 0 0)) (List.replicate 16 []):=by
 refine ⟨by simp,by simp,fun n hn=>⟨_,_,?_,?_,.inl ⟨rfl,rfl,rfl,rfl⟩⟩⟩
 ·rw [List.getElem?_replicate,if_pos hn]
 ·rw [List.getElem?_replicate,if_pos hn]
theorem SyR.step {l:List Nat} {i:Nat} {vs:List Value} {Cs:List Chunk} (h:SyR l i vs Cs) {v':Value} {C':Chunk} (h0:0 < l.getD i 0) (h15:l.getD i 0 < 16)
 (ho:Ow 3 1 v' ((smb l i (l.getD i 0)).length+1) (ivn (smb l i (l.getD i 0))++ivn [i]) C'):SyR l (i+1) (vs.set (l.getD i 0) v') (Cs.set (l.getD i 0) C'):=by
 refine ⟨by rw [List.length_set];exact h.lv,by rw [List.length_set];exact h.lc,fun n hn=>?_⟩
 by_cases he:l.getD i 0=n
 ·subst he
  refine ⟨v',C',List.getElem?_set_self (by rw [h.lv];exact hn),List.getElem?_set_self (by rw [h.lc];exact hn),?_⟩
  rw [ZK,if_pos ⟨rfl,h0⟩,List.length_append]
  have e:ivn (smb l i (l.getD i 0)++[i])=ivn (smb l i (l.getD i 0))++ivn [i]:=by simp [ivn]
  rw [e]
  exact ho
 ·obtain ⟨v,C,h1,h2,h3⟩:=h.at_ n hn
  refine ⟨v,C,by rw [List.getElem?_set_ne he];exact h1,by rw [List.getElem?_set_ne he];exact h2,?_⟩
  rw [ZK,if_neg (fun hh=>he hh.1),List.append_nil]
  exact h3
theorem SyR.put {l:List Nat} {vs:List Value} {Cs:List Chunk} (h:SyR l 0 vs Cs) (x:Nat) {v':Value} {C':Chunk} (ho:Ow 3 1 v' 0 [] C'):SyR l 0 (vs.set x v') (Cs.set x C'):=by
 refine ⟨by rw [List.length_set];exact h.lv,by rw [List.length_set];exact h.lc,fun n hn=>?_⟩
 by_cases he:x=n
 ·subst he
  exact ⟨v',C',List.getElem?_set_self (by rw [h.lv];exact hn),List.getElem?_set_self (by rw [h.lc];exact hn),ho⟩
 ·obtain ⟨v,C,h1,h2,h3⟩:=h.at_ n hn
  exact ⟨v,C,by rw [List.getElem?_set_ne he];exact h1,by rw [List.getElem?_set_ne he];exact h2,h3⟩
theorem SyR.skip {l:List Nat} {i:Nat} {vs:List Value} {Cs:List Chunk} (h:SyR l i vs Cs) (h0:l.getD i 0=0):SyR l (i+1) vs Cs:=by
 refine ⟨h.lv,h.lc,fun n hn=>?_⟩
 obtain ⟨v,C,h1,h2,h3⟩:=h.at_ n hn
 refine ⟨v,C,h1,h2,?_⟩
 rw [ZK,if_neg (fun hh=>by omega),List.append_nil]
 exact h3
omit [W0] in
def coC (l:List Nat) (vs:List Value):List Value:=wnv (fsl l 16)++(vs++[.int .i64 (kS l:Int)])
omit [W0] in
def CoD (l:List Nat) (p:Nat) (C:Chunk):Prop:=∃vs Cs,C=[(p,cl (coC l vs) 342)]++Cs.flatten∧SyR l l.length vs Cs
theorem zjs (Fv:List Value) (h:Fv.length=16) (k:Int):zA [(0,16),(16,16),(32,1)] (wnv zI++(List.replicate 16 (.slice none 0 0)++[.int .i64 0])) [(0,.agg Fv.toArray),(2,.int .i64 k)]=some (Fv++(List.replicate 16 (.slice none 0 0)++[.int .i64 k])):=by
 have e:(wnv zI).length=16:=by decide
 have p1:patch (wnv zI++(List.replicate 16 (Value.slice none 0 0)++[.int .i64 0])) 0 Fv=Fv++(List.replicate 16 (.slice none 0 0)++[.int .i64 0]):=by
  unfold patch
  rw [Nat.zero_add,h,←e,List.drop_left]
  simp
 have p2:patch (Fv++(List.replicate 16 (Value.slice none 0 0)++[.int .i64 0])) 32 [.int .i64 k]=Fv++(List.replicate 16 (.slice none 0 0)++[.int .i64 k]):=by
  unfold patch
  rw [List.take_append,List.drop_append,h]
  rw [List.take_of_length_le (by omega),List.drop_of_length_le (by simp;omega)]
  simp
 have c1:(Value.agg Fv.toArray).cells.toList=Fv:=rfl
 have c2:(Value.int .i64 k).cells.toList=[.int .i64 k]:=rfl
 unfold zA
 simp only [List.getElem?_cons_zero]
 rw [if_pos (by refine ⟨by rw [←Array.length_toList,c1,h],by simp [e]⟩),c1,p1]
 unfold zA
 simp only [List.getElem?_cons_succ,List.getElem?_cons_zero]
 rw [if_pos (by refine ⟨rfl,by simp [h]⟩),c2,p2]
 rfl
theorem zfm {Fv vs:List Value} {s v:Value} {x:Nat} (h:Fv.length=16) (hv:vs[x]? =some v):nth (Fv++(vs++[s])) (16+x * 1)=some v:=by
 have hlt:=(List.getElem?_eq_some_iff.1 hv).1
 rw [yu,Nat.mul_one,List.getElem?_append_right (by omega),h,show 16+x - 16=x from by omega,List.getElem?_append_left hlt]
 exact hv
theorem zjt {Fv vs:List Value} {s v:Value} {x:Nat} (h:Fv.length=16) (hv:x < vs.length):(Fv++(vs++[s])).set (16+x * 1) v=Fv++(vs.set x v++[s]):=by
 rw [Nat.mul_one,List.set_append_right _ _ (by omega),h,show 16+x - 16=x from by omega,List.set_append_left _ _ hv]
theorem zkc (a:Option Addr) (c:Nat) (ls:List Int) (L:List Chunk) (h:Sl L 1 (.slice a ls.length c) ls.length (yg ls)) (hl:ls.length≤17592186044416) :
 Gv Tryz.prog 267 [.slice a ls.length c].toArray L (fun r L'=>(cdE ls≠0∧r=.tuple #[.pointer none,.int .i64 (cdE ls:Int)]∧L'=L)∨
  (cdE ls=0∧∃p C,r=.tuple #[.pointer (some ⟨p,0,none⟩),.int .i64 0]∧L'=C::L∧CoD (nl ls) p C)):=by
 refine Gv.of_body Tryz.func267 rfl rfl ?_
 have hno:cdE ls≠0→∀(M:List (Nat × Value)) (D:Chunk),lk M 2=some (.pointer none)→lk M 3=some (.int .i64 (cdE ls:Int))→
  WQ Tryz.f267.ntmps (bodyPost Tryz.prog Tryz.f267 (fun e w'=>∃v L',e=.returned v∧((cdE ls≠0∧v=.tuple #[.pointer none,.int .i64 (cdE ls:Int)]∧L'=L)∨
  (cdE ls=0∧∃p C,v=.tuple #[.pointer (some ⟨p,0,none⟩),.int .i64 0]∧L'=C::L∧CoD (nl ls) p C))∧Holds w' L') .ret) M (D::L):=by
  intro he M D h2 h3
  refine um (rs:=[.tmp 2,.tmp 3]) (vs:=[.pointer none,.int .i64 (cdE ls:Int)]) rfl (by simp [Yj,h2,h3]) ?_
  exact ⟨L,fun w hw=>hw.drop,.inl ⟨he,rfl,rfl⟩⟩
 have ht:=fun L' h'=>zbZ a c ls L' h' hl
 have hf:=fun L' (h0:cdE ls=0)=>zec (nl ls) L' (uP h0).2.2 (by rw [zQ];exact (uP h0).1)
 have hs:=fun L' (h0:cdE ls=0)=>zdy (nl ls) L' (by rw [zQ];exact hl) (fun x hx=>Xw (uP h0).2.1 hx)
 have hte:cdE ls=0→ivn (tal (nl ls))=ivn (ZA ls):=fun h0=>by unfold ZA;rw [if_pos h0]
 have htl:(ivn (ZA ls)).length=16:=by rw [zC,YN]
 have hto:ones (ivn (ZA ls))=true:=qM
 have htg:cdE ls=0→∀i,i < 16→∃n:Nat,(ivn (ZA ls))[i]? =some (.int .i64 (n:Int))∧n≤ls.length:=fun h0 i hi=>by
  rw [←hte h0]
  refine ⟨_,yC (uV _ hi),?_⟩
  split
  ·omega
  ·unfold cn
   exact Nat.le_trans (List.length_filter_le _ _) (by rw [zQ];omega)
 generalize ivn (tal (nl ls))=sv at hf hte hs
 generalize ivn (ZA ls)=tv at ht hte htl hto htg
 refine kX ?_
 refine cP rfl rfl (ht _ h) ?_
 (refine kX ?_;refine kU fun bk=>?_;refine kX ?_)
 obtain ⟨b4,hb4⟩:∃b4,b4=bk:=⟨_,rfl⟩
 rw [←hb4]
 refine yD (L':=[(b4,cl (ivn zI) 311)]::L) (fun w h=>h) ?_
 clear hb4
 refine zo (l:=ivn zI) (vs:=tv) tv rfl rfl htl hto ?_ iU (by rw [htl];decide) ?_
 ·have e:(ivn zI).length=16:=by decide
  simp [patch,htl,e]
 (repeat' first|refine kX ?_|refine kU fun bk=>?_|refine kV fun hc=>?_|refine kZ (fun hc=>?_) fun hc=>?_|fail)
 ·exact hno (by omega) _ _ rfl rfl
 have h0:cdE ls=0:=by omega
 obtain ⟨h400,hok,hk⟩:=uP h0
 have hf:=hf ([(b4,cl tv 311)]::L) h0
 have hs:=hs ([(b4,cl tv 311)]::L) h0
 rw [hte h0] at hf hs
 obtain ⟨l,hll⟩:∃l,l=nl ls:=⟨_,rfl⟩
 have hlen:l.length=ls.length:=by rw [hll,zQ]
 rw [←hll] at hk hf hs
 have h15:∀x∈l,x≤15:=fun x hx=>Xw hok (by rw [←hll];exact hx)
 have hco:∀vs,coC l vs=wnv (fsl l 16)++(vs++[.int .i64 (kS l:Int)]):=fun vs=>rfl
 have hFl:(wnv (fsl l 16)).length=16:=by rw [wH,vV]
 have hFo:ones (wnv (fsl l 16))=true:=zbC
 generalize hFv:wnv (fsl l 16)=Fv at hf hco hFl hFo
 refine zk [] mixed ?_
 refine zx 0 ?_ (he:=qo (vs:=tv) rfl Fnd.here htl)
 refine zx 2 ?_ (he:=qo (vs:=tv) rfl Fnd.here htl)
 refine cI 1 rfl rfl ?_
 refine cP rfl rfl hf ?_
 refine ⟨iC,?_⟩
 refine cI 3 rfl rfl ?_
 refine cP rfl rfl hs ?_
 refine ⟨iC,?_⟩
 refine cT 4 rfl rfl (uo rfl (zjs Fv hFl (kS l:Int))) ?_
 refine cI 5 rfl rfl ?_
 refine ziH rfl rfl (fun p=>?_)
 refine ⟨iC,?_⟩
 (refine zx 6 ?_)
 refine cD ?_
 refine kX ?_
 have hls:(nl ls).length=ls.length:=zQ ls
 refine wK ?_ (he:=qo (vs:=tv) rfl (by repeat (first|exact Fnd.here|refine Fnd.there ?_)) htl)
 refine kX ?_
 refine zn (X:=Nat × List Value × List Chunk) (fun x=>[(6,.pointer (some ⟨p,0,none⟩)),(0,.slice a ls.length c),(25,.agg tv.toArray),(26,.int .i64 (x.1:Int))])
  (fun x=>[(p,cl (Fv++(x.2.1++[.int .i64 (kS l:Int)])) 342)]::x.2.2.flatten::[(b4,cl tv 311)]::L) (fun x=>x.1≤16∧SyR l 0 x.2.1 x.2.2) (fun x=>16 - x.1)
  (0,List.replicate 16 (.slice none 0 0),List.replicate 16 []) ⟨Nat.zero_le _,SyR.new l⟩ iS (fun w h=>?_) ?_
 ·show Holds w (_::(List.replicate 16 ([]:Chunk)).flatten::_)
  rw [show (List.replicate 16 ([]:Chunk)).flatten=[] from by decide]
  exact (iC:Inc _ _).holds (Holds.gap.2 h)
 intro x ⟨hx1,hx2⟩
 obtain ⟨i,vs,Cs⟩:=x
 simp only at hx1 hx2 ⊢
 (repeat' first|refine kX ?_|refine kU fun bk=>?_|refine kV fun hc=>?_|refine kZ (fun hc=>?_) fun hc=>?_|fail)
 ·have hlt:i < 16:=by omega
  obtain ⟨n,hn,hnl⟩:=htg h0 i hlt
  refine wK ?_ (he:=Zp rfl rfl rfl hn hlt)
  refine kX ?_
  obtain ⟨v,C,hv,hC,ho⟩:=hx2.at_ i hlt
  obtain ⟨D1,D2,hfl,hfl2⟩:=zaY hC
  have hvl:=hx2.lv
  refine qP (L':=[(p,cl (Fv++(vs++[.int .i64 (kS l:Int)])) 342)]::D1::D2::[(b4,cl tv 311)]::L) (fun w h=>?_) ?_
  ·rw [hfl] at h
   have h2:Holds w ([(p,cl (Fv++(vs++[.int .i64 (kS l:Int)])) 342)]::D1::C::D2::[(b4,cl tv 311)]::L):=by simpa [Holds,List.append_assoc] using h
   exact iH h2
  refine yO [[(p,cl (Fv++(vs++[.int .i64 (kS l:Int)])) 342)]] [7] mixed ?_
  (refine zx 0 ?_;refine zx 1 ?_;refine zx 2 ?_;refine zx 4 ?_;refine zx 5 ?_)
  refine cI 3 rfl rfl ?_
  refine zJ (k:=1) (m:=0) (c:=n) rfl rfl rfl (Nat.zero_le _) (by omega) (by omega) rfl (fun b=>?_)
  refine ⟨iC,?_⟩
  (refine zx 6 ?_)
  refine cL 7 rfl rfl rfl ?_
  have ho':Ow 3 1 (.slice (some ⟨b,0,none⟩) 0 n) 0 [] [(b,cl (zeros [.int .i64 0] n) 3)]:=.inr ⟨b,n,_,rfl,rfl,rfl,by simp [zeros_length],Nat.zero_le _,by unfold maxLen;omega⟩
  refine zG (Fv++(vs.set i (.slice (some ⟨b,0,none⟩) 0 n)++[.int .i64 (kS l:Int)])) rfl rfl rfl (zjt hFl (by omega)) iU (by rw [List.length_append,List.length_append,hFl,hvl];simp;omega) ?_
  refine cD ?_
  refine kX ?_
  refine zf (X:=Nat × List Value × List Chunk) (μ:=fun x=>16 - x.1) (x:=(i,vs,Cs)) (i+1,_,_) (by simp only;omega) ⟨by simp only;omega,hx2.put i ho'⟩ iS (fun w h=>?_)
  have h2:=(iC:Inc ([(p,cl (Fv++(vs.set i (.slice (some ⟨b,0,none⟩) 0 n)++[.int .i64 (kS l:Int)])) 342)]::D1::[(b,cl (zeros [.int .i64 0] n) 3)]::D2::[(b4,cl tv 311)]::L) _).holds h
  simp only [hfl2]
  simpa [Holds,List.append_assoc] using h2
 refine zn (X:=Nat × List Value × List Chunk) (fun x=>[(6,.pointer (some ⟨p,0,none⟩)),(38,.slice a ls.length c),(39,.int .i64 (ls.length:Int)),(40,.int .i64 (x.1:Int))])
  (fun x=>[(p,cl (Fv++(x.2.1++[.int .i64 (kS l:Int)])) 342)]::x.2.2.flatten::[(b4,cl tv 311)]::L) (fun x=>x.1≤ls.length∧SyR l x.1 x.2.1 x.2.2) (fun x=>ls.length - x.1)
  (0,vs,Cs) ⟨Nat.zero_le _,hx2⟩ iS (fun w h=>h) ?_
 clear hx1 hx2
 intro x ⟨hx1,hx2⟩
 obtain ⟨i,vs,Cs⟩:=x
 simp only at hx1 hx2 ⊢
 (repeat' first|refine kX ?_|refine kU fun bk=>?_|refine kV fun hc=>?_|refine kZ (fun hc=>?_) fun hc=>?_|fail)
 ·have hlt:i < ls.length:=by omega
  obtain ⟨b,off,cap,cc,T,fr,hve,hfn,hcell⟩:=yV h (wT hlt)
  injection hve with q1 q2 q3
  subst q1 q3
  clear q2
  have hat:=zdh hok i
  rw [←hll] at hat
  rw [←hat.2.2] at hcell
  have hstep:=@SyR.step _ l i vs Cs hx2
  have hskip:=hx2.skip
  obtain ⟨x,hx⟩:∃x,x=l.getD i 0:=⟨_,rfl⟩
  have hx15:x≤15:=by omega
  rw [←hx] at hcell hstep hskip
  refine wK ?_ (he:=zi (j:=i) rfl rfl rfl hlt)
  refine kX ?_
  refine wK ?_ (he:=zq rfl hfn.there.there.there hcell)
  (repeat' first|refine kX ?_|refine kU fun bk=>?_|refine kV fun hc=>?_|refine kZ (fun hc=>?_) fun hc=>?_|fail)
  ·have hx0:0 < x:=by omega
   obtain ⟨v,C,hv,hC,ho⟩:=hx2.at_ x (by omega)
   obtain ⟨D1,D2,hfl,hfl2⟩:=zaY hC
   have hsl:=zp8 l i x
   refine qP (L':=[(p,cl (Fv++(vs++[.int .i64 (kS l:Int)])) 342)]::D1::C::D2::[(b4,cl tv 311)]::L) (fun w h=>?_) ?_
   ·rw [hfl] at h
    simpa [Holds,List.append_assoc] using h
   refine yO [[(p,cl (Fv++(vs++[.int .i64 (kS l:Int)])) 342)]] [14] mixed ?_
   (refine zx 0 ?_;refine zx 1 ?_;refine zx 2 ?_;refine zx 3 ?_;refine zx 4 ?_;refine zx 5 ?_;refine zx 6 ?_)
   refine zx 7 ?_ (he:=zy rfl (by repeat (first|exact Fnd.here|refine Fnd.there ?_)) (zfm hFl hv))
   (refine zx 8 ?_;refine zx 11 ?_;refine zx 12 ?_)
   refine cI 9 rfl rfl ?_
   refine zl (cs:=ivn [i]) rfl (by rfl) (by simp [zA,patch,Value.cells,zeros];rfl) (by omega) rfl rfl (fun bs=>?_)
   refine ⟨iC,?_⟩
   refine cI 10 rfl rfl ?_
   refine zu rfl rfl ho (zF (c:=(ivn [i]).toArray) (xs:=ivn [i]) (m:=1) Fnd.here rfl (by simp)) (by repeat (first|exact Zip.here _|apply Zip.there)) rfl qM (by omega) (by simp [maxLen];omega) rfl (fun v' C' ho' _ _=>?_)
   refine ⟨iC,?_⟩
   (refine zx 13 ?_)
   refine cL 14 rfl rfl rfl ?_
   refine zG (Fv++(vs.set x v'++[.int .i64 (kS l:Int)])) rfl rfl (uK ho') (zjt hFl (by rw [hx2.lv];omega)) iU (by rw [List.length_append,List.length_append,hFl,hx2.lv];simp;omega) ?_
   refine cD ?_
   refine kX ?_
   refine zf (X:=Nat × List Value × List Chunk) (μ:=fun x=>ls.length - x.1) (x:=(i,vs,Cs)) (i+1,vs.set x v',Cs.set x C') (by simp only;omega) ⟨by simp only;omega,hstep hx0 (by omega) ho'⟩ iS (fun w h=>?_)
   have h2:=(iC:Inc ([(p,cl (Fv++(vs.set x v'++[.int .i64 (kS l:Int)])) 342)]::D1::C'::D2::[(b4,cl tv 311)]::L) _).holds h
   simp only [hfl2]
   simpa [Holds,List.append_assoc] using h2
  ·have hx0:x=0:=by omega
   refine zf (X:=Nat × List Value × List Chunk) (μ:=fun x=>ls.length - x.1) (x:=(i,vs,Cs)) (i+1,vs,Cs) (by simp only;omega) ⟨by simp only;omega,hskip hx0⟩ iS (fun w h=>h)
 ·have hie:i=l.length:=by omega
  rw [hie] at hx2
  refine kH ?_
  refine ⟨(_::L),fun w h=>?_,.inr ⟨h0,p,_,rfl,rfl,vs,Cs,rfl,by rw [←hll];exact hx2⟩⟩
  rw [←hll,hco]
  have h2:=(iC:Inc ([(p,cl (Fv++(vs++[.int .i64 (kS l:Int)])) 342)]::Cs.flatten::L) _).holds h
  exact Holds.split.2 h2
end Go.Proofs.YtemdlifojcgplaaGreatDoor
namespace Go.Proofs.YtemdlifojcgplaaGreatDoor
open Go Go.Vx
variable [W0]
set_option maxRecDepth 4000
set_option linter.all false
omit [W0] in
def clp (n:Int):Nat:=(min (max n 0) 32).toNat
theorem zjn (n:Int):clp n≤32:=by unfold clp;omega
theorem zjm (n:Int):min (max n 0) 32=((clp n:Nat):Int):=by unfold clp;omega
theorem XL {n:Nat} (h:n≤32):clp (n:Int)=n:=by unfold clp;omega
theorem zb0 (n:Int) (L:List Chunk):GvP Tryz.prog 149 [.int .i64 n].toArray L (.int .i64 ((clp n:Nat):Int)):=by
 refine Gv.of_body Tryz.func149 rfl rfl ?_
 refine kW ?_
 rw [zjm]
 skip
 exact kE
theorem Z8 {a b:Nat} (h:a≤b):2 ^ a≤2 ^ b:=Nat.pow_le_pow_right (by decide) h
theorem zen (n:Nat) (L:List Chunk) (h:n≤32):GvP Tryz.prog 150 [.int .i64 (n:Int)].toArray L (.int .u64 ((2 ^ n - 1:Nat):Int)):=by
 refine Gv.of_body Tryz.func150 rfl rfl ?_
 have h1:=Z8 h
 have h0:0 < 2 ^ n:=Nat.pow_pos (by decide)
 refine kW ?_
 refine ze (vH 1 n rfl rfl rfl rfl rfl (by simp [IntKind.bits];omega)) rfl ?_
 refine kW ?_
 refine ze (qj rfl rfl rfl) rfl ?_
 rw [show ((1 * 2 ^ n:Nat):Int) - 1=((2 ^ n - 1:Nat):Int) from by omega,yX rfl (by simp [IntKind.bits];omega)]
 refine kW ?_
 exact kE
theorem zfG (v n:Nat) (L:List Chunk) (hv:v < 2 ^ 32) (h:n≤32):GvP Tryz.prog 256 [.int .u32 (v:Int),.int .i64 (n:Int)].toArray L (.int .u32 ((mir v n:Nat):Int)):=by
 refine Gv.of_body Tryz.func256 rfl rfl ?_
 refine kW ?_
 refine zn (X:=Nat) (fun k=>[(0,.int .u32 ((v / 2 ^ k:Nat):Int)),(5,.int .u32 ((mir v k:Nat):Int)),(6,.int .i64 (n:Int)),(7,.int .i64 (k:Int))]) (fun k=>L) (fun k=>k≤n) (fun k=>n - k) 0 (Nat.zero_le _)
  (Sub.cons (by rw [Nat.pow_zero,Nat.div_one];rfl) iS) (fun w h=>h) ?_
 intro k hk
 have hm:=zdf v k
 (repeat' first|refine kW ?_|refine kU fun bk=>?_|refine kV fun hc=>?_|refine kZ (fun hc=>?_) fun hc=>?_|fail)
 ·have h1:2 ^ (k+1)≤2 ^ 32:=Z8 (by omega)
  have h2:=Nat.pow_succ 2 k
  have h3:v / 2 ^ k≤v:=Nat.div_le_self _ _
  refine ze (vH (mir v k) 1 rfl rfl rfl rfl rfl (by simp only [IntKind.bits];omega)) rfl ?_
  refine kW ?_
  refine ze (uM (v / 2 ^ k) 1 rfl rfl rfl rfl rfl (by simp only [IntKind.bits];omega) (by decide)) rfl ?_
  refine kW ?_
  refine ze (YT (v / 2 ^ k % 2 ^ 1) (mir v k) 1 rfl rfl rfl rfl rfl (Nat.mod_lt _ (by decide)) (by simp only [IntKind.bits];omega)) rfl ?_
  rw [show v / 2 ^ k % 2 ^ 1+mir v k * 2 ^ 1=mir v (k+1) from by simp only [mir];omega]
  refine kW ?_
  refine ze (Zq (v / 2 ^ k) 1 rfl rfl rfl rfl (by simp only [IntKind.bits];omega)) rfl ?_
  rw [Nat.div_div_eq_div_mul,←Nat.pow_add]
  refine kW ?_
  refine zf (X:=Nat) (μ:=fun k=>n - k) (x:=k) (k+1) (by omega) (by omega) iS (fun w h=>h)
 ·have hk2:k=n:=by omega
  subst hk2
  exact kE
omit [W0] in
def WrD (p V N:Nat) (D E:Chunk):Prop:=V < 2 ^ N∧∃v,D=[(p,cl [v,.int .u64 ((V / 2 ^ (8 * (N / 8)):Nat):Int),.int .i64 ((N % 8:Nat):Int)] 171)]∧Ow 5 1 v (N / 8) (bsv (leB V (N / 8))) E
theorem WrD.new (p:Nat):WrD p 0 0 [(p,cl [.slice none 0 0,.int .u64 0,.int .i64 0] 171)] []:=⟨by decide,_,rfl,.inl ⟨rfl,rfl,rfl,rfl⟩⟩
theorem add_lt {V N x c:Nat} (hV:V < 2 ^ N) (hx:x < 2 ^ c):V+2 ^ N * x < 2 ^ (N+c):=by
 rw [Nat.pow_add]
 have h:2 ^ N * (x+1)≤2 ^ N * 2 ^ c:=Nat.mul_le_mul_left _ hx
 rw [Nat.mul_add] at h
 omega
theorem zhm (p V N v:Nat) (n:Int) (D E:Chunk) (L:List Chunk) (h:WrD p V N D E) (hv:v < 2 ^ 32) (hN:N≤1125899906841600) :
 Gv Tryz.prog 114 [.pointer (some ⟨p,0,none⟩),.int .u32 (v:Int),.int .i64 n].toArray (D::E::L) (fun r L'=>r=.tuple #[]∧∃D' E',WrD p (V+2 ^ N * (v % 2 ^ clp n)) (N+clp n) D' E'∧L'=D'::E'::L):=by
 obtain ⟨hV,f,rfl,hf⟩:=h
 refine Gv.of_body Tryz.func114 rfl rfl ?_
 refine kW ?_
 refine cP rfl rfl (zb0 n _) ?_
 have hc:=zjn n
 generalize clp n=c at hc ⊢
 obtain ⟨V',hV'⟩:∃V',V'=V+2 ^ N * (v % 2 ^ c):=⟨_,rfl⟩
 obtain ⟨N',hN'⟩:∃N',N'=N+c:=⟨_,rfl⟩
 rw [←hV',←hN']
 have hlt:V' < 2 ^ N':=by rw [hV',hN'];exact add_lt hV (Nat.mod_lt _ (Nat.pow_pos (by decide)))
 have hw:V / 2 ^ (8 * (N / 8)) < 2 ^ (N % 8):=by
  rw [Nat.div_lt_iff_lt_mul (Nat.pow_pos (by decide)),←Nat.pow_add,show N % 8+8 * (N / 8)=N from by omega]
  exact hV
 have hw':V / 2 ^ (8 * (N / 8))+v % 2 ^ c * 2 ^ (N % 8)=V' / 2 ^ (8 * (N / 8)):=by
  rw [hV',show 2 ^ N * (v % 2 ^ c)=2 ^ (8 * (N / 8)) * (v % 2 ^ c * 2 ^ (N % 8)) from by
   rw [show 2 ^ N=2 ^ (8 * (N / 8)) * 2 ^ (N % 8) from by rw [←Nat.pow_add];congr 1;omega];ac_rfl,Nat.add_mul_div_left _ _ (Nat.pow_pos (by decide))]
 have hb1:v % 2 ^ c < 2 ^ 32:=Nat.lt_of_le_of_lt (Nat.mod_le _ _) hv
 have hb2:v % 2 ^ c * 2 ^ (N % 8) < 2 ^ 32 * 2 ^ 8:=Nat.mul_lt_mul_of_lt_of_le hb1 (Z8 (by omega)) (Nat.pow_pos (by decide))
 have hb3:2 ^ (N % 8)≤2 ^ 8:=Z8 (by omega)
 refine kW ?_
 refine zk [17] mixed ?_
 (refine za 0 ?_;refine za 1 ?_;refine za 2 ?_;refine za 3 ?_;refine za 4 ?_)
 refine cT 5 rfl rfl (vG v rfl rfl rfl (by simp only [IntKind.bits];omega)) ?_
 (refine za 6 ?_;refine za 9 ?_;refine za 10 ?_;refine za 11 ?_;refine za 12 ?_)
 refine cI 7 rfl rfl ?_
 refine cP rfl rfl (zen c _ hc) ?_
 refine ⟨iC,?_⟩
 refine cT 8 rfl rfl (uM v c rfl rfl rfl rfl rfl (by simp only [IntKind.bits];omega) (by simp only [IntKind.bits];omega)) ?_
 refine cT 13 rfl rfl (vH (v % 2 ^ c) (N % 8) rfl rfl rfl rfl rfl (by simp only [IntKind.bits];omega)) ?_
 refine cT 14 rfl rfl (ze9 (V / 2 ^ (8 * (N / 8))) (v % 2 ^ c) (N % 8) rfl rfl rfl rfl rfl hw (by simp only [IntKind.bits];omega)) ?_
 rw [hw']
 (refine za 15 ?_;refine za 16 ?_)
 refine cL 17 rfl rfl rfl ?_
 refine qL rfl rfl rfl iU (by simp) ?_
 refine cD ?_
 refine kW ?_
 rw [show ((N % 8:Nat):Int)+(c:Int)=(N':Int) - 8 * ((N / 8:Nat):Int) from by omega]
 skip
 refine zn (X:=Nat × Value × Chunk) (fun x=>[(0,.pointer (some ⟨p,0,none⟩))])
  (fun x=>[(p,cl [x.2.1,.int .u64 ((V' / 2 ^ (8 * x.1):Nat):Int),.int .i64 ((N':Int) - 8 * (x.1:Int))] 171)]::x.2.2::L)
  (fun x=>8 * x.1≤N'∧N'≤8 * x.1+40∧Ow 5 1 x.2.1 x.1 (bsv (leB V' x.1)) x.2.2) (fun x=>N' - 8 * x.1) (N / 8,f,E) ⟨by simp only;omega,by simp only;omega,by rw [hV',znq (by omega)];exact hf⟩ iS (fun w h=>h) ?_
 intro x ⟨hx1,hx3,hx2⟩
 obtain ⟨k,s,C⟩:=x
 simp only at hx1 hx2 hx3 ⊢
 (repeat' first|refine kW ?_|refine kU fun bk=>?_|refine kV fun hc=>?_|refine kZ (fun hc=>?_) fun hc=>?_|fail)
 ·refine yO ([(p,cl [s,.int .u64 ((V' / 2 ^ (8 * k):Nat):Int),.int .i64 ((N':Int) - 8 * (k:Int))] 171)]::L) [14] mixed ?_
  (refine za 0 ?_;refine za 1 ?_;refine za 2 ?_;refine za 3 ?_;refine za 4 ?_;refine za 5 ?_;refine za 6 ?_;refine za 7 ?_;refine za 8 ?_)
  refine cT 9 rfl rfl (ziB (V' / 2 ^ (8 * k)) rfl rfl) ?_
  refine cI 10 rfl rfl ?_
  refine zl (cs:=bsv [byB V' k]) rfl (by rfl) (by simp [zA,patch,Value.cells,zeros];rfl) (by omega) rfl rfl (fun bk=>?_)
  refine ⟨iC,?_⟩
  refine cI 11 rfl rfl ?_
  refine zu rfl rfl hx2 (zF (c:=(bsv [byB V' k]).toArray) (xs:=bsv [byB V' k]) (m:=1) Fnd.here rfl (by simp)) (by repeat (first|exact Zip.here _|apply Zip.there)) (by rfl) yj (by omega) (by simp [maxLen];omega) rfl (fun v' C' ho1 h1 h2=>?_)
  rw [←yt,←za9] at ho1
  refine ⟨iC,?_⟩
  (refine za 12 ?_;refine za 13 ?_)
  refine cL 14 rfl rfl rfl ?_
  refine qL rfl rfl (uK ho1) iU (by simp) ?_
  refine cD ?_
  refine kW ?_
  have hq:V' / 2 ^ (8 * k) < 2 ^ 64:=by
   rw [Nat.div_lt_iff_lt_mul (Nat.pow_pos (by decide)),←Nat.pow_add]
   exact Nat.lt_of_lt_of_le hlt (Z8 (by omega))
  refine ze (Zq (V' / 2 ^ (8 * k)) 8 rfl rfl rfl rfl (by simp only [IntKind.bits];exact hq)) rfl ?_
  rw [Nat.div_div_eq_div_mul,←Nat.pow_add,show 8 * k+8=8 * (k+1) from by omega]
  refine kW ?_
  rw [show ((N':Int) - 8 * (k:Int)) - 8=(N':Int) - 8 * ((k+1:Nat):Int) from by omega]
  skip
  refine zf (X:=Nat × Value × Chunk) (μ:=fun x=>N' - 8 * x.1) (x:=(k,s,C)) (k+1,v',C') (by simp only;omega) ⟨by simp only;omega,by simp only;omega,ho1⟩ iS (fun w h=>iH h)
 ·have hk:k=N' / 8:=by omega
  subst hk
  refine kR ?_
  refine ⟨[(p,cl [s,.int .u64 ((V' / 2 ^ (8 * (N' / 8)):Nat):Int),.int .i64 ((N' % 8:Nat):Int)] 171)]::C::L,?_,rfl,_,_,⟨hlt,s,rfl,hx2⟩,rfl⟩
  rw [show ((N' % 8:Nat):Int)=(N':Int) - 8 * ((N' / 8:Nat):Int) from by omega]
  exact iC
theorem zpf (p V N v:Nat) (n:Int) (D E:Chunk) (L:List Chunk) (h:WrD p V N D E) (hv:v < 2 ^ 32) (hN:N≤1125899906841600) :
 Gv Tryz.prog 230 [.pointer (some ⟨p,0,none⟩),.int .u32 (v:Int),.int .i64 n].toArray (D::E::L) (fun r L'=>r=.tuple #[]∧∃D' E',WrD p (V+2 ^ N * mir v (clp n)) (N+clp n) D' E'∧L'=D'::E'::L):=by
 refine Gv.of_body Tryz.func230 rfl rfl ?_
 refine kW ?_
 refine cP rfl rfl (zb0 n _) ?_
 have hc:=zjn n
 generalize clp n=c at hc ⊢
 refine kW ?_
 refine cP rfl rfl (zfG v c _ hv hc) ?_
 refine kW ?_
 have hm:=zdf v c
 have h2:=Z8 hc
 refine cC rfl rfl (zhm p V N (mir v c) (c:Int) D E L h (by omega) hN) (fun r L' hp=>?_)
 obtain ⟨rfl,D',E',hw,rfl⟩:=hp
 rw [XL hc,Nat.mod_eq_of_lt hm] at hw
 refine kW ?_
 refine kR ?_
 exact ⟨_,iC,rfl,D',E',hw,rfl⟩
theorem WrD.cast {p V N N':Nat} {D E:Chunk} (h:WrD p V N D E) (he:N=N'):WrD p V N' D E:=he▸h
theorem ze4 (p V N:Nat) (D E:Chunk) (L:List Chunk) (h:WrD p V N D E) (hN:N≤1125899906841600) :
 Gv Tryz.prog 192 [.pointer (some ⟨p,0,none⟩)].toArray (D::E::L) (fun r L'=>r=.tuple #[]∧∃D' E',WrD p V (8 * ((N+7) / 8)) D' E'∧L'=D'::E'::L):=by
 refine Gv.of_body Tryz.func192 rfl rfl ?_
 have hW:=h
 obtain ⟨hV,f,rfl,hf⟩:=h
 (repeat' first|refine kW ?_|refine kU fun bk=>?_|refine kV fun hc=>?_|refine kZ (fun hc=>?_) fun hc=>?_|fail)
 ·rw [show (8:Int) - ((N % 8:Nat):Int)=((8 - N % 8:Nat):Int) from by omega]
  skip
  refine cC rfl rfl (zhm p V N 0 ((8 - N % 8:Nat):Int) _ E L hW (by decide) hN) (fun r L' hp=>?_)
  obtain ⟨rfl,D',E',hw,rfl⟩:=hp
  rw [XL (by omega),Nat.zero_mod,Nat.mul_zero,Nat.add_zero] at hw
  refine kW ?_
  refine kR ?_
  exact ⟨_,iC,rfl,D',E',hw.cast (by omega),rfl⟩
 ·refine kR ?_
  exact ⟨_,iC,rfl,_,E,hW.cast (by omega),rfl⟩
theorem WrD.full {p V q:Nat} {D E:Chunk} (h:WrD p V (8 * q) D E):∃v,D=[(p,cl [v,.int .u64 0,.int .i64 0] 171)]∧Ow 5 1 v q (bsv (leB V q)) E:=by
 obtain ⟨hV,v,hD,hO⟩:=h
 rw [show 8 * q / 8=q from by omega] at hD hO
 rw [Nat.div_eq_of_lt hV,show 8 * q % 8=0 from by omega] at hD
 exact ⟨v,hD,hO⟩
theorem WrD.ofFull {p V q:Nat} {E:Chunk} {v:Value} (hV:V < 2 ^ (8 * q)) (h:Ow 5 1 v q (bsv (leB V q)) E):WrD p V (8 * q) [(p,cl [v,.int .u64 0,.int .i64 0] 171)] E:=by
 refine ⟨hV,v,?_,?_⟩
 ·rw [show 8 * q / 8=q from by omega,Nat.div_eq_of_lt hV,show 8 * q % 8=0 from by omega];rfl
 ·rw [show 8 * q / 8=q from by omega];exact h
theorem zqZ (p V N:Nat) (b:List UInt8) (vb:Value) (D E:Chunk) (L:List Chunk) (h:WrD p V N D E) (hN:N≤1125899906841600) (hb:Sl L 1 vb b.length (bsv b)) (hl:N / 8+b.length≤140737488355000) :
 Gv Tryz.prog 193 [.pointer (some ⟨p,0,none⟩),vb].toArray (D::E::L) (fun r L'=>r=.tuple #[]∧∃D' E',WrD p (V+2 ^ (8 * ((N+7) / 8)) * val b) (8 * ((N+7) / 8+b.length)) D' E'∧L'=D'::E'::L):=by
 refine Gv.of_body Tryz.func193 rfl rfl ?_
 refine kW ?_
 refine cC rfl rfl (ze4 p V N D E L h hN) (fun r L' hp=>?_)
 obtain ⟨rfl,D',E',hw,rfl⟩:=hp
 have hV:=hw.1
 obtain ⟨f,rfl,hf⟩:=hw.full
 obtain ⟨q,hq⟩:∃q,q=(N+7) / 8:=⟨_,rfl⟩
 rw [←hq] at hf hV ⊢
 refine kW ?_
 refine zu rfl rfl hf (zm (zm hb)) (by repeat (first|exact Zip.here _|apply Zip.there)) (by rfl) yj (by omega) (by simp [maxLen];omega) rfl (fun v' C' ho1 h1 h2=>?_)
 rw [←yt,←znr hV] at ho1
 have ho:=uK ho1
 refine kW ?_
 refine qL rfl rfl ho iU (by simp) ?_
 refine kW ?_
 refine kR ?_
 refine ⟨[(p,cl [v',.int .u64 0,.int .i64 0] 171)]::C'::L,iC,rfl,_,_,WrD.ofFull ?_ ho1,rfl⟩
 have:=add_lt hV (zl6 b)
 rw [Nat.mul_add]
 exact this
theorem zl8 (p V N:Nat) (D E:Chunk) (L:List Chunk) (h:WrD p V N D E) (hN:N≤1125899906841600) :
 Gv Tryz.prog 116 [.pointer (some ⟨p,0,none⟩)].toArray (D::E::L) (fun r L'=>∃C,L'=C::D::E::L∧Ow 5 1 r ((N+7) / 8) (bsv (leB V ((N+7) / 8))) C):=by
 refine Gv.of_body Tryz.func116 rfl rfl ?_
 obtain ⟨hV,f,rfl,hf⟩:=h
 obtain ⟨fa,fc,rfl⟩:=zM hf
 refine kW ?_
 refine zk [] mixed ?_
 (refine za 0 ?_;refine za 1 ?_;refine za 2 ?_;refine za 3 ?_;refine za 4 ?_;refine za 5 ?_;refine za 7 ?_;refine za 8 ?_;refine za 9 ?_;refine za 10 ?_)
 refine cI 6 rfl rfl ?_
 refine zJ (m:=0) (c:=N / 8+1) rfl rfl (by rfl) (by omega) (by omega) (by omega) rfl (fun bn=>?_)
 refine ⟨iC,?_⟩
 refine cI 11 rfl rfl ?_
 have ho:Ow 5 1 (.slice (some ⟨bn,0,none⟩) 0 (N / 8+1)) 0 (bsv []) [(bn,cl (zeros [.int .u8 0] (N / 8+1)) 5)]:=
  .inr ⟨bn,N / 8+1,zeros [.int .u8 0] (N / 8+1),rfl,rfl,rfl,by simp [zeros_length],by omega,by simp [maxLen];omega⟩
 refine zu rfl rfl ho (zm (zm (qz hf))) (by repeat (first|exact Zip.here _|apply Zip.there)) (by rfl) yj (by omega) (by simp [maxLen];omega) rfl (fun v' C' ho1 h1 h2=>?_)
 rw [←yt,List.nil_append,Nat.zero_add] at ho1
 refine ⟨iC,?_⟩
 (refine za 12 ?_)
 refine cD ?_
 (repeat' first|refine kW ?_|refine kU fun bk=>?_|refine kV fun hc=>?_|refine kZ (fun hc=>?_) fun hc=>?_|fail)
 ·rw [u6]
  refine zl (cs:=bsv [byB V (N / 8)]) rfl (by rfl) (by simp [zA,patch,Value.cells,zeros];rfl) (by omega) rfl rfl (fun bk=>?_)
  refine kW ?_
  refine zu rfl rfl ho1 (zF (c:=(bsv [byB V (N / 8)]).toArray) (xs:=bsv [byB V (N / 8)]) (m:=1) Fnd.here rfl (by simp)) (by repeat (first|exact Zip.here _|apply Zip.there)) (by rfl) yj (by omega) (by simp [maxLen];omega) rfl (fun v2 C2 ho2 h1 h2=>?_)
  rw [←yt,←za9] at ho2
  refine kW ?_
  refine kR ?_
  rw [show (N+7) / 8=N / 8+1 from by omega]
  exact ⟨C2::_,iC,C2,rfl,ho2⟩
 ·refine kR ?_
  rw [show (N+7) / 8=N / 8 from by omega]
  exact ⟨C'::_,iC,C',rfl,ho1⟩
omit [W0] in
def rdC (v:Value) (d:List UInt8) (t nx:Nat):List Value:=[v,.int .i64 (nx:Int),.int .u64 ((val d / 2 ^ t % 2 ^ (8 * nx - t):Nat):Int),.int .i64 ((8 * nx - t:Nat):Int)]
omit [W0] in
def RdD (p:Nat) (d:List UInt8) (t nx:Nat) (D E:Chunk):Prop:=∃v,D=[(p,cl (rdC v d t nx) 201)]∧Ow 5 1 v d.length (bsv d) E
omit [W0] in
def RdN (p:Nat) (d:List UInt8) (t:Nat) (D E:Chunk):Prop:=t≤8 * d.length∧RdD p d t ((t+7) / 8) D E
theorem zp3 (b:List UInt8) (v:Value) (L:List Chunk) (hv:Sl L 1 v b.length (bsv b)) (hl:b.length≤140737488355328) :
 Gv Tryz.prog 90 [v].toArray L (fun r L'=>∃p D E,r=.pointer (some ⟨p,0,none⟩)∧RdN p b 0 D E∧L'=D::E::L):=by
 refine Gv.of_body Tryz.func90 rfl rfl ?_
 refine kW ?_
 refine yD (L':=[]::L) (fun w h=>Holds.nil.2 h) ?_
 refine zu rfl rfl (.inl ⟨rfl,rfl,rfl,rfl⟩) (zm hv) (by repeat (first|exact Zip.here _|apply Zip.there)) (by rfl) yj (by omega) (by simp [maxLen];omega) rfl (fun v' C' ho1 h1 h2=>?_)
 rw [List.nil_append,Nat.zero_add] at ho1
 obtain ⟨fa,fc,rfl⟩:=zM ho1
 (refine kW ?_;refine kU fun bk=>?_;refine kW ?_)
 refine kR ?_
 refine ⟨[(bk,cl (rdC (.slice fa b.length fc) b 0 0) 201)]::C'::L,?_,bk,_,C',rfl,⟨Nat.zero_le _,_,rfl,ho1⟩,rfl⟩
 have e:((val b / 2 ^ 0 % 2 ^ (8 * 0 - 0):Nat):Int)=0:=by simp [Nat.mod_one]
 unfold rdC
 rw [e]
 exact iC
theorem zpA (p m nx:Nat) (a:Option Addr) (c:Nat) (w wt:Value) (T:TypeId) (L:List Chunk) (hf:Fnd L p (cl [.slice a m c,.int .i64 (nx:Int),w,wt] T)) (hm:m≤140737488355328) (hn:nx≤m) :
 GvP Tryz.prog 255 [.pointer (some ⟨p,0,none⟩)].toArray L (.int .i64 ((m - nx:Nat):Int)):=by
 refine Gv.of_body Tryz.func255 rfl rfl ?_
 refine kW ?_
 refine zk [] mixed ?_
 (refine za 0 ?_;refine za 1 ?_;refine za 2 ?_;refine za 3 ?_;refine za 4 ?_;refine za 5 ?_;refine za 6 ?_;refine za 7 ?_;refine za 8 ?_;refine za 9 ?_)
 rw [show (m:Int) - (nx:Int)=((m - nx:Nat):Int) from by omega]
 (refine za 10 ?_)
 refine cD ?_
 refine kW ?_
 exact kE
theorem zql (p nx:Nat) (v w wt:Value) (T:TypeId) (L:List Chunk) (hf:Fnd L p (cl [v,.int .i64 (nx:Int),w,wt] T)) :
 GvP Tryz.prog 92 [.pointer (some ⟨p,0,none⟩)].toArray L (.int .i64 (nx:Int)):=by
 refine Gv.of_body Tryz.func92 rfl rfl ?_
 refine kW ?_
 exact kE
theorem zhV (n:Int) (m:Nat) (L:List Chunk) (h:n+7=(m:Int)) (hm:m≤1000):GvP Tryz.prog 254 [.int .i64 n].toArray L (.int .i64 ((m / 8:Nat):Int)):=by
 refine Gv.of_body Tryz.func254 rfl rfl ?_
 refine kW ?_
 refine ze (uN m 8 rfl rfl (by omega) rfl (by decide) (by omega)) rfl ?_
 refine kW ?_
 exact kE
theorem zk6 (p t:Nat) (d:List UInt8) (D E:Chunk) (L:List Chunk) (h:RdN p d t D E) :
 Gv Tryz.prog 220 [.pointer (some ⟨p,0,none⟩)].toArray (D::E::L) (fun r L'=>r=.tuple #[]∧∃D',RdN p d (8 * ((t+7) / 8)) D' E∧L'=D'::E::L):=by
 obtain ⟨ht,v,rfl,ho⟩:=h
 refine Gv.of_body Tryz.func220 rfl rfl ?_
 unfold rdC
 refine kW ?_
 refine kR ?_
 obtain ⟨q,hq⟩:∃q,q=(t+7) / 8:=⟨_,rfl⟩
 rw [←hq]
 refine ⟨[(p,cl (rdC v d (8 * q) q) 201)]::E::L,?_,rfl,_,⟨by omega,v,by rw [show (8 * q+7) / 8=q from by omega],ho⟩,rfl⟩
 have e:((val d / 2 ^ (8 * q) % 2 ^ (8 * q - 8 * q):Nat):Int)=0:=by rw [Nat.sub_self];simp [Nat.mod_one]
 unfold rdC
 rw [e,Nat.sub_self]
 exact iC
theorem znT {d:List UInt8} {t w i:Nat} (hw:t+w=8 * i) (hi:i < d.length):val d / 2 ^ t % 2 ^ w+(d.getD i 0).toNat * 2 ^ w=val d / 2 ^ t % 2 ^ (w+8):=by
 rw [Nat.pow_add,Nat.mod_mul,Nat.div_div_eq_div_mul,←Nat.pow_add,hw,Nat.mul_comm (2 ^ w)]
 have:=zay d i hi
 rw [show (2:Nat) ^ 8=256 from rfl,this]
theorem zhX (p t n:Nat) (d:List UInt8) (D E:Chunk) (L:List Chunk) (h:RdN p d t D E) (hn:n≤32) (hl:d.length≤140737488355328) :
 Gv Tryz.prog 225 [.pointer (some ⟨p,0,none⟩),.int .i64 (n:Int)].toArray (D::E::L) (fun r L'=>
  (t+n≤8 * d.length∧r=.bool true∧∃D',RdD p d t ((t+7) / 8+(n+7 - (8 * ((t+7) / 8) - t)) / 8) D' E∧L'=D'::E::L)∨(8 * d.length < t+n∧r=.bool false∧L'=D::E::L)):=by
 obtain ⟨ht,v,rfl,ho⟩:=h
 refine Gv.of_body Tryz.func225 rfl rfl ?_
 obtain ⟨fa,fc,rfl⟩:=zM ho
 obtain ⟨nx,hnx⟩:∃nx,nx=(t+7) / 8:=⟨_,rfl⟩
 rw [←hnx]
 obtain ⟨nd,hnd⟩:∃nd,nd=(n+7 - (8 * nx - t)) / 8:=⟨_,rfl⟩
 rw [←hnd]
 unfold rdC
 refine kW ?_
 refine wR rfl rfl rfl (zhV _ (n+7 - (8 * nx - t)) _ (by omega) (by omega)) rfl ?_
 rw [←hnd]
 refine kW ?_
 refine wR rfl rfl rfl (zpA p d.length nx fa fc _ _ _ _ Fnd.here hl (by omega)) rfl ?_
 (repeat' first|refine kW ?_|refine kU fun bk=>?_|refine kV fun hc=>?_|refine kZ (fun hc=>?_) fun hc=>?_|fail)
 ·refine kR ?_
  exact ⟨_,iC,.inr ⟨by omega,rfl,rfl⟩⟩
 ·refine zn (X:=Nat) (fun k=>[(0,.pointer (some ⟨p,0,none⟩)),(17,.int .i64 (nd:Int)),(18,.int .i64 (k:Int))])
   (fun k=>[(p,cl (rdC (.slice fa d.length fc) d t (nx+k)) 201)]::E::L) (fun k=>k≤nd) (fun k=>nd - k) 0 (Nat.zero_le _) iS (fun w h=>h) ?_
  intro k hk
  unfold rdC
  obtain ⟨wt,hwt⟩:∃wt,wt=8 * (nx+k) - t:=⟨_,rfl⟩
  rw [←hwt]
  (repeat' first|refine kW ?_|refine kU fun bk=>?_|refine kV fun hc=>?_|refine kZ (fun hc=>?_) fun hc=>?_|fail)
  ·obtain ⟨b,cap,rest,hve,rfl,hcell⟩:=znH ho (k:=nx+k) (by omega)
   injection hve with e1 e2 e3
   subst e1 e3
   clear e2
   have hwl:wt < 32:=by omega
   have hp:=Z8 (Nat.le_of_lt hwl)
   have hml:val d / 2 ^ t % 2 ^ wt < 2 ^ wt:=Nat.mod_lt _ (Nat.pow_pos (by decide))
   have hbl:=(d.getD (nx+k) 0).toNat_lt
   have hst:=znT (d:=d) (t:=t) (w:=wt) (i:=nx+k) (by omega) (by omega)
   obtain ⟨x,hx⟩:∃x,x=(d.getD (nx+k) 0).toNat:=⟨_,rfl⟩
   rw [←hx] at hcell hbl hst
   have hxm:x * 2 ^ wt≤255 * 2 ^ 32:=Nat.mul_le_mul (by omega) hp
   refine zk [23] mixed ?_
   (refine za 0 ?_;refine za 1 ?_;refine za 2 ?_;refine za 3 ?_;refine za 4 ?_;refine za 5 ?_;refine za 6 ?_;refine za 7 ?_;refine za 8 ?_;refine za 9 ?_;refine za 10 ?_;refine za 11 ?_)
   refine cT 12 rfl rfl (zh rfl rfl rfl (by omega)) ?_
   refine cT 13 rfl rfl (zq rfl (Fnd.there Fnd.here) hcell) ?_
   refine cT 14 rfl rfl (vG x rfl rfl rfl (by simp only [IntKind.bits];omega)) ?_
   (refine za 15 ?_;refine za 16 ?_;refine za 17 ?_;refine za 18 ?_)
   refine cT 19 rfl rfl (vH x wt rfl rfl rfl rfl rfl (by simp only [IntKind.bits];omega)) ?_
   refine cT 20 rfl rfl (ze9 (val d / 2 ^ t % 2 ^ wt) x wt rfl rfl rfl rfl rfl hml (by simp only [IntKind.bits];omega)) ?_
   rw [hst]
   (refine za 21 ?_;refine za 22 ?_)
   refine cL 23 rfl rfl rfl ?_
   refine qL rfl rfl rfl iU (by simp) ?_
   refine cD ?_
   refine kW ?_
   refine zf (X:=Nat) (μ:=fun k=>nd - k) (x:=k) (k+1) (by omega) (by omega) iS ?_
   rw [show 8 * (nx+(k+1)) - t=wt+8 from by omega,show ((wt+8:Nat):Int)=(wt:Int)+8 from by omega,show ((nx+(k+1):Nat):Int)=((nx+k:Nat):Int)+1 from by omega]
   exact fun w h=>iH h
  ·have hk2:k=nd:=by omega
   subst hk2
   refine kR ?_
   rw [hwt]
   exact ⟨_,iC,.inl ⟨by omega,rfl,_,⟨_,rfl,ho⟩,rfl⟩⟩
omit [W0] in
def tkB (d:List UInt8) (t:Nat) (n:Int):Bool:=decide (0≤n)&&decide (n≤32)&&decide (t+n.toNat≤8 * d.length)
omit [W0] in
def tkV (d:List UInt8) (t:Nat) (n:Int):Nat:=if tkB d t n then val d / 2 ^ t % 2 ^ n.toNat else 0
omit [W0] in
def tkT (d:List UInt8) (t:Nat) (n:Int):Nat:=if tkB d t n then t+n.toNat else t
theorem zau {d:List UInt8} {t n:Nat} (h:n≤32) (h2:t+n≤8 * d.length):tkB d t (n:Int)=true:=by
 simp only [tkB,Bool.and_eq_true,decide_eq_true_eq];omega
theorem zbx {d:List UInt8} {t:Nat} {n:Int} (h:n < 0∨32 < n∨8 * d.length < t+n.toNat):tkB d t n=false:=by
 simp only [tkB,Bool.and_eq_false_iff,decide_eq_false_iff_not];omega
theorem zdB {d:List UInt8} {t n:Nat} (h:n≤32) (h2:t+n≤8 * d.length):tkV d t (n:Int)=val d / 2 ^ t % 2 ^ n∧tkT d t (n:Int)=t+n:=by
 unfold tkV tkT
 rw [zau h h2]
 exact ⟨rfl,rfl⟩
theorem zbz {d:List UInt8} {t:Nat} {n:Int} (h:tkB d t n=false):tkV d t n=0∧tkT d t n=t:=by
 unfold tkV tkT
 rw [h]
 exact ⟨rfl,rfl⟩
theorem zlW (p t:Nat) (n:Int) (d:List UInt8) (D E:Chunk) (L:List Chunk) (h:RdN p d t D E) (hl:d.length≤140737488355328) :
 Gv Tryz.prog 182 [.pointer (some ⟨p,0,none⟩),.int .i64 n].toArray (D::E::L) (fun r L'=>
  r=.tuple #[.int .u32 ((tkV d t n:Nat):Int),.bool (tkB d t n)]∧∃D',RdN p d (tkT d t n) D' E∧L'=D'::E::L):=by
 refine Gv.of_body Tryz.func182 rfl rfl ?_
 have hno:∀M:List (Nat × Value),tkB d t n=false→lk M 4=some (.int .u32 0)→lk M 5=some (.bool false)→
  WQ Tryz.f182.ntmps (bodyPost Tryz.prog Tryz.f182 (fun e w'=>∃v L',e=.returned v∧(v=.tuple #[.int .u32 ((tkV d t n:Nat):Int),.bool (tkB d t n)]∧∃D',RdN p d (tkT d t n) D' E∧L'=D'::E::L)∧Holds w' L') .ret) M (D::E::L):=by
  intro M hb h4 h5
  refine zT (rs:=[.tmp 4,.tmp 5]) (vs:=[.int .u32 0,.bool false]) rfl (by simp [Yj,h4,h5]) ?_
  obtain ⟨e1,e2⟩:=zbz hb
  rw [e1,e2,hb]
  exact ⟨_,iC,rfl,D,h,rfl⟩
 (repeat' first|refine kW ?_|refine kU fun bk=>?_|refine kV fun hc=>?_|refine kZ (fun hc=>?_) fun hc=>?_|fail)
 ·exact hno _ (zbx (by omega)) rfl rfl
 ·exact hno _ (zbx (by omega)) rfl rfl
 obtain ⟨m,rfl⟩:∃m:Nat,n=(m:Int):=⟨n.toNat,by omega⟩
 have hm:m≤32:=by omega
 refine qF rfl rfl rfl (zhX p t m d D E L h hm hl) rfl (fun r L' hp=>?_)
 obtain ⟨hfit,rfl,D',⟨v,rfl,ho⟩,rfl⟩|⟨hfit,rfl,rfl⟩:=hp
 ·obtain ⟨e1,e2⟩:=zdB hm hfit
  rw [e1,e2,zau hm hfit]
  have hnx:(t+7) / 8+(m+7 - (8 * ((t+7) / 8) - t)) / 8=(t+m+7) / 8:=by omega
  rw [hnx]
  obtain ⟨nx,hq⟩:∃nx,nx=(t+m+7) / 8:=⟨_,rfl⟩
  rw [←hq]
  obtain ⟨wt,hwt⟩:∃wt,wt=8 * nx - t:=⟨_,rfl⟩
  unfold rdC
  rw [←hwt]
  have hml:val d / 2 ^ t % 2 ^ wt < 2 ^ wt:=Nat.mod_lt _ (Nat.pow_pos (by decide))
  have hp:=Z8 (show wt≤40 by omega)
  have hp2:=Z8 hm
  have hp3:val d / 2 ^ t % 2 ^ wt % 2 ^ m < 2 ^ m:=Nat.mod_lt _ (Nat.pow_pos (by decide))
  refine kW ?_
  refine zk [] mixed ?_
  (refine za 0 ?_;refine za 1 ?_;refine za 2 ?_;refine za 3 ?_;refine za 4 ?_)
  refine cI 5 rfl rfl ?_
  refine wR rfl rfl rfl (zen m _ hm) rfl ?_
  refine ⟨iC,?_⟩
  refine cT 6 rfl rfl (uM (val d / 2 ^ t % 2 ^ wt) m rfl rfl rfl rfl rfl (by simp only [IntKind.bits];omega) (by simp only [IntKind.bits];omega)) ?_
  (refine za 7 ?_)
  refine cD ?_
  refine kW ?_
  refine ze (Zq (val d / 2 ^ t % 2 ^ wt) m rfl rfl rfl rfl (by simp only [IntKind.bits];omega)) rfl ?_
  refine kW ?_
  rw [yX (k:=.u32) rfl (m:=val d / 2 ^ t % 2 ^ wt % 2 ^ m) (by simp only [IntKind.bits];omega)]
  skip
  refine kR ?_
  have f1:val d / 2 ^ t % 2 ^ wt % 2 ^ m=val d / 2 ^ t % 2 ^ m:=Nat.mod_mod_of_dvd _ (Nat.pow_dvd_pow 2 (by omega))
  have f2:val d / 2 ^ t % 2 ^ wt / 2 ^ m=val d / 2 ^ (t+m) % 2 ^ (8 * nx - (t+m)):=by
   rw [show wt=m+(8 * nx - (t+m)) from by omega,Nat.pow_add,Nat.mod_mul_right_div_self,Nat.div_div_eq_div_mul,←Nat.pow_add]
  rw [f1]
  refine ⟨[(p,cl (rdC v d (t+m) nx) 201)]::E::L,?_,rfl,_,⟨by omega,v,by rw [hq],ho⟩,rfl⟩
  unfold rdC
  rw [←f2,show ((8 * nx - (t+m):Nat):Int)=(wt:Int) - (m:Int) from by omega]
  exact iC
 ·refine kW ?_
  exact hno _ (zbx (by omega)) rfl rfl
end Go.Proofs.YtemdlifojcgplaaGreatDoor
namespace Go.Proofs.YtemdlifojcgplaaGreatDoor
open Go Go.Vx Go.Hf
variable [W0]
set_option maxRecDepth 4000
set_option linter.all false
theorem zj2 (p n v s:Nat) (Fv vs:List Value) (L:List Chunk) (hFl:Fv.length=16) (hvl:vs.length=16) (hf:Fnd L p (cl (Fv++(vs++[.int .i64 (s:Int)])) 342)) (hn:n≤15) (hv:v < 65536) :
 GvP Tryz.prog 268 [.pointer (some ⟨p,0,none⟩),.int .u32 (v:Int),.int .i64 (n:Int)].toArray L (.bool (decide (v * 2 ^ (15 - n) < s))):=by
 have hnt:nth (Fv++(vs++[Value.int .i64 (s:Int)])) 32=some (.int .i64 (s:Int)):=by
  rw [yu,List.getElem?_append_right (by omega),hFl,List.getElem?_append_right (by omega),hvl];rfl
 have hpw:v * 2 ^ (15 - n)≤65536 * 2 ^ 15:=Nat.mul_le_mul (by omega) (Nat.pow_le_pow_right (by decide) (by omega))
 refine Gv.of_body Tryz.func268 rfl rfl ?_
 refine kX ?_
 refine zk [] mixed ?_
 (refine za 0 ?_;refine za 1 ?_;refine za 2 ?_;refine za 3 ?_)
 refine cT 4 rfl rfl (uq v (15 - n) rfl rfl rfl (by omega) (by omega) (by omega)) ?_
 (refine za 5 ?_;refine za 6 ?_;refine za 7 ?_)
 refine cT 8 rfl rfl (zy rfl hf hnt) ?_
 (refine za 9 ?_;refine za 10 ?_)
 refine cD ?_
 refine kX ?_
 refine kR ?_
 refine ⟨L,iC,?_,rfl⟩
 exact congrArg Value.bool (decide_eq_decide.2 Int.ofNat_lt)
theorem zpZ {l:List Nat} {w t z n:Nat} (hn:n≤15) (hI:rdS l w t z 16 0=rdS l w t z (16 - n) n) (hS:Zl l n (hv w t n)=none) :
 rdS l w t z 16 0=if XU l n (hv w t n)=false then (0,3,n) else if z≤t+n then (0,4,n) else rdS l w t z (16 - (n+1)) (n+1):=by
 rw [hI,show 16 - n=(16 - (n+1))+1 from by omega,rdS,hS]
theorem zn3 {l:List Nat} {vs:List Value} {Cs:List Chunk} {n:Nat} (h:SyR l l.length vs Cs) (h0:0 < n) (hn:n < 16) {i:Nat} (hi:l[i]? =some n) {D:Chunk} {L:List Chunk} :
 ∃b cap c fr,vs[n]? =some (.slice (some ⟨b,0,none⟩) (cn l n) cap)∧Fnd (D::Cs.flatten::L) b (.cells c 3 fr)∧c[cn (l.take i) n]? =some (.int .i64 (i:Int)):=by
 obtain ⟨v,C,h1,h2,h3⟩:=h.at_ n hn
 have hg:=zn4 hi h0
 have hlen:=Yb h0 (Nat.le_refl l.length)
 rw [List.take_length] at hlen
 have hlt:=zaN hi
 rcases h3 with ⟨_,h4,_⟩|⟨b,cap,rest,rfl,rfl,_⟩
 ·omega
 ·refine ⟨b,cap,(ivn (smb l l.length n)++rest).toArray,(0,0),by rw [h1,hlen],?_,?_⟩
  ·show Fnd _ b (cl (ivn (smb l l.length n)++rest) 3)
   refine Fnd.there (Fnd.mem ?_)
   exact List.mem_flatten.2 ⟨_,List.mem_of_getElem? h2,by simp⟩
  ·have h5:=yC hg
   have h6:=(List.getElem?_eq_some_iff.1 h5).1
   rw [List.getElem?_toArray,List.getElem?_append_left h6]
   exact h5
theorem zgN (p q t:Nat) (l:List Nat) (d:List UInt8) (C D E:Chunk) (L:List Chunk) (hC:CoD l p C) (hk:kS l≤32768) (h15:∀x∈l,x≤15) (h400:l.length≤400) (hR:RdN q d t D E) (hl:d.length≤140737488355328) :
 Gv Tryz.prog 250 [.pointer (some ⟨p,0,none⟩),.pointer (some ⟨q,0,none⟩)].toArray (C::D::E::L) (fun r L'=>∃D',r=.tuple #[.int .i64 ((rdS l (val d) t (8 * d.length) 16 0).1:Int),.int .i64 ((rdS l (val d) t (8 * d.length) 16 0).2.1:Int)]∧
  RdN q d (t+(rdS l (val d) t (8 * d.length) 16 0).2.2) D' E∧L'=C::D'::E::L):=by
 obtain ⟨vs,Cs,rfl,hS⟩:=hC
 have hco:coC l vs=wnv (fsl l 16)++(vs++[.int .i64 (kS l:Int)]):=rfl
 have hFl:(wnv (fsl l 16)).length=16:=by rw [wH,vV]
 have hFg:∀n,n < 16→nth (wnv (fsl l 16)++(vs++[.int .i64 (kS l:Int)])) (0+n * 1)=some (.int .u32 ((fs l n:Nat):Int)):=fun n hn=>by
  rw [Nat.zero_add,Nat.mul_one,yu,List.getElem?_append_left (by omega)]
  have:=Z4 l 16 hn
  rw [if_pos hn] at this
  exact zaA this
 rw [hco]
 generalize wnv (fsl l 16)=Fv at hFl hFg
 obtain ⟨w,hw⟩:∃w,w=val d:=⟨_,rfl⟩
 obtain ⟨z,hz⟩:∃z,z=8 * d.length:=⟨_,rfl⟩
 rw [←hw,←hz]
 refine Gv.holds (L':=[(p,cl (Fv++(vs++[.int .i64 (kS l:Int)])) 342)]::Cs.flatten::D::E::L) ?_ (fun w h=>Holds.split.1 h)
 refine Gv.of_body Tryz.func250 rfl rfl ?_
 refine kX ?_
 refine zn (X:=Nat × Chunk) (fun x=>[(0,.pointer (some ⟨p,0,none⟩)),(1,.pointer (some ⟨q,0,none⟩)),(6,.int .u32 ((hv w t x.1:Nat):Int)),(7,.int .i64 ((x.1+1:Nat):Int))])
  (fun x=>[(p,cl (Fv++(vs++[.int .i64 (kS l:Int)])) 342)]::Cs.flatten::x.2::E::L)
  (fun x=>x.1≤15∧RdN q d (t+x.1) x.2 E∧(if x.1=0 then 0 else fs l x.1+cn l x.1)≤hv w t x.1∧rdS l w t z 16 0=rdS l w t z (16 - x.1) x.1∧Zl l x.1 (hv w t x.1)=none) (fun x=>16 - x.1)
  (0,D) ⟨Nat.zero_le _,hR,Nat.zero_le _,rfl,QZ⟩ iS (fun w h=>h) ?_
 intro x ⟨hx1,hx2,hx3,hx4,hx5⟩
 obtain ⟨n,D1⟩:=x
 simp only at hx1 hx2 hx3 hx4 hx5 ⊢
 have hat:=zpZ hx1 hx4 hx5
 have hlt:=zgO w t n
 have hp15:2 ^ n≤2 ^ 15:=Nat.pow_le_pow_right (by decide) hx1
 have hext:XU l n (hv w t n)=decide (hv w t n * 2 ^ (15 - n) < kS l):=by
  rw [Bool.eq_iff_iff,zaV,ext_iff hk h15 hx1,decide_eq_true_eq]
  exact ⟨fun h=>h.2,fun h=>⟨hx3,h⟩⟩
 have hend:∀(e m:Nat) (M:List (Nat × Value)) (D':Chunk),rdS l w t z 16 0=(0,e,m)→RdN q d (t+m) D' E→lk M 4=some (.int .i64 0)→lk M 5=some (.int .i64 (e:Int))→
  WQ Tryz.f250.ntmps (bodyPost Tryz.prog Tryz.f250 (fun e w'=>∃v L',e=.returned v∧(∃D',v=.tuple #[.int .i64 ((rdS l w t z 16 0).1:Int),.int .i64 ((rdS l w t z 16 0).2.1:Int)]∧
  RdN q d (t+(rdS l w t z 16 0).2.2) D' E∧L'=([(p,cl (Fv++(vs++[.int .i64 (kS l:Int)])) 342)]++Cs.flatten)::D'::E::L)∧Holds w' L') .ret) M ([(p,cl (Fv++(vs++[.int .i64 (kS l:Int)])) 342)]::Cs.flatten::D'::E::L):=by
  intro e m M D' he hr h4 h5
  refine um (rs:=[.tmp 4,.tmp 5]) (vs:=[.int .i64 0,.int .i64 (e:Int)]) rfl (by simp [Yj,h4,h5]) ?_
  rw [he]
  exact ⟨_,fun w h=>Holds.split.2 h,D',rfl,hr,rfl⟩
 (repeat' first|refine kX ?_|refine kU fun bk=>?_|refine kV fun hc=>?_|refine kZ (fun hc=>?_) fun hc=>?_|fail)
 ·have hn14:n≤14:=by omega
  rw [show (((n+1:Nat):Nat):Int) - 1=(n:Int) from by omega]
  refine cP rfl rfl (zj2 p n (hv w t n) (kS l) Fv vs _ hFl hS.lv Fnd.here (by omega) (by omega)) ?_
  by_cases hgo:¬hv w t n * 2 ^ (15 - n) < kS l
  ·rw [decide_eq_false hgo] at hext ⊢
   rw [if_pos hext] at hat
   refine kX ?_
   exact hend 3 n _ _ hat hx2 rfl rfl
  rw [decide_eq_true (Decidable.of_not_not hgo)] at hext ⊢
  rw [if_neg (by rw [hext];simp)] at hat
  refine kX ?_
  refine cC rfl rfl (Gv.take2 (zlW q (t+n) 1 d D1 E ([(p,cl (Fv++(vs++[.int .i64 (kS l:Int)])) 342)]::Cs.flatten::L) hx2 hl) (by repeat (first|exact Take.here|apply Take.there)) (by repeat (first|exact Take.here|apply Take.there))) (fun r L' hp=>?_)
  obtain ⟨rfl,D2,hr2,rfl⟩:=hp
  by_cases hz2:z≤t+n
  ·rw [if_pos hz2] at hat
   have hb:tkB d (t+n) 1=false:=zbx (by omega)
   have htt:tkT d (t+n) 1=t+n:=by unfold tkT;rw [hb];rfl
   rw [htt] at hr2
   rw [hb]
   refine kX ?_
   refine Ze (L':=[(p,cl (Fv++(vs++[.int .i64 (kS l:Int)])) 342)]::Cs.flatten::D2::E::L) (fun w h=>iH h) ?_
   exact hend 4 n _ _ hat hr2 rfl rfl
  rw [if_neg hz2] at hat
  have hb:tkB d (t+n) 1=true:=zau (n:=1) (by omega) (by omega)
  obtain ⟨hv1,hv2⟩:=zdB (d:=d) (t:=t+n) (n:=1) (by omega) (by omega)
  have hv1:tkV d (t+n) 1=w / 2 ^ (t+n) % 2:=by rw [hw];exact hv1
  have hv2:tkT d (t+n) 1=t+(n+1):=hv2
  rw [hv2] at hr2
  rw [hb,hv1]
  have hvs:hv w t (n+1)=2 * hv w t n+w / 2 ^ (t+n) % 2:=rfl
  obtain ⟨bt,hbt⟩:∃bt,bt=w / 2 ^ (t+n) % 2:=⟨_,rfl⟩
  have hbt2:bt < 2:=by omega
  rw [←hbt] at hvs ⊢
  have hvl:=zgO w t (n+1)
  have hp16:2 ^ (n+1)≤2 ^ 15:=Nat.pow_le_pow_right (by decide) (by omega)
  have hfsn:fs l (n+1)=2 * (fs l n+if n=0 then 0 else cn l n):=rfl
  have hge:fs l (n+1)≤hv w t (n+1):=by
   rw [hvs,hfsn]
   by_cases h0:n=0
   ·subst h0;simp [fs]
   ·rw [if_neg h0] at hx3 ⊢;omega
  have hlast:rdS l w t z 16 0=match Zl l (n+1) (hv w t (n+1)) with
   |some i=>(i,0,n+1)
   |none=>rdS l w t z (16 - (n+1)) (n+1):=by
   rw [hat]
   cases hs:Zl l (n+1) (hv w t (n+1)) with
   |none=>rfl
   |some i=>rw [show 16 - (n+1)=(15 - (n+1))+1 from by omega,rdS,hs]
  refine kW ?_
  refine ze (vH (hv w t n) 1 rfl rfl rfl rfl rfl (by simp only [IntKind.bits];omega)) rfl ?_
  refine kW ?_
  refine ze (YT bt (hv w t n) 1 rfl rfl rfl rfl rfl (by omega) (by simp only [IntKind.bits];omega)) rfl ?_
  rw [show bt+hv w t n * 2 ^ 1=hv w t (n+1) from by rw [hvs];omega]
  refine kW ?_
  refine ze (zR (n+1) rfl rfl rfl (by omega)) rfl ?_
  refine kW ?_
  refine ze (zy rfl (by repeat (first|assumption|exact Fnd.here|refine Fnd.there ?_)) (hFg (n+1) (by omega))) rfl ?_
  refine kW ?_
  refine ze (zml (hv w t (n+1)) (fs l (n+1)) rfl rfl rfl rfl rfl hge (by simp only [IntKind.bits];omega)) rfl ?_
  obtain ⟨x,hx⟩:∃x,x=hv w t (n+1) - fs l (n+1):=⟨_,rfl⟩
  rw [←hx]
  have hxb:x≤32768:=by omega
  refine kW ?_
  refine ze (zR (n+1) rfl rfl rfl (by omega)) rfl ?_
  refine kW ?_
  obtain ⟨v,C1,hv1,hC1,ho1⟩:=hS.at_ (n+1) (by omega)
  obtain ⟨sa,sc,rfl⟩:=zM ho1
  have hsl:=Yb (l:=l) (n:=n+1) (by omega) (Nat.le_refl l.length)
  rw [List.take_length] at hsl
  rw [hsl] at hv1
  refine ze (zy rfl (by repeat (first|assumption|exact Fnd.here|refine Fnd.there ?_)) (zfm hFl hv1)) rfl ?_
  (repeat' first|refine kW ?_|refine kU fun bk=>?_|refine kV fun hc=>?_|refine kZ (fun hc=>?_) fun hc=>?_|fail)
  ·refine ze (zR (n+1) rfl rfl rfl (by omega)) rfl ?_
   refine kW ?_
   obtain ⟨i,hi1,hi2⟩:=zgz (l:=l) (n:=n+1) (by omega) hge (show hv w t (n+1) < fs l (n+1)+cn l (n+1) by omega)
   obtain ⟨b,cap,cc,fr,hvb,hfn,hcell⟩:=zn3 hS (by omega) (by omega) hi1 (D:=[(p,cl (Fv++(vs++[.int .i64 (kS l:Int)])) 342)]) (L:=D2::E::L)
   rw [hv1] at hvb
   injection hvb with hvb
   injection hvb with e1 e2 e3
   subst e1 e3
   refine ze (zy rfl (by repeat (first|assumption|exact Fnd.here|refine Fnd.there ?_)) (zfm hFl hv1)) rfl ?_
   refine kW ?_
   have hcd:cd l i=fs l (n+1)+cn (l.take i) (n+1):=by
    have hg:l.getD i 0=n+1:=by simp [List.getD,hi1]
    unfold cd;rw [hg,if_neg (by omega)]
   have hxc:x=cn (l.take i) (n+1):=by omega
   have hcell':cc[x * 1]? =some (.int .i64 (i:Int)):=by rw [Nat.mul_one,hxc];exact hcell
   have hsy:=zbw hi1 (by omega)
   rw [hi2] at hsy
   rw [hsy] at hlast
   refine yD (L':=[(p,cl (Fv++(vs++[.int .i64 (kS l:Int)])) 342)]::Cs.flatten::D2::E::L) (fun w h=>iH h) ?_
   refine ze (zh (j:=x) rfl rfl rfl (by omega)) rfl ?_
   refine kW ?_
   refine ze (zq rfl hfn hcell') rfl ?_
   refine kW ?_
   refine kH ?_
   rw [hlast]
   exact ⟨_,fun w h=>Holds.split.2 h,D2,rfl,hr2,rfl⟩
  ·have hs:Zl l (n+1) (hv w t (n+1))=none:=zbv (.inr (by omega))
   rw [hs] at hlast
   refine zf (X:=Nat × Chunk) (μ:=fun x=>16 - x.1) (x:=(n,D1)) (n+1,D2) (by simp only;omega) ⟨by simp only;omega,hr2,?_,hlast,hs⟩ iS (fun w h=>iH h)
   simp only
   rw [if_neg (by omega)]
   omega
 ·have hn15:n=15:=by omega
  subst hn15
  have hno:XU l 15 (hv w t 15)=false:=by
   cases he:XU l 15 (hv w t 15) with
   |false=>rfl
   |true=>
    obtain ⟨i,m,h1,h2,_⟩:=zaV.1 he
    have:=h15 m (List.mem_of_getElem? h1)
    omega
  rw [if_pos hno] at hat
  exact hend 3 15 _ _ hat hx2 rfl rfl
end Go.Proofs.YtemdlifojcgplaaGreatDoor
namespace Go.If
open Go.Vx Go.Hf
set_option linter.all false
theorem zhB {d:List UInt8} {s:S6} {n:Nat} (h:s.t+n≤8 * d.length):tk d s n=⟨s.t+n,s.out,s.e⟩:=by unfold tk;rw [if_pos h]
theorem zbz {d:List UInt8} {s:S6} {n:Nat} (h:¬s.t+n≤8 * d.length) (he:s.e=0):tk d s n=⟨s.t,s.out,4⟩:=by unfold tk fl;rw [if_neg h,if_pos he]
theorem zoQ [W0] {d:List UInt8} {s:S6} {n:Nat} (h:s.t+n≤8 * d.length):tv d s n=val d / 2 ^ s.t % 2 ^ n:=by unfold tv;rw [if_pos h]
theorem zoc [W0] (d:List UInt8) (s:S6):tv d s 0=0:=by unfold tv;split<;>simp [Nat.mod_one]
theorem zob {d:List UInt8} {s:S6} (h:s.t≤8 * d.length):tk d s 0=s:=by unfold tk;rw [if_pos (by omega)];rfl
def spF (n st:Nat):Nat:=if n < 2 * st then n else (st+n % st) * 2 ^ (n / st - 1)
def spX (n st:Nat):Nat:=if n < 2 * st then 0 else n / st - 1
theorem zp9:∀t,t < 28→3+spF t 4=baB 3 4 8 t∧spX t 4=exB t 4 8:=by decide
theorem zga:∀t,t < 30→1+spF t 2=baB 1 2 4 t∧spX t 2=exB t 2 4:=by decide
def lnS (d:List UInt8) (k:Nat) (s:S6):S6:=if 285 < k then fl s 3 else tk d s (lnB k).2
def dsS [W0] (d:List UInt8) (dl:List Nat) (s:S6):S6:=if (sy d s dl).e≠0 then sy d s dl else if 29 < sv d s dl then fl (sy d s dl) 3 else tk d (sy d s dl) (exB (sv d s dl) 2 4)
def dsV [W0] (d:List UInt8) (dl:List Nat) (s:S6):Nat:=baB 1 2 4 (sv d s dl)+tv d (sy d s dl) (exB (sv d s dl) 2 4)
theorem zfu {s:S6} {k:Nat} (h:s.e≠0):fl s k=s:=by unfold fl;rw [if_neg h]
theorem zqc [W0] {d:List UInt8} {s:S6} {l:List Nat} (h:s.e≠0):sy d s l=s:=by unfold sy;rw [if_neg h]
theorem zcU {most far:Nat} {s:S6} (h:s.e≠0):∀n,cpL most far n s=s
 |0=>rfl
 |n+1=>by rw [cpL,if_neg h]
theorem zkH [W0] {d:List UInt8} {most k:Nat} {dl:List Nat} {s:S6} (h:(lnS d k s).e≠0):(mtS d most k dl s).e=(lnS d k s).e:=by
 unfold lnS at h ⊢
 unfold mtS
 split
 ·rfl
 ·rename_i h2
  rw [if_neg h2] at h
  rw [zqc h,if_pos h]
theorem zkI [W0] {d:List UInt8} {most k:Nat} {dl:List Nat} {s:S6} (h1:¬285 < k) (h:(dsS d dl (tk d s (lnB k).2)).e≠0):(mtS d most k dl s).e=(dsS d dl (tk d s (lnB k).2)).e:=by
 unfold dsS at h ⊢
 unfold mtS
 rw [if_neg h1]
 split
 ·rfl
 ·rename_i h2
  rw [if_neg h2] at h
  split
  ·rfl
  ·rename_i h3
   rw [if_neg h3] at h
   unfold mtD
   rw [if_neg (fun hh=>h hh.1),zcU h]
theorem zpH [W0] {d:List UInt8} {most k:Nat} {dl:List Nat} {s:S6} (h1:¬285 < k) (h:(dsS d dl (tk d s (lnB k).2)).e=0) :
 mtS d most k dl s=cpL most (dsV d dl (tk d s (lnB k).2)) ((lnB k).1+tv d s (lnB k).2) (if (dsS d dl (tk d s (lnB k).2)).out.length < dsV d dl (tk d s (lnB k).2) then fl (dsS d dl (tk d s (lnB k).2)) 3 else dsS d dl (tk d s (lnB k).2)):=by
 unfold dsS at h ⊢
 unfold mtS dsV
 rw [if_neg h1]
 split
 ·rename_i h2;rw [if_pos h2] at h;exact absurd h h2
 ·rename_i h2
  rw [if_neg h2] at h
  split
  ·rename_i h3
   rw [if_pos h3,ZF] at h
   split at h
   ·cases h
   ·exact absurd h (by assumption)
  ·rename_i h3
   rw [if_neg h3] at h
   unfold mtD
   simp only [h,true_and]
theorem Qa {most:Nat} {s:S6} {c:UInt8} (h:s.out.length < most):pt most s c=⟨s.t,s.out++[c],s.e⟩:=by unfold pt;rw [if_neg (by omega)]
theorem zez {most:Nat} {s:S6} {c:UInt8} (h:most≤s.out.length):pt most s c=fl s 5:=by unfold pt;rw [if_pos h]
theorem zd8 (most far:Nat):∀n s,s.e=0→s.out.length≤most→most < s.out.length+n→(cpL most far n s).e=5
 |0,s,_,h2,h=>by omega
 |n+1,s,he,h2,h=>by
  rw [cpL,if_pos he]
  by_cases h1:s.out.length < most
  ·rw [Qa h1]
   exact zd8 most far n _ he (by simp;omega) (by simp;omega)
  ·rw [zez (by omega)]
   have:(fl s 5).e=5:=by rw [ZF,if_pos he]
   rw [zcU (by rw [this];decide),this]
end Go.If
namespace Go.Proofs.YtemdlifojcgplaaGreatDoor
open Go Go.Vx Go.Hf Go.If
variable [W0]
set_option maxRecDepth 4000
set_option linter.all false
omit [W0] in
def rdR (p q:Nat) (v:Value) (most:Nat) (kn:Value):Chunk:=[(p,cl [.pointer (some ⟨q,0,none⟩),v,.int .i64 (most:Int),kn] 144)]
theorem Y7 (p q most n:Nat) (v kn:Value) (d:List UInt8) (s:S6) (D E:Chunk) (L:List Chunk) (h:RdN q d s.t D E) (hl:d.length≤140737488355328) (hn:n≤32) (he:s.e=0) :
 Gv Tryz.prog 131 [.pointer (some ⟨p,0,none⟩),.int .i64 (n:Int)].toArray (rdR p q v most kn::D::E::L) (fun r L'=>
  ((tk d s n).e≠0∧r=.tuple #[.int .i64 0,.int .i64 ((tk d s n).e:Int)]∧L'=L)∨
  ((tk d s n).e=0∧r=.tuple #[.int .i64 ((tv d s n:Nat):Int),.int .i64 0]∧∃D',RdN q d (tk d s n).t D' E∧L'=rdR p q v most kn::D'::E::L)):=by
 refine Gv.of_body Tryz.func131 rfl rfl ?_
 have hbt:=zlW q s.t (n:Int) d D E (rdR p q v most kn::L) h hl
 by_cases hc:s.t+n≤8 * d.length
 ·rw [zau hn hc,(zdB hn hc).1,(zdB hn hc).2] at hbt
  rw [zhB hc,zoQ hc]
  have hb32:val d / 2 ^ s.t % 2 ^ n < 2 ^ 32:=Nat.lt_of_lt_of_le (Nat.mod_lt _ (Nat.pow_pos (by decide))) (Nat.pow_le_pow_right (by decide) hn)
  generalize val d / 2 ^ s.t % 2 ^ n=z at hbt hb32 ⊢
  unfold rdR at hbt ⊢
  refine kW ?_
  refine cC rfl rfl (Gv.holds hbt (fun w h=>iH h)) (fun r L' hp=>?_)
  obtain ⟨rfl,D',hr,rfl⟩:=hp
  refine kW ?_
  refine zT (rs:=[.tmp 4,.tmp 5]) (vs:=[.int .i64 (z:Int),.int .i64 0]) rfl rfl ?_
  exact ⟨_,iC,.inr ⟨he,rfl,D',hr,rfl⟩⟩
 ·have hb0:=zbx (d:=d) (t:=s.t) (n:=(n:Int)) (by omega)
  rw [hb0,(Go.Proofs.YtemdlifojcgplaaGreatDoor.zbz hb0).1,(Go.Proofs.YtemdlifojcgplaaGreatDoor.zbz hb0).2] at hbt
  rw [Go.If.zbz hc he]
  unfold rdR at hbt ⊢
  refine kW ?_
  refine cC rfl rfl (Gv.holds hbt (fun w h=>iH h)) (fun r L' hp=>?_)
  obtain ⟨rfl,D',hr,rfl⟩:=hp
  refine kW ?_
  refine zT (rs:=[.tmp 4,.tmp 5]) (vs:=[.int .i64 0,.int .i64 4]) rfl rfl ?_
  exact ⟨_,iC,.inl ⟨by simp,rfl,rfl⟩⟩
theorem ZJ (p q most n least:Nat) (v kn:Value) (d:List UInt8) (s:S6) (D E:Chunk) (L:List Chunk) (h:RdN q d s.t D E) (hl:d.length≤140737488355328) (hn:n≤32) (he:s.e=0) (hle:least≤1000000) :
 Gv Tryz.prog 252 [.pointer (some ⟨p,0,none⟩),.int .i64 (n:Int),.int .i64 (least:Int)].toArray (rdR p q v most kn::D::E::L) (fun r L'=>
  ((tk d s n).e≠0∧r=.tuple #[.int .i64 0,.int .i64 ((tk d s n).e:Int)]∧L'=L)∨
  ((tk d s n).e=0∧r=.tuple #[.int .i64 ((least+tv d s n:Nat):Int),.int .i64 0]∧∃D',RdN q d (tk d s n).t D' E∧L'=rdR p q v most kn::D'::E::L)):=by
 refine Gv.of_body Tryz.func252 rfl rfl ?_
 have hbt:=Y7 p q most n v kn d s D E L h hl hn he
 have htl:tv d s n < 2 ^ 32:=Nat.lt_of_lt_of_le (wU d s n) (Nat.pow_le_pow_right (by decide) hn)
 generalize tv d s n=z at hbt htl ⊢
 generalize tk d s n=s1 at hbt ⊢
 refine kW ?_
 refine cC rfl rfl hbt (fun r L' hp=>?_)
 rcases hp with ⟨h1,rfl,rfl⟩|⟨h1,rfl,D',hr,rfl⟩
 ·(refine kW ?_;refine kV fun hc=>?_;refine kW ?_)
  refine kR ?_
  exact ⟨_,iC,.inl ⟨h1,rfl,rfl⟩⟩
 ·refine kW ?_
  rw [show (least:Int)+(z:Int)=((least+z:Nat):Int) from by omega]
  refine kR ?_
  exact ⟨_,iC,.inr ⟨h1,rfl,D',hr,rfl⟩⟩
theorem zk3 (p q most:Nat) (c:UInt8) (v kn:Value) (s:S6) (C:Chunk) (L:List Chunk) (ho:Ow 5 1 v s.out.length (bsv s.out) C) (hm:most≤1000000) (he:s.e=0) (hk:kn.oneCell'=true) :
 Gv Tryz.prog 221 [.pointer (some ⟨p,0,none⟩),.int .u8 (c.toNat:Int)].toArray (rdR p q v most kn::C::L) (fun r L'=>
  ((pt most s c).e≠0∧r=.int .i64 ((pt most s c).e:Int)∧L'=L)∨
  ((pt most s c).e=0∧r=.int .i64 0∧∃v' C',Ow 5 1 v' (pt most s c).out.length (bsv (pt most s c).out) C'∧L'=rdR p q v' most kn::C'::L)):=by
 refine Gv.of_body Tryz.func221 rfl rfl ?_
 obtain ⟨t,out,e⟩:=s
 simp only at ho he ⊢
 subst he
 obtain ⟨va,vc,rfl⟩:=zM ho
 by_cases h1:most≤out.length
 ·rw [zez (by exact h1)]
  simp only [fl,if_true]
  unfold rdR
  refine kW ?_
  refine zk [] mixed ?_
  (refine za 0 ?_;refine za 1 ?_;refine za 2 ?_;refine za 3 ?_;refine za 4 ?_;refine za 5 ?_;refine za 6 ?_;refine za 7 ?_;refine za 8 ?_;refine za 9 ?_)
  refine cD ?_
  (refine kW ?_;refine kV fun hc=>?_;refine kW ?_)
  refine kR ?_
  exact ⟨_,iC,.inl ⟨by simp,rfl,rfl⟩⟩
 ·rw [Qa (by simp only;omega)]
  unfold rdR
  refine kW ?_
  refine zk [] mixed ?_
  (refine za 0 ?_;refine za 1 ?_;refine za 2 ?_;refine za 3 ?_;refine za 4 ?_;refine za 5 ?_;refine za 6 ?_;refine za 7 ?_;refine za 8 ?_;refine za 9 ?_)
  refine cD ?_
  (refine kW ?_;refine kV fun hc=>?_;refine kW ?_)
  refine zl (cs:=[.int .u8 (c.toNat:Int)]) rfl (by rfl) (by first|(simp [zA,patch,Value.cells,zeros];done)|(simp [zA,patch,Value.cells,zeros];rfl)) (by omega) rfl rfl (fun bn=>?_)
  refine kW ?_
  refine zu rfl rfl ho (zF (k:=1) (c:=#[.int .u8 (c.toNat:Int)]) (xs:=[.int .u8 (c.toNat:Int)]) (m:=1) Fnd.here rfl (by simp)) (by repeat (first|exact Zip.here _|apply Zip.there)) rfl (by rfl) (by omega) (by simp [maxLen];omega) rfl (fun v' C' ho' _ _=>?_)
  refine kW ?_
  refine zG [.pointer (some ⟨q,0,none⟩),v',.int .i64 (most:Int),kn] rfl rfl (by rcases ho' with ⟨rfl,_⟩|⟨_,_,_,rfl,_⟩<;>rfl) rfl iU (by simp) ?_
  refine kW ?_
  refine kR ?_
  refine ⟨_,iC,.inr ⟨rfl,rfl,v',C',?_,rfl⟩⟩
  rw [List.length_append,show bsv (out++[c])=bsv out++[Value.int .u8 (c.toNat:Int)] from by simp [bsv]]
  exact ho'
theorem zlI (n st:Nat) (L:List Chunk) (h1:n≤100) (h2:1≤st) (h3:st≤100) (h4:spX n st≤20) :
 GvP Tryz.prog 231 [.int .i64 (n:Int),.int .i64 (st:Int)].toArray L (.tuple #[.int .i64 ((spF n st:Nat):Int),.int .i64 ((spX n st:Nat):Int)]):=by
 refine Gv.of_body Tryz.func231 rfl rfl ?_
 unfold spF spX at *
 (repeat' first|refine kW ?_|refine kU fun bk=>?_|refine kV fun hc=>?_|refine kZ (fun hc=>?_) fun hc=>?_|fail)
 ·rw [if_pos (show n < 2 * st by omega),if_pos (show n < 2 * st by omega)]
  exact kE
 ·rw [if_neg (show ¬n < 2 * st by omega)] at h4 ⊢
  rw [if_neg (show ¬n < 2 * st by omega)]
  have hq:n / st≤n:=Nat.div_le_self _ _
  have hq2:2≤n / st:=by
   rw [Nat.le_div_iff_mul_le (by omega)];omega
  have hr:n % st < st:=Nat.mod_lt _ (by omega)
  refine ze (uN n st rfl rfl (by omega) rfl (by omega) (by omega)) rfl ?_
  generalize n / st=z at hq hq2 h4 ⊢
  refine kW ?_
  refine ze (XC n st rfl rfl rfl rfl (by omega)) rfl ?_
  generalize n % st=y at hr ⊢
  have hp:2 ^ (z - 1)≤2 ^ 20:=Nat.pow_le_pow_right (by decide) h4
  have hpm:(st+y) * 2 ^ (z - 1)≤200 * 2 ^ 20:=Nat.mul_le_mul (by omega) hp
  refine kW ?_
  rw [show (z:Int) - 1=((z - 1:Nat):Int) from by omega,show (st:Int)+(y:Int)=((st+y:Nat):Int) from by omega]
  refine ze (uq (st+y) (z - 1) rfl rfl rfl (by omega) (by omega) (by omega)) rfl ?_
  refine kW ?_
  exact kE
end Go.Proofs.YtemdlifojcgplaaGreatDoor
namespace Go.If
open Go.Vx Go.Hf
set_option linter.all false
def yY:List Nat:=[16,17,18,0,8,7,9,6,10,5,11,4,12,3,13,2,14,1,15]
def rpB (k:Nat):Nat:=if k=16 then 2 else if k=17 then 3 else if k=18 then 7 else 0
def rpA (k:Nat):Nat:=if k=16 then 3 else if k=17 then 3 else if k=18 then 11 else 1
theorem zce:∀k,k < 286→257≤k→(lnB k).1≤258∧(lnB k).2≤5:=by decide+kernel
theorem zb4:∀t,t < 30→baB 1 2 4 t≤32768∧exB t 2 4≤13:=by decide+kernel
end Go.If
namespace Go.Proofs.YtemdlifojcgplaaGreatDoor
open Go Go.Vx Go.Hf Go.If
variable [W0]
set_option maxRecDepth 4000
set_option linter.all false
theorem QA (k:Nat) (L:List Chunk) (h1:257≤k) (h2:k≤285) :
 GvP Tryz.prog 196 [.int .i64 (k:Int)].toArray L (.tuple #[.int .i64 (((lnB k).1:Nat):Int),.int .i64 (((lnB k).2:Nat):Int)]):=by
 refine Gv.of_body Tryz.func196 rfl rfl ?_
 by_cases h285:k=285
 ·subst h285
  refine kW ?_
  refine kR ?_
  exact ⟨_,iC,rfl,rfl⟩
 ·have hsp:=zp9 (k - 257) (by omega)
  have hb:=zce k (by omega) h1
  have e1:(lnB k).1=3+spF (k - 257) 4∧(lnB k).2=spX (k - 257) 4:=by
   unfold lnB
   rw [if_neg h285]
   exact ⟨hsp.1.symm,hsp.2.symm⟩
  rw [e1.1,e1.2] at hb ⊢
  have hspn:=zlI (k - 257) 4 L (by omega) (by decide) (by decide) (by omega)
  generalize spX (k - 257) 4=x4 at hspn hb ⊢
  generalize spF (k - 257) 4=f4 at hspn hb ⊢
  (refine kW ?_;refine kV fun hc=>?_;refine kW ?_)
  rw [show (k:Int) - 256 - 1=((k - 257:Nat):Int) from by omega]
  refine cP rfl rfl hspn ?_
  refine kW ?_
  rw [show (3:Int)+(f4:Int)=((3+f4:Nat):Int) from by omega]
  refine kR ?_
  exact ⟨_,iC,rfl,rfl⟩
theorem YE (t:Nat) (L:List Chunk) (h1:t < 30) :
 GvP Tryz.prog 232 [.int .i64 (t:Int)].toArray L (.tuple #[.int .i64 ((baB 1 2 4 t:Nat):Int),.int .i64 ((exB t 2 4:Nat):Int)]):=by
 refine Gv.of_body Tryz.func232 rfl rfl ?_
 have hsp:=zga t h1
 have hb:=zb4 t h1
 rw [←hsp.1,←hsp.2] at hb ⊢
 have hspn:=zlI t 2 L (by omega) (by decide) (by decide) (by omega)
 generalize spX t 2=x4 at hspn hb ⊢
 generalize spF t 2=f4 at hspn hb ⊢
 refine kW ?_
 refine cP rfl rfl hspn ?_
 refine kW ?_
 rw [show (1:Int)+(f4:Int)=((1+f4:Nat):Int) from by omega]
 refine kR ?_
 exact ⟨_,iC,rfl,rfl⟩
theorem zbq (k:Nat) (L:List Chunk) (h:k≤1000000) :
 GvP Tryz.prog 198 [.int .i64 (k:Int)].toArray L (.tuple #[.int .i64 ((rpA k:Nat):Int),.int .i64 ((rpB k:Nat):Int)]):=by
 refine Gv.of_body Tryz.func198 rfl rfl ?_
 (repeat' first|refine kW ?_|refine kU fun bk=>?_|refine kV fun hc=>?_|refine kZ (fun hc=>?_) fun hc=>?_|fail)
 ·have:k=16:=by omega
  subst this
  refine kR ?_
  exact ⟨_,iC,rfl,rfl⟩
 ·have:k=17:=by omega
  subst this
  refine kR ?_
  exact ⟨_,iC,rfl,rfl⟩
 ·have:k=18:=by omega
  subst this
  refine kR ?_
  exact ⟨_,iC,rfl,rfl⟩
 ·have e1:rpA k=1:=by unfold rpA;rw [if_neg (by omega),if_neg (by omega),if_neg (by omega)]
  have e2:rpB k=0:=by unfold rpB;rw [if_neg (by omega),if_neg (by omega),if_neg (by omega)]
  rw [e1,e2]
  refine kR ?_
  exact ⟨_,iC,rfl,rfl⟩
def qQ (L:List Chunk):Prop:=∃c T fr,Fnd L 6 (.cells c T fr)∧∀i,i < 19→c[i]? =some (.int .i64 (yY.getD i 0:Int))
theorem qQ.there {L:List Chunk} {C:Chunk} (h:qQ L):qQ (C::L):=by
 obtain ⟨c,T,fr,h1,h2⟩:=h
 exact ⟨c,T,fr,h1.there,h2⟩
theorem zbp (i:Nat) (L:List Chunk) (hor:qQ L) (h:i < 19) :
 GvP Tryz.prog 283 [.int .i64 (i:Int)].toArray L (.int .i64 ((yY.getD i 0:Nat):Int)):=by
 refine Gv.of_body Tryz.func283 rfl rfl ?_
 obtain ⟨c,T,fr,h1,h2⟩:=hor
 have h3:=h2 i h
 obtain ⟨z,hz⟩:∃z,z=yY.getD i 0:=⟨_,rfl⟩
 rw [←hz] at h3 ⊢
 refine kW ?_
 refine ze (zR i rfl rfl rfl (by omega)) rfl ?_
 refine kW ?_
 refine ze (zq rfl h1 (by simpa using h3)) rfl ?_
 refine kW ?_
 refine kR ?_
 exact ⟨_,iC,rfl,rfl⟩
theorem zii (p q most k:Nat) (v kn:Value) (d:List UInt8) (s:S6) (D E:Chunk) (L:List Chunk) (h:RdN q d s.t D E) (hl:d.length≤140737488355328) (he:s.e=0) (hk1:257≤k) (hk2:k≤1000) :
 Gv Tryz.prog 269 [.pointer (some ⟨p,0,none⟩),.int .i64 (k:Int)].toArray (rdR p q v most kn::D::E::L) (fun r L'=>
  ((lnS d k s).e≠0∧r=.tuple #[.int .i64 0,.int .i64 ((lnS d k s).e:Int)]∧L'=L)∨
  ((lnS d k s).e=0∧k≤285∧r=.tuple #[.int .i64 (((lnB k).1+tv d s (lnB k).2:Nat):Int),.int .i64 0]∧∃D',RdN q d (lnS d k s).t D' E∧L'=rdR p q v most kn::D'::E::L)):=by
 refine Gv.of_body Tryz.func269 rfl rfl ?_
 by_cases h285:285 < k
 ·unfold lnS
  rw [if_pos h285,ZF,if_pos he]
  (refine kW ?_;refine kV fun hc=>?_;refine kW ?_)
  refine zT (rs:=[.tmp 4,.tmp 5]) (vs:=[.int .i64 0,.int .i64 3]) rfl rfl ?_
  exact ⟨_,iC,.inl ⟨by decide,rfl,rfl⟩⟩
 ·unfold lnS
  rw [if_neg h285]
  have hb:=zce k (by omega) hk1
  have hsl:=QA k (rdR p q v most kn::D::E::L) hk1 (by omega)
  have hcn:=ZJ p q most (lnB k).2 (lnB k).1 v kn d s D E L h hl (by omega) he (by omega)
  generalize lnB k=lk at hb hsl hcn ⊢
  generalize tv d s lk.2=z at hcn ⊢
  generalize tk d s lk.2=s1 at hcn ⊢
  (refine kW ?_;refine kV fun hc=>?_;refine kW ?_)
  refine cP rfl rfl hsl ?_
  refine kW ?_
  refine cC rfl rfl hcn (fun r L' hp=>?_)
  rcases hp with ⟨h1,rfl,rfl⟩|⟨h1,rfl,D',hr,rfl⟩
  ·refine kW ?_
   refine kR ?_
   exact ⟨_,iC,.inl ⟨h1,rfl,rfl⟩⟩
  ·refine kW ?_
   refine kR ?_
   exact ⟨_,iC,.inr ⟨h1,by omega,rfl,D',hr,rfl⟩⟩
theorem znL (p q pc most:Nat) (v kn:Value) (dl:List Nat) (d:List UInt8) (s:S6) (D E Cd:Chunk) (L:List Chunk) (h:RdN q d s.t D E) (hl:d.length≤140737488355328) (he:s.e=0)
 (hC:CoD dl pc Cd) (hk:kS dl≤32768) (h15:∀x∈dl,x≤15) (h400:dl.length≤400) :
 Gv Tryz.prog 270 [.pointer (some ⟨p,0,none⟩),.pointer (some ⟨pc,0,none⟩)].toArray (rdR p q v most kn::D::E::Cd::L) (fun r L'=>
  ((dsS d dl s).e≠0∧r=.tuple #[.int .i64 0,.int .i64 ((dsS d dl s).e:Int)]∧L'=L)∨
  ((dsS d dl s).e=0∧r=.tuple #[.int .i64 ((dsV d dl s:Nat):Int),.int .i64 0]∧dsV d dl s≤1000000∧1≤dsV d dl s∧∃D',RdN q d (dsS d dl s).t D' E∧L'=rdR p q v most kn::D'::E::Cd::L)):=by
 refine Gv.of_body Tryz.func270 rfl rfl ?_
 have hr:=zgN pc q s.t dl d Cd D E (rdR p q v most kn::L) hC hk h15 h400 h hl
 have hsv:sv d s dl=(rdS dl (val d) s.t (8 * d.length) 16 0).1:=by unfold sv;rw [if_pos he]
 have hsy:sy d s dl=⟨s.t+(rdS dl (val d) s.t (8 * d.length) 16 0).2.2,s.out,(rdS dl (val d) s.t (8 * d.length) 16 0).2.1⟩:=by unfold sy fl;rw [if_pos he,if_pos (by exact he)]
 have hlt:=(zdr dl (val d) s.t (8 * d.length) 16 0).1
 rw [←hsv] at hr hlt
 have e1:s.t+(rdS dl (val d) s.t (8 * d.length) 16 0).2.2=(sy d s dl).t:=by rw [hsy]
 have e2:(rdS dl (val d) s.t (8 * d.length) 16 0).2.1=(sy d s dl).e:=by rw [hsy]
 rw [e1,e2] at hr
 clear hsy hsv e1 e2
 unfold dsS dsV
 generalize sv d s dl=t at hr hlt ⊢
 generalize sy d s dl=s1 at hr ⊢
 unfold rdR at hr ⊢
 refine kW ?_
 refine cC rfl rfl (Gv.holds hr (fun w h=>iH h)) (fun r L' hp=>?_)
 obtain ⟨D1,rfl,hR1,rfl⟩:=hp
 (repeat' first|refine kW ?_|refine kU fun bk=>?_|refine kV fun hc=>?_|refine kZ (fun hc=>?_) fun hc=>?_|fail)
 ·rw [if_pos (show s1.e≠0 by omega)]
  refine kR ?_
  exact ⟨_,iC,.inl ⟨by omega,rfl,rfl⟩⟩
 ·have h0:s1.e=0:=by omega
  rw [if_neg (show ¬s1.e≠0 by omega),if_pos (show 29 < t by omega),ZF,if_pos h0]
  refine zT (rs:=[.tmp 4,.tmp 5]) (vs:=[.int .i64 0,.int .i64 3]) rfl rfl ?_
  exact ⟨_,iC,.inl ⟨by decide,rfl,rfl⟩⟩
 ·have h0:s1.e=0:=by omega
  rw [if_neg (show ¬s1.e≠0 by omega),if_neg (show ¬29 < t by omega)]
  have hb:=zb4 t (by omega)
  have hb1:1≤baB 1 2 4 t:=by have:=(zga t (by omega)).1;omega
  have hsp:=fun L=>YE t L (by omega)
  have hcn:=ZJ p q most (exB t 2 4) (baB 1 2 4 t) v kn d s1 D1 E (Cd::L) hR1 hl (by omega) h0 (by omega)
  have hvl:=wU d s1 (exB t 2 4)
  have hpw:2 ^ exB t 2 4≤2 ^ 13:=Nat.pow_le_pow_right (by decide) hb.2
  generalize exB t 2 4=x4 at hsp hcn hvl hpw hb ⊢
  generalize baB 1 2 4 t=f4 at hsp hcn hb hb1 ⊢
  generalize tv d s1 x4=z at hcn hvl ⊢
  generalize tk d s1 x4=s2 at hcn ⊢
  unfold rdR at hcn
  refine cP rfl rfl (hsp _) ?_
  refine kW ?_
  refine cC rfl rfl (Gv.holds hcn (fun w h=>iH h)) (fun r L' hp=>?_)
  rcases hp with ⟨h1,rfl,rfl⟩|⟨h1,rfl,D',hr,rfl⟩
  ·refine kW ?_
   refine kR ?_
   exact ⟨_,iC,.inl ⟨h1,rfl,rfl⟩⟩
  ·refine kW ?_
   refine kR ?_
   exact ⟨_,iC,.inr ⟨h1,rfl,by omega,by omega,D',hr,rfl⟩⟩
end Go.Proofs.YtemdlifojcgplaaGreatDoor
namespace Go.If
open Go.Vx Go.Hf
set_option linter.all false
theorem zm2 [W0] (d:List UInt8) (dl:List Nat) (s:S6):(dsS d dl s).out=s.out:=by
 have h:(sy d s dl).out=s.out:=by
  unfold sy
  split
  ·exact ql _ _
  ·rfl
 unfold dsS
 split
 ·exact h
 ·split
  ·rw [ql,h]
  ·rw [yw,h]
end Go.If
namespace Go.Proofs.YtemdlifojcgplaaGreatDoor
open Go Go.Vx Go.Hf Go.If
variable [W0]
set_option maxRecDepth 4000
set_option linter.all false
theorem zk2 (p q pc most k:Nat) (v kn:Value) (dl:List Nat) (d:List UInt8) (s:S6) (D E C Cd:Chunk) (L:List Chunk) (h:RdN q d s.t D E) (hl:d.length≤140737488355328) (he:s.e=0) (hm:most≤1000000) (hkn:kn.oneCell'=true)
 (ho:Ow 5 1 v s.out.length (bsv s.out) C) (hom:s.out.length≤most) (hk1:257≤k) (hk2:k≤1000) (hC:CoD dl pc Cd) (hk:kS dl≤32768) (h15:∀x∈dl,x≤15) (h400:dl.length≤400) :
 Gv Tryz.prog 251 [.pointer (some ⟨p,0,none⟩),.int .i64 (k:Int),.pointer (some ⟨pc,0,none⟩)].toArray (rdR p q v most kn::D::E::C::Cd::L) (fun r L'=>
  ((mtS d most k dl s).e≠0∧r=.int .i64 ((mtS d most k dl s).e:Int)∧L'=L)∨
  ((mtS d most k dl s).e=0∧r=.int .i64 0∧∃v' D' C',Ow 5 1 v' (mtS d most k dl s).out.length (bsv (mtS d most k dl s).out) C'∧(mtS d most k dl s).out.length≤most∧RdN q d (mtS d most k dl s).t D' E∧L'=rdR p q v' most kn::D'::E::C'::Cd::L)):=by
 refine Gv.of_body Tryz.func251 rfl rfl ?_
 have hlen:=zii p q most k v kn d s D E (C::Cd::L) h hl he hk1 hk2
 have hx1:=zkH (d:=d) (most:=most) (k:=k) (dl:=dl) (s:=s)
 refine kW ?_
 refine cC rfl rfl hlen (fun r L' hp=>?_)
 rcases hp with ⟨h1,rfl,rfl⟩|⟨h1,h285,rfl,D1,hr1,rfl⟩
 ·have q:=hx1 h1
  rw [←q] at h1 ⊢
  generalize mtS d most k dl s=S at h1 ⊢
  (refine kW ?_;refine kV fun hc=>?_;refine kW ?_)
  refine kR ?_
  exact ⟨_,iC,.inl ⟨h1,rfl,rfl⟩⟩
 clear hlen hx1
 have hlns:lnS d k s=tk d s (lnB k).2:=by unfold lnS;rw [if_neg (by omega)]
 have hlb:(lnB k).1≤400∧(lnB k).2≤6:=by
  unfold lnB
  split
  ·exact ⟨by decide,by decide⟩
  ·exact ⟨ziZ _ (by omega),zfr _ (by omega)⟩
 have htv:=wU d s (lnB k).2
 have hpw:2 ^ (lnB k).2≤2 ^ 6:=Nat.pow_le_pow_right (by decide) hlb.2
 rw [hlns] at h1 hr1
 have hx2:=zkI (d:=d) (most:=most) (k:=k) (dl:=dl) (s:=s) (by omega)
 have hok:=zpH (d:=d) (most:=most) (k:=k) (dl:=dl) (s:=s) (by omega)
 have hso:(tk d s (lnB k).2).out=s.out:=yw _ _ _
 rw [←hso] at ho hom
 obtain ⟨n,hn⟩:∃n,n=(lnB k).1+tv d s (lnB k).2:=⟨_,rfl⟩
 rw [←hn] at hok ⊢
 have hn464:n≤464:=by omega
 generalize tk d s (lnB k).2=s1 at h1 hr1 hx2 hok ho hom
 have hdi:=znL p q pc most v kn dl d s1 D1 E Cd (C::L) hr1 hl h1 hC hk h15 h400
 have hdo:=zm2 d dl s1
 generalize mtS d most k dl s=R at hx2 hok ⊢
 generalize dsV d dl s1=far at hdi hok
 rw [←hdo] at ho hom
 generalize dsS d dl s1=s2 at hdi hok hx2 ho hom
 clear htv hpw hn hlb hlns
 unfold rdR at hdi ⊢
 refine kW ?_
 refine cC rfl rfl (Gv.holds hdi (fun w h=>iH h)) (fun r L' hp=>?_)
 rcases hp with ⟨h2,rfl,rfl⟩|⟨h2,rfl,hf1,hf2,D2,hr2,rfl⟩
 ·have q:=hx2 h2
  rw [←q] at h2 ⊢
  (refine kW ?_;refine kV fun hc=>?_;refine kW ?_)
  refine kR ?_
  exact ⟨_,iC,.inl ⟨h2,rfl,rfl⟩⟩
 have hok:=hok h2
 obtain ⟨va,vc,rfl⟩:=zM ho
 (repeat' first|refine kW ?_|refine kU fun bk=>?_|refine kV fun hc=>?_|refine kZ (fun hc=>?_) fun hc=>?_|fail)
 ·rw [if_pos (show s2.out.length < far by omega)] at hok
  have e3:(fl s2 3).e=3:=by rw [ZF,if_pos h2]
  rw [zcU (by rw [e3];decide)] at hok
  rw [hok,e3]
  refine kR ?_
  exact ⟨_,iC,.inl ⟨by decide,rfl,rfl⟩⟩
 rw [if_neg (show ¬s2.out.length < far by omega)] at hok
 refine zk [] mixed ?_
 (refine za 0 ?_;refine za 1 ?_;refine za 2 ?_;refine za 3 ?_;refine za 4 ?_;refine za 5 ?_;refine za 6 ?_;refine za 7 ?_;refine za 8 ?_;refine za 9 ?_;refine za 10 ?_;refine za 11 ?_)
 refine cD ?_
 (repeat' first|refine kW ?_|refine kU fun bk=>?_|refine kV fun hc=>?_|refine kZ (fun hc=>?_) fun hc=>?_|fail)
 ·rw [hok,zd8 most far n s2 h2 hom (by omega)]
  refine kR ?_
  exact ⟨_,iC,.inl ⟨by decide,rfl,rfl⟩⟩
 have hfit:s2.out.length+n≤most:=by omega
 refine zn (X:=Nat × S6 × Value × Chunk) (fun x=>[(0,.pointer (some ⟨p,0,none⟩)),(9,.int .i64 (far:Int)),(47,.int .i64 (n:Int)),(48,.int .i64 (x.1:Int))]) (fun x=>rdR p q x.2.2.1 most kn::x.2.2.2::D2::E::Cd::L)
  (fun x=>x.1≤n∧x.2.1.t=s2.t∧x.2.1.e=0∧Ow 5 1 x.2.2.1 x.2.1.out.length (bsv x.2.1.out) x.2.2.2∧x.2.1.out.length=s2.out.length+x.1∧cpL most far (n - x.1) x.2.1=R) (fun x=>n - x.1) (0,s2,.slice va s2.out.length vc,C) ⟨Nat.zero_le _,rfl,h2,ho,rfl,hok.symm⟩ iS (fun w h=>iH h) ?_
 rintro ⟨i,s5,v1,C1⟩ ⟨hi,hst,he5,hov,hol,hsl⟩
 simp only at hi hst he5 hov hol hsl ⊢
 obtain ⟨wa,wc,rfl⟩:=zM hov
 unfold rdR
 (repeat' first|refine kW ?_|refine kU fun bk=>?_|refine kV fun hc=>?_|refine kZ (fun hc=>?_) fun hc=>?_|fail)
 ·obtain ⟨k2,hk2⟩:∃k2,n - i=k2+1:=⟨n - i - 1,by omega⟩
  have hk3:n - (i+1)=k2:=by omega
  rw [hk2,cpL,if_pos he5,Qa (by omega)] at hsl
  have hov2:=hov
  rcases hov2 with ⟨_,h1,_⟩|⟨b,cap,rest,hve,rfl,hxl,hrl,hmc,hcm⟩
  ·omega
  injection hve with e1 e2 e3
  subst e1 e3
  clear e2
  have hcell:(bsv s5.out++rest).toArray[(s5.out.length - far) * 1]? =some (.int .u8 ((s5.out.getD (s5.out.length - far) 0).toNat:Int)):=by
   rw [Nat.mul_one]
   simpa using z8 (r:=rest) (wW (l:=s5.out) (i:=s5.out.length - far) (b:=s5.out.getD (s5.out.length - far) 0) (by simp [List.getD,show s5.out.length - far < s5.out.length from by omega]))
  generalize s5.out.getD (s5.out.length - far) 0=cc at hsl hcell
  refine yO [[(p,cl [.pointer (some ⟨q,0,none⟩),.slice (some ⟨b,0,none⟩) s5.out.length wc,.int .i64 (most:Int),kn] 144)]] [22] mixed ?_
  (refine za 0 ?_;refine za 1 ?_;refine za 2 ?_;refine za 3 ?_;refine za 4 ?_;refine za 5 ?_;refine za 6 ?_;refine za 7 ?_;refine za 8 ?_;refine za 9 ?_;refine za 10 ?_;refine za 11 ?_;refine za 12 ?_;refine za 13 ?_;refine za 14 ?_;refine za 15 ?_)
  rw [show (s5.out.length:Int) - (far:Int)=((s5.out.length - far:Nat):Int) from by omega]
  refine cT 16 rfl rfl (zh (j:=s5.out.length - far) (len:=s5.out.length) rfl rfl rfl (by omega)) ?_
  refine cI 17 rfl rfl ?_
  refine ze (zq rfl (by exact Fnd.there Fnd.here) hcell) rfl ?_
  refine ⟨iC,?_⟩
  refine cI 18 rfl rfl ?_
  refine zl (cs:=[.int .u8 (cc.toNat:Int)]) rfl (by rfl) (by first|(simp [zA,patch,Value.cells,zeros];done)|(simp [zA,patch,Value.cells,zeros];rfl)) (by omega) rfl rfl (fun bn=>?_)
  refine ⟨iC,?_⟩
  refine cI 19 rfl rfl ?_
  refine zu rfl rfl hov (zF (k:=1) (c:=#[.int .u8 (cc.toNat:Int)]) (xs:=[.int .u8 (cc.toNat:Int)]) (m:=1) Fnd.here rfl (by simp)) (by repeat (first|exact Zip.here _|apply Zip.there)) rfl (by rfl) (by omega) (by simp [maxLen];omega) rfl (fun v' C' ho' _ _=>?_)
  refine ⟨iC,?_⟩
  (refine za 20 ?_;refine za 21 ?_)
  refine cL 22 rfl rfl rfl ?_
  refine zG [.pointer (some ⟨q,0,none⟩),v',.int .i64 (most:Int),kn] rfl rfl (by rcases ho' with ⟨rfl,_⟩|⟨_,_,_,rfl,_⟩<;>rfl) rfl iU (by simp) ?_
  refine cD ?_
  refine kW ?_
  rw [show bsv s5.out++[Value.int .u8 (cc.toNat:Int)]=bsv (s5.out++[cc]) from by simp [bsv]] at ho'
  refine zf (X:=Nat × S6 × Value × Chunk) (μ:=fun x=>n - x.1) (x:=(i,s5,.slice (some ⟨b,0,none⟩) s5.out.length wc,[(b,cl (bsv s5.out++rest) 5)])) (i+1,⟨s5.t,s5.out++[cc],s5.e⟩,v',C') (by simp only;omega) ⟨by simp only;omega,hst,he5,by simpa using ho',by simp;omega,by simp only;rw [hk3];exact hsl⟩ iS (fun w h=>iH h)
 ·obtain rfl:i=n:=by omega
  rw [show i - i=0 from by omega,cpL] at hsl
  subst hsl
  refine kR ?_
  exact ⟨_,iC,.inr ⟨he5,rfl,_,D2,C1,hov,by omega,by rw [hst];exact hr2,rfl⟩⟩
end Go.Proofs.YtemdlifojcgplaaGreatDoor
namespace Go.If
open Go.Vx Go.Hf
set_option linter.all false
theorem Yc [W0] {d:List UInt8} {most:Nat} {s:S6} (h:s.e≠0):∀k,stL d most k s=s
 |0=>rfl
 |k+1=>by rw [stL,if_neg h]
theorem zqf {d:List UInt8} {s:S6} {n:Nat} (h:s.e≠0):(tk d s n).e=s.e:=by
 unfold tk
 split
 ·rfl
 ·rw [zfu h]
theorem zq5 [W0] {d:List UInt8} {most:Nat} {s:S6} (h:(tk d ⟨8 * ((s.t+7) / 8),s.out,s.e⟩ 16).e≠0):(stS d most s).e=(tk d ⟨8 * ((s.t+7) / 8),s.out,s.e⟩ 16).e:=by
 unfold stS
 simp only
 generalize tk d ⟨8 * ((s.t+7) / 8),s.out,s.e⟩ 16=s1 at h ⊢
 have h2:=zqf (d:=d) (n:=16) h
 split
 ·rw [Yc (by rw [h2];exact h),h2]
 ·rw [zfu (by rw [h2];exact h),Yc (by rw [h2];exact h),h2]
theorem zq6 [W0] {d:List UInt8} {most:Nat} {s:S6} (h:(tk d (tk d ⟨8 * ((s.t+7) / 8),s.out,s.e⟩ 16) 16).e≠0):(stS d most s).e=(tk d (tk d ⟨8 * ((s.t+7) / 8),s.out,s.e⟩ 16) 16).e:=by
 unfold stS
 simp only
 generalize tk d (tk d ⟨8 * ((s.t+7) / 8),s.out,s.e⟩ 16) 16=s2 at h ⊢
 split
 ·rw [Yc h]
 ·rw [zfu h,Yc h]
theorem zq7 [W0] {d:List UInt8} {most:Nat} {s:S6} (h:(tk d (tk d ⟨8 * ((s.t+7) / 8),s.out,s.e⟩ 16) 16).e=0) (h2:tv d ⟨8 * ((s.t+7) / 8),s.out,s.e⟩ 16+tv d (tk d ⟨8 * ((s.t+7) / 8),s.out,s.e⟩ 16) 16≠65535):(stS d most s).e=3:=by
 unfold stS
 simp only
 rw [if_neg h2]
 have e3:(fl (tk d (tk d ⟨8 * ((s.t+7) / 8),s.out,s.e⟩ 16) 16) 3).e=3:=by rw [ZF,if_pos h]
 rw [Yc (by rw [e3];decide),e3]
theorem zq8 [W0] {d:List UInt8} {most:Nat} {s:S6} (h2:tv d ⟨8 * ((s.t+7) / 8),s.out,s.e⟩ 16+tv d (tk d ⟨8 * ((s.t+7) / 8),s.out,s.e⟩ 16) 16=65535) :
 stS d most s=stL d most (tv d ⟨8 * ((s.t+7) / 8),s.out,s.e⟩ 16) (tk d (tk d ⟨8 * ((s.t+7) / 8),s.out,s.e⟩ 16) 16):=by
 unfold stS
 simp only
 rw [if_pos h2]
theorem zix {n m:Nat} (hn:n < 65536) (hm:m < 65536):n ^^^ m=65535↔n+m=65535:=by
 constructor
 ·intro h
  have e:m=n ^^^ 65535:=by rw [←h,←Nat.xor_assoc,Nat.xor_self,Nat.zero_xor]
  have h2:n ^^^ 65535=65535 - n:=by
   have e2:65535 - n=2 ^ 16 - (n+1):=by omega
   apply Nat.eq_of_testBit_eq
   intro i
   rw [Nat.testBit_xor,e2,Nat.testBit_two_pow_sub_succ (by omega),show (65535:Nat)=2 ^ 16 - 1 from rfl,Nat.testBit_two_pow_sub_one]
   by_cases hi:i < 16
   ·simp [hi]
   ·have:Nat.testBit n i=false:=Nat.testBit_lt_two_pow (Nat.lt_of_lt_of_le hn (Nat.pow_le_pow_right (n:=2) (by decide) (show 16≤i by omega)))
    simp [hi,this]
  omega
 ·intro h
  have e:m=2 ^ 16 - (n+1):=by omega
  apply Nat.eq_of_testBit_eq
  intro i
  rw [Nat.testBit_xor,e,Nat.testBit_two_pow_sub_succ (by omega),show (65535:Nat)=2 ^ 16 - 1 from rfl,Nat.testBit_two_pow_sub_one]
  by_cases hi:i < 16
  ·simp [hi]
  ·have:Nat.testBit n i=false:=Nat.testBit_lt_two_pow (Nat.lt_of_lt_of_le hn (Nat.pow_le_pow_right (n:=2) (by decide) (show 16≤i by omega)))
   simp [hi,this]
end Go.If
namespace Go.Proofs.YtemdlifojcgplaaGreatDoor
open Go Go.Vx Go.Hf Go.If
variable [W0]
set_option maxRecDepth 4000
set_option linter.all false
theorem zhT {a b:Nat} (ha:a < 65536) (hb:b < 65536):zcN .xor .i64 (a:Int) (b:Int)=some ((a ^^^ b:Nat):Int):=by
 have h1:a ^^^ b < 2 ^ 16:=Nat.xor_lt_two_pow ha hb
 have e:((BitVec.ofInt 64 (a:Int) ^^^ BitVec.ofInt 64 (b:Int)).toNat)=a ^^^ b:=by
  rw [BitVec.toNat_xor,BitVec.ofInt_natCast,BitVec.ofInt_natCast,BitVec.toNat_ofNat,BitVec.toNat_ofNat,Nat.mod_eq_of_lt (by omega),Nat.mod_eq_of_lt (by omega)]
 show some (IntKind.i64.wrap (((BitVec.ofInt 64 (a:Int) ^^^ BitVec.ofInt 64 (b:Int)).toNat:Nat):Int))=_
 rw [e]
 congr 1
 exact QF (by omega)
theorem zij (p q most:Nat) (v kn:Value) (d:List UInt8) (s:S6) (D E C:Chunk) (L:List Chunk) (h:RdN q d s.t D E) (hl:d.length≤140737488355328) (he:s.e=0) (hm:most≤1000000) (hkn:kn.oneCell'=true)
 (ho:Ow 5 1 v s.out.length (bsv s.out) C) (hom:s.out.length≤most) :
 Gv Tryz.prog 179 [.pointer (some ⟨p,0,none⟩)].toArray (rdR p q v most kn::D::E::C::L) (fun r L'=>
  ((stS d most s).e≠0∧r=.int .i64 ((stS d most s).e:Int)∧L'=L)∨
  ((stS d most s).e=0∧r=.int .i64 0∧∃v' D' C',Ow 5 1 v' (stS d most s).out.length (bsv (stS d most s).out) C'∧(stS d most s).out.length≤most∧RdN q d (stS d most s).t D' E∧L'=rdR p q v' most kn::D'::E::C'::L)):=by
 refine Gv.of_body Tryz.func179 rfl rfl ?_
 have hal:=zk6 q s.t d D E (rdR p q v most kn::C::L) h
 have x1:=zq5 (d:=d) (most:=most) (s:=s)
 have x2:=zq6 (d:=d) (most:=most) (s:=s)
 have x3:=zq7 (d:=d) (most:=most) (s:=s)
 have x4:=zq8 (d:=d) (most:=most) (s:=s)
 generalize stS d most s=R at x1 x2 x3 x4 ⊢
 obtain ⟨s0,hs0⟩:∃s0:S6,s0=⟨8 * ((s.t+7) / 8),s.out,s.e⟩:=⟨_,rfl⟩
 have e0:s0.e=0:=by rw [hs0];exact he
 have o0:s0.out=s.out:=by rw [hs0]
 have t0:8 * ((s.t+7) / 8)=s0.t:=by rw [hs0]
 rw [t0] at hal
 rw [←hs0] at x1 x2 x3 x4
 rw [←o0] at ho hom
 clear hs0 o0 t0 he h
 have htk:=fun D' hr=>Y7 p q most 16 v kn d s0 D' E (C::L) hr hl (by decide) e0
 have hv1:=wU d s0 16
 have ho1:=yw d s0 16
 generalize tv d s0 16=n1 at htk hv1 x3 x4
 generalize tk d s0 16=s1 at htk x1 x2 x3 x4 ho1
 unfold rdR at hal ⊢
 refine kW ?_
 refine cC rfl rfl (Gv.holds hal (fun w h=>iH h)) (fun r L' hp=>?_)
 obtain ⟨rfl,D0,hr0,rfl⟩:=hp
 have htk:=htk D0 hr0
 unfold rdR at htk
 refine kW ?_
 refine cC rfl rfl (Gv.holds htk (fun w h=>iH h)) (fun r L' hp=>?_)
 rcases hp with ⟨h1,rfl,rfl⟩|⟨h1,rfl,D1,hr1,rfl⟩
 ·have q:=x1 h1
  rw [←q] at h1 ⊢
  (refine kW ?_;refine kV fun hc=>?_;refine kW ?_)
  refine kR ?_
  exact ⟨_,iC,.inl ⟨h1,rfl,rfl⟩⟩
 have htk:=Y7 p q most 16 v kn d s1 D1 E (C::L) hr1 hl (by decide) h1
 have hv2:=wU d s1 16
 have ho2:=yw d s1 16
 rw [←ho1,←ho2] at ho hom
 generalize tv d s1 16=n2 at htk hv2 x3 x4
 generalize tk d s1 16=s2 at htk x2 x3 x4 ho2 ho hom
 unfold rdR at htk
 refine kW ?_
 refine cC rfl rfl (Gv.holds htk (fun w h=>iH h)) (fun r L' hp=>?_)
 rcases hp with ⟨h2,rfl,rfl⟩|⟨h2,rfl,D2,hr2,rfl⟩
 ·have q:=x2 h2
  rw [←q] at h2 ⊢
  (refine kW ?_;refine kV fun hc=>?_;refine kW ?_)
  refine kR ?_
  exact ⟨_,iC,.inl ⟨h2,rfl,rfl⟩⟩
 clear x1 x2
 have x3:=x3 h2
 have hxc:=zix hv1 hv2
 refine kW ?_
 refine ze (wZ rfl rfl (zhT hv1 hv2)) rfl ?_
 (repeat' first|refine kW ?_|refine kU fun bk=>?_|refine kV fun hc=>?_|refine kZ (fun hc=>?_) fun hc=>?_|fail)
 ·have x3:=x3 (by omega)
  rw [x3]
  refine kR ?_
  exact ⟨_,iC,.inl ⟨by decide,rfl,rfl⟩⟩
 have x4:=x4 (by omega)
 clear x3 hxc
 obtain ⟨va,vc,rfl⟩:=zM ho
 refine zn (X:=Nat × S6 × Value × Chunk × Chunk) (fun x=>[(0,.pointer (some ⟨p,0,none⟩)),(34,.int .i64 (n1:Int)),(35,.int .i64 (x.1:Int))]) (fun x=>rdR p q x.2.2.1 most kn::x.2.2.2.1::x.2.2.2.2::E::L)
  (fun x=>x.1≤n1∧x.2.1.e=0∧Ow 5 1 x.2.2.1 x.2.1.out.length (bsv x.2.1.out) x.2.2.2.1∧x.2.1.out.length≤most∧RdN q d x.2.1.t x.2.2.2.2 E∧stL d most (n1 - x.1) x.2.1=R) (fun x=>n1 - x.1) (0,s2,.slice va s2.out.length vc,C,D2) ⟨Nat.zero_le _,h2,ho,hom,hr2,x4.symm⟩ iS (fun w h=>iH h) ?_
 rintro ⟨i,s5,v1,C1,D5⟩ ⟨hi,he5,hov,hol,hr5,hsl⟩
 simp only at hi he5 hov hol hr5 hsl ⊢
 (repeat' first|refine kW ?_|refine kU fun bk=>?_|refine kV fun hc=>?_|refine kZ (fun hc=>?_) fun hc=>?_|fail)
 ·obtain ⟨k2,hk2⟩:∃k2,n1 - i=k2+1:=⟨n1 - i - 1,by omega⟩
  have hk3:n1 - (i+1)=k2:=by omega
  rw [hk2,stL,if_pos he5] at hsl
  have htk:=Y7 p q most 8 v1 kn d s5 D5 E (C1::L) hr5 hl (by decide) he5
  have hv6:=wU d s5 8
  have ho6:=yw d s5 8
  rw [←ho6] at hov
  generalize tv d s5 8=x at htk hv6 hsl
  generalize tk d s5 8=s6 at htk hsl ho6 hov
  unfold rdR at htk ⊢
  refine cC rfl rfl (Gv.holds htk (fun w h=>iH h)) (fun r L' hp=>?_)
  rcases hp with ⟨h6,rfl,rfl⟩|⟨h6,rfl,D6,hr6,rfl⟩
  ·rw [if_neg h6,Yc h6] at hsl
   subst hsl
   (refine kW ?_;refine kV fun hc=>?_;refine kW ?_)
   refine kR ?_
   exact ⟨_,iC,.inl ⟨h6,rfl,rfl⟩⟩
  rw [if_pos h6] at hsl
  have hput:=zk3 p q most (UInt8.ofNat x) v1 kn s6 C1 (D6::E::L) hov hm h6 hkn
  have hpt:=zeA most s6 (UInt8.ofNat x)
  have hpl:(pt most s6 (UInt8.ofNat x)).e=0→(pt most s6 (UInt8.ofNat x)).out.length≤most:=by
   intro hq
   by_cases hc:s6.out.length < most
   ·rw [Qa hc];simp;omega
   ·rw [zez (by omega),ZF,if_pos h6] at hq;cases hq
  generalize pt most s6 (UInt8.ofNat x)=s7 at hput hsl hpt hpl
  rw [byte_of (by omega)] at hput
  unfold rdR at hput
  refine kW ?_
  try rw [u6]
  try rw [byte_of (by omega)]
  refine cC rfl rfl (Gv.holds hput (fun w h=>iH h)) (fun r L' hp=>?_)
  rcases hp with ⟨h7,rfl,rfl⟩|⟨h7,rfl,v7,C7,ho7,rfl⟩
  ·rw [Yc h7] at hsl
   subst hsl
   (refine kW ?_;refine kV fun hc=>?_;refine kW ?_)
   refine kR ?_
   exact ⟨_,iC,.inl ⟨h7,rfl,rfl⟩⟩
  refine kW ?_
  refine zf (X:=Nat × S6 × Value × Chunk × Chunk) (μ:=fun x=>n1 - x.1) (x:=(i,s5,v1,C1,D5)) (i+1,s7,v7,C7,D6) (by simp only;omega) ⟨by simp only;omega,h7,ho7,hpl h7,by simp only;rw [hpt];exact hr6,by simp only;rw [hk3];exact hsl⟩ iS (fun w h=>iH h)
 ·obtain rfl:i=n1:=by omega
  rw [show i - i=0 from by omega,stL] at hsl
  subst hsl
  refine kR ?_
  exact ⟨_,iC,.inr ⟨he5,rfl,_,D5,C1,hov,hol,hr5,rfl⟩⟩
end Go.Proofs.YtemdlifojcgplaaGreatDoor
namespace Go.Vx
section
variable [W0] {P : Program} {n : Nat} {M : List (Nat × Value)} {L : List Chunk}
theorem ziO {c:Code} {fn:Func} {R:Ending→World→Prop} (h:WC P n c (bodyPost P fn R) M L):WC P n (.scope c) (bodyPost P fn R) M L:=
 ⟨fun a w ha hw=>wp_scope_straight (wp_mono (h.out a w ha hw) (fun e a' w' hq=>by cases e<;>exact hq))⟩
end
end Go.Vx
namespace Go.Proofs.YtemdlifojcgplaaGreatDoor
open Go Go.Vx Go.Hf Go.If
variable [W0]
set_option maxRecDepth 4000
set_option linter.all false
omit [W0] in
def csC (pc pl pd:Nat):Chunk:=[(pc,cl [.pointer (some ⟨pl,0,none⟩),.pointer (some ⟨pd,0,none⟩)] 324)]
theorem zfV (q pl:Nat) (l:List Nat) (d:List UInt8) (s:S6) (D E Cl:Chunk) (L:List Chunk) (h:RdN q d s.t D E) (hl:d.length≤140737488355328) (he:s.e=0)
 (hC:CoD l pl Cl) (hk:kS l≤32768) (h15:∀x∈l,x≤15) (h400:l.length≤400) :
 Gv Tryz.prog 250 [.pointer (some ⟨pl,0,none⟩),.pointer (some ⟨q,0,none⟩)].toArray (Cl::D::E::L) (fun r L'=>∃D',r=.tuple #[.int .i64 ((sv d s l:Nat):Int),.int .i64 ((sy d s l).e:Int)]∧RdN q d (sy d s l).t D' E∧L'=Cl::D'::E::L):=by
 have hr:=zgN pl q s.t l d Cl D E L hC hk h15 h400 h hl
 have hsv:sv d s l=(rdS l (val d) s.t (8 * d.length) 16 0).1:=by unfold sv;rw [if_pos he]
 have hsy:sy d s l=⟨s.t+(rdS l (val d) s.t (8 * d.length) 16 0).2.2,s.out,(rdS l (val d) s.t (8 * d.length) 16 0).2.1⟩:=by unfold sy fl;rw [if_pos he,if_pos (by exact he)]
 rw [←hsv] at hr
 have e1:s.t+(rdS l (val d) s.t (8 * d.length) 16 0).2.2=(sy d s l).t:=by rw [hsy]
 have e2:(rdS l (val d) s.t (8 * d.length) 16 0).2.1=(sy d s l).e:=by rw [hsy]
 rw [e1,e2] at hr
 exact hr
theorem zey (p q pc pl pd most:Nat) (v kn:Value) (l dl:List Nat) (d:List UInt8) (s:S6) (D E C Cl Cd:Chunk) (L:List Chunk) (h:RdN q d s.t D E) (hl:d.length≤140737488355328) (he:s.e=0) (hm:most≤1000000) (hkn:kn.oneCell'=true)
 (ho:Ow 5 1 v s.out.length (bsv s.out) C) (hom:s.out.length≤most) (hCl:CoD l pl Cl) (hkl:kS l≤32768) (h15l:∀x∈l,x≤15) (h400l:l.length≤400) (hC:CoD dl pd Cd) (hk:kS dl≤32768) (h15:∀x∈dl,x≤15) (h400:dl.length≤400) :
 Gv Tryz.prog 223 [.pointer (some ⟨p,0,none⟩),.pointer (some ⟨pc,0,none⟩)].toArray (rdR p q v most kn::D::E::C::csC pc pl pd::Cl::Cd::L) (fun r L'=>
  ((cdC d most l dl (8 * d.length+1) s).e≠0∧r=.int .i64 ((cdC d most l dl (8 * d.length+1) s).e:Int)∧L'=L)∨
  ((cdC d most l dl (8 * d.length+1) s).e=0∧r=.int .i64 0∧∃v' D' C',Ow 5 1 v' (cdC d most l dl (8 * d.length+1) s).out.length (bsv (cdC d most l dl (8 * d.length+1) s).out) C'∧(cdC d most l dl (8 * d.length+1) s).out.length≤most∧RdN q d (cdC d most l dl (8 * d.length+1) s).t D' E∧
    L'=rdR p q v' most kn::D'::E::C'::csC pc pl pd::Cl::Cd::L)):=by
 refine Gv.of_body Tryz.func223 rfl rfl ?_
 generalize hR:cdC d most l dl (8 * d.length+1) s=R
 refine kW ?_
 refine ziO ?_
 refine vg ?_
 refine ziN ?_
 refine kW ?_
 refine zn (X:=Nat × S6 × Value × Chunk × Chunk) (fun x=>[(0,.pointer (some ⟨p,0,none⟩)),(1,.pointer (some ⟨pc,0,none⟩))]) (fun x=>rdR p q x.2.2.1 most kn::x.2.2.2.1::x.2.2.2.2::E::csC pc pl pd::Cl::Cd::L)
  (fun x=>x.2.1.e=0∧8 * d.length < x.1+x.2.1.t∧Ow 5 1 x.2.2.1 x.2.1.out.length (bsv x.2.1.out) x.2.2.2.1∧x.2.1.out.length≤most∧RdN q d x.2.1.t x.2.2.2.2 E∧cdC d most l dl x.1 x.2.1=R) (fun x=>x.1) (8 * d.length+1,s,v,C,D) ⟨he,by simp only;omega,ho,hom,h,hR⟩ iS (fun w h=>iH h) ?_
 rintro ⟨f,s1,v1,C1,D1⟩ ⟨he1,hf,hov,hol,hr1,hsl⟩
 simp only at he1 hf hov hol hr1 hsl ⊢
 obtain ⟨va,vc,rfl⟩:=zM hov
 have hs1:=zfV q pl l d s1 D1 E Cl (rdR p q (.slice va s1.out.length vc) most kn::C1::csC pc pl pd::Cd::L) hr1 hl he1 hCl hkl h15l h400l
 unfold rdR csC at hs1 ⊢
 refine kW ?_
 refine yO [[(p,cl [.pointer (some ⟨q,0,none⟩),.slice va s1.out.length vc,.int .i64 (most:Int),kn] 144)],[(pc,cl [.pointer (some ⟨pl,0,none⟩),.pointer (some ⟨pd,0,none⟩)] 324)]] [] mixed ?_
 (refine za 0 ?_;refine za 1 ?_;refine za 2 ?_;refine za 3 ?_;refine za 4 ?_;refine za 5 ?_;refine za 6 ?_;refine za 7 ?_)
 refine cI 8 rfl rfl ?_
 refine cC rfl rfl (Gv.holds hs1 (fun w h=>iH h)) (fun r L' hp=>?_)
 obtain ⟨D2,rfl,hr2,rfl⟩:=hp
 refine ⟨iC,?_⟩
 (refine za 9 ?_;refine za 10 ?_;refine za 11 ?_;refine za 12 ?_;refine za 13 ?_)
 refine cD ?_
 refine kW ?_
 refine zn (X:=Nat × S6 × Value × Chunk × Chunk) (fun x=>[(0,.pointer (some ⟨p,0,none⟩)),(1,.pointer (some ⟨pc,0,none⟩)),(5,.int .i64 ((sv d x.2.1 l:Nat):Int)),(6,.int .i64 ((sy d x.2.1 l).e:Int))]) (fun x=>rdR p q x.2.2.1 most kn::x.2.2.2.1::x.2.2.2.2::E::csC pc pl pd::Cl::Cd::L)
  (fun x=>x.1≤f∧x.2.1.e=0∧8 * d.length < x.1+x.2.1.t∧x.2.1.t≤8 * d.length∧Ow 5 1 x.2.2.1 x.2.1.out.length (bsv x.2.1.out) x.2.2.2.1∧x.2.1.out.length≤most∧RdN q d (sy d x.2.1 l).t x.2.2.2.2 E∧cdC d most l dl x.1 x.2.1=R) (fun x=>x.1) (f,s1,.slice va s1.out.length vc,C1,D2) ⟨Nat.le_refl _,he1,hf,hr1.1,hov,hol,hr2,hsl⟩ iS (fun w h=>iH h) ?_
 clear hsl hr2 hr1 hol hov
 rintro ⟨g,s3,v3,C3,D3⟩ ⟨hgf,he3,hg,ht3,hov3,hol3,hr3,hsl3⟩
 simp only at hgf he3 hg ht3 hov3 hol3 hr3 hsl3 ⊢
 obtain ⟨g,rfl⟩:∃z,g=z+1:=⟨g - 1,by omega⟩
 rw [cdC,if_neg (show ¬s3.e≠0 by omega)] at hsl3
 have hgo:=fun h=>zoP (d:=d) (l:=l) he3 h
 have hsv:=zoO d s3 l
 have hso:=zbu d s3 l
 have hpt:=fun c=>zeA most (sy d s3 l) c
 have hmt:=fun k=>zoD d most k dl (sy d s3 l)
 rw [←hso] at hov3 hol3
 generalize sv d s3 l=k at hsl3 hsv ⊢
 generalize sy d s3 l=s4 at hsl3 hgo hso hpt hmt hov3 hol3 hr3 ⊢
 obtain ⟨wa,wc,rfl⟩:=zM hov3
 unfold rdR csC
 (repeat' first|refine kW ?_|refine kU fun bk=>?_|refine kV fun hc=>?_|refine kZ (fun hc=>?_) fun hc=>?_|fail)
 ·rw [if_neg (show ¬s4.e≠0 by omega),if_neg (show ¬k < 256 by omega),if_pos (show k=256 by omega)] at hsl3
  rw [←hsl3]
  refine kR ?_
  exact ⟨_,iC,.inr ⟨by omega,rfl,_,D3,C3,hov3,hol3,hr3,rfl⟩⟩
 ·have hgo:=hgo (by omega)
  have h4:s4.e=0:=by omega
  rw [if_neg (show ¬s4.e≠0 by omega),if_pos (show k < 256 by omega)] at hsl3
  try rw [u6]
  have hput:=zk3 p q most (UInt8.ofNat k) (.slice wa s4.out.length wc) kn s4 C3 (D3::E::csC pc pl pd::Cl::Cd::L) hov3 hm h4 hkn
  have hpt:=hpt (UInt8.ofNat k)
  have hpl:(pt most s4 (UInt8.ofNat k)).e=0→(pt most s4 (UInt8.ofNat k)).out.length≤most:=by
   intro hq
   by_cases hc:s4.out.length < most
   ·rw [Qa hc];simp;omega
   ·rw [zez (by omega),ZF,if_pos h4] at hq;cases hq
  generalize pt most s4 (UInt8.ofNat k)=s5 at hput hsl3 hpt hpl
  unfold rdR csC at hput
  refine cC rfl rfl (Gv.holds hput (fun w h=>iH h)) (fun r L' hp=>?_)
  rcases hp with ⟨h5,rfl,rfl⟩|⟨h5,rfl,v5,C5,ho5,rfl⟩
  ·rw [zai h5] at hsl3
   subst hsl3
   (refine kW ?_;refine kV fun hc=>?_;refine kW ?_)
   refine kR ?_
   exact ⟨_,iC,.inl ⟨h5,rfl,rfl⟩⟩
  refine kW ?_
  have hr5:RdN q d s5.t D3 E:=by rw [hpt];exact hr3
  have hs5:=zfV q pl l d s5 D3 E Cl (rdR p q v5 most kn::C5::csC pc pl pd::Cd::L) hr5 hl h5 hCl hkl h15l h400l
  unfold rdR csC at hs5
  refine yO [[(p,cl [.pointer (some ⟨q,0,none⟩),v5,.int .i64 (most:Int),kn] 144)],[(pc,cl [.pointer (some ⟨pl,0,none⟩),.pointer (some ⟨pd,0,none⟩)] 324)]] [] mixed ?_
  (refine za 0 ?_;refine za 1 ?_;refine za 2 ?_;refine za 3 ?_;refine za 4 ?_;refine za 5 ?_;refine za 6 ?_;refine za 7 ?_)
  refine cI 8 rfl rfl ?_
  refine cC rfl rfl (Gv.holds hs5 (fun w h=>iH h)) (fun r L' hp=>?_)
  obtain ⟨D6,rfl,hr6,rfl⟩:=hp
  refine ⟨iC,?_⟩
  (refine za 9 ?_;refine za 10 ?_;refine za 11 ?_;refine za 12 ?_;refine za 13 ?_)
  refine cD ?_
  refine kW ?_
  refine zf (X:=Nat × S6 × Value × Chunk × Chunk) (μ:=fun x=>x.1) (x:=(g+1,s3,.slice wa s4.out.length wc,C3,D3)) (g,s5,v5,C5,D6) (by simp only;omega) ⟨by simp only;omega,h5,by simp only;omega,hr5.1,ho5,hpl h5,hr6,hsl3⟩ iS (fun w h=>iH h)
 ·have hgo:=hgo (by omega)
  have h4:s4.e=0:=by omega
  rw [if_neg (show ¬s4.e≠0 by omega),if_neg (show ¬k < 256 by omega),if_neg (show ¬k=256 by omega)] at hsl3
  have hma:=zk2 p q pd most k (.slice wa s4.out.length wc) kn dl d s4 D3 E C3 Cd (csC pc pl pd::Cl::L) hr3 hl h4 hm hkn hov3 hol3 (by omega) (by omega) hC hk h15 h400
  have hmt:=hmt k
  generalize mtS d most k dl s4=s5 at hma hmt hsl3
  unfold rdR csC at hma
  refine cC rfl rfl (Gv.holds hma (fun w h=>iH h)) (fun r L' hp=>?_)
  rcases hp with ⟨h5,rfl,rfl⟩|⟨h5,rfl,v5,D5,C5,ho5,hl5,hr5,rfl⟩
  ·rw [zai h5] at hsl3
   subst hsl3
   (refine kW ?_;refine kV fun hc=>?_;refine kW ?_)
   refine kR ?_
   exact ⟨_,iC,.inl ⟨h5,rfl,rfl⟩⟩
  refine kW ?_
  refine zf (X:=Nat × S6 × Value × Chunk × Chunk) (μ:=fun x=>x.1) (x:=(f,s1,.slice va s1.out.length vc,C1,D1)) (g,s5,v5,C5,D5) (by simp only;omega) ⟨h5,by simp only;omega,ho5,hl5,hr5,hsl3⟩ iS (fun w h=>iH h)
 ·have h4:s4.e≠0:=by omega
  rw [if_pos h4] at hsl3
  subst hsl3
  refine kR ?_
  exact ⟨_,iC,.inl ⟨h4,rfl,rfl⟩⟩
end Go.Proofs.YtemdlifojcgplaaGreatDoor
namespace Go.Vx
section
variable [W0] {P : Program} {n : Nat} {M : List (Nat × Value)} {L : List Chunk} {d : Nat} {ty : TypeId} {ps : String} {af : Array Edge} {g : Option (Nat × Bool)} {x y : Operand} {K : List (Nat × Value) → List Chunk → Prop}
theorem XE {t u e k by_:Nat} {z:Value} {ku:IntKind} [hs:SL P t e k by_] [hz:ZV P e z] [hi:IK P u ku] {c:Nat} {kk:IntKind} (hx:ev M x=some (.slice none 0 0)) (hy:ev M y=some (.int kk (c:Int)))
 (hzk:z.cells.size=k) (hgrow:0 < c) (hb:c * by_≤140737488355328) (h63:c≤9223372036854775807)
 (hn:Nat.blt d n=true) (h:∀b cap rest,c≤cap→cap≤maxLen→rest.length=(cap - c) * k→K ((d,.slice (some ⟨b,0,none⟩) c cap)::M) ([(b,cl (zeros z.cells.toList c++rest) e)]::L)) :
 OW P n ⟨some d,.call ⟨.builtin .append,#[x,y],#[t,u]⟩,ty,ps,af,g⟩ K M L:=⟨fun a w next Q ha hw hk=>by
 obtain ⟨ht,i,hif,hik,hib,hk0⟩:=hs.parts
 subst hik hib
 have hzz:i.zero=some z:=by have:=hz.out;rw [hif] at this;simpa using this
 have hfit:=growslice_fits (need:=c) (old:=0) (bytes:=i.bytes) hgrow hb
 have hcap:=grownCap_ge w (0+c) 0 e
 have hcm:=grownCap_le_maxLen w (0+c) 0 e (by simp [maxLen];omega)
 have hz2:=wJ (z:=z.cells) (m:=c)
 have hz3:=wJ (z:=z.cells) (m:=grownCap w (0+c) 0 e - (0+c))
 have hc1:=wrap_i64 (r:=(c:Int)) (by omega) (by omega)
 have hcb:¬(281474976710656 < (c:Int) * (i.bytes:Int)):=by
  rw [←Int.natCast_mul];omega
 rw [Nat.zero_add] at hcap hcm hz3
 have hrun:(execOp a.eval ⟨some d,.call ⟨.builtin .append,#[x,y],#[t,u]⟩,ty,ps,af,g⟩).run P w=.ok (.value (.slice (some ⟨w.heap.size,0,none⟩) c (grownCap w c 0 e)))
  (w.drew.alloc (cl (zeros z.cells.toList c++zeros z.cells.toList (grownCap w c 0 e - c)) e)):=by
  have hne:¬(c≤0):=by omega
  have hne2:¬(c=0):=by omega
  have h63':¬(9223372036854775807 < (c:Int)):=by omega
  have h48':¬(281474976710656 < Builtin.nextslicecap c 0 * i.bytes):=by omega
  have hc0:¬((c:Int) < 0):=by omega
  simp only [execOp,resolve,invoke,builtin,Sem.run_bind,Sem.run_pure,Result.andThen_ok,List.map_toArray,List.map_cons,List.map_nil,ha.eval hx,ha.eval hy]
  simp [Builtin.append_,run_underlying ht,run_underlying hi.out,sizeOf,typeInfo,hif,asInt,asIntOf,hc1,hc0,hcb,hne2,h63',h48',Question.forced,Builtin.firstCells,newRow,vN hz.out]
  split
  ·rename_i h0
   have hcz:c=0:=by
    rcases Nat.mul_eq_zero.1 h0 with h|h
    ·exact h
    ·omega
   omega
  ·simp [uW,grownCap,cl]
 unfold Oper.wp
 rw [hrun,Oper.upon_value]
 have:=(hw.same (w':=w.drew) rfl rfl rfl).alloc (cl (zeros z.cells.toList c++zeros z.cells.toList (grownCap w c 0 e - c)) e)
 exact (hk _ _ (h w.heap.size _ _ hcap hcm (by rw [zeros_length];simp [hzk]))).out _ _ (ha.put _ hn) this⟩
end
end Go.Vx
namespace Go.Proofs.YtemdlifojcgplaaGreatDoor
open Go Go.Vx Go.Hf Go.If
variable [W0]
set_option maxRecDepth 4000
set_option linter.all false
theorem yN (n:Nat):zeros (Value.int .i64 0).cells.toList n=ivn (List.replicate n 0):=by
 induction n with
 |zero=>rfl
 |succ n ih=>rw [zeros,ih];simp [ivn,List.replicate_succ,Value.cells]
theorem X4 (a b:List Nat):ivn (a++b)=ivn a++ivn b:=by simp [ivn]
theorem vW (l:List Nat):yg (icn l)=ivn l:=by simp [yg,icn,ivn]
theorem zib (n:Nat) (L:List Chunk) (hn:n≤1000000):GvP Tryz.prog 275 [.int .u64 1,.int .u64 (n:Int)].toArray L (.tuple #[.int .u64 0,.int .u64 (n:Int)]):=by
 refine Gv.of_body Tryz.func275 rfl rfl ?_
 refine kW ?_
 refine ze (uM (k:=.u64) 1 32 rfl rfl rfl rfl rfl (by decide) (by decide)) rfl ?_
 rw [show ((1 % 2 ^ 32:Nat):Int)=1 from by decide]
 refine kW ?_
 rw [show (1:Int) / 4294967296=0 from by decide]
 refine ze (uM (k:=.u64) n 32 rfl rfl rfl rfl rfl (by simp only [IntKind.bits];omega) (by decide)) rfl ?_
 rw [show ((n % 2 ^ 32:Nat):Int)=n from by omega]
 refine kW ?_
 have e0:(n:Int) / 4294967296=0:=by omega
 have ez:(0:Int) / 4294967296=0:=by decide
 try rw [e0]
 refine ze (YS (k:=.u64) 1 n rfl rfl rfl rfl rfl (by simp only [IntKind.bits];omega)) rfl ?_
 rw [Nat.one_mul]
 refine kW ?_
 refine ze (YS (k:=.u64) 0 n rfl rfl rfl rfl rfl (by simp only [IntKind.bits];omega)) rfl ?_
 rw [Nat.zero_mul]
 refine kW ?_
 try rw [e0]
 refine ze (XB (k:=.u64) 0 0 rfl rfl rfl rfl rfl (by decide)) rfl ?_
 rw [Nat.zero_add]
 refine kW ?_
 refine ze (uM (k:=.u64) 0 32 rfl rfl rfl rfl rfl (by decide) (by decide)) rfl ?_
 rw [show (0 % 2 ^ 32:Nat)=0 from by decide]
 refine kW ?_
 try rw [show ((0:Nat):Int) / 4294967296=0 from by decide]
 try rw [ez]
 refine ze (YS (k:=.u64) 1 0 rfl rfl rfl rfl rfl (by decide)) rfl ?_
 rw [Nat.mul_zero]
 refine kW ?_
 refine ze (XB (k:=.u64) 0 0 rfl rfl rfl rfl rfl (by decide)) rfl ?_
 rw [Nat.zero_add]
 refine kW ?_
 refine ze (YS (k:=.u64) 0 0 rfl rfl rfl rfl rfl (by decide)) rfl ?_
 rw [Nat.mul_zero]
 refine kW ?_
 refine ze (XB (k:=.u64) 0 0 rfl rfl rfl rfl rfl (by decide)) rfl ?_
 rw [Nat.zero_add]
 refine kW ?_
 try rw [show ((0:Nat):Int) / 4294967296=0 from by decide]
 try rw [ez]
 refine ze (XB (k:=.u64) 0 0 rfl rfl rfl rfl rfl (by decide)) rfl ?_
 rw [Nat.zero_add]
 refine kW ?_
 refine ze (YS (k:=.u64) 1 n rfl rfl rfl rfl rfl (by simp only [IntKind.bits];omega)) rfl ?_
 rw [Nat.one_mul]
 refine kW ?_
 refine zT (rs:=[.tmp 4,.tmp 5]) (vs:=[.int .u64 0,.int .u64 (n:Int)]) rfl rfl ?_
 exact ⟨_,iC,rfl,rfl⟩
theorem zpL (n:Nat) (L:List Chunk) (hn:n≤1000000):GvP Tryz.prog 257 [.int .u64 1,.int .u64 (n:Int)].toArray L (.tuple #[.int .u64 0,.int .u64 (n:Int)]):=by
 refine Gv.of_body Tryz.func257 rfl rfl ?_
 have hm:=zib n L hn
 refine kW ?_
 refine cP rfl rfl hm ?_
 refine kW ?_
 refine kR ?_
 exact ⟨_,iC,rfl,rfl⟩
theorem zcp (n k m v:Nat) (h:k+m≤n):patch (ivn (List.replicate k v++List.replicate (n - k) 0)) k (ivn (List.replicate m v))=ivn (List.replicate (k+m) v++List.replicate (n - (k+m)) 0):=by
 unfold patch ivn
 rw [←List.map_take,←List.map_drop,←List.map_append,←List.map_append]
 congr 1
 simp only [List.length_map,List.length_replicate]
 rw [List.take_left' (by simp),List.drop_append,List.drop_replicate,List.drop_replicate,List.length_replicate,show k - (k+m)=0 from by omega,show n - k - (k+m - k)=n - (k+m) from by omega,List.replicate_append_replicate]
 rfl
theorem zbk (b v n:Nat) (L:List Chunk) (hf:Fnd L b (cl [.int .i64 (v:Int)] 3)) (h1:1≤n) (hn:n≤1000000) :
 Gv Tryz.prog 238 [.slice (some ⟨b,0,none⟩) 1 1,.int .i64 (n:Int)].toArray L (fun r L'=>∃C,L'=C::L∧Ow 3 1 r n (ivn (List.replicate n v)) C):=by
 refine Gv.of_body Tryz.func238 rfl rfl ?_
 have hm:=fun L=>zpL n L hn
 refine kW ?_
 refine cP rfl rfl (hm _) ?_
 (refine kW ?_;refine kV fun hc=>?_;refine kW ?_)
 refine zJ (m:=n) (c:=n) rfl rfl (by rfl) (Nat.le_refl _) (by omega) (by omega) rfl (fun c=>?_)
 rw [yN]
 refine kW ?_
 refine vR (sl:=1) (zs:=ivn [v]) (ivn (List.replicate 1 v++List.replicate (n - 1) 0)) rfl rfl (.inr ⟨_,_,rfl,zK.cl' (l:=ivn [v]) (off:=0) (Fnd.there hf) rfl,rfl⟩) (by rw [Nat.min_eq_left (by omega)];rfl) ?_ iU (by rw [Nat.min_eq_left (by omega)];simp [ivn];omega) rfl ?_
 ·rw [Nat.min_eq_left (by omega)]
  have:=zcp n 0 1 v (by omega)
  rw [show List.take (1 * 1) (ivn [v])=ivn [v] from rfl]
  simpa using this
 rw [Nat.min_eq_left (by omega)]
 refine kW ?_
 refine zn (X:=Nat) (fun k=>[(7,.slice (some ⟨c,0,none⟩) n n),(8,.int .i64 (k:Int))]) (fun k=>[(c,cl (ivn (List.replicate k v++List.replicate (n - k) 0)) 3)]::L)
  (fun k=>1≤k∧k≤n) (fun k=>n - k) 1 ⟨Nat.le_refl _,h1⟩ iS (fun w h=>h) ?_
 rintro k ⟨hk1,hk2⟩
 (repeat' first|refine kW ?_|refine kU fun bk=>?_|refine kV fun hc=>?_|refine kZ (fun hc=>?_) fun hc=>?_|fail)
 ·have hlen:(ivn (List.replicate k v++List.replicate (n - k) 0)).length=n:=by rw [zC];simp;omega
  have htk:List.take (min k (n - k) * 1) (ivn (List.replicate k v))=ivn (List.replicate (min k (n - k)) v):=by
   unfold ivn
   rw [←List.map_take,List.take_replicate,show min (min k (n - k) * 1) k=min k (n - k) from by omega]
  refine yO [] [] mixed ?_
  (refine za 0 ?_;refine za 1 ?_;refine za 2 ?_)
  refine cT 3 rfl rfl (yx (l:=k) (h:=n) rfl rfl rfl (by omega) (by omega) (by omega)) ?_
  (refine za 4 ?_;refine za 5 ?_)
  refine cT 6 rfl rfl (qE (h:=k) rfl rfl rfl (by omega)) ?_
  refine cI 7 rfl rfl ?_
  refine vR (sl:=k) (zs:=ivn (List.replicate k v)) (ivn (List.replicate (k+min k (n - k)) v++List.replicate (n - (k+min k (n - k))) 0)) rfl rfl (.inr ⟨_,_,rfl,zK.cl' (off:=0) Fnd.here ?_,by rw [zC];simp⟩) ?_ ?_ iU (by rw [hlen];omega) rfl ?_
  ·rw [zC,List.length_replicate,X4]
   unfold cut
   rw [List.drop_zero,List.take_left' (by rw [zC,List.length_replicate])]
  ·rw [htk]
   exact qM
  ·rw [←zcp n k (min k (n - k)) v (by omega),htk,Nat.mul_one]
  refine ⟨iC,?_⟩
  (refine za 8 ?_;refine za 9 ?_)
  refine cD ?_
  refine kW ?_
  refine zf (X:=Nat) (μ:=fun k=>n - k) (x:=k) (k+min k (n - k)) (by omega) ⟨by omega,by omega⟩ iS (fun w h=>h)
 ·obtain rfl:k=n:=by omega
  rw [show k - k=0 from by omega,List.replicate_zero,List.append_nil]
  refine kR ?_
  refine ⟨_,iC,_,rfl,.inr ⟨c,k,[],rfl,by rw [List.append_nil],by rw [zC];simp,by simp,Nat.le_refl _,by simp [maxLen];omega⟩⟩
theorem Qg (v n:Nat) (L:List Chunk) (h1:1≤n) (hn:n≤1000000) :
 Gv Tryz.prog 202 [.int .i64 (v:Int),.int .i64 (n:Int)].toArray L (fun r L'=>∃C,L'=C::L∧Ow 3 1 r n (ivn (List.replicate n v)) C):=by
 refine Gv.of_body Tryz.func202 rfl rfl ?_
 refine kW ?_
 refine zl (cs:=[.int .i64 (v:Int)]) rfl (by rfl) (by first|(simp [zA,patch,Value.cells,zeros];done)|(simp [zA,patch,Value.cells,zeros];rfl)) (by omega) rfl rfl (fun b=>?_)
 refine kW ?_
 refine cC rfl rfl (zbk b v n _ Fnd.here h1 hn) (fun r L' hp=>?_)
 obtain ⟨C,rfl,ho⟩:=hp
 refine kW ?_
 refine kR ?_
 exact ⟨_,iC,C,rfl,ho⟩
theorem zpr (n:Nat) (L:List Chunk) (h1:1≤n) (hn:n≤1000000) :
 Gv Tryz.prog 237 [.slice none 0 0,.int .i64 (n:Int)].toArray L (fun r L'=>∃C,L'=C::L∧Ow 3 1 r 0 (ivn []) C):=by
 refine Gv.of_body Tryz.func237 rfl rfl ?_
 (refine kW ?_;refine kV fun hc=>?_;refine kW ?_)
 refine ze (Yn rfl rfl rfl) rfl ?_
 refine kW ?_
 refine XE (c:=n) rfl rfl (by rfl) (by omega) (by omega) (by omega) rfl (fun b cap rest h2 h3 h4=>?_)
 refine kW ?_
 refine ze (qE (h:=0) rfl rfl rfl (by omega)) rfl ?_
 refine kW ?_
 refine kR ?_
 refine ⟨_,iC,_,rfl,.inr ⟨b,cap,_,rfl,by rfl,rfl,?_,Nat.zero_le _,h3⟩⟩
 show (zeros (Value.int .i64 0).cells.toList n++rest).length=_
 rw [List.length_append,yN,zC,List.length_replicate]
 omega
theorem zlF {L:List Chunk} {k m:Nat} {v:Value} {xs:List Value} (h:Sl L k v m xs):∃a c,v=.slice a m c:=by
 rcases h with ⟨c,rfl,rfl,_⟩|⟨a,c,rfl,_,_⟩
 ·exact ⟨_,_,rfl⟩
 ·exact ⟨_,_,rfl⟩
omit [W0] in
def ccL (ss:List (Value × List Nat)) (i:Nat):List Nat:=(ss.take i).flatMap (·.2)
theorem zd2 {ss:List (Value × List Nat)} {i:Nat} {x:Value × List Nat} (h:ss[i]? =some x):ccL ss (i+1)=ccL ss i++x.2:=by
 unfold ccL
 rw [List.take_add_one,h]
 simp [List.flatMap_append]
theorem zpd (ss:List (Value × List Nat)) (i:Nat):(ccL ss i).length≤(ccL ss ss.length).length:=by
 unfold ccL
 rw [List.take_length]
 conv=>rhs;rw [←List.take_append_drop i ss]
 rw [List.flatMap_append,List.length_append]
 omega
theorem zd6 (a:Option Addr) (c:Nat) (ss:List (Value × List Nat)) (L:List Chunk) (h:Sl L 1 (.slice a ss.length c) ss.length (ss.map (·.1))) (hs:∀x∈ss,Sl L 1 x.1 x.2.length (ivn x.2)) (hl:ss.length≤1000)
 (h1:1≤(ccL ss ss.length).length) (hn:(ccL ss ss.length).length≤1000000) :
 Gv Tryz.prog 201 [.slice a ss.length c].toArray L (fun r L'=>∃C,L'=C::L∧Ow 3 1 r (ccL ss ss.length).length (ivn (ccL ss ss.length)) C):=by
 refine Gv.of_body Tryz.func201 rfl rfl ?_
 have hle:=zpd ss
 refine kW ?_
 refine zn (X:=Nat) (fun i=>[(0,.slice a ss.length c),(3,.int .i64 ((ccL ss i).length:Int)),(9,.slice a ss.length c),(10,.int .i64 (ss.length:Int)),(11,.int .i64 (i:Int))]) (fun _=>L)
  (fun i=>i≤ss.length) (fun i=>ss.length - i) 0 (Nat.zero_le _) iS (fun w h=>h) ?_
 intro i hi
 (repeat' first|refine kW ?_|refine kU fun bk=>?_|refine kV fun hc=>?_|refine kZ (fun hc=>?_) fun hc=>?_|fail)
 ·have hlt:i < ss.length:=by omega
  obtain ⟨x,hx⟩:∃x,ss[i]? =some x:=⟨ss[i],List.getElem?_eq_getElem hlt⟩
  have hsx:=hs x (List.mem_of_getElem? hx)
  obtain ⟨xv,xl⟩:=x
  simp only at hsx
  have hsu:=zd2 hx
  have hle1:=hle (i+1)
  rw [hsu,List.length_append] at hle1
  simp only at hsu hle1
  obtain ⟨xa,xc,rfl⟩:=zlF hsx
  obtain ⟨b,off,cap,cc,T,fr,hve,hfn,hcell⟩:=yV h (k:=i) (u:=.slice xa xl.length xc) (by rw [List.getElem?_map,hx];rfl)
  injection hve with q1 q2 q3
  subst q1 q3
  clear q2
  refine ze (zi (j:=i) rfl rfl rfl hlt) rfl ?_
  refine kW ?_
  refine ze (zq rfl hfn hcell) rfl ?_
  refine kW ?_
  rw [←Int.natCast_add,←List.length_append,←hsu]
  refine zf (X:=Nat) (μ:=fun i=>ss.length - i) (x:=i) (i+1) (by omega) (by omega) iS (fun w h=>h)
 ·obtain rfl:i=ss.length:=by omega
  refine cC rfl rfl (zpr _ L h1 hn) (fun r L' hp=>?_)
  obtain ⟨C,rfl,ho⟩:=hp
  refine kW ?_
  refine zn (X:=Nat × Value × Chunk) (fun x=>[(6,x.2.1),(25,.slice a ss.length c),(26,.int .i64 (ss.length:Int)),(27,.int .i64 (x.1:Int))]) (fun x=>x.2.2::L)
   (fun x=>x.1≤ss.length∧Ow 3 1 x.2.1 (ccL ss x.1).length (ivn (ccL ss x.1)) x.2.2) (fun x=>ss.length - x.1) (0,r,C) ⟨Nat.zero_le _,ho⟩ iS (fun w h=>h) ?_
  rintro ⟨i,v,C1⟩ ⟨hi,hov⟩
  simp only at hi hov ⊢
  (repeat' first|refine kW ?_|refine kU fun bk=>?_|refine kV fun hc=>?_|refine kZ (fun hc=>?_) fun hc=>?_|fail)
  ·have hlt:i < ss.length:=by omega
   obtain ⟨x,hx⟩:∃x,ss[i]? =some x:=⟨ss[i],List.getElem?_eq_getElem hlt⟩
   have hsx:=hs x (List.mem_of_getElem? hx)
   obtain ⟨xv,xl⟩:=x
   simp only at hsx
   have hsu:=zd2 hx
   have hle1:=hle (i+1)
   rw [hsu,List.length_append] at hle1
   simp only at hsu hle1
   obtain ⟨xa,xc,rfl⟩:=zlF hsx
   obtain ⟨b,off,cap,cc,T,fr,hve,hfn,hcell⟩:=yV h (k:=i) (u:=.slice xa xl.length xc) (by rw [List.getElem?_map,hx];rfl)
   injection hve with q1 q2 q3
   subst q1 q3
   clear q2
   refine ze (zi (j:=i) rfl rfl rfl hlt) rfl ?_
   refine kW ?_
   refine ze (zq rfl hfn.there hcell) rfl ?_
   refine kW ?_
   refine zu rfl rfl hov (zm hsx) (by repeat (first|exact Zip.here _|apply Zip.there)) rfl qM (by omega) (by simp [maxLen];omega) rfl (fun v' C' ho' _ _=>?_)
   refine kW ?_
   rw [←List.length_append,←X4,←hsu] at ho'
   refine zf (X:=Nat × Value × Chunk) (μ:=fun x=>ss.length - x.1) (x:=(i,v,C1)) (i+1,v',C') (by simp only;omega) ⟨by simp only;omega,ho'⟩ iS (fun w h=>h)
  ·obtain rfl:i=ss.length:=by omega
   refine kR ?_
   exact ⟨_,iC,C1,rfl,hov⟩
omit [W0] in
def fxS (u1 u2 u3 u4:Value):List (Value × List Nat):=[(u1,List.replicate 144 8),(u2,List.replicate 112 9),(u3,List.replicate 24 7),(u4,List.replicate 8 8)]
theorem zoy (u1 u2 u3 u4:Value):ccL (fxS u1 u2 u3 u4) (fxS u1 u2 u3 u4).length=fxL:=by
 show (List.replicate 144 8++(List.replicate 112 9++(List.replicate 24 7++(List.replicate 8 8++[]))))=fxL
 decide
theorem zfv (u1 u2 u3 u4:Value):(ccL (fxS u1 u2 u3 u4) (fxS u1 u2 u3 u4).length).length=288:=by rw [zoy];decide
theorem Yu (L:List Chunk):Gv Tryz.prog 156 #[] L (fun r L'=>∃u v C D,r=.tuple #[u,v]∧L'=D::C::L∧Ow 3 1 u 288 (ivn fxL) C∧Ow 3 1 v 32 (ivn fxD) D):=by
 refine Gv.of_body (args:=[]) Tryz.func156 rfl rfl ?_
 refine kW ?_
 refine cC rfl rfl (Qg 8 144 L (by decide) (by decide)) (fun r L' hp=>?_)
 obtain ⟨C1,rfl,o1⟩:=hp
 obtain ⟨a1,c1,rfl⟩:=zM o1
 refine kW ?_
 refine cC rfl rfl (Qg 9 112 _ (by decide) (by decide)) (fun r L' hp=>?_)
 obtain ⟨C2,rfl,o2⟩:=hp
 obtain ⟨a2,c2,rfl⟩:=zM o2
 refine kW ?_
 refine cC rfl rfl (Qg 7 24 _ (by decide) (by decide)) (fun r L' hp=>?_)
 obtain ⟨C3,rfl,o3⟩:=hp
 obtain ⟨a3,c3,rfl⟩:=zM o3
 refine kW ?_
 refine cC rfl rfl (Qg 8 8 _ (by decide) (by decide)) (fun r L' hp=>?_)
 obtain ⟨C4,rfl,o4⟩:=hp
 obtain ⟨a4,c4,rfl⟩:=zM o4
 refine kW ?_
 refine zl (cs:=[.slice a1 144 c1,.slice a2 112 c2,.slice a3 24 c3,.slice a4 8 c4]) rfl (by rfl) (by first|(simp [zA,patch,Value.cells,zeros];done)|(simp [zA,patch,Value.cells,zeros];rfl)) (by omega) rfl rfl (fun b=>?_)
 refine kW ?_
 have hcc:=zd6 (some ⟨b,0,none⟩) 4 (fxS (.slice a1 144 c1) (.slice a2 112 c2) (.slice a3 24 c3) (.slice a4 8 c4))
  ([(b,cl [.slice a1 144 c1,.slice a2 112 c2,.slice a3 24 c3,.slice a4 8 c4] 154)]::C4::C3::C2::C1::L) (zF (c:=#[.slice a1 144 c1,.slice a2 112 c2,.slice a3 24 c3,.slice a4 8 c4]) Fnd.here rfl rfl)
  (by
    intro x hx
    simp only [fxS,List.mem_cons,List.not_mem_nil,or_false] at hx
    rcases hx with rfl|rfl|rfl|rfl
    ·exact zm (zm (zm (zm (qz o1))))
    ·exact zm (zm (zm (qz o2)))
    ·exact zm (zm (qz o3))
    ·exact zm (qz o4)) (by show 4≤1000;decide) (by rw [zfv];decide) (by rw [zfv];decide)
 rw [zfv,zoy] at hcc
 refine cC rfl rfl hcc (fun r L' hp=>?_)
 obtain ⟨C5,rfl,o5⟩:=hp
 refine kW ?_
 refine cC rfl rfl (Qg 5 32 _ (by decide) (by decide)) (fun r L' hp=>?_)
 obtain ⟨C6,rfl,o6⟩:=hp
 refine kW ?_
 refine kR ?_
 exact ⟨_,iC,_,_,C5,C6,rfl,rfl,o5,o6⟩
end Go.Proofs.YtemdlifojcgplaaGreatDoor
namespace Go.If
open Go.Vx Go.Hf
set_option linter.all false
theorem Qr:∀l:List Nat,kS l≤16384 * l.sum
 |[]=>by simp [kS]
 |x::r=>by
  have ih:=Qr r
  have h2:(if 0 < x then 2 ^ (15 - x) else 0)≤16384 * x:=by
   split
   ·have:2 ^ (15 - x)≤2 ^ 14:=Nat.pow_le_pow_right (by decide) (by omega)
    omega
   ·omega
  rw [List.sum_cons,kS]
  omega
theorem zg3:∀{l:List Nat} {x:Nat},x∈l→x≤l.sum
 |y::r,x,h=>by
  rw [List.sum_cons]
  rcases List.mem_cons.1 h with rfl|h
  ·omega
  ·have:=zg3 h;omega
theorem uU (l:List Nat):sgl l=decide (l.sum < 2):=by
 unfold sgl
 by_cases h:l.sum < 2
 ·rw [decide_eq_true h,Bool.and_true,List.all_eq_true]
  intro x hx
  have:=zg3 hx
  simp
  omega
 ·rw [decide_eq_false h,Bool.and_false]
end Go.If
namespace Go.Proofs.YtemdlifojcgplaaGreatDoor
open Go Go.Vx Go.Hf Go.If
variable [W0]
set_option maxRecDepth 4000
set_option linter.all false
theorem zdi {l:List Nat} (h:∀x∈l,x≤15):okL (icn l)=true:=by
 unfold okL icn
 rw [List.all_eq_true]
 intro x hx
 obtain ⟨y,hy,rfl⟩:=List.mem_map.1 hx
 have:=h y hy
 simp
 omega
theorem zaz {l:List Nat} (h:∀x∈l,x≤15):wgt (icn l)=(kS l:Int):=by unfold wgt;rw [if_pos (zdi h),Zi]
theorem ZW {l:List Nat} (h:∀x∈l,x≤15) (h4:l.length≤400) (hk:kS l≤32768):cdE (icn l)=0:=(Yq (by rw [zL];exact h4) (zdi h) (by rw [Zi];exact hk)).1
theorem Zf (a:Option Addr) (c:Nat) (l:List Nat) (L:List Chunk) (h:Sl L 1 (.slice a l.length c) l.length (ivn l)) (h15:∀x∈l,x≤15) (h4:l.length≤400) :
 Gv Tryz.prog 248 [.slice a l.length c].toArray L (fun r L'=>(kS l≠32768∧r=.tuple #[.pointer none,.int .i64 3]∧L'=L)∨
  (kS l=32768∧∃p C,r=.tuple #[.pointer (some ⟨p,0,none⟩),.int .i64 0]∧L'=C::L∧CoD l p C)):=by
 refine Gv.of_body Tryz.func248 rfl rfl ?_
 have hlen:(icn l).length=l.length:=zL l
 have hco:=zeg a c (icn l) L (by rw [hlen,vW];exact h) (by omega)
 have hnw:=zkc a c (icn l) L (by rw [hlen,vW];exact h) (by omega)
 rw [hlen,zaz h15] at hco
 rw [hlen,Zi] at hnw
 by_cases hk:kS l=32768
 ·rw [hk,show (((32768:Nat):Int) == 32768)=true from rfl] at hco
  have h0:=ZW h15 h4 (by omega)
  refine kW ?_
  refine cP rfl rfl hco ?_
  refine kW ?_
  refine cC rfl rfl hnw (fun r L' hp=>?_)
  rcases hp with ⟨h1,_⟩|⟨_,p,C,rfl,rfl,hc⟩
  ·exact absurd h0 h1
  refine kW ?_
  refine kR ?_
  exact ⟨_,iC,.inr ⟨hk,p,C,rfl,rfl,hc⟩⟩
 ·rw [show (((kS l:Nat):Int) == 32768)=false from by simpa using fun h=>hk (by omega)] at hco
  refine kW ?_
  refine cP rfl rfl hco ?_
  refine kW ?_
  refine zT (rs:=[.tmp 2,.tmp 3]) (vs:=[.pointer none,.int .i64 3]) rfl rfl ?_
  exact ⟨_,iC,.inl ⟨hk,rfl,rfl⟩⟩
theorem zaS (a:Option Addr) (c:Nat) (l:List Nat) (L:List Chunk) (h:Sl L 1 (.slice a l.length c) l.length (ivn l)) (h15:∀x∈l,x≤15) (h4:l.length≤400) :
 Gv Tryz.prog 249 [.slice a l.length c].toArray L (fun r L'=>(¬(kS l=32768∨sgl l=true)∧r=.tuple #[.pointer none,.int .i64 3]∧L'=L)∨
  ((kS l=32768∨sgl l=true)∧∃p C,r=.tuple #[.pointer (some ⟨p,0,none⟩),.int .i64 0]∧L'=C::L∧CoD l p C)):=by
 refine Gv.of_body Tryz.func249 rfl rfl ?_
 have hlen:(icn l).length=l.length:=zL l
 have hnw:=zkc a c (icn l) L (by rw [hlen,vW];exact h) (by omega)
 rw [hlen,Zi] at hnw
 have hcc:=Zf a c l L h h15 h4
 refine kW ?_
 refine zn (X:=Nat) (fun i=>[(0,.slice a l.length c),(4,.int .i64 (((l.take i).sum:Nat):Int)),(7,.slice a l.length c),(8,.int .i64 (l.length:Int)),(9,.int .i64 (i:Int))]) (fun _=>L)
  (fun i=>i≤l.length∧(l.take i).sum≤15 * i) (fun i=>l.length - i) 0 ⟨Nat.zero_le _,Nat.le_refl _⟩ iS (fun w h=>h) ?_
 rintro i ⟨hi,hsm⟩
 (repeat' first|refine kW ?_|refine kU fun bk=>?_|refine kV fun hc=>?_|refine kZ (fun hc=>?_) fun hc=>?_|fail)
 ·have hlt:i < l.length:=by omega
  obtain ⟨x,hx⟩:∃x,l[i]? =some x:=⟨l[i],List.getElem?_eq_getElem hlt⟩
  have hx15:=h15 x (List.mem_of_getElem? hx)
  have hsu:(l.take (i+1)).sum=(l.take i).sum+x:=by rw [List.take_add_one,hx];simp
  obtain ⟨b,off,cap,cc,T,fr,hve,hfn,hcell⟩:=yV h (yC hx)
  injection hve with q1 q2 q3
  subst q1 q3
  clear q2
  refine ze (zi (j:=i) rfl rfl rfl hlt) rfl ?_
  refine kW ?_
  refine ze (zq rfl hfn hcell) rfl ?_
  refine kW ?_
  rw [←Int.natCast_add,←hsu]
  refine zf (X:=Nat) (μ:=fun i=>l.length - i) (x:=i) (i+1) (by omega) ⟨by omega,by omega⟩ iS (fun w h=>h)
 ·obtain rfl:i=l.length:=by omega
  rw [List.take_length] at *
  refine cC rfl rfl hcc (fun r L' hp=>?_)
  have hsg:sgl l=false:=by rw [uU];simp;omega
  simp only [hsg,Bool.false_eq_true,or_false]
  rcases hp with ⟨h1,rfl,rfl⟩|⟨h1,p,C,rfl,rfl,hc⟩
  ·refine kW ?_
   refine zT (rs:=[.tmp 2,.tmp 3]) (vs:=[.pointer none,.int .i64 3]) rfl rfl ?_
   exact ⟨_,iC,.inl ⟨h1,rfl,rfl⟩⟩
  ·refine kW ?_
   refine kR ?_
   exact ⟨_,iC,.inr ⟨h1,p,C,rfl,rfl,hc⟩⟩
 ·obtain rfl:i=l.length:=by omega
  rw [List.take_length] at *
  have hsg:sgl l=true:=by rw [uU];simp;omega
  have hks:=Qr l
  have h0:=ZW h15 h4 (by omega)
  refine cC rfl rfl hnw (fun r L' hp=>?_)
  rcases hp with ⟨h1,_⟩|⟨_,p,C,rfl,rfl,hc⟩
  ·exact absurd h0 h1
  refine kW ?_
  refine kR ?_
  exact ⟨_,iC,.inr ⟨.inr hsg,p,C,rfl,rfl,hc⟩⟩
theorem zb1 (a a2:Option Addr) (c c2:Nat) (l dl:List Nat) (L:List Chunk) (h:Sl L 1 (.slice a l.length c) l.length (ivn l)) (h15:∀x∈l,x≤15) (h4:l.length≤400) (hd:Sl L 1 (.slice a2 dl.length c2) dl.length (ivn dl)) (hd15:∀x∈dl,x≤15) (hd4:dl.length≤400) :
 Gv Tryz.prog 222 [.slice a l.length c,.slice a2 dl.length c2].toArray L (fun r L'=>(¬(kS l=32768∧(kS dl=32768∨sgl dl=true))∧r=.tuple #[.pointer none,.int .i64 3]∧L'=L)∨
  ((kS l=32768∧(kS dl=32768∨sgl dl=true))∧∃p pl pd Cl Cd,r=.tuple #[.pointer (some ⟨p,0,none⟩),.int .i64 0]∧L'=csC p pl pd::Cl::Cd::L∧CoD l pl Cl∧CoD dl pd Cd)):=by
 refine Gv.of_body Tryz.func222 rfl rfl ?_
 have hcc:=Zf a c l L h h15 h4
 refine kW ?_
 refine cC rfl rfl hcc (fun r L' hp=>?_)
 rcases hp with ⟨h1,rfl,rfl⟩|⟨h1,pl,Cl,rfl,rfl,hcl⟩
 ·refine kW ?_
  refine zT (rs:=[.tmp 4,.tmp 5]) (vs:=[.pointer none,.int .i64 3]) rfl rfl ?_
  exact ⟨_,iC,.inl ⟨fun hh=>h1 hh.1,rfl,rfl⟩⟩
 have hdc:=zaS a2 c2 dl (Cl::L) (zm hd) hd15 hd4
 refine kW ?_
 refine cC rfl rfl hdc (fun r L' hp=>?_)
 rcases hp with ⟨h2,rfl,rfl⟩|⟨h2,pd,Cd,rfl,rfl,hcd⟩
 ·refine kW ?_
  refine zT (rs:=[.tmp 4,.tmp 5]) (vs:=[.pointer none,.int .i64 3]) rfl rfl ?_
  exact ⟨_,iC,.inl ⟨fun hh=>h2 hh.2,rfl,rfl⟩⟩
 (refine kW ?_;refine kU fun bk=>?_;refine kW ?_)
 refine zT (rs:=[.tmp 4,.tmp 5]) (vs:=[.pointer (some ⟨bk,0,none⟩),.int .i64 0]) rfl rfl ?_
 exact ⟨csC bk pl pd::Cl::Cd::L,iC,.inr ⟨⟨h1,h2⟩,bk,pl,pd,Cl,Cd,rfl,rfl,hcl,hcd⟩⟩
omit [W0] in
def KnD (kn:Value) (K:Chunk):Prop:=(kn=.pointer none∧K=[])∨∃pk pl pd Cl Cd,kn=.pointer (some ⟨pk,0,none⟩)∧K=csC pk pl pd++(Cl++Cd)∧CoD fxL pl Cl∧CoD fxD pd Cd
theorem KnD.one {kn:Value} {K:Chunk} (h:KnD kn K):kn.oneCell'=true:=by
 rcases h with ⟨rfl,_⟩|⟨pk,_,_,_,_,rfl,_⟩<;>rfl
theorem zjW:∀x∈fxL,x≤15:=by decide
theorem zjU:∀x∈fxD,x≤15:=by decide
theorem zjX:kS fxL=32768:=by decide
theorem zjV:kS fxD=32768:=by decide
theorem zgM:fxL.length=288:=by decide
theorem zgL:fxD.length=32:=by decide
theorem zk1 (p q most:Nat) (v kn:Value) (d:List UInt8) (s:S6) (D E C K:Chunk) (L:List Chunk) (h:RdN q d s.t D E) (hl:d.length≤140737488355328) (he:s.e=0) (hm:most≤1000000) (hkn:KnD kn K)
 (ho:Ow 5 1 v s.out.length (bsv s.out) C) (hom:s.out.length≤most) :
 Gv Tryz.prog 180 [.pointer (some ⟨p,0,none⟩)].toArray (rdR p q v most kn::D::E::C::K::L) (fun r L'=>
  ((cdC d most fxL fxD (8 * d.length+1) s).e≠0∧r=.int .i64 ((cdC d most fxL fxD (8 * d.length+1) s).e:Int)∧L'=L)∨
  ((cdC d most fxL fxD (8 * d.length+1) s).e=0∧r=.int .i64 0∧∃v' D' C' kn' K',KnD kn' K'∧Ow 5 1 v' (cdC d most fxL fxD (8 * d.length+1) s).out.length (bsv (cdC d most fxL fxD (8 * d.length+1) s).out) C'∧(cdC d most fxL fxD (8 * d.length+1) s).out.length≤most∧RdN q d (cdC d most fxL fxD (8 * d.length+1) s).t D' E∧
    L'=rdR p q v' most kn'::D'::E::C'::K'::L)):=by
 have hcd:=fun pc pl pd Cl Cd (hCl:CoD fxL pl Cl) (hCd:CoD fxD pd Cd)=>zey p q pc pl pd most v (.pointer (some ⟨pc,0,none⟩)) fxL fxD d s D E C Cl Cd L h hl he hm rfl ho hom hCl (by rw [zjX];decide) zjW (by decide) hCd (by rw [zjV];decide) zjU (by decide)
 generalize cdC d most fxL fxD (8 * d.length+1) s=R at hcd ⊢
 obtain ⟨va,vc,rfl⟩:=zM ho
 have hfin:∀(r:Value) (L':List Chunk) (pk pl pd:Nat) (Cl Cd:Chunk),CoD fxL pl Cl→CoD fxD pd Cd→((R.e≠0∧r=Value.int .i64 (R.e:Int)∧L'=L)∨(R.e=0∧r=.int .i64 0∧∃v' D' C',Ow 5 1 v' R.out.length (bsv R.out) C'∧R.out.length≤most∧RdN q d R.t D' E∧L'=rdR p q v' most (.pointer (some ⟨pk,0,none⟩))::D'::E::C'::csC pk pl pd::Cl::Cd::L))→
  ∃L2,(∀w,Holds w L'→Holds w L2)∧((R.e≠0∧r=Value.int .i64 (R.e:Int)∧L2=L)∨(R.e=0∧r=.int .i64 0∧∃v' D' C' kn' K',KnD kn' K'∧Ow 5 1 v' R.out.length (bsv R.out) C'∧R.out.length≤most∧RdN q d R.t D' E∧L2=rdR p q v' most kn'::D'::E::C'::K'::L)):=by
  intro r L' pk pl pd Cl Cd hCl hCd hp
  rcases hp with ⟨h1,rfl,e⟩|⟨h1,rfl,v',D',C',ho',hl',hr',rfl⟩
  ·exact ⟨L',fun w h=>h,.inl ⟨h1,rfl,e⟩⟩
  ·refine ⟨rdR p q v' most (.pointer (some ⟨pk,0,none⟩))::D'::E::C'::(csC pk pl pd++(Cl++Cd))::L,fun w h=>?_,.inr ⟨h1,rfl,v',D',C',_,_,.inr ⟨pk,pl,pd,Cl,Cd,rfl,rfl,hCl,hCd⟩,ho',hl',hr',rfl⟩⟩
   simpa [Holds,List.append_assoc] using h
 rcases hkn with ⟨rfl,rfl⟩|⟨pk,pl,pd,Cl,Cd,rfl,rfl,hCl,hCd⟩
 ·refine Gv.of_body Tryz.func180 rfl rfl ?_
  unfold rdR
  refine kW ?_
  refine cC rfl rfl (Yu _) (fun r L' hp=>?_)
  obtain ⟨u1,u2,C1,C2,rfl,rfl,o1,o2⟩:=hp
  obtain ⟨a1,c1,rfl⟩:=zM o1
  obtain ⟨a2,c2,rfl⟩:=zM o2
  refine kW ?_
  have hco:=zb1 a1 a2 c1 c2 fxL fxD (C2::C1::rdR p q (.slice va s.out.length vc) most (.pointer none)::D::E::C::[]::L) (by rw [zgM];exact zm (qz o1)) zjW (by decide) (by rw [zgL];exact qz o2) zjU (by decide)
  rw [zgM,zgL] at hco
  unfold rdR at hco
  refine cC rfl rfl hco (fun r L' hp=>?_)
  rcases hp with ⟨h1,_⟩|⟨_,pk,pl,pd,Cl,Cd,rfl,rfl,hCl,hCd⟩
  ·exact absurd ⟨zjX,.inl zjV⟩ h1
  have hcd:=hcd pk pl pd Cl Cd hCl hCd
  unfold rdR at hcd
  refine kW ?_
  refine cC rfl rfl (Gv.holds hcd (fun w h=>iH h)) (fun r L' hp=>?_)
  have hf:=hfin r L' pk pl pd Cl Cd hCl hCd hp
  obtain ⟨L2,hL2,hp2⟩:=hf
  refine kW ?_
  refine kH ?_
  exact ⟨L2,hL2,hp2⟩
 ·refine Gv.holds (L':=rdR p q (.slice va s.out.length vc) most (.pointer (some ⟨pk,0,none⟩))::D::E::C::csC pk pl pd::Cl::Cd::L) ?_ (fun w h=>by simpa [Holds,List.append_assoc] using h)
  refine Gv.of_body Tryz.func180 rfl rfl ?_
  have hcd:=hcd pk pl pd Cl Cd hCl hCd
  unfold rdR at hcd ⊢
  refine kW ?_
  refine cC rfl rfl hcd (fun r L' hp=>?_)
  have hf:=hfin r L' pk pl pd Cl Cd hCl hCd hp
  obtain ⟨L2,hL2,hp2⟩:=hf
  refine kW ?_
  refine kH ?_
  exact ⟨L2,hL2,hp2⟩
end Go.Proofs.YtemdlifojcgplaaGreatDoor
namespace Go.If
open Go.Vx Go.Hf
set_option linter.all false
def rpV (k:Nat) (l:List Nat):Nat:=if k=16 then l.getD (l.length - 1) 0 else if k=17∨k=18 then 0 else k
def rpS [W0] (d:List UInt8) (own:List Nat) (m:Nat) (s:S6) (l:List Nat):S6:=
 if (sy d s own).e≠0 then sy d s own
 else if (tk d (sy d s own) (rpB (sv d s own))).e≠0 then tk d (sy d s own) (rpB (sv d s own))
 else if (sv d s own=16∧l=[])∨m < l.length+(rpA (sv d s own)+tv d (sy d s own) (rpB (sv d s own))) then fl (tk d (sy d s own) (rpB (sv d s own))) 3
 else tk d (sy d s own) (rpB (sv d s own))
def rpL [W0] (d:List UInt8) (own:List Nat) (s:S6) (l:List Nat):List Nat:=l++List.replicate (rpA (sv d s own)+tv d (sy d s own) (rpB (sv d s own))) (rpV (sv d s own) l)
def lpS [W0] (d:List UInt8) (own:List Nat) (m:Nat):Nat→S6→List Nat→S6 × List Nat
 |0,s,l=>(s,l)
 |f+1,s,l=>if s.e=0∧l.length < m then (if (rpS d own m s l).e=0 then lpS d own m f (rpS d own m s l) (rpL d own s l) else (rpS d own m s l,l)) else (s,l)
def owS [W0] (d:List UInt8):Nat→Nat→S6→List Nat→S6 × List Nat
 |0,_,s,o=>(s,o)
 |k+1,i,s,o=>if (tk d s 3).e≠0 then (tk d s 3,o) else owS d k (i+1) (tk d s 3) (o.set (yY.getD i 0) (tv d s 3))
def lcS [W0] (d:List UInt8) (s:S6):S6 × List Nat:=
 if (tk d s 4).e≠0 then (tk d s 4,[])
 else if (owS d (4+tv d s 4) 0 (tk d s 4) (List.replicate 19 0)).1.e≠0 then owS d (4+tv d s 4) 0 (tk d s 4) (List.replicate 19 0)
 else if kS (owS d (4+tv d s 4) 0 (tk d s 4) (List.replicate 19 0)).2=32768 then owS d (4+tv d s 4) 0 (tk d s 4) (List.replicate 19 0)
 else (fl (owS d (4+tv d s 4) 0 (tk d s 4) (List.replicate 19 0)).1 3,[])
def dyK (n1:Nat) (q:S6 × List Nat):S6 × List Nat × Nat:=
 if q.2.getD 256 0≠0∧kS (q.2.take n1)=32768∧(kS (q.2.drop n1)=32768∨sgl (q.2.drop n1)=true) then (q.1,q.2,n1) else (fl q.1 3,[],0)
def dyT [W0] (d:List UInt8) (n1 n2:Nat) (s:S6):S6 × List Nat × Nat:=
 if (lcS d s).1.e≠0 then ((lcS d s).1,[],0)
 else if (lpS d (lcS d s).2 (n1+n2) (n1+n2) (lcS d s).1 []).1.e≠0 then ((lpS d (lcS d s).2 (n1+n2) (n1+n2) (lcS d s).1 []).1,[],0)
 else dyK n1 (lpS d (lcS d s).2 (n1+n2) (n1+n2) (lcS d s).1 [])
def dyS [W0] (d:List UInt8) (s:S6):S6 × List Nat × Nat:=
 if (tk d s 5).e≠0 then (tk d s 5,[],0)
 else if 29 < tv d s 5 then (fl (tk d s 5) 3,[],0)
 else if (tk d (tk d s 5) 5).e≠0 then (tk d (tk d s 5) 5,[],0)
 else if 29 < tv d (tk d s 5) 5 then (fl (tk d (tk d s 5) 5) 3,[],0)
 else dyT d (257+tv d s 5) (1+tv d (tk d s 5) 5) (tk d (tk d s 5) 5)
theorem fl3 {s:S6} (h:s.e=0) (k:Nat):(fl s k).e=k:=by rw [ZF,if_pos h]
theorem zex [W0] (d:List UInt8):∀k i s o,s.e=0→s.t≤8 * d.length→o.length=19→(∀x∈o,x≤7)→(owS d k i s o).2.length=19∧(∀x∈(owS d k i s o).2,x≤7)∧(owS d k i s o).1.out=s.out
 |0,i,s,o,he,ht,h1,h2=>⟨h1,h2,rfl⟩
 |k+1,i,s,o,he,ht,h1,h2=>by
  rw [owS]
  split
  ·exact ⟨h1,h2,yw _ _ _⟩
  ·rename_i h
   have h0:(tk d s 3).e=0:=by omega
   have hb:tv d s 3 < 2 ^ 3:=by
    unfold tv
    split
    ·exact Nat.mod_lt _ (by decide)
    ·decide
   have ht2:(tk d s 3).t≤8 * d.length:=by
    unfold tk
    split
    ·assumption
    ·rw [vU];exact ht
   have:=zex d k (i+1) (tk d s 3) (o.set (yY.getD i 0) (tv d s 3)) h0 ht2 (by rw [List.length_set];exact h1) (fun x hx=>by
    rcases List.mem_or_eq_of_mem_set hx with h|rfl
    ·exact h2 x h
    ·omega)
   exact ⟨this.1,this.2.1,by rw [this.2.2,yw]⟩
theorem zdw (k:Nat):1≤rpA k∧rpA k≤11:=by
 unfold rpA
 repeat' split
 all_goals omega
theorem zll (k:Nat):rpB k≤7:=by
 unfold rpB
 repeat' split
 all_goals omega
end Go.If
namespace Go.Proofs.YtemdlifojcgplaaGreatDoor
open Go Go.Vx Go.Hf Go.If
variable [W0]
set_option maxRecDepth 4000
set_option linter.all false
theorem zba (k:Nat) (a:Option Addr) (c:Nat) (l:List Nat) (L:List Chunk) (h:Sl L 1 (.slice a l.length c) l.length (ivn l)) (hk:k≤400) (hl:l.length≤1000) (h1:¬(k=16∧l=[])) :
 GvP Tryz.prog 273 [.int .i64 (k:Int),.slice a l.length c].toArray L (.int .i64 ((rpV k l:Nat):Int)):=by
 refine Gv.of_body Tryz.func273 rfl rfl ?_
 unfold rpV
 (repeat' first|refine kW ?_|refine kU fun bk=>?_|refine kV fun hc=>?_|refine kZ (fun hc=>?_) fun hc=>?_|fail)
 ·have h16:k=16:=by omega
  have hne:0 < l.length:=List.length_pos_iff.2 fun hh=>h1 ⟨h16,hh⟩
  rw [if_pos h16]
  obtain ⟨x,hx⟩:∃x,l[l.length - 1]? =some x:=⟨l[l.length - 1],List.getElem?_eq_getElem (by omega)⟩
  obtain ⟨b,off,cap,cc,T,fr,hve,hfn,hcell⟩:=yV h (yC hx)
  injection hve with q1 q2 q3
  subst q1 q3
  clear q2
  rw [show l.getD (l.length - 1) 0=x from by simp [List.getD,hx]]
  rw [show (l.length:Int) - 1=((l.length - 1:Nat):Int) from by omega]
  refine ze (zi (j:=l.length - 1) rfl rfl rfl (by omega)) rfl ?_
  refine kW ?_
  refine ze (zq rfl hfn hcell) rfl ?_
  refine kW ?_
  exact kE
 ·rw [if_neg (by omega),if_pos (by omega)]
  exact kE
 ·rw [if_neg (by omega),if_pos (by omega)]
  exact kE
 ·rw [if_neg (by omega),if_neg (by omega)]
  exact kE
theorem zpV (p q most k:Nat) (v kn:Value) (d:List UInt8) (s:S6) (D E:Chunk) (L:List Chunk) (h:RdN q d s.t D E) (hl:d.length≤140737488355328) (he:s.e=0) (hk:k≤400) :
 Gv Tryz.prog 272 [.pointer (some ⟨p,0,none⟩),.int .i64 (k:Int)].toArray (rdR p q v most kn::D::E::L) (fun r L'=>
  ((tk d s (rpB k)).e≠0∧r=.tuple #[.int .i64 0,.int .i64 ((tk d s (rpB k)).e:Int)]∧L'=L)∨
  ((tk d s (rpB k)).e=0∧r=.tuple #[.int .i64 ((rpA k+tv d s (rpB k):Nat):Int),.int .i64 0]∧∃D',RdN q d (tk d s (rpB k)).t D' E∧L'=rdR p q v most kn::D'::E::L)):=by
 refine Gv.of_body Tryz.func272 rfl rfl ?_
 have hb:rpA k≤11∧rpB k≤7:=by unfold rpA rpB;split<;>(try split)<;>(try split)<;>omega
 have hru:=zbq k (rdR p q v most kn::D::E::L) (by omega)
 have hpc:=ZJ p q most (rpB k) (rpA k) v kn d s D E L h hl (by omega) he (by omega)
 generalize rpA k=ra at hb hru hpc ⊢
 generalize rpB k=rb at hb hru hpc ⊢
 generalize tv d s rb=z at hpc ⊢
 generalize tk d s rb=s1 at hpc ⊢
 refine kW ?_
 refine cP rfl rfl hru ?_
 refine kW ?_
 refine cC rfl rfl hpc (fun r L' hp=>?_)
 rcases hp with ⟨h1,rfl,rfl⟩|⟨h1,rfl,D',hr,rfl⟩
 ·refine kW ?_
  refine kR ?_
  exact ⟨_,iC,.inl ⟨h1,rfl,rfl⟩⟩
 ·refine kW ?_
  refine kR ?_
  exact ⟨_,iC,.inr ⟨h1,rfl,D',hr,rfl⟩⟩
theorem zdc (p q most:Nat) (v kn:Value) (d:List UInt8) (s:S6) (D E:Chunk) (L:List Chunk) (h:RdN q d s.t D E) (hl:d.length≤140737488355328) (he:s.e=0) (hor:qQ L) :
 Gv Tryz.prog 271 [.pointer (some ⟨p,0,none⟩)].toArray (rdR p q v most kn::D::E::L) (fun r L'=>
  ((lcS d s).1.e≠0∧r=.tuple #[.pointer none,.int .i64 ((lcS d s).1.e:Int)]∧L'=L)∨
  ((lcS d s).1.e=0∧∃pc Co D',r=.tuple #[.pointer (some ⟨pc,0,none⟩),.int .i64 0]∧RdN q d (lcS d s).1.t D' E∧CoD (lcS d s).2 pc Co∧kS (lcS d s).2=32768∧(lcS d s).2.length=19∧(∀x∈(lcS d s).2,x≤7)∧(lcS d s).1.out=s.out∧L'=rdR p q v most kn::D'::E::Co::L)):=by
 refine Gv.of_body Tryz.func271 rfl rfl ?_
 have hc:=ZJ p q most 4 4 v kn d s D E L h hl (by decide) he (by decide)
 have hto:=yw d s 4
 have htv:=wU d s 4
 have htt:(tk d s 4).e=0→(tk d s 4).t≤8 * d.length:=fun h0=>by
  unfold tk at h0 ⊢
  split
  ·assumption
  ·rw [vU];exact h.1
 unfold lcS
 generalize tv d s 4=n at hc htv ⊢
 generalize tk d s 4=s1 at hc hto htt ⊢
 refine kW ?_
 refine cC rfl rfl hc (fun r L' hp=>?_)
 rcases hp with ⟨h1,rfl,rfl⟩|⟨h1,rfl,D1,hr1,rfl⟩
 ·rw [if_pos h1]
  (refine kW ?_;refine kV fun hc=>?_;refine kW ?_)
  refine zT (rs:=[.tmp 2,.tmp 3]) (vs:=[.pointer none,.int .i64 (s1.e:Int)]) rfl rfl ?_
  exact ⟨_,iC,.inl ⟨h1,rfl,rfl⟩⟩
 rw [if_neg (show ¬s1.e≠0 by omega)]
 have hfa:=zex d (4+n) 0 s1 (List.replicate 19 0) h1 (htt h1) (by simp) (by simp)
 generalize hR:owS d (4+n) 0 s1 (List.replicate 19 0)=R at hfa ⊢
 rw [hto] at hfa
 refine kW ?_
 refine zJ (m:=19) (c:=19) rfl rfl (by rfl) (by omega) (by omega) (by omega) rfl (fun b=>?_)
 rw [yN]
 refine kW ?_
 unfold rdR
 refine zn (X:=Nat × S6 × List Nat × Chunk) (fun x=>[(0,.pointer (some ⟨p,0,none⟩)),(6,.slice (some ⟨b,0,none⟩) 19 19),(19,.int .i64 ((4+n:Nat):Int)),(20,.int .i64 (x.1:Int))]) (fun x=>[(b,cl (ivn x.2.2.1) 3)]::rdR p q v most kn::x.2.2.2::E::L)
  (fun x=>x.1≤4+n∧x.2.1.e=0∧RdN q d x.2.1.t x.2.2.2 E∧x.2.2.1.length=19∧owS d (4+n - x.1) x.1 x.2.1 x.2.2.1=R) (fun x=>4+n - x.1) (0,s1,List.replicate 19 0,D1) ⟨Nat.zero_le _,h1,hr1,by simp,hR⟩ iS (fun w h=>h) ?_
 rintro ⟨i,s5,o,D5⟩ ⟨hi,he5,hr5,hol,hsl⟩
 simp only at hi he5 hr5 hol hsl ⊢
 (repeat' first|refine kW ?_|refine kU fun bk=>?_|refine kV fun hc=>?_|refine kZ (fun hc=>?_) fun hc=>?_|fail)
 ·obtain ⟨k2,hk2⟩:∃k2,4+n - i=k2+1:=⟨4+n - i - 1,by omega⟩
  have hk3:4+n - (i+1)=k2:=by omega
  have htk:=Y7 p q most 3 v kn d s5 D5 E ([(b,cl (ivn o) 3)]::L) hr5 hl (by decide) he5
  rw [hk2,owS] at hsl
  generalize tv d s5 3=z at htk hsl
  generalize tk d s5 3=s6 at htk hsl
  refine cC rfl rfl (Gv.holds htk (fun w h=>iH h)) (fun r L' hp=>?_)
  rcases hp with ⟨h6,rfl,rfl⟩|⟨h6,rfl,D6,hr6,rfl⟩
  ·rw [if_pos h6] at hsl
   subst hsl
   rw [if_pos (by exact h6)]
   (refine kW ?_;refine kV fun hc=>?_;refine kW ?_)
   refine zT (rs:=[.tmp 2,.tmp 3]) (vs:=[.pointer none,.int .i64 (s6.e:Int)]) rfl rfl ?_
   exact ⟨_,iC,.inl ⟨h6,rfl,rfl⟩⟩
  rw [if_neg (show ¬s6.e≠0 by omega)] at hsl
  have ho19:yY.getD i 0 < 19:=by
   have:∀j,j < 19→yY.getD j 0 < 19:=by decide
   exact this i (by omega)
  have hord:=zbp i ([(b,cl (ivn o) 3)]::rdR p q v most kn::D6::E::L) hor.there.there.there.there (by omega)
  unfold rdR at hord
  generalize yY.getD i 0=oi at hsl ho19 hord
  refine kW ?_
  refine cP rfl rfl (GvP.of hord iC iC) ?_
  refine kW ?_
  refine ze (zi (j:=oi) rfl rfl rfl (by omega)) rfl ?_
  refine kW ?_
  have hse:(ivn o).set (0+oi * 1) (.int .i64 (z:Int))=ivn (o.set oi z):=by simp [ivn,List.map_set]
  refine zG (ivn (o.set oi z)) rfl rfl rfl hse iU (by rw [zC];omega) ?_
  refine kW ?_
  refine zf (X:=Nat × S6 × List Nat × Chunk) (μ:=fun x=>4+n - x.1) (x:=(i,s5,o,D5)) (i+1,s6,o.set oi z,D6) (by simp only;omega) ⟨by simp only;omega,h6,hr6,by simp only [List.length_set];exact hol,by simp only;rw [hk3];exact hsl⟩ iS (fun w h=>iH h)
 ·obtain rfl:i=4+n:=by omega
  rw [show 4+n - (4+n)=0 from by omega,owS] at hsl
  subst hsl
  simp only at hfa
  rw [if_neg (show ¬(s5,o).1.e≠0 from fun hh=>hh he5)]
  have hcc:=Zf (some ⟨b,0,none⟩) 19 o ([(b,cl (ivn o) 3)]::rdR p q v most kn::D5::E::L) (by rw [hol];exact zF (c:=(ivn o).toArray) Fnd.here (by rw [zC,hol]) (by simp)) (fun x hx=>by have:=hfa.2.1 x hx;omega) (by omega)
  rw [hol] at hcc
  unfold rdR at hcc
  refine cC rfl rfl hcc (fun r L' hp=>?_)
  rcases hp with ⟨h7,rfl,rfl⟩|⟨h7,pc,Co,rfl,rfl,hco⟩
  ·rw [if_neg (by exact h7)]
   simp only [fl3 he5]
   refine kW ?_
   refine kR ?_
   exact ⟨_,iC,.inl ⟨by decide,rfl,rfl⟩⟩
  ·rw [if_pos (by exact h7)]
   refine kW ?_
   refine kR ?_
   exact ⟨_,iC,.inr ⟨he5,pc,Co,D5,rfl,hr5,hco,h7,hfa.1,hfa.2.1,hfa.2.2,rfl⟩⟩
end Go.Proofs.YtemdlifojcgplaaGreatDoor
namespace Go.Hf
open Go.Vx
set_option linter.all false
theorem zhn {l:List Nat} (hl:0 < l.length) (w t z:Nat):∀f n,(rdS l w t z f n).1 < l.length
 |0,n=>by simpa [rdS] using hl
 |f+1,n=>by
  have ih:=zhn hl w t z f (n+1)
  unfold rdS
  split
  ·rename_i i h
   exact (zeY h).1
  ·split
   ·exact hl
   ·split
    ·exact hl
    ·exact ih
end Go.Hf
namespace Go.If
open Go.Vx Go.Hf
set_option linter.all false
theorem zlO [W0] (d:List UInt8) (s:S6) {l:List Nat} (h:0 < l.length):sv d s l < l.length:=by
 unfold sv
 split
 ·exact zhn h _ _ _ _ _
 ·exact h
theorem zlm {k:Nat} {l:List Nat} (hk:k < 19) (h:∀x∈l,x≤15):rpV k l≤15:=by
 unfold rpV
 split
 ·by_cases hl:l.length - 1 < l.length
  ·rw [show l.getD (l.length - 1) 0=l[l.length - 1] from by simp [List.getD,hl]]
   exact h _ (List.getElem_mem hl)
  ·rw [show l.getD (l.length - 1) 0=0 from by simp [List.getD,List.getElem?_eq_none (Nat.le_of_not_lt hl)]]
   omega
 ·split
  ·omega
  ·omega
def lgS [W0] (d:List UInt8) (m:Nat) (s:S6):S6 × List Nat:=if (lcS d s).1.e≠0 then ((lcS d s).1,[]) else lpS d (lcS d s).2 m m (lcS d s).1 []
theorem zc1 [W0] (d:List UInt8) (n1 n2:Nat) (s:S6):dyT d n1 n2 s=if (lgS d (n1+n2) s).1.e≠0 then ((lgS d (n1+n2) s).1,[],0) else dyK n1 (lgS d (n1+n2) s):=by
 unfold dyT lgS
 by_cases h:(lcS d s).1.e≠0
 ·simp only [if_pos h]
 ·simp only [if_neg h]
end Go.If
namespace Go.Proofs.YtemdlifojcgplaaGreatDoor
open Go Go.Vx Go.Hf Go.If
variable [W0]
set_option maxRecDepth 4000
set_option linter.all false
theorem zfU (p q most m:Nat) (v kn:Value) (d:List UInt8) (s:S6) (D E:Chunk) (L:List Chunk) (h:RdN q d s.t D E) (hl:d.length≤140737488355328) (he:s.e=0) (hor:qQ L) (hm:m≤400) :
 Gv Tryz.prog 253 [.pointer (some ⟨p,0,none⟩),.int .i64 (m:Int)].toArray (rdR p q v most kn::D::E::L) (fun r L'=>
  ((lgS d m s).1.e≠0∧r=.tuple #[.slice none 0 0,.int .i64 ((lgS d m s).1.e:Int)]∧L'=L)∨
  ((lgS d m s).1.e=0∧∃u Cq D',r=.tuple #[u,.int .i64 0]∧RdN q d (lgS d m s).1.t D' E∧Ow 3 1 u m (ivn (lgS d m s).2) Cq∧(lgS d m s).2.length=m∧(∀x∈(lgS d m s).2,x≤15)∧(lgS d m s).1.out=s.out∧L'=Cq::rdR p q v most kn::D'::E::L)):=by
 refine Gv.of_body Tryz.func253 rfl rfl ?_
 have hlc:=zdc p q most v kn d s D E L h hl he hor
 unfold lgS
 generalize lcS d s=S at hlc ⊢
 obtain ⟨S1,own⟩:=S
 simp only at hlc ⊢
 refine kW ?_
 refine cC rfl rfl hlc (fun r L' hp=>?_)
 rcases hp with ⟨h1,rfl,rfl⟩|⟨h1,pc,Co,D1,rfl,hr1,hco,hks,hol,ho7,hout,rfl⟩
 ·rw [if_pos h1]
  (refine kW ?_;refine kV fun hc=>?_;refine kW ?_)
  refine zT (rs:=[.tmp 4,.tmp 5]) (vs:=[.slice none 0 0,.int .i64 (S1.e:Int)]) rfl rfl ?_
  exact ⟨_,iC,.inl ⟨h1,rfl,rfl⟩⟩
 rw [if_neg (show ¬S1.e≠0 by omega)]
 generalize hQ:lpS d own m m S1 []=Q
 obtain ⟨q1,q2⟩:=Q
 simp only
 unfold rdR
 refine kW ?_
 refine zn (X:=Nat × S6 × List Nat × Value × Chunk × Chunk) (fun x=>[(0,.pointer (some ⟨p,0,none⟩)),(1,.int .i64 (m:Int)),(6,.pointer (some ⟨pc,0,none⟩)),(8,x.2.2.2.1)]) (fun x=>x.2.2.2.2.1::rdR p q v most kn::x.2.2.2.2.2::E::Co::L)
  (fun x=>x.2.1.e=0∧x.2.2.1.length≤m∧m≤x.1+x.2.2.1.length∧(∀y∈x.2.2.1,y≤15)∧Ow 3 1 x.2.2.2.1 x.2.2.1.length (ivn x.2.2.1) x.2.2.2.2.1∧RdN q d x.2.1.t x.2.2.2.2.2 E∧x.2.1.out=S1.out∧lpS d own m x.1 x.2.1 x.2.2.1=(q1,q2)) (fun x=>x.1)
  (m,S1,[],.slice none 0 0,[],D1) ⟨h1,Nat.zero_le _,by simp,by simp,.inl ⟨rfl,rfl,rfl,rfl⟩,hr1,rfl,hQ⟩ iS (fun w h=>Holds.nil.2 h) ?_
 rintro ⟨f,s5,l,u,Cq,D5⟩ ⟨he5,hlm,hf,hl15,hou,hr5,hout5,hsl⟩
 simp only at he5 hlm hf hl15 hou hr5 hout5 hsl ⊢
 obtain ⟨ua,uc,rfl⟩:=zM hou
 unfold rdR
 (repeat' first|refine kW ?_|refine kU fun bk=>?_|refine kV fun hc=>?_|refine kZ (fun hc=>?_) fun hc=>?_|fail)
 ·have hlt:l.length < m:=by omega
  obtain ⟨g,rfl⟩:∃z,f=z+1:=⟨f - 1,by omega⟩
  rw [lpS,if_pos ⟨he5,hlt⟩] at hsl
  have hsy:=zfV q pc own d s5 D5 E Co (Cq::rdR p q v most kn::L) hr5 hl he5 hco (by omega) (fun x hx=>by have:=ho7 x hx;omega) (by omega)
  have hk19:=zlO d s5 (l:=own) (by omega)
  have hso:=zbu d s5 own
  unfold rpS rpL at hsl
  generalize sv d s5 own=k at hsy hk19 hsl
  generalize sy d s5 own=s6 at hsy hso hsl
  unfold rdR at hsy
  refine cC rfl rfl (Gv.holds hsy (fun w h=>iH h)) (fun r L' hp=>?_)
  obtain ⟨D6,rfl,hr6,rfl⟩:=hp
  (repeat' first|refine kW ?_|refine kU fun bk=>?_|refine kV fun hc=>?_|refine kZ (fun hc=>?_) fun hc=>?_|fail)
  ·have h6:s6.e≠0:=by omega
   rw [if_pos h6,if_neg h6] at hsl
   injection hsl with e1 e2
   subst e1 e2
   refine zT (rs:=[.tmp 4,.tmp 5]) (vs:=[.slice none 0 0,.int .i64 (s6.e:Int)]) rfl rfl ?_
   exact ⟨_,iC,.inl ⟨h6,rfl,rfl⟩⟩
  have h6:s6.e=0:=by omega
  rw [if_neg (show ¬s6.e≠0 by omega)] at hsl
  have hrun:=zpV p q most k v kn d s6 D6 E (Co::Cq::L) hr6 hl h6 (by omega)
  have hto:=yw d s6 (rpB k)
  have htv:=wU d s6 (rpB k)
  have hpw:2 ^ rpB k≤2 ^ 7:=Nat.pow_le_pow_right (by decide) (zll k)
  have hra:=zdw k
  have hrv:=zlm (l:=l) (k:=k) (by omega) hl15
  obtain ⟨n,hn⟩:∃n,n=rpA k+tv d s6 (rpB k):=⟨_,rfl⟩
  rw [←hn] at hrun hsl
  have hn1:1≤n∧n≤140:=by omega
  generalize tk d s6 (rpB k)=s7 at hrun hto hsl
  unfold rdR at hrun
  refine cC rfl rfl (Gv.holds hrun (fun w h=>iH h)) (fun r L' hp=>?_)
  rcases hp with ⟨h7,rfl,rfl⟩|⟨h7,rfl,D7,hr7,rfl⟩
  ·rw [if_pos h7,if_neg h7] at hsl
   injection hsl with e1 e2
   subst e1 e2
   (refine kW ?_;refine kV fun hc=>?_;refine kW ?_)
   refine zT (rs:=[.tmp 4,.tmp 5]) (vs:=[.slice none 0 0,.int .i64 (s7.e:Int)]) rfl rfl ?_
   exact ⟨_,iC,.inl ⟨h7,rfl,rfl⟩⟩
  rw [if_neg (show ¬s7.e≠0 by omega)] at hsl
  have hbad:(k=16∧l=[])∨m < l.length+n→q1.e=3:=by
   intro hb
   rw [if_pos hb,if_neg (by rw [fl3 h7];decide)] at hsl
   injection hsl with e1 e2
   rw [←e1,fl3 h7]
  have hne:l.length=0↔l=[]:=List.length_eq_zero_iff
  (repeat' first|refine kW ?_|refine kU fun bk=>?_|refine kV fun hc=>?_|refine kZ (fun hc=>?_) fun hc=>?_|fail)
  ·rw [hbad (.inl ⟨by omega,hne.1 (by omega)⟩)]
   refine zT (rs:=[.tmp 4,.tmp 5]) (vs:=[.slice none 0 0,.int .i64 3]) rfl rfl ?_
   exact ⟨_,iC,.inl ⟨by decide,rfl,rfl⟩⟩
  ·rw [hbad (.inr (by omega))]
   refine zT (rs:=[.tmp 4,.tmp 5]) (vs:=[.slice none 0 0,.int .i64 3]) rfl rfl ?_
   exact ⟨_,iC,.inl ⟨by decide,rfl,rfl⟩⟩
  ·have hg:¬((k=16∧l=[])∨m < l.length+n):=by
    rintro (⟨h1,h2⟩|h2)
    ·have:=hne.2 h2;omega
    ·omega
   rw [if_neg hg,if_pos h7] at hsl
   have hlo:=zba k ua uc l (rdR p q v most kn::D7::E::Co::Cq::L) (zm (zm (zm (zm (qz hou))))) (by omega) (by omega) (fun hh=>hg (.inl hh))
   unfold rdR at hlo
   generalize rpV k l=rv at hlo hrv hsl
   refine cP rfl rfl hlo ?_
   refine kW ?_
   refine zl (cs:=[.int .i64 (rv:Int)]) rfl (by rfl) (by first|(simp [zA,patch,Value.cells,zeros];done)|(simp [zA,patch,Value.cells,zeros];rfl)) (by omega) rfl rfl (fun b=>?_)
   refine kW ?_
   refine cC rfl rfl (zbk b rv n _ Fnd.here hn1.1 (by omega)) (fun r L' hp=>?_)
   obtain ⟨Ct,rfl,hot⟩:=hp
   refine kW ?_
   refine zu rfl rfl hou (qz hot) (by repeat (first|exact Zip.here _|apply Zip.there)) rfl qM (by omega) (by simp [maxLen];omega) rfl (fun v' C' ho' _ _=>?_)
   rw [←X4] at ho'
   refine kW ?_
   refine zf (X:=Nat × S6 × List Nat × Value × Chunk × Chunk) (μ:=fun x=>x.1) (x:=(g+1,s5,l,.slice ua l.length uc,Cq,D5)) (g,s7,l++List.replicate n rv,v',C',D7) (by simp only;omega) ⟨h7,by simp;omega,by simp;omega,fun y hy=>?_,by simpa using ho',hr7,by rw [hto,hso,hout5],hsl⟩ iS (fun w h=>iH h)
   rcases List.mem_append.1 hy with hy|hy
   ·exact hl15 y hy
   ·rw [List.eq_of_mem_replicate hy];exact hrv
  ·rw [hbad (.inr (by omega))]
   refine zT (rs:=[.tmp 4,.tmp 5]) (vs:=[.slice none 0 0,.int .i64 3]) rfl rfl ?_
   exact ⟨_,iC,.inl ⟨by decide,rfl,rfl⟩⟩
  ·have hg:¬((k=16∧l=[])∨m < l.length+n):=by
    rintro (⟨h1,h2⟩|h2)
    ·have:=hne.2 h2;omega
    ·omega
   rw [if_neg hg,if_pos h7] at hsl
   have hlo:=zba k ua uc l (rdR p q v most kn::D7::E::Co::Cq::L) (zm (zm (zm (zm (qz hou))))) (by omega) (by omega) (fun hh=>hg (.inl hh))
   unfold rdR at hlo
   generalize rpV k l=rv at hlo hrv hsl
   refine cP rfl rfl hlo ?_
   refine kW ?_
   refine zl (cs:=[.int .i64 (rv:Int)]) rfl (by rfl) (by first|(simp [zA,patch,Value.cells,zeros];done)|(simp [zA,patch,Value.cells,zeros];rfl)) (by omega) rfl rfl (fun b=>?_)
   refine kW ?_
   refine cC rfl rfl (zbk b rv n _ Fnd.here hn1.1 (by omega)) (fun r L' hp=>?_)
   obtain ⟨Ct,rfl,hot⟩:=hp
   refine kW ?_
   refine zu rfl rfl hou (qz hot) (by repeat (first|exact Zip.here _|apply Zip.there)) rfl qM (by omega) (by simp [maxLen];omega) rfl (fun v' C' ho' _ _=>?_)
   rw [←X4] at ho'
   refine kW ?_
   refine zf (X:=Nat × S6 × List Nat × Value × Chunk × Chunk) (μ:=fun x=>x.1) (x:=(g+1,s5,l,.slice ua l.length uc,Cq,D5)) (g,s7,l++List.replicate n rv,v',C',D7) (by simp only;omega) ⟨h7,by simp;omega,by simp;omega,fun y hy=>?_,by simpa using ho',hr7,by rw [hto,hso,hout5],hsl⟩ iS (fun w h=>iH h)
   rcases List.mem_append.1 hy with hy|hy
   ·exact hl15 y hy
   ·rw [List.eq_of_mem_replicate hy];exact hrv
 ·have hlt:l.length=m:=by omega
  have hq:lpS d own m f s5 l=(s5,l):=by
   cases f with
   |zero=>rfl
   |succ f=>rw [lpS,if_neg (fun hh=>by omega)]
  rw [hq] at hsl
  injection hsl with e1 e2
  subst e1 e2
  rw [hlt] at hou
  rw [hlt]
  refine kR ?_
  exact ⟨_,iC,.inr ⟨he5,_,Cq,D5,rfl,hr5,hou,(by first|exact hlt|rfl),hl15,by rw [hout5,hout],rfl⟩⟩
end Go.Proofs.YtemdlifojcgplaaGreatDoor
namespace Go.If
open Go.Vx Go.Hf
set_option linter.all false
def dbS [W0] (d:List UInt8) (most:Nat) (s:S6):S6:=
 if (dyS d s).1.e≠0 then (dyS d s).1 else cdC d most ((dyS d s).2.1.take (dyS d s).2.2) ((dyS d s).2.1.drop (dyS d s).2.2) (8 * d.length+1) (dyS d s).1
end Go.If
namespace Go.Proofs.YtemdlifojcgplaaGreatDoor
open Go Go.Vx Go.Hf Go.If
variable [W0]
set_option maxRecDepth 4000
set_option linter.all false
theorem zmT (p q most:Nat) (v kn:Value) (d:List UInt8) (s:S6) (D E:Chunk) (L:List Chunk) (h:RdN q d s.t D E) (hl:d.length≤140737488355328) (he:s.e=0) (hor:qQ L) :
 Gv Tryz.prog 224 [.pointer (some ⟨p,0,none⟩)].toArray (rdR p q v most kn::D::E::L) (fun r L'=>
  ((dyS d s).1.e≠0∧r=.tuple #[.pointer none,.int .i64 ((dyS d s).1.e:Int)]∧L'=L)∨
  ((dyS d s).1.e=0∧∃pc pl pd Cl Cd D' l dl,r=.tuple #[.pointer (some ⟨pc,0,none⟩),.int .i64 0]∧l=(dyS d s).2.1.take (dyS d s).2.2∧dl=(dyS d s).2.1.drop (dyS d s).2.2∧RdN q d (dyS d s).1.t D' E∧CoD l pl Cl∧CoD dl pd Cd∧kS l≤32768∧(∀x∈l,x≤15)∧l.length≤400∧kS dl≤32768∧(∀x∈dl,x≤15)∧dl.length≤400∧
    (dyS d s).1.out=s.out∧L'=csC pc pl pd::Cl::Cd::rdR p q v most kn::D'::E::L)):=by
 refine Gv.of_body Tryz.func224 rfl rfl ?_
 have hc1:=ZJ p q most 5 257 v kn d s D E L h hl (by decide) he (by decide)
 have htv:=wU d s 5
 have hto:=yw d s 5
 unfold dyS
 generalize tv d s 5=z1 at hc1 htv ⊢
 generalize tk d s 5=s1 at hc1 hto ⊢
 refine kW ?_
 refine cC rfl rfl hc1 (fun r L' hp=>?_)
 rcases hp with ⟨h1,rfl,rfl⟩|⟨h1,rfl,D1,hr1,rfl⟩
 ·rw [if_pos h1]
  (refine kW ?_;refine kV fun hc=>?_;refine kW ?_)
  refine zT (rs:=[.tmp 2,.tmp 3]) (vs:=[.pointer none,.int .i64 (s1.e:Int)]) rfl rfl ?_
  exact ⟨_,iC,.inl ⟨h1,rfl,rfl⟩⟩
 rw [if_neg (show ¬s1.e≠0 by omega)]
 have hc2:=ZJ p q most 5 1 v kn d s1 D1 E L hr1 hl (by decide) h1 (by decide)
 have htv2:=wU d s1 5
 have hto2:=yw d s1 5
 generalize tv d s1 5=z2 at hc2 htv2 ⊢
 generalize tk d s1 5=s2 at hc2 hto2 ⊢
 (repeat' first|refine kW ?_|refine kU fun bk=>?_|refine kV fun hc=>?_|refine kZ (fun hc=>?_) fun hc=>?_|fail)
 ·rw [if_pos (show 29 < z1 by omega)]
  simp only [fl3 h1]
  refine zT (rs:=[.tmp 2,.tmp 3]) (vs:=[.pointer none,.int .i64 3]) rfl rfl ?_
  exact ⟨_,iC,.inl ⟨by decide,rfl,rfl⟩⟩
 rw [if_neg (show ¬29 < z1 by omega)]
 refine cC rfl rfl hc2 (fun r L' hp=>?_)
 rcases hp with ⟨h2,rfl,rfl⟩|⟨h2,rfl,D2,hr2,rfl⟩
 ·rw [if_pos h2]
  (refine kW ?_;refine kV fun hc=>?_;refine kW ?_)
  refine zT (rs:=[.tmp 2,.tmp 3]) (vs:=[.pointer none,.int .i64 (s2.e:Int)]) rfl rfl ?_
  exact ⟨_,iC,.inl ⟨h2,rfl,rfl⟩⟩
 rw [if_neg (show ¬s2.e≠0 by omega)]
 (repeat' first|refine kW ?_|refine kU fun bk=>?_|refine kV fun hc=>?_|refine kZ (fun hc=>?_) fun hc=>?_|fail)
 ·rw [if_pos (show 29 < z2 by omega)]
  simp only [fl3 h2]
  refine zT (rs:=[.tmp 2,.tmp 3]) (vs:=[.pointer none,.int .i64 3]) rfl rfl ?_
  exact ⟨_,iC,.inl ⟨by decide,rfl,rfl⟩⟩
 rw [if_neg (show ¬29 < z2 by omega),zc1]
 obtain ⟨n1,hn1⟩:∃n1,n1=257+z1:=⟨_,rfl⟩
 obtain ⟨n2,hn2⟩:∃n2,n2=1+z2:=⟨_,rfl⟩
 rw [←hn1,←hn2]
 have hle:=zfU p q most (n1+n2) v kn d s2 D2 E L hr2 hl h2 hor (by omega)
 generalize lgS d (n1+n2) s2=Q at hle ⊢
 obtain ⟨q1,q2⟩:=Q
 simp only at hle ⊢
 rw [←Int.natCast_add]
 refine cC rfl rfl hle (fun r L' hp=>?_)
 rcases hp with ⟨h3,rfl,rfl⟩|⟨h3,u,Cq,D3,rfl,hr3,hou,hql,hq15,hout,rfl⟩
 ·rw [if_pos h3]
  (refine kW ?_;refine kV fun hc=>?_;refine kW ?_)
  refine zT (rs:=[.tmp 2,.tmp 3]) (vs:=[.pointer none,.int .i64 (q1.e:Int)]) rfl rfl ?_
  exact ⟨_,iC,.inl ⟨h3,rfl,rfl⟩⟩
 rw [if_neg (show ¬q1.e≠0 by omega)]
 unfold dyK
 simp only
 have hov2:=hou
 rcases hov2 with ⟨_,h0,_⟩|⟨b,cap,rest,rfl,rfl,hxl,hrl,hmc,hcm⟩
 ·omega
 have hl4:∀x∈q2.take n1,x≤15:=fun x hx=>hq15 x (List.mem_of_mem_take hx)
 have hd4:∀x∈q2.drop n1,x≤15:=fun x hx=>hq15 x (List.mem_of_mem_drop hx)
 have hln:(q2.take n1).length=n1:=by simp;omega
 have hdn:(q2.drop n1).length=n2:=by simp;omega
 obtain ⟨x,hx⟩:∃x,q2[256]? =some x:=⟨q2[256],List.getElem?_eq_getElem (by omega)⟩
 have hcell:(ivn q2++rest).toArray[0+256 * 1]? =some (.int .i64 (x:Int)):=by
  have h5:=yC hx
  have h6:=(List.getElem?_eq_some_iff.1 h5).1
  rw [List.getElem?_toArray,List.getElem?_append_left (by simpa using h6)]
  simpa using h5
 rw [show q2.getD 256 0=x from by simp [List.getD,hx]]
 refine kW ?_
 refine ze (zi (j:=256) rfl rfl rfl (by omega)) rfl ?_
 refine kW ?_
 refine ze (zq rfl Fnd.here hcell) rfl ?_
 (repeat' first|refine kW ?_|refine kU fun bk=>?_|refine kV fun hc=>?_|refine kZ (fun hc=>?_) fun hc=>?_|fail)
 ·rw [if_neg (fun hh=>hh.1 (by omega))]
  simp only [fl3 h3]
  refine zT (rs:=[.tmp 2,.tmp 3]) (vs:=[.pointer none,.int .i64 3]) rfl rfl ?_
  exact ⟨_,iC,.inl ⟨by decide,rfl,rfl⟩⟩
 have hco:=zb1 (some ⟨b,0,none⟩) (some ⟨b,n1 * 1,none⟩) cap (cap - n1) (q2.take n1) (q2.drop n1) ([(b,cl (ivn q2++rest) 3)]::rdR p q v most kn::D3::E::L)
  (.inr ⟨_,_,by rw [hln],zK.cl' (l:=ivn q2++rest) Fnd.here (by
    rw [zC,hln];unfold cut ivn
    rw [List.drop_zero,List.take_append_of_le_length (by simp;omega),List.map_take]),by rw [zC];simp⟩) hl4 (by omega)
  (.inr ⟨_,_,by rw [hdn],zK.cl' (l:=ivn q2++rest) Fnd.here (by
    rw [zC,hdn];unfold cut ivn
    rw [List.drop_append_of_le_length (by simp;omega),List.take_append_of_le_length (by simp;omega),Nat.mul_one,←List.map_drop,←List.map_take,List.take_of_length_le (by omega)]),by rw [zC];simp⟩) hd4 (by omega)
 rw [hln,hdn] at hco
 refine yO [] [] mixed ?_
 (refine za 0 ?_;refine za 1 ?_)
 refine cT 2 rfl rfl (qE (h:=n1) rfl rfl rfl (by omega)) ?_
 (refine za 3 ?_;refine za 4 ?_)
 refine cT 5 rfl rfl (yx (l:=n1) (h:=n1+n2) rfl rfl rfl (by omega) (by omega) (by omega)) ?_
 rw [show n1+n2 - n1=n2 from by omega]
 refine cI 6 rfl rfl ?_
 refine cC rfl rfl hco (fun r L' hp=>?_)
 rcases hp with ⟨h4,rfl,rfl⟩|⟨h4,pc,pl,pd,Cl,Cd,rfl,rfl,hcl,hcd⟩
 ·refine ⟨iC,?_⟩
  (refine za 7 ?_;refine za 8 ?_;refine za 9 ?_;refine za 10 ?_)
  refine cD ?_
  rw [if_neg (fun hh=>h4 hh.2)]
  simp only [fl3 h3]
  refine kW ?_
  refine kR ?_
  exact ⟨_,iC,.inl ⟨by decide,rfl,rfl⟩⟩
 ·refine ⟨iC,?_⟩
  (refine za 7 ?_;refine za 8 ?_;refine za 9 ?_;refine za 10 ?_)
  refine cD ?_
  rw [if_pos ⟨by omega,h4⟩]
  have hks:=Qr (q2.drop n1)
  have hkd:kS (q2.drop n1)≤32768:=by
   rcases h4.2 with h|h
   ·omega
   ·rw [uU] at h
    have:=of_decide_eq_true h
    omega
  have h41:=h4.1
  refine kW ?_
  refine kR ?_
  exact ⟨_,iC,.inr ⟨h3,pc,pl,pd,Cl,Cd,D3,_,_,rfl,rfl,rfl,hr3,hcl,hcd,(show kS (q2.take n1)≤32768 by omega),hl4,(show (q2.take n1).length≤400 by omega),hkd,hd4,(show (q2.drop n1).length≤400 by omega),by rw [hout,hto2,hto],rfl⟩⟩
theorem zfS (p q most:Nat) (v kn:Value) (d:List UInt8) (s:S6) (D E C:Chunk) (L:List Chunk) (h:RdN q d s.t D E) (hl:d.length≤140737488355328) (he:s.e=0) (hm:most≤1000000) (hkn:kn.oneCell'=true) (hor:qQ L)
 (ho:Ow 5 1 v s.out.length (bsv s.out) C) (hom:s.out.length≤most) :
 Gv Tryz.prog 181 [.pointer (some ⟨p,0,none⟩)].toArray (rdR p q v most kn::D::E::C::L) (fun r L'=>
  ((dbS d most s).e≠0∧r=.int .i64 ((dbS d most s).e:Int)∧L'=L)∨
  ((dbS d most s).e=0∧r=.int .i64 0∧∃v' D' C',Ow 5 1 v' (dbS d most s).out.length (bsv (dbS d most s).out) C'∧(dbS d most s).out.length≤most∧RdN q d (dbS d most s).t D' E∧L'=rdR p q v' most kn::D'::E::C'::L)):=by
 refine Gv.of_body Tryz.func181 rfl rfl ?_
 have hco:=zmT p q most v kn d s D E (C::L) h hl he hor.there
 unfold dbS
 generalize dyS d s=Y at hco ⊢
 obtain ⟨s1,ly,ny⟩:=Y
 simp only at hco ⊢
 refine kW ?_
 refine cC rfl rfl hco (fun r L' hp=>?_)
 rcases hp with ⟨h1,rfl,rfl⟩|⟨h1,pc,pl,pd,Cl,Cd,D1,l,dl,rfl,rfl,rfl,hr1,hcl,hcd,hk1,h151,hl4,hk2,h152,hd4,hout,rfl⟩
 ·rw [if_pos h1]
  (refine kW ?_;refine kV fun hc=>?_;refine kW ?_)
  refine kR ?_
  exact ⟨_,iC,.inl ⟨h1,rfl,rfl⟩⟩
 rw [if_neg (show ¬s1.e≠0 by omega)]
 rw [←hout] at ho hom
 have hcd2:=zey p q pc pl pd most v kn (ly.take ny) (ly.drop ny) d s1 D1 E C Cl Cd L hr1 hl h1 hm hkn ho hom hcl hk1 h151 hl4 hcd hk2 h152 hd4
 generalize cdC d most (ly.take ny) (ly.drop ny) (8 * d.length+1) s1=R at hcd2 ⊢
 refine kW ?_
 refine cC rfl rfl (Gv.holds hcd2 (fun w h=>iH h)) (fun r L' hp=>?_)
 rcases hp with ⟨h2,rfl,rfl⟩|⟨h2,rfl,v',D',C',ho',hl',hr',rfl⟩
 ·refine kW ?_
  refine kR ?_
  exact ⟨_,iC,.inl ⟨h2,rfl,rfl⟩⟩
 ·refine kW ?_
  refine kR ?_
  exact ⟨_,iC,.inr ⟨h2,rfl,v',D',C',ho',hl',hr',rfl⟩⟩
end Go.Proofs.YtemdlifojcgplaaGreatDoor
namespace Go.If
open Go.Vx Go.Hf
set_option linter.all false
structure Le (a b:S6):Prop where
 t:a.t≤b.t
 o:a.out.length≤b.out.length
theorem Le.rfl' (a:S6):Le a a:=⟨Nat.le_refl _,Nat.le_refl _⟩
theorem Le.tr {a b c:S6} (h:Le a b) (h2:Le b c):Le a c:=⟨Nat.le_trans h.t h2.t,Nat.le_trans h.o h2.o⟩
theorem Xc (s:S6) (k:Nat):Le s (fl s k):=⟨by rw [vU];exact Nat.le_refl _,by rw [ql];exact Nat.le_refl _⟩
theorem YQ (d:List UInt8) (s:S6) (n:Nat):Le s (tk d s n):=⟨zqg d s n,by rw [yw];exact Nat.le_refl _⟩
theorem zlT [W0] (d:List UInt8) (s:S6) (l:List Nat):(sy d s l).out=s.out:=by
 unfold sy
 split
 ·exact ql _ _
 ·rfl
theorem zlS [W0] (d:List UInt8) (s:S6) (l:List Nat):Le s (sy d s l):=⟨zrc d s l,by rw [zlT];exact Nat.le_refl _⟩
theorem zk4 (most:Nat) (s:S6) (c:UInt8):Le s (pt most s c):=by
 by_cases h:s.out.length < most
 ·rw [Qa h];exact ⟨Nat.le_refl _,by simp⟩
 ·rw [zez (by omega)];exact Xc _ _
theorem zjx (most far:Nat):∀n s,Le s (cpL most far n s)
 |0,s=>Le.rfl' s
 |n+1,s=>by
  rw [cpL]
  split
  ·exact (zk4 _ _ _).tr (zjx most far n _)
  ·exact Le.rfl' s
theorem zpG [W0] (d:List UInt8) (most k:Nat) (dl:List Nat) (s:S6):Le s (mtS d most k dl s):=by
 unfold mtS
 have h1:=YQ d s (lnB k).2
 have h2:=zlS d (tk d s (lnB k).2) dl
 generalize tk d s (lnB k).2=s1 at h1 h2 ⊢
 have h3:=h1.tr h2
 split
 ·exact Xc _ _
 ·split
  ·exact h3
  ·split
   ·exact h3.tr (Xc _ _)
   ·unfold mtD
    refine h3.tr (Le.tr ?_ (zjx _ _ _ _))
    split
    ·exact (YQ _ _ _).tr (Xc _ _)
    ·exact YQ _ _ _
theorem zcR [W0] (d:List UInt8) (most:Nat) (l dl:List Nat):∀f s,Le s (cdC d most l dl f s)
 |0,s=>Le.rfl' s
 |f+1,s=>by
  rw [cdC]
  have h:=zlS d s l
  split
  ·exact Le.rfl' s
  ·split
   ·exact h
   ·split
    ·exact h.tr ((zk4 _ _ _).tr (zcR d most l dl f _))
    ·split
     ·exact h
     ·exact h.tr ((zpG _ _ _ _ _).tr (zcR d most l dl f _))
theorem zlK [W0] (d:List UInt8) (most:Nat):∀k s,Le s (stL d most k s)
 |0,s=>Le.rfl' s
 |k+1,s=>by
  rw [stL]
  have h:=YQ d s 8
  split
  ·refine Le.tr ?_ (zlK d most k _)
   split
   ·exact h.tr (zk4 _ _ _)
   ·exact h
  ·exact Le.rfl' s
theorem zqa [W0] (d:List UInt8) (most:Nat) (s:S6):Le s (stS d most s):=by
 unfold stS
 simp only
 have h0:Le s ⟨8 * ((s.t+7) / 8),s.out,s.e⟩:=⟨by simp only;omega,Nat.le_refl _⟩
 have h1:=YQ d ⟨8 * ((s.t+7) / 8),s.out,s.e⟩ 16
 have h2:=YQ d (tk d ⟨8 * ((s.t+7) / 8),s.out,s.e⟩ 16) 16
 refine (h0.tr (h1.tr h2)).tr (Le.tr ?_ (zlK d most _ _))
 split
 ·exact Le.rfl' _
 ·exact Xc _ _
theorem zp5 [W0] (d:List UInt8) (own:List Nat) (m:Nat) (s:S6) (l:List Nat):Le s (rpS d own m s l):=by
 unfold rpS
 have h1:=zlS d s own
 have h2:=h1.tr (YQ d (sy d s own) (rpB (sv d s own)))
 split
 ·exact h1
 ·split
  ·exact h2
  ·split
   ·exact h2.tr (Xc _ _)
   ·exact h2
theorem zkC [W0] (d:List UInt8) (own:List Nat) (m:Nat):∀f s l,Le s (lpS d own m f s l).1
 |0,s,l=>Le.rfl' s
 |f+1,s,l=>by
  rw [lpS]
  have h:=zp5 d own m s l
  split
  ·split
   ·exact h.tr (zkC d own m f _ _)
   ·exact h
  ·exact Le.rfl' s
theorem zkU [W0] (d:List UInt8):∀k i s o,Le s (owS d k i s o).1
 |0,i,s,o=>Le.rfl' s
 |k+1,i,s,o=>by
  rw [owS]
  have h:=YQ d s 3
  split
  ·exact h
  ·exact h.tr (zkU d k _ _ _)
theorem zpz [W0] (d:List UInt8) (s:S6):Le s (lcS d s).1:=by
 unfold lcS
 have h:=YQ d s 4
 have h2:=h.tr (zkU d (4+tv d s 4) 0 (tk d s 4) (List.replicate 19 0))
 split
 ·exact h
 ·split
  ·exact h2
  ·split
   ·exact h2
   ·exact h2.tr (Xc _ _)
theorem zpB [W0] (d:List UInt8) (m:Nat) (s:S6):Le s (lgS d m s).1:=by
 unfold lgS
 have h:=zpz d s
 split
 ·exact h
 ·exact h.tr (zkC _ _ _ _ _ _)
theorem zpn [W0] (d:List UInt8) (n1 n2:Nat) (s:S6):Le s (dyT d n1 n2 s).1:=by
 rw [zc1]
 have h:=zpB d (n1+n2) s
 split
 ·exact h
 ·unfold dyK
  split
  ·exact h
  ·exact h.tr (Xc _ _)
theorem zpm [W0] (d:List UInt8) (s:S6):Le s (dyS d s).1:=by
 unfold dyS
 have h1:=YQ d s 5
 have h2:=h1.tr (YQ d (tk d s 5) 5)
 repeat' split
 ·exact h1
 ·exact h1.tr (Xc _ _)
 ·exact h2
 ·exact h2.tr (Xc _ _)
 ·exact h2.tr (zpn _ _ _ _)
theorem zph [W0] (d:List UInt8) (most:Nat) (s:S6):Le s (dbS d most s):=by
 unfold dbS
 have h:=zpm d s
 split
 ·exact h
 ·exact h.tr (zcR _ _ _ _ _ _)
def bkS [W0] (d:List UInt8) (most k:Nat) (s:S6):S6:=if k=0 then stS d most s else if k=1 then cdC d most fxL fxD (8 * d.length+1) s else dbS d most s
theorem zi4 [W0] (d:List UInt8) (most k:Nat) (s:S6):Le s (bkS d most k s):=by
 unfold bkS
 repeat' split
 ·exact zqa _ _ _
 ·exact zcR _ _ _ _ _ _
 ·exact zph _ _ _
def rwS [W0] (d:List UInt8) (most:Nat):Nat→S6→S6
 |0,s=>s
 |f+1,s=>if (tk d s 3).e≠0 then tk d s 3
  else if 5 < tv d s 3 then fl (tk d s 3) 3
  else if (bkS d most (tv d s 3 / 2) (tk d s 3)).e≠0 then bkS d most (tv d s 3 / 2) (tk d s 3)
  else if tv d s 3 % 2=1 then bkS d most (tv d s 3 / 2) (tk d s 3)
  else rwS d most f (bkS d most (tv d s 3 / 2) (tk d s 3))
def yZ [W0] (d:List UInt8) (most:Nat):S6:=rwS d most (8 * d.length+1) ⟨0,[],0⟩
end Go.If
namespace Go.Vx
theorem Gv.monoD {P:Program} {L:List Chunk} {f:FuncId} {args:Array Value} {post post':Value→List Chunk→Prop} [W0] (h:Gv P f args L post) (hp:∀v L',post v L'→∃L'',(∀w,Holds w L'→Holds w L'')∧post' v L''):Gv P f args L post':=
 ⟨fun w hw=>(h.out w hw).mono fun _ _ he=>let ⟨v,L',h1,h2,h3⟩:=he;let ⟨L'',h4,h5⟩:=hp v L' h2;⟨v,L'',h1,h5,h4 _ h3⟩⟩
end Go.Vx
namespace Go.Proofs.YtemdlifojcgplaaGreatDoor
open Go Go.Vx Go.Hf Go.If
variable [W0]
set_option maxRecDepth 4000
set_option linter.all false
omit [W0] in
def knF:List Value:=[.func (.func 179) #[] #[],.func (.func 180) #[] #[],.func (.func 181) #[] #[]]
theorem znm (L:List Chunk):GvP Tryz.prog 130 #[] L (.agg knF.toArray):=by
 refine Gv.of_body (args:=[]) Tryz.func130 rfl rfl ?_
 (refine kW ?_;refine kU fun bk=>?_;refine kW ?_)
 refine ze (Yl (cs:=knF) rfl (by rfl) (by rfl)) rfl ?_
 refine kW ?_
 refine yD (L':=[(bk,cl [.nilFunc,.nilFunc,.nilFunc] 203)]::L) (fun w h=>h) ?_
 refine zo (l:=[.nilFunc,.nilFunc,.nilFunc]) (vs:=knF) knF rfl rfl (by rfl) (by rfl) (by rfl) iU (by decide) ?_
 refine kW ?_
 first
  |(refine zX (vs:=[.agg knF.toArray]) rfl (.agg ⟨by kernel_rfl,by kernel_rfl⟩ rfl (zK.cl' (vs:=knF) (by repeat (first|assumption|exact Fnd.here|refine Fnd.there ?_)) rfl) rfl .nil) ?_
    exact ⟨L,fun w h=>h.drop,rfl,rfl⟩)
  |(refine yF (vs:=[.agg knF.toArray]) rfl (.agg ⟨by kernel_rfl,by kernel_rfl⟩ rfl (zK.cl' (vs:=knF) (by repeat (first|assumption|exact Fnd.here|refine Fnd.there ?_)) rfl) rfl .nil) ?_
    exact ⟨L,fun w h=>h.drop,rfl,rfl⟩)
theorem zmG (k p q most:Nat) (v kn:Value) (d:List UInt8) (s:S6) (D E C K:Chunk) (L:List Chunk) (hk:k < 3) (h:RdN q d s.t D E) (hl:d.length≤140737488355328) (he:s.e=0) (hm:most≤1000000) (hkn:KnD kn K) (hor:qQ L)
 (ho:Ow 5 1 v s.out.length (bsv s.out) C) (hom:s.out.length≤most):∃f,knF[k]? =some (.func (.func f) #[] #[])∧BD Tryz.prog f∧
 Gv Tryz.prog f [.pointer (some ⟨p,0,none⟩)].toArray (rdR p q v most kn::D::E::C::K::L) (fun r L'=>
  ((bkS d most k s).e≠0∧r=.int .i64 ((bkS d most k s).e:Int)∧L'=L)∨
  ((bkS d most k s).e=0∧r=.int .i64 0∧∃v' D' C' kn' K',KnD kn' K'∧Ow 5 1 v' (bkS d most k s).out.length (bsv (bkS d most k s).out) C'∧(bkS d most k s).out.length≤most∧RdN q d (bkS d most k s).t D' E∧
    L'=rdR p q v' most kn'::D'::E::C'::K'::L)):=by
 rcases (by omega:k=0∨k=1∨k=2) with rfl|rfl|rfl
 ·refine ⟨179,rfl,inferInstance,?_⟩
  refine Gv.monoD (Gv.holds (zij p q most v kn d s D E C (K::L) h hl he hm hkn.one ho hom) (fun w h=>h)) (fun r L' hp=>?_)
  rcases hp with ⟨h1,rfl,rfl⟩|⟨h1,rfl,v',D',C',ho',hl',hr',rfl⟩
  ·exact ⟨L,fun w h=>h.drop,.inl ⟨h1,rfl,rfl⟩⟩
  ·exact ⟨_,fun w h=>h,.inr ⟨h1,rfl,v',D',C',kn,K,hkn,ho',hl',hr',rfl⟩⟩
 ·refine ⟨180,rfl,inferInstance,?_⟩
  exact zk1 p q most v kn d s D E C K L h hl he hm hkn ho hom
 ·refine ⟨181,rfl,inferInstance,?_⟩
  refine Gv.monoD (zfS p q most v kn d s D E C (K::L) h hl he hm hkn.one hor.there ho hom) (fun r L' hp=>?_)
  rcases hp with ⟨h1,rfl,rfl⟩|⟨h1,rfl,v',D',C',ho',hl',hr',rfl⟩
  ·exact ⟨L,fun w h=>h.drop,.inl ⟨h1,rfl,rfl⟩⟩
  ·exact ⟨_,fun w h=>h,.inr ⟨h1,rfl,v',D',C',kn,K,hkn,ho',hl',hr',rfl⟩⟩
theorem zi6 (p q most:Nat) (v kn:Value) (d:List UInt8) (s:S6) (D E C K:Chunk) (L:List Chunk) (h:RdN q d s.t D E) (hl:d.length≤140737488355328) (he:s.e=0) (hm:most≤1000000) (hkn:KnD kn K) (hor:qQ L)
 (ho:Ow 5 1 v s.out.length (bsv s.out) C) (hom:s.out.length≤most) :
 Gv Tryz.prog 91 [.pointer (some ⟨p,0,none⟩)].toArray (rdR p q v most kn::D::E::C::K::L) (fun r L'=>
  ((rwS d most (8 * d.length+1) s).e≠0∧r=.int .i64 ((rwS d most (8 * d.length+1) s).e:Int)∧L'=L)∨
  ((rwS d most (8 * d.length+1) s).e=0∧r=.int .i64 0∧∃v' D' C' kn',Ow 5 1 v' (rwS d most (8 * d.length+1) s).out.length (bsv (rwS d most (8 * d.length+1) s).out) C'∧(rwS d most (8 * d.length+1) s).out.length≤most∧RdN q d (rwS d most (8 * d.length+1) s).t D' E∧L'=rdR p q v' most kn'::D'::E::C'::L)):=by
 refine Gv.of_body Tryz.func91 rfl rfl ?_
 generalize hR:rwS d most (8 * d.length+1) s=R
 refine kW ?_
 refine cP rfl rfl (znm _) ?_
 (refine kW ?_;refine kU fun bk=>?_;refine kW ?_)
 obtain ⟨b3,hb3⟩:∃b3,b3=bk:=⟨_,rfl⟩
 rw [←hb3]
 refine yD (L':=[(b3,cl [.nilFunc,.nilFunc,.nilFunc] 203)]::rdR p q v most kn::D::E::C::K::L) (fun w h=>h) ?_
 clear hb3
 refine zo (l:=[.nilFunc,.nilFunc,.nilFunc]) (vs:=knF) knF rfl rfl (by rfl) (by rfl) (by rfl) iU (by decide) ?_
 refine kW ?_
 refine zn (X:=Nat × S6 × Bool × Value × Chunk × Chunk × Value × Chunk) (fun x=>[(0,.pointer (some ⟨p,0,none⟩)),(3,.pointer (some ⟨b3,0,none⟩)),(4,.bool x.2.2.1)])
  (fun x=>[(b3,cl knF 203)]::rdR p q x.2.2.2.1 most x.2.2.2.2.2.2.1::x.2.2.2.2.1::E::x.2.2.2.2.2.1::x.2.2.2.2.2.2.2::L)
  (fun x=>x.2.1.e=0∧RdN q d x.2.1.t x.2.2.2.2.1 E∧Ow 5 1 x.2.2.2.1 x.2.1.out.length (bsv x.2.1.out) x.2.2.2.2.2.1∧x.2.1.out.length≤most∧KnD x.2.2.2.2.2.2.1 x.2.2.2.2.2.2.2∧(x.2.2.1=false→8 * d.length < x.1+x.2.1.t∧rwS d most x.1 x.2.1=R)∧(x.2.2.1=true→x.2.1=R)) (fun x=>if x.2.2.1 then 0 else x.1+1)
  (8 * d.length+1,s,false,v,D,C,kn,K) ⟨he,h,ho,hom,hkn,fun _=>⟨by simp only;omega,hR⟩,fun hh=>by cases hh⟩ iS (fun w h=>h) ?_
 clear hR ho hom h
 rintro ⟨f,s1,bb,v1,D1,C1,kn1,K1⟩ ⟨he1,hr1,ho1,hl1,hk1,hf1,hf2⟩
 simp only at he1 hr1 ho1 hl1 hk1 hf1 hf2 ⊢
 cases bb with
 |true=>
  have hf2:=hf2 rfl
  subst hf2
  refine kW ?_
  refine kR ?_
  exact ⟨_,iC,.inr ⟨he1,rfl,v1,D1,C1,kn1,ho1,hl1,hr1,rfl⟩⟩
 |false=>
  obtain ⟨hf3,hsl⟩:=hf1 rfl
  clear hf1 hf2
  have ht1:=hr1.1
  obtain ⟨f,rfl⟩:∃g,f=g+1:=⟨f - 1,by omega⟩
  rw [rwS] at hsl
  have htk:=Y7 p q most 3 v1 kn1 d s1 D1 E (C1::K1::[(b3,cl knF 203)]::L) hr1 hl (by decide) he1
  have htv:=wU d s1 3
  have hto:=yw d s1 3
  have htt:(tk d s1 3).e=0→(tk d s1 3).t=s1.t+3:=fun h0=>by
   by_cases hc:s1.t+3≤8 * d.length
   ·rw [zhB hc]
   ·rw [Go.If.zbz hc he1] at h0;cases h0
  generalize tv d s1 3=z at htk htv hsl
  generalize tk d s1 3=s2 at htk hto htt hsl
  rw [←hto] at ho1 hl1
  refine kW ?_
  refine cC rfl rfl (Gv.holds htk (fun w h=>iH h)) (fun r L' hp=>?_)
  rcases hp with ⟨h2,rfl,rfl⟩|⟨h2,rfl,D2,hr2,rfl⟩
  ·rw [if_pos h2] at hsl
   subst hsl
   (refine kW ?_;refine kV fun hc=>?_;refine kW ?_)
   refine kR ?_
   exact ⟨_,iC,.inl ⟨h2,rfl,rfl⟩⟩
  rw [if_neg (show ¬s2.e≠0 by omega)] at hsl
  have htt:=htt h2
  refine kW ?_
  refine ze (wZ rfl rfl (Qm (a:=z) (b:=1) (by omega) (by decide))) rfl ?_
  rw [Nat.and_one_is_mod]
  (repeat' first|refine kW ?_|refine kU fun bk=>?_|refine kV fun hc=>?_|refine kZ (fun hc=>?_) fun hc=>?_|fail)
  ·rw [if_pos (show 5 < z by omega)] at hsl
   have e3:R.e=3:=by rw [←hsl,fl3 h2]
   rw [e3]
   refine kR ?_
   exact ⟨_,iC,.inl ⟨by decide,rfl,rfl⟩⟩
  rw [if_neg (show ¬5 < z by omega)] at hsl
  have hle:=zi4 d most (z / 2) s2
  obtain ⟨fn,hfn,hbd,hbk⟩:=zmG (z / 2) p q most v1 kn1 d s2 D2 E C1 K1 ([(b3,cl knF 203)]::L) (by omega) hr2 hl h2 hm hk1 hor.there ho1 hl1
  generalize bkS d most (z / 2) s2=s3 at hsl hle hbk
  haveI:=hbd
  refine ze (zR (z / 2) rfl rfl (by omega) (by omega)) rfl ?_
  refine kW ?_
  refine ze (zq (v:=.func (.func fn) #[] #[]) rfl (by exact Fnd.there (Fnd.there (Fnd.there (Fnd.there (Fnd.there Fnd.here))))) (by rw [Nat.zero_add,Nat.mul_one,List.getElem?_toArray];exact hfn)) rfl ?_
  refine kW ?_
  refine cC rfl rfl (Gv.holds hbk (fun w h=>iH h)) (fun r L' hp=>?_)
  rcases hp with ⟨h3,rfl,rfl⟩|⟨h3,rfl,v3,D3,C3,kn3,K3,hk3,ho3,hl3,hr3,rfl⟩
  ·rw [if_pos h3] at hsl
   subst hsl
   (refine kW ?_;refine kV fun hc=>?_;refine kW ?_)
   refine kR ?_
   exact ⟨_,iC,.inl ⟨h3,rfl,rfl⟩⟩
  rw [if_neg (show ¬s3.e≠0 by omega)] at hsl
  have hlt:=hle.t
  refine kW ?_
  refine zf (X:=Nat × S6 × Bool × Value × Chunk × Chunk × Value × Chunk) (μ:=fun x=>if x.2.2.1 then 0 else x.1+1) (x:=(f+1,s1,false,v1,D1,C1,kn1,K1)) (f,s3,((z % 2:Nat):Int) == 1,v3,D3,C3,kn3,K3) (by simp only [Bool.false_eq_true,if_false];split<;>omega) ⟨h3,hr3,ho3,hl3,hk3,fun hb=>?_,fun hb=>?_⟩ iS (fun w h=>iH h)
  ·have hb2:¬z % 2=1:=fun hh=>by simp only [hh] at hb;cases hb
   rw [if_neg hb2] at hsl
   exact ⟨by simp only;omega,hsl⟩
  ·have hb2:z % 2=1:=by
    simp only at hb
    have:=eq_of_beq hb
    omega
   rw [if_pos hb2] at hsl
   exact hsl
theorem zpU (a:Option Addr) (c:Nat) (d:List UInt8) (most:Int) (m:Nat) (L:List Chunk) (hv:Sl L 1 (.slice a d.length c) d.length (bsv d)) (hl:d.length≤140737488355328) (hm1:max most 0=(m:Int)) (hm:m≤1000000) (hor:qQ L) :
 Gv Tryz.prog 58 [.slice a d.length c,.int .i64 most].toArray L (fun r L'=>
  ((yZ d m).e≠0∧r=.tuple #[.slice none 0 0,.int .i64 0,.int .i64 ((yZ d m).e:Int)]∧L'=L)∨
  ((yZ d m).e=0∧∃v C,r=.tuple #[v,.int .i64 (((yZ d m).t+7) / 8:Nat),.int .i64 0]∧Ow 5 1 v (yZ d m).out.length (bsv (yZ d m).out) C∧(yZ d m).out.length≤m∧(yZ d m).t≤8 * d.length∧L'=C::L)):=by
 refine Gv.of_body Tryz.func58 rfl rfl ?_
 refine kW ?_
 refine cC rfl rfl (zp3 d _ L hv hl) (fun r L' hp=>?_)
 obtain ⟨q,D,E,rfl,hr,rfl⟩:=hp
 (refine kW ?_;refine kU fun bk=>?_;refine kW ?_)
 rw [hm1]
 obtain ⟨p,hp⟩:∃p,p=bk:=⟨_,rfl⟩
 rw [←hp]
 clear hp
 refine yD (L':=rdR p q (.slice none 0 0) m (.pointer none)::D::E::[]::[]::L) (fun w h=>by
  have h':Holds w (rdR p q (.slice none 0 0) m (.pointer none)::D::E::L):=h
  simpa only [Holds,List.flatten_cons,List.nil_append] using h') ?_
 have hb:=zi6 p q m (.slice none 0 0) (.pointer none) d ⟨0,[],0⟩ D E [] [] L hr hl rfl hm (.inl ⟨rfl,rfl⟩) hor (.inl ⟨rfl,rfl,rfl,rfl⟩) (Nat.zero_le _)
 change Gv _ _ _ _ (fun r L'=>((yZ d m).e≠0∧r=.int .i64 ((yZ d m).e:Int)∧L'=L)∨((yZ d m).e=0∧r=.int .i64 0∧∃v' D' C' kn',Ow 5 1 v' (yZ d m).out.length (bsv (yZ d m).out) C'∧(yZ d m).out.length≤m∧RdN q d (yZ d m).t D' E∧L'=rdR p q v' m kn'::D'::E::C'::L)) at hb
 generalize yZ d m=R at hb ⊢
 refine cC rfl rfl hb (fun r L' hp=>?_)
 rcases hp with ⟨h1,rfl,rfl⟩|⟨h1,rfl,v1,D1,C1,kn1,ho1,hl1,hr1,rfl⟩
 ·(refine kW ?_;refine kV fun hc=>?_;refine kW ?_)
  refine zT (rs:=[.tmp 4,.tmp 5,.tmp 6]) (vs:=[.slice none 0 0,.int .i64 0,.int .i64 (R.e:Int)]) rfl rfl ?_
  exact ⟨_,iC,.inl ⟨h1,rfl,rfl⟩⟩
 ·obtain ⟨ht1,rv,rfl,hoE⟩:=hr1
  have hus:=zql q ((R.t+7) / 8) rv (.int .u64 ((val d / 2 ^ R.t % 2 ^ (8 * ((R.t+7) / 8) - R.t):Nat):Int)) (.int .i64 ((8 * ((R.t+7) / 8) - R.t:Nat):Int)) 201 (rdR p q v1 m kn1::[(q,cl (rdC rv d R.t ((R.t+7) / 8)) 201)]::E::C1::L) (by exact Fnd.there Fnd.here)
  generalize hn:(R.t+7) / 8=n at hus ⊢
  unfold rdR at hus ⊢
  refine kW ?_
  refine yO [[(p,cl [.pointer (some ⟨q,0,none⟩),v1,.int .i64 (m:Int),kn1] 144)]] [] mixed ?_
  (refine za 0 ?_;refine za 1 ?_;refine za 2 ?_;refine za 3 ?_;refine za 4 ?_;refine za 5 ?_;refine za 6 ?_;refine za 7 ?_)
  refine cI 8 rfl rfl ?_
  refine cP rfl rfl hus ?_
  refine ⟨iC,?_⟩
  (refine za 9 ?_;refine za 10 ?_;refine za 11 ?_)
  refine cD ?_
  refine kW ?_
  refine zT (rs:=[.tmp 4,.tmp 5,.tmp 6]) (vs:=[v1,.int .i64 (n:Int),.int .i64 0]) rfl rfl ?_
  exact ⟨C1::L,iC,.inr ⟨h1,v1,C1,rfl,ho1,hl1,ht1,rfl⟩⟩
end Go.Proofs.YtemdlifojcgplaaGreatDoor
