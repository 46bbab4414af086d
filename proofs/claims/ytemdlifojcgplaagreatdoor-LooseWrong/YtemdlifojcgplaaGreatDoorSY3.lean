/- Contracts and facts on the way to the top. It proves no statement by itself. No conditions. -/
import Derived.Test.YtemdlifojcgplaaGreatDoorSY2
set_option maxHeartbeats 16000000
namespace Go.Vx
open Go
set_option linter.all false
variable [W0]
section
variable {P : Program} {n : Nat} {M : List (Nat × Value)} {L : List Chunk} {d : Nat} {ty : TypeId} {ps : String} {af : Array Edge} {g : Option (Nat × Bool)} {x y : Operand} {k : IntKind} {i j : Int} {t u : TypeId}
theorem EV_nadd (a b:Nat) (hx:ev M x=some (.int k i)) (hy:ev M y=some (.int k j)) (hi:i=(a:Int)) (hj:j=(b:Int)) (hs:k.signed=false) (hr:a+b < 2 ^ k.bits) :
 EV P n ⟨some d,.binOp .add t x y u,ty,ps,af,g⟩ M L d (.int k ((a+b:Nat):Int)):=by
 subst hi hj
 have h:=EV_ari (P:=P) (n:=n) (L:=L) (d:=d) (ty:=ty) (ps:=ps) (af:=af) (g:=g) (op:=.add) (t:=t) (u:=u) hx hy rfl
 rwa [show (a:Int)+(b:Int)=((a+b:Nat):Int) from by omega,wrap_nat hs hr] at h
theorem EV_nmul (a b:Nat) (hx:ev M x=some (.int k i)) (hy:ev M y=some (.int k j)) (hi:i=(a:Int)) (hj:j=(b:Int)) (hs:k.signed=false) (hr:a * b < 2 ^ k.bits) :
 EV P n ⟨some d,.binOp .mul t x y u,ty,ps,af,g⟩ M L d (.int k ((a * b:Nat):Int)):=by
 subst hi hj
 have h:=EV_ari (P:=P) (n:=n) (L:=L) (d:=d) (ty:=ty) (ps:=ps) (af:=af) (g:=g) (op:=.mul) (t:=t) (u:=u) hx hy rfl
 rwa [show (a:Int) * (b:Int)=((a * b:Nat):Int) from by rw [Int.natCast_mul],wrap_nat hs hr] at h
theorem EV_nsub (a b:Nat) (hx:ev M x=some (.int k i)) (hy:ev M y=some (.int k j)) (hi:i=(a:Int)) (hj:j=(b:Int)) (hs:k.signed=false) (hle:b≤a) (hr:a < 2 ^ k.bits) :
 EV P n ⟨some d,.binOp .sub t x y u,ty,ps,af,g⟩ M L d (.int k ((a - b:Nat):Int)):=by
 subst hi hj
 have h:=EV_ari (P:=P) (n:=n) (L:=L) (d:=d) (ty:=ty) (ps:=ps) (af:=af) (g:=g) (op:=.sub) (t:=t) (u:=u) hx hy rfl
 rwa [show (a:Int) - (b:Int)=((a - b:Nat):Int) from by omega,wrap_nat hs (by omega)] at h
theorem EV_loadAll {t k':Nat} [hag:AG P t k'] {b:Nat} {T:TypeId} {vs:List Value} (hx:ev M x=some (.pointer (some ⟨b,0,none⟩))) (hf:Fnd L b (cl vs T)) (hl:vs.length=k') :
 EV P n ⟨some d,.load t x,ty,ps,af,g⟩ M L d (.agg vs.toArray):=EV_loadAgg hx (RdAt.cl' hf (by simp [cut])) hl
end
omit [W0] in
def ivn (l:List Nat):List Value:=l.map fun (n:Nat)=>Value.int .i64 (n:Int)
theorem ivn_length {l:List Nat}:(ivn l).length=l.length:=by simp [ivn]
theorem ivn_ones {l:List Nat}:ones (ivn l)=true:=by simp [ones,ivn,Value.oneCell']
theorem ivn_get {l:List Nat} {i n:Nat} (h:l[i]? =some n):(ivn l)[i]? =some (.int .i64 (n:Int)):=by simp [ivn,h]
end Go.Vx
namespace Go.Hf
set_option linter.all false
def tal (l:List Nat):List Nat:=(List.range 16).map fun n=>if n=0 then 0 else cn l n
theorem tal_length (l:List Nat):(tal l).length=16:=by simp [tal]
theorem tal_get (l:List Nat) {n:Nat} (h:n < 16):(tal l)[n]? =some (if n=0 then 0 else cn l n):=by simp [tal,h]
theorem list_ext16 {a b:List Nat} (ha:a.length=16) (hb:b.length=16) (h:∀n,n < 16→a[n]? =b[n]?):a=b:=by
 apply List.ext_getElem?
 intro n
 rcases Nat.lt_or_ge n 16 with hn|hn
 ·exact h n hn
 ·rw [List.getElem?_eq_none (by omega),List.getElem?_eq_none (by omega)]
theorem tal_add (l:List Nat) {x:Nat} (h0:0 < x) (h:x≤15):(tal l).set x (cn l x+1)=tal (l++[x]):=by
 refine list_ext16 (by simp [tal]) (by simp [tal]) fun n hn=>?_
 by_cases he:x=n
 ·subst he
  rw [List.getElem?_set_self (by rw [tal_length];exact hn),tal_get _ hn,if_neg (by omega),cn_app,cn_cons,if_pos rfl]
  simp [cn]
 ·rw [List.getElem?_set_ne he,tal_get _ hn,tal_get _ hn,cn_app,cn_cons,if_neg he]
  simp [cn]
theorem tal_zero (l:List Nat):tal (l++[0])=tal l:=by
 refine list_ext16 (by simp [tal]) (by simp [tal]) fun n hn=>?_
 rw [tal_get _ hn,tal_get _ hn]
 by_cases he:n=0
 ·simp [he]
 ·rw [if_neg he,if_neg he,cn_app,cn_cons,if_neg (by omega)]
  simp [cn]
def fsl (l:List Nat) (i:Nat):List Nat:=(List.range 16).map fun n=>if n < i then fs l n else 0
theorem fsl_length (l:List Nat) (i:Nat):(fsl l i).length=16:=by simp [fsl]
theorem fsl_get (l:List Nat) (i:Nat) {n:Nat} (h:n < 16):(fsl l i)[n]? =some (if n < i then fs l n else 0):=by simp [fsl,h]
theorem fsl_set (l:List Nat) {i:Nat} (h:i < 16):(fsl l i).set i (fs l i)=fsl l (i+1):=by
 refine list_ext16 (by simp [fsl]) (by simp [fsl]) fun n hn=>?_
 by_cases he:i=n
 ·subst he
  rw [List.getElem?_set_self (by rw [fsl_length];exact hn),fsl_get _ _ hn,if_pos (by omega)]
 ·rw [List.getElem?_set_ne he,fsl_get _ _ hn,fsl_get _ _ hn]
  congr 1
  have:(n < i)=(n < i+1):=by apply propext;omega
  simp only [this]
theorem fsl_one (l:List Nat):fsl l 1=List.replicate 16 0:=by
 refine list_ext16 (fsl_length _ _) (by simp) fun n hn=>?_
 rw [fsl_get _ _ hn,List.getElem?_replicate,if_pos hn]
 by_cases h:n=0
 ·subst h;rfl
 ·rw [if_neg (by omega)]
theorem nl_take (ls:List Int) {i:Nat} (hi:i < ls.length):nl (ls.take (i+1))=nl (ls.take i)++[(ls.getD i 0).toNat]:=by
 have hg:ls.getD i 0=ls[i]:=by simp [List.getD,hi]
 rw [List.take_add_one,List.getElem?_eq_getElem hi,hg]
 simp only [nl,List.map_append,List.map_cons,List.map_nil,Option.toList]
end Go.Hf
namespace Go.Proofs.YtemdlifojcgplaaGreatDoor
open Go Go.Vx Go.Hf
variable [W0]
set_option maxRecDepth 4000
set_option linter.all false
omit [W0] in
def zI:List Nat:=List.replicate 16 0
omit [W0] in
def talE (ls:List Int):List Nat:=if okL ls then tal (nl ls) else zI
theorem talE_length (ls:List Int):(talE ls).length=16:=by unfold talE;split<;>simp [tal,zI]
theorem tallied_n (a:Option Addr) (c:Nat) (ls:List Int) (L:List Chunk) (h:Sl L 1 (.slice a ls.length c) ls.length (intsN ls)) (hl:ls.length≤17592186044416) :
 GvP Tryz.prog 258 [.slice a ls.length c].toArray L (.tuple #[.agg (ivn (talE ls)).toArray,.bool (okL ls)]):=by
 refine Gv.of_body Tryz.func258 rfl rfl ?_
 have hout:∀(b:Bool) (l:List Nat) (M:List (Nat × Value)) (p q:Nat) (o:Obj),okL ls=b→talE ls=l→lk M 2=some (.pointer (some ⟨p,0,none⟩))→lk M 3=some (.bool b)→
  WQ Tryz.f258.ntmps (bodyPost Tryz.prog Tryz.f258 (fun e w'=>∃v L',e=.returned v∧(v=.tuple #[.agg (ivn (talE ls)).toArray,.bool (okL ls)]∧L'=L)∧Holds w' L') .ret) M ([(q,o)]::[(p,cl (ivn l) 311)]::L):=by
  intro b l M p q o hb hl2 h2 h3
  have hlen:(ivn l).length=16:=by rw [ivn_length,←hl2,talE_length]
  refine WQ_retC (vs:=[.agg (ivn l).toArray,.bool b]) rfl (.agg ⟨by kernel_rfl,by kernel_rfl⟩ h2 (RdAt.cl' (vs:=ivn l) (Fnd.there Fnd.here) (by simp [cut])) hlen (.tmp h3 .nil)) ?_
  exact ⟨L,fun w h=>(iC:Inc L _).holds h,by rw [hb,hl2];rfl,rfl⟩
 (refine kX ?_;refine kU fun bk=>?_;refine kX ?_;refine kU fun bk=>?_;refine kX ?_)
 rename_i b2
 obtain ⟨b4,hb4⟩:∃b4,b4=bk:=⟨_,rfl⟩
 rw [←hb4]
 obtain ⟨F,hF⟩:∃F:Nat→List Value,∀i,F i=ivn (tal (nl (ls.take i))):=⟨_,fun _=>rfl⟩
 have hF0:ivn zI=F 0:=by rw [hF];rfl
 have hFl:∀i,(F i).length=16:=fun i=>by rw [hF,ivn_length,tal_length]
 refine WC_loop (X:=Nat) (fun i=>[(2,.pointer (some ⟨b2,0,none⟩)),(4,.pointer (some ⟨b4,0,none⟩)),(7,.slice a ls.length c),(8,.int .i64 (ls.length:Int)),(9,.int .i64 (i:Int))])
  (fun i=>[(b4,cl (F i) 311)]::[(b2,cl (ivn zI) 311)]::L) (fun i=>i≤ls.length∧okL (ls.take i)=true) (fun i=>ls.length - i) 0 ⟨Nat.zero_le _,rfl⟩ iS (fun w h=>by rw [←hF0];exact h) ?_
 intro i ⟨hi,hok⟩
 (repeat' first|refine kX ?_|refine kU fun bk=>?_|refine kV fun hc=>?_|refine kZ (fun hc=>?_) fun hc=>?_|fail)
 ·have hlt:i < ls.length:=by omega
  obtain ⟨b,off,cap,cc,T,fr,hve,hfn,hcell⟩:=sl_at h (ints_get hlt)
  injection hve with e1 e2 e3
  subst e1 e3
  clear e2
  have hbad:=okL_bad hlt
  have hgood:=okL_take hlt hok
  have hst:=nl_take ls hlt
  obtain ⟨x,hx⟩:∃x,x=ls.getD i 0:=⟨_,rfl⟩
  rw [←hx] at hcell hst hbad hgood
  refine OW_EV (EV_indexAddr (j:=i) rfl rfl rfl hlt) rfl ?_
  refine kX ?_
  refine OW_EV (EV_load rfl hfn.there.there hcell) rfl ?_
  have hcap:cn (nl (ls.take i)) x.toNat≤i:=by
   have h1:cn (nl (ls.take i)) x.toNat≤(nl (ls.take i)).length:=List.length_filter_le _ _
   have h2:(nl (ls.take i)).length=i:=by rw [nl_length,List.length_take];omega
   omega
  (repeat' first|refine kX ?_|refine kU fun bk=>?_|refine kV fun hc=>?_|refine kZ (fun hc=>?_) fun hc=>?_|fail)
  all_goals first
   |(refine OW_storeAggTo (l:=ivn zI) (vs:=ivn zI) (ivn zI) rfl rfl (by rfl) ivn_ones (by rfl) iU (by decide) ?_
     refine kX ?_
     exact hout false zI _ _ _ _ (hbad (by omega)) (by unfold talE;rw [hbad (by omega)];rfl) rfl rfl)
   |skip
  ·have hxt:0 < x.toNat:=by omega
   have hx15:x.toNat≤15:=by omega
   have hxn:x=(x.toNat:Int):=by omega
   have hadd:=tal_add (nl (ls.take i)) hxt hx15
   rw [←hst] at hadd
   refine OW_W ?_ (he:=EV_indexAddrA' x.toNat rfl rfl hxn (by omega))
   refine kX ?_
   have hld:nth (F i) (0+x.toNat * 1)=some (.int .i64 ((cn (nl (ls.take i)) x.toNat:Nat):Int)):=by
    rw [hF,nth_eq,Nat.zero_add,Nat.mul_one]
    have:=tal_get (nl (ls.take i)) (show x.toNat < 16 by omega)
    rw [if_neg (by omega)] at this
    exact ivn_get this
   refine OW_W ?_ (he:=EV_loadc rfl (by repeat (first|assumption|exact Fnd.here|refine Fnd.there ?_)) hld)
   refine kX ?_
   refine OW_W ?_ (he:=EV_indexAddrA' x.toNat rfl rfl hxn (by omega))
   refine kX ?_
   refine OW_storeTo (F (i+1)) rfl rfl rfl ?_ iU (by rw [hFl];omega) ?_
   ·rw [Nat.zero_add,Nat.mul_one,hF,hF,←hadd]
    simp [ivn,List.map_set]
   refine kX ?_
   refine WQ_round (X:=Nat) (μ:=fun i=>ls.length - i) (x:=i) (i+1) (by omega) ⟨by omega,hgood (by omega) (by omega)⟩ iS (fun w h=>h)
  ·have hx0:x.toNat=0:=by omega
   rw [hx0] at hst
   have hz:=tal_zero (nl (ls.take i))
   rw [←hst] at hz
   refine WQ_round (X:=Nat) (μ:=fun i=>ls.length - i) (x:=i) (i+1) (by omega) ⟨by omega,hgood (by omega) (by omega)⟩ iS (fun w h=>?_)
   rw [hF,hz,←hF];exact h
 ·have hil:i=ls.length:=by omega
  rw [hil,List.take_length] at hok
  have hones:ones (F i)=true:=by rw [hF];exact ivn_ones
  have hFi:F i=ivn (tal (nl ls)):=by rw [hF,hil,List.take_length]
  refine OW_W ?_ (he:=EV_loadAll (vs:=F i) rfl Fnd.here (hFl i))
  refine kX ?_
  refine OW_storeAggTo (l:=ivn zI) (vs:=F i) (F i) rfl rfl (hFl i) hones ?_ iU (by rw [hFl];decide) ?_
  ·have e:(ivn zI).length=16:=by decide
   simp [patch,hFl,e]
  rw [hFi]
  refine kX ?_
  exact hout true (tal (nl ls)) _ _ _ _ hok (by unfold talE;rw [hok];rfl) rfl rfl
theorem share_n (l:List Nat) (L:List Chunk) (hl:l.length≤17592186044416) (h15:∀x∈l,x≤15) :
 GvP Tryz.prog 259 [.agg (ivn (tal l)).toArray].toArray L (.int .i64 ((kS l:Nat):Int)):=by
 have htl:(ivn (tal l)).length=16:=by rw [ivn_length,tal_length]
 have htg:∀i,i < 16→(ivn (tal l))[i]? =some (.int .i64 ((if i=0 then 0 else cn l i:Nat):Int)):=fun i hi=>ivn_get (tal_get l hi)
 generalize ivn (tal l)=tv at htl htg ⊢
 refine Gv.of_body Tryz.func259 rfl rfl ?_
 (refine kX ?_;refine kU fun bk=>?_;refine kX ?_)
 refine OW_W ?_ (he:=EV_loadAll (vs:=tv) rfl Fnd.here htl)
 refine kX ?_
 refine WC_loop (X:=Nat) (fun i=>[(3,.int .i64 ((ks l (i - 1):Nat):Int)),(6,.agg tv.toArray),(7,.int .i64 (i:Int))])
  (fun i=>L) (fun i=>i≤16) (fun i=>16 - i) 0 (Nat.zero_le _) (by rw [show 0 - 1=0 from rfl,ks_zero];exact iS) (fun w h=>(iC:Inc L _).holds h) ?_
 intro i hi
 have hkl:=kS_le l
 have hkb:=ks_le l i
 have hkb1:=ks_le l (i - 1)
 have hst:ks l i=ks l (i - 1)+(if i=0 then 0 else cn l i) * 2 ^ (15 - i):=by
  by_cases h0:i=0
  ·subst h0;simp
  ·have:=ks_succ l (i - 1)
   rw [show i - 1+1=i from by omega] at this
   rw [if_neg h0];exact this
 (repeat' first|refine kX ?_|refine kU fun bk=>?_|refine kV fun hc=>?_|refine kZ (fun hc=>?_) fun hc=>?_|fail)
 ·have hi15:i < 16:=by omega
  refine OW_W ?_ (he:=EV_indexAgg rfl rfl rfl (htg i hi15) hi15)
  obtain ⟨q,hq⟩:∃q,q=if i=0 then 0 else cn l i:=⟨_,rfl⟩
  rw [←hq] at hst ⊢
  have hsz:q * 2 ^ (15 - i)≤ks l i:=by omega
  refine kX ?_
  refine OW_W ?_ (he:=EV_shl64 q (15 - i) rfl rfl rfl (by omega) (by omega) (by omega))
  refine kX ?_
  rw [show ((ks l (i - 1):Nat):Int)+((q * 2 ^ (15 - i):Nat):Int)=((ks l i:Nat):Int) from by rw [hst];omega]
  skip
  refine WQ_round (X:=Nat) (μ:=fun i=>16 - i) (x:=i) (i+1) (by omega) (by omega) iS (fun w h=>h)
 ·have h16:i=16:=by omega
  have hka:=ks_all (l:=l) (n:=15) h15
  rw [h16,show 16 - 1=15 from rfl,hka]
  exact kE
theorem firsts_n (l:List Nat) (L:List Chunk) (hk:kS l≤32768) (hl:l.length≤400) :
 GvP Tryz.prog 241 [.agg (ivn (tal l)).toArray].toArray L (.agg (wnv (fsl l 16)).toArray):=by
 have htl:(ivn (tal l)).length=16:=by rw [ivn_length,tal_length]
 have htg:∀i,i < 16→(ivn (tal l))[i]? =some (.int .i64 ((if i=0 then 0 else cn l i:Nat):Int)):=fun i hi=>ivn_get (tal_get l hi)
 generalize ivn (tal l)=tv at htl htg ⊢
 obtain ⟨F,hF⟩:∃F:Nat→List Value,∀i,F i=wnv (fsl l i):=⟨_,fun _=>rfl⟩
 have hF1:wnv zI=F 1:=by rw [hF,fsl_one];rfl
 have hFl:∀i,(F i).length=16:=fun i=>by rw [hF,wnv_length,fsl_length]
 rw [←hF]
 refine Gv.of_body Tryz.func241 rfl rfl ?_
 (refine kX ?_;refine kU fun bk=>?_;refine kX ?_;refine kU fun bk=>?_;refine kX ?_;refine kU fun bk=>?_;refine kX ?_)
 rename_i b1 b2
 obtain ⟨b3,hb3⟩:∃b3,b3=bk:=⟨_,rfl⟩
 rw [←hb3]
 refine WC_loop (X:=Nat) (fun i=>[(1,.pointer (some ⟨b1,0,none⟩)),(2,.pointer (some ⟨b2,0,none⟩)),(3,.pointer (some ⟨b3,0,none⟩)),(4,.int .i64 (i:Int))])
  (fun i=>[(b3,cl (F i) 314)]::[(b2,cl (wnv zI) 314)]::[(b1,cl tv 311)]::L) (fun i=>1≤i∧i≤16) (fun i=>16 - i) 1 ⟨by omega,by omega⟩ iS (fun w h=>by rw [←hF1];exact h) ?_
 intro i ⟨hi1,hi2⟩
 (repeat' first|refine kX ?_|refine kU fun bk=>?_|refine kV fun hc=>?_|refine kZ (fun hc=>?_) fun hc=>?_|fail)
 ·have hi15:i≤15:=by omega
  have hfit:∀n,1≤n→n≤15→fs l n+cn l n≤32768:=fun n h1 h2=>Nat.le_trans (fs_fit hk h1 h2) (Nat.le_trans (Nat.pow_le_pow_right (by decide) h2) (by decide))
  obtain ⟨p,hp⟩:∃p,p=fs l (i - 1):=⟨_,rfl⟩
  obtain ⟨q,hq⟩:∃q,q=if i - 1=0 then 0 else cn l (i - 1):=⟨_,rfl⟩
  have hpq:fs l i=2 * (p+q):=by
   obtain ⟨m,rfl⟩:∃m,i=m+1:=⟨i - 1,by omega⟩
   rw [hp,hq];rfl
  have hsm:p+q≤32768:=by
   by_cases h0:i - 1=0
   ·rw [hp,hq,if_pos h0,h0];simp [fs]
   ·rw [hp,hq,if_neg h0];exact hfit _ (by omega) (by omega)
  have hld1:nth (F i) (0+(i - 1) * 1)=some (.int .u32 (p:Int)):=by
   rw [hF,nth_eq,Nat.zero_add,Nat.mul_one,hp]
   have:=fsl_get l i (show i - 1 < 16 by omega)
   rw [if_pos (by omega)] at this
   exact wnv_get this
  have hld2:nth tv (0+(i - 1) * 1)=some (.int .i64 (q:Int)):=by
   rw [nth_eq,Nat.zero_add,Nat.mul_one,hq]
   exact htg _ (show i - 1 < 16 by omega)
  refine WC_drawAll [13] mixed ?_
  (refine WR_w 0 ?_;refine WR_w 1 ?_;refine WR_w 2 ?_)
  refine cT 3 rfl rfl (EV_indexAddrA' (i - 1) rfl rfl (by omega) (by omega)) ?_
  refine cT 4 rfl rfl (EV_loadc rfl (by repeat (first|exact Fnd.here|refine Fnd.there ?_)) hld1) ?_
  (refine WR_w 5 ?_;refine WR_w 6 ?_)
  refine cT 7 rfl rfl (EV_indexAddrA' (i - 1) rfl rfl (by omega) (by omega)) ?_
  refine cT 8 rfl rfl (EV_loadc rfl (by repeat (first|exact Fnd.here|refine Fnd.there ?_)) hld2) ?_
  refine cT 9 rfl rfl (EV_nconv q rfl rfl rfl (by simp only [IntKind.bits];omega)) ?_
  refine cT 10 rfl rfl (EV_nadd p q rfl rfl rfl rfl rfl (by simp only [IntKind.bits];omega)) ?_
  refine cT 11 rfl rfl (EV_nmul 2 (p+q) rfl rfl rfl rfl rfl (by simp only [IntKind.bits];omega)) ?_
  rw [←hpq]
  refine cT 12 rfl rfl (EV_indexAddrA' i rfl rfl rfl (by omega)) ?_
  refine cL 13 rfl rfl rfl ?_
  refine OW_storeTo (F (i+1)) rfl rfl rfl ?_ iU (by rw [hFl];omega) ?_
  ·rw [Nat.zero_add,Nat.mul_one,hF,hF,←fsl_set l (by omega)]
   simp [wnv,List.map_set]
  refine cD ?_
  refine kX ?_
  refine WQ_round (X:=Nat) (μ:=fun i=>16 - i) (x:=i) (i+1) (by omega) ⟨by omega,by omega⟩ iS (fun w h=>h)
 ·have h16:i=16:=by omega
  rw [h16]
  have hl16:(F 16).length=16:=hFl 16
  have ho16:ones (F 16)=true:=by rw [hF];exact wnv_ones
  refine OW_W ?_ (he:=EV_loadAll (vs:=F 16) rfl Fnd.here hl16)
  refine kX ?_
  refine OW_storeAggTo (l:=wnv zI) (vs:=F 16) (F 16) rfl rfl hl16 ho16 ?_ iU (by rw [hl16];decide) ?_
  ·have e:(wnv zI).length=16:=by decide
   simp [patch,hl16,e]
  refine kX ?_
  refine WQ_retC (vs:=[.agg (F 16).toArray]) rfl (.agg ⟨by kernel_rfl,by kernel_rfl⟩ rfl (RdAt.cl' (vs:=F 16) (Fnd.there Fnd.here) (by simp [cut])) hl16 .nil) ?_
  exact ⟨L,fun w h=>(iC:Inc L _).holds h,rfl,rfl⟩
theorem hcost_n (a0 a1:Option Addr) (c0 c1:Nat) (cs ls:List Nat) (L:List Chunk) (h0:Sl L 1 (.slice a0 cs.length c0) cs.length (intsN (icn cs))) (h1:Sl L 1 (.slice a1 ls.length c1) ls.length (intsN (icn ls)))
 (hl:cs.length≤1000) (hcB:∀i,cs.getD i 0≤2147483648) (hsB:∀i,ls.getD i 0≤1048576) :
 GvP Tryz.prog 239 [.slice a0 cs.length c0,.slice a1 ls.length c1].toArray L (.int .i64 ((costN cs ls (min cs.length ls.length):Nat):Int)):=by
 refine Gv.of_body Tryz.func239 rfl rfl ?_
 refine kW ?_
 rw [show min (cs.length:Int) (ls.length:Int)=((min cs.length ls.length:Nat):Int) from by omega]
 refine WC_loop (X:=Nat) (fun i=>[(0,.slice a0 cs.length c0),(1,.slice a1 ls.length c1),(5,.int .i64 ((costN cs ls i:Nat):Int)),(11,.int .i64 ((min cs.length ls.length:Nat):Int)),(12,.int .i64 (i:Int))]) (fun _=>L) (fun i=>i≤min cs.length ls.length) (fun i=>cs.length - i) 0 (Nat.zero_le _) iS (fun w h=>h) ?_
 intro i hi
 have hb:=costN_le hcB hsB i
 (repeat' first|refine kW ?_|refine kU fun bk=>?_|refine kV fun hc=>?_|refine kZ (fun hc=>?_) fun hc=>?_|fail)
 ·have hlt0:i < cs.length:=by omega
  have hlt1:i < ls.length:=by omega
  obtain ⟨b,off,cap,cc,T,fr,hve,hfn,hcell⟩:=sl_at h0 (ints_get (l:=icn cs) (by rw [icn_length];exact hlt0))
  injection hve with e1 e2 e3
  subst e1 e3
  clear e2
  obtain ⟨b',off',cap',cc',T',fr',hve,hfn',hcell'⟩:=sl_at h1 (ints_get (l:=icn ls) (by rw [icn_length];exact hlt1))
  injection hve with e1 e2 e3
  subst e1 e3
  clear e2
  rw [icn_getD] at hcell hcell'
  have hm:=Nat.mul_le_mul (hcB i) (hsB i)
  have hst:costN cs ls (i+1)=costN cs ls i+cs.getD i 0 * ls.getD i 0:=rfl
  refine WC_drawAll [] mixed ?_
  (refine WR_t 0 ?_;refine WR_t 1 ?_;refine WR_t 2 ?_)
  refine cT 3 rfl rfl (EV_indexAddr (j:=i) rfl rfl rfl hlt0) ?_
  refine cT 4 rfl rfl (EV_load rfl hfn hcell) ?_
  (refine WR_t 5 ?_;refine WR_t 6 ?_)
  refine cT 7 rfl rfl (EV_indexAddr (j:=i) rfl rfl rfl hlt1) ?_
  refine cT 8 rfl rfl (EV_load rfl hfn' hcell') ?_
  refine cT 9 rfl rfl (EV_ari64 rfl rfl rfl (by rw [←Int.natCast_mul];omega)) ?_
  rw [←Int.natCast_mul]
  (refine WR_t 10 ?_)
  rw [←Int.natCast_add,←hst]
  (refine WR_t 11 ?_)
  refine cD ?_
  refine kW ?_
  refine WQ_round (X:=Nat) (μ:=fun i=>cs.length - i) (x:=i) (i+1) (by omega) (by omega) iS (fun w h=>h)
 ·rw [show i=min cs.length ls.length from by omega]
  exact kE
theorem hcomplete_n (a:Option Addr) (c:Nat) (ls:List Int) (L:List Chunk) (h:Sl L 1 (.slice a ls.length c) ls.length (intsN ls)) (hl:ls.length≤17592186044416) :
 GvP Tryz.prog 266 [.slice a ls.length c].toArray L (.bool (wgt ls == 32768)):=by
 refine Gv.of_body Tryz.func266 rfl rfl ?_
 have ht:=fun L' h'=>tallied_n a c ls L' h' hl
 have hs:=fun L' (hok:okL ls=true)=>share_n (nl ls) L' (by rw [nl_length];exact hl) (fun x hx=>okL_nl hok hx)
 have hte:okL ls=true→ivn (talE ls)=ivn (tal (nl ls)):=fun hok=>by unfold talE;rw [hok];rfl
 have htl:(ivn (talE ls)).length=16:=by rw [ivn_length,talE_length]
 have hto:ones (ivn (talE ls))=true:=ivn_ones
 generalize ivn (tal (nl ls))=sv at hs hte
 generalize ivn (talE ls)=tv at ht hte htl hto
 refine kX ?_
 refine cP rfl rfl (ht L h) ?_
 (refine kX ?_;refine kU fun bk=>?_;refine kX ?_)
 refine OW_holds (L':=[(bk,cl (ivn zI) 311)]::L) (fun w h=>h) ?_
 refine OW_storeAggTo (l:=ivn zI) (vs:=tv) tv rfl rfl htl hto ?_ iU (by rw [htl];decide) ?_
 ·have e:(ivn zI).length=16:=by decide
  simp [patch,htl,e]
 cases hok:okL ls with
 |false=>
  rw [show wgt ls= -1 from by unfold wgt;rw [hok];rfl]
  refine kX ?_
  refine kR ?_
  exact ⟨L,iC,rfl,rfl⟩
 |true=>
  have hs:=hs ([(bk,cl tv 311)]::L) hok
  rw [←hte hok] at hs
  rw [show wgt ls=((kS (nl ls):Nat):Int) from by unfold wgt;rw [hok];rfl]
  refine kX ?_
  refine OW_W ?_ (he:=EV_loadAll (vs:=tv) rfl Fnd.here htl)
  refine kX ?_
  refine cP rfl rfl hs ?_
  refine kX ?_
  refine kR ?_
  exact ⟨L,iC,rfl,rfl⟩
omit [W0] in
def talC (ls:List Int):List Nat:=if cdE ls=0 then tal (nl ls) else zI
theorem talC_length (ls:List Int):(talC ls).length=16:=by unfold talC;split<;>simp [tal,zI]
theorem checked_n (a:Option Addr) (c:Nat) (ls:List Int) (L:List Chunk) (h:Sl L 1 (.slice a ls.length c) ls.length (intsN ls)) (hl:ls.length≤17592186044416) :
 GvP Tryz.prog 240 [.slice a ls.length c].toArray L (.tuple #[.agg (ivn (talC ls)).toArray,.int .i64 (cdE ls:Int)]):=by
 refine Gv.of_body Tryz.func240 rfl rfl ?_
 have hout:∀(e:Nat) (l:List Nat) (M:List (Nat × Value)) (p q:Nat) (o:Obj),cdE ls=e→talC ls=l→lk M 2=some (.pointer (some ⟨p,0,none⟩))→lk M 3=some (.int .i64 (e:Int))→
  WQ Tryz.f240.ntmps (bodyPost Tryz.prog Tryz.f240 (fun e w'=>∃v L',e=.returned v∧(v=.tuple #[.agg (ivn (talC ls)).toArray,.int .i64 (cdE ls:Int)]∧L'=L)∧Holds w' L') .ret) M ([(q,o)]::[(p,cl (ivn l) 311)]::L):=by
  intro b l M p q o hb hl2 h2 h3
  have hlen:(ivn l).length=16:=by rw [ivn_length,←hl2,talC_length]
  refine WQ_retC (vs:=[.agg (ivn l).toArray,.int .i64 (b:Int)]) rfl (.agg ⟨by kernel_rfl,by kernel_rfl⟩ h2 (RdAt.cl' (vs:=ivn l) (Fnd.there Fnd.here) (by simp [cut])) hlen (.tmp h3 .nil)) ?_
  exact ⟨L,fun w h=>(iC:Inc L _).holds h,by rw [hb,hl2];rfl,rfl⟩
 have ht:=fun L' h'=>tallied_n a c ls L' h' hl
 have hs:=fun L' (hok:okL ls=true)=>share_n (nl ls) L' (by rw [nl_length];exact hl) (fun x hx=>okL_nl hok hx)
 have hte:okL ls=true→ivn (talE ls)=ivn (tal (nl ls)):=fun hok=>by unfold talE;rw [hok];rfl
 have htc:cdE ls=0→ivn (talE ls)=ivn (talC ls):=fun h0=>by unfold talC;rw [if_pos h0,hte (cdE_inv h0).2.1]
 have htl:(ivn (talE ls)).length=16:=by rw [ivn_length,talE_length]
 have hto:ones (ivn (talE ls))=true:=ivn_ones
 generalize ivn (tal (nl ls))=sv at hs hte
 generalize ivn (talE ls)=tv at ht hte htl hto htc
 have hkl:=kS_le (nl ls)
 rw [nl_length] at hkl
 have hbad:∀(e:Nat),0 < e→cdE ls=e→talC ls=zI:=fun e h0 he=>by unfold talC;rw [if_neg (by omega)]
 (refine kX ?_;refine kU fun bk=>?_;refine kX ?_)
 obtain ⟨b2,hb2⟩:∃b2,b2=bk:=⟨_,rfl⟩
 rw [←hb2]
 clear hb2
 refine cP rfl rfl (ht _ (sl_there h)) ?_
 (refine kX ?_;refine kU fun bk=>?_;refine kX ?_)
 obtain ⟨b4,hb4⟩:∃b4,b4=bk:=⟨_,rfl⟩
 rw [←hb4]
 refine OW_holds (L':=[(b4,cl (ivn zI) 311)]::[(b2,cl (ivn zI) 311)]::L) (fun w h=>h) ?_
 refine OW_storeAggTo (l:=ivn zI) (vs:=tv) tv rfl rfl htl hto ?_ iU (by rw [htl];decide) ?_
 ·have e:(ivn zI).length=16:=by decide
  simp [patch,htl,e]
 have hz:∀(M:List (Nat × Value)) (K:List (Nat × Value)→List Chunk→Prop) (o:Oper) (dst:Operand) (y:Operand) (ty:TypeId) (ps:String) (af:Array Edge) (g:Option (Nat × Bool)),ev M dst=some (.pointer (some ⟨b2,0,none⟩))→ev M y=some (.agg (ivn zI).toArray)→
  K M ([(b4,cl tv 311)]::[(b2,cl (ivn zI) 311)]::L)→OW Tryz.prog Tryz.f240.ntmps ⟨none,.store 311 dst y,ty,ps,af,g⟩ K M ([(b4,cl tv 311)]::[(b2,cl (ivn zI) 311)]::L):=by
  intro M K o dst y ty ps af g h1 h2 h3
  exact OW_storeAggTo (l:=ivn zI) (vs:=ivn zI) (ivn zI) h1 h2 (by rfl) ivn_ones (by rfl) iU (by decide) h3
 cases hok:okL ls with
 |false=>
  have e1:=(cdE_one (ls:=ls) (.inr hok)).1
  refine kX ?_
  refine hz _ _ default _ _ _ _ _ _ rfl rfl ?_
  refine kX ?_
  exact hout 1 zI _ _ _ _ e1 (hbad 1 (by omega) e1) rfl rfl
 |true=>
  have hs:=hs ([(b4,cl tv 311)]::[(b2,cl (ivn zI) 311)]::L) hok
  rw [←hte hok] at hs
  (repeat' first|refine kX ?_|refine kU fun bk=>?_|refine kV fun hc=>?_|refine kZ (fun hc=>?_) fun hc=>?_|fail)
  ·have e1:=(cdE_one (ls:=ls) (.inl (by omega))).1
   refine hz _ _ default _ _ _ _ _ _ rfl rfl ?_
   refine kX ?_
   exact hout 1 zI _ _ _ _ e1 (hbad 1 (by omega) e1) rfl rfl
  refine OW_W ?_ (he:=EV_loadAll (vs:=tv) rfl Fnd.here htl)
  refine kX ?_
  refine cP rfl rfl hs ?_
  (repeat' first|refine kX ?_|refine kU fun bk=>?_|refine kV fun hc=>?_|refine kZ (fun hc=>?_) fun hc=>?_|fail)
  ·have e1:=(cdE_three (ls:=ls) (by omega) hok (by omega)).1
   refine hz _ _ default _ _ _ _ _ _ rfl rfl ?_
   refine kX ?_
   exact hout 3 zI _ _ _ _ e1 (hbad 3 (by omega) e1) rfl rfl
  ·have e1:=(cdE_zero (ls:=ls) (by omega) hok (by omega)).1
   refine OW_W ?_ (he:=EV_loadAll (vs:=tv) rfl Fnd.here htl)
   refine kX ?_
   refine OW_storeAggTo (l:=ivn zI) (vs:=tv) tv rfl rfl htl hto ?_ iU (by rw [htl];decide) ?_
   ·have e:(ivn zI).length=16:=by decide
    simp [patch,htl,e]
   rw [htc e1]
   refine kX ?_
   exact hout 0 (talC ls) _ _ _ _ e1 rfl rfl rfl
end Go.Proofs.YtemdlifojcgplaaGreatDoor
namespace Go.Hf
set_option linter.all false
def nxl (l:List Nat) (i:Nat):List Nat:=(List.range 16).map fun n=>if n=0 then 0 else fs l n+cn (l.take i) n
theorem nxl_length (l:List Nat) (i:Nat):(nxl l i).length=16:=by simp [nxl]
theorem nxl_get (l:List Nat) (i:Nat) {n:Nat} (h:n < 16):(nxl l i)[n]? =some (if n=0 then 0 else fs l n+cn (l.take i) n):=by simp [nxl,h]
theorem nxl_zero (l:List Nat):nxl l 0=fsl l 16:=by
 refine list_ext16 (nxl_length _ _) (fsl_length _ _) fun n hn=>?_
 rw [nxl_get _ _ hn,fsl_get _ _ hn,if_pos hn]
 by_cases h:n=0
 ·subst h;rfl
 ·rw [if_neg h];simp [cn]
theorem nxl_set {l:List Nat} {i:Nat} (hi:i < l.length) (h0:0 < l.getD i 0) (h15:l.getD i 0≤15):(nxl l i).set (l.getD i 0) (fs l (l.getD i 0)+cn (l.take i) (l.getD i 0)+1)=nxl l (i+1):=by
 refine list_ext16 (by simp [nxl]) (nxl_length _ _) fun n hn=>?_
 rw [nxl_get _ _ hn,cn_take_succ hi]
 by_cases he:l.getD i 0=n
 ·subst he
  rw [List.getElem?_set_self (by rw [nxl_length];exact hn),if_neg (by omega),if_pos rfl,Nat.add_assoc]
 ·rw [List.getElem?_set_ne he,nxl_get _ _ hn,if_neg he,Nat.add_zero]
theorem nxl_skip {l:List Nat} {i:Nat} (hi:i < l.length) (h0:l.getD i 0=0):nxl l i=nxl l (i+1):=by
 refine list_ext16 (nxl_length _ _) (nxl_length _ _) fun n hn=>?_
 rw [nxl_get _ _ hn,nxl_get _ _ hn,cn_take_succ hi]
 by_cases he:n=0
 ·rw [if_pos he,if_pos he]
 ·rw [if_neg he,if_neg he,if_neg (by omega),Nat.add_zero]
def cdp (l:List Nat) (i:Nat):List Nat:=(List.range l.length).map fun j=>if j < i then cd l j else 0
theorem cdp_length (l:List Nat) (i:Nat):(cdp l i).length=l.length:=by simp [cdp]
theorem cdp_get {l:List Nat} {i j:Nat} (hj:j < l.length):(cdp l i)[j]? =some (if j < i then cd l j else 0):=by simp [cdp,hj]
theorem cdp_ext {l A:List Nat} {i:Nat} (hl:A.length=l.length) (h:∀j,j < l.length→A[j]? =some (if j < i then cd l j else 0)):A=cdp l i:=by
 apply List.ext_getElem?
 intro j
 rcases Nat.lt_or_ge j l.length with hj|hj
 ·rw [h j hj,cdp_get hj]
 ·rw [List.getElem?_eq_none (by omega),List.getElem?_eq_none (by rw [cdp_length];exact hj)]
theorem cdp_zero (l:List Nat):cdp l 0=List.replicate l.length 0:=by
 refine (cdp_ext (by simp) fun j hj=>?_).symm
 rw [List.getElem?_replicate,if_pos hj,if_neg (by omega)]
theorem cdp_set {l:List Nat} {i:Nat} (hi:i < l.length):(cdp l i).set i (cd l i)=cdp l (i+1):=by
 refine cdp_ext (by simp [cdp]) fun j hj=>?_
 by_cases he:i=j
 ·subst he
  rw [List.getElem?_set_self (by rw [cdp_length];exact hj),if_pos (by omega)]
 ·rw [List.getElem?_set_ne he,cdp_get hj]
  congr 1
  have e:(j < i)=(j < i+1):=by apply propext;omega
  simp only [e]
theorem cdp_skip {l:List Nat} {i:Nat} (h0:l.getD i 0=0):cdp l i=cdp l (i+1):=by
 refine cdp_ext (cdp_length _ _) fun j hj=>?_
 rw [cdp_get hj]
 by_cases he:j=i
 ·subst he
  rw [if_neg (by omega),if_pos (by omega)]
  unfold cd
  rw [if_pos h0]
 ·congr 1
  have e:(j < i)=(j < i+1):=by apply propext;omega
  simp only [e]
theorem cdp_end (l:List Nat):cdp l l.length=cds l:=by
 refine (cdp_ext (by simp [cds]) fun j hj=>?_).symm
 rw [if_pos hj]
 simp [cds,hj]
end Go.Hf
namespace Go.Proofs.YtemdlifojcgplaaGreatDoor
open Go Go.Vx Go.Hf
variable [W0]
set_option maxRecDepth 4000
set_option linter.all false
theorem hcodes_n (a:Option Addr) (c:Nat) (ls:List Int) (L:List Chunk) (h:Sl L 1 (.slice a ls.length c) ls.length (intsN ls)) (hl:ls.length≤17592186044416) :
 Gv Tryz.prog 205 [.slice a ls.length c].toArray L (fun r L'=>∃u C,r=.tuple #[u,.int .i64 (cdE ls:Int)]∧L'=C::L∧Ow 88 1 u (cdL ls).length (wnv (cdL ls)) C):=by
 refine Gv.of_body Tryz.func205 rfl rfl ?_
 have hno:cdE ls≠0→∀(M:List (Nat × Value)) (D:Chunk),lk M 2=some (.slice none 0 0)→lk M 3=some (.int .i64 (cdE ls:Int))→
  WQ Tryz.f205.ntmps (bodyPost Tryz.prog Tryz.f205 (fun e w'=>∃v L',e=.returned v∧(∃u C,v=.tuple #[u,.int .i64 (cdE ls:Int)]∧L'=C::L∧Ow 88 1 u (cdL ls).length (wnv (cdL ls)) C)∧Holds w' L') .ret) M (D::L):=by
  intro he M D h2 h3
  refine WQ_retH (rs:=[.tmp 2,.tmp 3]) (vs:=[.slice none 0 0,.int .i64 (cdE ls:Int)]) rfl (by simp [resT,h2,h3]) ?_
  have e:cdL ls=[]:=if_neg he
  rw [e]
  exact ⟨[]::L,fun w hw=>Holds.nil.2 hw.drop,_,[],rfl,rfl,.inl ⟨rfl,rfl,rfl,rfl⟩⟩
 have ht:=fun L' h'=>checked_n a c ls L' h' hl
 have hf:=fun L' (h0:cdE ls=0)=>firsts_n (nl ls) L' (cdE_inv h0).2.2 (by rw [nl_length];exact (cdE_inv h0).1)
 have hte:cdE ls=0→ivn (tal (nl ls))=ivn (talC ls):=fun h0=>by unfold talC;rw [if_pos h0]
 have htl:(ivn (talC ls)).length=16:=by rw [ivn_length,talC_length]
 have hto:ones (ivn (talC ls))=true:=ivn_ones
 generalize ivn (tal (nl ls))=sv at hf hte
 generalize ivn (talC ls)=tv at ht hte htl hto
 refine kX ?_
 refine cP rfl rfl (ht _ h) ?_
 (refine kX ?_;refine kU fun bk=>?_;refine kX ?_)
 obtain ⟨b4,hb4⟩:∃b4,b4=bk:=⟨_,rfl⟩
 rw [←hb4]
 refine OW_holds (L':=[(b4,cl (ivn zI) 311)]::L) (fun w h=>h) ?_
 clear hb4
 refine OW_storeAggTo (l:=ivn zI) (vs:=tv) tv rfl rfl htl hto ?_ iU (by rw [htl];decide) ?_
 ·have e:(ivn zI).length=16:=by decide
  simp [patch,htl,e]
 (repeat' first|refine kX ?_|refine kU fun bk=>?_|refine kV fun hc=>?_|refine kZ (fun hc=>?_) fun hc=>?_|fail)
 ·exact hno (by omega) _ _ rfl rfl
 have h0:cdE ls=0:=by omega
 obtain ⟨h400,hok,hk⟩:=cdE_inv h0
 have hf:=hf ([(b4,cl tv 311)]::L) h0
 rw [hte h0] at hf
 have e2:cdL ls=cds (nl ls):=if_pos h0
 obtain ⟨l,hll⟩:∃l,l=nl ls:=⟨_,rfl⟩
 have hlen:l.length=ls.length:=by rw [hll,nl_length]
 rw [←hll] at hk hf e2
 have h15:∀x∈l,x≤15:=fun x hx=>okL_nl hok (by rw [←hll];exact hx)
 have hfit:∀n,1≤n→n≤15→fs l n+cn l n≤32768:=fun n h1 h2=>Nat.le_trans (fs_fit hk h1 h2) (Nat.le_trans (Nat.pow_le_pow_right (by decide) h2) (by decide))
 obtain ⟨F,hF⟩:∃F:Nat→List Value,∀i,F i=wnv (nxl l i):=⟨_,fun _=>rfl⟩
 have hFl:∀i,(F i).length=16:=fun i=>by rw [hF,wnv_length,nxl_length]
 have hFo:ones (F 0)=true:=by rw [hF];exact wnv_ones
 rw [←nxl_zero,←hF] at hf
 refine OW_W ?_ (he:=EV_loadAll (vs:=tv) rfl Fnd.here htl)
 refine kX ?_
 refine cP rfl rfl hf ?_
 (refine kX ?_;refine kU fun bk=>?_;refine kX ?_)
 obtain ⟨b6,hb6⟩:∃b6,b6=bk:=⟨_,rfl⟩
 rw [←hb6]
 refine OW_holds (L':=[(b6,cl (wnv zI) 314)]::[(b4,cl tv 311)]::L) (fun w h=>h) ?_
 clear hb6
 refine OW_storeAggTo (l:=wnv zI) (vs:=F 0) (F 0) rfl rfl (hFl 0) hFo ?_ iU (by rw [hFl];decide) ?_
 ·have e:(wnv zI).length=16:=by decide
  simp [patch,hFl,e]
 refine kX ?_
 refine OW_makeSlice (m:=ls.length) (c:=ls.length) rfl rfl (by rfl) (by omega) (by omega) (by omega) rfl (fun bn=>?_)
 rw [show zeros (Value.int .u32 0).cells.toList ls.length=wnv (cdp l 0) from by rw [cdp_zero,hlen];exact zeros_wnv _]
 refine kX ?_
 have hls:(nl ls).length=ls.length:=nl_length ls
 refine WC_loop (X:=Nat) (fun i=>[(6,.pointer (some ⟨b6,0,none⟩)),(7,.slice (some ⟨bn,0,none⟩) ls.length ls.length),(23,.slice a ls.length c),(24,.int .i64 (ls.length:Int)),(25,.int .i64 (i:Int))])
  (fun i=>[(bn,cl (wnv (cdp l i)) 88)]::[(b6,cl (F i) 314)]::[(b4,cl tv 311)]::L) (fun i=>i≤ls.length) (fun i=>ls.length - i) 0 (Nat.zero_le _) iS (fun w h=>h) ?_
 intro i hi
 (repeat' first|refine kX ?_|refine kU fun bk=>?_|refine kV fun hc=>?_|refine kZ (fun hc=>?_) fun hc=>?_|fail)
 ·have hlt:i < ls.length:=by omega
  obtain ⟨b,off,cap,cc,T,fr,hve,hfn,hcell⟩:=sl_at h (ints_get hlt)
  injection hve with q1 q2 q3
  subst q1 q3
  clear q2
  have hat:=okL_at hok i
  rw [←hll] at hat
  rw [←hat.2.2] at hcell
  obtain ⟨x,hx⟩:∃x,x=l.getD i 0:=⟨_,rfl⟩
  have hx15:x≤15:=by omega
  have hset:=nxl_set (l:=l) (i:=i) (by omega)
  have hskip:=nxl_skip (l:=l) (i:=i) (by omega)
  have hskip2:=cdp_skip (l:=l) (i:=i)
  have hcd:0 < x→cd l i=fs l x+cn (l.take i) x:=fun h=>by unfold cd;rw [←hx,if_neg (by omega)]
  rw [←hx] at hcell hset hskip hskip2
  refine OW_W ?_ (he:=EV_indexAddr (j:=i) rfl rfl rfl hlt)
  refine kX ?_
  refine OW_W ?_ (he:=EV_load rfl hfn.there.there.there hcell)
  (repeat' first|refine kX ?_|refine kU fun bk=>?_|refine kV fun hc=>?_|refine kZ (fun hc=>?_) fun hc=>?_|fail)
  ·have hx0:0 < x:=by omega
   have hsm:=hfit x (by omega) hx15
   have hct:=cn_take_le l i x
   have hct2:cn (l.take i) x+1≤cn l x:=by
    have h1:=cn_take_succ (l:=l) (j:=i) (by omega) x
    rw [if_pos hx.symm] at h1
    have h2:=cn_take_le l (i+1) x
    omega
   have hcd:=hcd hx0
   have hld:nth (F i) (0+x * 1)=some (.int .u32 ((cd l i:Nat):Int)):=by
    rw [hF,nth_eq,Nat.zero_add,Nat.mul_one]
    have:=nxl_get l i (show x < 16 by omega)
    rw [if_neg (by omega),←hcd] at this
    exact wnv_get this
   refine OW_W ?_ (he:=EV_loadc rfl (by repeat (first|assumption|exact Fnd.here|refine Fnd.there ?_)) hld)
   refine kX ?_
   refine OW_storeTo (l:=wnv (cdp l i)) (wnv (cdp l (i+1))) rfl rfl rfl (by rw [Nat.mul_one,←cdp_set (by omega)];simp [wnv,List.map_set]) iU (by rw [wnv_length,cdp_length];omega) ?_
   refine kX ?_
   refine OW_W ?_ (he:=EV_loadc rfl (by repeat (first|assumption|exact Fnd.here|refine Fnd.there ?_)) hld)
   refine kX ?_
   refine OW_storeTo (F (i+1)) rfl rfl rfl ?_ iU (by rw [hFl];omega) ?_
   ·rw [Nat.zero_add,Nat.mul_one,hF,hF,←hset hx0 hx15,←hcd]
    simp only [wnv,List.map_set]
    refine congrArg _ (congrArg _ ?_)
    show (((BitVec.ofNat 32 (cd l i)+1#32).toNat:Nat):Int)=_
    rw [BitVec.toNat_add,BitVec.toNat_ofNat]
    show ((((cd l i) % 4294967296+1) % 4294967296:Nat):Int)=_
    omega
   refine kX ?_
   refine WQ_round (X:=Nat) (μ:=fun i=>ls.length - i) (x:=i) (i+1) (by omega) (by omega) iS (fun w h=>h)
  ·have hx0:x=0:=by omega
   refine WQ_round (X:=Nat) (μ:=fun i=>ls.length - i) (x:=i) (i+1) (by omega) (by omega) iS (fun w h=>?_)
   rw [hF,←hskip hx0,←hskip2 hx0,←hF]
   exact h
 ·have hie:i=l.length:=by omega
  rw [hie,cdp_end]
  refine kR ?_
  have hcl:(cds l).length=ls.length:=by simp [cds,hlen]
  refine ⟨[(bn,cl (wnv (cds l)) 88)]::L,iC,_,_,by rw [h0];rfl,rfl,?_⟩
  rw [e2,hcl]
  exact .inr ⟨bn,ls.length,[],rfl,by rw [List.append_nil],by rw [wnv_length,hcl,Nat.mul_one],by simp,Nat.le_refl _,by simp [maxLen];omega⟩
end Go.Proofs.YtemdlifojcgplaaGreatDoor
namespace Go.Hf
set_option linter.all false
def smb (l:List Nat) (i n:Nat):List Nat:=(List.range i).filter fun j=>l.getD j 0 == n&&decide (0 < n)
theorem smb_succ (l:List Nat) (i n:Nat):smb l (i+1) n=smb l i n++(if l.getD i 0=n∧0 < n then [i] else []):=by
 unfold smb
 rw [List.range_succ,List.filter_append]
 congr 1
 by_cases h:l.getD i 0=n∧0 < n
 ·rw [if_pos h,List.filter_cons,if_pos (by simp only [Bool.and_eq_true,beq_iff_eq,decide_eq_true_eq];exact h)];rfl
 ·rw [if_neg h,List.filter_cons,if_neg (by simp only [Bool.and_eq_true,beq_iff_eq,decide_eq_true_eq];exact h)];rfl
theorem smb_le (l:List Nat) (i n:Nat):(smb l i n).length≤i:=by
 have:=List.length_filter_le (fun j=>l.getD j 0 == n&&decide (0 < n)) (List.range i)
 rw [List.length_range] at this
 exact this
theorem smb_length {l:List Nat} {n:Nat} (h0:0 < n):∀{i:Nat},i≤l.length→(smb l i n).length=cn (l.take i) n
 |0,_=>by simp [smb,cn]
 |i+1,hi=>by
  rw [smb_succ,List.length_append,smb_length h0 (by omega),cn_take_succ (by omega)]
  congr 1
  by_cases h:l.getD i 0=n
  ·rw [if_pos ⟨h,h0⟩,if_pos h];rfl
  ·rw [if_neg (fun hh=>h hh.1),if_neg h];rfl
theorem smb_app (l:List Nat) (n i:Nat):∀k,∃r,smb l (i+k) n=smb l i n++r
 |0=>⟨[],by simp⟩
 |k+1=>by
  obtain ⟨r,hr⟩:=smb_app l n i k
  rw [show i+(k+1)=(i+k)+1 from rfl,smb_succ,hr,List.append_assoc]
  exact ⟨_,rfl⟩
theorem smb_get {l:List Nat} {n i:Nat} (hi:l[i]? =some n) (h0:0 < n):(smb l l.length n)[cn (l.take i) n]? =some i:=by
 have hlt:i < l.length:=(List.getElem?_eq_some_iff.1 hi).1
 have hg:l.getD i 0=n:=by simp [List.getD,hi]
 obtain ⟨r,hr⟩:=smb_app l n (i+1) (l.length - (i+1))
 rw [show i+1+(l.length - (i+1))=l.length from by omega] at hr
 rw [hr,smb_succ,if_pos ⟨hg,h0⟩,←smb_length h0 (Nat.le_of_lt hlt)]
 simp
end Go.Hf
namespace Go.Proofs.YtemdlifojcgplaaGreatDoor
open Go Go.Vx Go.Hf
variable [W0]
set_option maxRecDepth 4000
set_option linter.all false
omit [W0] in
structure SyR (l:List Nat) (i:Nat) (vs:List Value) (Cs:List Chunk):Prop where
 lv:vs.length=16
 lc:Cs.length=16
 at_:∀n,n < 16→∃v C,vs[n]? =some v∧Cs[n]? =some C∧Ow 3 1 v (smb l i n).length (ivn (smb l i n)) C
theorem flat_set {α:Type}:∀{Cs:List (List α)} {n:Nat} {C:List α},Cs[n]? =some C→∃D1 D2,Cs.flatten=D1++(C++D2)∧∀C',(Cs.set n C').flatten=D1++(C'++D2)
 |[],n,C,h=>by simp at h
 |D::r,0,C,h=>by
  simp at h
  subst h
  exact ⟨[],r.flatten,by simp,fun C'=>by simp⟩
 |D::r,n+1,C,h=>by
  simp at h
  obtain ⟨D1,D2,h1,h2⟩:=flat_set h
  exact ⟨D++D1,D2,by simp [h1],fun C'=>by simp [h2]⟩
theorem SyR.new (l:List Nat):SyR l 0 (List.replicate 16 (.slice none 0 0)) (List.replicate 16 []):=by
 refine ⟨by simp,by simp,fun n hn=>⟨_,_,?_,?_,.inl ⟨rfl,rfl,rfl,rfl⟩⟩⟩
 ·rw [List.getElem?_replicate,if_pos hn]
 ·rw [List.getElem?_replicate,if_pos hn]
theorem SyR.step {l:List Nat} {i:Nat} {vs:List Value} {Cs:List Chunk} (h:SyR l i vs Cs) {v':Value} {C':Chunk} (h0:0 < l.getD i 0) (h15:l.getD i 0 < 16)
 (ho:Ow 3 1 v' ((smb l i (l.getD i 0)).length+1) (ivn (smb l i (l.getD i 0))++ivn [i]) C'):SyR l (i+1) (vs.set (l.getD i 0) v') (Cs.set (l.getD i 0) C'):=by
 refine ⟨by rw [List.length_set];exact h.lv,by rw [List.length_set];exact h.lc,fun n hn=>?_⟩
 by_cases he:l.getD i 0=n
 ·subst he
  refine ⟨v',C',List.getElem?_set_self (by rw [h.lv];exact hn),List.getElem?_set_self (by rw [h.lc];exact hn),?_⟩
  rw [smb_succ,if_pos ⟨rfl,h0⟩,List.length_append]
  have e:ivn (smb l i (l.getD i 0)++[i])=ivn (smb l i (l.getD i 0))++ivn [i]:=by simp [ivn]
  rw [e]
  exact ho
 ·obtain ⟨v,C,h1,h2,h3⟩:=h.at_ n hn
  refine ⟨v,C,by rw [List.getElem?_set_ne he];exact h1,by rw [List.getElem?_set_ne he];exact h2,?_⟩
  rw [smb_succ,if_neg (fun hh=>he hh.1),List.append_nil]
  exact h3
theorem SyR.put {l:List Nat} {vs:List Value} {Cs:List Chunk} (h:SyR l 0 vs Cs) (x:Nat) {v':Value} {C':Chunk} (ho:Ow 3 1 v' 0 [] C'):SyR l 0 (vs.set x v') (Cs.set x C'):=by
 refine ⟨by rw [List.length_set];exact h.lv,by rw [List.length_set];exact h.lc,fun n hn=>?_⟩
 by_cases he:x=n
 ·subst he
  exact ⟨v',C',List.getElem?_set_self (by rw [h.lv];exact hn),List.getElem?_set_self (by rw [h.lc];exact hn),ho⟩
 ·obtain ⟨v,C,h1,h2,h3⟩:=h.at_ n hn
  exact ⟨v,C,by rw [List.getElem?_set_ne he];exact h1,by rw [List.getElem?_set_ne he];exact h2,h3⟩
theorem SyR.skip {l:List Nat} {i:Nat} {vs:List Value} {Cs:List Chunk} (h:SyR l i vs Cs) (h0:l.getD i 0=0):SyR l (i+1) vs Cs:=by
 refine ⟨h.lv,h.lc,fun n hn=>?_⟩
 obtain ⟨v,C,h1,h2,h3⟩:=h.at_ n hn
 refine ⟨v,C,h1,h2,?_⟩
 rw [smb_succ,if_neg (fun hh=>by omega),List.append_nil]
 exact h3
omit [W0] in
def coC (l:List Nat) (vs:List Value):List Value:=wnv (fsl l 16)++(vs++[.int .i64 (kS l:Int)])
omit [W0] in
def CoD (l:List Nat) (p:Nat) (C:Chunk):Prop:=∃vs Cs,C=[(p,cl (coC l vs) 342)]++Cs.flatten∧SyR l l.length vs Cs
theorem co_build (Fv:List Value) (h:Fv.length=16) (k:Int):fillL [(0,16),(16,16),(32,1)] (wnv zI++(List.replicate 16 (.slice none 0 0)++[.int .i64 0])) [(0,.agg Fv.toArray),(2,.int .i64 k)]=some (Fv++(List.replicate 16 (.slice none 0 0)++[.int .i64 k])):=by
 have e:(wnv zI).length=16:=by decide
 have p1:patch (wnv zI++(List.replicate 16 (Value.slice none 0 0)++[.int .i64 0])) 0 Fv=Fv++(List.replicate 16 (.slice none 0 0)++[.int .i64 0]):=by
  unfold patch
  rw [Nat.zero_add,h,←e,List.drop_left]
  simp
 have p2:patch (Fv++(List.replicate 16 (Value.slice none 0 0)++[.int .i64 0])) 32 [.int .i64 k]=Fv++(List.replicate 16 (.slice none 0 0)++[.int .i64 k]):=by
  unfold patch
  rw [List.take_append,List.drop_append,h]
  rw [List.take_of_length_le (by omega),List.drop_of_length_le (by simp;omega)]
  simp
 have c1:(Value.agg Fv.toArray).cells.toList=Fv:=rfl
 have c2:(Value.int .i64 k).cells.toList=[.int .i64 k]:=rfl
 unfold fillL
 simp only [List.getElem?_cons_zero]
 rw [if_pos (by refine ⟨by rw [←Array.length_toList,c1,h],by simp [e]⟩),c1,p1]
 unfold fillL
 simp only [List.getElem?_cons_succ,List.getElem?_cons_zero]
 rw [if_pos (by refine ⟨rfl,by simp [h]⟩),c2,p2]
 rfl
theorem co_nth {Fv vs:List Value} {s v:Value} {x:Nat} (h:Fv.length=16) (hv:vs[x]? =some v):nth (Fv++(vs++[s])) (16+x * 1)=some v:=by
 have hlt:=(List.getElem?_eq_some_iff.1 hv).1
 rw [nth_eq,Nat.mul_one,List.getElem?_append_right (by omega),h,show 16+x - 16=x from by omega,List.getElem?_append_left hlt]
 exact hv
theorem co_set {Fv vs:List Value} {s v:Value} {x:Nat} (h:Fv.length=16) (hv:x < vs.length):(Fv++(vs++[s])).set (16+x * 1) v=Fv++(vs.set x v++[s]):=by
 rw [Nat.mul_one,List.set_append_right _ _ (by omega),h,show 16+x - 16=x from by omega,List.set_append_left _ _ hv]
theorem hnew_n (a:Option Addr) (c:Nat) (ls:List Int) (L:List Chunk) (h:Sl L 1 (.slice a ls.length c) ls.length (intsN ls)) (hl:ls.length≤17592186044416) :
 Gv Tryz.prog 267 [.slice a ls.length c].toArray L (fun r L'=>(cdE ls≠0∧r=.tuple #[.pointer none,.int .i64 (cdE ls:Int)]∧L'=L)∨
  (cdE ls=0∧∃p C,r=.tuple #[.pointer (some ⟨p,0,none⟩),.int .i64 0]∧L'=C::L∧CoD (nl ls) p C)):=by
 refine Gv.of_body Tryz.func267 rfl rfl ?_
 have hno:cdE ls≠0→∀(M:List (Nat × Value)) (D:Chunk),lk M 2=some (.pointer none)→lk M 3=some (.int .i64 (cdE ls:Int))→
  WQ Tryz.f267.ntmps (bodyPost Tryz.prog Tryz.f267 (fun e w'=>∃v L',e=.returned v∧((cdE ls≠0∧v=.tuple #[.pointer none,.int .i64 (cdE ls:Int)]∧L'=L)∨
  (cdE ls=0∧∃p C,v=.tuple #[.pointer (some ⟨p,0,none⟩),.int .i64 0]∧L'=C::L∧CoD (nl ls) p C))∧Holds w' L') .ret) M (D::L):=by
  intro he M D h2 h3
  refine WQ_retH (rs:=[.tmp 2,.tmp 3]) (vs:=[.pointer none,.int .i64 (cdE ls:Int)]) rfl (by simp [resT,h2,h3]) ?_
  exact ⟨L,fun w hw=>hw.drop,.inl ⟨he,rfl,rfl⟩⟩
 have ht:=fun L' h'=>checked_n a c ls L' h' hl
 have hf:=fun L' (h0:cdE ls=0)=>firsts_n (nl ls) L' (cdE_inv h0).2.2 (by rw [nl_length];exact (cdE_inv h0).1)
 have hs:=fun L' (h0:cdE ls=0)=>share_n (nl ls) L' (by rw [nl_length];exact hl) (fun x hx=>okL_nl (cdE_inv h0).2.1 hx)
 have hte:cdE ls=0→ivn (tal (nl ls))=ivn (talC ls):=fun h0=>by unfold talC;rw [if_pos h0]
 have htl:(ivn (talC ls)).length=16:=by rw [ivn_length,talC_length]
 have hto:ones (ivn (talC ls))=true:=ivn_ones
 have htg:cdE ls=0→∀i,i < 16→∃n:Nat,(ivn (talC ls))[i]? =some (.int .i64 (n:Int))∧n≤ls.length:=fun h0 i hi=>by
  rw [←hte h0]
  refine ⟨_,ivn_get (tal_get _ hi),?_⟩
  split
  ·omega
  ·unfold cn
   exact Nat.le_trans (List.length_filter_le _ _) (by rw [nl_length];omega)
 generalize ivn (tal (nl ls))=sv at hf hte hs
 generalize ivn (talC ls)=tv at ht hte htl hto htg
 refine kX ?_
 refine cP rfl rfl (ht _ h) ?_
 (refine kX ?_;refine kU fun bk=>?_;refine kX ?_)
 obtain ⟨b4,hb4⟩:∃b4,b4=bk:=⟨_,rfl⟩
 rw [←hb4]
 refine OW_holds (L':=[(b4,cl (ivn zI) 311)]::L) (fun w h=>h) ?_
 clear hb4
 refine OW_storeAggTo (l:=ivn zI) (vs:=tv) tv rfl rfl htl hto ?_ iU (by rw [htl];decide) ?_
 ·have e:(ivn zI).length=16:=by decide
  simp [patch,htl,e]
 (repeat' first|refine kX ?_|refine kU fun bk=>?_|refine kV fun hc=>?_|refine kZ (fun hc=>?_) fun hc=>?_|fail)
 ·exact hno (by omega) _ _ rfl rfl
 have h0:cdE ls=0:=by omega
 obtain ⟨h400,hok,hk⟩:=cdE_inv h0
 have hf:=hf ([(b4,cl tv 311)]::L) h0
 have hs:=hs ([(b4,cl tv 311)]::L) h0
 rw [hte h0] at hf hs
 obtain ⟨l,hll⟩:∃l,l=nl ls:=⟨_,rfl⟩
 have hlen:l.length=ls.length:=by rw [hll,nl_length]
 rw [←hll] at hk hf hs
 have h15:∀x∈l,x≤15:=fun x hx=>okL_nl hok (by rw [←hll];exact hx)
 have hco:∀vs,coC l vs=wnv (fsl l 16)++(vs++[.int .i64 (kS l:Int)]):=fun vs=>rfl
 have hFl:(wnv (fsl l 16)).length=16:=by rw [wnv_length,fsl_length]
 have hFo:ones (wnv (fsl l 16))=true:=wnv_ones
 generalize hFv:wnv (fsl l 16)=Fv at hf hco hFl hFo
 refine WC_drawAll [] mixed ?_
 refine WR_w 0 ?_ (he:=EV_loadAll (vs:=tv) rfl Fnd.here htl)
 refine WR_w 2 ?_ (he:=EV_loadAll (vs:=tv) rfl Fnd.here htl)
 refine cI 1 rfl rfl ?_
 refine cP rfl rfl hf ?_
 refine ⟨iC,?_⟩
 refine cI 3 rfl rfl ?_
 refine cP rfl rfl hs ?_
 refine ⟨iC,?_⟩
 refine cT 4 rfl rfl (EV_build rfl (co_build Fv hFl (kS l:Int))) ?_
 refine cI 5 rfl rfl ?_
 refine OW_box rfl rfl (fun p=>?_)
 refine ⟨iC,?_⟩
 (refine WR_w 6 ?_)
 refine cD ?_
 refine kX ?_
 have hls:(nl ls).length=ls.length:=nl_length ls
 refine OW_W ?_ (he:=EV_loadAll (vs:=tv) rfl (by repeat (first|exact Fnd.here|refine Fnd.there ?_)) htl)
 refine kX ?_
 refine WC_loop (X:=Nat × List Value × List Chunk) (fun x=>[(6,.pointer (some ⟨p,0,none⟩)),(0,.slice a ls.length c),(25,.agg tv.toArray),(26,.int .i64 (x.1:Int))])
  (fun x=>[(p,cl (Fv++(x.2.1++[.int .i64 (kS l:Int)])) 342)]::x.2.2.flatten::[(b4,cl tv 311)]::L) (fun x=>x.1≤16∧SyR l 0 x.2.1 x.2.2) (fun x=>16 - x.1)
  (0,List.replicate 16 (.slice none 0 0),List.replicate 16 []) ⟨Nat.zero_le _,SyR.new l⟩ iS (fun w h=>?_) ?_
 ·show Holds w (_::(List.replicate 16 ([]:Chunk)).flatten::_)
  rw [show (List.replicate 16 ([]:Chunk)).flatten=[] from by decide]
  exact (iC:Inc _ _).holds (Holds.gap.2 h)
 intro x ⟨hx1,hx2⟩
 obtain ⟨i,vs,Cs⟩:=x
 simp only at hx1 hx2 ⊢
 (repeat' first|refine kX ?_|refine kU fun bk=>?_|refine kV fun hc=>?_|refine kZ (fun hc=>?_) fun hc=>?_|fail)
 ·have hlt:i < 16:=by omega
  obtain ⟨n,hn,hnl⟩:=htg h0 i hlt
  refine OW_W ?_ (he:=EV_indexAgg rfl rfl rfl hn hlt)
  refine kX ?_
  obtain ⟨v,C,hv,hC,ho⟩:=hx2.at_ i hlt
  obtain ⟨D1,D2,hfl,hfl2⟩:=flat_set hC
  have hvl:=hx2.lv
  refine WC_holds' (L':=[(p,cl (Fv++(vs++[.int .i64 (kS l:Int)])) 342)]::D1::D2::[(b4,cl tv 311)]::L) (fun w h=>?_) ?_
  ·rw [hfl] at h
   have h2:Holds w ([(p,cl (Fv++(vs++[.int .i64 (kS l:Int)])) 342)]::D1::C::D2::[(b4,cl tv 311)]::L):=by simpa [Holds,List.append_assoc] using h
   exact iH h2
  refine WC_draw [[(p,cl (Fv++(vs++[.int .i64 (kS l:Int)])) 342)]] [7] mixed ?_
  (refine WR_w 0 ?_;refine WR_w 1 ?_;refine WR_w 2 ?_;refine WR_w 4 ?_;refine WR_w 5 ?_)
  refine cI 3 rfl rfl ?_
  refine OW_makeSlice (k:=1) (m:=0) (c:=n) rfl rfl rfl (Nat.zero_le _) (by omega) (by omega) rfl (fun b=>?_)
  refine ⟨iC,?_⟩
  (refine WR_w 6 ?_)
  refine cL 7 rfl rfl rfl ?_
  have ho':Ow 3 1 (.slice (some ⟨b,0,none⟩) 0 n) 0 [] [(b,cl (zeros [.int .i64 0] n) 3)]:=.inr ⟨b,n,_,rfl,rfl,rfl,by simp [zeros_length],Nat.zero_le _,by unfold maxLen;omega⟩
  refine OW_storeTo (Fv++(vs.set i (.slice (some ⟨b,0,none⟩) 0 n)++[.int .i64 (kS l:Int)])) rfl rfl rfl (co_set hFl (by omega)) iU (by rw [List.length_append,List.length_append,hFl,hvl];simp;omega) ?_
  refine cD ?_
  refine kX ?_
  refine WQ_round (X:=Nat × List Value × List Chunk) (μ:=fun x=>16 - x.1) (x:=(i,vs,Cs)) (i+1,_,_) (by simp only;omega) ⟨by simp only;omega,hx2.put i ho'⟩ iS (fun w h=>?_)
  have h2:=(iC:Inc ([(p,cl (Fv++(vs.set i (.slice (some ⟨b,0,none⟩) 0 n)++[.int .i64 (kS l:Int)])) 342)]::D1::[(b,cl (zeros [.int .i64 0] n) 3)]::D2::[(b4,cl tv 311)]::L) _).holds h
  simp only [hfl2]
  simpa [Holds,List.append_assoc] using h2
 refine WC_loop (X:=Nat × List Value × List Chunk) (fun x=>[(6,.pointer (some ⟨p,0,none⟩)),(38,.slice a ls.length c),(39,.int .i64 (ls.length:Int)),(40,.int .i64 (x.1:Int))])
  (fun x=>[(p,cl (Fv++(x.2.1++[.int .i64 (kS l:Int)])) 342)]::x.2.2.flatten::[(b4,cl tv 311)]::L) (fun x=>x.1≤ls.length∧SyR l x.1 x.2.1 x.2.2) (fun x=>ls.length - x.1)
  (0,vs,Cs) ⟨Nat.zero_le _,hx2⟩ iS (fun w h=>h) ?_
 clear hx1 hx2
 intro x ⟨hx1,hx2⟩
 obtain ⟨i,vs,Cs⟩:=x
 simp only at hx1 hx2 ⊢
 (repeat' first|refine kX ?_|refine kU fun bk=>?_|refine kV fun hc=>?_|refine kZ (fun hc=>?_) fun hc=>?_|fail)
 ·have hlt:i < ls.length:=by omega
  obtain ⟨b,off,cap,cc,T,fr,hve,hfn,hcell⟩:=sl_at h (ints_get hlt)
  injection hve with q1 q2 q3
  subst q1 q3
  clear q2
  have hat:=okL_at hok i
  rw [←hll] at hat
  rw [←hat.2.2] at hcell
  have hstep:=@SyR.step _ l i vs Cs hx2
  have hskip:=hx2.skip
  obtain ⟨x,hx⟩:∃x,x=l.getD i 0:=⟨_,rfl⟩
  have hx15:x≤15:=by omega
  rw [←hx] at hcell hstep hskip
  refine OW_W ?_ (he:=EV_indexAddr (j:=i) rfl rfl rfl hlt)
  refine kX ?_
  refine OW_W ?_ (he:=EV_load rfl hfn.there.there.there hcell)
  (repeat' first|refine kX ?_|refine kU fun bk=>?_|refine kV fun hc=>?_|refine kZ (fun hc=>?_) fun hc=>?_|fail)
  ·have hx0:0 < x:=by omega
   obtain ⟨v,C,hv,hC,ho⟩:=hx2.at_ x (by omega)
   obtain ⟨D1,D2,hfl,hfl2⟩:=flat_set hC
   have hsl:=smb_le l i x
   refine WC_holds' (L':=[(p,cl (Fv++(vs++[.int .i64 (kS l:Int)])) 342)]::D1::C::D2::[(b4,cl tv 311)]::L) (fun w h=>?_) ?_
   ·rw [hfl] at h
    simpa [Holds,List.append_assoc] using h
   refine WC_draw [[(p,cl (Fv++(vs++[.int .i64 (kS l:Int)])) 342)]] [14] mixed ?_
   (refine WR_w 0 ?_;refine WR_w 1 ?_;refine WR_w 2 ?_;refine WR_w 3 ?_;refine WR_w 4 ?_;refine WR_w 5 ?_;refine WR_w 6 ?_)
   refine WR_w 7 ?_ (he:=EV_loadc rfl (by repeat (first|exact Fnd.here|refine Fnd.there ?_)) (co_nth hFl hv))
   (refine WR_w 8 ?_;refine WR_w 11 ?_;refine WR_w 12 ?_)
   refine cI 9 rfl rfl ?_
   refine OW_buildSlice (cs:=ivn [i]) rfl (by rfl) (by simp [fillL,patch,Value.cells,zeros];rfl) (by omega) rfl rfl (fun bs=>?_)
   refine ⟨iC,?_⟩
   refine cI 10 rfl rfl ?_
   refine OW_append rfl rfl ho (sl_cells (c:=(ivn [i]).toArray) (xs:=ivn [i]) (m:=1) Fnd.here rfl (by simp)) (by repeat (first|exact Zip.here _|apply Zip.there)) rfl ivn_ones (by omega) (by simp [maxLen];omega) rfl (fun v' C' ho' _ _=>?_)
   refine ⟨iC,?_⟩
   (refine WR_w 13 ?_)
   refine cL 14 rfl rfl rfl ?_
   refine OW_storeTo (Fv++(vs.set x v'++[.int .i64 (kS l:Int)])) rfl rfl (ow_one ho') (co_set hFl (by rw [hx2.lv];omega)) iU (by rw [List.length_append,List.length_append,hFl,hx2.lv];simp;omega) ?_
   refine cD ?_
   refine kX ?_
   refine WQ_round (X:=Nat × List Value × List Chunk) (μ:=fun x=>ls.length - x.1) (x:=(i,vs,Cs)) (i+1,vs.set x v',Cs.set x C') (by simp only;omega) ⟨by simp only;omega,hstep hx0 (by omega) ho'⟩ iS (fun w h=>?_)
   have h2:=(iC:Inc ([(p,cl (Fv++(vs.set x v'++[.int .i64 (kS l:Int)])) 342)]::D1::C'::D2::[(b4,cl tv 311)]::L) _).holds h
   simp only [hfl2]
   simpa [Holds,List.append_assoc] using h2
  ·have hx0:x=0:=by omega
   refine WQ_round (X:=Nat × List Value × List Chunk) (μ:=fun x=>ls.length - x.1) (x:=(i,vs,Cs)) (i+1,vs,Cs) (by simp only;omega) ⟨by simp only;omega,hskip hx0⟩ iS (fun w h=>h)
 ·have hie:i=l.length:=by omega
  rw [hie] at hx2
  refine kH ?_
  refine ⟨(_::L),fun w h=>?_,.inr ⟨h0,p,_,rfl,rfl,vs,Cs,rfl,by rw [←hll];exact hx2⟩⟩
  rw [←hll,hco]
  have h2:=(iC:Inc ([(p,cl (Fv++(vs++[.int .i64 (kS l:Int)])) 342)]::Cs.flatten::L) _).holds h
  exact Holds.split.2 h2
end Go.Proofs.YtemdlifojcgplaaGreatDoor
namespace Go.Proofs.YtemdlifojcgplaaGreatDoor
open Go Go.Vx
variable [W0]
set_option maxRecDepth 4000
set_option linter.all false
omit [W0] in
def clp (n:Int):Nat:=(min (max n 0) 32).toNat
theorem clp_le (n:Int):clp n≤32:=by unfold clp;omega
theorem clp_cast (n:Int):min (max n 0) 32=((clp n:Nat):Int):=by unfold clp;omega
theorem clp_nat {n:Nat} (h:n≤32):clp (n:Int)=n:=by unfold clp;omega
theorem clamped_n (n:Int) (L:List Chunk):GvP Tryz.prog 149 [.int .i64 n].toArray L (.int .i64 ((clp n:Nat):Int)):=by
 refine Gv.of_body Tryz.func149 rfl rfl ?_
 refine kW ?_
 rw [clp_cast]
 skip
 exact kE
theorem pow_le {a b:Nat} (h:a≤b):2 ^ a≤2 ^ b:=Nat.pow_le_pow_right (by decide) h
theorem lowest_n (n:Nat) (L:List Chunk) (h:n≤32):GvP Tryz.prog 150 [.int .i64 (n:Int)].toArray L (.int .u64 ((2 ^ n - 1:Nat):Int)):=by
 refine Gv.of_body Tryz.func150 rfl rfl ?_
 have h1:=pow_le h
 have h0:0 < 2 ^ n:=Nat.pow_pos (by decide)
 refine kW ?_
 refine OW_EV (EV_nshl 1 n rfl rfl rfl rfl rfl (by simp [IntKind.bits];omega)) rfl ?_
 refine kW ?_
 refine OW_EV (EV_ari rfl rfl rfl) rfl ?_
 rw [show ((1 * 2 ^ n:Nat):Int) - 1=((2 ^ n - 1:Nat):Int) from by omega,wrap_nat rfl (by simp [IntKind.bits];omega)]
 refine kW ?_
 exact kE
theorem mirrored_n (v n:Nat) (L:List Chunk) (hv:v < 2 ^ 32) (h:n≤32):GvP Tryz.prog 256 [.int .u32 (v:Int),.int .i64 (n:Int)].toArray L (.int .u32 ((mir v n:Nat):Int)):=by
 refine Gv.of_body Tryz.func256 rfl rfl ?_
 refine kW ?_
 refine WC_loop (X:=Nat) (fun k=>[(0,.int .u32 ((v / 2 ^ k:Nat):Int)),(5,.int .u32 ((mir v k:Nat):Int)),(6,.int .i64 (n:Int)),(7,.int .i64 (k:Int))]) (fun k=>L) (fun k=>k≤n) (fun k=>n - k) 0 (Nat.zero_le _)
  (Sub.cons (by rw [Nat.pow_zero,Nat.div_one];rfl) iS) (fun w h=>h) ?_
 intro k hk
 have hm:=mir_lt v k
 (repeat' first|refine kW ?_|refine kU fun bk=>?_|refine kV fun hc=>?_|refine kZ (fun hc=>?_) fun hc=>?_|fail)
 ·have h1:2 ^ (k+1)≤2 ^ 32:=pow_le (by omega)
  have h2:=Nat.pow_succ 2 k
  have h3:v / 2 ^ k≤v:=Nat.div_le_self _ _
  refine OW_EV (EV_nshl (mir v k) 1 rfl rfl rfl rfl rfl (by simp only [IntKind.bits];omega)) rfl ?_
  refine kW ?_
  refine OW_EV (EV_nand (v / 2 ^ k) 1 rfl rfl rfl rfl rfl (by simp only [IntKind.bits];omega) (by decide)) rfl ?_
  refine kW ?_
  refine OW_EV (EV_nor' (v / 2 ^ k % 2 ^ 1) (mir v k) 1 rfl rfl rfl rfl rfl (Nat.mod_lt _ (by decide)) (by simp only [IntKind.bits];omega)) rfl ?_
  rw [show v / 2 ^ k % 2 ^ 1+mir v k * 2 ^ 1=mir v (k+1) from by simp only [mir];omega]
  refine kW ?_
  refine OW_EV (EV_nshr (v / 2 ^ k) 1 rfl rfl rfl rfl (by simp only [IntKind.bits];omega)) rfl ?_
  rw [Nat.div_div_eq_div_mul,←Nat.pow_add]
  refine kW ?_
  refine WQ_round (X:=Nat) (μ:=fun k=>n - k) (x:=k) (k+1) (by omega) (by omega) iS (fun w h=>h)
 ·have hk2:k=n:=by omega
  subst hk2
  exact kE
omit [W0] in
def WrD (p V N:Nat) (D E:Chunk):Prop:=V < 2 ^ N∧∃v,D=[(p,cl [v,.int .u64 ((V / 2 ^ (8 * (N / 8)):Nat):Int),.int .i64 ((N % 8:Nat):Int)] 171)]∧Ow 5 1 v (N / 8) (bsv (leB V (N / 8))) E
theorem WrD.new (p:Nat):WrD p 0 0 [(p,cl [.slice none 0 0,.int .u64 0,.int .i64 0] 171)] []:=⟨by decide,_,rfl,.inl ⟨rfl,rfl,rfl,rfl⟩⟩
theorem add_lt {V N x c:Nat} (hV:V < 2 ^ N) (hx:x < 2 ^ c):V+2 ^ N * x < 2 ^ (N+c):=by
 rw [Nat.pow_add]
 have h:2 ^ N * (x+1)≤2 ^ N * 2 ^ c:=Nat.mul_le_mul_left _ hx
 rw [Nat.mul_add] at h
 omega
theorem put_n (p V N v:Nat) (n:Int) (D E:Chunk) (L:List Chunk) (h:WrD p V N D E) (hv:v < 2 ^ 32) (hN:N≤1125899906841600) :
 Gv Tryz.prog 114 [.pointer (some ⟨p,0,none⟩),.int .u32 (v:Int),.int .i64 n].toArray (D::E::L) (fun r L'=>r=.tuple #[]∧∃D' E',WrD p (V+2 ^ N * (v % 2 ^ clp n)) (N+clp n) D' E'∧L'=D'::E'::L):=by
 obtain ⟨hV,f,rfl,hf⟩:=h
 refine Gv.of_body Tryz.func114 rfl rfl ?_
 refine kW ?_
 refine cP rfl rfl (clamped_n n _) ?_
 have hc:=clp_le n
 generalize clp n=c at hc ⊢
 obtain ⟨V',hV'⟩:∃V',V'=V+2 ^ N * (v % 2 ^ c):=⟨_,rfl⟩
 obtain ⟨N',hN'⟩:∃N',N'=N+c:=⟨_,rfl⟩
 rw [←hV',←hN']
 have hlt:V' < 2 ^ N':=by rw [hV',hN'];exact add_lt hV (Nat.mod_lt _ (Nat.pow_pos (by decide)))
 have hw:V / 2 ^ (8 * (N / 8)) < 2 ^ (N % 8):=by
  rw [Nat.div_lt_iff_lt_mul (Nat.pow_pos (by decide)),←Nat.pow_add,show N % 8+8 * (N / 8)=N from by omega]
  exact hV
 have hw':V / 2 ^ (8 * (N / 8))+v % 2 ^ c * 2 ^ (N % 8)=V' / 2 ^ (8 * (N / 8)):=by
  rw [hV',show 2 ^ N * (v % 2 ^ c)=2 ^ (8 * (N / 8)) * (v % 2 ^ c * 2 ^ (N % 8)) from by
   rw [show 2 ^ N=2 ^ (8 * (N / 8)) * 2 ^ (N % 8) from by rw [←Nat.pow_add];congr 1;omega];ac_rfl,Nat.add_mul_div_left _ _ (Nat.pow_pos (by decide))]
 have hb1:v % 2 ^ c < 2 ^ 32:=Nat.lt_of_le_of_lt (Nat.mod_le _ _) hv
 have hb2:v % 2 ^ c * 2 ^ (N % 8) < 2 ^ 32 * 2 ^ 8:=Nat.mul_lt_mul_of_lt_of_le hb1 (pow_le (by omega)) (Nat.pow_pos (by decide))
 have hb3:2 ^ (N % 8)≤2 ^ 8:=pow_le (by omega)
 refine kW ?_
 refine WC_drawAll [17] mixed ?_
 (refine WR_t 0 ?_;refine WR_t 1 ?_;refine WR_t 2 ?_;refine WR_t 3 ?_;refine WR_t 4 ?_)
 refine cT 5 rfl rfl (EV_nconv v rfl rfl rfl (by simp only [IntKind.bits];omega)) ?_
 (refine WR_t 6 ?_;refine WR_t 9 ?_;refine WR_t 10 ?_;refine WR_t 11 ?_;refine WR_t 12 ?_)
 refine cI 7 rfl rfl ?_
 refine cP rfl rfl (lowest_n c _ hc) ?_
 refine ⟨iC,?_⟩
 refine cT 8 rfl rfl (EV_nand v c rfl rfl rfl rfl rfl (by simp only [IntKind.bits];omega) (by simp only [IntKind.bits];omega)) ?_
 refine cT 13 rfl rfl (EV_nshl (v % 2 ^ c) (N % 8) rfl rfl rfl rfl rfl (by simp only [IntKind.bits];omega)) ?_
 refine cT 14 rfl rfl (EV_nor (V / 2 ^ (8 * (N / 8))) (v % 2 ^ c) (N % 8) rfl rfl rfl rfl rfl hw (by simp only [IntKind.bits];omega)) ?_
 rw [hw']
 (refine WR_t 15 ?_;refine WR_t 16 ?_)
 refine cL 17 rfl rfl rfl ?_
 refine OW_store rfl rfl rfl iU (by simp) ?_
 refine cD ?_
 refine kW ?_
 rw [show ((N % 8:Nat):Int)+(c:Int)=(N':Int) - 8 * ((N / 8:Nat):Int) from by omega]
 skip
 refine WC_loop (X:=Nat × Value × Chunk) (fun x=>[(0,.pointer (some ⟨p,0,none⟩))])
  (fun x=>[(p,cl [x.2.1,.int .u64 ((V' / 2 ^ (8 * x.1):Nat):Int),.int .i64 ((N':Int) - 8 * (x.1:Int))] 171)]::x.2.2::L)
  (fun x=>8 * x.1≤N'∧N'≤8 * x.1+40∧Ow 5 1 x.2.1 x.1 (bsv (leB V' x.1)) x.2.2) (fun x=>N' - 8 * x.1) (N / 8,f,E) ⟨by simp only;omega,by simp only;omega,by rw [hV',leB_add (by omega)];exact hf⟩ iS (fun w h=>h) ?_
 intro x ⟨hx1,hx3,hx2⟩
 obtain ⟨k,s,C⟩:=x
 simp only at hx1 hx2 hx3 ⊢
 (repeat' first|refine kW ?_|refine kU fun bk=>?_|refine kV fun hc=>?_|refine kZ (fun hc=>?_) fun hc=>?_|fail)
 ·refine WC_draw ([(p,cl [s,.int .u64 ((V' / 2 ^ (8 * k):Nat):Int),.int .i64 ((N':Int) - 8 * (k:Int))] 171)]::L) [14] mixed ?_
  (refine WR_t 0 ?_;refine WR_t 1 ?_;refine WR_t 2 ?_;refine WR_t 3 ?_;refine WR_t 4 ?_;refine WR_t 5 ?_;refine WR_t 6 ?_;refine WR_t 7 ?_;refine WR_t 8 ?_)
  refine cT 9 rfl rfl (EV_nbyte (V' / 2 ^ (8 * k)) rfl rfl) ?_
  refine cI 10 rfl rfl ?_
  refine OW_buildSlice (cs:=bsv [byB V' k]) rfl (by rfl) (by simp [fillL,patch,Value.cells,zeros];rfl) (by omega) rfl rfl (fun bk=>?_)
  refine ⟨iC,?_⟩
  refine cI 11 rfl rfl ?_
  refine OW_append rfl rfl hx2 (sl_cells (c:=(bsv [byB V' k]).toArray) (xs:=bsv [byB V' k]) (m:=1) Fnd.here rfl (by simp)) (by repeat (first|exact Zip.here _|apply Zip.there)) (by rfl) bsv_ones (by omega) (by simp [maxLen];omega) rfl (fun v' C' ho1 h1 h2=>?_)
  rw [←bsv_append,←leB_succ] at ho1
  refine ⟨iC,?_⟩
  (refine WR_t 12 ?_;refine WR_t 13 ?_)
  refine cL 14 rfl rfl rfl ?_
  refine OW_store rfl rfl (ow_one ho1) iU (by simp) ?_
  refine cD ?_
  refine kW ?_
  have hq:V' / 2 ^ (8 * k) < 2 ^ 64:=by
   rw [Nat.div_lt_iff_lt_mul (Nat.pow_pos (by decide)),←Nat.pow_add]
   exact Nat.lt_of_lt_of_le hlt (pow_le (by omega))
  refine OW_EV (EV_nshr (V' / 2 ^ (8 * k)) 8 rfl rfl rfl rfl (by simp only [IntKind.bits];exact hq)) rfl ?_
  rw [Nat.div_div_eq_div_mul,←Nat.pow_add,show 8 * k+8=8 * (k+1) from by omega]
  refine kW ?_
  rw [show ((N':Int) - 8 * (k:Int)) - 8=(N':Int) - 8 * ((k+1:Nat):Int) from by omega]
  skip
  refine WQ_round (X:=Nat × Value × Chunk) (μ:=fun x=>N' - 8 * x.1) (x:=(k,s,C)) (k+1,v',C') (by simp only;omega) ⟨by simp only;omega,by simp only;omega,ho1⟩ iS (fun w h=>iH h)
 ·have hk:k=N' / 8:=by omega
  subst hk
  refine kR ?_
  refine ⟨[(p,cl [s,.int .u64 ((V' / 2 ^ (8 * (N' / 8)):Nat):Int),.int .i64 ((N' % 8:Nat):Int)] 171)]::C::L,?_,rfl,_,_,⟨hlt,s,rfl,hx2⟩,rfl⟩
  rw [show ((N' % 8:Nat):Int)=(N':Int) - 8 * ((N' / 8:Nat):Int) from by omega]
  exact iC
theorem code_n (p V N v:Nat) (n:Int) (D E:Chunk) (L:List Chunk) (h:WrD p V N D E) (hv:v < 2 ^ 32) (hN:N≤1125899906841600) :
 Gv Tryz.prog 230 [.pointer (some ⟨p,0,none⟩),.int .u32 (v:Int),.int .i64 n].toArray (D::E::L) (fun r L'=>r=.tuple #[]∧∃D' E',WrD p (V+2 ^ N * mir v (clp n)) (N+clp n) D' E'∧L'=D'::E'::L):=by
 refine Gv.of_body Tryz.func230 rfl rfl ?_
 refine kW ?_
 refine cP rfl rfl (clamped_n n _) ?_
 have hc:=clp_le n
 generalize clp n=c at hc ⊢
 refine kW ?_
 refine cP rfl rfl (mirrored_n v c _ hv hc) ?_
 refine kW ?_
 have hm:=mir_lt v c
 have h2:=pow_le hc
 refine cC rfl rfl (put_n p V N (mir v c) (c:Int) D E L h (by omega) hN) (fun r L' hp=>?_)
 obtain ⟨rfl,D',E',hw,rfl⟩:=hp
 rw [clp_nat hc,Nat.mod_eq_of_lt hm] at hw
 refine kW ?_
 refine kR ?_
 exact ⟨_,iC,rfl,D',E',hw,rfl⟩
theorem WrD.cast {p V N N':Nat} {D E:Chunk} (h:WrD p V N D E) (he:N=N'):WrD p V N' D E:=he▸h
theorem walign_n (p V N:Nat) (D E:Chunk) (L:List Chunk) (h:WrD p V N D E) (hN:N≤1125899906841600) :
 Gv Tryz.prog 192 [.pointer (some ⟨p,0,none⟩)].toArray (D::E::L) (fun r L'=>r=.tuple #[]∧∃D' E',WrD p V (8 * ((N+7) / 8)) D' E'∧L'=D'::E'::L):=by
 refine Gv.of_body Tryz.func192 rfl rfl ?_
 have hW:=h
 obtain ⟨hV,f,rfl,hf⟩:=h
 (repeat' first|refine kW ?_|refine kU fun bk=>?_|refine kV fun hc=>?_|refine kZ (fun hc=>?_) fun hc=>?_|fail)
 ·rw [show (8:Int) - ((N % 8:Nat):Int)=((8 - N % 8:Nat):Int) from by omega]
  skip
  refine cC rfl rfl (put_n p V N 0 ((8 - N % 8:Nat):Int) _ E L hW (by decide) hN) (fun r L' hp=>?_)
  obtain ⟨rfl,D',E',hw,rfl⟩:=hp
  rw [clp_nat (by omega),Nat.zero_mod,Nat.mul_zero,Nat.add_zero] at hw
  refine kW ?_
  refine kR ?_
  exact ⟨_,iC,rfl,D',E',hw.cast (by omega),rfl⟩
 ·refine kR ?_
  exact ⟨_,iC,rfl,_,E,hW.cast (by omega),rfl⟩
theorem WrD.full {p V q:Nat} {D E:Chunk} (h:WrD p V (8 * q) D E):∃v,D=[(p,cl [v,.int .u64 0,.int .i64 0] 171)]∧Ow 5 1 v q (bsv (leB V q)) E:=by
 obtain ⟨hV,v,hD,hO⟩:=h
 rw [show 8 * q / 8=q from by omega] at hD hO
 rw [Nat.div_eq_of_lt hV,show 8 * q % 8=0 from by omega] at hD
 exact ⟨v,hD,hO⟩
theorem WrD.ofFull {p V q:Nat} {E:Chunk} {v:Value} (hV:V < 2 ^ (8 * q)) (h:Ow 5 1 v q (bsv (leB V q)) E):WrD p V (8 * q) [(p,cl [v,.int .u64 0,.int .i64 0] 171)] E:=by
 refine ⟨hV,v,?_,?_⟩
 ·rw [show 8 * q / 8=q from by omega,Nat.div_eq_of_lt hV,show 8 * q % 8=0 from by omega];rfl
 ·rw [show 8 * q / 8=q from by omega];exact h
theorem raw_n (p V N:Nat) (b:List UInt8) (vb:Value) (D E:Chunk) (L:List Chunk) (h:WrD p V N D E) (hN:N≤1125899906841600) (hb:Sl L 1 vb b.length (bsv b)) (hl:N / 8+b.length≤140737488355000) :
 Gv Tryz.prog 193 [.pointer (some ⟨p,0,none⟩),vb].toArray (D::E::L) (fun r L'=>r=.tuple #[]∧∃D' E',WrD p (V+2 ^ (8 * ((N+7) / 8)) * val b) (8 * ((N+7) / 8+b.length)) D' E'∧L'=D'::E'::L):=by
 refine Gv.of_body Tryz.func193 rfl rfl ?_
 refine kW ?_
 refine cC rfl rfl (walign_n p V N D E L h hN) (fun r L' hp=>?_)
 obtain ⟨rfl,D',E',hw,rfl⟩:=hp
 have hV:=hw.1
 obtain ⟨f,rfl,hf⟩:=hw.full
 obtain ⟨q,hq⟩:∃q,q=(N+7) / 8:=⟨_,rfl⟩
 rw [←hq] at hf hV ⊢
 refine kW ?_
 refine OW_append rfl rfl hf (sl_there (sl_there hb)) (by repeat (first|exact Zip.here _|apply Zip.there)) (by rfl) bsv_ones (by omega) (by simp [maxLen];omega) rfl (fun v' C' ho1 h1 h2=>?_)
 rw [←bsv_append,←leB_app hV] at ho1
 have ho:=ow_one ho1
 refine kW ?_
 refine OW_store rfl rfl ho iU (by simp) ?_
 refine kW ?_
 refine kR ?_
 refine ⟨[(p,cl [v',.int .u64 0,.int .i64 0] 171)]::C'::L,iC,rfl,_,_,WrD.ofFull ?_ ho1,rfl⟩
 have:=add_lt hV (val_lt b)
 rw [Nat.mul_add]
 exact this
theorem wbytes_n (p V N:Nat) (D E:Chunk) (L:List Chunk) (h:WrD p V N D E) (hN:N≤1125899906841600) :
 Gv Tryz.prog 116 [.pointer (some ⟨p,0,none⟩)].toArray (D::E::L) (fun r L'=>∃C,L'=C::D::E::L∧Ow 5 1 r ((N+7) / 8) (bsv (leB V ((N+7) / 8))) C):=by
 refine Gv.of_body Tryz.func116 rfl rfl ?_
 obtain ⟨hV,f,rfl,hf⟩:=h
 obtain ⟨fa,fc,rfl⟩:=ow_slc hf
 refine kW ?_
 refine WC_drawAll [] mixed ?_
 (refine WR_t 0 ?_;refine WR_t 1 ?_;refine WR_t 2 ?_;refine WR_t 3 ?_;refine WR_t 4 ?_;refine WR_t 5 ?_;refine WR_t 7 ?_;refine WR_t 8 ?_;refine WR_t 9 ?_;refine WR_t 10 ?_)
 refine cI 6 rfl rfl ?_
 refine OW_makeSlice (m:=0) (c:=N / 8+1) rfl rfl (by rfl) (by omega) (by omega) (by omega) rfl (fun bn=>?_)
 refine ⟨iC,?_⟩
 refine cI 11 rfl rfl ?_
 have ho:Ow 5 1 (.slice (some ⟨bn,0,none⟩) 0 (N / 8+1)) 0 (bsv []) [(bn,cl (zeros [.int .u8 0] (N / 8+1)) 5)]:=
  .inr ⟨bn,N / 8+1,zeros [.int .u8 0] (N / 8+1),rfl,rfl,rfl,by simp [zeros_length],by omega,by simp [maxLen];omega⟩
 refine OW_append rfl rfl ho (sl_there (sl_there (ow_sl hf))) (by repeat (first|exact Zip.here _|apply Zip.there)) (by rfl) bsv_ones (by omega) (by simp [maxLen];omega) rfl (fun v' C' ho1 h1 h2=>?_)
 rw [←bsv_append,List.nil_append,Nat.zero_add] at ho1
 refine ⟨iC,?_⟩
 (refine WR_t 12 ?_)
 refine cD ?_
 (repeat' first|refine kW ?_|refine kU fun bk=>?_|refine kV fun hc=>?_|refine kZ (fun hc=>?_) fun hc=>?_|fail)
 ·rw [wrap_byte]
  refine OW_buildSlice (cs:=bsv [byB V (N / 8)]) rfl (by rfl) (by simp [fillL,patch,Value.cells,zeros];rfl) (by omega) rfl rfl (fun bk=>?_)
  refine kW ?_
  refine OW_append rfl rfl ho1 (sl_cells (c:=(bsv [byB V (N / 8)]).toArray) (xs:=bsv [byB V (N / 8)]) (m:=1) Fnd.here rfl (by simp)) (by repeat (first|exact Zip.here _|apply Zip.there)) (by rfl) bsv_ones (by omega) (by simp [maxLen];omega) rfl (fun v2 C2 ho2 h1 h2=>?_)
  rw [←bsv_append,←leB_succ] at ho2
  refine kW ?_
  refine kR ?_
  rw [show (N+7) / 8=N / 8+1 from by omega]
  exact ⟨C2::_,iC,C2,rfl,ho2⟩
 ·refine kR ?_
  rw [show (N+7) / 8=N / 8 from by omega]
  exact ⟨C'::_,iC,C',rfl,ho1⟩
omit [W0] in
def rdC (v:Value) (d:List UInt8) (t nx:Nat):List Value:=[v,.int .i64 (nx:Int),.int .u64 ((val d / 2 ^ t % 2 ^ (8 * nx - t):Nat):Int),.int .i64 ((8 * nx - t:Nat):Int)]
omit [W0] in
def RdD (p:Nat) (d:List UInt8) (t nx:Nat) (D E:Chunk):Prop:=∃v,D=[(p,cl (rdC v d t nx) 201)]∧Ow 5 1 v d.length (bsv d) E
omit [W0] in
def RdN (p:Nat) (d:List UInt8) (t:Nat) (D E:Chunk):Prop:=t≤8 * d.length∧RdD p d t ((t+7) / 8) D E
theorem read_n (b:List UInt8) (v:Value) (L:List Chunk) (hv:Sl L 1 v b.length (bsv b)) (hl:b.length≤140737488355328) :
 Gv Tryz.prog 90 [v].toArray L (fun r L'=>∃p D E,r=.pointer (some ⟨p,0,none⟩)∧RdN p b 0 D E∧L'=D::E::L):=by
 refine Gv.of_body Tryz.func90 rfl rfl ?_
 refine kW ?_
 refine OW_holds (L':=[]::L) (fun w h=>Holds.nil.2 h) ?_
 refine OW_append rfl rfl (.inl ⟨rfl,rfl,rfl,rfl⟩) (sl_there hv) (by repeat (first|exact Zip.here _|apply Zip.there)) (by rfl) bsv_ones (by omega) (by simp [maxLen];omega) rfl (fun v' C' ho1 h1 h2=>?_)
 rw [List.nil_append,Nat.zero_add] at ho1
 obtain ⟨fa,fc,rfl⟩:=ow_slc ho1
 (refine kW ?_;refine kU fun bk=>?_;refine kW ?_)
 refine kR ?_
 refine ⟨[(bk,cl (rdC (.slice fa b.length fc) b 0 0) 201)]::C'::L,?_,bk,_,C',rfl,⟨Nat.zero_le _,_,rfl,ho1⟩,rfl⟩
 have e:((val b / 2 ^ 0 % 2 ^ (8 * 0 - 0):Nat):Int)=0:=by simp [Nat.mod_one]
 unfold rdC
 rw [e]
 exact iC
theorem left_n (p m nx:Nat) (a:Option Addr) (c:Nat) (w wt:Value) (T:TypeId) (L:List Chunk) (hf:Fnd L p (cl [.slice a m c,.int .i64 (nx:Int),w,wt] T)) (hm:m≤140737488355328) (hn:nx≤m) :
 GvP Tryz.prog 255 [.pointer (some ⟨p,0,none⟩)].toArray L (.int .i64 ((m - nx:Nat):Int)):=by
 refine Gv.of_body Tryz.func255 rfl rfl ?_
 refine kW ?_
 refine WC_drawAll [] mixed ?_
 (refine WR_t 0 ?_;refine WR_t 1 ?_;refine WR_t 2 ?_;refine WR_t 3 ?_;refine WR_t 4 ?_;refine WR_t 5 ?_;refine WR_t 6 ?_;refine WR_t 7 ?_;refine WR_t 8 ?_;refine WR_t 9 ?_)
 rw [show (m:Int) - (nx:Int)=((m - nx:Nat):Int) from by omega]
 (refine WR_t 10 ?_)
 refine cD ?_
 refine kW ?_
 exact kE
theorem used_n (p nx:Nat) (v w wt:Value) (T:TypeId) (L:List Chunk) (hf:Fnd L p (cl [v,.int .i64 (nx:Int),w,wt] T)) :
 GvP Tryz.prog 92 [.pointer (some ⟨p,0,none⟩)].toArray L (.int .i64 (nx:Int)):=by
 refine Gv.of_body Tryz.func92 rfl rfl ?_
 refine kW ?_
 exact kE
theorem bytesOf_n (n:Int) (m:Nat) (L:List Chunk) (h:n+7=(m:Int)) (hm:m≤1000):GvP Tryz.prog 254 [.int .i64 n].toArray L (.int .i64 ((m / 8:Nat):Int)):=by
 refine Gv.of_body Tryz.func254 rfl rfl ?_
 refine kW ?_
 refine OW_EV (EV_quoN m 8 rfl rfl (by omega) rfl (by decide) (by omega)) rfl ?_
 refine kW ?_
 exact kE
theorem ralign_n (p t:Nat) (d:List UInt8) (D E:Chunk) (L:List Chunk) (h:RdN p d t D E) :
 Gv Tryz.prog 220 [.pointer (some ⟨p,0,none⟩)].toArray (D::E::L) (fun r L'=>r=.tuple #[]∧∃D',RdN p d (8 * ((t+7) / 8)) D' E∧L'=D'::E::L):=by
 obtain ⟨ht,v,rfl,ho⟩:=h
 refine Gv.of_body Tryz.func220 rfl rfl ?_
 unfold rdC
 refine kW ?_
 refine kR ?_
 obtain ⟨q,hq⟩:∃q,q=(t+7) / 8:=⟨_,rfl⟩
 rw [←hq]
 refine ⟨[(p,cl (rdC v d (8 * q) q) 201)]::E::L,?_,rfl,_,⟨by omega,v,by rw [show (8 * q+7) / 8=q from by omega],ho⟩,rfl⟩
 have e:((val d / 2 ^ (8 * q) % 2 ^ (8 * q - 8 * q):Nat):Int)=0:=by rw [Nat.sub_self];simp [Nat.mod_one]
 unfold rdC
 rw [e,Nat.sub_self]
 exact iC
theorem rd_step {d:List UInt8} {t w i:Nat} (hw:t+w=8 * i) (hi:i < d.length):val d / 2 ^ t % 2 ^ w+(d.getD i 0).toNat * 2 ^ w=val d / 2 ^ t % 2 ^ (w+8):=by
 rw [Nat.pow_add,Nat.mod_mul,Nat.div_div_eq_div_mul,←Nat.pow_add,hw,Nat.mul_comm (2 ^ w)]
 have:=val_get d i hi
 rw [show (2:Nat) ^ 8=256 from rfl,this]
theorem collect_n (p t n:Nat) (d:List UInt8) (D E:Chunk) (L:List Chunk) (h:RdN p d t D E) (hn:n≤32) (hl:d.length≤140737488355328) :
 Gv Tryz.prog 225 [.pointer (some ⟨p,0,none⟩),.int .i64 (n:Int)].toArray (D::E::L) (fun r L'=>
  (t+n≤8 * d.length∧r=.bool true∧∃D',RdD p d t ((t+7) / 8+(n+7 - (8 * ((t+7) / 8) - t)) / 8) D' E∧L'=D'::E::L)∨(8 * d.length < t+n∧r=.bool false∧L'=D::E::L)):=by
 obtain ⟨ht,v,rfl,ho⟩:=h
 refine Gv.of_body Tryz.func225 rfl rfl ?_
 obtain ⟨fa,fc,rfl⟩:=ow_slc ho
 obtain ⟨nx,hnx⟩:∃nx,nx=(t+7) / 8:=⟨_,rfl⟩
 rw [←hnx]
 obtain ⟨nd,hnd⟩:∃nd,nd=(n+7 - (8 * nx - t)) / 8:=⟨_,rfl⟩
 rw [←hnd]
 unfold rdC
 refine kW ?_
 refine OW_callP rfl rfl rfl (bytesOf_n _ (n+7 - (8 * nx - t)) _ (by omega) (by omega)) rfl ?_
 rw [←hnd]
 refine kW ?_
 refine OW_callP rfl rfl rfl (left_n p d.length nx fa fc _ _ _ _ Fnd.here hl (by omega)) rfl ?_
 (repeat' first|refine kW ?_|refine kU fun bk=>?_|refine kV fun hc=>?_|refine kZ (fun hc=>?_) fun hc=>?_|fail)
 ·refine kR ?_
  exact ⟨_,iC,.inr ⟨by omega,rfl,rfl⟩⟩
 ·refine WC_loop (X:=Nat) (fun k=>[(0,.pointer (some ⟨p,0,none⟩)),(17,.int .i64 (nd:Int)),(18,.int .i64 (k:Int))])
   (fun k=>[(p,cl (rdC (.slice fa d.length fc) d t (nx+k)) 201)]::E::L) (fun k=>k≤nd) (fun k=>nd - k) 0 (Nat.zero_le _) iS (fun w h=>h) ?_
  intro k hk
  unfold rdC
  obtain ⟨wt,hwt⟩:∃wt,wt=8 * (nx+k) - t:=⟨_,rfl⟩
  rw [←hwt]
  (repeat' first|refine kW ?_|refine kU fun bk=>?_|refine kV fun hc=>?_|refine kZ (fun hc=>?_) fun hc=>?_|fail)
  ·obtain ⟨b,cap,rest,hve,rfl,hcell⟩:=ow_byte ho (k:=nx+k) (by omega)
   injection hve with e1 e2 e3
   subst e1 e3
   clear e2
   have hwl:wt < 32:=by omega
   have hp:=pow_le (Nat.le_of_lt hwl)
   have hml:val d / 2 ^ t % 2 ^ wt < 2 ^ wt:=Nat.mod_lt _ (Nat.pow_pos (by decide))
   have hbl:=(d.getD (nx+k) 0).toNat_lt
   have hst:=rd_step (d:=d) (t:=t) (w:=wt) (i:=nx+k) (by omega) (by omega)
   obtain ⟨x,hx⟩:∃x,x=(d.getD (nx+k) 0).toNat:=⟨_,rfl⟩
   rw [←hx] at hcell hbl hst
   have hxm:x * 2 ^ wt≤255 * 2 ^ 32:=Nat.mul_le_mul (by omega) hp
   refine WC_drawAll [23] mixed ?_
   (refine WR_t 0 ?_;refine WR_t 1 ?_;refine WR_t 2 ?_;refine WR_t 3 ?_;refine WR_t 4 ?_;refine WR_t 5 ?_;refine WR_t 6 ?_;refine WR_t 7 ?_;refine WR_t 8 ?_;refine WR_t 9 ?_;refine WR_t 10 ?_;refine WR_t 11 ?_)
   refine cT 12 rfl rfl (EV_indexAddr0 rfl rfl rfl (by omega)) ?_
   refine cT 13 rfl rfl (EV_load rfl (Fnd.there Fnd.here) hcell) ?_
   refine cT 14 rfl rfl (EV_nconv x rfl rfl rfl (by simp only [IntKind.bits];omega)) ?_
   (refine WR_t 15 ?_;refine WR_t 16 ?_;refine WR_t 17 ?_;refine WR_t 18 ?_)
   refine cT 19 rfl rfl (EV_nshl x wt rfl rfl rfl rfl rfl (by simp only [IntKind.bits];omega)) ?_
   refine cT 20 rfl rfl (EV_nor (val d / 2 ^ t % 2 ^ wt) x wt rfl rfl rfl rfl rfl hml (by simp only [IntKind.bits];omega)) ?_
   rw [hst]
   (refine WR_t 21 ?_;refine WR_t 22 ?_)
   refine cL 23 rfl rfl rfl ?_
   refine OW_store rfl rfl rfl iU (by simp) ?_
   refine cD ?_
   refine kW ?_
   refine WQ_round (X:=Nat) (μ:=fun k=>nd - k) (x:=k) (k+1) (by omega) (by omega) iS ?_
   rw [show 8 * (nx+(k+1)) - t=wt+8 from by omega,show ((wt+8:Nat):Int)=(wt:Int)+8 from by omega,show ((nx+(k+1):Nat):Int)=((nx+k:Nat):Int)+1 from by omega]
   exact fun w h=>iH h
  ·have hk2:k=nd:=by omega
   subst hk2
   refine kR ?_
   rw [hwt]
   exact ⟨_,iC,.inl ⟨by omega,rfl,_,⟨_,rfl,ho⟩,rfl⟩⟩
omit [W0] in
def tkB (d:List UInt8) (t:Nat) (n:Int):Bool:=decide (0≤n)&&decide (n≤32)&&decide (t+n.toNat≤8 * d.length)
omit [W0] in
def tkV (d:List UInt8) (t:Nat) (n:Int):Nat:=if tkB d t n then val d / 2 ^ t % 2 ^ n.toNat else 0
omit [W0] in
def tkT (d:List UInt8) (t:Nat) (n:Int):Nat:=if tkB d t n then t+n.toNat else t
theorem tkB_nat {d:List UInt8} {t n:Nat} (h:n≤32) (h2:t+n≤8 * d.length):tkB d t (n:Int)=true:=by
 simp only [tkB,Bool.and_eq_true,decide_eq_true_eq];omega
theorem tkB_no {d:List UInt8} {t:Nat} {n:Int} (h:n < 0∨32 < n∨8 * d.length < t+n.toNat):tkB d t n=false:=by
 simp only [tkB,Bool.and_eq_false_iff,decide_eq_false_iff_not];omega
theorem tk_nat {d:List UInt8} {t n:Nat} (h:n≤32) (h2:t+n≤8 * d.length):tkV d t (n:Int)=val d / 2 ^ t % 2 ^ n∧tkT d t (n:Int)=t+n:=by
 unfold tkV tkT
 rw [tkB_nat h h2]
 exact ⟨rfl,rfl⟩
theorem tk_no {d:List UInt8} {t:Nat} {n:Int} (h:tkB d t n=false):tkV d t n=0∧tkT d t n=t:=by
 unfold tkV tkT
 rw [h]
 exact ⟨rfl,rfl⟩
theorem take_n (p t:Nat) (n:Int) (d:List UInt8) (D E:Chunk) (L:List Chunk) (h:RdN p d t D E) (hl:d.length≤140737488355328) :
 Gv Tryz.prog 182 [.pointer (some ⟨p,0,none⟩),.int .i64 n].toArray (D::E::L) (fun r L'=>
  r=.tuple #[.int .u32 ((tkV d t n:Nat):Int),.bool (tkB d t n)]∧∃D',RdN p d (tkT d t n) D' E∧L'=D'::E::L):=by
 refine Gv.of_body Tryz.func182 rfl rfl ?_
 have hno:∀M:List (Nat × Value),tkB d t n=false→lk M 4=some (.int .u32 0)→lk M 5=some (.bool false)→
  WQ Tryz.f182.ntmps (bodyPost Tryz.prog Tryz.f182 (fun e w'=>∃v L',e=.returned v∧(v=.tuple #[.int .u32 ((tkV d t n:Nat):Int),.bool (tkB d t n)]∧∃D',RdN p d (tkT d t n) D' E∧L'=D'::E::L)∧Holds w' L') .ret) M (D::E::L):=by
  intro M hb h4 h5
  refine WQ_retI (rs:=[.tmp 4,.tmp 5]) (vs:=[.int .u32 0,.bool false]) rfl (by simp [resT,h4,h5]) ?_
  obtain ⟨e1,e2⟩:=tk_no hb
  rw [e1,e2,hb]
  exact ⟨_,iC,rfl,D,h,rfl⟩
 (repeat' first|refine kW ?_|refine kU fun bk=>?_|refine kV fun hc=>?_|refine kZ (fun hc=>?_) fun hc=>?_|fail)
 ·exact hno _ (tkB_no (by omega)) rfl rfl
 ·exact hno _ (tkB_no (by omega)) rfl rfl
 obtain ⟨m,rfl⟩:∃m:Nat,n=(m:Int):=⟨n.toNat,by omega⟩
 have hm:m≤32:=by omega
 refine OW_call rfl rfl rfl (collect_n p t m d D E L h hm hl) rfl (fun r L' hp=>?_)
 obtain ⟨hfit,rfl,D',⟨v,rfl,ho⟩,rfl⟩|⟨hfit,rfl,rfl⟩:=hp
 ·obtain ⟨e1,e2⟩:=tk_nat hm hfit
  rw [e1,e2,tkB_nat hm hfit]
  have hnx:(t+7) / 8+(m+7 - (8 * ((t+7) / 8) - t)) / 8=(t+m+7) / 8:=by omega
  rw [hnx]
  obtain ⟨nx,hq⟩:∃nx,nx=(t+m+7) / 8:=⟨_,rfl⟩
  rw [←hq]
  obtain ⟨wt,hwt⟩:∃wt,wt=8 * nx - t:=⟨_,rfl⟩
  unfold rdC
  rw [←hwt]
  have hml:val d / 2 ^ t % 2 ^ wt < 2 ^ wt:=Nat.mod_lt _ (Nat.pow_pos (by decide))
  have hp:=pow_le (show wt≤40 by omega)
  have hp2:=pow_le hm
  have hp3:val d / 2 ^ t % 2 ^ wt % 2 ^ m < 2 ^ m:=Nat.mod_lt _ (Nat.pow_pos (by decide))
  refine kW ?_
  refine WC_drawAll [] mixed ?_
  (refine WR_t 0 ?_;refine WR_t 1 ?_;refine WR_t 2 ?_;refine WR_t 3 ?_;refine WR_t 4 ?_)
  refine cI 5 rfl rfl ?_
  refine OW_callP rfl rfl rfl (lowest_n m _ hm) rfl ?_
  refine ⟨iC,?_⟩
  refine cT 6 rfl rfl (EV_nand (val d / 2 ^ t % 2 ^ wt) m rfl rfl rfl rfl rfl (by simp only [IntKind.bits];omega) (by simp only [IntKind.bits];omega)) ?_
  (refine WR_t 7 ?_)
  refine cD ?_
  refine kW ?_
  refine OW_EV (EV_nshr (val d / 2 ^ t % 2 ^ wt) m rfl rfl rfl rfl (by simp only [IntKind.bits];omega)) rfl ?_
  refine kW ?_
  rw [wrap_nat (k:=.u32) rfl (m:=val d / 2 ^ t % 2 ^ wt % 2 ^ m) (by simp only [IntKind.bits];omega)]
  skip
  refine kR ?_
  have f1:val d / 2 ^ t % 2 ^ wt % 2 ^ m=val d / 2 ^ t % 2 ^ m:=Nat.mod_mod_of_dvd _ (Nat.pow_dvd_pow 2 (by omega))
  have f2:val d / 2 ^ t % 2 ^ wt / 2 ^ m=val d / 2 ^ (t+m) % 2 ^ (8 * nx - (t+m)):=by
   rw [show wt=m+(8 * nx - (t+m)) from by omega,Nat.pow_add,Nat.mod_mul_right_div_self,Nat.div_div_eq_div_mul,←Nat.pow_add]
  rw [f1]
  refine ⟨[(p,cl (rdC v d (t+m) nx) 201)]::E::L,?_,rfl,_,⟨by omega,v,by rw [hq],ho⟩,rfl⟩
  unfold rdC
  rw [←f2,show ((8 * nx - (t+m):Nat):Int)=(wt:Int) - (m:Int) from by omega]
  exact iC
 ·refine kW ?_
  exact hno _ (tkB_no (by omega)) rfl rfl
end Go.Proofs.YtemdlifojcgplaaGreatDoor
namespace Go.Proofs.YtemdlifojcgplaaGreatDoor
open Go Go.Vx Go.Hf
variable [W0]
set_option maxRecDepth 4000
set_option linter.all false
theorem goesOn_n (p n v s:Nat) (Fv vs:List Value) (L:List Chunk) (hFl:Fv.length=16) (hvl:vs.length=16) (hf:Fnd L p (cl (Fv++(vs++[.int .i64 (s:Int)])) 342)) (hn:n≤15) (hv:v < 65536) :
 GvP Tryz.prog 268 [.pointer (some ⟨p,0,none⟩),.int .u32 (v:Int),.int .i64 (n:Int)].toArray L (.bool (decide (v * 2 ^ (15 - n) < s))):=by
 have hnt:nth (Fv++(vs++[Value.int .i64 (s:Int)])) 32=some (.int .i64 (s:Int)):=by
  rw [nth_eq,List.getElem?_append_right (by omega),hFl,List.getElem?_append_right (by omega),hvl];rfl
 have hpw:v * 2 ^ (15 - n)≤65536 * 2 ^ 15:=Nat.mul_le_mul (by omega) (Nat.pow_le_pow_right (by decide) (by omega))
 refine Gv.of_body Tryz.func268 rfl rfl ?_
 refine kX ?_
 refine WC_drawAll [] mixed ?_
 (refine WR_t 0 ?_;refine WR_t 1 ?_;refine WR_t 2 ?_;refine WR_t 3 ?_)
 refine cT 4 rfl rfl (EV_shl64 v (15 - n) rfl rfl rfl (by omega) (by omega) (by omega)) ?_
 (refine WR_t 5 ?_;refine WR_t 6 ?_;refine WR_t 7 ?_)
 refine cT 8 rfl rfl (EV_loadc rfl hf hnt) ?_
 (refine WR_t 9 ?_;refine WR_t 10 ?_)
 refine cD ?_
 refine kX ?_
 refine kR ?_
 refine ⟨L,iC,?_,rfl⟩
 exact congrArg Value.bool (decide_eq_decide.2 Int.ofNat_lt)
theorem rdS_at {l:List Nat} {w t z n:Nat} (hn:n≤15) (hI:rdS l w t z 16 0=rdS l w t z (16 - n) n) (hS:symAt l n (hv w t n)=none) :
 rdS l w t z 16 0=if extB l n (hv w t n)=false then (0,3,n) else if z≤t+n then (0,4,n) else rdS l w t z (16 - (n+1)) (n+1):=by
 rw [hI,show 16 - n=(16 - (n+1))+1 from by omega,rdS,hS]
theorem smb_fnd {l:List Nat} {vs:List Value} {Cs:List Chunk} {n:Nat} (h:SyR l l.length vs Cs) (h0:0 < n) (hn:n < 16) {i:Nat} (hi:l[i]? =some n) {D:Chunk} {L:List Chunk} :
 ∃b cap c fr,vs[n]? =some (.slice (some ⟨b,0,none⟩) (cn l n) cap)∧Fnd (D::Cs.flatten::L) b (.cells c 3 fr)∧c[cn (l.take i) n]? =some (.int .i64 (i:Int)):=by
 obtain ⟨v,C,h1,h2,h3⟩:=h.at_ n hn
 have hg:=smb_get hi h0
 have hlen:=smb_length h0 (Nat.le_refl l.length)
 rw [List.take_length] at hlen
 have hlt:=cn_take_lt hi
 rcases h3 with ⟨_,h4,_⟩|⟨b,cap,rest,rfl,rfl,_⟩
 ·omega
 ·refine ⟨b,cap,(ivn (smb l l.length n)++rest).toArray,(0,0),by rw [h1,hlen],?_,?_⟩
  ·show Fnd _ b (cl (ivn (smb l l.length n)++rest) 3)
   refine Fnd.there (Fnd.mem ?_)
   exact List.mem_flatten.2 ⟨_,List.mem_of_getElem? h2,by simp⟩
  ·have h5:=ivn_get hg
   have h6:=(List.getElem?_eq_some_iff.1 h5).1
   rw [List.getElem?_toArray,List.getElem?_append_left h6]
   exact h5
theorem hread_n (p q t:Nat) (l:List Nat) (d:List UInt8) (C D E:Chunk) (L:List Chunk) (hC:CoD l p C) (hk:kS l≤32768) (h15:∀x∈l,x≤15) (h400:l.length≤400) (hR:RdN q d t D E) (hl:d.length≤140737488355328) :
 Gv Tryz.prog 250 [.pointer (some ⟨p,0,none⟩),.pointer (some ⟨q,0,none⟩)].toArray (C::D::E::L) (fun r L'=>∃D',r=.tuple #[.int .i64 ((rdS l (val d) t (8 * d.length) 16 0).1:Int),.int .i64 ((rdS l (val d) t (8 * d.length) 16 0).2.1:Int)]∧
  RdN q d (t+(rdS l (val d) t (8 * d.length) 16 0).2.2) D' E∧L'=C::D'::E::L):=by
 obtain ⟨vs,Cs,rfl,hS⟩:=hC
 have hco:coC l vs=wnv (fsl l 16)++(vs++[.int .i64 (kS l:Int)]):=rfl
 have hFl:(wnv (fsl l 16)).length=16:=by rw [wnv_length,fsl_length]
 have hFg:∀n,n < 16→nth (wnv (fsl l 16)++(vs++[.int .i64 (kS l:Int)])) (0+n * 1)=some (.int .u32 ((fs l n:Nat):Int)):=fun n hn=>by
  rw [Nat.zero_add,Nat.mul_one,nth_eq,List.getElem?_append_left (by omega)]
  have:=fsl_get l 16 hn
  rw [if_pos hn] at this
  exact wnv_get this
 rw [hco]
 generalize wnv (fsl l 16)=Fv at hFl hFg
 obtain ⟨w,hw⟩:∃w,w=val d:=⟨_,rfl⟩
 obtain ⟨z,hz⟩:∃z,z=8 * d.length:=⟨_,rfl⟩
 rw [←hw,←hz]
 refine Gv.holds (L':=[(p,cl (Fv++(vs++[.int .i64 (kS l:Int)])) 342)]::Cs.flatten::D::E::L) ?_ (fun w h=>Holds.split.1 h)
 refine Gv.of_body Tryz.func250 rfl rfl ?_
 refine kX ?_
 refine WC_loop (X:=Nat × Chunk) (fun x=>[(0,.pointer (some ⟨p,0,none⟩)),(1,.pointer (some ⟨q,0,none⟩)),(6,.int .u32 ((hv w t x.1:Nat):Int)),(7,.int .i64 ((x.1+1:Nat):Int))])
  (fun x=>[(p,cl (Fv++(vs++[.int .i64 (kS l:Int)])) 342)]::Cs.flatten::x.2::E::L)
  (fun x=>x.1≤15∧RdN q d (t+x.1) x.2 E∧(if x.1=0 then 0 else fs l x.1+cn l x.1)≤hv w t x.1∧rdS l w t z 16 0=rdS l w t z (16 - x.1) x.1∧symAt l x.1 (hv w t x.1)=none) (fun x=>16 - x.1)
  (0,D) ⟨Nat.zero_le _,hR,Nat.zero_le _,rfl,symAt_none0⟩ iS (fun w h=>h) ?_
 intro x ⟨hx1,hx2,hx3,hx4,hx5⟩
 obtain ⟨n,D1⟩:=x
 simp only at hx1 hx2 hx3 hx4 hx5 ⊢
 have hat:=rdS_at hx1 hx4 hx5
 have hlt:=hv_lt w t n
 have hp15:2 ^ n≤2 ^ 15:=Nat.pow_le_pow_right (by decide) hx1
 have hext:extB l n (hv w t n)=decide (hv w t n * 2 ^ (15 - n) < kS l):=by
  rw [Bool.eq_iff_iff,extB_iff,ext_iff hk h15 hx1,decide_eq_true_eq]
  exact ⟨fun h=>h.2,fun h=>⟨hx3,h⟩⟩
 have hend:∀(e m:Nat) (M:List (Nat × Value)) (D':Chunk),rdS l w t z 16 0=(0,e,m)→RdN q d (t+m) D' E→lk M 4=some (.int .i64 0)→lk M 5=some (.int .i64 (e:Int))→
  WQ Tryz.f250.ntmps (bodyPost Tryz.prog Tryz.f250 (fun e w'=>∃v L',e=.returned v∧(∃D',v=.tuple #[.int .i64 ((rdS l w t z 16 0).1:Int),.int .i64 ((rdS l w t z 16 0).2.1:Int)]∧
  RdN q d (t+(rdS l w t z 16 0).2.2) D' E∧L'=([(p,cl (Fv++(vs++[.int .i64 (kS l:Int)])) 342)]++Cs.flatten)::D'::E::L)∧Holds w' L') .ret) M ([(p,cl (Fv++(vs++[.int .i64 (kS l:Int)])) 342)]::Cs.flatten::D'::E::L):=by
  intro e m M D' he hr h4 h5
  refine WQ_retH (rs:=[.tmp 4,.tmp 5]) (vs:=[.int .i64 0,.int .i64 (e:Int)]) rfl (by simp [resT,h4,h5]) ?_
  rw [he]
  exact ⟨_,fun w h=>Holds.split.2 h,D',rfl,hr,rfl⟩
 (repeat' first|refine kX ?_|refine kU fun bk=>?_|refine kV fun hc=>?_|refine kZ (fun hc=>?_) fun hc=>?_|fail)
 ·have hn14:n≤14:=by omega
  rw [show (((n+1:Nat):Nat):Int) - 1=(n:Int) from by omega]
  refine cP rfl rfl (goesOn_n p n (hv w t n) (kS l) Fv vs _ hFl hS.lv Fnd.here (by omega) (by omega)) ?_
  by_cases hgo:¬hv w t n * 2 ^ (15 - n) < kS l
  ·rw [decide_eq_false hgo] at hext ⊢
   rw [if_pos hext] at hat
   refine kX ?_
   exact hend 3 n _ _ hat hx2 rfl rfl
  rw [decide_eq_true (Decidable.of_not_not hgo)] at hext ⊢
  rw [if_neg (by rw [hext];simp)] at hat
  refine kX ?_
  refine cC rfl rfl (Gv.take2 (take_n q (t+n) 1 d D1 E ([(p,cl (Fv++(vs++[.int .i64 (kS l:Int)])) 342)]::Cs.flatten::L) hx2 hl) (by repeat (first|exact Take.here|apply Take.there)) (by repeat (first|exact Take.here|apply Take.there))) (fun r L' hp=>?_)
  obtain ⟨rfl,D2,hr2,rfl⟩:=hp
  by_cases hz2:z≤t+n
  ·rw [if_pos hz2] at hat
   have hb:tkB d (t+n) 1=false:=tkB_no (by omega)
   have htt:tkT d (t+n) 1=t+n:=by unfold tkT;rw [hb];rfl
   rw [htt] at hr2
   rw [hb]
   refine kX ?_
   refine WQ_holds (L':=[(p,cl (Fv++(vs++[.int .i64 (kS l:Int)])) 342)]::Cs.flatten::D2::E::L) (fun w h=>iH h) ?_
   exact hend 4 n _ _ hat hr2 rfl rfl
  rw [if_neg hz2] at hat
  have hb:tkB d (t+n) 1=true:=tkB_nat (n:=1) (by omega) (by omega)
  obtain ⟨hv1,hv2⟩:=tk_nat (d:=d) (t:=t+n) (n:=1) (by omega) (by omega)
  have hv1:tkV d (t+n) 1=w / 2 ^ (t+n) % 2:=by rw [hw];exact hv1
  have hv2:tkT d (t+n) 1=t+(n+1):=hv2
  rw [hv2] at hr2
  rw [hb,hv1]
  have hvs:hv w t (n+1)=2 * hv w t n+w / 2 ^ (t+n) % 2:=rfl
  obtain ⟨bt,hbt⟩:∃bt,bt=w / 2 ^ (t+n) % 2:=⟨_,rfl⟩
  have hbt2:bt < 2:=by omega
  rw [←hbt] at hvs ⊢
  have hvl:=hv_lt w t (n+1)
  have hp16:2 ^ (n+1)≤2 ^ 15:=Nat.pow_le_pow_right (by decide) (by omega)
  have hfsn:fs l (n+1)=2 * (fs l n+if n=0 then 0 else cn l n):=rfl
  have hge:fs l (n+1)≤hv w t (n+1):=by
   rw [hvs,hfsn]
   by_cases h0:n=0
   ·subst h0;simp [fs]
   ·rw [if_neg h0] at hx3 ⊢;omega
  have hlast:rdS l w t z 16 0=match symAt l (n+1) (hv w t (n+1)) with
   |some i=>(i,0,n+1)
   |none=>rdS l w t z (16 - (n+1)) (n+1):=by
   rw [hat]
   cases hs:symAt l (n+1) (hv w t (n+1)) with
   |none=>rfl
   |some i=>rw [show 16 - (n+1)=(15 - (n+1))+1 from by omega,rdS,hs]
  refine kW ?_
  refine OW_EV (EV_nshl (hv w t n) 1 rfl rfl rfl rfl rfl (by simp only [IntKind.bits];omega)) rfl ?_
  refine kW ?_
  refine OW_EV (EV_nor' bt (hv w t n) 1 rfl rfl rfl rfl rfl (by omega) (by simp only [IntKind.bits];omega)) rfl ?_
  rw [show bt+hv w t n * 2 ^ 1=hv w t (n+1) from by rw [hvs];omega]
  refine kW ?_
  refine OW_EV (EV_indexAddrA' (n+1) rfl rfl rfl (by omega)) rfl ?_
  refine kW ?_
  refine OW_EV (EV_loadc rfl (by repeat (first|assumption|exact Fnd.here|refine Fnd.there ?_)) (hFg (n+1) (by omega))) rfl ?_
  refine kW ?_
  refine OW_EV (EV_nsub (hv w t (n+1)) (fs l (n+1)) rfl rfl rfl rfl rfl hge (by simp only [IntKind.bits];omega)) rfl ?_
  obtain ⟨x,hx⟩:∃x,x=hv w t (n+1) - fs l (n+1):=⟨_,rfl⟩
  rw [←hx]
  have hxb:x≤32768:=by omega
  refine kW ?_
  refine OW_EV (EV_indexAddrA' (n+1) rfl rfl rfl (by omega)) rfl ?_
  refine kW ?_
  obtain ⟨v,C1,hv1,hC1,ho1⟩:=hS.at_ (n+1) (by omega)
  obtain ⟨sa,sc,rfl⟩:=ow_slc ho1
  have hsl:=smb_length (l:=l) (n:=n+1) (by omega) (Nat.le_refl l.length)
  rw [List.take_length] at hsl
  rw [hsl] at hv1
  refine OW_EV (EV_loadc rfl (by repeat (first|assumption|exact Fnd.here|refine Fnd.there ?_)) (co_nth hFl hv1)) rfl ?_
  (repeat' first|refine kW ?_|refine kU fun bk=>?_|refine kV fun hc=>?_|refine kZ (fun hc=>?_) fun hc=>?_|fail)
  ·refine OW_EV (EV_indexAddrA' (n+1) rfl rfl rfl (by omega)) rfl ?_
   refine kW ?_
   obtain ⟨i,hi1,hi2⟩:=cd_surj (l:=l) (n:=n+1) (by omega) hge (show hv w t (n+1) < fs l (n+1)+cn l (n+1) by omega)
   obtain ⟨b,cap,cc,fr,hvb,hfn,hcell⟩:=smb_fnd hS (by omega) (by omega) hi1 (D:=[(p,cl (Fv++(vs++[.int .i64 (kS l:Int)])) 342)]) (L:=D2::E::L)
   rw [hv1] at hvb
   injection hvb with hvb
   injection hvb with e1 e2 e3
   subst e1 e3
   refine OW_EV (EV_loadc rfl (by repeat (first|assumption|exact Fnd.here|refine Fnd.there ?_)) (co_nth hFl hv1)) rfl ?_
   refine kW ?_
   have hcd:cd l i=fs l (n+1)+cn (l.take i) (n+1):=by
    have hg:l.getD i 0=n+1:=by simp [List.getD,hi1]
    unfold cd;rw [hg,if_neg (by omega)]
   have hxc:x=cn (l.take i) (n+1):=by omega
   have hcell':cc[x * 1]? =some (.int .i64 (i:Int)):=by rw [Nat.mul_one,hxc];exact hcell
   have hsy:=symAt_some hi1 (by omega)
   rw [hi2] at hsy
   rw [hsy] at hlast
   refine OW_holds (L':=[(p,cl (Fv++(vs++[.int .i64 (kS l:Int)])) 342)]::Cs.flatten::D2::E::L) (fun w h=>iH h) ?_
   refine OW_EV (EV_indexAddr0 (j:=x) rfl rfl rfl (by omega)) rfl ?_
   refine kW ?_
   refine OW_EV (EV_load rfl hfn hcell') rfl ?_
   refine kW ?_
   refine kH ?_
   rw [hlast]
   exact ⟨_,fun w h=>Holds.split.2 h,D2,rfl,hr2,rfl⟩
  ·have hs:symAt l (n+1) (hv w t (n+1))=none:=symAt_none (.inr (by omega))
   rw [hs] at hlast
   refine WQ_round (X:=Nat × Chunk) (μ:=fun x=>16 - x.1) (x:=(n,D1)) (n+1,D2) (by simp only;omega) ⟨by simp only;omega,hr2,?_,hlast,hs⟩ iS (fun w h=>iH h)
   simp only
   rw [if_neg (by omega)]
   omega
 ·have hn15:n=15:=by omega
  subst hn15
  have hno:extB l 15 (hv w t 15)=false:=by
   cases he:extB l 15 (hv w t 15) with
   |false=>rfl
   |true=>
    obtain ⟨i,m,h1,h2,_⟩:=extB_iff.1 he
    have:=h15 m (List.mem_of_getElem? h1)
    omega
  rw [if_pos hno] at hat
  exact hend 3 15 _ _ hat hx2 rfl rfl
end Go.Proofs.YtemdlifojcgplaaGreatDoor
namespace Go.If
open Go.Vx Go.Hf
set_option linter.all false
theorem tk_ok {d:List UInt8} {s:S6} {n:Nat} (h:s.t+n≤8 * d.length):tk d s n=⟨s.t+n,s.out,s.e⟩:=by unfold tk;rw [if_pos h]
theorem tk_no {d:List UInt8} {s:S6} {n:Nat} (h:¬s.t+n≤8 * d.length) (he:s.e=0):tk d s n=⟨s.t,s.out,4⟩:=by unfold tk fl;rw [if_neg h,if_pos he]
theorem tv_ok [W0] {d:List UInt8} {s:S6} {n:Nat} (h:s.t+n≤8 * d.length):tv d s n=val d / 2 ^ s.t % 2 ^ n:=by unfold tv;rw [if_pos h]
def spF (n st:Nat):Nat:=if n < 2 * st then n else (st+n % st) * 2 ^ (n / st - 1)
def spX (n st:Nat):Nat:=if n < 2 * st then 0 else n / st - 1
theorem sp_len:∀t,t < 28→3+spF t 4=baB 3 4 8 t∧spX t 4=exB t 4 8:=by decide
theorem sp_dst:∀t,t < 30→1+spF t 2=baB 1 2 4 t∧spX t 2=exB t 2 4:=by decide
def lnS (d:List UInt8) (k:Nat) (s:S6):S6:=if 285 < k then fl s 3 else tk d s (lnB k).2
def dsS [W0] (d:List UInt8) (dl:List Nat) (s:S6):S6:=if (sy d s dl).e≠0 then sy d s dl else if 29 < sv d s dl then fl (sy d s dl) 3 else tk d (sy d s dl) (exB (sv d s dl) 2 4)
def dsV [W0] (d:List UInt8) (dl:List Nat) (s:S6):Nat:=baB 1 2 4 (sv d s dl)+tv d (sy d s dl) (exB (sv d s dl) 2 4)
theorem fl_err {s:S6} {k:Nat} (h:s.e≠0):fl s k=s:=by unfold fl;rw [if_neg h]
theorem sy_err [W0] {d:List UInt8} {s:S6} {l:List Nat} (h:s.e≠0):sy d s l=s:=by unfold sy;rw [if_neg h]
theorem cpL_err {most far:Nat} {s:S6} (h:s.e≠0):∀n,cpL most far n s=s
 |0=>rfl
 |n+1=>by rw [cpL,if_neg h]
theorem mtS_err1 [W0] {d:List UInt8} {most k:Nat} {dl:List Nat} {s:S6} (h:(lnS d k s).e≠0):(mtS d most k dl s).e=(lnS d k s).e:=by
 unfold lnS at h ⊢
 unfold mtS
 split
 ·rfl
 ·rename_i h2
  rw [if_neg h2] at h
  rw [sy_err h,if_pos h]
theorem mtS_err2 [W0] {d:List UInt8} {most k:Nat} {dl:List Nat} {s:S6} (h1:¬285 < k) (h:(dsS d dl (tk d s (lnB k).2)).e≠0):(mtS d most k dl s).e=(dsS d dl (tk d s (lnB k).2)).e:=by
 unfold dsS at h ⊢
 unfold mtS
 rw [if_neg h1]
 split
 ·rfl
 ·rename_i h2
  rw [if_neg h2] at h
  split
  ·rfl
  ·rename_i h3
   rw [if_neg h3] at h
   unfold mtD
   rw [if_neg (fun hh=>h hh.1),cpL_err h]
theorem mtS_ok [W0] {d:List UInt8} {most k:Nat} {dl:List Nat} {s:S6} (h1:¬285 < k) (h:(dsS d dl (tk d s (lnB k).2)).e=0) :
 mtS d most k dl s=cpL most (dsV d dl (tk d s (lnB k).2)) ((lnB k).1+tv d s (lnB k).2) (if (dsS d dl (tk d s (lnB k).2)).out.length < dsV d dl (tk d s (lnB k).2) then fl (dsS d dl (tk d s (lnB k).2)) 3 else dsS d dl (tk d s (lnB k).2)):=by
 unfold dsS at h ⊢
 unfold mtS dsV
 rw [if_neg h1]
 split
 ·rename_i h2;rw [if_pos h2] at h;exact absurd h h2
 ·rename_i h2
  rw [if_neg h2] at h
  split
  ·rename_i h3
   rw [if_pos h3,fl_e] at h
   split at h
   ·cases h
   ·exact absurd h (by assumption)
  ·rename_i h3
   rw [if_neg h3] at h
   unfold mtD
   simp only [h,true_and]
theorem pt_ok {most:Nat} {s:S6} {c:UInt8} (h:s.out.length < most):pt most s c=⟨s.t,s.out++[c],s.e⟩:=by unfold pt;rw [if_neg (by omega)]
theorem pt_no {most:Nat} {s:S6} {c:UInt8} (h:most≤s.out.length):pt most s c=fl s 5:=by unfold pt;rw [if_pos h]
theorem cpL_over (most far:Nat):∀n s,s.e=0→s.out.length≤most→most < s.out.length+n→(cpL most far n s).e=5
 |0,s,_,h2,h=>by omega
 |n+1,s,he,h2,h=>by
  rw [cpL,if_pos he]
  by_cases h1:s.out.length < most
  ·rw [pt_ok h1]
   exact cpL_over most far n _ he (by simp;omega) (by simp;omega)
  ·rw [pt_no (by omega)]
   have:(fl s 5).e=5:=by rw [fl_e,if_pos he]
   rw [cpL_err (by rw [this];decide),this]
end Go.If
namespace Go.Proofs.YtemdlifojcgplaaGreatDoor
open Go Go.Vx Go.Hf Go.If
variable [W0]
set_option maxRecDepth 4000
set_option linter.all false
omit [W0] in
def rdR (p q:Nat) (v:Value) (most:Nat) (kn:Value):Chunk:=[(p,cl [.pointer (some ⟨q,0,none⟩),v,.int .i64 (most:Int),kn] 144)]
theorem ptake_n (p q most n:Nat) (v kn:Value) (d:List UInt8) (s:S6) (D E:Chunk) (L:List Chunk) (h:RdN q d s.t D E) (hl:d.length≤140737488355328) (hn:n≤32) (he:s.e=0) :
 Gv Tryz.prog 131 [.pointer (some ⟨p,0,none⟩),.int .i64 (n:Int)].toArray (rdR p q v most kn::D::E::L) (fun r L'=>
  ((tk d s n).e≠0∧r=.tuple #[.int .i64 0,.int .i64 ((tk d s n).e:Int)]∧L'=L)∨
  ((tk d s n).e=0∧r=.tuple #[.int .i64 ((tv d s n:Nat):Int),.int .i64 0]∧∃D',RdN q d (tk d s n).t D' E∧L'=rdR p q v most kn::D'::E::L)):=by
 refine Gv.of_body Tryz.func131 rfl rfl ?_
 have hbt:=take_n q s.t (n:Int) d D E (rdR p q v most kn::L) h hl
 by_cases hc:s.t+n≤8 * d.length
 ·rw [tkB_nat hn hc,(tk_nat hn hc).1,(tk_nat hn hc).2] at hbt
  rw [tk_ok hc,tv_ok hc]
  have hb32:val d / 2 ^ s.t % 2 ^ n < 2 ^ 32:=Nat.lt_of_lt_of_le (Nat.mod_lt _ (Nat.pow_pos (by decide))) (Nat.pow_le_pow_right (by decide) hn)
  generalize val d / 2 ^ s.t % 2 ^ n=z at hbt hb32 ⊢
  unfold rdR at hbt ⊢
  refine kW ?_
  refine cC rfl rfl (Gv.holds hbt (fun w h=>iH h)) (fun r L' hp=>?_)
  obtain ⟨rfl,D',hr,rfl⟩:=hp
  refine kW ?_
  refine WQ_retI (rs:=[.tmp 4,.tmp 5]) (vs:=[.int .i64 (z:Int),.int .i64 0]) rfl rfl ?_
  exact ⟨_,iC,.inr ⟨he,rfl,D',hr,rfl⟩⟩
 ·have hb0:=tkB_no (d:=d) (t:=s.t) (n:=(n:Int)) (by omega)
  rw [hb0,(Go.Proofs.YtemdlifojcgplaaGreatDoor.tk_no hb0).1,(Go.Proofs.YtemdlifojcgplaaGreatDoor.tk_no hb0).2] at hbt
  rw [Go.If.tk_no hc he]
  unfold rdR at hbt ⊢
  refine kW ?_
  refine cC rfl rfl (Gv.holds hbt (fun w h=>iH h)) (fun r L' hp=>?_)
  obtain ⟨rfl,D',hr,rfl⟩:=hp
  refine kW ?_
  refine WQ_retI (rs:=[.tmp 4,.tmp 5]) (vs:=[.int .i64 0,.int .i64 4]) rfl rfl ?_
  exact ⟨_,iC,.inl ⟨by simp,rfl,rfl⟩⟩
theorem pcount_n (p q most n least:Nat) (v kn:Value) (d:List UInt8) (s:S6) (D E:Chunk) (L:List Chunk) (h:RdN q d s.t D E) (hl:d.length≤140737488355328) (hn:n≤32) (he:s.e=0) (hle:least≤1000000) :
 Gv Tryz.prog 252 [.pointer (some ⟨p,0,none⟩),.int .i64 (n:Int),.int .i64 (least:Int)].toArray (rdR p q v most kn::D::E::L) (fun r L'=>
  ((tk d s n).e≠0∧r=.tuple #[.int .i64 0,.int .i64 ((tk d s n).e:Int)]∧L'=L)∨
  ((tk d s n).e=0∧r=.tuple #[.int .i64 ((least+tv d s n:Nat):Int),.int .i64 0]∧∃D',RdN q d (tk d s n).t D' E∧L'=rdR p q v most kn::D'::E::L)):=by
 refine Gv.of_body Tryz.func252 rfl rfl ?_
 have hbt:=ptake_n p q most n v kn d s D E L h hl hn he
 have htl:tv d s n < 2 ^ 32:=Nat.lt_of_lt_of_le (tv_lt d s n) (Nat.pow_le_pow_right (by decide) hn)
 generalize tv d s n=z at hbt htl ⊢
 generalize tk d s n=s1 at hbt ⊢
 refine kW ?_
 refine cC rfl rfl hbt (fun r L' hp=>?_)
 rcases hp with ⟨h1,rfl,rfl⟩|⟨h1,rfl,D',hr,rfl⟩
 ·(refine kW ?_;refine kV fun hc=>?_;refine kW ?_)
  refine kR ?_
  exact ⟨_,iC,.inl ⟨h1,rfl,rfl⟩⟩
 ·refine kW ?_
  rw [show (least:Int)+(z:Int)=((least+z:Nat):Int) from by omega]
  refine kR ?_
  exact ⟨_,iC,.inr ⟨h1,rfl,D',hr,rfl⟩⟩
theorem pput_n (p q most:Nat) (c:UInt8) (v kn:Value) (s:S6) (C:Chunk) (L:List Chunk) (ho:Ow 5 1 v s.out.length (bsv s.out) C) (hm:most≤1000000) (he:s.e=0) (hk:kn.oneCell'=true) :
 Gv Tryz.prog 221 [.pointer (some ⟨p,0,none⟩),.int .u8 (c.toNat:Int)].toArray (rdR p q v most kn::C::L) (fun r L'=>
  ((pt most s c).e≠0∧r=.int .i64 ((pt most s c).e:Int)∧L'=L)∨
  ((pt most s c).e=0∧r=.int .i64 0∧∃v' C',Ow 5 1 v' (pt most s c).out.length (bsv (pt most s c).out) C'∧L'=rdR p q v' most kn::C'::L)):=by
 refine Gv.of_body Tryz.func221 rfl rfl ?_
 obtain ⟨t,out,e⟩:=s
 simp only at ho he ⊢
 subst he
 obtain ⟨va,vc,rfl⟩:=ow_slc ho
 by_cases h1:most≤out.length
 ·rw [pt_no (by exact h1)]
  simp only [fl,if_true]
  unfold rdR
  refine kW ?_
  refine WC_drawAll [] mixed ?_
  (refine WR_t 0 ?_;refine WR_t 1 ?_;refine WR_t 2 ?_;refine WR_t 3 ?_;refine WR_t 4 ?_;refine WR_t 5 ?_;refine WR_t 6 ?_;refine WR_t 7 ?_;refine WR_t 8 ?_;refine WR_t 9 ?_)
  refine cD ?_
  (refine kW ?_;refine kV fun hc=>?_;refine kW ?_)
  refine kR ?_
  exact ⟨_,iC,.inl ⟨by simp,rfl,rfl⟩⟩
 ·rw [pt_ok (by simp only;omega)]
  unfold rdR
  refine kW ?_
  refine WC_drawAll [] mixed ?_
  (refine WR_t 0 ?_;refine WR_t 1 ?_;refine WR_t 2 ?_;refine WR_t 3 ?_;refine WR_t 4 ?_;refine WR_t 5 ?_;refine WR_t 6 ?_;refine WR_t 7 ?_;refine WR_t 8 ?_;refine WR_t 9 ?_)
  refine cD ?_
  (refine kW ?_;refine kV fun hc=>?_;refine kW ?_)
  refine OW_buildSlice (cs:=[.int .u8 (c.toNat:Int)]) rfl (by rfl) (by first|(simp [fillL,patch,Value.cells,zeros];done)|(simp [fillL,patch,Value.cells,zeros];rfl)) (by omega) rfl rfl (fun bn=>?_)
  refine kW ?_
  refine OW_append rfl rfl ho (sl_cells (k:=1) (c:=#[.int .u8 (c.toNat:Int)]) (xs:=[.int .u8 (c.toNat:Int)]) (m:=1) Fnd.here rfl (by simp)) (by repeat (first|exact Zip.here _|apply Zip.there)) rfl (by rfl) (by omega) (by simp [maxLen];omega) rfl (fun v' C' ho' _ _=>?_)
  refine kW ?_
  refine OW_storeTo [.pointer (some ⟨q,0,none⟩),v',.int .i64 (most:Int),kn] rfl rfl (by rcases ho' with ⟨rfl,_⟩|⟨_,_,_,rfl,_⟩<;>rfl) rfl iU (by simp) ?_
  refine kW ?_
  refine kR ?_
  refine ⟨_,iC,.inr ⟨rfl,rfl,v',C',?_,rfl⟩⟩
  rw [List.length_append,show bsv (out++[c])=bsv out++[Value.int .u8 (c.toNat:Int)] from by simp [bsv]]
  exact ho'
theorem span_n (n st:Nat) (L:List Chunk) (h1:n≤100) (h2:1≤st) (h3:st≤100) (h4:spX n st≤20) :
 GvP Tryz.prog 231 [.int .i64 (n:Int),.int .i64 (st:Int)].toArray L (.tuple #[.int .i64 ((spF n st:Nat):Int),.int .i64 ((spX n st:Nat):Int)]):=by
 refine Gv.of_body Tryz.func231 rfl rfl ?_
 unfold spF spX at *
 (repeat' first|refine kW ?_|refine kU fun bk=>?_|refine kV fun hc=>?_|refine kZ (fun hc=>?_) fun hc=>?_|fail)
 ·rw [if_pos (show n < 2 * st by omega),if_pos (show n < 2 * st by omega)]
  exact kE
 ·rw [if_neg (show ¬n < 2 * st by omega)] at h4 ⊢
  rw [if_neg (show ¬n < 2 * st by omega)]
  have hq:n / st≤n:=Nat.div_le_self _ _
  have hq2:2≤n / st:=by
   rw [Nat.le_div_iff_mul_le (by omega)];omega
  have hr:n % st < st:=Nat.mod_lt _ (by omega)
  refine OW_EV (EV_quoN n st rfl rfl (by omega) rfl (by omega) (by omega)) rfl ?_
  generalize n / st=z at hq hq2 h4 ⊢
  refine kW ?_
  refine OW_EV (EV_remN n st rfl rfl rfl rfl (by omega)) rfl ?_
  generalize n % st=y at hr ⊢
  have hp:2 ^ (z - 1)≤2 ^ 20:=Nat.pow_le_pow_right (by decide) h4
  have hpm:(st+y) * 2 ^ (z - 1)≤200 * 2 ^ 20:=Nat.mul_le_mul (by omega) hp
  refine kW ?_
  rw [show (z:Int) - 1=((z - 1:Nat):Int) from by omega,show (st:Int)+(y:Int)=((st+y:Nat):Int) from by omega]
  refine OW_EV (EV_shl64 (st+y) (z - 1) rfl rfl rfl (by omega) (by omega) (by omega)) rfl ?_
  refine kW ?_
  exact kE
end Go.Proofs.YtemdlifojcgplaaGreatDoor
namespace Go.If
open Go.Vx Go.Hf
set_option linter.all false
def ordL:List Nat:=[16,17,18,0,8,7,9,6,10,5,11,4,12,3,13,2,14,1,15]
def rpB (k:Nat):Nat:=if k=16 then 2 else if k=17 then 3 else if k=18 then 7 else 0
def rpA (k:Nat):Nat:=if k=16 then 3 else if k=17 then 3 else if k=18 then 11 else 1
theorem lnB_b:∀k,k < 286→257≤k→(lnB k).1≤258∧(lnB k).2≤5:=by decide+kernel
theorem dsB_b:∀t,t < 30→baB 1 2 4 t≤32768∧exB t 2 4≤13:=by decide+kernel
end Go.If
namespace Go.Proofs.YtemdlifojcgplaaGreatDoor
open Go Go.Vx Go.Hf Go.If
variable [W0]
set_option maxRecDepth 4000
set_option linter.all false
theorem slength_n (k:Nat) (L:List Chunk) (h1:257≤k) (h2:k≤285) :
 GvP Tryz.prog 196 [.int .i64 (k:Int)].toArray L (.tuple #[.int .i64 (((lnB k).1:Nat):Int),.int .i64 (((lnB k).2:Nat):Int)]):=by
 refine Gv.of_body Tryz.func196 rfl rfl ?_
 by_cases h285:k=285
 ·subst h285
  refine kW ?_
  refine kR ?_
  exact ⟨_,iC,rfl,rfl⟩
 ·have hsp:=sp_len (k - 257) (by omega)
  have hb:=lnB_b k (by omega) h1
  have e1:(lnB k).1=3+spF (k - 257) 4∧(lnB k).2=spX (k - 257) 4:=by
   unfold lnB
   rw [if_neg h285]
   exact ⟨hsp.1.symm,hsp.2.symm⟩
  rw [e1.1,e1.2] at hb ⊢
  have hspn:=span_n (k - 257) 4 L (by omega) (by decide) (by decide) (by omega)
  generalize spX (k - 257) 4=x4 at hspn hb ⊢
  generalize spF (k - 257) 4=f4 at hspn hb ⊢
  (refine kW ?_;refine kV fun hc=>?_;refine kW ?_)
  rw [show (k:Int) - 256 - 1=((k - 257:Nat):Int) from by omega]
  refine cP rfl rfl hspn ?_
  refine kW ?_
  rw [show (3:Int)+(f4:Int)=((3+f4:Nat):Int) from by omega]
  refine kR ?_
  exact ⟨_,iC,rfl,rfl⟩
theorem sdistance_n (t:Nat) (L:List Chunk) (h1:t < 30) :
 GvP Tryz.prog 232 [.int .i64 (t:Int)].toArray L (.tuple #[.int .i64 ((baB 1 2 4 t:Nat):Int),.int .i64 ((exB t 2 4:Nat):Int)]):=by
 refine Gv.of_body Tryz.func232 rfl rfl ?_
 have hsp:=sp_dst t h1
 have hb:=dsB_b t h1
 rw [←hsp.1,←hsp.2] at hb ⊢
 have hspn:=span_n t 2 L (by omega) (by decide) (by decide) (by omega)
 generalize spX t 2=x4 at hspn hb ⊢
 generalize spF t 2=f4 at hspn hb ⊢
 refine kW ?_
 refine cP rfl rfl hspn ?_
 refine kW ?_
 rw [show (1:Int)+(f4:Int)=((1+f4:Nat):Int) from by omega]
 refine kR ?_
 exact ⟨_,iC,rfl,rfl⟩
theorem srun_n (k:Nat) (L:List Chunk) (h:k≤1000000) :
 GvP Tryz.prog 198 [.int .i64 (k:Int)].toArray L (.tuple #[.int .i64 ((rpA k:Nat):Int),.int .i64 ((rpB k:Nat):Int)]):=by
 refine Gv.of_body Tryz.func198 rfl rfl ?_
 (repeat' first|refine kW ?_|refine kU fun bk=>?_|refine kV fun hc=>?_|refine kZ (fun hc=>?_) fun hc=>?_|fail)
 ·have:k=16:=by omega
  subst this
  refine kR ?_
  exact ⟨_,iC,rfl,rfl⟩
 ·have:k=17:=by omega
  subst this
  refine kR ?_
  exact ⟨_,iC,rfl,rfl⟩
 ·have:k=18:=by omega
  subst this
  refine kR ?_
  exact ⟨_,iC,rfl,rfl⟩
 ·have e1:rpA k=1:=by unfold rpA;rw [if_neg (by omega),if_neg (by omega),if_neg (by omega)]
  have e2:rpB k=0:=by unfold rpB;rw [if_neg (by omega),if_neg (by omega),if_neg (by omega)]
  rw [e1,e2]
  refine kR ?_
  exact ⟨_,iC,rfl,rfl⟩
def OrAt (L:List Chunk):Prop:=∃c T fr,Fnd L 6 (.cells c T fr)∧∀i,i < 19→c[i]? =some (.int .i64 (ordL.getD i 0:Int))
theorem OrAt.there {L:List Chunk} {C:Chunk} (h:OrAt L):OrAt (C::L):=by
 obtain ⟨c,T,fr,h1,h2⟩:=h
 exact ⟨c,T,fr,h1.there,h2⟩
theorem sordered_n (i:Nat) (L:List Chunk) (hor:OrAt L) (h:i < 19) :
 GvP Tryz.prog 283 [.int .i64 (i:Int)].toArray L (.int .i64 ((ordL.getD i 0:Nat):Int)):=by
 refine Gv.of_body Tryz.func283 rfl rfl ?_
 obtain ⟨c,T,fr,h1,h2⟩:=hor
 have h3:=h2 i h
 obtain ⟨z,hz⟩:∃z,z=ordL.getD i 0:=⟨_,rfl⟩
 rw [←hz] at h3 ⊢
 refine kW ?_
 refine OW_EV (EV_indexAddrA' i rfl rfl rfl (by omega)) rfl ?_
 refine kW ?_
 refine OW_EV (EV_load rfl h1 (by simpa using h3)) rfl ?_
 refine kW ?_
 refine kR ?_
 exact ⟨_,iC,rfl,rfl⟩
theorem plength_n (p q most k:Nat) (v kn:Value) (d:List UInt8) (s:S6) (D E:Chunk) (L:List Chunk) (h:RdN q d s.t D E) (hl:d.length≤140737488355328) (he:s.e=0) (hk1:257≤k) (hk2:k≤1000) :
 Gv Tryz.prog 269 [.pointer (some ⟨p,0,none⟩),.int .i64 (k:Int)].toArray (rdR p q v most kn::D::E::L) (fun r L'=>
  ((lnS d k s).e≠0∧r=.tuple #[.int .i64 0,.int .i64 ((lnS d k s).e:Int)]∧L'=L)∨
  ((lnS d k s).e=0∧k≤285∧r=.tuple #[.int .i64 (((lnB k).1+tv d s (lnB k).2:Nat):Int),.int .i64 0]∧∃D',RdN q d (lnS d k s).t D' E∧L'=rdR p q v most kn::D'::E::L)):=by
 refine Gv.of_body Tryz.func269 rfl rfl ?_
 by_cases h285:285 < k
 ·unfold lnS
  rw [if_pos h285,fl_e,if_pos he]
  (refine kW ?_;refine kV fun hc=>?_;refine kW ?_)
  refine WQ_retI (rs:=[.tmp 4,.tmp 5]) (vs:=[.int .i64 0,.int .i64 3]) rfl rfl ?_
  exact ⟨_,iC,.inl ⟨by decide,rfl,rfl⟩⟩
 ·unfold lnS
  rw [if_neg h285]
  have hb:=lnB_b k (by omega) hk1
  have hsl:=slength_n k (rdR p q v most kn::D::E::L) hk1 (by omega)
  have hcn:=pcount_n p q most (lnB k).2 (lnB k).1 v kn d s D E L h hl (by omega) he (by omega)
  generalize lnB k=lk at hb hsl hcn ⊢
  generalize tv d s lk.2=z at hcn ⊢
  generalize tk d s lk.2=s1 at hcn ⊢
  (refine kW ?_;refine kV fun hc=>?_;refine kW ?_)
  refine cP rfl rfl hsl ?_
  refine kW ?_
  refine cC rfl rfl hcn (fun r L' hp=>?_)
  rcases hp with ⟨h1,rfl,rfl⟩|⟨h1,rfl,D',hr,rfl⟩
  ·refine kW ?_
   refine kR ?_
   exact ⟨_,iC,.inl ⟨h1,rfl,rfl⟩⟩
  ·refine kW ?_
   refine kR ?_
   exact ⟨_,iC,.inr ⟨h1,by omega,rfl,D',hr,rfl⟩⟩
theorem pdist_n (p q pc most:Nat) (v kn:Value) (dl:List Nat) (d:List UInt8) (s:S6) (D E Cd:Chunk) (L:List Chunk) (h:RdN q d s.t D E) (hl:d.length≤140737488355328) (he:s.e=0)
 (hC:CoD dl pc Cd) (hk:kS dl≤32768) (h15:∀x∈dl,x≤15) (h400:dl.length≤400) :
 Gv Tryz.prog 270 [.pointer (some ⟨p,0,none⟩),.pointer (some ⟨pc,0,none⟩)].toArray (rdR p q v most kn::D::E::Cd::L) (fun r L'=>
  ((dsS d dl s).e≠0∧r=.tuple #[.int .i64 0,.int .i64 ((dsS d dl s).e:Int)]∧L'=L)∨
  ((dsS d dl s).e=0∧r=.tuple #[.int .i64 ((dsV d dl s:Nat):Int),.int .i64 0]∧dsV d dl s≤1000000∧1≤dsV d dl s∧∃D',RdN q d (dsS d dl s).t D' E∧L'=rdR p q v most kn::D'::E::Cd::L)):=by
 refine Gv.of_body Tryz.func270 rfl rfl ?_
 have hr:=hread_n pc q s.t dl d Cd D E (rdR p q v most kn::L) hC hk h15 h400 h hl
 have hsv:sv d s dl=(rdS dl (val d) s.t (8 * d.length) 16 0).1:=by unfold sv;rw [if_pos he]
 have hsy:sy d s dl=⟨s.t+(rdS dl (val d) s.t (8 * d.length) 16 0).2.2,s.out,(rdS dl (val d) s.t (8 * d.length) 16 0).2.1⟩:=by unfold sy fl;rw [if_pos he,if_pos (by exact he)]
 have hlt:=(rdS_lt dl (val d) s.t (8 * d.length) 16 0).1
 rw [←hsv] at hr hlt
 have e1:s.t+(rdS dl (val d) s.t (8 * d.length) 16 0).2.2=(sy d s dl).t:=by rw [hsy]
 have e2:(rdS dl (val d) s.t (8 * d.length) 16 0).2.1=(sy d s dl).e:=by rw [hsy]
 rw [e1,e2] at hr
 clear hsy hsv e1 e2
 unfold dsS dsV
 generalize sv d s dl=t at hr hlt ⊢
 generalize sy d s dl=s1 at hr ⊢
 unfold rdR at hr ⊢
 refine kW ?_
 refine cC rfl rfl (Gv.holds hr (fun w h=>iH h)) (fun r L' hp=>?_)
 obtain ⟨D1,rfl,hR1,rfl⟩:=hp
 (repeat' first|refine kW ?_|refine kU fun bk=>?_|refine kV fun hc=>?_|refine kZ (fun hc=>?_) fun hc=>?_|fail)
 ·rw [if_pos (show s1.e≠0 by omega)]
  refine kR ?_
  exact ⟨_,iC,.inl ⟨by omega,rfl,rfl⟩⟩
 ·have h0:s1.e=0:=by omega
  rw [if_neg (show ¬s1.e≠0 by omega),if_pos (show 29 < t by omega),fl_e,if_pos h0]
  refine WQ_retI (rs:=[.tmp 4,.tmp 5]) (vs:=[.int .i64 0,.int .i64 3]) rfl rfl ?_
  exact ⟨_,iC,.inl ⟨by decide,rfl,rfl⟩⟩
 ·have h0:s1.e=0:=by omega
  rw [if_neg (show ¬s1.e≠0 by omega),if_neg (show ¬29 < t by omega)]
  have hb:=dsB_b t (by omega)
  have hb1:1≤baB 1 2 4 t:=by have:=(sp_dst t (by omega)).1;omega
  have hsp:=fun L=>sdistance_n t L (by omega)
  have hcn:=pcount_n p q most (exB t 2 4) (baB 1 2 4 t) v kn d s1 D1 E (Cd::L) hR1 hl (by omega) h0 (by omega)
  have hvl:=tv_lt d s1 (exB t 2 4)
  have hpw:2 ^ exB t 2 4≤2 ^ 13:=Nat.pow_le_pow_right (by decide) hb.2
  generalize exB t 2 4=x4 at hsp hcn hvl hpw hb ⊢
  generalize baB 1 2 4 t=f4 at hsp hcn hb hb1 ⊢
  generalize tv d s1 x4=z at hcn hvl ⊢
  generalize tk d s1 x4=s2 at hcn ⊢
  unfold rdR at hcn
  refine cP rfl rfl (hsp _) ?_
  refine kW ?_
  refine cC rfl rfl (Gv.holds hcn (fun w h=>iH h)) (fun r L' hp=>?_)
  rcases hp with ⟨h1,rfl,rfl⟩|⟨h1,rfl,D',hr,rfl⟩
  ·refine kW ?_
   refine kR ?_
   exact ⟨_,iC,.inl ⟨h1,rfl,rfl⟩⟩
  ·refine kW ?_
   refine kR ?_
   exact ⟨_,iC,.inr ⟨h1,rfl,by omega,by omega,D',hr,rfl⟩⟩
end Go.Proofs.YtemdlifojcgplaaGreatDoor
namespace Go.If
open Go.Vx Go.Hf
set_option linter.all false
theorem dsS_out [W0] (d:List UInt8) (dl:List Nat) (s:S6):(dsS d dl s).out=s.out:=by
 have h:(sy d s dl).out=s.out:=by
  unfold sy
  split
  ·exact fl_out _ _
  ·rfl
 unfold dsS
 split
 ·exact h
 ·split
  ·rw [fl_out,h]
  ·rw [tk_out,h]
end Go.If
namespace Go.Proofs.YtemdlifojcgplaaGreatDoor
open Go Go.Vx Go.Hf Go.If
variable [W0]
set_option maxRecDepth 4000
set_option linter.all false
theorem pmatch_n (p q pc most k:Nat) (v kn:Value) (dl:List Nat) (d:List UInt8) (s:S6) (D E C Cd:Chunk) (L:List Chunk) (h:RdN q d s.t D E) (hl:d.length≤140737488355328) (he:s.e=0) (hm:most≤1000000) (hkn:kn.oneCell'=true)
 (ho:Ow 5 1 v s.out.length (bsv s.out) C) (hom:s.out.length≤most) (hk1:257≤k) (hk2:k≤1000) (hC:CoD dl pc Cd) (hk:kS dl≤32768) (h15:∀x∈dl,x≤15) (h400:dl.length≤400) :
 Gv Tryz.prog 251 [.pointer (some ⟨p,0,none⟩),.int .i64 (k:Int),.pointer (some ⟨pc,0,none⟩)].toArray (rdR p q v most kn::D::E::C::Cd::L) (fun r L'=>
  ((mtS d most k dl s).e≠0∧r=.int .i64 ((mtS d most k dl s).e:Int)∧L'=L)∨
  ((mtS d most k dl s).e=0∧r=.int .i64 0∧∃v' D' C',Ow 5 1 v' (mtS d most k dl s).out.length (bsv (mtS d most k dl s).out) C'∧(mtS d most k dl s).out.length≤most∧RdN q d (mtS d most k dl s).t D' E∧L'=rdR p q v' most kn::D'::E::C'::Cd::L)):=by
 refine Gv.of_body Tryz.func251 rfl rfl ?_
 have hlen:=plength_n p q most k v kn d s D E (C::Cd::L) h hl he hk1 hk2
 have hx1:=mtS_err1 (d:=d) (most:=most) (k:=k) (dl:=dl) (s:=s)
 refine kW ?_
 refine cC rfl rfl hlen (fun r L' hp=>?_)
 rcases hp with ⟨h1,rfl,rfl⟩|⟨h1,h285,rfl,D1,hr1,rfl⟩
 ·have q:=hx1 h1
  rw [←q] at h1 ⊢
  generalize mtS d most k dl s=S at h1 ⊢
  (refine kW ?_;refine kV fun hc=>?_;refine kW ?_)
  refine kR ?_
  exact ⟨_,iC,.inl ⟨h1,rfl,rfl⟩⟩
 clear hlen hx1
 have hlns:lnS d k s=tk d s (lnB k).2:=by unfold lnS;rw [if_neg (by omega)]
 have hlb:(lnB k).1≤400∧(lnB k).2≤6:=by
  unfold lnB
  split
  ·exact ⟨by decide,by decide⟩
  ·exact ⟨baL_le _ (by omega),exL_le _ (by omega)⟩
 have htv:=tv_lt d s (lnB k).2
 have hpw:2 ^ (lnB k).2≤2 ^ 6:=Nat.pow_le_pow_right (by decide) hlb.2
 rw [hlns] at h1 hr1
 have hx2:=mtS_err2 (d:=d) (most:=most) (k:=k) (dl:=dl) (s:=s) (by omega)
 have hok:=mtS_ok (d:=d) (most:=most) (k:=k) (dl:=dl) (s:=s) (by omega)
 have hso:(tk d s (lnB k).2).out=s.out:=tk_out _ _ _
 rw [←hso] at ho hom
 obtain ⟨n,hn⟩:∃n,n=(lnB k).1+tv d s (lnB k).2:=⟨_,rfl⟩
 rw [←hn] at hok ⊢
 have hn464:n≤464:=by omega
 generalize tk d s (lnB k).2=s1 at h1 hr1 hx2 hok ho hom
 have hdi:=pdist_n p q pc most v kn dl d s1 D1 E Cd (C::L) hr1 hl h1 hC hk h15 h400
 have hdo:=dsS_out d dl s1
 generalize mtS d most k dl s=R at hx2 hok ⊢
 generalize dsV d dl s1=far at hdi hok
 rw [←hdo] at ho hom
 generalize dsS d dl s1=s2 at hdi hok hx2 ho hom
 clear htv hpw hn hlb hlns
 unfold rdR at hdi ⊢
 refine kW ?_
 refine cC rfl rfl (Gv.holds hdi (fun w h=>iH h)) (fun r L' hp=>?_)
 rcases hp with ⟨h2,rfl,rfl⟩|⟨h2,rfl,hf1,hf2,D2,hr2,rfl⟩
 ·have q:=hx2 h2
  rw [←q] at h2 ⊢
  (refine kW ?_;refine kV fun hc=>?_;refine kW ?_)
  refine kR ?_
  exact ⟨_,iC,.inl ⟨h2,rfl,rfl⟩⟩
 have hok:=hok h2
 obtain ⟨va,vc,rfl⟩:=ow_slc ho
 (repeat' first|refine kW ?_|refine kU fun bk=>?_|refine kV fun hc=>?_|refine kZ (fun hc=>?_) fun hc=>?_|fail)
 ·rw [if_pos (show s2.out.length < far by omega)] at hok
  have e3:(fl s2 3).e=3:=by rw [fl_e,if_pos h2]
  rw [cpL_err (by rw [e3];decide)] at hok
  rw [hok,e3]
  refine kR ?_
  exact ⟨_,iC,.inl ⟨by decide,rfl,rfl⟩⟩
 rw [if_neg (show ¬s2.out.length < far by omega)] at hok
 refine WC_drawAll [] mixed ?_
 (refine WR_t 0 ?_;refine WR_t 1 ?_;refine WR_t 2 ?_;refine WR_t 3 ?_;refine WR_t 4 ?_;refine WR_t 5 ?_;refine WR_t 6 ?_;refine WR_t 7 ?_;refine WR_t 8 ?_;refine WR_t 9 ?_;refine WR_t 10 ?_;refine WR_t 11 ?_)
 refine cD ?_
 (repeat' first|refine kW ?_|refine kU fun bk=>?_|refine kV fun hc=>?_|refine kZ (fun hc=>?_) fun hc=>?_|fail)
 ·rw [hok,cpL_over most far n s2 h2 hom (by omega)]
  refine kR ?_
  exact ⟨_,iC,.inl ⟨by decide,rfl,rfl⟩⟩
 have hfit:s2.out.length+n≤most:=by omega
 refine WC_loop (X:=Nat × S6 × Value × Chunk) (fun x=>[(0,.pointer (some ⟨p,0,none⟩)),(9,.int .i64 (far:Int)),(47,.int .i64 (n:Int)),(48,.int .i64 (x.1:Int))]) (fun x=>rdR p q x.2.2.1 most kn::x.2.2.2::D2::E::Cd::L)
  (fun x=>x.1≤n∧x.2.1.t=s2.t∧x.2.1.e=0∧Ow 5 1 x.2.2.1 x.2.1.out.length (bsv x.2.1.out) x.2.2.2∧x.2.1.out.length=s2.out.length+x.1∧cpL most far (n - x.1) x.2.1=R) (fun x=>n - x.1) (0,s2,.slice va s2.out.length vc,C) ⟨Nat.zero_le _,rfl,h2,ho,rfl,hok.symm⟩ iS (fun w h=>iH h) ?_
 rintro ⟨i,s5,v1,C1⟩ ⟨hi,hst,he5,hov,hol,hsl⟩
 simp only at hi hst he5 hov hol hsl ⊢
 obtain ⟨wa,wc,rfl⟩:=ow_slc hov
 unfold rdR
 (repeat' first|refine kW ?_|refine kU fun bk=>?_|refine kV fun hc=>?_|refine kZ (fun hc=>?_) fun hc=>?_|fail)
 ·obtain ⟨k2,hk2⟩:∃k2,n - i=k2+1:=⟨n - i - 1,by omega⟩
  have hk3:n - (i+1)=k2:=by omega
  rw [hk2,cpL,if_pos he5,pt_ok (by omega)] at hsl
  have hov2:=hov
  rcases hov2 with ⟨_,h1,_⟩|⟨b,cap,rest,hve,rfl,hxl,hrl,hmc,hcm⟩
  ·omega
  injection hve with e1 e2 e3
  subst e1 e3
  clear e2
  have hcell:(bsv s5.out++rest).toArray[(s5.out.length - far) * 1]? =some (.int .u8 ((s5.out.getD (s5.out.length - far) 0).toNat:Int)):=by
   rw [Nat.mul_one]
   simpa using getE_app (r:=rest) (bsv_get (l:=s5.out) (i:=s5.out.length - far) (b:=s5.out.getD (s5.out.length - far) 0) (by simp [List.getD,show s5.out.length - far < s5.out.length from by omega]))
  generalize s5.out.getD (s5.out.length - far) 0=cc at hsl hcell
  refine WC_draw [[(p,cl [.pointer (some ⟨q,0,none⟩),.slice (some ⟨b,0,none⟩) s5.out.length wc,.int .i64 (most:Int),kn] 144)]] [22] mixed ?_
  (refine WR_t 0 ?_;refine WR_t 1 ?_;refine WR_t 2 ?_;refine WR_t 3 ?_;refine WR_t 4 ?_;refine WR_t 5 ?_;refine WR_t 6 ?_;refine WR_t 7 ?_;refine WR_t 8 ?_;refine WR_t 9 ?_;refine WR_t 10 ?_;refine WR_t 11 ?_;refine WR_t 12 ?_;refine WR_t 13 ?_;refine WR_t 14 ?_;refine WR_t 15 ?_)
  rw [show (s5.out.length:Int) - (far:Int)=((s5.out.length - far:Nat):Int) from by omega]
  refine cT 16 rfl rfl (EV_indexAddr0 (j:=s5.out.length - far) (len:=s5.out.length) rfl rfl rfl (by omega)) ?_
  refine cI 17 rfl rfl ?_
  refine OW_EV (EV_load rfl (by exact Fnd.there Fnd.here) hcell) rfl ?_
  refine ⟨iC,?_⟩
  refine cI 18 rfl rfl ?_
  refine OW_buildSlice (cs:=[.int .u8 (cc.toNat:Int)]) rfl (by rfl) (by first|(simp [fillL,patch,Value.cells,zeros];done)|(simp [fillL,patch,Value.cells,zeros];rfl)) (by omega) rfl rfl (fun bn=>?_)
  refine ⟨iC,?_⟩
  refine cI 19 rfl rfl ?_
  refine OW_append rfl rfl hov (sl_cells (k:=1) (c:=#[.int .u8 (cc.toNat:Int)]) (xs:=[.int .u8 (cc.toNat:Int)]) (m:=1) Fnd.here rfl (by simp)) (by repeat (first|exact Zip.here _|apply Zip.there)) rfl (by rfl) (by omega) (by simp [maxLen];omega) rfl (fun v' C' ho' _ _=>?_)
  refine ⟨iC,?_⟩
  (refine WR_t 20 ?_;refine WR_t 21 ?_)
  refine cL 22 rfl rfl rfl ?_
  refine OW_storeTo [.pointer (some ⟨q,0,none⟩),v',.int .i64 (most:Int),kn] rfl rfl (by rcases ho' with ⟨rfl,_⟩|⟨_,_,_,rfl,_⟩<;>rfl) rfl iU (by simp) ?_
  refine cD ?_
  refine kW ?_
  rw [show bsv s5.out++[Value.int .u8 (cc.toNat:Int)]=bsv (s5.out++[cc]) from by simp [bsv]] at ho'
  refine WQ_round (X:=Nat × S6 × Value × Chunk) (μ:=fun x=>n - x.1) (x:=(i,s5,.slice (some ⟨b,0,none⟩) s5.out.length wc,[(b,cl (bsv s5.out++rest) 5)])) (i+1,⟨s5.t,s5.out++[cc],s5.e⟩,v',C') (by simp only;omega) ⟨by simp only;omega,hst,he5,by simpa using ho',by simp;omega,by simp only;rw [hk3];exact hsl⟩ iS (fun w h=>iH h)
 ·obtain rfl:i=n:=by omega
  rw [show i - i=0 from by omega,cpL] at hsl
  subst hsl
  refine kR ?_
  exact ⟨_,iC,.inr ⟨he5,rfl,_,D2,C1,hov,by omega,by rw [hst];exact hr2,rfl⟩⟩
end Go.Proofs.YtemdlifojcgplaaGreatDoor
namespace Go.If
open Go.Vx Go.Hf
set_option linter.all false
theorem stL_err [W0] {d:List UInt8} {most:Nat} {s:S6} (h:s.e≠0):∀k,stL d most k s=s
 |0=>rfl
 |k+1=>by rw [stL,if_neg h]
theorem tk_err {d:List UInt8} {s:S6} {n:Nat} (h:s.e≠0):(tk d s n).e=s.e:=by
 unfold tk
 split
 ·rfl
 ·rw [fl_err h]
theorem stS_1 [W0] {d:List UInt8} {most:Nat} {s:S6} (h:(tk d ⟨8 * ((s.t+7) / 8),s.out,s.e⟩ 16).e≠0):(stS d most s).e=(tk d ⟨8 * ((s.t+7) / 8),s.out,s.e⟩ 16).e:=by
 unfold stS
 simp only
 generalize tk d ⟨8 * ((s.t+7) / 8),s.out,s.e⟩ 16=s1 at h ⊢
 have h2:=tk_err (d:=d) (n:=16) h
 split
 ·rw [stL_err (by rw [h2];exact h),h2]
 ·rw [fl_err (by rw [h2];exact h),stL_err (by rw [h2];exact h),h2]
theorem stS_2 [W0] {d:List UInt8} {most:Nat} {s:S6} (h:(tk d (tk d ⟨8 * ((s.t+7) / 8),s.out,s.e⟩ 16) 16).e≠0):(stS d most s).e=(tk d (tk d ⟨8 * ((s.t+7) / 8),s.out,s.e⟩ 16) 16).e:=by
 unfold stS
 simp only
 generalize tk d (tk d ⟨8 * ((s.t+7) / 8),s.out,s.e⟩ 16) 16=s2 at h ⊢
 split
 ·rw [stL_err h]
 ·rw [fl_err h,stL_err h]
theorem stS_3 [W0] {d:List UInt8} {most:Nat} {s:S6} (h:(tk d (tk d ⟨8 * ((s.t+7) / 8),s.out,s.e⟩ 16) 16).e=0) (h2:tv d ⟨8 * ((s.t+7) / 8),s.out,s.e⟩ 16+tv d (tk d ⟨8 * ((s.t+7) / 8),s.out,s.e⟩ 16) 16≠65535):(stS d most s).e=3:=by
 unfold stS
 simp only
 rw [if_neg h2]
 have e3:(fl (tk d (tk d ⟨8 * ((s.t+7) / 8),s.out,s.e⟩ 16) 16) 3).e=3:=by rw [fl_e,if_pos h]
 rw [stL_err (by rw [e3];decide),e3]
theorem stS_4 [W0] {d:List UInt8} {most:Nat} {s:S6} (h2:tv d ⟨8 * ((s.t+7) / 8),s.out,s.e⟩ 16+tv d (tk d ⟨8 * ((s.t+7) / 8),s.out,s.e⟩ 16) 16=65535) :
 stS d most s=stL d most (tv d ⟨8 * ((s.t+7) / 8),s.out,s.e⟩ 16) (tk d (tk d ⟨8 * ((s.t+7) / 8),s.out,s.e⟩ 16) 16):=by
 unfold stS
 simp only
 rw [if_pos h2]
theorem xor_compl {n m:Nat} (hn:n < 65536) (hm:m < 65536):n ^^^ m=65535↔n+m=65535:=by
 constructor
 ·intro h
  have e:m=n ^^^ 65535:=by rw [←h,←Nat.xor_assoc,Nat.xor_self,Nat.zero_xor]
  have h2:n ^^^ 65535=65535 - n:=by
   have e2:65535 - n=2 ^ 16 - (n+1):=by omega
   apply Nat.eq_of_testBit_eq
   intro i
   rw [Nat.testBit_xor,e2,Nat.testBit_two_pow_sub_succ (by omega),show (65535:Nat)=2 ^ 16 - 1 from rfl,Nat.testBit_two_pow_sub_one]
   by_cases hi:i < 16
   ·simp [hi]
   ·have:Nat.testBit n i=false:=Nat.testBit_lt_two_pow (Nat.lt_of_lt_of_le hn (Nat.pow_le_pow_right (n:=2) (by decide) (show 16≤i by omega)))
    simp [hi,this]
  omega
 ·intro h
  have e:m=2 ^ 16 - (n+1):=by omega
  apply Nat.eq_of_testBit_eq
  intro i
  rw [Nat.testBit_xor,e,Nat.testBit_two_pow_sub_succ (by omega),show (65535:Nat)=2 ^ 16 - 1 from rfl,Nat.testBit_two_pow_sub_one]
  by_cases hi:i < 16
  ·simp [hi]
  ·have:Nat.testBit n i=false:=Nat.testBit_lt_two_pow (Nat.lt_of_lt_of_le hn (Nat.pow_le_pow_right (n:=2) (by decide) (show 16≤i by omega)))
   simp [hi,this]
end Go.If
namespace Go.Proofs.YtemdlifojcgplaaGreatDoor
open Go Go.Vx Go.Hf Go.If
variable [W0]
set_option maxRecDepth 4000
set_option linter.all false
theorem bit_xor16 {a b:Nat} (ha:a < 65536) (hb:b < 65536):bitI .xor .i64 (a:Int) (b:Int)=some ((a ^^^ b:Nat):Int):=by
 have h1:a ^^^ b < 2 ^ 16:=Nat.xor_lt_two_pow ha hb
 have e:((BitVec.ofInt 64 (a:Int) ^^^ BitVec.ofInt 64 (b:Int)).toNat)=a ^^^ b:=by
  rw [BitVec.toNat_xor,BitVec.ofInt_natCast,BitVec.ofInt_natCast,BitVec.toNat_ofNat,BitVec.toNat_ofNat,Nat.mod_eq_of_lt (by omega),Nat.mod_eq_of_lt (by omega)]
 show some (IntKind.i64.wrap (((BitVec.ofInt 64 (a:Int) ^^^ BitVec.ofInt 64 (b:Int)).toNat:Nat):Int))=_
 rw [e]
 congr 1
 exact wrap_i64s (by omega)
theorem pstored_n (p q most:Nat) (v kn:Value) (d:List UInt8) (s:S6) (D E C:Chunk) (L:List Chunk) (h:RdN q d s.t D E) (hl:d.length≤140737488355328) (he:s.e=0) (hm:most≤1000000) (hkn:kn.oneCell'=true)
 (ho:Ow 5 1 v s.out.length (bsv s.out) C) (hom:s.out.length≤most) :
 Gv Tryz.prog 179 [.pointer (some ⟨p,0,none⟩)].toArray (rdR p q v most kn::D::E::C::L) (fun r L'=>
  ((stS d most s).e≠0∧r=.int .i64 ((stS d most s).e:Int)∧L'=L)∨
  ((stS d most s).e=0∧r=.int .i64 0∧∃v' D' C',Ow 5 1 v' (stS d most s).out.length (bsv (stS d most s).out) C'∧(stS d most s).out.length≤most∧RdN q d (stS d most s).t D' E∧L'=rdR p q v' most kn::D'::E::C'::L)):=by
 refine Gv.of_body Tryz.func179 rfl rfl ?_
 have hal:=ralign_n q s.t d D E (rdR p q v most kn::C::L) h
 have x1:=stS_1 (d:=d) (most:=most) (s:=s)
 have x2:=stS_2 (d:=d) (most:=most) (s:=s)
 have x3:=stS_3 (d:=d) (most:=most) (s:=s)
 have x4:=stS_4 (d:=d) (most:=most) (s:=s)
 generalize stS d most s=R at x1 x2 x3 x4 ⊢
 obtain ⟨s0,hs0⟩:∃s0:S6,s0=⟨8 * ((s.t+7) / 8),s.out,s.e⟩:=⟨_,rfl⟩
 have e0:s0.e=0:=by rw [hs0];exact he
 have o0:s0.out=s.out:=by rw [hs0]
 have t0:8 * ((s.t+7) / 8)=s0.t:=by rw [hs0]
 rw [t0] at hal
 rw [←hs0] at x1 x2 x3 x4
 rw [←o0] at ho hom
 clear hs0 o0 t0 he h
 have htk:=fun D' hr=>ptake_n p q most 16 v kn d s0 D' E (C::L) hr hl (by decide) e0
 have hv1:=tv_lt d s0 16
 have ho1:=tk_out d s0 16
 generalize tv d s0 16=n1 at htk hv1 x3 x4
 generalize tk d s0 16=s1 at htk x1 x2 x3 x4 ho1
 unfold rdR at hal ⊢
 refine kW ?_
 refine cC rfl rfl (Gv.holds hal (fun w h=>iH h)) (fun r L' hp=>?_)
 obtain ⟨rfl,D0,hr0,rfl⟩:=hp
 have htk:=htk D0 hr0
 unfold rdR at htk
 refine kW ?_
 refine cC rfl rfl (Gv.holds htk (fun w h=>iH h)) (fun r L' hp=>?_)
 rcases hp with ⟨h1,rfl,rfl⟩|⟨h1,rfl,D1,hr1,rfl⟩
 ·have q:=x1 h1
  rw [←q] at h1 ⊢
  (refine kW ?_;refine kV fun hc=>?_;refine kW ?_)
  refine kR ?_
  exact ⟨_,iC,.inl ⟨h1,rfl,rfl⟩⟩
 have htk:=ptake_n p q most 16 v kn d s1 D1 E (C::L) hr1 hl (by decide) h1
 have hv2:=tv_lt d s1 16
 have ho2:=tk_out d s1 16
 rw [←ho1,←ho2] at ho hom
 generalize tv d s1 16=n2 at htk hv2 x3 x4
 generalize tk d s1 16=s2 at htk x2 x3 x4 ho2 ho hom
 unfold rdR at htk
 refine kW ?_
 refine cC rfl rfl (Gv.holds htk (fun w h=>iH h)) (fun r L' hp=>?_)
 rcases hp with ⟨h2,rfl,rfl⟩|⟨h2,rfl,D2,hr2,rfl⟩
 ·have q:=x2 h2
  rw [←q] at h2 ⊢
  (refine kW ?_;refine kV fun hc=>?_;refine kW ?_)
  refine kR ?_
  exact ⟨_,iC,.inl ⟨h2,rfl,rfl⟩⟩
 clear x1 x2
 have x3:=x3 h2
 have hxc:=xor_compl hv1 hv2
 refine kW ?_
 refine OW_EV (EV_bit rfl rfl (bit_xor16 hv1 hv2)) rfl ?_
 (repeat' first|refine kW ?_|refine kU fun bk=>?_|refine kV fun hc=>?_|refine kZ (fun hc=>?_) fun hc=>?_|fail)
 ·have x3:=x3 (by omega)
  rw [x3]
  refine kR ?_
  exact ⟨_,iC,.inl ⟨by decide,rfl,rfl⟩⟩
 have x4:=x4 (by omega)
 clear x3 hxc
 obtain ⟨va,vc,rfl⟩:=ow_slc ho
 refine WC_loop (X:=Nat × S6 × Value × Chunk × Chunk) (fun x=>[(0,.pointer (some ⟨p,0,none⟩)),(34,.int .i64 (n1:Int)),(35,.int .i64 (x.1:Int))]) (fun x=>rdR p q x.2.2.1 most kn::x.2.2.2.1::x.2.2.2.2::E::L)
  (fun x=>x.1≤n1∧x.2.1.e=0∧Ow 5 1 x.2.2.1 x.2.1.out.length (bsv x.2.1.out) x.2.2.2.1∧x.2.1.out.length≤most∧RdN q d x.2.1.t x.2.2.2.2 E∧stL d most (n1 - x.1) x.2.1=R) (fun x=>n1 - x.1) (0,s2,.slice va s2.out.length vc,C,D2) ⟨Nat.zero_le _,h2,ho,hom,hr2,x4.symm⟩ iS (fun w h=>iH h) ?_
 rintro ⟨i,s5,v1,C1,D5⟩ ⟨hi,he5,hov,hol,hr5,hsl⟩
 simp only at hi he5 hov hol hr5 hsl ⊢
 (repeat' first|refine kW ?_|refine kU fun bk=>?_|refine kV fun hc=>?_|refine kZ (fun hc=>?_) fun hc=>?_|fail)
 ·obtain ⟨k2,hk2⟩:∃k2,n1 - i=k2+1:=⟨n1 - i - 1,by omega⟩
  have hk3:n1 - (i+1)=k2:=by omega
  rw [hk2,stL,if_pos he5] at hsl
  have htk:=ptake_n p q most 8 v1 kn d s5 D5 E (C1::L) hr5 hl (by decide) he5
  have hv6:=tv_lt d s5 8
  have ho6:=tk_out d s5 8
  rw [←ho6] at hov
  generalize tv d s5 8=x at htk hv6 hsl
  generalize tk d s5 8=s6 at htk hsl ho6 hov
  unfold rdR at htk ⊢
  refine cC rfl rfl (Gv.holds htk (fun w h=>iH h)) (fun r L' hp=>?_)
  rcases hp with ⟨h6,rfl,rfl⟩|⟨h6,rfl,D6,hr6,rfl⟩
  ·rw [if_neg h6,stL_err h6] at hsl
   subst hsl
   (refine kW ?_;refine kV fun hc=>?_;refine kW ?_)
   refine kR ?_
   exact ⟨_,iC,.inl ⟨h6,rfl,rfl⟩⟩
  rw [if_pos h6] at hsl
  have hput:=pput_n p q most (UInt8.ofNat x) v1 kn s6 C1 (D6::E::L) hov hm h6 hkn
  have hpt:=pt_t most s6 (UInt8.ofNat x)
  have hpl:(pt most s6 (UInt8.ofNat x)).e=0→(pt most s6 (UInt8.ofNat x)).out.length≤most:=by
   intro hq
   by_cases hc:s6.out.length < most
   ·rw [pt_ok hc];simp;omega
   ·rw [pt_no (by omega),fl_e,if_pos h6] at hq;cases hq
  generalize pt most s6 (UInt8.ofNat x)=s7 at hput hsl hpt hpl
  rw [byte_of (by omega)] at hput
  unfold rdR at hput
  refine kW ?_
  try rw [wrap_byte]
  try rw [byte_of (by omega)]
  refine cC rfl rfl (Gv.holds hput (fun w h=>iH h)) (fun r L' hp=>?_)
  rcases hp with ⟨h7,rfl,rfl⟩|⟨h7,rfl,v7,C7,ho7,rfl⟩
  ·rw [stL_err h7] at hsl
   subst hsl
   (refine kW ?_;refine kV fun hc=>?_;refine kW ?_)
   refine kR ?_
   exact ⟨_,iC,.inl ⟨h7,rfl,rfl⟩⟩
  refine kW ?_
  refine WQ_round (X:=Nat × S6 × Value × Chunk × Chunk) (μ:=fun x=>n1 - x.1) (x:=(i,s5,v1,C1,D5)) (i+1,s7,v7,C7,D6) (by simp only;omega) ⟨by simp only;omega,h7,ho7,hpl h7,by simp only;rw [hpt];exact hr6,by simp only;rw [hk3];exact hsl⟩ iS (fun w h=>iH h)
 ·obtain rfl:i=n1:=by omega
  rw [show i - i=0 from by omega,stL] at hsl
  subst hsl
  refine kR ?_
  exact ⟨_,iC,.inr ⟨he5,rfl,_,D5,C1,hov,hol,hr5,rfl⟩⟩
end Go.Proofs.YtemdlifojcgplaaGreatDoor
namespace Go.Vx
section
variable [W0] {P : Program} {n : Nat} {M : List (Nat × Value)} {L : List Chunk}
theorem WC_scope {c:Code} {fn:Func} {R:Ending→World→Prop} (h:WC P n c (bodyPost P fn R) M L):WC P n (.scope c) (bodyPost P fn R) M L:=
 ⟨fun a w ha hw=>wp_scope_straight (wp_mono (h.out a w ha hw) (fun e a' w' hq=>by cases e<;>exact hq))⟩
end
end Go.Vx
namespace Go.Proofs.YtemdlifojcgplaaGreatDoor
open Go Go.Vx Go.Hf Go.If
variable [W0]
set_option maxRecDepth 4000
set_option linter.all false
omit [W0] in
def csC (pc pl pd:Nat):Chunk:=[(pc,cl [.pointer (some ⟨pl,0,none⟩),.pointer (some ⟨pd,0,none⟩)] 324)]
theorem psym_n (q pl:Nat) (l:List Nat) (d:List UInt8) (s:S6) (D E Cl:Chunk) (L:List Chunk) (h:RdN q d s.t D E) (hl:d.length≤140737488355328) (he:s.e=0)
 (hC:CoD l pl Cl) (hk:kS l≤32768) (h15:∀x∈l,x≤15) (h400:l.length≤400) :
 Gv Tryz.prog 250 [.pointer (some ⟨pl,0,none⟩),.pointer (some ⟨q,0,none⟩)].toArray (Cl::D::E::L) (fun r L'=>∃D',r=.tuple #[.int .i64 ((sv d s l:Nat):Int),.int .i64 ((sy d s l).e:Int)]∧RdN q d (sy d s l).t D' E∧L'=Cl::D'::E::L):=by
 have hr:=hread_n pl q s.t l d Cl D E L hC hk h15 h400 h hl
 have hsv:sv d s l=(rdS l (val d) s.t (8 * d.length) 16 0).1:=by unfold sv;rw [if_pos he]
 have hsy:sy d s l=⟨s.t+(rdS l (val d) s.t (8 * d.length) 16 0).2.2,s.out,(rdS l (val d) s.t (8 * d.length) 16 0).2.1⟩:=by unfold sy fl;rw [if_pos he,if_pos (by exact he)]
 rw [←hsv] at hr
 have e1:s.t+(rdS l (val d) s.t (8 * d.length) 16 0).2.2=(sy d s l).t:=by rw [hsy]
 have e2:(rdS l (val d) s.t (8 * d.length) 16 0).2.1=(sy d s l).e:=by rw [hsy]
 rw [e1,e2] at hr
 exact hr
theorem pcoded_n (p q pc pl pd most:Nat) (v kn:Value) (l dl:List Nat) (d:List UInt8) (s:S6) (D E C Cl Cd:Chunk) (L:List Chunk) (h:RdN q d s.t D E) (hl:d.length≤140737488355328) (he:s.e=0) (hm:most≤1000000) (hkn:kn.oneCell'=true)
 (ho:Ow 5 1 v s.out.length (bsv s.out) C) (hom:s.out.length≤most) (hCl:CoD l pl Cl) (hkl:kS l≤32768) (h15l:∀x∈l,x≤15) (h400l:l.length≤400) (hC:CoD dl pd Cd) (hk:kS dl≤32768) (h15:∀x∈dl,x≤15) (h400:dl.length≤400) :
 Gv Tryz.prog 223 [.pointer (some ⟨p,0,none⟩),.pointer (some ⟨pc,0,none⟩)].toArray (rdR p q v most kn::D::E::C::csC pc pl pd::Cl::Cd::L) (fun r L'=>
  ((cdC d most l dl (8 * d.length+1) s).e≠0∧r=.int .i64 ((cdC d most l dl (8 * d.length+1) s).e:Int)∧L'=L)∨
  ((cdC d most l dl (8 * d.length+1) s).e=0∧r=.int .i64 0∧∃v' D' C',Ow 5 1 v' (cdC d most l dl (8 * d.length+1) s).out.length (bsv (cdC d most l dl (8 * d.length+1) s).out) C'∧(cdC d most l dl (8 * d.length+1) s).out.length≤most∧RdN q d (cdC d most l dl (8 * d.length+1) s).t D' E∧
    L'=rdR p q v' most kn::D'::E::C'::csC pc pl pd::Cl::Cd::L)):=by
 refine Gv.of_body Tryz.func223 rfl rfl ?_
 generalize hR:cdC d most l dl (8 * d.length+1) s=R
 refine kW ?_
 refine WC_scope ?_
 refine WC_seq ?_
 refine WC_label ?_
 refine kW ?_
 refine WC_loop (X:=Nat × S6 × Value × Chunk × Chunk) (fun x=>[(0,.pointer (some ⟨p,0,none⟩)),(1,.pointer (some ⟨pc,0,none⟩))]) (fun x=>rdR p q x.2.2.1 most kn::x.2.2.2.1::x.2.2.2.2::E::csC pc pl pd::Cl::Cd::L)
  (fun x=>x.2.1.e=0∧8 * d.length < x.1+x.2.1.t∧Ow 5 1 x.2.2.1 x.2.1.out.length (bsv x.2.1.out) x.2.2.2.1∧x.2.1.out.length≤most∧RdN q d x.2.1.t x.2.2.2.2 E∧cdC d most l dl x.1 x.2.1=R) (fun x=>x.1) (8 * d.length+1,s,v,C,D) ⟨he,by simp only;omega,ho,hom,h,hR⟩ iS (fun w h=>iH h) ?_
 rintro ⟨f,s1,v1,C1,D1⟩ ⟨he1,hf,hov,hol,hr1,hsl⟩
 simp only at he1 hf hov hol hr1 hsl ⊢
 obtain ⟨va,vc,rfl⟩:=ow_slc hov
 have hs1:=psym_n q pl l d s1 D1 E Cl (rdR p q (.slice va s1.out.length vc) most kn::C1::csC pc pl pd::Cd::L) hr1 hl he1 hCl hkl h15l h400l
 unfold rdR csC at hs1 ⊢
 refine kW ?_
 refine WC_draw [[(p,cl [.pointer (some ⟨q,0,none⟩),.slice va s1.out.length vc,.int .i64 (most:Int),kn] 144)],[(pc,cl [.pointer (some ⟨pl,0,none⟩),.pointer (some ⟨pd,0,none⟩)] 324)]] [] mixed ?_
 (refine WR_t 0 ?_;refine WR_t 1 ?_;refine WR_t 2 ?_;refine WR_t 3 ?_;refine WR_t 4 ?_;refine WR_t 5 ?_;refine WR_t 6 ?_;refine WR_t 7 ?_)
 refine cI 8 rfl rfl ?_
 refine cC rfl rfl (Gv.holds hs1 (fun w h=>iH h)) (fun r L' hp=>?_)
 obtain ⟨D2,rfl,hr2,rfl⟩:=hp
 refine ⟨iC,?_⟩
 (refine WR_t 9 ?_;refine WR_t 10 ?_;refine WR_t 11 ?_;refine WR_t 12 ?_;refine WR_t 13 ?_)
 refine cD ?_
 refine kW ?_
 refine WC_loop (X:=Nat × S6 × Value × Chunk × Chunk) (fun x=>[(0,.pointer (some ⟨p,0,none⟩)),(1,.pointer (some ⟨pc,0,none⟩)),(5,.int .i64 ((sv d x.2.1 l:Nat):Int)),(6,.int .i64 ((sy d x.2.1 l).e:Int))]) (fun x=>rdR p q x.2.2.1 most kn::x.2.2.2.1::x.2.2.2.2::E::csC pc pl pd::Cl::Cd::L)
  (fun x=>x.1≤f∧x.2.1.e=0∧8 * d.length < x.1+x.2.1.t∧x.2.1.t≤8 * d.length∧Ow 5 1 x.2.2.1 x.2.1.out.length (bsv x.2.1.out) x.2.2.2.1∧x.2.1.out.length≤most∧RdN q d (sy d x.2.1 l).t x.2.2.2.2 E∧cdC d most l dl x.1 x.2.1=R) (fun x=>x.1) (f,s1,.slice va s1.out.length vc,C1,D2) ⟨Nat.le_refl _,he1,hf,hr1.1,hov,hol,hr2,hsl⟩ iS (fun w h=>iH h) ?_
 clear hsl hr2 hr1 hol hov
 rintro ⟨g,s3,v3,C3,D3⟩ ⟨hgf,he3,hg,ht3,hov3,hol3,hr3,hsl3⟩
 simp only at hgf he3 hg ht3 hov3 hol3 hr3 hsl3 ⊢
 obtain ⟨g,rfl⟩:∃z,g=z+1:=⟨g - 1,by omega⟩
 rw [cdC,if_neg (show ¬s3.e≠0 by omega)] at hsl3
 have hgo:=fun h=>sy_go (d:=d) (l:=l) he3 h
 have hsv:=sv_le d s3 l
 have hso:=sy_out d s3 l
 have hpt:=fun c=>pt_t most (sy d s3 l) c
 have hmt:=fun k=>mtS_t d most k dl (sy d s3 l)
 rw [←hso] at hov3 hol3
 generalize sv d s3 l=k at hsl3 hsv ⊢
 generalize sy d s3 l=s4 at hsl3 hgo hso hpt hmt hov3 hol3 hr3 ⊢
 obtain ⟨wa,wc,rfl⟩:=ow_slc hov3
 unfold rdR csC
 (repeat' first|refine kW ?_|refine kU fun bk=>?_|refine kV fun hc=>?_|refine kZ (fun hc=>?_) fun hc=>?_|fail)
 ·rw [if_neg (show ¬s4.e≠0 by omega),if_neg (show ¬k < 256 by omega),if_pos (show k=256 by omega)] at hsl3
  rw [←hsl3]
  refine kR ?_
  exact ⟨_,iC,.inr ⟨by omega,rfl,_,D3,C3,hov3,hol3,hr3,rfl⟩⟩
 ·have hgo:=hgo (by omega)
  have h4:s4.e=0:=by omega
  rw [if_neg (show ¬s4.e≠0 by omega),if_pos (show k < 256 by omega)] at hsl3
  try rw [wrap_byte]
  have hput:=pput_n p q most (UInt8.ofNat k) (.slice wa s4.out.length wc) kn s4 C3 (D3::E::csC pc pl pd::Cl::Cd::L) hov3 hm h4 hkn
  have hpt:=hpt (UInt8.ofNat k)
  have hpl:(pt most s4 (UInt8.ofNat k)).e=0→(pt most s4 (UInt8.ofNat k)).out.length≤most:=by
   intro hq
   by_cases hc:s4.out.length < most
   ·rw [pt_ok hc];simp;omega
   ·rw [pt_no (by omega),fl_e,if_pos h4] at hq;cases hq
  generalize pt most s4 (UInt8.ofNat k)=s5 at hput hsl3 hpt hpl
  unfold rdR csC at hput
  refine cC rfl rfl (Gv.holds hput (fun w h=>iH h)) (fun r L' hp=>?_)
  rcases hp with ⟨h5,rfl,rfl⟩|⟨h5,rfl,v5,C5,ho5,rfl⟩
  ·rw [cdC_err h5] at hsl3
   subst hsl3
   (refine kW ?_;refine kV fun hc=>?_;refine kW ?_)
   refine kR ?_
   exact ⟨_,iC,.inl ⟨h5,rfl,rfl⟩⟩
  refine kW ?_
  have hr5:RdN q d s5.t D3 E:=by rw [hpt];exact hr3
  have hs5:=psym_n q pl l d s5 D3 E Cl (rdR p q v5 most kn::C5::csC pc pl pd::Cd::L) hr5 hl h5 hCl hkl h15l h400l
  unfold rdR csC at hs5
  refine WC_draw [[(p,cl [.pointer (some ⟨q,0,none⟩),v5,.int .i64 (most:Int),kn] 144)],[(pc,cl [.pointer (some ⟨pl,0,none⟩),.pointer (some ⟨pd,0,none⟩)] 324)]] [] mixed ?_
  (refine WR_t 0 ?_;refine WR_t 1 ?_;refine WR_t 2 ?_;refine WR_t 3 ?_;refine WR_t 4 ?_;refine WR_t 5 ?_;refine WR_t 6 ?_;refine WR_t 7 ?_)
  refine cI 8 rfl rfl ?_
  refine cC rfl rfl (Gv.holds hs5 (fun w h=>iH h)) (fun r L' hp=>?_)
  obtain ⟨D6,rfl,hr6,rfl⟩:=hp
  refine ⟨iC,?_⟩
  (refine WR_t 9 ?_;refine WR_t 10 ?_;refine WR_t 11 ?_;refine WR_t 12 ?_;refine WR_t 13 ?_)
  refine cD ?_
  refine kW ?_
  refine WQ_round (X:=Nat × S6 × Value × Chunk × Chunk) (μ:=fun x=>x.1) (x:=(g+1,s3,.slice wa s4.out.length wc,C3,D3)) (g,s5,v5,C5,D6) (by simp only;omega) ⟨by simp only;omega,h5,by simp only;omega,hr5.1,ho5,hpl h5,hr6,hsl3⟩ iS (fun w h=>iH h)
 ·have hgo:=hgo (by omega)
  have h4:s4.e=0:=by omega
  rw [if_neg (show ¬s4.e≠0 by omega),if_neg (show ¬k < 256 by omega),if_neg (show ¬k=256 by omega)] at hsl3
  have hma:=pmatch_n p q pd most k (.slice wa s4.out.length wc) kn dl d s4 D3 E C3 Cd (csC pc pl pd::Cl::L) hr3 hl h4 hm hkn hov3 hol3 (by omega) (by omega) hC hk h15 h400
  have hmt:=hmt k
  generalize mtS d most k dl s4=s5 at hma hmt hsl3
  unfold rdR csC at hma
  refine cC rfl rfl (Gv.holds hma (fun w h=>iH h)) (fun r L' hp=>?_)
  rcases hp with ⟨h5,rfl,rfl⟩|⟨h5,rfl,v5,D5,C5,ho5,hl5,hr5,rfl⟩
  ·rw [cdC_err h5] at hsl3
   subst hsl3
   (refine kW ?_;refine kV fun hc=>?_;refine kW ?_)
   refine kR ?_
   exact ⟨_,iC,.inl ⟨h5,rfl,rfl⟩⟩
  refine kW ?_
  refine WQ_round (X:=Nat × S6 × Value × Chunk × Chunk) (μ:=fun x=>x.1) (x:=(f,s1,.slice va s1.out.length vc,C1,D1)) (g,s5,v5,C5,D5) (by simp only;omega) ⟨h5,by simp only;omega,ho5,hl5,hr5,hsl3⟩ iS (fun w h=>iH h)
 ·have h4:s4.e≠0:=by omega
  rw [if_pos h4] at hsl3
  subst hsl3
  refine kR ?_
  exact ⟨_,iC,.inl ⟨h4,rfl,rfl⟩⟩
end Go.Proofs.YtemdlifojcgplaaGreatDoor
namespace Go.Vx
section
variable [W0] {P : Program} {n : Nat} {M : List (Nat × Value)} {L : List Chunk} {d : Nat} {ty : TypeId} {ps : String} {af : Array Edge} {g : Option (Nat × Bool)} {x y : Operand} {K : List (Nat × Value) → List Chunk → Prop}
theorem OW_appendZerosNil {t u e k by_:Nat} {z:Value} {ku:IntKind} [hs:SL P t e k by_] [hz:ZV P e z] [hi:IK P u ku] {c:Nat} {kk:IntKind} (hx:ev M x=some (.slice none 0 0)) (hy:ev M y=some (.int kk (c:Int)))
 (hzk:z.cells.size=k) (hgrow:0 < c) (hb:c * by_≤140737488355328) (h63:c≤9223372036854775807)
 (hn:Nat.blt d n=true) (h:∀b cap rest,c≤cap→cap≤maxLen→rest.length=(cap - c) * k→K ((d,.slice (some ⟨b,0,none⟩) c cap)::M) ([(b,cl (zeros z.cells.toList c++rest) e)]::L)) :
 OW P n ⟨some d,.call ⟨.builtin .append,#[x,y],#[t,u]⟩,ty,ps,af,g⟩ K M L:=⟨fun a w next Q ha hw hk=>by
 obtain ⟨ht,i,hif,hik,hib,hk0⟩:=hs.parts
 subst hik hib
 have hzz:i.zero=some z:=by have:=hz.out;rw [hif] at this;simpa using this
 have hfit:=growslice_fits (need:=c) (old:=0) (bytes:=i.bytes) hgrow hb
 have hcap:=grownCap_ge w (0+c) 0 e
 have hcm:=grownCap_le_maxLen w (0+c) 0 e (by simp [maxLen];omega)
 have hz2:=zeros_range (z:=z.cells) (m:=c)
 have hz3:=zeros_range (z:=z.cells) (m:=grownCap w (0+c) 0 e - (0+c))
 have hc1:=wrap_i64 (r:=(c:Int)) (by omega) (by omega)
 have hcb:¬(281474976710656 < (c:Int) * (i.bytes:Int)):=by
  rw [←Int.natCast_mul];omega
 rw [Nat.zero_add] at hcap hcm hz3
 have hrun:(execOp a.eval ⟨some d,.call ⟨.builtin .append,#[x,y],#[t,u]⟩,ty,ps,af,g⟩).run P w=.ok (.value (.slice (some ⟨w.heap.size,0,none⟩) c (grownCap w c 0 e)))
  (w.drew.alloc (cl (zeros z.cells.toList c++zeros z.cells.toList (grownCap w c 0 e - c)) e)):=by
  have hne:¬(c≤0):=by omega
  have hne2:¬(c=0):=by omega
  have h63':¬(9223372036854775807 < (c:Int)):=by omega
  have h48':¬(281474976710656 < Builtin.nextslicecap c 0 * i.bytes):=by omega
  have hc0:¬((c:Int) < 0):=by omega
  simp only [execOp,resolve,invoke,builtin,Sem.run_bind,Sem.run_pure,Result.andThen_ok,List.map_toArray,List.map_cons,List.map_nil,ha.eval hx,ha.eval hy]
  simp [Builtin.append_,run_underlying ht,run_underlying hi.out,sizeOf,typeInfo,hif,asInt,asIntOf,hc1,hc0,hcb,hne2,h63',h48',Question.forced,Builtin.firstCells,newRow,zero_run hz.out]
  split
  ·rename_i h0
   have hcz:c=0:=by
    rcases Nat.mul_eq_zero.1 h0 with h|h
    ·exact h
    ·omega
   omega
  ·simp [zeroCells_eq,grownCap,cl]
 unfold Oper.wp
 rw [hrun,Oper.upon_value]
 have:=(hw.same (w':=w.drew) rfl rfl rfl).alloc (cl (zeros z.cells.toList c++zeros z.cells.toList (grownCap w c 0 e - c)) e)
 exact (hk _ _ (h w.heap.size _ _ hcap hcm (by rw [zeros_length];simp [hzk]))).out _ _ (ha.put _ hn) this⟩
end
end Go.Vx
namespace Go.Proofs.YtemdlifojcgplaaGreatDoor
open Go Go.Vx Go.Hf Go.If
variable [W0]
set_option maxRecDepth 4000
set_option linter.all false
theorem zeros_int (n:Nat):zeros (Value.int .i64 0).cells.toList n=ivn (List.replicate n 0):=by
 induction n with
 |zero=>rfl
 |succ n ih=>rw [zeros,ih];simp [ivn,List.replicate_succ,Value.cells]
theorem ivn_app (a b:List Nat):ivn (a++b)=ivn a++ivn b:=by simp [ivn]
theorem intsN_icn (l:List Nat):intsN (icn l)=ivn l:=by simp [intsN,icn,ivn]
theorem mul_one_n (n:Nat) (L:List Chunk) (hn:n≤1000000):GvP Tryz.prog 275 [.int .u64 1,.int .u64 (n:Int)].toArray L (.tuple #[.int .u64 0,.int .u64 (n:Int)]):=by
 refine Gv.of_body Tryz.func275 rfl rfl ?_
 refine kW ?_
 refine OW_EV (EV_nand (k:=.u64) 1 32 rfl rfl rfl rfl rfl (by decide) (by decide)) rfl ?_
 rw [show ((1 % 2 ^ 32:Nat):Int)=1 from by decide]
 refine kW ?_
 rw [show (1:Int) / 4294967296=0 from by decide]
 refine OW_EV (EV_nand (k:=.u64) n 32 rfl rfl rfl rfl rfl (by simp only [IntKind.bits];omega) (by decide)) rfl ?_
 rw [show ((n % 2 ^ 32:Nat):Int)=n from by omega]
 refine kW ?_
 have e0:(n:Int) / 4294967296=0:=by omega
 have ez:(0:Int) / 4294967296=0:=by decide
 try rw [e0]
 refine OW_EV (EV_nmul (k:=.u64) 1 n rfl rfl rfl rfl rfl (by simp only [IntKind.bits];omega)) rfl ?_
 rw [Nat.one_mul]
 refine kW ?_
 refine OW_EV (EV_nmul (k:=.u64) 0 n rfl rfl rfl rfl rfl (by simp only [IntKind.bits];omega)) rfl ?_
 rw [Nat.zero_mul]
 refine kW ?_
 try rw [e0]
 refine OW_EV (EV_nadd (k:=.u64) 0 0 rfl rfl rfl rfl rfl (by decide)) rfl ?_
 rw [Nat.zero_add]
 refine kW ?_
 refine OW_EV (EV_nand (k:=.u64) 0 32 rfl rfl rfl rfl rfl (by decide) (by decide)) rfl ?_
 rw [show (0 % 2 ^ 32:Nat)=0 from by decide]
 refine kW ?_
 try rw [show ((0:Nat):Int) / 4294967296=0 from by decide]
 try rw [ez]
 refine OW_EV (EV_nmul (k:=.u64) 1 0 rfl rfl rfl rfl rfl (by decide)) rfl ?_
 rw [Nat.mul_zero]
 refine kW ?_
 refine OW_EV (EV_nadd (k:=.u64) 0 0 rfl rfl rfl rfl rfl (by decide)) rfl ?_
 rw [Nat.zero_add]
 refine kW ?_
 refine OW_EV (EV_nmul (k:=.u64) 0 0 rfl rfl rfl rfl rfl (by decide)) rfl ?_
 rw [Nat.mul_zero]
 refine kW ?_
 refine OW_EV (EV_nadd (k:=.u64) 0 0 rfl rfl rfl rfl rfl (by decide)) rfl ?_
 rw [Nat.zero_add]
 refine kW ?_
 try rw [show ((0:Nat):Int) / 4294967296=0 from by decide]
 try rw [ez]
 refine OW_EV (EV_nadd (k:=.u64) 0 0 rfl rfl rfl rfl rfl (by decide)) rfl ?_
 rw [Nat.zero_add]
 refine kW ?_
 refine OW_EV (EV_nmul (k:=.u64) 1 n rfl rfl rfl rfl rfl (by simp only [IntKind.bits];omega)) rfl ?_
 rw [Nat.one_mul]
 refine kW ?_
 refine WQ_retI (rs:=[.tmp 4,.tmp 5]) (vs:=[.int .u64 0,.int .u64 (n:Int)]) rfl rfl ?_
 exact ⟨_,iC,rfl,rfl⟩
theorem mul1_n (n:Nat) (L:List Chunk) (hn:n≤1000000):GvP Tryz.prog 257 [.int .u64 1,.int .u64 (n:Int)].toArray L (.tuple #[.int .u64 0,.int .u64 (n:Int)]):=by
 refine Gv.of_body Tryz.func257 rfl rfl ?_
 have hm:=mul_one_n n L hn
 refine kW ?_
 refine cP rfl rfl hm ?_
 refine kW ?_
 refine kR ?_
 exact ⟨_,iC,rfl,rfl⟩
theorem rep_patch (n k m v:Nat) (h:k+m≤n):patch (ivn (List.replicate k v++List.replicate (n - k) 0)) k (ivn (List.replicate m v))=ivn (List.replicate (k+m) v++List.replicate (n - (k+m)) 0):=by
 unfold patch ivn
 rw [←List.map_take,←List.map_drop,←List.map_append,←List.map_append]
 congr 1
 simp only [List.length_map,List.length_replicate]
 rw [List.take_left' (by simp),List.drop_append,List.drop_replicate,List.drop_replicate,List.length_replicate,show k - (k+m)=0 from by omega,show n - k - (k+m - k)=n - (k+m) from by omega,List.replicate_append_replicate]
 rfl
theorem repeat_n (b v n:Nat) (L:List Chunk) (hf:Fnd L b (cl [.int .i64 (v:Int)] 3)) (h1:1≤n) (hn:n≤1000000) :
 Gv Tryz.prog 238 [.slice (some ⟨b,0,none⟩) 1 1,.int .i64 (n:Int)].toArray L (fun r L'=>∃C,L'=C::L∧Ow 3 1 r n (ivn (List.replicate n v)) C):=by
 refine Gv.of_body Tryz.func238 rfl rfl ?_
 have hm:=fun L=>mul1_n n L hn
 refine kW ?_
 refine cP rfl rfl (hm _) ?_
 (refine kW ?_;refine kV fun hc=>?_;refine kW ?_)
 refine OW_makeSlice (m:=n) (c:=n) rfl rfl (by rfl) (Nat.le_refl _) (by omega) (by omega) rfl (fun c=>?_)
 rw [zeros_int]
 refine kW ?_
 refine OW_copyTo (sl:=1) (zs:=ivn [v]) (ivn (List.replicate 1 v++List.replicate (n - 1) 0)) rfl rfl (.inr ⟨_,_,rfl,RdAt.cl' (l:=ivn [v]) (off:=0) (Fnd.there hf) rfl,rfl⟩) (by rw [Nat.min_eq_left (by omega)];rfl) ?_ iU (by rw [Nat.min_eq_left (by omega)];simp [ivn];omega) rfl ?_
 ·rw [Nat.min_eq_left (by omega)]
  have:=rep_patch n 0 1 v (by omega)
  rw [show List.take (1 * 1) (ivn [v])=ivn [v] from rfl]
  simpa using this
 rw [Nat.min_eq_left (by omega)]
 refine kW ?_
 refine WC_loop (X:=Nat) (fun k=>[(7,.slice (some ⟨c,0,none⟩) n n),(8,.int .i64 (k:Int))]) (fun k=>[(c,cl (ivn (List.replicate k v++List.replicate (n - k) 0)) 3)]::L)
  (fun k=>1≤k∧k≤n) (fun k=>n - k) 1 ⟨Nat.le_refl _,h1⟩ iS (fun w h=>h) ?_
 rintro k ⟨hk1,hk2⟩
 (repeat' first|refine kW ?_|refine kU fun bk=>?_|refine kV fun hc=>?_|refine kZ (fun hc=>?_) fun hc=>?_|fail)
 ·have hlen:(ivn (List.replicate k v++List.replicate (n - k) 0)).length=n:=by rw [ivn_length];simp;omega
  have htk:List.take (min k (n - k) * 1) (ivn (List.replicate k v))=ivn (List.replicate (min k (n - k)) v):=by
   unfold ivn
   rw [←List.map_take,List.take_replicate,show min (min k (n - k) * 1) k=min k (n - k) from by omega]
  refine WC_draw [] [] mixed ?_
  (refine WR_t 0 ?_;refine WR_t 1 ?_;refine WR_t 2 ?_)
  refine cT 3 rfl rfl (EV_sliceFrom0 (l:=k) (h:=n) rfl rfl rfl (by omega) (by omega) (by omega)) ?_
  (refine WR_t 4 ?_;refine WR_t 5 ?_)
  refine cT 6 rfl rfl (EV_sliceTo (h:=k) rfl rfl rfl (by omega)) ?_
  refine cI 7 rfl rfl ?_
  refine OW_copyTo (sl:=k) (zs:=ivn (List.replicate k v)) (ivn (List.replicate (k+min k (n - k)) v++List.replicate (n - (k+min k (n - k))) 0)) rfl rfl (.inr ⟨_,_,rfl,RdAt.cl' (off:=0) Fnd.here ?_,by rw [ivn_length];simp⟩) ?_ ?_ iU (by rw [hlen];omega) rfl ?_
  ·rw [ivn_length,List.length_replicate,ivn_app]
   unfold cut
   rw [List.drop_zero,List.take_left' (by rw [ivn_length,List.length_replicate])]
  ·rw [htk]
   exact ivn_ones
  ·rw [←rep_patch n k (min k (n - k)) v (by omega),htk,Nat.mul_one]
  refine ⟨iC,?_⟩
  (refine WR_t 8 ?_;refine WR_t 9 ?_)
  refine cD ?_
  refine kW ?_
  refine WQ_round (X:=Nat) (μ:=fun k=>n - k) (x:=k) (k+min k (n - k)) (by omega) ⟨by omega,by omega⟩ iS (fun w h=>h)
 ·obtain rfl:k=n:=by omega
  rw [show k - k=0 from by omega,List.replicate_zero,List.append_nil]
  refine kR ?_
  refine ⟨_,iC,_,rfl,.inr ⟨c,k,[],rfl,by rw [List.append_nil],by rw [ivn_length];simp,by simp,Nat.le_refl _,by simp [maxLen];omega⟩⟩
theorem times_n (v n:Nat) (L:List Chunk) (h1:1≤n) (hn:n≤1000000) :
 Gv Tryz.prog 202 [.int .i64 (v:Int),.int .i64 (n:Int)].toArray L (fun r L'=>∃C,L'=C::L∧Ow 3 1 r n (ivn (List.replicate n v)) C):=by
 refine Gv.of_body Tryz.func202 rfl rfl ?_
 refine kW ?_
 refine OW_buildSlice (cs:=[.int .i64 (v:Int)]) rfl (by rfl) (by first|(simp [fillL,patch,Value.cells,zeros];done)|(simp [fillL,patch,Value.cells,zeros];rfl)) (by omega) rfl rfl (fun b=>?_)
 refine kW ?_
 refine cC rfl rfl (repeat_n b v n _ Fnd.here h1 hn) (fun r L' hp=>?_)
 obtain ⟨C,rfl,ho⟩:=hp
 refine kW ?_
 refine kR ?_
 exact ⟨_,iC,C,rfl,ho⟩
theorem grow_n (n:Nat) (L:List Chunk) (h1:1≤n) (hn:n≤1000000) :
 Gv Tryz.prog 237 [.slice none 0 0,.int .i64 (n:Int)].toArray L (fun r L'=>∃C,L'=C::L∧Ow 3 1 r 0 (ivn []) C):=by
 refine Gv.of_body Tryz.func237 rfl rfl ?_
 (refine kW ?_;refine kV fun hc=>?_;refine kW ?_)
 refine OW_EV (EV_sliceNil rfl rfl rfl) rfl ?_
 refine kW ?_
 refine OW_appendZerosNil (c:=n) rfl rfl (by rfl) (by omega) (by omega) (by omega) rfl (fun b cap rest h2 h3 h4=>?_)
 refine kW ?_
 refine OW_EV (EV_sliceTo (h:=0) rfl rfl rfl (by omega)) rfl ?_
 refine kW ?_
 refine kR ?_
 refine ⟨_,iC,_,rfl,.inr ⟨b,cap,_,rfl,by rfl,rfl,?_,Nat.zero_le _,h3⟩⟩
 show (zeros (Value.int .i64 0).cells.toList n++rest).length=_
 rw [List.length_append,zeros_int,ivn_length,List.length_replicate]
 omega
theorem sl_slc {L:List Chunk} {k m:Nat} {v:Value} {xs:List Value} (h:Sl L k v m xs):∃a c,v=.slice a m c:=by
 rcases h with ⟨c,rfl,rfl,_⟩|⟨a,c,rfl,_,_⟩
 ·exact ⟨_,_,rfl⟩
 ·exact ⟨_,_,rfl⟩
omit [W0] in
def ccL (ss:List (Value × List Nat)) (i:Nat):List Nat:=(ss.take i).flatMap (·.2)
theorem ccL_succ {ss:List (Value × List Nat)} {i:Nat} {x:Value × List Nat} (h:ss[i]? =some x):ccL ss (i+1)=ccL ss i++x.2:=by
 unfold ccL
 rw [List.take_add_one,h]
 simp [List.flatMap_append]
theorem ccL_le (ss:List (Value × List Nat)) (i:Nat):(ccL ss i).length≤(ccL ss ss.length).length:=by
 unfold ccL
 rw [List.take_length]
 conv=>rhs;rw [←List.take_append_drop i ss]
 rw [List.flatMap_append,List.length_append]
 omega
theorem concat_n (a:Option Addr) (c:Nat) (ss:List (Value × List Nat)) (L:List Chunk) (h:Sl L 1 (.slice a ss.length c) ss.length (ss.map (·.1))) (hs:∀x∈ss,Sl L 1 x.1 x.2.length (ivn x.2)) (hl:ss.length≤1000)
 (h1:1≤(ccL ss ss.length).length) (hn:(ccL ss ss.length).length≤1000000) :
 Gv Tryz.prog 201 [.slice a ss.length c].toArray L (fun r L'=>∃C,L'=C::L∧Ow 3 1 r (ccL ss ss.length).length (ivn (ccL ss ss.length)) C):=by
 refine Gv.of_body Tryz.func201 rfl rfl ?_
 have hle:=ccL_le ss
 refine kW ?_
 refine WC_loop (X:=Nat) (fun i=>[(0,.slice a ss.length c),(3,.int .i64 ((ccL ss i).length:Int)),(9,.slice a ss.length c),(10,.int .i64 (ss.length:Int)),(11,.int .i64 (i:Int))]) (fun _=>L)
  (fun i=>i≤ss.length) (fun i=>ss.length - i) 0 (Nat.zero_le _) iS (fun w h=>h) ?_
 intro i hi
 (repeat' first|refine kW ?_|refine kU fun bk=>?_|refine kV fun hc=>?_|refine kZ (fun hc=>?_) fun hc=>?_|fail)
 ·have hlt:i < ss.length:=by omega
  obtain ⟨x,hx⟩:∃x,ss[i]? =some x:=⟨ss[i],List.getElem?_eq_getElem hlt⟩
  have hsx:=hs x (List.mem_of_getElem? hx)
  obtain ⟨xv,xl⟩:=x
  simp only at hsx
  have hsu:=ccL_succ hx
  have hle1:=hle (i+1)
  rw [hsu,List.length_append] at hle1
  simp only at hsu hle1
  obtain ⟨xa,xc,rfl⟩:=sl_slc hsx
  obtain ⟨b,off,cap,cc,T,fr,hve,hfn,hcell⟩:=sl_at h (k:=i) (u:=.slice xa xl.length xc) (by rw [List.getElem?_map,hx];rfl)
  injection hve with q1 q2 q3
  subst q1 q3
  clear q2
  refine OW_EV (EV_indexAddr (j:=i) rfl rfl rfl hlt) rfl ?_
  refine kW ?_
  refine OW_EV (EV_load rfl hfn hcell) rfl ?_
  refine kW ?_
  rw [←Int.natCast_add,←List.length_append,←hsu]
  refine WQ_round (X:=Nat) (μ:=fun i=>ss.length - i) (x:=i) (i+1) (by omega) (by omega) iS (fun w h=>h)
 ·obtain rfl:i=ss.length:=by omega
  refine cC rfl rfl (grow_n _ L h1 hn) (fun r L' hp=>?_)
  obtain ⟨C,rfl,ho⟩:=hp
  refine kW ?_
  refine WC_loop (X:=Nat × Value × Chunk) (fun x=>[(6,x.2.1),(25,.slice a ss.length c),(26,.int .i64 (ss.length:Int)),(27,.int .i64 (x.1:Int))]) (fun x=>x.2.2::L)
   (fun x=>x.1≤ss.length∧Ow 3 1 x.2.1 (ccL ss x.1).length (ivn (ccL ss x.1)) x.2.2) (fun x=>ss.length - x.1) (0,r,C) ⟨Nat.zero_le _,ho⟩ iS (fun w h=>h) ?_
  rintro ⟨i,v,C1⟩ ⟨hi,hov⟩
  simp only at hi hov ⊢
  (repeat' first|refine kW ?_|refine kU fun bk=>?_|refine kV fun hc=>?_|refine kZ (fun hc=>?_) fun hc=>?_|fail)
  ·have hlt:i < ss.length:=by omega
   obtain ⟨x,hx⟩:∃x,ss[i]? =some x:=⟨ss[i],List.getElem?_eq_getElem hlt⟩
   have hsx:=hs x (List.mem_of_getElem? hx)
   obtain ⟨xv,xl⟩:=x
   simp only at hsx
   have hsu:=ccL_succ hx
   have hle1:=hle (i+1)
   rw [hsu,List.length_append] at hle1
   simp only at hsu hle1
   obtain ⟨xa,xc,rfl⟩:=sl_slc hsx
   obtain ⟨b,off,cap,cc,T,fr,hve,hfn,hcell⟩:=sl_at h (k:=i) (u:=.slice xa xl.length xc) (by rw [List.getElem?_map,hx];rfl)
   injection hve with q1 q2 q3
   subst q1 q3
   clear q2
   refine OW_EV (EV_indexAddr (j:=i) rfl rfl rfl hlt) rfl ?_
   refine kW ?_
   refine OW_EV (EV_load rfl hfn.there hcell) rfl ?_
   refine kW ?_
   refine OW_append rfl rfl hov (sl_there hsx) (by repeat (first|exact Zip.here _|apply Zip.there)) rfl ivn_ones (by omega) (by simp [maxLen];omega) rfl (fun v' C' ho' _ _=>?_)
   refine kW ?_
   rw [←List.length_append,←ivn_app,←hsu] at ho'
   refine WQ_round (X:=Nat × Value × Chunk) (μ:=fun x=>ss.length - x.1) (x:=(i,v,C1)) (i+1,v',C') (by simp only;omega) ⟨by simp only;omega,ho'⟩ iS (fun w h=>h)
  ·obtain rfl:i=ss.length:=by omega
   refine kR ?_
   exact ⟨_,iC,C1,rfl,hov⟩
omit [W0] in
def fxS (u1 u2 u3 u4:Value):List (Value × List Nat):=[(u1,List.replicate 144 8),(u2,List.replicate 112 9),(u3,List.replicate 24 7),(u4,List.replicate 8 8)]
theorem fx_cc (u1 u2 u3 u4:Value):ccL (fxS u1 u2 u3 u4) (fxS u1 u2 u3 u4).length=fxL:=by
 show (List.replicate 144 8++(List.replicate 112 9++(List.replicate 24 7++(List.replicate 8 8++[]))))=fxL
 decide
theorem fx_len (u1 u2 u3 u4:Value):(ccL (fxS u1 u2 u3 u4) (fxS u1 u2 u3 u4).length).length=288:=by rw [fx_cc];decide
theorem fixedLengths_n (L:List Chunk):Gv Tryz.prog 156 #[] L (fun r L'=>∃u v C D,r=.tuple #[u,v]∧L'=D::C::L∧Ow 3 1 u 288 (ivn fxL) C∧Ow 3 1 v 32 (ivn fxD) D):=by
 refine Gv.of_body (args:=[]) Tryz.func156 rfl rfl ?_
 refine kW ?_
 refine cC rfl rfl (times_n 8 144 L (by decide) (by decide)) (fun r L' hp=>?_)
 obtain ⟨C1,rfl,o1⟩:=hp
 obtain ⟨a1,c1,rfl⟩:=ow_slc o1
 refine kW ?_
 refine cC rfl rfl (times_n 9 112 _ (by decide) (by decide)) (fun r L' hp=>?_)
 obtain ⟨C2,rfl,o2⟩:=hp
 obtain ⟨a2,c2,rfl⟩:=ow_slc o2
 refine kW ?_
 refine cC rfl rfl (times_n 7 24 _ (by decide) (by decide)) (fun r L' hp=>?_)
 obtain ⟨C3,rfl,o3⟩:=hp
 obtain ⟨a3,c3,rfl⟩:=ow_slc o3
 refine kW ?_
 refine cC rfl rfl (times_n 8 8 _ (by decide) (by decide)) (fun r L' hp=>?_)
 obtain ⟨C4,rfl,o4⟩:=hp
 obtain ⟨a4,c4,rfl⟩:=ow_slc o4
 refine kW ?_
 refine OW_buildSlice (cs:=[.slice a1 144 c1,.slice a2 112 c2,.slice a3 24 c3,.slice a4 8 c4]) rfl (by rfl) (by first|(simp [fillL,patch,Value.cells,zeros];done)|(simp [fillL,patch,Value.cells,zeros];rfl)) (by omega) rfl rfl (fun b=>?_)
 refine kW ?_
 have hcc:=concat_n (some ⟨b,0,none⟩) 4 (fxS (.slice a1 144 c1) (.slice a2 112 c2) (.slice a3 24 c3) (.slice a4 8 c4))
  ([(b,cl [.slice a1 144 c1,.slice a2 112 c2,.slice a3 24 c3,.slice a4 8 c4] 154)]::C4::C3::C2::C1::L) (sl_cells (c:=#[.slice a1 144 c1,.slice a2 112 c2,.slice a3 24 c3,.slice a4 8 c4]) Fnd.here rfl rfl)
  (by
    intro x hx
    simp only [fxS,List.mem_cons,List.not_mem_nil,or_false] at hx
    rcases hx with rfl|rfl|rfl|rfl
    ·exact sl_there (sl_there (sl_there (sl_there (ow_sl o1))))
    ·exact sl_there (sl_there (sl_there (ow_sl o2)))
    ·exact sl_there (sl_there (ow_sl o3))
    ·exact sl_there (ow_sl o4)) (by show 4≤1000;decide) (by rw [fx_len];decide) (by rw [fx_len];decide)
 rw [fx_len,fx_cc] at hcc
 refine cC rfl rfl hcc (fun r L' hp=>?_)
 obtain ⟨C5,rfl,o5⟩:=hp
 refine kW ?_
 refine cC rfl rfl (times_n 5 32 _ (by decide) (by decide)) (fun r L' hp=>?_)
 obtain ⟨C6,rfl,o6⟩:=hp
 refine kW ?_
 refine kR ?_
 exact ⟨_,iC,_,_,C5,C6,rfl,rfl,o5,o6⟩
end Go.Proofs.YtemdlifojcgplaaGreatDoor
namespace Go.If
open Go.Vx Go.Hf
set_option linter.all false
theorem kS_sum:∀l:List Nat,kS l≤16384 * l.sum
 |[]=>by simp [kS]
 |x::r=>by
  have ih:=kS_sum r
  have h2:(if 0 < x then 2 ^ (15 - x) else 0)≤16384 * x:=by
   split
   ·have:2 ^ (15 - x)≤2 ^ 14:=Nat.pow_le_pow_right (by decide) (by omega)
    omega
   ·omega
  rw [List.sum_cons,kS]
  omega
theorem mem_sum:∀{l:List Nat} {x:Nat},x∈l→x≤l.sum
 |y::r,x,h=>by
  rw [List.sum_cons]
  rcases List.mem_cons.1 h with rfl|h
  ·omega
  ·have:=mem_sum h;omega
theorem sgl_sum (l:List Nat):sgl l=decide (l.sum < 2):=by
 unfold sgl
 by_cases h:l.sum < 2
 ·rw [decide_eq_true h,Bool.and_true,List.all_eq_true]
  intro x hx
  have:=mem_sum hx
  simp
  omega
 ·rw [decide_eq_false h,Bool.and_false]
end Go.If
namespace Go.Proofs.YtemdlifojcgplaaGreatDoor
open Go Go.Vx Go.Hf Go.If
variable [W0]
set_option maxRecDepth 4000
set_option linter.all false
theorem okL_icn {l:List Nat} (h:∀x∈l,x≤15):okL (icn l)=true:=by
 unfold okL icn
 rw [List.all_eq_true]
 intro x hx
 obtain ⟨y,hy,rfl⟩:=List.mem_map.1 hx
 have:=h y hy
 simp
 omega
theorem wgt_icn {l:List Nat} (h:∀x∈l,x≤15):wgt (icn l)=(kS l:Int):=by unfold wgt;rw [if_pos (okL_icn h),nl_icn]
theorem cdE_icn {l:List Nat} (h:∀x∈l,x≤15) (h4:l.length≤400) (hk:kS l≤32768):cdE (icn l)=0:=(cdE_zero (by rw [icn_length];exact h4) (okL_icn h) (by rw [nl_icn];exact hk)).1
theorem completeCode_n (a:Option Addr) (c:Nat) (l:List Nat) (L:List Chunk) (h:Sl L 1 (.slice a l.length c) l.length (ivn l)) (h15:∀x∈l,x≤15) (h4:l.length≤400) :
 Gv Tryz.prog 248 [.slice a l.length c].toArray L (fun r L'=>(kS l≠32768∧r=.tuple #[.pointer none,.int .i64 3]∧L'=L)∨
  (kS l=32768∧∃p C,r=.tuple #[.pointer (some ⟨p,0,none⟩),.int .i64 0]∧L'=C::L∧CoD l p C)):=by
 refine Gv.of_body Tryz.func248 rfl rfl ?_
 have hlen:(icn l).length=l.length:=icn_length l
 have hco:=hcomplete_n a c (icn l) L (by rw [hlen,intsN_icn];exact h) (by omega)
 have hnw:=hnew_n a c (icn l) L (by rw [hlen,intsN_icn];exact h) (by omega)
 rw [hlen,wgt_icn h15] at hco
 rw [hlen,nl_icn] at hnw
 by_cases hk:kS l=32768
 ·rw [hk,show (((32768:Nat):Int) == 32768)=true from rfl] at hco
  have h0:=cdE_icn h15 h4 (by omega)
  refine kW ?_
  refine cP rfl rfl hco ?_
  refine kW ?_
  refine cC rfl rfl hnw (fun r L' hp=>?_)
  rcases hp with ⟨h1,_⟩|⟨_,p,C,rfl,rfl,hc⟩
  ·exact absurd h0 h1
  refine kW ?_
  refine kR ?_
  exact ⟨_,iC,.inr ⟨hk,p,C,rfl,rfl,hc⟩⟩
 ·rw [show (((kS l:Nat):Int) == 32768)=false from by simpa using fun h=>hk (by omega)] at hco
  refine kW ?_
  refine cP rfl rfl hco ?_
  refine kW ?_
  refine WQ_retI (rs:=[.tmp 2,.tmp 3]) (vs:=[.pointer none,.int .i64 3]) rfl rfl ?_
  exact ⟨_,iC,.inl ⟨hk,rfl,rfl⟩⟩
theorem distanceCode_n (a:Option Addr) (c:Nat) (l:List Nat) (L:List Chunk) (h:Sl L 1 (.slice a l.length c) l.length (ivn l)) (h15:∀x∈l,x≤15) (h4:l.length≤400) :
 Gv Tryz.prog 249 [.slice a l.length c].toArray L (fun r L'=>(¬(kS l=32768∨sgl l=true)∧r=.tuple #[.pointer none,.int .i64 3]∧L'=L)∨
  ((kS l=32768∨sgl l=true)∧∃p C,r=.tuple #[.pointer (some ⟨p,0,none⟩),.int .i64 0]∧L'=C::L∧CoD l p C)):=by
 refine Gv.of_body Tryz.func249 rfl rfl ?_
 have hlen:(icn l).length=l.length:=icn_length l
 have hnw:=hnew_n a c (icn l) L (by rw [hlen,intsN_icn];exact h) (by omega)
 rw [hlen,nl_icn] at hnw
 have hcc:=completeCode_n a c l L h h15 h4
 refine kW ?_
 refine WC_loop (X:=Nat) (fun i=>[(0,.slice a l.length c),(4,.int .i64 (((l.take i).sum:Nat):Int)),(7,.slice a l.length c),(8,.int .i64 (l.length:Int)),(9,.int .i64 (i:Int))]) (fun _=>L)
  (fun i=>i≤l.length∧(l.take i).sum≤15 * i) (fun i=>l.length - i) 0 ⟨Nat.zero_le _,Nat.le_refl _⟩ iS (fun w h=>h) ?_
 rintro i ⟨hi,hsm⟩
 (repeat' first|refine kW ?_|refine kU fun bk=>?_|refine kV fun hc=>?_|refine kZ (fun hc=>?_) fun hc=>?_|fail)
 ·have hlt:i < l.length:=by omega
  obtain ⟨x,hx⟩:∃x,l[i]? =some x:=⟨l[i],List.getElem?_eq_getElem hlt⟩
  have hx15:=h15 x (List.mem_of_getElem? hx)
  have hsu:(l.take (i+1)).sum=(l.take i).sum+x:=by rw [List.take_add_one,hx];simp
  obtain ⟨b,off,cap,cc,T,fr,hve,hfn,hcell⟩:=sl_at h (ivn_get hx)
  injection hve with q1 q2 q3
  subst q1 q3
  clear q2
  refine OW_EV (EV_indexAddr (j:=i) rfl rfl rfl hlt) rfl ?_
  refine kW ?_
  refine OW_EV (EV_load rfl hfn hcell) rfl ?_
  refine kW ?_
  rw [←Int.natCast_add,←hsu]
  refine WQ_round (X:=Nat) (μ:=fun i=>l.length - i) (x:=i) (i+1) (by omega) ⟨by omega,by omega⟩ iS (fun w h=>h)
 ·obtain rfl:i=l.length:=by omega
  rw [List.take_length] at *
  refine cC rfl rfl hcc (fun r L' hp=>?_)
  have hsg:sgl l=false:=by rw [sgl_sum];simp;omega
  simp only [hsg,Bool.false_eq_true,or_false]
  rcases hp with ⟨h1,rfl,rfl⟩|⟨h1,p,C,rfl,rfl,hc⟩
  ·refine kW ?_
   refine WQ_retI (rs:=[.tmp 2,.tmp 3]) (vs:=[.pointer none,.int .i64 3]) rfl rfl ?_
   exact ⟨_,iC,.inl ⟨h1,rfl,rfl⟩⟩
  ·refine kW ?_
   refine kR ?_
   exact ⟨_,iC,.inr ⟨h1,p,C,rfl,rfl,hc⟩⟩
 ·obtain rfl:i=l.length:=by omega
  rw [List.take_length] at *
  have hsg:sgl l=true:=by rw [sgl_sum];simp;omega
  have hks:=kS_sum l
  have h0:=cdE_icn h15 h4 (by omega)
  refine cC rfl rfl hnw (fun r L' hp=>?_)
  rcases hp with ⟨h1,_⟩|⟨_,p,C,rfl,rfl,hc⟩
  ·exact absurd h0 h1
  refine kW ?_
  refine kR ?_
  exact ⟨_,iC,.inr ⟨.inr hsg,p,C,rfl,rfl,hc⟩⟩
theorem codesOf_n (a a2:Option Addr) (c c2:Nat) (l dl:List Nat) (L:List Chunk) (h:Sl L 1 (.slice a l.length c) l.length (ivn l)) (h15:∀x∈l,x≤15) (h4:l.length≤400) (hd:Sl L 1 (.slice a2 dl.length c2) dl.length (ivn dl)) (hd15:∀x∈dl,x≤15) (hd4:dl.length≤400) :
 Gv Tryz.prog 222 [.slice a l.length c,.slice a2 dl.length c2].toArray L (fun r L'=>(¬(kS l=32768∧(kS dl=32768∨sgl dl=true))∧r=.tuple #[.pointer none,.int .i64 3]∧L'=L)∨
  ((kS l=32768∧(kS dl=32768∨sgl dl=true))∧∃p pl pd Cl Cd,r=.tuple #[.pointer (some ⟨p,0,none⟩),.int .i64 0]∧L'=csC p pl pd::Cl::Cd::L∧CoD l pl Cl∧CoD dl pd Cd)):=by
 refine Gv.of_body Tryz.func222 rfl rfl ?_
 have hcc:=completeCode_n a c l L h h15 h4
 refine kW ?_
 refine cC rfl rfl hcc (fun r L' hp=>?_)
 rcases hp with ⟨h1,rfl,rfl⟩|⟨h1,pl,Cl,rfl,rfl,hcl⟩
 ·refine kW ?_
  refine WQ_retI (rs:=[.tmp 4,.tmp 5]) (vs:=[.pointer none,.int .i64 3]) rfl rfl ?_
  exact ⟨_,iC,.inl ⟨fun hh=>h1 hh.1,rfl,rfl⟩⟩
 have hdc:=distanceCode_n a2 c2 dl (Cl::L) (sl_there hd) hd15 hd4
 refine kW ?_
 refine cC rfl rfl hdc (fun r L' hp=>?_)
 rcases hp with ⟨h2,rfl,rfl⟩|⟨h2,pd,Cd,rfl,rfl,hcd⟩
 ·refine kW ?_
  refine WQ_retI (rs:=[.tmp 4,.tmp 5]) (vs:=[.pointer none,.int .i64 3]) rfl rfl ?_
  exact ⟨_,iC,.inl ⟨fun hh=>h2 hh.2,rfl,rfl⟩⟩
 (refine kW ?_;refine kU fun bk=>?_;refine kW ?_)
 refine WQ_retI (rs:=[.tmp 4,.tmp 5]) (vs:=[.pointer (some ⟨bk,0,none⟩),.int .i64 0]) rfl rfl ?_
 exact ⟨csC bk pl pd::Cl::Cd::L,iC,.inr ⟨⟨h1,h2⟩,bk,pl,pd,Cl,Cd,rfl,rfl,hcl,hcd⟩⟩
omit [W0] in
def KnD (kn:Value) (K:Chunk):Prop:=(kn=.pointer none∧K=[])∨∃pk pl pd Cl Cd,kn=.pointer (some ⟨pk,0,none⟩)∧K=csC pk pl pd++(Cl++Cd)∧CoD fxL pl Cl∧CoD fxD pd Cd
theorem KnD.one {kn:Value} {K:Chunk} (h:KnD kn K):kn.oneCell'=true:=by
 rcases h with ⟨rfl,_⟩|⟨pk,_,_,_,_,rfl,_⟩<;>rfl
theorem fxL_15:∀x∈fxL,x≤15:=by decide
theorem fxD_15:∀x∈fxD,x≤15:=by decide
theorem fxL_kS:kS fxL=32768:=by decide
theorem fxD_kS:kS fxD=32768:=by decide
theorem fxL_len:fxL.length=288:=by decide
theorem fxD_len:fxD.length=32:=by decide
theorem pfixed_n (p q most:Nat) (v kn:Value) (d:List UInt8) (s:S6) (D E C K:Chunk) (L:List Chunk) (h:RdN q d s.t D E) (hl:d.length≤140737488355328) (he:s.e=0) (hm:most≤1000000) (hkn:KnD kn K)
 (ho:Ow 5 1 v s.out.length (bsv s.out) C) (hom:s.out.length≤most) :
 Gv Tryz.prog 180 [.pointer (some ⟨p,0,none⟩)].toArray (rdR p q v most kn::D::E::C::K::L) (fun r L'=>
  ((cdC d most fxL fxD (8 * d.length+1) s).e≠0∧r=.int .i64 ((cdC d most fxL fxD (8 * d.length+1) s).e:Int)∧L'=L)∨
  ((cdC d most fxL fxD (8 * d.length+1) s).e=0∧r=.int .i64 0∧∃v' D' C' kn' K',KnD kn' K'∧Ow 5 1 v' (cdC d most fxL fxD (8 * d.length+1) s).out.length (bsv (cdC d most fxL fxD (8 * d.length+1) s).out) C'∧(cdC d most fxL fxD (8 * d.length+1) s).out.length≤most∧RdN q d (cdC d most fxL fxD (8 * d.length+1) s).t D' E∧
    L'=rdR p q v' most kn'::D'::E::C'::K'::L)):=by
 have hcd:=fun pc pl pd Cl Cd (hCl:CoD fxL pl Cl) (hCd:CoD fxD pd Cd)=>pcoded_n p q pc pl pd most v (.pointer (some ⟨pc,0,none⟩)) fxL fxD d s D E C Cl Cd L h hl he hm rfl ho hom hCl (by rw [fxL_kS];decide) fxL_15 (by decide) hCd (by rw [fxD_kS];decide) fxD_15 (by decide)
 generalize cdC d most fxL fxD (8 * d.length+1) s=R at hcd ⊢
 obtain ⟨va,vc,rfl⟩:=ow_slc ho
 have hfin:∀(r:Value) (L':List Chunk) (pk pl pd:Nat) (Cl Cd:Chunk),CoD fxL pl Cl→CoD fxD pd Cd→((R.e≠0∧r=Value.int .i64 (R.e:Int)∧L'=L)∨(R.e=0∧r=.int .i64 0∧∃v' D' C',Ow 5 1 v' R.out.length (bsv R.out) C'∧R.out.length≤most∧RdN q d R.t D' E∧L'=rdR p q v' most (.pointer (some ⟨pk,0,none⟩))::D'::E::C'::csC pk pl pd::Cl::Cd::L))→
  ∃L2,(∀w,Holds w L'→Holds w L2)∧((R.e≠0∧r=Value.int .i64 (R.e:Int)∧L2=L)∨(R.e=0∧r=.int .i64 0∧∃v' D' C' kn' K',KnD kn' K'∧Ow 5 1 v' R.out.length (bsv R.out) C'∧R.out.length≤most∧RdN q d R.t D' E∧L2=rdR p q v' most kn'::D'::E::C'::K'::L)):=by
  intro r L' pk pl pd Cl Cd hCl hCd hp
  rcases hp with ⟨h1,rfl,e⟩|⟨h1,rfl,v',D',C',ho',hl',hr',rfl⟩
  ·exact ⟨L',fun w h=>h,.inl ⟨h1,rfl,e⟩⟩
  ·refine ⟨rdR p q v' most (.pointer (some ⟨pk,0,none⟩))::D'::E::C'::(csC pk pl pd++(Cl++Cd))::L,fun w h=>?_,.inr ⟨h1,rfl,v',D',C',_,_,.inr ⟨pk,pl,pd,Cl,Cd,rfl,rfl,hCl,hCd⟩,ho',hl',hr',rfl⟩⟩
   simpa [Holds,List.append_assoc] using h
 rcases hkn with ⟨rfl,rfl⟩|⟨pk,pl,pd,Cl,Cd,rfl,rfl,hCl,hCd⟩
 ·refine Gv.of_body Tryz.func180 rfl rfl ?_
  unfold rdR
  refine kW ?_
  refine cC rfl rfl (fixedLengths_n _) (fun r L' hp=>?_)
  obtain ⟨u1,u2,C1,C2,rfl,rfl,o1,o2⟩:=hp
  obtain ⟨a1,c1,rfl⟩:=ow_slc o1
  obtain ⟨a2,c2,rfl⟩:=ow_slc o2
  refine kW ?_
  have hco:=codesOf_n a1 a2 c1 c2 fxL fxD (C2::C1::rdR p q (.slice va s.out.length vc) most (.pointer none)::D::E::C::[]::L) (by rw [fxL_len];exact sl_there (ow_sl o1)) fxL_15 (by decide) (by rw [fxD_len];exact ow_sl o2) fxD_15 (by decide)
  rw [fxL_len,fxD_len] at hco
  unfold rdR at hco
  refine cC rfl rfl hco (fun r L' hp=>?_)
  rcases hp with ⟨h1,_⟩|⟨_,pk,pl,pd,Cl,Cd,rfl,rfl,hCl,hCd⟩
  ·exact absurd ⟨fxL_kS,.inl fxD_kS⟩ h1
  have hcd:=hcd pk pl pd Cl Cd hCl hCd
  unfold rdR at hcd
  refine kW ?_
  refine cC rfl rfl (Gv.holds hcd (fun w h=>iH h)) (fun r L' hp=>?_)
  have hf:=hfin r L' pk pl pd Cl Cd hCl hCd hp
  obtain ⟨L2,hL2,hp2⟩:=hf
  refine kW ?_
  refine kH ?_
  exact ⟨L2,hL2,hp2⟩
 ·refine Gv.holds (L':=rdR p q (.slice va s.out.length vc) most (.pointer (some ⟨pk,0,none⟩))::D::E::C::csC pk pl pd::Cl::Cd::L) ?_ (fun w h=>by simpa [Holds,List.append_assoc] using h)
  refine Gv.of_body Tryz.func180 rfl rfl ?_
  have hcd:=hcd pk pl pd Cl Cd hCl hCd
  unfold rdR at hcd ⊢
  refine kW ?_
  refine cC rfl rfl hcd (fun r L' hp=>?_)
  have hf:=hfin r L' pk pl pd Cl Cd hCl hCd hp
  obtain ⟨L2,hL2,hp2⟩:=hf
  refine kW ?_
  refine kH ?_
  exact ⟨L2,hL2,hp2⟩
end Go.Proofs.YtemdlifojcgplaaGreatDoor
namespace Go.If
open Go.Vx Go.Hf
set_option linter.all false
def rpV (k:Nat) (l:List Nat):Nat:=if k=16 then l.getD (l.length - 1) 0 else if k=17∨k=18 then 0 else k
def rpS [W0] (d:List UInt8) (own:List Nat) (m:Nat) (s:S6) (l:List Nat):S6:=
 if (sy d s own).e≠0 then sy d s own
 else if (tk d (sy d s own) (rpB (sv d s own))).e≠0 then tk d (sy d s own) (rpB (sv d s own))
 else if (sv d s own=16∧l=[])∨m < l.length+(rpA (sv d s own)+tv d (sy d s own) (rpB (sv d s own))) then fl (tk d (sy d s own) (rpB (sv d s own))) 3
 else tk d (sy d s own) (rpB (sv d s own))
def rpL [W0] (d:List UInt8) (own:List Nat) (s:S6) (l:List Nat):List Nat:=l++List.replicate (rpA (sv d s own)+tv d (sy d s own) (rpB (sv d s own))) (rpV (sv d s own) l)
def lpS [W0] (d:List UInt8) (own:List Nat) (m:Nat):Nat→S6→List Nat→S6 × List Nat
 |0,s,l=>(s,l)
 |f+1,s,l=>if s.e=0∧l.length < m then (if (rpS d own m s l).e=0 then lpS d own m f (rpS d own m s l) (rpL d own s l) else (rpS d own m s l,l)) else (s,l)
def owS [W0] (d:List UInt8):Nat→Nat→S6→List Nat→S6 × List Nat
 |0,_,s,o=>(s,o)
 |k+1,i,s,o=>if (tk d s 3).e≠0 then (tk d s 3,o) else owS d k (i+1) (tk d s 3) (o.set (ordL.getD i 0) (tv d s 3))
def lcS [W0] (d:List UInt8) (s:S6):S6 × List Nat:=
 if (tk d s 4).e≠0 then (tk d s 4,[])
 else if (owS d (4+tv d s 4) 0 (tk d s 4) (List.replicate 19 0)).1.e≠0 then owS d (4+tv d s 4) 0 (tk d s 4) (List.replicate 19 0)
 else if kS (owS d (4+tv d s 4) 0 (tk d s 4) (List.replicate 19 0)).2=32768 then owS d (4+tv d s 4) 0 (tk d s 4) (List.replicate 19 0)
 else (fl (owS d (4+tv d s 4) 0 (tk d s 4) (List.replicate 19 0)).1 3,[])
def dyK (n1:Nat) (q:S6 × List Nat):S6 × List Nat × Nat:=
 if q.2.getD 256 0≠0∧kS (q.2.take n1)=32768∧(kS (q.2.drop n1)=32768∨sgl (q.2.drop n1)=true) then (q.1,q.2,n1) else (fl q.1 3,[],0)
def dyT [W0] (d:List UInt8) (n1 n2:Nat) (s:S6):S6 × List Nat × Nat:=
 if (lcS d s).1.e≠0 then ((lcS d s).1,[],0)
 else if (lpS d (lcS d s).2 (n1+n2) (n1+n2) (lcS d s).1 []).1.e≠0 then ((lpS d (lcS d s).2 (n1+n2) (n1+n2) (lcS d s).1 []).1,[],0)
 else dyK n1 (lpS d (lcS d s).2 (n1+n2) (n1+n2) (lcS d s).1 [])
def dyS [W0] (d:List UInt8) (s:S6):S6 × List Nat × Nat:=
 if (tk d s 5).e≠0 then (tk d s 5,[],0)
 else if 29 < tv d s 5 then (fl (tk d s 5) 3,[],0)
 else if (tk d (tk d s 5) 5).e≠0 then (tk d (tk d s 5) 5,[],0)
 else if 29 < tv d (tk d s 5) 5 then (fl (tk d (tk d s 5) 5) 3,[],0)
 else dyT d (257+tv d s 5) (1+tv d (tk d s 5) 5) (tk d (tk d s 5) 5)
theorem fl3 {s:S6} (h:s.e=0) (k:Nat):(fl s k).e=k:=by rw [fl_e,if_pos h]
theorem ow_facts [W0] (d:List UInt8):∀k i s o,s.e=0→s.t≤8 * d.length→o.length=19→(∀x∈o,x≤7)→(owS d k i s o).2.length=19∧(∀x∈(owS d k i s o).2,x≤7)∧(owS d k i s o).1.out=s.out
 |0,i,s,o,he,ht,h1,h2=>⟨h1,h2,rfl⟩
 |k+1,i,s,o,he,ht,h1,h2=>by
  rw [owS]
  split
  ·exact ⟨h1,h2,tk_out _ _ _⟩
  ·rename_i h
   have h0:(tk d s 3).e=0:=by omega
   have hb:tv d s 3 < 2 ^ 3:=by
    unfold tv
    split
    ·exact Nat.mod_lt _ (by decide)
    ·decide
   have ht2:(tk d s 3).t≤8 * d.length:=by
    unfold tk
    split
    ·assumption
    ·rw [fl_t];exact ht
   have:=ow_facts d k (i+1) (tk d s 3) (o.set (ordL.getD i 0) (tv d s 3)) h0 ht2 (by rw [List.length_set];exact h1) (fun x hx=>by
    rcases List.mem_or_eq_of_mem_set hx with h|rfl
    ·exact h2 x h
    ·omega)
   exact ⟨this.1,this.2.1,by rw [this.2.2,tk_out]⟩
theorem rpA_pos (k:Nat):1≤rpA k∧rpA k≤11:=by
 unfold rpA
 repeat' split
 all_goals omega
theorem rpB_le (k:Nat):rpB k≤7:=by
 unfold rpB
 repeat' split
 all_goals omega
end Go.If
namespace Go.Proofs.YtemdlifojcgplaaGreatDoor
open Go Go.Vx Go.Hf Go.If
variable [W0]
set_option maxRecDepth 4000
set_option linter.all false
theorem lengthOf_n (k:Nat) (a:Option Addr) (c:Nat) (l:List Nat) (L:List Chunk) (h:Sl L 1 (.slice a l.length c) l.length (ivn l)) (hk:k≤400) (hl:l.length≤1000) (h1:¬(k=16∧l=[])) :
 GvP Tryz.prog 273 [.int .i64 (k:Int),.slice a l.length c].toArray L (.int .i64 ((rpV k l:Nat):Int)):=by
 refine Gv.of_body Tryz.func273 rfl rfl ?_
 unfold rpV
 (repeat' first|refine kW ?_|refine kU fun bk=>?_|refine kV fun hc=>?_|refine kZ (fun hc=>?_) fun hc=>?_|fail)
 ·have h16:k=16:=by omega
  have hne:0 < l.length:=List.length_pos_iff.2 fun hh=>h1 ⟨h16,hh⟩
  rw [if_pos h16]
  obtain ⟨x,hx⟩:∃x,l[l.length - 1]? =some x:=⟨l[l.length - 1],List.getElem?_eq_getElem (by omega)⟩
  obtain ⟨b,off,cap,cc,T,fr,hve,hfn,hcell⟩:=sl_at h (ivn_get hx)
  injection hve with q1 q2 q3
  subst q1 q3
  clear q2
  rw [show l.getD (l.length - 1) 0=x from by simp [List.getD,hx]]
  rw [show (l.length:Int) - 1=((l.length - 1:Nat):Int) from by omega]
  refine OW_EV (EV_indexAddr (j:=l.length - 1) rfl rfl rfl (by omega)) rfl ?_
  refine kW ?_
  refine OW_EV (EV_load rfl hfn hcell) rfl ?_
  refine kW ?_
  exact kE
 ·rw [if_neg (by omega),if_pos (by omega)]
  exact kE
 ·rw [if_neg (by omega),if_pos (by omega)]
  exact kE
 ·rw [if_neg (by omega),if_neg (by omega)]
  exact kE
theorem prun_n (p q most k:Nat) (v kn:Value) (d:List UInt8) (s:S6) (D E:Chunk) (L:List Chunk) (h:RdN q d s.t D E) (hl:d.length≤140737488355328) (he:s.e=0) (hk:k≤400) :
 Gv Tryz.prog 272 [.pointer (some ⟨p,0,none⟩),.int .i64 (k:Int)].toArray (rdR p q v most kn::D::E::L) (fun r L'=>
  ((tk d s (rpB k)).e≠0∧r=.tuple #[.int .i64 0,.int .i64 ((tk d s (rpB k)).e:Int)]∧L'=L)∨
  ((tk d s (rpB k)).e=0∧r=.tuple #[.int .i64 ((rpA k+tv d s (rpB k):Nat):Int),.int .i64 0]∧∃D',RdN q d (tk d s (rpB k)).t D' E∧L'=rdR p q v most kn::D'::E::L)):=by
 refine Gv.of_body Tryz.func272 rfl rfl ?_
 have hb:rpA k≤11∧rpB k≤7:=by unfold rpA rpB;split<;>(try split)<;>(try split)<;>omega
 have hru:=srun_n k (rdR p q v most kn::D::E::L) (by omega)
 have hpc:=pcount_n p q most (rpB k) (rpA k) v kn d s D E L h hl (by omega) he (by omega)
 generalize rpA k=ra at hb hru hpc ⊢
 generalize rpB k=rb at hb hru hpc ⊢
 generalize tv d s rb=z at hpc ⊢
 generalize tk d s rb=s1 at hpc ⊢
 refine kW ?_
 refine cP rfl rfl hru ?_
 refine kW ?_
 refine cC rfl rfl hpc (fun r L' hp=>?_)
 rcases hp with ⟨h1,rfl,rfl⟩|⟨h1,rfl,D',hr,rfl⟩
 ·refine kW ?_
  refine kR ?_
  exact ⟨_,iC,.inl ⟨h1,rfl,rfl⟩⟩
 ·refine kW ?_
  refine kR ?_
  exact ⟨_,iC,.inr ⟨h1,rfl,D',hr,rfl⟩⟩
theorem lengthCode_n (p q most:Nat) (v kn:Value) (d:List UInt8) (s:S6) (D E:Chunk) (L:List Chunk) (h:RdN q d s.t D E) (hl:d.length≤140737488355328) (he:s.e=0) (hor:OrAt L) :
 Gv Tryz.prog 271 [.pointer (some ⟨p,0,none⟩)].toArray (rdR p q v most kn::D::E::L) (fun r L'=>
  ((lcS d s).1.e≠0∧r=.tuple #[.pointer none,.int .i64 ((lcS d s).1.e:Int)]∧L'=L)∨
  ((lcS d s).1.e=0∧∃pc Co D',r=.tuple #[.pointer (some ⟨pc,0,none⟩),.int .i64 0]∧RdN q d (lcS d s).1.t D' E∧CoD (lcS d s).2 pc Co∧kS (lcS d s).2=32768∧(lcS d s).2.length=19∧(∀x∈(lcS d s).2,x≤7)∧(lcS d s).1.out=s.out∧L'=rdR p q v most kn::D'::E::Co::L)):=by
 refine Gv.of_body Tryz.func271 rfl rfl ?_
 have hc:=pcount_n p q most 4 4 v kn d s D E L h hl (by decide) he (by decide)
 have hto:=tk_out d s 4
 have htv:=tv_lt d s 4
 have htt:(tk d s 4).e=0→(tk d s 4).t≤8 * d.length:=fun h0=>by
  unfold tk at h0 ⊢
  split
  ·assumption
  ·rw [fl_t];exact h.1
 unfold lcS
 generalize tv d s 4=n at hc htv ⊢
 generalize tk d s 4=s1 at hc hto htt ⊢
 refine kW ?_
 refine cC rfl rfl hc (fun r L' hp=>?_)
 rcases hp with ⟨h1,rfl,rfl⟩|⟨h1,rfl,D1,hr1,rfl⟩
 ·rw [if_pos h1]
  (refine kW ?_;refine kV fun hc=>?_;refine kW ?_)
  refine WQ_retI (rs:=[.tmp 2,.tmp 3]) (vs:=[.pointer none,.int .i64 (s1.e:Int)]) rfl rfl ?_
  exact ⟨_,iC,.inl ⟨h1,rfl,rfl⟩⟩
 rw [if_neg (show ¬s1.e≠0 by omega)]
 have hfa:=ow_facts d (4+n) 0 s1 (List.replicate 19 0) h1 (htt h1) (by simp) (by simp)
 generalize hR:owS d (4+n) 0 s1 (List.replicate 19 0)=R at hfa ⊢
 rw [hto] at hfa
 refine kW ?_
 refine OW_makeSlice (m:=19) (c:=19) rfl rfl (by rfl) (by omega) (by omega) (by omega) rfl (fun b=>?_)
 rw [zeros_int]
 refine kW ?_
 unfold rdR
 refine WC_loop (X:=Nat × S6 × List Nat × Chunk) (fun x=>[(0,.pointer (some ⟨p,0,none⟩)),(6,.slice (some ⟨b,0,none⟩) 19 19),(19,.int .i64 ((4+n:Nat):Int)),(20,.int .i64 (x.1:Int))]) (fun x=>[(b,cl (ivn x.2.2.1) 3)]::rdR p q v most kn::x.2.2.2::E::L)
  (fun x=>x.1≤4+n∧x.2.1.e=0∧RdN q d x.2.1.t x.2.2.2 E∧x.2.2.1.length=19∧owS d (4+n - x.1) x.1 x.2.1 x.2.2.1=R) (fun x=>4+n - x.1) (0,s1,List.replicate 19 0,D1) ⟨Nat.zero_le _,h1,hr1,by simp,hR⟩ iS (fun w h=>h) ?_
 rintro ⟨i,s5,o,D5⟩ ⟨hi,he5,hr5,hol,hsl⟩
 simp only at hi he5 hr5 hol hsl ⊢
 (repeat' first|refine kW ?_|refine kU fun bk=>?_|refine kV fun hc=>?_|refine kZ (fun hc=>?_) fun hc=>?_|fail)
 ·obtain ⟨k2,hk2⟩:∃k2,4+n - i=k2+1:=⟨4+n - i - 1,by omega⟩
  have hk3:4+n - (i+1)=k2:=by omega
  have htk:=ptake_n p q most 3 v kn d s5 D5 E ([(b,cl (ivn o) 3)]::L) hr5 hl (by decide) he5
  rw [hk2,owS] at hsl
  generalize tv d s5 3=z at htk hsl
  generalize tk d s5 3=s6 at htk hsl
  refine cC rfl rfl (Gv.holds htk (fun w h=>iH h)) (fun r L' hp=>?_)
  rcases hp with ⟨h6,rfl,rfl⟩|⟨h6,rfl,D6,hr6,rfl⟩
  ·rw [if_pos h6] at hsl
   subst hsl
   rw [if_pos (by exact h6)]
   (refine kW ?_;refine kV fun hc=>?_;refine kW ?_)
   refine WQ_retI (rs:=[.tmp 2,.tmp 3]) (vs:=[.pointer none,.int .i64 (s6.e:Int)]) rfl rfl ?_
   exact ⟨_,iC,.inl ⟨h6,rfl,rfl⟩⟩
  rw [if_neg (show ¬s6.e≠0 by omega)] at hsl
  have ho19:ordL.getD i 0 < 19:=by
   have:∀j,j < 19→ordL.getD j 0 < 19:=by decide
   exact this i (by omega)
  have hord:=sordered_n i ([(b,cl (ivn o) 3)]::rdR p q v most kn::D6::E::L) hor.there.there.there.there (by omega)
  unfold rdR at hord
  generalize ordL.getD i 0=oi at hsl ho19 hord
  refine kW ?_
  refine cP rfl rfl (GvP.of hord iC iC) ?_
  refine kW ?_
  refine OW_EV (EV_indexAddr (j:=oi) rfl rfl rfl (by omega)) rfl ?_
  refine kW ?_
  have hse:(ivn o).set (0+oi * 1) (.int .i64 (z:Int))=ivn (o.set oi z):=by simp [ivn,List.map_set]
  refine OW_storeTo (ivn (o.set oi z)) rfl rfl rfl hse iU (by rw [ivn_length];omega) ?_
  refine kW ?_
  refine WQ_round (X:=Nat × S6 × List Nat × Chunk) (μ:=fun x=>4+n - x.1) (x:=(i,s5,o,D5)) (i+1,s6,o.set oi z,D6) (by simp only;omega) ⟨by simp only;omega,h6,hr6,by simp only [List.length_set];exact hol,by simp only;rw [hk3];exact hsl⟩ iS (fun w h=>iH h)
 ·obtain rfl:i=4+n:=by omega
  rw [show 4+n - (4+n)=0 from by omega,owS] at hsl
  subst hsl
  simp only at hfa
  rw [if_neg (show ¬(s5,o).1.e≠0 from fun hh=>hh he5)]
  have hcc:=completeCode_n (some ⟨b,0,none⟩) 19 o ([(b,cl (ivn o) 3)]::rdR p q v most kn::D5::E::L) (by rw [hol];exact sl_cells (c:=(ivn o).toArray) Fnd.here (by rw [ivn_length,hol]) (by simp)) (fun x hx=>by have:=hfa.2.1 x hx;omega) (by omega)
  rw [hol] at hcc
  unfold rdR at hcc
  refine cC rfl rfl hcc (fun r L' hp=>?_)
  rcases hp with ⟨h7,rfl,rfl⟩|⟨h7,pc,Co,rfl,rfl,hco⟩
  ·rw [if_neg (by exact h7)]
   simp only [fl3 he5]
   refine kW ?_
   refine kR ?_
   exact ⟨_,iC,.inl ⟨by decide,rfl,rfl⟩⟩
  ·rw [if_pos (by exact h7)]
   refine kW ?_
   refine kR ?_
   exact ⟨_,iC,.inr ⟨he5,pc,Co,D5,rfl,hr5,hco,h7,hfa.1,hfa.2.1,hfa.2.2,rfl⟩⟩
end Go.Proofs.YtemdlifojcgplaaGreatDoor
namespace Go.Hf
open Go.Vx
set_option linter.all false
theorem rdS_lt2 {l:List Nat} (hl:0 < l.length) (w t z:Nat):∀f n,(rdS l w t z f n).1 < l.length
 |0,n=>by simpa [rdS] using hl
 |f+1,n=>by
  have ih:=rdS_lt2 hl w t z f (n+1)
  unfold rdS
  split
  ·rename_i i h
   exact (symAt_lt h).1
  ·split
   ·exact hl
   ·split
    ·exact hl
    ·exact ih
end Go.Hf
namespace Go.If
open Go.Vx Go.Hf
set_option linter.all false
theorem sv_lt [W0] (d:List UInt8) (s:S6) {l:List Nat} (h:0 < l.length):sv d s l < l.length:=by
 unfold sv
 split
 ·exact rdS_lt2 h _ _ _ _ _
 ·exact h
theorem rpV_le {k:Nat} {l:List Nat} (hk:k < 19) (h:∀x∈l,x≤15):rpV k l≤15:=by
 unfold rpV
 split
 ·by_cases hl:l.length - 1 < l.length
  ·rw [show l.getD (l.length - 1) 0=l[l.length - 1] from by simp [List.getD,hl]]
   exact h _ (List.getElem_mem hl)
  ·rw [show l.getD (l.length - 1) 0=0 from by simp [List.getD,List.getElem?_eq_none (Nat.le_of_not_lt hl)]]
   omega
 ·split
  ·omega
  ·omega
def lgS [W0] (d:List UInt8) (m:Nat) (s:S6):S6 × List Nat:=if (lcS d s).1.e≠0 then ((lcS d s).1,[]) else lpS d (lcS d s).2 m m (lcS d s).1 []
theorem dyT_eq [W0] (d:List UInt8) (n1 n2:Nat) (s:S6):dyT d n1 n2 s=if (lgS d (n1+n2) s).1.e≠0 then ((lgS d (n1+n2) s).1,[],0) else dyK n1 (lgS d (n1+n2) s):=by
 unfold dyT lgS
 by_cases h:(lcS d s).1.e≠0
 ·simp only [if_pos h]
 ·simp only [if_neg h]
end Go.If
namespace Go.Proofs.YtemdlifojcgplaaGreatDoor
open Go Go.Vx Go.Hf Go.If
variable [W0]
set_option maxRecDepth 4000
set_option linter.all false
theorem plengths_n (p q most m:Nat) (v kn:Value) (d:List UInt8) (s:S6) (D E:Chunk) (L:List Chunk) (h:RdN q d s.t D E) (hl:d.length≤140737488355328) (he:s.e=0) (hor:OrAt L) (hm:m≤400) :
 Gv Tryz.prog 253 [.pointer (some ⟨p,0,none⟩),.int .i64 (m:Int)].toArray (rdR p q v most kn::D::E::L) (fun r L'=>
  ((lgS d m s).1.e≠0∧r=.tuple #[.slice none 0 0,.int .i64 ((lgS d m s).1.e:Int)]∧L'=L)∨
  ((lgS d m s).1.e=0∧∃u Cq D',r=.tuple #[u,.int .i64 0]∧RdN q d (lgS d m s).1.t D' E∧Ow 3 1 u m (ivn (lgS d m s).2) Cq∧(lgS d m s).2.length=m∧(∀x∈(lgS d m s).2,x≤15)∧(lgS d m s).1.out=s.out∧L'=Cq::rdR p q v most kn::D'::E::L)):=by
 refine Gv.of_body Tryz.func253 rfl rfl ?_
 have hlc:=lengthCode_n p q most v kn d s D E L h hl he hor
 unfold lgS
 generalize lcS d s=S at hlc ⊢
 obtain ⟨S1,own⟩:=S
 simp only at hlc ⊢
 refine kW ?_
 refine cC rfl rfl hlc (fun r L' hp=>?_)
 rcases hp with ⟨h1,rfl,rfl⟩|⟨h1,pc,Co,D1,rfl,hr1,hco,hks,hol,ho7,hout,rfl⟩
 ·rw [if_pos h1]
  (refine kW ?_;refine kV fun hc=>?_;refine kW ?_)
  refine WQ_retI (rs:=[.tmp 4,.tmp 5]) (vs:=[.slice none 0 0,.int .i64 (S1.e:Int)]) rfl rfl ?_
  exact ⟨_,iC,.inl ⟨h1,rfl,rfl⟩⟩
 rw [if_neg (show ¬S1.e≠0 by omega)]
 generalize hQ:lpS d own m m S1 []=Q
 obtain ⟨q1,q2⟩:=Q
 simp only
 unfold rdR
 refine kW ?_
 refine WC_loop (X:=Nat × S6 × List Nat × Value × Chunk × Chunk) (fun x=>[(0,.pointer (some ⟨p,0,none⟩)),(1,.int .i64 (m:Int)),(6,.pointer (some ⟨pc,0,none⟩)),(8,x.2.2.2.1)]) (fun x=>x.2.2.2.2.1::rdR p q v most kn::x.2.2.2.2.2::E::Co::L)
  (fun x=>x.2.1.e=0∧x.2.2.1.length≤m∧m≤x.1+x.2.2.1.length∧(∀y∈x.2.2.1,y≤15)∧Ow 3 1 x.2.2.2.1 x.2.2.1.length (ivn x.2.2.1) x.2.2.2.2.1∧RdN q d x.2.1.t x.2.2.2.2.2 E∧x.2.1.out=S1.out∧lpS d own m x.1 x.2.1 x.2.2.1=(q1,q2)) (fun x=>x.1)
  (m,S1,[],.slice none 0 0,[],D1) ⟨h1,Nat.zero_le _,by simp,by simp,.inl ⟨rfl,rfl,rfl,rfl⟩,hr1,rfl,hQ⟩ iS (fun w h=>Holds.nil.2 h) ?_
 rintro ⟨f,s5,l,u,Cq,D5⟩ ⟨he5,hlm,hf,hl15,hou,hr5,hout5,hsl⟩
 simp only at he5 hlm hf hl15 hou hr5 hout5 hsl ⊢
 obtain ⟨ua,uc,rfl⟩:=ow_slc hou
 unfold rdR
 (repeat' first|refine kW ?_|refine kU fun bk=>?_|refine kV fun hc=>?_|refine kZ (fun hc=>?_) fun hc=>?_|fail)
 ·have hlt:l.length < m:=by omega
  obtain ⟨g,rfl⟩:∃z,f=z+1:=⟨f - 1,by omega⟩
  rw [lpS,if_pos ⟨he5,hlt⟩] at hsl
  have hsy:=psym_n q pc own d s5 D5 E Co (Cq::rdR p q v most kn::L) hr5 hl he5 hco (by omega) (fun x hx=>by have:=ho7 x hx;omega) (by omega)
  have hk19:=sv_lt d s5 (l:=own) (by omega)
  have hso:=sy_out d s5 own
  unfold rpS rpL at hsl
  generalize sv d s5 own=k at hsy hk19 hsl
  generalize sy d s5 own=s6 at hsy hso hsl
  unfold rdR at hsy
  refine cC rfl rfl (Gv.holds hsy (fun w h=>iH h)) (fun r L' hp=>?_)
  obtain ⟨D6,rfl,hr6,rfl⟩:=hp
  (repeat' first|refine kW ?_|refine kU fun bk=>?_|refine kV fun hc=>?_|refine kZ (fun hc=>?_) fun hc=>?_|fail)
  ·have h6:s6.e≠0:=by omega
   rw [if_pos h6,if_neg h6] at hsl
   injection hsl with e1 e2
   subst e1 e2
   refine WQ_retI (rs:=[.tmp 4,.tmp 5]) (vs:=[.slice none 0 0,.int .i64 (s6.e:Int)]) rfl rfl ?_
   exact ⟨_,iC,.inl ⟨h6,rfl,rfl⟩⟩
  have h6:s6.e=0:=by omega
  rw [if_neg (show ¬s6.e≠0 by omega)] at hsl
  have hrun:=prun_n p q most k v kn d s6 D6 E (Co::Cq::L) hr6 hl h6 (by omega)
  have hto:=tk_out d s6 (rpB k)
  have htv:=tv_lt d s6 (rpB k)
  have hpw:2 ^ rpB k≤2 ^ 7:=Nat.pow_le_pow_right (by decide) (rpB_le k)
  have hra:=rpA_pos k
  have hrv:=rpV_le (l:=l) (k:=k) (by omega) hl15
  obtain ⟨n,hn⟩:∃n,n=rpA k+tv d s6 (rpB k):=⟨_,rfl⟩
  rw [←hn] at hrun hsl
  have hn1:1≤n∧n≤140:=by omega
  generalize tk d s6 (rpB k)=s7 at hrun hto hsl
  unfold rdR at hrun
  refine cC rfl rfl (Gv.holds hrun (fun w h=>iH h)) (fun r L' hp=>?_)
  rcases hp with ⟨h7,rfl,rfl⟩|⟨h7,rfl,D7,hr7,rfl⟩
  ·rw [if_pos h7,if_neg h7] at hsl
   injection hsl with e1 e2
   subst e1 e2
   (refine kW ?_;refine kV fun hc=>?_;refine kW ?_)
   refine WQ_retI (rs:=[.tmp 4,.tmp 5]) (vs:=[.slice none 0 0,.int .i64 (s7.e:Int)]) rfl rfl ?_
   exact ⟨_,iC,.inl ⟨h7,rfl,rfl⟩⟩
  rw [if_neg (show ¬s7.e≠0 by omega)] at hsl
  have hbad:(k=16∧l=[])∨m < l.length+n→q1.e=3:=by
   intro hb
   rw [if_pos hb,if_neg (by rw [fl3 h7];decide)] at hsl
   injection hsl with e1 e2
   rw [←e1,fl3 h7]
  have hne:l.length=0↔l=[]:=List.length_eq_zero_iff
  (repeat' first|refine kW ?_|refine kU fun bk=>?_|refine kV fun hc=>?_|refine kZ (fun hc=>?_) fun hc=>?_|fail)
  ·rw [hbad (.inl ⟨by omega,hne.1 (by omega)⟩)]
   refine WQ_retI (rs:=[.tmp 4,.tmp 5]) (vs:=[.slice none 0 0,.int .i64 3]) rfl rfl ?_
   exact ⟨_,iC,.inl ⟨by decide,rfl,rfl⟩⟩
  ·rw [hbad (.inr (by omega))]
   refine WQ_retI (rs:=[.tmp 4,.tmp 5]) (vs:=[.slice none 0 0,.int .i64 3]) rfl rfl ?_
   exact ⟨_,iC,.inl ⟨by decide,rfl,rfl⟩⟩
  ·have hg:¬((k=16∧l=[])∨m < l.length+n):=by
    rintro (⟨h1,h2⟩|h2)
    ·have:=hne.2 h2;omega
    ·omega
   rw [if_neg hg,if_pos h7] at hsl
   have hlo:=lengthOf_n k ua uc l (rdR p q v most kn::D7::E::Co::Cq::L) (sl_there (sl_there (sl_there (sl_there (ow_sl hou))))) (by omega) (by omega) (fun hh=>hg (.inl hh))
   unfold rdR at hlo
   generalize rpV k l=rv at hlo hrv hsl
   refine cP rfl rfl hlo ?_
   refine kW ?_
   refine OW_buildSlice (cs:=[.int .i64 (rv:Int)]) rfl (by rfl) (by first|(simp [fillL,patch,Value.cells,zeros];done)|(simp [fillL,patch,Value.cells,zeros];rfl)) (by omega) rfl rfl (fun b=>?_)
   refine kW ?_
   refine cC rfl rfl (repeat_n b rv n _ Fnd.here hn1.1 (by omega)) (fun r L' hp=>?_)
   obtain ⟨Ct,rfl,hot⟩:=hp
   refine kW ?_
   refine OW_append rfl rfl hou (ow_sl hot) (by repeat (first|exact Zip.here _|apply Zip.there)) rfl ivn_ones (by omega) (by simp [maxLen];omega) rfl (fun v' C' ho' _ _=>?_)
   rw [←ivn_app] at ho'
   refine kW ?_
   refine WQ_round (X:=Nat × S6 × List Nat × Value × Chunk × Chunk) (μ:=fun x=>x.1) (x:=(g+1,s5,l,.slice ua l.length uc,Cq,D5)) (g,s7,l++List.replicate n rv,v',C',D7) (by simp only;omega) ⟨h7,by simp;omega,by simp;omega,fun y hy=>?_,by simpa using ho',hr7,by rw [hto,hso,hout5],hsl⟩ iS (fun w h=>iH h)
   rcases List.mem_append.1 hy with hy|hy
   ·exact hl15 y hy
   ·rw [List.eq_of_mem_replicate hy];exact hrv
  ·rw [hbad (.inr (by omega))]
   refine WQ_retI (rs:=[.tmp 4,.tmp 5]) (vs:=[.slice none 0 0,.int .i64 3]) rfl rfl ?_
   exact ⟨_,iC,.inl ⟨by decide,rfl,rfl⟩⟩
  ·have hg:¬((k=16∧l=[])∨m < l.length+n):=by
    rintro (⟨h1,h2⟩|h2)
    ·have:=hne.2 h2;omega
    ·omega
   rw [if_neg hg,if_pos h7] at hsl
   have hlo:=lengthOf_n k ua uc l (rdR p q v most kn::D7::E::Co::Cq::L) (sl_there (sl_there (sl_there (sl_there (ow_sl hou))))) (by omega) (by omega) (fun hh=>hg (.inl hh))
   unfold rdR at hlo
   generalize rpV k l=rv at hlo hrv hsl
   refine cP rfl rfl hlo ?_
   refine kW ?_
   refine OW_buildSlice (cs:=[.int .i64 (rv:Int)]) rfl (by rfl) (by first|(simp [fillL,patch,Value.cells,zeros];done)|(simp [fillL,patch,Value.cells,zeros];rfl)) (by omega) rfl rfl (fun b=>?_)
   refine kW ?_
   refine cC rfl rfl (repeat_n b rv n _ Fnd.here hn1.1 (by omega)) (fun r L' hp=>?_)
   obtain ⟨Ct,rfl,hot⟩:=hp
   refine kW ?_
   refine OW_append rfl rfl hou (ow_sl hot) (by repeat (first|exact Zip.here _|apply Zip.there)) rfl ivn_ones (by omega) (by simp [maxLen];omega) rfl (fun v' C' ho' _ _=>?_)
   rw [←ivn_app] at ho'
   refine kW ?_
   refine WQ_round (X:=Nat × S6 × List Nat × Value × Chunk × Chunk) (μ:=fun x=>x.1) (x:=(g+1,s5,l,.slice ua l.length uc,Cq,D5)) (g,s7,l++List.replicate n rv,v',C',D7) (by simp only;omega) ⟨h7,by simp;omega,by simp;omega,fun y hy=>?_,by simpa using ho',hr7,by rw [hto,hso,hout5],hsl⟩ iS (fun w h=>iH h)
   rcases List.mem_append.1 hy with hy|hy
   ·exact hl15 y hy
   ·rw [List.eq_of_mem_replicate hy];exact hrv
 ·have hlt:l.length=m:=by omega
  have hq:lpS d own m f s5 l=(s5,l):=by
   cases f with
   |zero=>rfl
   |succ f=>rw [lpS,if_neg (fun hh=>by omega)]
  rw [hq] at hsl
  injection hsl with e1 e2
  subst e1 e2
  rw [hlt] at hou
  rw [hlt]
  refine kR ?_
  exact ⟨_,iC,.inr ⟨he5,_,Cq,D5,rfl,hr5,hou,(by first|exact hlt|rfl),hl15,by rw [hout5,hout],rfl⟩⟩
end Go.Proofs.YtemdlifojcgplaaGreatDoor
namespace Go.If
open Go.Vx Go.Hf
set_option linter.all false
def dbS [W0] (d:List UInt8) (most:Nat) (s:S6):S6:=
 if (dyS d s).1.e≠0 then (dyS d s).1 else cdC d most ((dyS d s).2.1.take (dyS d s).2.2) ((dyS d s).2.1.drop (dyS d s).2.2) (8 * d.length+1) (dyS d s).1
end Go.If
namespace Go.Proofs.YtemdlifojcgplaaGreatDoor
open Go Go.Vx Go.Hf Go.If
variable [W0]
set_option maxRecDepth 4000
set_option linter.all false
theorem codes_n (p q most:Nat) (v kn:Value) (d:List UInt8) (s:S6) (D E:Chunk) (L:List Chunk) (h:RdN q d s.t D E) (hl:d.length≤140737488355328) (he:s.e=0) (hor:OrAt L) :
 Gv Tryz.prog 224 [.pointer (some ⟨p,0,none⟩)].toArray (rdR p q v most kn::D::E::L) (fun r L'=>
  ((dyS d s).1.e≠0∧r=.tuple #[.pointer none,.int .i64 ((dyS d s).1.e:Int)]∧L'=L)∨
  ((dyS d s).1.e=0∧∃pc pl pd Cl Cd D' l dl,r=.tuple #[.pointer (some ⟨pc,0,none⟩),.int .i64 0]∧l=(dyS d s).2.1.take (dyS d s).2.2∧dl=(dyS d s).2.1.drop (dyS d s).2.2∧RdN q d (dyS d s).1.t D' E∧CoD l pl Cl∧CoD dl pd Cd∧kS l≤32768∧(∀x∈l,x≤15)∧l.length≤400∧kS dl≤32768∧(∀x∈dl,x≤15)∧dl.length≤400∧
    (dyS d s).1.out=s.out∧L'=csC pc pl pd::Cl::Cd::rdR p q v most kn::D'::E::L)):=by
 refine Gv.of_body Tryz.func224 rfl rfl ?_
 have hc1:=pcount_n p q most 5 257 v kn d s D E L h hl (by decide) he (by decide)
 have htv:=tv_lt d s 5
 have hto:=tk_out d s 5
 unfold dyS
 generalize tv d s 5=z1 at hc1 htv ⊢
 generalize tk d s 5=s1 at hc1 hto ⊢
 refine kW ?_
 refine cC rfl rfl hc1 (fun r L' hp=>?_)
 rcases hp with ⟨h1,rfl,rfl⟩|⟨h1,rfl,D1,hr1,rfl⟩
 ·rw [if_pos h1]
  (refine kW ?_;refine kV fun hc=>?_;refine kW ?_)
  refine WQ_retI (rs:=[.tmp 2,.tmp 3]) (vs:=[.pointer none,.int .i64 (s1.e:Int)]) rfl rfl ?_
  exact ⟨_,iC,.inl ⟨h1,rfl,rfl⟩⟩
 rw [if_neg (show ¬s1.e≠0 by omega)]
 have hc2:=pcount_n p q most 5 1 v kn d s1 D1 E L hr1 hl (by decide) h1 (by decide)
 have htv2:=tv_lt d s1 5
 have hto2:=tk_out d s1 5
 generalize tv d s1 5=z2 at hc2 htv2 ⊢
 generalize tk d s1 5=s2 at hc2 hto2 ⊢
 (repeat' first|refine kW ?_|refine kU fun bk=>?_|refine kV fun hc=>?_|refine kZ (fun hc=>?_) fun hc=>?_|fail)
 ·rw [if_pos (show 29 < z1 by omega)]
  simp only [fl3 h1]
  refine WQ_retI (rs:=[.tmp 2,.tmp 3]) (vs:=[.pointer none,.int .i64 3]) rfl rfl ?_
  exact ⟨_,iC,.inl ⟨by decide,rfl,rfl⟩⟩
 rw [if_neg (show ¬29 < z1 by omega)]
 refine cC rfl rfl hc2 (fun r L' hp=>?_)
 rcases hp with ⟨h2,rfl,rfl⟩|⟨h2,rfl,D2,hr2,rfl⟩
 ·rw [if_pos h2]
  (refine kW ?_;refine kV fun hc=>?_;refine kW ?_)
  refine WQ_retI (rs:=[.tmp 2,.tmp 3]) (vs:=[.pointer none,.int .i64 (s2.e:Int)]) rfl rfl ?_
  exact ⟨_,iC,.inl ⟨h2,rfl,rfl⟩⟩
 rw [if_neg (show ¬s2.e≠0 by omega)]
 (repeat' first|refine kW ?_|refine kU fun bk=>?_|refine kV fun hc=>?_|refine kZ (fun hc=>?_) fun hc=>?_|fail)
 ·rw [if_pos (show 29 < z2 by omega)]
  simp only [fl3 h2]
  refine WQ_retI (rs:=[.tmp 2,.tmp 3]) (vs:=[.pointer none,.int .i64 3]) rfl rfl ?_
  exact ⟨_,iC,.inl ⟨by decide,rfl,rfl⟩⟩
 rw [if_neg (show ¬29 < z2 by omega),dyT_eq]
 obtain ⟨n1,hn1⟩:∃n1,n1=257+z1:=⟨_,rfl⟩
 obtain ⟨n2,hn2⟩:∃n2,n2=1+z2:=⟨_,rfl⟩
 rw [←hn1,←hn2]
 have hle:=plengths_n p q most (n1+n2) v kn d s2 D2 E L hr2 hl h2 hor (by omega)
 generalize lgS d (n1+n2) s2=Q at hle ⊢
 obtain ⟨q1,q2⟩:=Q
 simp only at hle ⊢
 rw [←Int.natCast_add]
 refine cC rfl rfl hle (fun r L' hp=>?_)
 rcases hp with ⟨h3,rfl,rfl⟩|⟨h3,u,Cq,D3,rfl,hr3,hou,hql,hq15,hout,rfl⟩
 ·rw [if_pos h3]
  (refine kW ?_;refine kV fun hc=>?_;refine kW ?_)
  refine WQ_retI (rs:=[.tmp 2,.tmp 3]) (vs:=[.pointer none,.int .i64 (q1.e:Int)]) rfl rfl ?_
  exact ⟨_,iC,.inl ⟨h3,rfl,rfl⟩⟩
 rw [if_neg (show ¬q1.e≠0 by omega)]
 unfold dyK
 simp only
 have hov2:=hou
 rcases hov2 with ⟨_,h0,_⟩|⟨b,cap,rest,rfl,rfl,hxl,hrl,hmc,hcm⟩
 ·omega
 have hl4:∀x∈q2.take n1,x≤15:=fun x hx=>hq15 x (List.mem_of_mem_take hx)
 have hd4:∀x∈q2.drop n1,x≤15:=fun x hx=>hq15 x (List.mem_of_mem_drop hx)
 have hln:(q2.take n1).length=n1:=by simp;omega
 have hdn:(q2.drop n1).length=n2:=by simp;omega
 obtain ⟨x,hx⟩:∃x,q2[256]? =some x:=⟨q2[256],List.getElem?_eq_getElem (by omega)⟩
 have hcell:(ivn q2++rest).toArray[0+256 * 1]? =some (.int .i64 (x:Int)):=by
  have h5:=ivn_get hx
  have h6:=(List.getElem?_eq_some_iff.1 h5).1
  rw [List.getElem?_toArray,List.getElem?_append_left (by simpa using h6)]
  simpa using h5
 rw [show q2.getD 256 0=x from by simp [List.getD,hx]]
 refine kW ?_
 refine OW_EV (EV_indexAddr (j:=256) rfl rfl rfl (by omega)) rfl ?_
 refine kW ?_
 refine OW_EV (EV_load rfl Fnd.here hcell) rfl ?_
 (repeat' first|refine kW ?_|refine kU fun bk=>?_|refine kV fun hc=>?_|refine kZ (fun hc=>?_) fun hc=>?_|fail)
 ·rw [if_neg (fun hh=>hh.1 (by omega))]
  simp only [fl3 h3]
  refine WQ_retI (rs:=[.tmp 2,.tmp 3]) (vs:=[.pointer none,.int .i64 3]) rfl rfl ?_
  exact ⟨_,iC,.inl ⟨by decide,rfl,rfl⟩⟩
 have hco:=codesOf_n (some ⟨b,0,none⟩) (some ⟨b,n1 * 1,none⟩) cap (cap - n1) (q2.take n1) (q2.drop n1) ([(b,cl (ivn q2++rest) 3)]::rdR p q v most kn::D3::E::L)
  (.inr ⟨_,_,by rw [hln],RdAt.cl' (l:=ivn q2++rest) Fnd.here (by
    rw [ivn_length,hln];unfold cut ivn
    rw [List.drop_zero,List.take_append_of_le_length (by simp;omega),List.map_take]),by rw [ivn_length];simp⟩) hl4 (by omega)
  (.inr ⟨_,_,by rw [hdn],RdAt.cl' (l:=ivn q2++rest) Fnd.here (by
    rw [ivn_length,hdn];unfold cut ivn
    rw [List.drop_append_of_le_length (by simp;omega),List.take_append_of_le_length (by simp;omega),Nat.mul_one,←List.map_drop,←List.map_take,List.take_of_length_le (by omega)]),by rw [ivn_length];simp⟩) hd4 (by omega)
 rw [hln,hdn] at hco
 refine WC_draw [] [] mixed ?_
 (refine WR_t 0 ?_;refine WR_t 1 ?_)
 refine cT 2 rfl rfl (EV_sliceTo (h:=n1) rfl rfl rfl (by omega)) ?_
 (refine WR_t 3 ?_;refine WR_t 4 ?_)
 refine cT 5 rfl rfl (EV_sliceFrom0 (l:=n1) (h:=n1+n2) rfl rfl rfl (by omega) (by omega) (by omega)) ?_
 rw [show n1+n2 - n1=n2 from by omega]
 refine cI 6 rfl rfl ?_
 refine cC rfl rfl hco (fun r L' hp=>?_)
 rcases hp with ⟨h4,rfl,rfl⟩|⟨h4,pc,pl,pd,Cl,Cd,rfl,rfl,hcl,hcd⟩
 ·refine ⟨iC,?_⟩
  (refine WR_t 7 ?_;refine WR_t 8 ?_;refine WR_t 9 ?_;refine WR_t 10 ?_)
  refine cD ?_
  rw [if_neg (fun hh=>h4 hh.2)]
  simp only [fl3 h3]
  refine kW ?_
  refine kR ?_
  exact ⟨_,iC,.inl ⟨by decide,rfl,rfl⟩⟩
 ·refine ⟨iC,?_⟩
  (refine WR_t 7 ?_;refine WR_t 8 ?_;refine WR_t 9 ?_;refine WR_t 10 ?_)
  refine cD ?_
  rw [if_pos ⟨by omega,h4⟩]
  have hks:=kS_sum (q2.drop n1)
  have hkd:kS (q2.drop n1)≤32768:=by
   rcases h4.2 with h|h
   ·omega
   ·rw [sgl_sum] at h
    have:=of_decide_eq_true h
    omega
  have h41:=h4.1
  refine kW ?_
  refine kR ?_
  exact ⟨_,iC,.inr ⟨h3,pc,pl,pd,Cl,Cd,D3,_,_,rfl,rfl,rfl,hr3,hcl,hcd,(show kS (q2.take n1)≤32768 by omega),hl4,(show (q2.take n1).length≤400 by omega),hkd,hd4,(show (q2.drop n1).length≤400 by omega),by rw [hout,hto2,hto],rfl⟩⟩
theorem pdynamic_n (p q most:Nat) (v kn:Value) (d:List UInt8) (s:S6) (D E C:Chunk) (L:List Chunk) (h:RdN q d s.t D E) (hl:d.length≤140737488355328) (he:s.e=0) (hm:most≤1000000) (hkn:kn.oneCell'=true) (hor:OrAt L)
 (ho:Ow 5 1 v s.out.length (bsv s.out) C) (hom:s.out.length≤most) :
 Gv Tryz.prog 181 [.pointer (some ⟨p,0,none⟩)].toArray (rdR p q v most kn::D::E::C::L) (fun r L'=>
  ((dbS d most s).e≠0∧r=.int .i64 ((dbS d most s).e:Int)∧L'=L)∨
  ((dbS d most s).e=0∧r=.int .i64 0∧∃v' D' C',Ow 5 1 v' (dbS d most s).out.length (bsv (dbS d most s).out) C'∧(dbS d most s).out.length≤most∧RdN q d (dbS d most s).t D' E∧L'=rdR p q v' most kn::D'::E::C'::L)):=by
 refine Gv.of_body Tryz.func181 rfl rfl ?_
 have hco:=codes_n p q most v kn d s D E (C::L) h hl he hor.there
 unfold dbS
 generalize dyS d s=Y at hco ⊢
 obtain ⟨s1,ly,ny⟩:=Y
 simp only at hco ⊢
 refine kW ?_
 refine cC rfl rfl hco (fun r L' hp=>?_)
 rcases hp with ⟨h1,rfl,rfl⟩|⟨h1,pc,pl,pd,Cl,Cd,D1,l,dl,rfl,rfl,rfl,hr1,hcl,hcd,hk1,h151,hl4,hk2,h152,hd4,hout,rfl⟩
 ·rw [if_pos h1]
  (refine kW ?_;refine kV fun hc=>?_;refine kW ?_)
  refine kR ?_
  exact ⟨_,iC,.inl ⟨h1,rfl,rfl⟩⟩
 rw [if_neg (show ¬s1.e≠0 by omega)]
 rw [←hout] at ho hom
 have hcd2:=pcoded_n p q pc pl pd most v kn (ly.take ny) (ly.drop ny) d s1 D1 E C Cl Cd L hr1 hl h1 hm hkn ho hom hcl hk1 h151 hl4 hcd hk2 h152 hd4
 generalize cdC d most (ly.take ny) (ly.drop ny) (8 * d.length+1) s1=R at hcd2 ⊢
 refine kW ?_
 refine cC rfl rfl (Gv.holds hcd2 (fun w h=>iH h)) (fun r L' hp=>?_)
 rcases hp with ⟨h2,rfl,rfl⟩|⟨h2,rfl,v',D',C',ho',hl',hr',rfl⟩
 ·refine kW ?_
  refine kR ?_
  exact ⟨_,iC,.inl ⟨h2,rfl,rfl⟩⟩
 ·refine kW ?_
  refine kR ?_
  exact ⟨_,iC,.inr ⟨h2,rfl,v',D',C',ho',hl',hr',rfl⟩⟩
end Go.Proofs.YtemdlifojcgplaaGreatDoor
namespace Go.If
open Go.Vx Go.Hf
set_option linter.all false
structure Le (a b:S6):Prop where
 t:a.t≤b.t
 o:a.out.length≤b.out.length
theorem Le.rfl' (a:S6):Le a a:=⟨Nat.le_refl _,Nat.le_refl _⟩
theorem Le.tr {a b c:S6} (h:Le a b) (h2:Le b c):Le a c:=⟨Nat.le_trans h.t h2.t,Nat.le_trans h.o h2.o⟩
theorem fl_le (s:S6) (k:Nat):Le s (fl s k):=⟨by rw [fl_t];exact Nat.le_refl _,by rw [fl_out];exact Nat.le_refl _⟩
theorem tk_le (d:List UInt8) (s:S6) (n:Nat):Le s (tk d s n):=⟨tk_t d s n,by rw [tk_out];exact Nat.le_refl _⟩
theorem sy_o [W0] (d:List UInt8) (s:S6) (l:List Nat):(sy d s l).out=s.out:=by
 unfold sy
 split
 ·exact fl_out _ _
 ·rfl
theorem sy_le [W0] (d:List UInt8) (s:S6) (l:List Nat):Le s (sy d s l):=⟨sy_t d s l,by rw [sy_o];exact Nat.le_refl _⟩
theorem pt_le (most:Nat) (s:S6) (c:UInt8):Le s (pt most s c):=by
 by_cases h:s.out.length < most
 ·rw [pt_ok h];exact ⟨Nat.le_refl _,by simp⟩
 ·rw [pt_no (by omega)];exact fl_le _ _
theorem cpL_le (most far:Nat):∀n s,Le s (cpL most far n s)
 |0,s=>Le.rfl' s
 |n+1,s=>by
  rw [cpL]
  split
  ·exact (pt_le _ _ _).tr (cpL_le most far n _)
  ·exact Le.rfl' s
theorem mtS_le [W0] (d:List UInt8) (most k:Nat) (dl:List Nat) (s:S6):Le s (mtS d most k dl s):=by
 unfold mtS
 have h1:=tk_le d s (lnB k).2
 have h2:=sy_le d (tk d s (lnB k).2) dl
 generalize tk d s (lnB k).2=s1 at h1 h2 ⊢
 have h3:=h1.tr h2
 split
 ·exact fl_le _ _
 ·split
  ·exact h3
  ·split
   ·exact h3.tr (fl_le _ _)
   ·unfold mtD
    refine h3.tr (Le.tr ?_ (cpL_le _ _ _ _))
    split
    ·exact (tk_le _ _ _).tr (fl_le _ _)
    ·exact tk_le _ _ _
theorem cdC_le [W0] (d:List UInt8) (most:Nat) (l dl:List Nat):∀f s,Le s (cdC d most l dl f s)
 |0,s=>Le.rfl' s
 |f+1,s=>by
  rw [cdC]
  have h:=sy_le d s l
  split
  ·exact Le.rfl' s
  ·split
   ·exact h
   ·split
    ·exact h.tr ((pt_le _ _ _).tr (cdC_le d most l dl f _))
    ·split
     ·exact h
     ·exact h.tr ((mtS_le _ _ _ _ _).tr (cdC_le d most l dl f _))
theorem stL_le [W0] (d:List UInt8) (most:Nat):∀k s,Le s (stL d most k s)
 |0,s=>Le.rfl' s
 |k+1,s=>by
  rw [stL]
  have h:=tk_le d s 8
  split
  ·refine Le.tr ?_ (stL_le d most k _)
   split
   ·exact h.tr (pt_le _ _ _)
   ·exact h
  ·exact Le.rfl' s
theorem stS_le [W0] (d:List UInt8) (most:Nat) (s:S6):Le s (stS d most s):=by
 unfold stS
 simp only
 have h0:Le s ⟨8 * ((s.t+7) / 8),s.out,s.e⟩:=⟨by simp only;omega,Nat.le_refl _⟩
 have h1:=tk_le d ⟨8 * ((s.t+7) / 8),s.out,s.e⟩ 16
 have h2:=tk_le d (tk d ⟨8 * ((s.t+7) / 8),s.out,s.e⟩ 16) 16
 refine (h0.tr (h1.tr h2)).tr (Le.tr ?_ (stL_le d most _ _))
 split
 ·exact Le.rfl' _
 ·exact fl_le _ _
theorem rpS_le [W0] (d:List UInt8) (own:List Nat) (m:Nat) (s:S6) (l:List Nat):Le s (rpS d own m s l):=by
 unfold rpS
 have h1:=sy_le d s own
 have h2:=h1.tr (tk_le d (sy d s own) (rpB (sv d s own)))
 split
 ·exact h1
 ·split
  ·exact h2
  ·split
   ·exact h2.tr (fl_le _ _)
   ·exact h2
theorem lpS_le [W0] (d:List UInt8) (own:List Nat) (m:Nat):∀f s l,Le s (lpS d own m f s l).1
 |0,s,l=>Le.rfl' s
 |f+1,s,l=>by
  rw [lpS]
  have h:=rpS_le d own m s l
  split
  ·split
   ·exact h.tr (lpS_le d own m f _ _)
   ·exact h
  ·exact Le.rfl' s
theorem owS_le [W0] (d:List UInt8):∀k i s o,Le s (owS d k i s o).1
 |0,i,s,o=>Le.rfl' s
 |k+1,i,s,o=>by
  rw [owS]
  have h:=tk_le d s 3
  split
  ·exact h
  ·exact h.tr (owS_le d k _ _ _)
theorem lcS_le [W0] (d:List UInt8) (s:S6):Le s (lcS d s).1:=by
 unfold lcS
 have h:=tk_le d s 4
 have h2:=h.tr (owS_le d (4+tv d s 4) 0 (tk d s 4) (List.replicate 19 0))
 split
 ·exact h
 ·split
  ·exact h2
  ·split
   ·exact h2
   ·exact h2.tr (fl_le _ _)
theorem lgS_le [W0] (d:List UInt8) (m:Nat) (s:S6):Le s (lgS d m s).1:=by
 unfold lgS
 have h:=lcS_le d s
 split
 ·exact h
 ·exact h.tr (lpS_le _ _ _ _ _ _)
theorem dyT_le [W0] (d:List UInt8) (n1 n2:Nat) (s:S6):Le s (dyT d n1 n2 s).1:=by
 rw [dyT_eq]
 have h:=lgS_le d (n1+n2) s
 split
 ·exact h
 ·unfold dyK
  split
  ·exact h
  ·exact h.tr (fl_le _ _)
theorem dyS_le [W0] (d:List UInt8) (s:S6):Le s (dyS d s).1:=by
 unfold dyS
 have h1:=tk_le d s 5
 have h2:=h1.tr (tk_le d (tk d s 5) 5)
 repeat' split
 ·exact h1
 ·exact h1.tr (fl_le _ _)
 ·exact h2
 ·exact h2.tr (fl_le _ _)
 ·exact h2.tr (dyT_le _ _ _ _)
theorem dbS_le [W0] (d:List UInt8) (most:Nat) (s:S6):Le s (dbS d most s):=by
 unfold dbS
 have h:=dyS_le d s
 split
 ·exact h
 ·exact h.tr (cdC_le _ _ _ _ _ _)
def bkS [W0] (d:List UInt8) (most k:Nat) (s:S6):S6:=if k=0 then stS d most s else if k=1 then cdC d most fxL fxD (8 * d.length+1) s else dbS d most s
theorem bkS_le [W0] (d:List UInt8) (most k:Nat) (s:S6):Le s (bkS d most k s):=by
 unfold bkS
 repeat' split
 ·exact stS_le _ _ _
 ·exact cdC_le _ _ _ _ _ _
 ·exact dbS_le _ _ _
def rwS [W0] (d:List UInt8) (most:Nat):Nat→S6→S6
 |0,s=>s
 |f+1,s=>if (tk d s 3).e≠0 then tk d s 3
  else if 5 < tv d s 3 then fl (tk d s 3) 3
  else if (bkS d most (tv d s 3 / 2) (tk d s 3)).e≠0 then bkS d most (tv d s 3 / 2) (tk d s 3)
  else if tv d s 3 % 2=1 then bkS d most (tv d s 3 / 2) (tk d s 3)
  else rwS d most f (bkS d most (tv d s 3 / 2) (tk d s 3))
def rawS [W0] (d:List UInt8) (most:Nat):S6:=rwS d most (8 * d.length+1) ⟨0,[],0⟩
end Go.If
namespace Go.Vx
theorem Gv.monoD {P:Program} {L:List Chunk} {f:FuncId} {args:Array Value} {post post':Value→List Chunk→Prop} [W0] (h:Gv P f args L post) (hp:∀v L',post v L'→∃L'',(∀w,Holds w L'→Holds w L'')∧post' v L''):Gv P f args L post':=
 ⟨fun w hw=>(h.out w hw).mono fun _ _ he=>let ⟨v,L',h1,h2,h3⟩:=he;let ⟨L'',h4,h5⟩:=hp v L' h2;⟨v,L'',h1,h5,h4 _ h3⟩⟩
end Go.Vx
namespace Go.Proofs.YtemdlifojcgplaaGreatDoor
open Go Go.Vx Go.Hf Go.If
variable [W0]
set_option maxRecDepth 4000
set_option linter.all false
omit [W0] in
def knF:List Value:=[.func (.func 179) #[] #[],.func (.func 180) #[] #[],.func (.func 181) #[] #[]]
theorem kinds_n (L:List Chunk):GvP Tryz.prog 130 #[] L (.agg knF.toArray):=by
 refine Gv.of_body (args:=[]) Tryz.func130 rfl rfl ?_
 (refine kW ?_;refine kU fun bk=>?_;refine kW ?_)
 refine OW_EV (EV_buildArr (cs:=knF) rfl (by rfl) (by rfl)) rfl ?_
 refine kW ?_
 refine OW_holds (L':=[(bk,cl [.nilFunc,.nilFunc,.nilFunc] 203)]::L) (fun w h=>h) ?_
 refine OW_storeAggTo (l:=[.nilFunc,.nilFunc,.nilFunc]) (vs:=knF) knF rfl rfl (by rfl) (by rfl) (by rfl) iU (by decide) ?_
 refine kW ?_
 first
  |(refine WQ_retC (vs:=[.agg knF.toArray]) rfl (.agg ⟨by kernel_rfl,by kernel_rfl⟩ rfl (RdAt.cl' (vs:=knF) (by repeat (first|assumption|exact Fnd.here|refine Fnd.there ?_)) rfl) rfl .nil) ?_
    exact ⟨L,fun w h=>h.drop,rfl,rfl⟩)
  |(refine WQ_endC (vs:=[.agg knF.toArray]) rfl (.agg ⟨by kernel_rfl,by kernel_rfl⟩ rfl (RdAt.cl' (vs:=knF) (by repeat (first|assumption|exact Fnd.here|refine Fnd.there ?_)) rfl) rfl .nil) ?_
    exact ⟨L,fun w h=>h.drop,rfl,rfl⟩)
theorem block_n (k p q most:Nat) (v kn:Value) (d:List UInt8) (s:S6) (D E C K:Chunk) (L:List Chunk) (hk:k < 3) (h:RdN q d s.t D E) (hl:d.length≤140737488355328) (he:s.e=0) (hm:most≤1000000) (hkn:KnD kn K) (hor:OrAt L)
 (ho:Ow 5 1 v s.out.length (bsv s.out) C) (hom:s.out.length≤most):∃f,knF[k]? =some (.func (.func f) #[] #[])∧BD Tryz.prog f∧
 Gv Tryz.prog f [.pointer (some ⟨p,0,none⟩)].toArray (rdR p q v most kn::D::E::C::K::L) (fun r L'=>
  ((bkS d most k s).e≠0∧r=.int .i64 ((bkS d most k s).e:Int)∧L'=L)∨
  ((bkS d most k s).e=0∧r=.int .i64 0∧∃v' D' C' kn' K',KnD kn' K'∧Ow 5 1 v' (bkS d most k s).out.length (bsv (bkS d most k s).out) C'∧(bkS d most k s).out.length≤most∧RdN q d (bkS d most k s).t D' E∧
    L'=rdR p q v' most kn'::D'::E::C'::K'::L)):=by
 rcases (by omega:k=0∨k=1∨k=2) with rfl|rfl|rfl
 ·refine ⟨179,rfl,inferInstance,?_⟩
  refine Gv.monoD (Gv.holds (pstored_n p q most v kn d s D E C (K::L) h hl he hm hkn.one ho hom) (fun w h=>h)) (fun r L' hp=>?_)
  rcases hp with ⟨h1,rfl,rfl⟩|⟨h1,rfl,v',D',C',ho',hl',hr',rfl⟩
  ·exact ⟨L,fun w h=>h.drop,.inl ⟨h1,rfl,rfl⟩⟩
  ·exact ⟨_,fun w h=>h,.inr ⟨h1,rfl,v',D',C',kn,K,hkn,ho',hl',hr',rfl⟩⟩
 ·refine ⟨180,rfl,inferInstance,?_⟩
  exact pfixed_n p q most v kn d s D E C K L h hl he hm hkn ho hom
 ·refine ⟨181,rfl,inferInstance,?_⟩
  refine Gv.monoD (pdynamic_n p q most v kn d s D E C (K::L) h hl he hm hkn.one hor.there ho hom) (fun r L' hp=>?_)
  rcases hp with ⟨h1,rfl,rfl⟩|⟨h1,rfl,v',D',C',ho',hl',hr',rfl⟩
  ·exact ⟨L,fun w h=>h.drop,.inl ⟨h1,rfl,rfl⟩⟩
  ·exact ⟨_,fun w h=>h,.inr ⟨h1,rfl,v',D',C',kn,K,hkn,ho',hl',hr',rfl⟩⟩
theorem blocks_n (p q most:Nat) (v kn:Value) (d:List UInt8) (s:S6) (D E C K:Chunk) (L:List Chunk) (h:RdN q d s.t D E) (hl:d.length≤140737488355328) (he:s.e=0) (hm:most≤1000000) (hkn:KnD kn K) (hor:OrAt L)
 (ho:Ow 5 1 v s.out.length (bsv s.out) C) (hom:s.out.length≤most) :
 Gv Tryz.prog 91 [.pointer (some ⟨p,0,none⟩)].toArray (rdR p q v most kn::D::E::C::K::L) (fun r L'=>
  ((rwS d most (8 * d.length+1) s).e≠0∧r=.int .i64 ((rwS d most (8 * d.length+1) s).e:Int)∧L'=L)∨
  ((rwS d most (8 * d.length+1) s).e=0∧r=.int .i64 0∧∃v' D' C' kn',Ow 5 1 v' (rwS d most (8 * d.length+1) s).out.length (bsv (rwS d most (8 * d.length+1) s).out) C'∧(rwS d most (8 * d.length+1) s).out.length≤most∧RdN q d (rwS d most (8 * d.length+1) s).t D' E∧L'=rdR p q v' most kn'::D'::E::C'::L)):=by
 refine Gv.of_body Tryz.func91 rfl rfl ?_
 generalize hR:rwS d most (8 * d.length+1) s=R
 refine kW ?_
 refine cP rfl rfl (kinds_n _) ?_
 (refine kW ?_;refine kU fun bk=>?_;refine kW ?_)
 obtain ⟨b3,hb3⟩:∃b3,b3=bk:=⟨_,rfl⟩
 rw [←hb3]
 refine OW_holds (L':=[(b3,cl [.nilFunc,.nilFunc,.nilFunc] 203)]::rdR p q v most kn::D::E::C::K::L) (fun w h=>h) ?_
 clear hb3
 refine OW_storeAggTo (l:=[.nilFunc,.nilFunc,.nilFunc]) (vs:=knF) knF rfl rfl (by rfl) (by rfl) (by rfl) iU (by decide) ?_
 refine kW ?_
 refine WC_loop (X:=Nat × S6 × Bool × Value × Chunk × Chunk × Value × Chunk) (fun x=>[(0,.pointer (some ⟨p,0,none⟩)),(3,.pointer (some ⟨b3,0,none⟩)),(4,.bool x.2.2.1)])
  (fun x=>[(b3,cl knF 203)]::rdR p q x.2.2.2.1 most x.2.2.2.2.2.2.1::x.2.2.2.2.1::E::x.2.2.2.2.2.1::x.2.2.2.2.2.2.2::L)
  (fun x=>x.2.1.e=0∧RdN q d x.2.1.t x.2.2.2.2.1 E∧Ow 5 1 x.2.2.2.1 x.2.1.out.length (bsv x.2.1.out) x.2.2.2.2.2.1∧x.2.1.out.length≤most∧KnD x.2.2.2.2.2.2.1 x.2.2.2.2.2.2.2∧(x.2.2.1=false→8 * d.length < x.1+x.2.1.t∧rwS d most x.1 x.2.1=R)∧(x.2.2.1=true→x.2.1=R)) (fun x=>if x.2.2.1 then 0 else x.1+1)
  (8 * d.length+1,s,false,v,D,C,kn,K) ⟨he,h,ho,hom,hkn,fun _=>⟨by simp only;omega,hR⟩,fun hh=>by cases hh⟩ iS (fun w h=>h) ?_
 clear hR ho hom h
 rintro ⟨f,s1,bb,v1,D1,C1,kn1,K1⟩ ⟨he1,hr1,ho1,hl1,hk1,hf1,hf2⟩
 simp only at he1 hr1 ho1 hl1 hk1 hf1 hf2 ⊢
 cases bb with
 |true=>
  have hf2:=hf2 rfl
  subst hf2
  refine kW ?_
  refine kR ?_
  exact ⟨_,iC,.inr ⟨he1,rfl,v1,D1,C1,kn1,ho1,hl1,hr1,rfl⟩⟩
 |false=>
  obtain ⟨hf3,hsl⟩:=hf1 rfl
  clear hf1 hf2
  have ht1:=hr1.1
  obtain ⟨f,rfl⟩:∃g,f=g+1:=⟨f - 1,by omega⟩
  rw [rwS] at hsl
  have htk:=ptake_n p q most 3 v1 kn1 d s1 D1 E (C1::K1::[(b3,cl knF 203)]::L) hr1 hl (by decide) he1
  have htv:=tv_lt d s1 3
  have hto:=tk_out d s1 3
  have htt:(tk d s1 3).e=0→(tk d s1 3).t=s1.t+3:=fun h0=>by
   by_cases hc:s1.t+3≤8 * d.length
   ·rw [tk_ok hc]
   ·rw [Go.If.tk_no hc he1] at h0;cases h0
  generalize tv d s1 3=z at htk htv hsl
  generalize tk d s1 3=s2 at htk hto htt hsl
  rw [←hto] at ho1 hl1
  refine kW ?_
  refine cC rfl rfl (Gv.holds htk (fun w h=>iH h)) (fun r L' hp=>?_)
  rcases hp with ⟨h2,rfl,rfl⟩|⟨h2,rfl,D2,hr2,rfl⟩
  ·rw [if_pos h2] at hsl
   subst hsl
   (refine kW ?_;refine kV fun hc=>?_;refine kW ?_)
   refine kR ?_
   exact ⟨_,iC,.inl ⟨h2,rfl,rfl⟩⟩
  rw [if_neg (show ¬s2.e≠0 by omega)] at hsl
  have htt:=htt h2
  refine kW ?_
  refine OW_EV (EV_bit rfl rfl (bit_and16 (a:=z) (b:=1) (by omega) (by decide))) rfl ?_
  rw [Nat.and_one_is_mod]
  (repeat' first|refine kW ?_|refine kU fun bk=>?_|refine kV fun hc=>?_|refine kZ (fun hc=>?_) fun hc=>?_|fail)
  ·rw [if_pos (show 5 < z by omega)] at hsl
   have e3:R.e=3:=by rw [←hsl,fl3 h2]
   rw [e3]
   refine kR ?_
   exact ⟨_,iC,.inl ⟨by decide,rfl,rfl⟩⟩
  rw [if_neg (show ¬5 < z by omega)] at hsl
  have hle:=bkS_le d most (z / 2) s2
  obtain ⟨fn,hfn,hbd,hbk⟩:=block_n (z / 2) p q most v1 kn1 d s2 D2 E C1 K1 ([(b3,cl knF 203)]::L) (by omega) hr2 hl h2 hm hk1 hor.there ho1 hl1
  generalize bkS d most (z / 2) s2=s3 at hsl hle hbk
  haveI:=hbd
  refine OW_EV (EV_indexAddrA' (z / 2) rfl rfl (by omega) (by omega)) rfl ?_
  refine kW ?_
  refine OW_EV (EV_load (v:=.func (.func fn) #[] #[]) rfl (by exact Fnd.there (Fnd.there (Fnd.there (Fnd.there (Fnd.there Fnd.here))))) (by rw [Nat.zero_add,Nat.mul_one,List.getElem?_toArray];exact hfn)) rfl ?_
  refine kW ?_
  refine cC rfl rfl (Gv.holds hbk (fun w h=>iH h)) (fun r L' hp=>?_)
  rcases hp with ⟨h3,rfl,rfl⟩|⟨h3,rfl,v3,D3,C3,kn3,K3,hk3,ho3,hl3,hr3,rfl⟩
  ·rw [if_pos h3] at hsl
   subst hsl
   (refine kW ?_;refine kV fun hc=>?_;refine kW ?_)
   refine kR ?_
   exact ⟨_,iC,.inl ⟨h3,rfl,rfl⟩⟩
  rw [if_neg (show ¬s3.e≠0 by omega)] at hsl
  have hlt:=hle.t
  refine kW ?_
  refine WQ_round (X:=Nat × S6 × Bool × Value × Chunk × Chunk × Value × Chunk) (μ:=fun x=>if x.2.2.1 then 0 else x.1+1) (x:=(f+1,s1,false,v1,D1,C1,kn1,K1)) (f,s3,((z % 2:Nat):Int) == 1,v3,D3,C3,kn3,K3) (by simp only [Bool.false_eq_true,if_false];split<;>omega) ⟨h3,hr3,ho3,hl3,hk3,fun hb=>?_,fun hb=>?_⟩ iS (fun w h=>iH h)
  ·have hb2:¬z % 2=1:=fun hh=>by simp only [hh] at hb;cases hb
   rw [if_neg hb2] at hsl
   exact ⟨by simp only;omega,hsl⟩
  ·have hb2:z % 2=1:=by
    simp only at hb
    have:=eq_of_beq hb
    omega
   rw [if_pos hb2] at hsl
   exact hsl
theorem praw_n (a:Option Addr) (c:Nat) (d:List UInt8) (most:Int) (m:Nat) (L:List Chunk) (hv:Sl L 1 (.slice a d.length c) d.length (bsv d)) (hl:d.length≤140737488355328) (hm1:max most 0=(m:Int)) (hm:m≤1000000) (hor:OrAt L) :
 Gv Tryz.prog 58 [.slice a d.length c,.int .i64 most].toArray L (fun r L'=>
  ((rawS d m).e≠0∧r=.tuple #[.slice none 0 0,.int .i64 0,.int .i64 ((rawS d m).e:Int)]∧L'=L)∨
  ((rawS d m).e=0∧∃v C,r=.tuple #[v,.int .i64 (((rawS d m).t+7) / 8:Nat),.int .i64 0]∧Ow 5 1 v (rawS d m).out.length (bsv (rawS d m).out) C∧(rawS d m).out.length≤m∧(rawS d m).t≤8 * d.length∧L'=C::L)):=by
 refine Gv.of_body Tryz.func58 rfl rfl ?_
 refine kW ?_
 refine cC rfl rfl (read_n d _ L hv hl) (fun r L' hp=>?_)
 obtain ⟨q,D,E,rfl,hr,rfl⟩:=hp
 (refine kW ?_;refine kU fun bk=>?_;refine kW ?_)
 rw [hm1]
 obtain ⟨p,hp⟩:∃p,p=bk:=⟨_,rfl⟩
 rw [←hp]
 clear hp
 refine OW_holds (L':=rdR p q (.slice none 0 0) m (.pointer none)::D::E::[]::[]::L) (fun w h=>by
  have h':Holds w (rdR p q (.slice none 0 0) m (.pointer none)::D::E::L):=h
  simpa only [Holds,List.flatten_cons,List.nil_append] using h') ?_
 have hb:=blocks_n p q m (.slice none 0 0) (.pointer none) d ⟨0,[],0⟩ D E [] [] L hr hl rfl hm (.inl ⟨rfl,rfl⟩) hor (.inl ⟨rfl,rfl,rfl,rfl⟩) (Nat.zero_le _)
 change Gv _ _ _ _ (fun r L'=>((rawS d m).e≠0∧r=.int .i64 ((rawS d m).e:Int)∧L'=L)∨((rawS d m).e=0∧r=.int .i64 0∧∃v' D' C' kn',Ow 5 1 v' (rawS d m).out.length (bsv (rawS d m).out) C'∧(rawS d m).out.length≤m∧RdN q d (rawS d m).t D' E∧L'=rdR p q v' m kn'::D'::E::C'::L)) at hb
 generalize rawS d m=R at hb ⊢
 refine cC rfl rfl hb (fun r L' hp=>?_)
 rcases hp with ⟨h1,rfl,rfl⟩|⟨h1,rfl,v1,D1,C1,kn1,ho1,hl1,hr1,rfl⟩
 ·(refine kW ?_;refine kV fun hc=>?_;refine kW ?_)
  refine WQ_retI (rs:=[.tmp 4,.tmp 5,.tmp 6]) (vs:=[.slice none 0 0,.int .i64 0,.int .i64 (R.e:Int)]) rfl rfl ?_
  exact ⟨_,iC,.inl ⟨h1,rfl,rfl⟩⟩
 ·obtain ⟨ht1,rv,rfl,hoE⟩:=hr1
  have hus:=used_n q ((R.t+7) / 8) rv (.int .u64 ((val d / 2 ^ R.t % 2 ^ (8 * ((R.t+7) / 8) - R.t):Nat):Int)) (.int .i64 ((8 * ((R.t+7) / 8) - R.t:Nat):Int)) 201 (rdR p q v1 m kn1::[(q,cl (rdC rv d R.t ((R.t+7) / 8)) 201)]::E::C1::L) (by exact Fnd.there Fnd.here)
  generalize hn:(R.t+7) / 8=n at hus ⊢
  unfold rdR at hus ⊢
  refine kW ?_
  refine WC_draw [[(p,cl [.pointer (some ⟨q,0,none⟩),v1,.int .i64 (m:Int),kn1] 144)]] [] mixed ?_
  (refine WR_t 0 ?_;refine WR_t 1 ?_;refine WR_t 2 ?_;refine WR_t 3 ?_;refine WR_t 4 ?_;refine WR_t 5 ?_;refine WR_t 6 ?_;refine WR_t 7 ?_)
  refine cI 8 rfl rfl ?_
  refine cP rfl rfl hus ?_
  refine ⟨iC,?_⟩
  (refine WR_t 9 ?_;refine WR_t 10 ?_;refine WR_t 11 ?_)
  refine cD ?_
  refine kW ?_
  refine WQ_retI (rs:=[.tmp 4,.tmp 5,.tmp 6]) (vs:=[v1,.int .i64 (n:Int),.int .i64 0]) rfl rfl ?_
  exact ⟨C1::L,iC,.inr ⟨h1,v1,C1,rfl,ho1,hl1,ht1,rfl⟩⟩
end Go.Proofs.YtemdlifojcgplaaGreatDoor
namespace Go.If
open Go.Vx Go.Hf
set_option linter.all false
theorem rpS_out [W0] (d:List UInt8) (own:List Nat) (m:Nat) (s:S6) (l:List Nat):(rpS d own m s l).out=s.out:=by
 unfold rpS
 repeat' split
 all_goals simp only [fl_out,tk_out,sy_o]
theorem lpS_out [W0] (d:List UInt8) (own:List Nat) (m:Nat):∀f s l,(lpS d own m f s l).1.out=s.out
 |0,s,l=>rfl
 |f+1,s,l=>by
  rw [lpS]
  split
  ·split
   ·rw [lpS_out d own m f,rpS_out]
   ·exact rpS_out _ _ _ _ _
  ·rfl
theorem owS_out [W0] (d:List UInt8):∀k i s o,(owS d k i s o).1.out=s.out
 |0,i,s,o=>rfl
 |k+1,i,s,o=>by
  rw [owS]
  split
  ·exact tk_out _ _ _
  ·rw [owS_out d k,tk_out]
theorem lcS_out [W0] (d:List UInt8) (s:S6):(lcS d s).1.out=s.out:=by
 unfold lcS
 repeat' split
 all_goals simp only [fl_out,tk_out,owS_out]
theorem lgS_out [W0] (d:List UInt8) (m:Nat) (s:S6):(lgS d m s).1.out=s.out:=by
 unfold lgS
 repeat' split
 all_goals simp only [lpS_out,lcS_out]
theorem dyT_out [W0] (d:List UInt8) (n1 n2:Nat) (s:S6):(dyT d n1 n2 s).1.out=s.out:=by
 rw [dyT_eq]
 unfold dyK
 repeat' split
 all_goals simp only [fl_out,lgS_out]
theorem dyS_out [W0] (d:List UInt8) (s:S6):(dyS d s).1.out=s.out:=by
 unfold dyS
 repeat' split
 all_goals simp only [fl_out,tk_out,dyT_out]
def hdK (x y:Nat):Bool:=x % 16 == 8&&decide (x / 16≤7)&&(x * 256+y) % 31 == 0&&(y&&&32) == 0
def wdN (b0 b1 b2 b3:Nat):Nat:=((b0 * 256+b1) * 256+b2) * 256+b3
end Go.If
namespace Go.Proofs.YtemdlifojcgplaaGreatDoor
open Go Go.Vx Go.Hf Go.If
variable [W0]
set_option maxRecDepth 4000
set_option linter.all false
theorem bit_and8 {a b:Nat} (ha:a < 256) (hb:b < 256):bitI .and .u8 (a:Int) (b:Int)=some ((a&&&b:Nat):Int):=by
 have h1:a&&&b≤a:=Nat.and_le_left
 have e:((BitVec.ofInt 8 (a:Int)&&&BitVec.ofInt 8 (b:Int)).toNat)=a&&&b:=by
  rw [BitVec.toNat_and,BitVec.ofInt_natCast,BitVec.ofInt_natCast,BitVec.toNat_ofNat,BitVec.toNat_ofNat,Nat.mod_eq_of_lt (by omega),Nat.mod_eq_of_lt (by omega)]
 show some (IntKind.u8.wrap (((BitVec.ofInt 8 (a:Int)&&&BitVec.ofInt 8 (b:Int)).toNat:Nat):Int))=_
 rw [e]
 congr 1
 exact wrap_nat rfl (by simp [IntKind.bits];omega)
theorem bit_or16 {a b:Nat} (ha:a < 256) (hb:b < 256):bitI .or .i64 ((a * 256:Nat):Int) (b:Int)=some ((a * 256+b:Nat):Int):=by
 have e0:a * 256|||b=a * 256+b:=by
  have:=Nat.two_pow_add_eq_or_of_lt (i:=8) (b:=b) (by omega) a
  rw [Nat.mul_comm a 256]
  exact this.symm
 have e:((BitVec.ofInt 64 ((a * 256:Nat):Int)|||BitVec.ofInt 64 (b:Int)).toNat)=a * 256+b:=by
  rw [BitVec.toNat_or,BitVec.ofInt_natCast,BitVec.ofInt_natCast,BitVec.toNat_ofNat,BitVec.toNat_ofNat,Nat.mod_eq_of_lt (by omega),Nat.mod_eq_of_lt (by omega),e0]
 show some (IntKind.i64.wrap (((BitVec.ofInt 64 ((a * 256:Nat):Int)|||BitVec.ofInt 64 (b:Int)).toNat:Nat):Int))=_
 rw [e]
 congr 1
 exact wrap_i64s (by omega)
theorem isHead_n (x y:UInt8) (L:List Chunk):GvP Tryz.prog 57 [.int .u8 (x.toNat:Int),.int .u8 (y.toNat:Int)].toArray L (.bool (hdK x.toNat y.toNat)):=by
 refine Gv.of_body Tryz.func57 rfl rfl ?_
 have hx:=x.toNat_lt
 have hy:=y.toNat_lt
 generalize x.toNat=a at hx ⊢
 generalize y.toNat=b at hy ⊢
 unfold hdK
 refine kW ?_
 refine OW_EV (EV_nand (k:=.u8) a 4 rfl rfl rfl rfl rfl (by simp only [IntKind.bits];omega) (by decide)) rfl ?_
 have hno:∀(c1:Bool),c1=false→Value.bool false=.bool c1:=fun c1 h=>by rw [h]
 have hno2:¬(a % 16=8∧a / 16≤7∧(a * 256+b) % 31=0)→(a % 16 == 8&&decide (a / 16≤7)&&(a * 256+b) % 31 == 0&&(b&&&32) == 0)=false:=by
  intro h
  cases hh:(a % 16 == 8&&decide (a / 16≤7)&&(a * 256+b) % 31 == 0&&(b&&&32) == 0)
  ·rfl
  ·exfalso
   simp only [Bool.and_eq_true,beq_iff_eq,decide_eq_true_eq] at hh
   exact h ⟨hh.1.1.1,hh.1.1.2,hh.1.2⟩
 (repeat' first|refine kW ?_|refine kU fun bk=>?_|refine kV fun hc=>?_|refine kZ (fun hc=>?_) fun hc=>?_|fail)
 ·refine OW_EV (EV_shl64 a 8 rfl rfl rfl rfl (by decide) (by omega)) rfl ?_
  rw [show a * 2 ^ 8=a * 256 from rfl]
  refine kW ?_
  refine OW_EV (EV_bit rfl rfl (bit_or16 (a:=a) (b:=b) hx hy)) rfl ?_
  refine kW ?_
  refine OW_EV (EV_remN (a * 256+b) 31 rfl rfl rfl rfl (by decide)) rfl ?_
  (repeat' first|refine kW ?_|refine kU fun bk=>?_|refine kV fun hc=>?_|refine kZ (fun hc=>?_) fun hc=>?_|fail)
  ·refine OW_EV (EV_bit rfl rfl (bit_and8 (a:=b) (b:=32) hy (by decide))) rfl ?_
   generalize hz:b&&&32=z
   refine kW ?_
   refine kR ?_
   refine ⟨_,iC,?_,rfl⟩
   refine congrArg Value.bool ?_
   rw [show (a % 16 == 8)=true from by simp;omega,show decide (a / 16≤7)=true from by simp;omega,show ((a * 256+b) % 31 == 0)=true from by simp;omega]
   simp only [Bool.true_and]
   by_cases h0:z=0
   ·subst h0;rfl
   ·rw [show (z == 0)=false from by simpa using h0];simp;omega
  ·refine kR ?_
   exact ⟨_,iC,hno _ (hno2 (by omega)),rfl⟩
 ·refine kR ?_
  exact ⟨_,iC,hno _ (hno2 (by omega)),rfl⟩
 ·refine kR ?_
  exact ⟨_,iC,hno _ (hno2 (by omega)),rfl⟩
theorem sl_bytes {L:List Chunk} {v:Value} {m:Nat} {t:List UInt8} (h:Sl L 1 v m (bsv t)) (hm:0 < m) :
 ∃bb off cap c T fr,v=.slice (some ⟨bb,off,none⟩) m cap∧Fnd L bb (.cells c T fr)∧∀k,k < m→c[off+k * 1]? =some (.int .u8 ((t.getD k 0).toNat:Int)):=by
 rcases h with ⟨c,rfl,rfl,h0⟩|⟨a,cap,rfl,hr,hl⟩
 ·omega
 ·rw [bsv_length,Nat.mul_one] at hl
  rcases hr with h0|⟨b,off,c,T,fr,rfl,h1,h2⟩
  ·have h9:(bsv t).length=0:=by rw [h0];rfl
   rw [bsv_length] at h9
   omega
  ·exact ⟨b,off,cap,c,T,fr,rfl,h1,fun k hk=>by rw [Nat.mul_one];exact h2 _ _ (bsv_get (by simp [List.getD,show k < t.length by omega]))⟩
theorem word_n (v:Value) (m:Nat) (t:List UInt8) (L:List Chunk) (h:Sl L 1 v m (bsv t)) (hm:4≤m) :
 GvP Tryz.prog 59 [v].toArray L (.int .u32 ((wdN (t.getD 0 0).toNat (t.getD 1 0).toNat (t.getD 2 0).toNat (t.getD 3 0).toNat:Nat):Int)):=by
 refine Gv.of_body Tryz.func59 rfl rfl ?_
 obtain ⟨bb,off,cap,cc,T,fr,rfl,hfn,hcs⟩:=sl_bytes h (by omega)
 have hc0:=hcs 0 (by omega)
 have hc1:=hcs 1 (by omega)
 have hc2:=hcs 2 (by omega)
 have hc3:=hcs 3 (by omega)
 have h0:=(t.getD 0 0).toNat_lt
 have h1:=(t.getD 1 0).toNat_lt
 have h2:=(t.getD 2 0).toNat_lt
 have h3:=(t.getD 3 0).toNat_lt
 clear h hcs
 generalize (t.getD 0 0).toNat=b0 at *
 generalize (t.getD 1 0).toNat=b1 at *
 generalize (t.getD 2 0).toNat=b2 at *
 generalize (t.getD 3 0).toNat=b3 at *
 refine kW ?_
 refine WC_drawAll [] mixed ?_
 (refine WR_t 0 ?_)
 refine cT 1 rfl rfl (EV_indexAddr (j:=0) rfl rfl rfl (by omega)) ?_
 refine cT 2 rfl rfl (EV_load rfl hfn hc0) ?_
 refine cT 3 rfl rfl (EV_nconv b0 rfl rfl rfl (by simp only [IntKind.bits];omega)) ?_
 refine cT 4 rfl rfl (EV_nshl b0 24 rfl rfl rfl rfl rfl (by simp only [IntKind.bits];omega)) ?_
 (refine WR_t 5 ?_)
 refine cT 6 rfl rfl (EV_indexAddr (j:=1) rfl rfl rfl (by omega)) ?_
 refine cT 7 rfl rfl (EV_load rfl hfn hc1) ?_
 refine cT 8 rfl rfl (EV_nconv b1 rfl rfl rfl (by simp only [IntKind.bits];omega)) ?_
 refine cT 9 rfl rfl (EV_nshl b1 16 rfl rfl rfl rfl rfl (by simp only [IntKind.bits];omega)) ?_
 refine cT 10 rfl rfl (EV_nor' (k:=.u32) (b1 * 2 ^ 16) b0 24 rfl rfl rfl rfl rfl (by omega) (by simp only [IntKind.bits];omega)) ?_
 rw [show b1 * 2 ^ 16+b0 * 2 ^ 24=(b1+b0 * 256) * 2 ^ 16 from by omega]
 (refine WR_t 11 ?_)
 refine cT 12 rfl rfl (EV_indexAddr (j:=2) rfl rfl rfl (by omega)) ?_
 refine cT 13 rfl rfl (EV_load rfl hfn hc2) ?_
 refine cT 14 rfl rfl (EV_nconv b2 rfl rfl rfl (by simp only [IntKind.bits];omega)) ?_
 refine cT 15 rfl rfl (EV_nshl b2 8 rfl rfl rfl rfl rfl (by simp only [IntKind.bits];omega)) ?_
 refine cT 16 rfl rfl (EV_nor' (k:=.u32) (b2 * 2 ^ 8) (b1+b0 * 256) 16 rfl rfl rfl rfl rfl (by omega) (by simp only [IntKind.bits];omega)) ?_
 rw [show b2 * 2 ^ 8+(b1+b0 * 256) * 2 ^ 16=(b2+(b1+b0 * 256) * 256) * 2 ^ 8 from by omega]
 (refine WR_t 17 ?_)
 refine cT 18 rfl rfl (EV_indexAddr (j:=3) rfl rfl rfl (by omega)) ?_
 refine cT 19 rfl rfl (EV_load rfl hfn hc3) ?_
 refine cT 20 rfl rfl (EV_nconv b3 rfl rfl rfl (by simp only [IntKind.bits];omega)) ?_
 refine cT 21 rfl rfl (EV_nor' (k:=.u32) b3 (b2+(b1+b0 * 256) * 256) 8 rfl rfl rfl rfl rfl (by omega) (by simp only [IntKind.bits];omega)) ?_
 rw [show b3+(b2+(b1+b0 * 256) * 256) * 2 ^ 8=wdN b0 b1 b2 b3 from by unfold wdN;omega]
 (refine WR_t 22 ?_)
 refine cD ?_
 refine kW ?_
 exact kE
end Go.Proofs.YtemdlifojcgplaaGreatDoor
namespace Go.If
open Go.Vx Go.Hf
set_option linter.all false
def byt (d:List UInt8) (k:Nat):Nat:=(d.getD k 0).toNat
def usd [W0] (d:List UInt8) (m:Nat):Nat:=((rawS (d.drop 2) m).t+7) / 8
end Go.If
namespace Go.Proofs.YtemdlifojcgplaaGreatDoor
open Go Go.Vx Go.Hf Go.If
variable [W0]
set_option maxRecDepth 4000
set_option linter.all false
def adS (d:List UInt8) (m:Nat):Nat:=(adlV (adlN (1#32,0#32) (rawS (d.drop 2) m).out)).toNat
def zlE (d:List UInt8) (m:Nat):Nat:=
 if d.length < 2 then 4
 else if hdK (byt d 0) (byt d 1)=false then 3
 else if (rawS (d.drop 2) m).e≠0 then (rawS (d.drop 2) m).e
 else if d.length < 2+usd d m+4 then 4
 else if wdN (byt d (2+usd d m)) (byt d (2+usd d m+1)) (byt d (2+usd d m+2)) (byt d (2+usd d m+3))≠adS d m then 6
 else 0
theorem pzlib_n (a:Option Addr) (c:Nat) (d:List UInt8) (most:Int) (m:Nat) (L:List Chunk) (hv:Sl L 1 (.slice a d.length c) d.length (bsv d)) (hl:d.length≤140737488355328) (hcap:d.length≤c) (hm1:max most 0=(m:Int)) (hm:m≤1000000) (hor:OrAt L) :
 Gv Tryz.prog 31 [.slice a d.length c,.int .i64 most].toArray L (fun r L'=>
  (zlE d m≠0∧r=.tuple #[.slice none 0 0,.int .i64 0,.int .i64 (zlE d m:Int)]∧L'=L)∨
  (zlE d m=0∧∃v C,r=.tuple #[v,.int .i64 ((2+usd d m+4:Nat):Int),.int .i64 0]∧Ow 5 1 v (rawS (d.drop 2) m).out.length (bsv (rawS (d.drop 2) m).out) C∧(rawS (d.drop 2) m).out.length≤m∧L'=C::L)):=by
 refine Gv.of_body Tryz.func31 rfl rfl ?_
 by_cases h2:d.length < 2
 ·have hz:zlE d m=4:=by unfold zlE;rw [if_pos h2]
  rw [hz]
  (refine kW ?_;refine kV fun hc=>?_;refine kW ?_)
  refine WQ_retI (rs:=[.tmp 4,.tmp 5,.tmp 6]) (vs:=[.slice none 0 0,.int .i64 0,.int .i64 4]) rfl rfl ?_
  exact ⟨_,iC,.inl ⟨by decide,rfl,rfl⟩⟩
 have hz:zlE d m=if hdK (byt d 0) (byt d 1)=false then 3 else if (rawS (d.drop 2) m).e≠0 then (rawS (d.drop 2) m).e else if d.length < 2+usd d m+4 then 4 else if wdN (byt d (2+usd d m)) (byt d (2+usd d m+1)) (byt d (2+usd d m+2)) (byt d (2+usd d m+3))≠adS d m then 6 else 0:=by
  unfold zlE;rw [if_neg h2]
 rw [hz]
 clear hz
 obtain ⟨bb,off,cap,cc,T,fr,hve,hfn,hcs⟩:=sl_bytes hv (by omega)
 injection hve with q1 q2 q3
 subst q1 q3
 clear q2
 have hhd:=isHead_n (d.getD 0 0) (d.getD 1 0) L
 change GvP _ _ _ L (.bool (hdK (byt d 0) (byt d 1))) at hhd
 generalize hK:hdK (byt d 0) (byt d 1)=K at hhd ⊢
 (refine kW ?_;refine kV fun hc=>?_;refine kW ?_)
 refine WC_drawAll [] mixed ?_
 (refine WR_t 0 ?_)
 refine cT 1 rfl rfl (EV_indexAddr (j:=0) rfl rfl rfl (by omega)) ?_
 refine cT 2 rfl rfl (EV_load rfl hfn (hcs 0 (by omega))) ?_
 (refine WR_t 3 ?_)
 refine cT 4 rfl rfl (EV_indexAddr (j:=1) rfl rfl rfl (by omega)) ?_
 refine cT 5 rfl rfl (EV_load rfl hfn (hcs 1 (by omega))) ?_
 refine cI 6 rfl rfl ?_
 refine cP rfl rfl hhd ?_
 refine ⟨iC,?_⟩
 (refine WR_t 7 ?_)
 refine cD ?_
 cases K with
 |false=>
  rw [if_pos rfl]
  refine kW ?_
  refine WQ_retI (rs:=[.tmp 4,.tmp 5,.tmp 6]) (vs:=[.slice none 0 0,.int .i64 0,.int .i64 3]) rfl rfl ?_
  exact ⟨_,iC,.inl ⟨by decide,rfl,rfl⟩⟩
 |true=>
  rw [if_neg (by decide)]
  have hsub:∀k,k≤d.length→Sl L 1 (.slice (some ⟨bb,if c=k then off else off+k * 1,none⟩) (d.length - k) (c - k)) (d.length - k) (bsv (d.drop k)):=by
   intro k hk
   refine .inr ⟨_,_,rfl,?_,by rw [bsv_length,List.length_drop,Nat.mul_one]⟩
   by_cases h0:d.length=k
   ·refine .inl ?_
    rw [List.drop_of_length_le (by omega)];rfl
   ·rw [if_neg (by omega)]
    refine .inr ⟨bb,_,cc,T,fr,rfl,hfn,fun j u hj=>?_⟩
    have hjl:j < (d.drop k).length:=by
     have:=(List.getElem?_eq_some_iff.1 hj).1
     rwa [bsv_length] at this
    have hj2:u=.int .u8 ((d.getD (k+j) 0).toNat:Int):=by
     have h3:=bsv_get (l:=d.drop k) (i:=j) (b:=d.getD (k+j) 0) (by rw [List.length_drop] at hjl;simp [List.getD,show k+j < d.length by omega])
     rw [h3] at hj
     injection hj with hj
     exact hj.symm
    rw [hj2,show off+k * 1+j=off+(k+j) * 1 from by omega]
    rw [List.length_drop] at hjl
    exact hcs (k+j) (by omega)
  have hra:=praw_n (some ⟨bb,if c=2 then off else off+2 * 1,none⟩) (c - 2) (d.drop 2) most m L (by rw [List.length_drop];exact hsub 2 (by omega)) (by rw [List.length_drop];omega) hm1 hm hor
  rw [List.length_drop] at hra
  have hus:usd d m=((rawS (d.drop 2) m).t+7) / 8:=rfl
  have had:adS d m=(adlV (adlN (1#32,0#32) (rawS (d.drop 2) m).out)).toNat:=rfl
  generalize rawS (d.drop 2) m=R at hra hus had ⊢
  rw [←hus] at hra
  generalize usd d m=n at hra hus ⊢
  generalize adS d m=ad at had ⊢
  refine kW ?_
  refine OW_EV (EV_sliceSl (l:=2) (h:=d.length) rfl rfl rfl (by omega) hcap) rfl ?_
  refine kW ?_
  refine cC rfl rfl hra (fun r L' hp=>?_)
  rcases hp with ⟨h3,rfl,rfl⟩|⟨h3,v1,C1,rfl,ho1,hl1,ht1,rfl⟩
  ·rw [if_pos h3]
   (refine kW ?_;refine kV fun hc=>?_;refine kW ?_)
   refine WQ_retI (rs:=[.tmp 4,.tmp 5,.tmp 6]) (vs:=[.slice none 0 0,.int .i64 0,.int .i64 (R.e:Int)]) rfl rfl ?_
   exact ⟨_,iC,.inl ⟨h3,rfl,rfl⟩⟩
  rw [if_neg (show ¬R.e≠0 by omega)]
  have hn2:2+n≤d.length:=by omega
  refine kW ?_
  rw [show (2:Int)+(n:Int)=((2+n:Nat):Int) from by omega]
  refine OW_EV (EV_sliceSl (l:=2+n) (h:=d.length) rfl rfl rfl hn2 hcap) rfl ?_
  (repeat' first|refine kW ?_|refine kU fun bk=>?_|refine kV fun hc=>?_|refine kZ (fun hc=>?_) fun hc=>?_|fail)
  ·rw [if_pos (show d.length < 2+n+4 by omega)]
   refine WQ_retI (rs:=[.tmp 4,.tmp 5,.tmp 6]) (vs:=[.slice none 0 0,.int .i64 0,.int .i64 4]) rfl rfl ?_
   exact ⟨_,iC,.inl ⟨by decide,rfl,rfl⟩⟩
  rw [if_neg (show ¬d.length < 2+n+4 by omega)]
  have hw:=word_n _ _ (d.drop (2+n)) (C1::L) (sl_there (hsub (2+n) hn2)) (by omega)
  have hgd:∀j,((d.drop (2+n)).getD j 0).toNat=byt d (2+n+j):=fun j=>by simp [byt,List.getD]
  rw [hgd,hgd,hgd,hgd,Nat.add_zero] at hw
  refine cP rfl rfl hw ?_
  generalize wdN (byt d (2+n)) (byt d (2+n+1)) (byt d (2+n+2)) (byt d (2+n+3))=wd
  refine kW ?_
  have hadl:GvP Tryz.prog 47 [v1].toArray (C1::L) (.int .u32 (ad:Int)):=by rw [had];exact adler_n R.out v1 (C1::L) (by omega) (SlC.ow ho1)
  refine cP rfl rfl hadl ?_
  (repeat' first|refine kW ?_|refine kU fun bk=>?_|refine kV fun hc=>?_|refine kZ (fun hc=>?_) fun hc=>?_|fail)
  ·rw [if_pos (show wd≠ad by omega)]
   refine WQ_retI (rs:=[.tmp 4,.tmp 5,.tmp 6]) (vs:=[.slice none 0 0,.int .i64 0,.int .i64 6]) rfl rfl ?_
   exact ⟨_,iC,.inl ⟨by decide,rfl,rfl⟩⟩
  ·rw [if_neg (show ¬wd≠ad by omega)]
   refine kR ?_
   exact ⟨_,iC,.inr ⟨rfl,v1,C1,by rw [show ((2+n+4:Nat):Int)=2+(n:Int)+4 from by omega];rfl,ho1,hl1,rfl⟩⟩
end Go.Proofs.YtemdlifojcgplaaGreatDoor
namespace Go.If
open Go.Vx Go.Hf
set_option linter.all false
theorem pt_m {most:Nat} {s:S6} {c:UInt8} (h:s.out.length≤most):(pt most s c).out.length≤most:=by
 unfold pt
 split
 ·rw [fl_out];exact h
 ·simp;omega
theorem cpL_m {most far:Nat}:∀{n:Nat} {s:S6},s.out.length≤most→(cpL most far n s).out.length≤most
 |0,s,h=>h
 |n+1,s,h=>by
  rw [cpL]
  split
  ·exact cpL_m (pt_m h)
  ·exact h
theorem mtS_m [W0] {d:List UInt8} {most k:Nat} {dl:List Nat} {s:S6} (h:s.out.length≤most):(mtS d most k dl s).out.length≤most:=by
 unfold mtS mtD
 repeat' split
 all_goals first
  |(refine cpL_m ?_;simp only [fl_out,tk_out,sy_o];exact h)
  |(simp only [fl_out,tk_out,sy_o];exact h)
theorem cdC_m [W0] {d:List UInt8} {most:Nat} {l dl:List Nat}:∀{f:Nat} {s:S6},s.out.length≤most→(cdC d most l dl f s).out.length≤most
 |0,s,h=>h
 |f+1,s,h=>by
  have hs:(sy d s l).out.length≤most:=by rw [sy_o];exact h
  rw [cdC]
  split
  ·exact h
  ·split
   ·exact hs
   ·split
    ·exact cdC_m (pt_m hs)
    ·split
     ·exact hs
     ·exact cdC_m (mtS_m hs)
theorem stL_m [W0] {d:List UInt8} {most:Nat}:∀{k:Nat} {s:S6},s.out.length≤most→(stL d most k s).out.length≤most
 |0,s,h=>h
 |k+1,s,h=>by
  have hs:(tk d s 8).out.length≤most:=by rw [tk_out];exact h
  rw [stL]
  split
  ·refine stL_m ?_
   split
   ·exact pt_m hs
   ·exact hs
  ·exact h
theorem bkS_m [W0] {d:List UInt8} {most k:Nat} {s:S6} (h:s.out.length≤most):(bkS d most k s).out.length≤most:=by
 unfold bkS stS dbS
 split
 ·refine stL_m ?_
  split<;>simp only [fl_out,tk_out]<;>exact h
 ·split
  ·exact cdC_m h
  ·split
   ·rw [dyS_out];exact h
   ·exact cdC_m (by rw [dyS_out];exact h)
theorem rwS_m [W0] {d:List UInt8} {most:Nat}:∀{f:Nat} {s:S6},s.out.length≤most→(rwS d most f s).out.length≤most
 |0,s,h=>h
 |f+1,s,h=>by
  have hs:(tk d s 3).out.length≤most:=by rw [tk_out];exact h
  have hb:=bkS_m (d:=d) (k:=tv d s 3 / 2) hs
  rw [rwS]
  split
  ·exact hs
  ·split
   ·rw [fl_out];exact hs
   ·split
    ·exact hb
    ·split
     ·exact hb
     ·exact rwS_m hb
theorem rawS_m [W0] (d:List UInt8) (most:Nat):(rawS d most).out.length≤most:=rwS_m (Nat.zero_le _)
end Go.If
namespace Go.Proofs.YtemdlifojcgplaaGreatDoor
open Go Go.Vx Go.Ob Go.Hf Go.If
variable [W0]
set_option linter.all false
set_option maxRecDepth 4000
def psO (d:List UInt8):List UInt8:=(rawS (d.drop 2) 65568).out
def psF (e:Nat) (u l:Nat) (t:List UInt8):Nat:=
 if e≠0 then e else if psK t=0∨u≠l then 3 else if 65536 < (psB t).length then 5 else 0
def psE (d:List UInt8):Nat:=psF (zlE d 65568) (2+usd d 65568+4) d.length (psO d)
def prK (d:List UInt8):Nat:=if psE d=0 then psK (psO d) else 0
def prB (d:List UInt8):List UInt8:=if psE d=0 then psB (psO d) else []
theorem parse_n (a:Option Addr) (c:Nat) (d:List UInt8) (L:List Chunk) (hv:Sl L 1 (.slice a d.length c) d.length (bsv d)) (hl:d.length≤140737488355328) (hcap:d.length≤c) (hb:BsAt L) (hor:OrAt L) :
 Gv Tryz.prog 13 [.slice a d.length c].toArray L (fun r L'=>∃v C,r=.tuple #[.int .i64 (prK d:Int),v,.int .i64 (psE d:Int)]∧(∀L0,SlC (C::L0) 1 v (prB d).length (bsv (prB d)))∧L'=C::L):=by
 refine Gv.of_body (args:=[.slice a d.length c]) Tryz.func13 rfl rfl ?_
 have hp:=pzlib_n a c d 65568 65568 L hv hl hcap (by decide) (by omega) hor
 have hm:(psO d).length≤65568:=rawS_m (d.drop 2) 65568
 have hnil:∀L0:List Chunk,SlC L0 1 (.slice none 0 0) ([]:List UInt8).length (bsv []):=fun L0=>⟨.inl ⟨0,rfl,rfl,rfl⟩,_,_,rfl,Nat.le_refl _⟩
 unfold prK prB psE
 change Gv _ _ _ _ (fun r L'=>(_∧_)∨(_∧∃v C,_∧Ow _ 1 v (psO d).length (bsv (psO d)) C∧_∧_)) at hp
 generalize zlE d 65568=e at hp ⊢
 generalize psO d=t at hp hm ⊢
 generalize 2+usd d 65568+4=u at hp ⊢
 refine kW ?_
 refine cC rfl rfl hp (fun r L' hp=>?_)
 rcases hp with ⟨h1,rfl,rfl⟩|⟨h1,v1,C1,rfl,ho1,hl1,rfl⟩
 ·have hE:psF e u d.length t=e:=if_pos h1
  rw [hE,if_neg h1,if_neg h1]
  (refine kW ?_;refine kV fun hc=>?_;refine kW ?_)
  refine kH ?_
  exact ⟨[]::L',fun w h=>Holds.nil.2 (iH h),_,[],rfl,fun L0=>hnil _,rfl⟩
 ·obtain ⟨a1,c1,rfl⟩:=ow_slc ho1
  have hE:psF e u d.length t=if psK t=0∨u≠d.length then 3 else if 65536 < (psB t).length then 5 else 0:=if_neg (fun h=>h h1)
  refine kW ?_
  refine OW_buildSlice (cs:=bsv [0]) rfl (by rfl) (by simp [fillL,patch,Value.cells,zeros];rfl) (by omega) rfl rfl (fun b1=>?_)
  refine kW ?_
  refine cC rfl rfl (bytescut_n (.slice a1 t.length c1) _ t C1 _ ho1 (ByV.ow ho1).there (sl_cells (c:=(bsv [0]).toArray) (xs:=bsv [0]) (m:=1) Fnd.here rfl (by simp)) (by omega)) (fun r L' hp=>?_)
  obtain ⟨v2,v3,rfl,h2,h3,rfl⟩:=hp
  obtain ⟨a3,c3,rfl,_⟩:=(h3 []).room
  have hle:=cutN_len2 0 t
  refine kW ?_
  refine OW_EV (EV_convStr (m:=(Ob.cutN 0 t).1.length) (b:=(Ob.cutN 0 t).1) rfl (sl_there (h2 _).sl)) rfl ?_
  refine kW ?_
  refine cP rfl rfl (kindin_n (Ob.cutN 0 t).1 (Ob.cutN 0 t).2.length _ (by repeat (first|exact hb|apply BsAt.there)) (by omega) (by omega)) ?_
  by_cases hA:(0:UInt8)∈t∧kdL (Ob.cutN 32 (Ob.cutN 0 t).1).1≠0∧(Ob.cutN 32 (Ob.cutN 0 t).1).2=dgL (Ob.cutN 0 t).2.length
  ·have hk:psK t=kdL (Ob.cutN 32 (Ob.cutN 0 t).1).1:=if_pos hA
   rw [decide_eq_true hA.1,decide_eq_true hA.2,←hk]
   have hk0:psK t≠0:=by rw [hk];exact hA.2.1
   change ∀L0,SlC (C1::L0) 1 _ (psB t).length (bsv (psB t)) at h3
   obtain ⟨bl,hbl⟩:∃bl,bl=(Ob.cutN 0 t).2.length:=⟨_,rfl⟩
   rw [←hbl] at hle hA h3 ⊢
   (repeat' first|refine kW ?_|refine kU fun bk=>?_|refine kV fun hc=>?_|refine kZ (fun hc=>?_) fun hc=>?_|fail)
   ·have hX:psF e u d.length t=3:=by rw [hE,if_pos (.inr (by omega))]
    rw [hX,if_neg (by decide),if_neg (by decide)]
    refine kR ?_
    exact ⟨C1::L,iC,_,C1,rfl,fun L0=>hnil _,rfl⟩
   ·have hX:psF e u d.length t=5:=by rw [hE,if_neg (fun h=>h.elim hk0 (fun h=>h (by omega))),if_pos (by show 65536 < (Ob.cutN 0 t).2.length;omega)]
    rw [hX,if_neg (by decide),if_neg (by decide)]
    refine kR ?_
    exact ⟨C1::L,iC,_,C1,rfl,fun L0=>hnil _,rfl⟩
   ·have hX:psF e u d.length t=0:=by rw [hE,if_neg (fun h=>h.elim hk0 (fun h=>h (by omega))),if_neg (by show ¬65536 < (Ob.cutN 0 t).2.length;omega)]
    rw [hX,if_pos rfl,if_pos rfl]
    refine kR ?_
    exact ⟨C1::L,iC,_,C1,rfl,h3,rfl⟩
  ·have hk:psK t=0:=if_neg hA
   have hX:psF e u d.length t=3:=by rw [hE,if_pos (.inl hk)]
   rw [hX,if_neg (by decide),if_neg (by decide)]
   by_cases hB:kdL (Ob.cutN 32 (Ob.cutN 0 t).1).1≠0∧(Ob.cutN 32 (Ob.cutN 0 t).1).2=dgL (Ob.cutN 0 t).2.length
   ·rw [decide_eq_true hB,decide_eq_false (fun h=>hA ⟨h,hB⟩)]
    refine kW ?_
    refine kR ?_
    exact ⟨C1::L,iC,_,C1,rfl,fun L0=>hnil _,rfl⟩
   ·rw [decide_eq_false hB]
    refine kW ?_
    refine kR ?_
    exact ⟨C1::L,iC,_,C1,rfl,fun L0=>hnil _,rfl⟩
end Go.Proofs.YtemdlifojcgplaaGreatDoor
namespace Go.If
open Go.Vx Go.Hf
set_option linter.all false
def At (d:List UInt8) (t v n:Nat):Prop:=val d / 2 ^ t % 2 ^ n=v∧t+n≤8 * d.length
theorem tk_at [W0] {d:List UInt8} {s:S6} {v n:Nat} (h:At d s.t v n):tk d s n=⟨s.t+n,s.out,s.e⟩∧tv d s n=v:=⟨tk_ok h.2,by rw [tv_ok h.2];exact h.1⟩
theorem At.split {d:List UInt8} {t v n r m:Nat} (h:At d t (v+2 ^ n * r) (n+m)) (hv:v < 2 ^ n):At d t v n∧At d (t+n) r m:=by
 obtain ⟨h1,h2⟩:=h
 rw [Nat.pow_add,Nat.mod_mul] at h1
 generalize hx:val d / 2 ^ t=x at h1
 have hp:0 < 2 ^ n:=Nat.pow_pos (by decide)
 have hlt:=Nat.mod_lt x hp
 have e1:x % 2 ^ n=v:=by
  have h3:=congrArg (· % 2 ^ n) h1
  simp only [Nat.add_mul_mod_self_left] at h3
  rwa [Nat.mod_eq_of_lt hlt,Nat.mod_eq_of_lt hv] at h3
 have e2:x / 2 ^ n % 2 ^ m=r:=by
  rw [e1] at h1
  have h4:2 ^ n * (x / 2 ^ n % 2 ^ m)=2 ^ n * r:=by omega
  exact Nat.eq_of_mul_eq_mul_left hp h4
 refine ⟨⟨by rw [hx];exact e1,by omega⟩,⟨?_,by omega⟩⟩
 rw [Nat.pow_add,←Nat.div_div_eq_div_mul,hx]
 exact e2
theorem sy_at [W0] {d:List UInt8} {s:S6} {l:List Nat} {i n:Nat} (he:s.e=0) (hi:l[i]? =some n) (h0:0 < n) (h15:n≤15) (hc:cd l i < 2 ^ n) (h:At d s.t (mir (cd l i) n) n) :
 sy d s l=⟨s.t+n,s.out,0⟩∧sv d s l=i:=by
 have hb:hv (val d) s.t n=cd l i:=by
  rw [hv_mir,←mir_mod (val d / 2 ^ s.t) (Nat.le_refl n),h.1,mir_mir,Nat.mod_eq_of_lt hc]
 have hr:=rd_hit (z:=8 * d.length) hi h0 h15 hb h.2
 unfold sy sv fl
 rw [if_pos he,if_pos (by exact he),if_pos he,hr]
 exact ⟨rfl,rfl⟩
def itV:List (Nat × Nat)→Nat
 |[]=>0
 |x::r=>x.1+2 ^ x.2 * itV r
def itL:List (Nat × Nat)→Nat
 |[]=>0
 |x::r=>x.2+itL r
theorem itL_app:∀a b:List (Nat × Nat),itL (a++b)=itL a+itL b
 |[],b=>by simp [itL]
 |x::a,b=>by rw [List.cons_append,itL,itL,itL_app a b];omega
theorem itV_app:∀a b:List (Nat × Nat),itV (a++b)=itV a+2 ^ itL a * itV b
 |[],b=>by simp [itV,itL]
 |x::a,b=>by
  rw [List.cons_append,itV,itV,itL,itV_app a b,Nat.mul_add,Nat.pow_add,Nat.mul_assoc]
  omega
theorem itV_lt:∀{a:List (Nat × Nat)},(∀x∈a,x.1 < 2 ^ x.2)→itV a < 2 ^ itL a
 |[],_=>by simp [itV,itL]
 |x::a,h=>by
  have h1:=h x List.mem_cons_self
  have h2:=itV_lt (a:=a) (fun y hy=>h y (List.mem_cons_of_mem _ hy))
  rw [itV,itL,Nat.pow_add]
  have h3:2 ^ x.2 * (itV a+1)≤2 ^ x.2 * 2 ^ itL a:=Nat.mul_le_mul_left _ h2
  rw [Nat.mul_add] at h3
  omega
theorem at_all [W0] {a:List (Nat × Nat)} (h:∀x∈a,x.1 < 2 ^ x.2):At (leB (itV a) ((itL a+7) / 8)) 0 (itV a) (itL a):=by
 have hlt:=itV_lt h
 have hle:itL a≤8 * ((itL a+7) / 8):=by omega
 have h2:itV a < 2 ^ (8 * ((itL a+7) / 8)):=Nat.lt_of_lt_of_le hlt (Nat.pow_le_pow_right (by decide) hle)
 refine ⟨?_,by rw [leB_length];omega⟩
 rw [val_leB,Nat.mod_eq_of_lt h2,Nat.pow_zero,Nat.div_one,Nat.mod_eq_of_lt hlt]
def cpW (far:Nat):Nat→List UInt8→List UInt8
 |0,o=>o
 |k+1,o=>cpW far k (o++[o.getD (o.length - far) 0])
theorem cpL_fit (most far:Nat):∀n s,s.e=0→s.out.length+n≤most→cpL most far n s=⟨s.t,cpW far n s.out,0⟩
 |0,s,he,_=>by
  obtain ⟨t,o,e⟩:=s
  simp only at he
  subst he
  rfl
 |n+1,s,he,h=>by
  rw [cpL,if_pos he,pt_ok (by omega),cpL_fit most far n ⟨s.t,s.out++[s.out.getD (s.out.length - far) 0],s.e⟩ he (by simp;omega)]
  rfl
theorem val_append (a b:List UInt8):val (a++b)=val a+2 ^ (8 * a.length) * val b:=by
 induction a with
 |nil=>simp [val]
 |cons x a ih=>
  rw [List.cons_append,val,val,ih,List.length_cons,Nat.mul_add,Nat.mul_succ,Nat.pow_add,Nat.mul_comm (2 ^ (8 * a.length)) (2 ^ 8),Nat.mul_assoc]
  omega
theorem stL_at [W0] (d:List UInt8) (most:Nat):∀(p:List UInt8) (s:S6),s.e=0→s.out.length+p.length≤most→At d s.t (val p) (8 * p.length)→stL d most p.length s=⟨s.t+8 * p.length,s.out++p,0⟩
 |[],s,he,ho,h=>by
  obtain ⟨t,o,e⟩:=s
  simp only at he
  subst he
  simp [stL]
 |c::p,s,he,ho,h=>by
  have hc:=c.toNat_lt
  have h':At d s.t (c.toNat+2 ^ 8 * val p) (8+8 * p.length):=by
   have e:8 * (c::p).length=8+8 * p.length:=by rw [List.length_cons];omega
   rw [e] at h
   exact h
  obtain ⟨h1,h2⟩:=h'.split (by omega)
  obtain ⟨e1,e2⟩:=tk_at h1
  rw [List.length_cons,stL,if_pos he,e1,e2]
  simp only
  rw [if_pos he,pt_ok (by simp at ho ⊢;omega),UInt8.ofNat_toNat]
  rw [stL_at d most p ⟨s.t+8,s.out++[c],s.e⟩ he (by simp at ho ⊢;omega) h2]
  simp
  omega
end Go.If
namespace Go.Df
open Go.Vx Go.Hf Go.If
set_option linter.all false
theorem cdFit {l:List Nat} (hk:kS l≤32768) (h15:∀i,l.getD i 0≤15) {s:Nat} (hs:s < l.length) (h0:0 < l.getD s 0):cd l s < 2 ^ l.getD s 0:=by
 have hi:l[s]? =some (l.getD s 0):=by simp [List.getD,hs]
 exact Nat.lt_of_lt_of_le (cd_in hi (by omega)).2 (fs_fit hk h0 (h15 s))
def Bi (d:List UInt8) (t:Nat) (a:List (Nat × Nat)):Prop:=At d t (itV a) (itL a)
theorem Bi.cons [W0] {d:List UInt8} {t:Nat} {x:Nat × Nat} {a:List (Nat × Nat)} (h:Bi d t (x::a)) (hx:x.1 < 2 ^ x.2):At d t x.1 x.2∧Bi d (t+x.2) a:=At.split (v:=x.1) (n:=x.2) (r:=itV a) (m:=itL a) h hx
theorem Bi.app [W0]:∀{d:List UInt8} {t:Nat} {a b:List (Nat × Nat)},Bi d t (a++b)→(∀x∈a,x.1 < 2 ^ x.2)→Bi d t a∧Bi d (t+itL a) b:=by
 intro d t a b h ha
 have h':At d t (itV a+2 ^ itL a * itV b) (itL a+itL b):=by
  have:=h
  unfold Bi at this
  rwa [itV_app,itL_app] at this
 obtain ⟨h1,h2⟩:=h'.split (itV_lt ha)
 exact ⟨h1,h2⟩
def sc [W0] (l:List Nat) (i:Nat):Nat × Nat:=(mir (cd l i) (l.getD i 0),l.getD i 0)
structure Cok (l:List Nat):Prop where
 k:kS l≤32768
 le:∀x∈l,x≤15
theorem Cok.at {l:List Nat} (h:Cok l) (i:Nat):l.getD i 0≤15:=by
 by_cases hi:i < l.length
 ·have e:l.getD i 0=l[i]:=by simp [List.getD,hi]
  rw [e];exact h.le _ (List.getElem_mem hi)
 ·rw [show l.getD i 0=0 from by simp [List.getD,List.getElem?_eq_none (Nat.le_of_not_lt hi)]];omega
theorem sc_lt [W0] (l:List Nat) (i:Nat):(sc l i).1 < 2 ^ (sc l i).2:=mir_lt _ _
theorem lt_of_pos {l:List Nat} {i:Nat} (h:0 < l.getD i 0):i < l.length:=by
 by_cases hi:i < l.length
 ·exact hi
 ·rw [show l.getD i 0=0 from by simp [List.getD,List.getElem?_eq_none (Nat.le_of_not_lt hi)]] at h;omega
theorem sy_bi [W0] {d:List UInt8} {s:S6} {l:List Nat} {i:Nat} (hl:Cok l) (he:s.e=0) (h0:0 < l.getD i 0) (h:At d s.t (sc l i).1 (sc l i).2) :
 sy d s l=⟨s.t+l.getD i 0,s.out,0⟩∧sv d s l=i:=by
 have hi:=lt_of_pos h0
 exact sy_at he (by simp [List.getD,hi]) h0 (hl.at i) (cdFit hl.k hl.at hi h0) h
inductive Tok
 |lit (c:UInt8)
 |mt (k x t y:Nat)
def lnT (k x:Nat):Nat:=(lnB k).1+x
def dsT (t y:Nat):Nat:=baB 1 2 4 t+y
def tkI [W0] (l dl:List Nat):Tok→List (Nat × Nat)
 |.lit c=>[sc l c.toNat]
 |.mt k x t y=>[sc l k,(x,(lnB k).2),sc dl t,(y,exB t 2 4)]
def tkW:Tok→List UInt8→List UInt8
 |.lit c,o=>o++[c]
 |.mt k x t y,o=>cpW (dsT t y) (lnT k x) o
def tkOk (l dl:List Nat) (n:Nat):Tok→Prop
 |.lit c=>0 < l.getD c.toNat 0
 |.mt k x t y=>257≤k∧k≤285∧0 < l.getD k 0∧x < 2 ^ (lnB k).2∧t≤29∧0 < dl.getD t 0∧y < 2 ^ exB t 2 4∧dsT t y≤n
def tkN:Tok→Nat
 |.lit _=>1
 |.mt k x _ _=>lnT k x
theorem tkI_lt [W0] {l dl:List Nat} {n:Nat} {k:Tok} (h:tkOk l dl n k):∀x∈tkI l dl k,x.1 < 2 ^ x.2:=by
 intro x hx
 cases k with
 |lit c=>
  rw [List.mem_singleton.1 hx]
  exact sc_lt _ _
 |mt k x t y=>
  obtain ⟨h1,h2,h3,h4,h5,h6,h7,h8⟩:=h
  simp only [tkI,List.mem_cons,List.not_mem_nil,or_false] at hx
  rcases hx with rfl|rfl|rfl|rfl
  ·exact sc_lt _ _
  ·exact h4
  ·exact sc_lt _ _
  ·exact h7
theorem cpW_length (far:Nat):∀n o,(cpW far n o).length=o.length+n
 |0,o=>rfl
 |n+1,o=>by rw [cpW,cpW_length far n];simp;omega
theorem tkW_length (k:Tok) (o:List UInt8):(tkW k o).length=o.length+tkN k:=by
 cases k with
 |lit c=>simp [tkW,tkN]
 |mt k x t y=>rw [tkW,cpW_length];rfl
theorem tok_at [W0] {d:List UInt8} {most:Nat} {l dl:List Nat} {s:S6} {k:Tok} {f:Nat} (hl:Cok l) (hd:Cok dl) (he:s.e=0) (hk:tkOk l dl s.out.length k) (hm:s.out.length+tkN k≤most) (h:Bi d s.t (tkI l dl k)) :
 cdC d most l dl (f+1) s=cdC d most l dl f ⟨s.t+itL (tkI l dl k),tkW k s.out,0⟩:=by
 cases k with
 |lit c=>
  have hc:=c.toNat_lt
  obtain ⟨h1,_⟩:=Bi.cons h (sc_lt _ _)
  obtain ⟨e1,e2⟩:=sy_bi hl he hk h1
  rw [cdC,if_neg (show ¬s.e≠0 from fun hh=>hh he),e1,e2,if_neg (show ¬(0:Nat)≠0 by decide),if_pos (show c.toNat < 256 by omega),pt_ok (show (⟨s.t+l.getD c.toNat 0,s.out,0⟩:S6).out.length < most by simp only [tkN] at hm ⊢;omega),UInt8.ofNat_toNat]
  rfl
 |mt k x t y=>
  obtain ⟨k1,k2,k3,k4,k5,k6,k7,k8⟩:=hk
  obtain ⟨h1,h⟩:=Bi.cons h (sc_lt _ _)
  obtain ⟨h2,h⟩:=Bi.cons h k4
  obtain ⟨h3,h⟩:=Bi.cons h (sc_lt _ _)
  obtain ⟨h4,_⟩:=Bi.cons h k7
  obtain ⟨e1,e2⟩:=sy_bi hl he k3 h1
  rw [cdC,if_neg (show ¬s.e≠0 from fun hh=>hh he),e1,e2,if_neg (show ¬(0:Nat)≠0 by decide),if_neg (show ¬k < 256 by omega),if_neg (show ¬k=256 by omega)]
  obtain ⟨e3,e4⟩:=tk_at (s:=⟨s.t+l.getD k 0,s.out,0⟩) h2
  obtain ⟨e5,e6⟩:=sy_bi (s:=⟨s.t+l.getD k 0+(lnB k).2,s.out,0⟩) hd rfl k6 h3
  obtain ⟨e7,e8⟩:=tk_at (s:=⟨s.t+l.getD k 0+(lnB k).2+dl.getD t 0,s.out,0⟩) h4
  simp only at e3 e4 e5 e6 e7 e8
  unfold mtS
  rw [if_neg (show ¬285 < k by omega),e3,e4,e5,e6,if_neg (show ¬(0:Nat)≠0 by decide),if_neg (show ¬29 < t by omega)]
  unfold mtD
  have k8':baB 1 2 4 t+y≤s.out.length:=k8
  rw [e7,e8,if_neg (fun hh=>by have:=hh.2;simp only at this;omega),cpL_fit most _ _ ⟨s.t+l.getD k 0+(lnB k).2+dl.getD t 0+exB t 2 4,s.out,0⟩ rfl (show s.out.length+((lnB k).1+x)≤most from hm)]
  have e9:s.t+itL (tkI l dl (.mt k x t y))=s.t+l.getD k 0+(lnB k).2+dl.getD t 0+exB t 2 4:=by
   simp only [tkI,itL,sc]
   omega
  rw [e9]
  rfl
def tsI [W0] (l dl:List Nat):List Tok→List (Nat × Nat)
 |[]=>[]
 |k::r=>tkI l dl k++tsI l dl r
def tsW:List Tok→List UInt8→List UInt8
 |[],o=>o
 |k::r,o=>tsW r (tkW k o)
def tsN:List Tok→Nat
 |[]=>0
 |k::r=>tkN k+tsN r
def tsOk (l dl:List Nat):Nat→List Tok→Prop
 |_,[]=>True
 |n,k::r=>tkOk l dl n k∧tsOk l dl (n+tkN k) r
theorem tsI_lt [W0] {l dl:List Nat}:∀{ts:List Tok} {n:Nat},tsOk l dl n ts→∀x∈tsI l dl ts,x.1 < 2 ^ x.2
 |[],_,_,x,hx=>by cases hx
 |k::r,n,h,x,hx=>by
  rcases List.mem_append.1 hx with hx|hx
  ·exact tkI_lt h.1 x hx
  ·exact tsI_lt h.2 x hx
theorem toks_at [W0] {d:List UInt8} {most:Nat} {l dl:List Nat} (hl:Cok l) (hd:Cok dl):∀(ts:List Tok) (s:S6) (f:Nat),s.e=0→ts.length≤f→tsOk l dl s.out.length ts→s.out.length+tsN ts≤most→Bi d s.t (tsI l dl ts)→
 cdC d most l dl f s=cdC d most l dl (f - ts.length) ⟨s.t+itL (tsI l dl ts),tsW ts s.out,0⟩
 |[],s,f,he,hf,hk,hm,h=>by
  obtain ⟨t,o,e⟩:=s
  simp only at he
  subst he
  rfl
 |k::r,s,f,he,hf,hk,hm,h=>by
  obtain ⟨g,rfl⟩:∃g,f=g+1:=⟨f - 1,by simp at hf;omega⟩
  obtain ⟨h1,h2⟩:=Bi.app h (tkI_lt hk.1)
  have hm':s.out.length+(tkN k+tsN r)≤most:=hm
  rw [tok_at hl hd he hk.1 (by omega) h1]
  rw [toks_at hl hd r ⟨s.t+itL (tkI l dl k),tkW k s.out,0⟩ g rfl (by simp at hf;omega) (by simp only [tkW_length];exact hk.2) (by simp only [tkW_length];omega) h2]
  rw [show g+1 - (k::r).length=g - r.length by simp]
  simp only [tsI,itL_app,tsW,Nat.add_assoc]
theorem block_at [W0] {d:List UInt8} {most f:Nat} {l dl:List Nat} {ts:List Tok} {s:S6} (hl:Cok l) (hd:Cok dl) (he:s.e=0) (hf:ts.length < f) (hk:tsOk l dl s.out.length ts) (h256:0 < l.getD 256 0) (hm:s.out.length+tsN ts≤most) (h:Bi d s.t (tsI l dl ts++[sc l 256])) :
 cdC d most l dl f s=⟨s.t+itL (tsI l dl ts++[sc l 256]),tsW ts s.out,0⟩:=by
 obtain ⟨h1,h2⟩:=Bi.app h (tsI_lt hk)
 rw [toks_at hl hd ts s f he (by omega) hk hm h1]
 obtain ⟨g,hg⟩:∃g,f - ts.length=g+1:=⟨f - ts.length - 1,by omega⟩
 obtain ⟨h3,_⟩:=Bi.cons h2 (sc_lt _ _)
 obtain ⟨e1,e2⟩:=sy_bi (s:=⟨s.t+itL (tsI l dl ts),tsW ts s.out,0⟩) hl rfl h256 h3
 rw [hg,cdC,if_neg (show ¬(0:Nat)≠0 by decide),e1,e2,if_neg (show ¬(0:Nat)≠0 by decide),if_neg (show ¬256 < 256 by decide),if_pos rfl,itL_app]
 simp only [itL,sc,Nat.add_zero,Nat.add_assoc]
theorem fxL_ok:Cok fxL:=⟨by decide+kernel,by decide+kernel⟩
theorem fxD_ok:Cok fxD:=⟨by decide+kernel,by decide+kernel⟩
end Go.Df
