/- Contracts and facts on the way to the top. It proves no statement by itself. No conditions. -/
import Derived.Test.YtemdlifojcgplaaGreatDoorSV4
set_option maxHeartbeats 16000000
namespace Go.Proofs.YtemdlifojcgplaaGreatDoor
open Go Go.Vx Go.Hf Go.If Go.Df
variable [W0]
set_option maxRecDepth 4000
set_option linter.all false
omit [W0] in
theorem zaF (t:Nat × Nat):ones (TkV t)=true:=rfl
theorem zbb (v:Value) (b:List UInt8) (L:List Chunk) (ht:Sl L 1 v b.length (bsv b)) (hb:b.length≤200000) :
 Gv Tryz.prog 155 [v].toArray L (fun r L'=>∃C,Ow 236 2 r (lits b).length (flt TkV (lits b)) C∧L'=C::L):=by
 refine Gv.of_body (args:=[v]) Tryz.func155 rfl rfl ?_
 obtain ⟨va,vc,rfl⟩:=YI ht
 refine kW ?_
 refine zn (X:=Nat × Value × Chunk) (fun x=>[(3,x.2.1),(6,.slice va b.length vc),(7,.int .i64 (b.length:Int)),(8,.int .i64 (x.1:Int))]) (fun x=>x.2.2::L)
  (fun x=>x.1≤b.length∧Ow 236 2 x.2.1 x.1 (flt TkV (lits (b.take x.1))) x.2.2) (fun x=>b.length - x.1) (0,.slice none 0 0,[]) ⟨Nat.zero_le _,.inl ⟨rfl,rfl,rfl,rfl⟩⟩ iS (fun w h=>Holds.nil.2 h) ?_
 rintro ⟨j,vl,Cl⟩ ⟨hj,ho⟩
 simp only at hj ho ⊢
 (repeat' first|refine kW ?_|refine kU fun bk=>?_|refine kV fun hc=>?_|refine kZ (fun hc=>?_) fun hc=>?_|fail)
 ·have hjl:j < b.length:=by omega
  obtain ⟨c,hc9⟩:∃c,b[j]? =some c:=⟨b[j],List.getElem?_eq_getElem hjl⟩
  obtain ⟨b1,o1,c1,cc1,T1,f1,hv9,hf1,hv1⟩:=yV ht (wW hc9)
  injection hv9 with q1 q2 q3
  subst q1 q3
  clear q2
  have hcl:=c.toNat_lt
  refine ze (zi (j:=j) rfl rfl rfl hjl) rfl ?_
  refine kW ?_
  refine ze (zq rfl (.there hf1) hv1) rfl ?_
  refine kW ?_
  refine zl (cs:=TkV (c.toNat,0)) rfl (by rfl) (by first|(simp [zA,patch,Value.cells,zeros];done)|(simp [zA,patch,Value.cells,zeros];rfl)) (by omega) rfl rfl (fun bn=>?_)
  refine kW ?_
  refine zu rfl rfl ho (zF (k:=2) (c:=(TkV (c.toNat,0)).toArray) (xs:=TkV (c.toNat,0)) (m:=1) Fnd.here rfl (by simp)) (by repeat (first|exact Zip.here _|apply Zip.there)) rfl (by rfl) (by omega) (by simp [maxLen];omega) rfl (fun vl' Cl' ho' _ _=>?_)
  rw [show flt TkV (lits (b.take j))++TkV (c.toNat,0)=flt TkV (lits (b.take (j+1))) from by rw [qd hc9,zkA,uR];simp [lits,flt]] at ho'
  refine kW ?_
  refine zf (X:=Nat × Value × Chunk) (μ:=fun x=>b.length - x.1) (x:=(j,vl,Cl)) (j+1,vl',Cl') (by simp only;omega) ⟨by simp only;omega,ho'⟩ iS (fun w h=>iH h)
 ·obtain rfl:j=b.length:=by omega
  rw [List.take_length] at ho
  refine kR ?_
  exact ⟨_,iC,Cl,by rw [zbc];exact ho,rfl⟩
structure PcR (L:List Chunk) (v vt:Value) (b:List UInt8) (ts:List (Nat × Nat)):Prop where
 x:Rs L 1 v b.length (bsv b)
 t:TkR L vt ts
 nb:b.length≤200000
 nt:ts.length≤200000
theorem PcR.sub {L L':List Chunk} (hs:∀x∈L.flatten,x∈L'.flatten) {v vt:Value} {b:List UInt8} {ts:List (Nat × Nat)} (h:PcR L v vt b ts):PcR L' v vt b ts:=⟨h.x.sub hs,h.t.sub hs,h.nb,h.nt⟩
theorem zih (v:Value) (b:List UInt8) (S L:List Chunk) (hi9:Inc S L) (hts:Rs S 1 v b.length (bsv b)) (hb:b.length≤200000) :
 Gv Tryz.prog 118 [v].toArray L (fun r L'=>∃vt C,r=.agg #[v,vt]∧PcR (C::S) v vt b (pcT b)∧L'=C::L):=by
 refine Gv.of_body (args:=[v]) Tryz.func118 rfl rfl ?_
 have ht:=hts.sub hi9.mem
 obtain ⟨va,vc,rfl,hroom⟩:=ht.room
 have hok:=zpT b
 have hmt:=fun B=>zh9 (.slice va b.length vc) 32768 b (B::L) ht.there hb (by omega)
 have hms:=zfI b 32768
 unfold pcT at *
 rw [show (min 32768 32768:Int)=32768 from rfl] at hms
 generalize msR b 32768=ms at hmt hok hms ⊢
 (refine kW ?_;refine kU fun bk=>?_;refine kW ?_)
 refine cC rfl rfl (hmt _) (fun r L' hp=>?_)
 obtain ⟨C,ho,rfl⟩:=hp
 rw [zg8] at ho
 have hml:ms.length≤9223372036854775807:=by
  rcases ho with ⟨_,h0,_⟩|⟨_,cap,_,_,_,_,_,h1,h2⟩
  ·omega
  ·unfold maxLen at h2;omega
 have hrs:=fun L=>Rs.ow (L:=L) ho
 obtain ⟨ra,rc,rfl,_⟩:=(hrs []).room
 refine kW ?_
 have hpl:(pcF b 0 ms).length≤200000:=by omega
 refine zn (X:=Nat × Nat × List (Nat × Nat) × Value × Chunk) (fun x=>[(0,.slice va b.length vc),(2,.pointer (some ⟨bk,0,none⟩)),(3,x.2.2.2.1),(4,.int .i64 (x.2.1:Int)),(8,.slice ra ms.length rc),(9,.int .i64 (ms.length:Int)),(10,.int .i64 (x.1:Int))])
  (fun x=>x.2.2.2.2::C::[(bk,cl [.slice none 0 0,.slice none 0 0] 179)]::L)
  (fun x=>x.1≤ms.length∧x.2.1≤b.length∧zcz b 32768 x.2.1 (ms.drop x.1)∧x.2.2.1++pcF b x.2.1 (ms.drop x.1)=pcF b 0 ms∧Ow 236 2 x.2.2.2.1 x.2.2.1.length (flt TkV x.2.2.1) x.2.2.2.2) (fun x=>ms.length - x.1) (0,0,[],.slice none 0 0,[])
  ⟨Nat.zero_le _,Nat.zero_le _,hms,rfl,.inl ⟨rfl,rfl,rfl,rfl⟩⟩ iS (fun w h=>Holds.nil.2 h) ?_
 rintro ⟨j,i,dn,vl,Cl⟩ ⟨hj,hi,hmo,hdn,hov⟩
 simp only at hj hi hmo hdn hov ⊢
 have hdl:dn.length≤200000:=by rw [←hdn,List.length_append] at hpl;omega
 (repeat' first|refine kW ?_|refine kU fun bk=>?_|refine kV fun hc=>?_|refine kZ (fun hc=>?_) fun hc=>?_|fail)
 ·have hjl:j < ms.length:=by omega
  obtain ⟨m,hm⟩:∃m,ms[j]? =some m:=⟨ms[j],List.getElem?_eq_getElem hjl⟩
  have hdr:ms.drop j=m::ms.drop (j+1):=by
   have hx:ms[j]=m:=by rw [List.getElem?_eq_getElem hjl] at hm;simpa using hm
   rw [List.drop_eq_getElem_cons hjl,hx]
  rw [hdr] at hmo hdn
  obtain ⟨m1,m2,m3⟩:=hmo
  have g1:=m2.n3
  have g2:=m2.nm
  have g3:=m2.fit
  have g5:=m2.dr
  obtain ⟨tb,toff,tcap,hv9,hrd⟩:=(hrs ([(bk,cl [.slice none 0 0,.slice none 0 0] 179)]::L)).elem hjl (by decide)
  injection hv9 with q1 q2 q3
  subst q1 q3
  clear q2
  rw [Yv (k:=3) (fun _=>rfl) hm] at hrd
  rw [pcF] at hdn
  obtain ⟨at9,n,d⟩:=m
  simp only at m1 m2 m3 g1 g2 g3 g5 hdn
  have hrd:zK (C::[(bk,cl [.slice none 0 0,.slice none 0 0] 179)]::L) ⟨tb,toff+j * 3,none⟩ [.int .i64 (at9:Int),.int .i64 (n:Int),.int .i64 (d:Int)]:=hrd
  refine ze (zi (j:=j) rfl rfl rfl hjl) rfl ?_
  refine kW ?_
  refine ze (zB rfl (y9 hrd) rfl) rfl ?_
  (refine kW ?_;refine kU fun bk=>?_;refine kW ?_)
  obtain ⟨r1,hr1,hev1⟩:=yR (P:=Tryz.prog) (T:=22) ht (l:=i) (h:=at9) m1 (by omega)
  refine ze (hev1 rfl rfl rfl) rfl ?_
  have hpiece:((bsv b).drop (i * 1)).take ((at9 - i) * 1)=bsv ((b.drop i).take (at9 - i)):=by simp [bsv,List.map_take,List.map_drop]
  rw [hpiece] at hr1
  have hlen1:((b.drop i).take (at9 - i)).length=at9 - i:=by rw [List.length_take,List.length_drop];omega
  have hli:=fun B1 B2 B3 B4=>zbb r1 ((b.drop i).take (at9 - i)) (B1::B2::B3::B4::L) (by rw [hlen1];exact hr1.there.there.there.there.sl) (by omega)
  generalize lits ((b.drop i).take (at9 - i))=li at hli hdn
  have hlil:li.length+dn.length≤200000:=by rw [←hdn,List.length_append,List.length_append] at hpl;omega
  refine kW ?_
  refine cC rfl rfl (hli _ _ _ _) (fun r L' hp=>?_)
  obtain ⟨C2,ho2,rfl⟩:=hp
  refine kW ?_
  refine zu rfl rfl hov (qz ho2) (by repeat (first|exact Zip.here _|apply Zip.there)) rfl (XZ zaF _) (by omega) (by simp [maxLen];omega) rfl (fun vl2 Cl2 hov2 _ _=>?_)
  rw [←uR,←List.length_append] at hov2
  refine kW ?_
  refine zl (cs:=TkV (n,d)) rfl (by rfl) (by first|(simp [zA,patch,Value.cells,zeros];done)|(simp [zA,patch,Value.cells,zeros];rfl)) (by omega) rfl rfl (fun bn=>?_)
  refine kW ?_
  refine zu rfl rfl hov2 (zF (k:=2) (c:=(TkV (n,d)).toArray) (xs:=TkV (n,d)) (m:=1) Fnd.here rfl (by simp)) (by repeat (first|exact Zip.here _|apply Zip.there)) rfl (by rfl) (by rw [List.length_append];omega) (by rw [List.length_append];simp [maxLen];omega) rfl (fun vl3 Cl3 hov3 _ _=>?_)
  rw [show flt TkV (dn++li)++TkV (n,d)=flt TkV ((dn++li)++[(n,d)]) from by rw [uR TkV (dn++li)];simp [flt],show (dn++li).length+1=((dn++li)++[(n,d)]).length from by simp [Nat.add_assoc]] at hov3
  refine kW ?_
  refine zf (X:=Nat × Nat × List (Nat × Nat) × Value × Chunk) (μ:=fun x=>ms.length - x.1) (x:=(j,i,dn,vl,Cl)) (j+1,at9+n,(dn++li)++[(n,d)],vl3,Cl3) (by simp only;omega) ⟨by simp only;omega,by simp only;omega,m3,by simp only;rw [←hdn];simp,hov3⟩ iS (fun w h=>iH h)
 ·obtain rfl:j=ms.length:=by omega
  rw [List.drop_length,pcF] at hdn
  obtain ⟨r1,hr1,hev1⟩:=yR (P:=Tryz.prog) (T:=22) ht (l:=i) (h:=b.length) hi (Nat.le_refl _)
  refine ze (hev1 rfl rfl rfl) rfl ?_
  have hpiece:((bsv b).drop (i * 1)).take ((b.length - i) * 1)=bsv (b.drop i):=by
   rw [Nat.mul_one,Nat.mul_one,List.take_of_length_le (by rw [List.length_drop,zH];exact Nat.le_refl _)]
   simp [bsv,List.map_drop]
  rw [hpiece] at hr1
  have hli:=fun B1 B2 B3=>zbb r1 (b.drop i) (B1::B2::B3::L) (by rw [List.length_drop];exact hr1.there.there.there.sl) (by rw [List.length_drop];omega)
  generalize lits (b.drop i)=li at hli hdn
  have hlil:li.length+dn.length≤200000:=by rw [←hdn,List.length_append] at hpl;omega
  refine kW ?_
  refine cC rfl rfl (hli _ _ _) (fun r L' hp=>?_)
  obtain ⟨C2,ho2,rfl⟩:=hp
  refine kW ?_
  refine zu rfl rfl hov (qz ho2) (by repeat (first|exact Zip.here _|apply Zip.there)) rfl (XZ zaF _) (by omega) (by simp [maxLen];omega) rfl (fun vl2 Cl2 hov2 _ _=>?_)
  rw [←uR,←List.length_append,hdn] at hov2
  refine kW ?_
  obtain ⟨a2,c2,rfl⟩:=zM hov2
  refine kW ?_
  have hrl:zK ([C2]++Cl2::C::[(bk,cl [.slice va b.length vc,.slice a2 (pcF b 0 ms).length c2] 179)]::L) ⟨bk,0,none⟩ [.slice va b.length vc,.slice a2 (pcF b 0 ms).length c2]:=zK.cl' (.there (.there (.there .here))) rfl
  have hfin:PcR (Cl2::S) (.slice va b.length vc) (.slice a2 (pcF b 0 ms).length c2) b (pcF b 0 ms):=⟨hts.there,⟨Rs.ow hov2,hok.1⟩,hb,hpl⟩
  first
   |(refine zX (vs:=[.agg #[.slice va b.length vc,.slice a2 (pcF b 0 ms).length c2]]) rfl (.agg ⟨by kernel_rfl,by kernel_rfl⟩ rfl hrl rfl .nil) ?_
     exact ⟨Cl2::L,fun w h=>iH h,_,Cl2,rfl,hfin,rfl⟩)
   |(refine yF (vs:=[.agg #[.slice va b.length vc,.slice a2 (pcF b 0 ms).length c2]]) rfl (.agg ⟨by kernel_rfl,by kernel_rfl⟩ rfl hrl rfl .nil) ?_
     exact ⟨Cl2::L,fun w h=>iH h,_,Cl2,rfl,hfin,rfl⟩)
end Go.Proofs.YtemdlifojcgplaaGreatDoor
namespace Go.Df
open Go.Vx Go.If Go.Hf
set_option linter.all false
def inc (l:List Nat) (i:Nat):List Nat:=l.set i (l.getD i 0+1)
theorem uS (l:List Nat) (i:Nat):(inc l i).length=l.length:=by simp [inc]
theorem wX {l:List Nat} {i:Nat} (h:i < l.length) (j:Nat):(inc l i).getD j 0=l.getD j 0+if j=i then 1 else 0:=by
 unfold inc
 by_cases hj:j=i
 ·subst hj
  rw [if_pos rfl]
  simp [List.getD,h]
 ·rw [if_neg hj]
  simp [List.getD,List.getElem?_set_ne (Ne.symm hj)]
def sS (f:Nat→Nat) (n:Nat) (cs:List Nat):Nat:=Go.Pm.sumTo (fun i=>cs.getD i 0 * f i) n
theorem Zv (f:Nat→Nat) (n:Nat) (cs:List Nat):sS f (n+1) cs=sS f n cs+cs.getD n 0 * f n:=rfl
theorem YD {f:Nat→Nat} {cs:List Nat} {i:Nat} (h:i < cs.length):∀n,sS f n (inc cs i)=sS f n cs+if i < n then f i else 0
 |0=>by simp [sS,Go.Pm.sumTo]
 |n+1=>by
  rw [Zv,Zv,YD h n,wX h]
  by_cases h1:i=n
  ·subst h1
   rw [if_neg (by omega),if_pos rfl,if_pos (by omega),Nat.add_mul,Nat.one_mul]
   omega
  ·rw [if_neg (fun hh:n=i=>h1 hh.symm),Nat.add_zero]
   by_cases h2:i < n
   ·rw [if_pos h2,if_pos (show i < n+1 by omega)];omega
   ·rw [if_neg h2,if_neg (show ¬i < n+1 by omega)];omega
theorem zlu {f:Nat→Nat} {cs:List Nat} {B F:Nat} (h1:∀i,cs.getD i 0≤B) (h2:∀i,f i≤F):∀n,sS f n cs≤n * (B * F)
 |0=>by simp [sS,Go.Pm.sumTo]
 |n+1=>by
  have:=zlu h1 h2 n
  have:=Nat.mul_le_mul (h1 n) (h2 n)
  rw [Zv,Nat.succ_mul]
  omega
theorem zat (n i:Nat):(List.replicate n 0).getD i 0=0:=by
 simp only [List.getD_eq_getElem?_getD,List.getElem?_replicate]
 split<;>rfl
theorem Y8 (f:Nat→Nat) (m:Nat):∀n,sS f n (List.replicate m 0)=0
 |0=>rfl
 |n+1=>by rw [Zv,Y8 f m n,zat];simp
def cA (ts:List (Nat × Nat)):List Nat:=ts.foldl (fun l t=>inc l (tsy t)) (List.replicate 286 0)
def cD (ts:List (Nat × Nat)):List Nat:=ts.foldl (fun l t=>if t.2=0 then l else inc l (odN t.2)) (List.replicate 30 0)
theorem zaJ (a:List (Nat × Nat)) (t:Nat × Nat):cA (a++[t])=inc (cA a) (tsy t):=by unfold cA;rw [List.foldl_append];rfl
theorem zaK (a:List (Nat × Nat)) (t:Nat × Nat):cD (a++[t])=if t.2=0 then cD a else inc (cD a) (odN t.2):=by unfold cD;rw [List.foldl_append];rfl
theorem wF {α:Type} {P:List α→Prop} (h0:P []) (h1:∀a t,P a→P (a++[t])) (l:List α):P l:=by
 have:∀n (l:List α),l.length=n→P l:=by
  intro n
  induction n with
  |zero=>intro l hl;rw [List.length_eq_zero_iff.1 hl];exact h0
  |succ n ih=>
   intro l hl
   have hne:l≠[]:=fun h=>by rw [h] at hl;cases hl
   rw [←List.dropLast_concat_getLast hne]
   exact h1 _ _ (ih _ (by rw [List.length_dropLast];omega))
 exact this _ l rfl
theorem vv (ts:List (Nat × Nat)):(cA ts).length=286:=by
 induction ts using wF with
 |h0=>exact List.length_replicate
 |h1 a t ih=>rw [zaJ,uS,ih]
theorem Zz (ts:List (Nat × Nat)):(cD ts).length=30:=by
 induction ts using wF with
 |h0=>exact List.length_replicate
 |h1 a t ih=>
  rw [zaK]
  split
  ·exact ih
  ·rw [uS,ih]
theorem zjc {ts:List (Nat × Nat)} (h:∀t∈ts,Zm t) (i:Nat):(cA ts).getD i 0≤ts.length:=by
 induction ts using wF with
 |h0=>rw [show cA []=List.replicate 286 0 from rfl,zat];exact Nat.zero_le _
 |h1 a t ih=>
  have ht:=YR (h t (by simp))
  rw [zaJ,wX (by rw [vv];exact ht.1),List.length_append,List.length_singleton]
  have:=ih (fun x hx=>h x (by simp [hx]))
  split<;>omega
theorem zjd {ts:List (Nat × Nat)} (h:∀t∈ts,Zm t) (i:Nat):(cD ts).getD i 0≤ts.length:=by
 induction ts using wF with
 |h0=>rw [show cD []=List.replicate 30 0 from rfl,zat];exact Nat.zero_le _
 |h1 a t ih=>
  have:=ih (fun x hx=>h x (by simp [hx]))
  rw [zaK,List.length_append,List.length_singleton]
  split
  ·omega
  ·rename_i h0
   have hto:=h t (by simp)
   have:odN t.2≤29:=by rcases hto with ⟨g,_⟩|⟨g1,g2,_⟩;exact absurd g h0;exact (Zj g1 g2).1
   rw [wX (by rw [Zz];omega)]
   split<;>omega
def fxA (i:Nat):Nat:=if 257≤i then (lnB i).2 else 0
theorem zmS [W0] {l dl:List Nat} {ts:List (Nat × Nat)} (h:∀t∈ts,Zm t) :
 itL (tsI l dl (ts.map tok))=sS (fun i=>l.getD i 0) 286 (cA ts)+sS (fun i=>dl.getD i 0) 30 (cD ts)+(sS fxA 286 (cA ts)+sS (fun i=>exB i 2 4) 30 (cD ts)):=by
 induction ts using wF with
 |h0=>
  rw [show cA []=List.replicate 286 0 from rfl,show cD []=List.replicate 30 0 from rfl,Y8,Y8,Y8,Y8]
  rfl
 |h1 a t ih=>
  have hto:=h t (by simp)
  have hty:=YR hto
  rw [List.map_append,zav,zw,ih (fun x hx=>h x (by simp [hx])),zaJ,YD (by rw [vv];exact hty.1),YD (by rw [vv];exact hty.1),if_pos hty.1,if_pos hty.1,zaK]
  simp only [List.map_cons,List.map_nil,tsI,List.append_nil]
  by_cases h0:t.2=0
  ·rw [if_pos h0,zhA hto h0]
   have:fxA (tsy t)=0:=by
    unfold fxA tsy
    rw [if_pos h0,if_neg]
    rcases hto with ⟨_,g⟩|⟨g,_⟩<;>omega
   rw [this]
   simp only [itL,sc]
   omega
  ·have hod:odN t.2≤29:=by rcases hto with ⟨g,_⟩|⟨g1,g2,_⟩;exact absurd g h0;exact (Zj g1 g2).1
   rw [if_neg h0,zlZ h0,YD (by rw [Zz];omega),YD (by rw [Zz];omega),if_pos (by omega),if_pos (by omega)]
   have:fxA (tsy t)=(lnB (tsy t)).2:=by unfold fxA;rw [if_pos (hty.2.1 h0)]
   rw [this]
   simp only [itL,zw,sc]
   omega
end Go.Df
namespace Go.Vx
open Go
set_option linter.all false
variable [W0]
theorem Xn {P:Program} {n:Nat} {ops:List Oper} {Q:Exit→Act→World→Prop} {S:List Chunk} {T:List Nat} {fuel:Nat} {listed:Array Bool} {M:List (Nat × Value)} {L:List Chunk} (js:List Nat) (hr:Region.ready .any ops.toArray listed=js) (hne:js≠[])
 (h:∀j,j∈js→∃o,ops[j]? =some o∧o.guard=none∧OW P n o (WRk P n ops Q S T fuel (listed.setIfInBounds j true)) M L):WR P n ops Q S T (fuel+1) listed M L:=⟨fun a w ha hw=>by
 refine ⟨fun h0=>absurd (hr▸h0) hne,fun j hj=>?_⟩
 rw [hr] at hj
 obtain ⟨o,hi,hg,ho⟩:=h j hj
 unfold wpOp
 simp only [List.getElem?_toArray,hi]
 rw [if_pos (by simp [Region.wanted,hg])]
 exact .inl (ho.out a w _ Q ha hw fun M' L' hk=>⟨fun a' w' ha' hw'=>⟨fun _=>hk.inc.holds hw',hk.out.out a' w' ha' hw'⟩⟩)⟩
end Go.Vx
namespace Go.Proofs.YtemdlifojcgplaaGreatDoor
open Go Go.Vx Go.Hf Go.If Go.Df
variable [W0]
set_option maxRecDepth 4000
set_option linter.all false
theorem zaO (v:Value) (ls:List Nat) (L:List Chunk) (h:Rs L 1 v ls.length (ivn ls)) (hk:Cok ls) (hn:ls.length≤400) :
 Gv Tryz.prog 158 [v].toArray L (fun r L'=>∃u C,r=.agg #[v,u]∧Rs [C] 1 u ls.length (wnv (cds ls))∧L'=C::L):=by
 refine Gv.of_body (args:=[v]) Tryz.func158 rfl rfl ?_
 obtain ⟨va,vc,rfl,hroom⟩:=h.room
 have hc:=fun B=>zj7 va vc (icn ls) (B::L) (by rw [zL,vW];exact zm h.sl) (by rw [zL];omega)
 have he:=Yq (ls:=icn ls) (by rw [zL];exact hn) (zdi hk.le) (by rw [Zi];exact hk.k)
 rw [Zi] at he
 rw [zL,he.1,he.2] at hc
 (refine kW ?_;refine kU fun bk=>?_;refine kW ?_)
 refine cC rfl rfl (hc _) (fun r L' hp=>?_)
 obtain ⟨u,C,rfl,rfl,ho⟩:=hp
 obtain ⟨ua,uc,rfl⟩:=zM ho
 rw [show (cds ls).length=ls.length from by simp [cds]] at ho ⊢
 refine kW ?_
 have hrl:zK (C::[(bk,cl [.slice va ls.length vc,.slice ua ls.length uc] 182)]::L) ⟨bk,0,none⟩ [.slice va ls.length vc,.slice ua ls.length uc]:=zK.cl' (.there .here) rfl
 have hfin:Rs [C] 1 (.slice ua ls.length uc) ls.length (wnv (cds ls)):=Rs.ow ho
 first
  |(refine zX (vs:=[.agg #[.slice va ls.length vc,.slice ua ls.length uc]]) rfl (.agg ⟨by kernel_rfl,by kernel_rfl⟩ rfl hrl rfl .nil) ?_
    exact ⟨C::L,fun w h=>iH h,_,C,rfl,hfin,rfl⟩)
  |(refine yF (vs:=[.agg #[.slice va ls.length vc,.slice ua ls.length uc]]) rfl (.agg ⟨by kernel_rfl,by kernel_rfl⟩ rfl hrl rfl .nil) ?_
    exact ⟨C::L,fun w h=>iH h,_,C,rfl,hfin,rfl⟩)
theorem zaQ (vt:Value) (ts:List (Nat × Nat)) (L:List Chunk) (h:TkR L vt ts) (hn:ts.length≤200000) :
 Gv Tryz.prog 159 [vt].toArray L (fun r L'=>∃v1 v2 C,r=.agg #[v1,v2]∧Rs [C] 1 v1 286 (ivn (inc (cA ts) 256))∧Rs [C] 1 v2 30 (ivn (cD ts))∧L'=C::L):=by
 refine Gv.of_body (args:=[vt]) Tryz.func159 rfl rfl ?_
 obtain ⟨ta,tc,rfl,hroom⟩:=h.rs.room
 refine vg ?_
 (repeat' first|refine kY ?_|refine kU fun bk=>?_|refine kV fun hc=>?_|refine kZ (fun hc=>?_) fun hc=>?_|fail)
 refine Zy (X:=Nat × Nat × Nat) (fun z=>[(0,.slice ta ts.length tc),(2,.pointer (some ⟨bk,0,none⟩)),(3,.pointer (some ⟨z.2.2,0,none⟩))])
  (fun z=>[(z.2.2,cl [.slice (some ⟨z.1,0,none⟩) 286 286,.slice (some ⟨z.2.1,0,none⟩) 30 30] 240)]::[(z.1,cl (ivn (cA [])) 3)]::[(z.2.1,cl (ivn (cD [])) 3)]::[(bk,cl [.slice none 0 0,.slice none 0 0] 240)]::L) (fun _=>True) ?_ (fun z _=>?_)
 ·refine zk [4] mixed ?_
  refine Xn (js:=[0,1,3]) (by kernel_rfl) (by simp) (fun j hj=>?_)
  simp only [List.mem_cons,List.not_mem_nil,or_false] at hj
  rcases hj with rfl|rfl|rfl
  ·refine ⟨_,rfl,rfl,?_⟩
   refine zJ (m:=286) (c:=286) rfl rfl (by rfl) (by omega) (by omega) (by omega) rfl (fun q0=>?_)
   rw [yN]
   refine ⟨iC,?_⟩
   refine Xn (js:=[1,3]) (by kernel_rfl) (by simp) (fun j hj=>?_)
   simp only [List.mem_cons,List.not_mem_nil,or_false] at hj
   rcases hj with rfl|rfl
   ·refine ⟨_,rfl,rfl,?_⟩
    refine zJ (m:=30) (c:=30) rfl rfl (by rfl) (by omega) (by omega) (by omega) rfl (fun q1=>?_)
    rw [yN]
    refine ⟨iC,?_⟩
    (refine za 2 ?_)
    refine cI 3 rfl rfl ?_
    refine wQ rfl (fun q3=>?_)
    refine ⟨iC,?_⟩
    refine cL 4 rfl rfl rfl ?_
    refine zo (l:=[.slice none 0 0,.slice none 0 0]) [.slice (some ⟨q0,0,none⟩) 286 286,.slice (some ⟨q1,0,none⟩) 30 30] rfl rfl rfl rfl rfl iU (by simp) ?_
    refine cD ?_
    refine kW ?_
    refine yA (q0,q1,q3) trivial iS (fun w h=>iH h)
   ·refine ⟨_,rfl,rfl,?_⟩
    refine wQ rfl (fun q3=>?_)
    refine ⟨iC,?_⟩
    refine cI 1 rfl rfl ?_
    refine zJ (m:=30) (c:=30) rfl rfl (by rfl) (by omega) (by omega) (by omega) rfl (fun q1=>?_)
    rw [yN]
    refine ⟨iC,?_⟩
    (refine za 2 ?_)
    refine cL 4 rfl rfl rfl ?_
    refine zo (l:=[.slice none 0 0,.slice none 0 0]) [.slice (some ⟨q0,0,none⟩) 286 286,.slice (some ⟨q1,0,none⟩) 30 30] rfl rfl rfl rfl rfl iU (by simp) ?_
    refine cD ?_
    refine kW ?_
    refine yA (q0,q1,q3) trivial iS (fun w h=>iH h)
  ·refine ⟨_,rfl,rfl,?_⟩
   refine zJ (m:=30) (c:=30) rfl rfl (by rfl) (by omega) (by omega) (by omega) rfl (fun q1=>?_)
   rw [yN]
   refine ⟨iC,?_⟩
   refine Xn (js:=[0,3]) (by kernel_rfl) (by simp) (fun j hj=>?_)
   simp only [List.mem_cons,List.not_mem_nil,or_false] at hj
   rcases hj with rfl|rfl
   ·refine ⟨_,rfl,rfl,?_⟩
    refine zJ (m:=286) (c:=286) rfl rfl (by rfl) (by omega) (by omega) (by omega) rfl (fun q0=>?_)
    rw [yN]
    refine ⟨iC,?_⟩
    (refine za 2 ?_)
    refine cI 3 rfl rfl ?_
    refine wQ rfl (fun q3=>?_)
    refine ⟨iC,?_⟩
    refine cL 4 rfl rfl rfl ?_
    refine zo (l:=[.slice none 0 0,.slice none 0 0]) [.slice (some ⟨q0,0,none⟩) 286 286,.slice (some ⟨q1,0,none⟩) 30 30] rfl rfl rfl rfl rfl iU (by simp) ?_
    refine cD ?_
    refine kW ?_
    refine yA (q0,q1,q3) trivial iS (fun w h=>iH h)
   ·refine ⟨_,rfl,rfl,?_⟩
    refine wQ rfl (fun q3=>?_)
    refine ⟨iC,?_⟩
    refine cI 0 rfl rfl ?_
    refine zJ (m:=286) (c:=286) rfl rfl (by rfl) (by omega) (by omega) (by omega) rfl (fun q0=>?_)
    rw [yN]
    refine ⟨iC,?_⟩
    (refine za 2 ?_)
    refine cL 4 rfl rfl rfl ?_
    refine zo (l:=[.slice none 0 0,.slice none 0 0]) [.slice (some ⟨q0,0,none⟩) 286 286,.slice (some ⟨q1,0,none⟩) 30 30] rfl rfl rfl rfl rfl iU (by simp) ?_
    refine cD ?_
    refine kW ?_
    refine yA (q0,q1,q3) trivial iS (fun w h=>iH h)
  ·refine ⟨_,rfl,rfl,?_⟩
   refine wQ rfl (fun q3=>?_)
   refine ⟨iC,?_⟩
   refine Xn (js:=[0,1]) (by kernel_rfl) (by simp) (fun j hj=>?_)
   simp only [List.mem_cons,List.not_mem_nil,or_false] at hj
   rcases hj with rfl|rfl
   ·refine ⟨_,rfl,rfl,?_⟩
    refine zJ (m:=286) (c:=286) rfl rfl (by rfl) (by omega) (by omega) (by omega) rfl (fun q0=>?_)
    rw [yN]
    refine ⟨iC,?_⟩
    refine cI 1 rfl rfl ?_
    refine zJ (m:=30) (c:=30) rfl rfl (by rfl) (by omega) (by omega) (by omega) rfl (fun q1=>?_)
    rw [yN]
    refine ⟨iC,?_⟩
    (refine za 2 ?_)
    refine cL 4 rfl rfl rfl ?_
    refine zo (l:=[.slice none 0 0,.slice none 0 0]) [.slice (some ⟨q0,0,none⟩) 286 286,.slice (some ⟨q1,0,none⟩) 30 30] rfl rfl rfl rfl rfl iU (by simp) ?_
    refine cD ?_
    refine kW ?_
    refine yA (q0,q1,q3) trivial iS (fun w h=>iH h)
   ·refine ⟨_,rfl,rfl,?_⟩
    refine zJ (m:=30) (c:=30) rfl rfl (by rfl) (by omega) (by omega) (by omega) rfl (fun q1=>?_)
    rw [yN]
    refine ⟨iC,?_⟩
    refine cI 0 rfl rfl ?_
    refine zJ (m:=286) (c:=286) rfl rfl (by rfl) (by omega) (by omega) (by omega) rfl (fun q0=>?_)
    rw [yN]
    refine ⟨iC,?_⟩
    (refine za 2 ?_)
    refine cL 4 rfl rfl rfl ?_
    refine zo (l:=[.slice none 0 0,.slice none 0 0]) [.slice (some ⟨q0,0,none⟩) 286 286,.slice (some ⟨q1,0,none⟩) 30 30] rfl rfl rfl rfl rfl iU (by simp) ?_
    refine cD ?_
    refine kW ?_
    refine yA (q0,q1,q3) trivial iS (fun w h=>iH h)
 ·obtain ⟨b1,b2,b3⟩:=z
  simp only
  refine kW ?_
  refine zn (X:=Nat) (fun x=>[(2,.pointer (some ⟨bk,0,none⟩)),(3,.pointer (some ⟨b3,0,none⟩)),(9,.slice ta ts.length tc),(10,.int .i64 (ts.length:Int)),(11,.int .i64 (x:Int))])
   (fun x=>[(b3,cl [.slice (some ⟨b1,0,none⟩) 286 286,.slice (some ⟨b2,0,none⟩) 30 30] 240)]::[(b1,cl (ivn (cA (ts.take x))) 3)]::[(b2,cl (ivn (cD (ts.take x))) 3)]::[(bk,cl [.slice none 0 0,.slice none 0 0] 240)]::L)
   (fun x=>x≤ts.length) (fun x=>ts.length - x) 0 (Nat.zero_le _) iS (fun w h=>h) ?_
  intro j hj9
  have hj:j≤ts.length:=hj9
  have hla:=vv (ts.take j)
  have hld:=Zz (ts.take j)
  have hga:=fun i=>zjc (ts:=ts.take j) (fun t ht=>h.ok t (List.mem_of_mem_take ht)) i
  have hgd:=fun i=>zjd (ts:=ts.take j) (fun t ht=>h.ok t (List.mem_of_mem_take ht)) i
  rw [List.length_take,Nat.min_eq_left hj] at hga hgd
  (repeat' first|refine kW ?_|refine kU fun bk=>?_|refine kV fun hc=>?_|refine kZ (fun hc=>?_) fun hc=>?_|fail)
  ·have hjl:j < ts.length:=by omega
   obtain ⟨t,ht⟩:∃t,ts[j]? =some t:=⟨ts[j],List.getElem?_eq_getElem hjl⟩
   have hto:=h.ok t (List.mem_of_getElem? ht)
   have hsy:=YR hto
   have hsA:=zaJ (ts.take j) t
   have hsD:=zaK (ts.take j) t
   rw [←qd ht] at hsA hsD
   obtain ⟨tb,toff,tcap,hv9,hrd⟩:=h.rs.elem hjl (by decide)
   injection hv9 with q1 q2 q3
   subst q1 q3
   clear q2
   rw [Yv uj ht] at hrd
   refine ze (zi (j:=j) rfl rfl rfl hjl) rfl ?_
   refine kW ?_
   refine ze (zB rfl (y9 (y9 (y9 (y9 hrd)))) rfl) rfl ?_
   unfold TkV
   (refine kW ?_;refine kU fun bk=>?_;refine kW ?_)
   rename_i bk9
   have hsym:=fun L=>zl2 t L hto
   unfold TkV at hsym
   have h1:=hga (tsy t)
   obtain ⟨n1,hn1⟩:∃n1,n1=(cA (ts.take j)).getD (tsy t) 0:=⟨_,rfl⟩
   have hget1:(ivn (cA (ts.take j)))[tsy t]? =some (.int .i64 (n1:Int)):=yC (by rw [hn1];simp [List.getD,show tsy t < (cA (ts.take j)).length by omega])
   have hset1:(ivn (cA (ts.take j))).set (tsy t * 1) (.int .i64 ((n1+1:Nat):Int))=ivn (cA (ts.take (j+1))):=by
    rw [hsA];unfold inc;rw [←hn1];simp [ivn,List.map_set]
   rw [←hn1] at h1
   refine yO [[(b3,cl [.slice (some ⟨b1,0,none⟩) 286 286,.slice (some ⟨b2,0,none⟩) 30 30] 240)],[(bk,cl (patch (Value.agg #[.int .i64 0,.int .i64 0]).cells.toList 0 [.int .i64 (t.1:Int),.int .i64 (t.2:Int)]) 236)],[(b1,cl (ivn (cA (ts.take j))) 3)]] [8] mixed ?_
   (refine za 0 ?_;refine za 1 ?_;refine za 2 ?_)
   refine cI 3 rfl rfl ?_
   refine cP rfl rfl (hsym _) ?_
   refine ⟨iC,?_⟩
   refine cT 4 rfl rfl (zh (j:=tsy t) (len:=286) rfl rfl rfl hsy.1) ?_
   refine cT 5 rfl rfl (zy rfl (.there (.there .here)) (by rw [yu,Nat.mul_one];exact hget1)) ?_
   (refine za 6 ?_)
   refine cT 7 rfl rfl (zh (j:=tsy t) (len:=286) rfl rfl rfl hsy.1) ?_
   refine cL 8 rfl rfl rfl ?_
   rw [show (n1:Int)+1=((n1+1:Nat):Int) from by omega]
   refine zG (ivn (cA (ts.take (j+1)))) rfl rfl rfl hset1 iU (by rw [zC];omega) ?_
   refine cD ?_
   (repeat' first|refine kW ?_|refine kU fun bk=>?_|refine kV fun hc=>?_|refine kZ (fun hc=>?_) fun hc=>?_|fail)
   ·have h0:t.2≠0:=by omega
    rw [if_neg h0] at hsD
    have hmt:1≤t.2∧t.2≤32768:=by rcases hto with ⟨g,_⟩|⟨g1,g2,_⟩;exact absurd g h0;exact ⟨g1,g2⟩
    have hod:=(Zj hmt.1 hmt.2).1
    have hodn:=fun L=>zhc t.2 L hmt.1 hmt.2
    have h2:=hgd (odN t.2)
    obtain ⟨n2,hn2⟩:∃n2,n2=(cD (ts.take j)).getD (odN t.2) 0:=⟨_,rfl⟩
    have hget2:(ivn (cD (ts.take j)))[odN t.2]? =some (.int .i64 (n2:Int)):=yC (by rw [hn2];simp [List.getD,show odN t.2 < (cD (ts.take j)).length by omega])
    have hset2:(ivn (cD (ts.take j))).set (odN t.2 * 1) (.int .i64 ((n2+1:Nat):Int))=ivn (cD (ts.take (j+1))):=by
     rw [hsD];unfold inc;rw [←hn2];simp [ivn,List.map_set]
    rw [←hn2] at h2
    refine yO [[(b3,cl [.slice (some ⟨b1,0,none⟩) 286 286,.slice (some ⟨b2,0,none⟩) 30 30] 240)],[(bk,cl (patch (Value.agg #[.int .i64 0,.int .i64 0]).cells.toList 0 [.int .i64 (t.1:Int),.int .i64 (t.2:Int)]) 236)],[(b2,cl (ivn (cD (ts.take j))) 3)]] [9] mixed ?_
    (refine za 0 ?_;refine za 1 ?_;refine za 2 ?_;refine za 3 ?_)
    refine cI 4 rfl rfl ?_
    refine cP rfl rfl (hodn _) ?_
    refine ⟨iC,?_⟩
    refine cT 5 rfl rfl (zh (j:=odN t.2) (len:=30) rfl rfl rfl (by omega)) ?_
    refine cT 6 rfl rfl (zy rfl (.there (.there .here)) (by rw [yu,Nat.mul_one];exact hget2)) ?_
    (refine za 7 ?_)
    refine cT 8 rfl rfl (zh (j:=odN t.2) (len:=30) rfl rfl rfl (by omega)) ?_
    refine cL 9 rfl rfl rfl ?_
    rw [show (n2:Int)+1=((n2+1:Nat):Int) from by omega]
    refine zG (ivn (cD (ts.take (j+1)))) rfl rfl rfl hset2 iU (by rw [zC];omega) ?_
    refine cD ?_
    refine kW ?_
    refine zf (X:=Nat) (μ:=fun x=>ts.length - x) (x:=j) (j+1) (by show ts.length - (j+1) < ts.length - j;omega) (by show j+1≤ts.length;omega) iS (fun w h=>iH h)
   ·have h0:t.2=0:=by omega
    rw [if_pos h0] at hsD
    rw [←hsD]
    refine zf (X:=Nat) (μ:=fun x=>ts.length - x) (x:=j) (j+1) (by show ts.length - (j+1) < ts.length - j;omega) (by show j+1≤ts.length;omega) iS (fun w h=>iH h)
  ·obtain rfl:j=ts.length:=by omega
   rw [List.take_length] at hla hld hga ⊢
   have h1:=hga 256
   obtain ⟨n1,hn1⟩:∃n1,n1=(cA ts).getD 256 0:=⟨_,rfl⟩
   have hget1:(ivn (cA ts))[256]? =some (.int .i64 (n1:Int)):=yC (by rw [hn1];simp [List.getD,show 256 < (cA ts).length by omega])
   have hset1:(ivn (cA ts)).set (256 * 1) (.int .i64 ((n1+1:Nat):Int))=ivn (inc (cA ts) 256):=by
    unfold inc;rw [←hn1];simp [ivn,List.map_set]
   rw [←hn1] at h1
   refine ze (zh (j:=256) (len:=286) rfl rfl rfl (by decide)) rfl ?_
   refine kW ?_
   refine ze (zy rfl (.there .here) (by rw [yu,Nat.mul_one];exact hget1)) rfl ?_
   refine kW ?_
   refine ze (zh (j:=256) (len:=286) rfl rfl rfl (by decide)) rfl ?_
   refine kW ?_
   rw [show (n1:Int)+1=((n1+1:Nat):Int) from by omega]
   refine zG (ivn (inc (cA ts) 256)) rfl rfl rfl hset1 iU (by rw [zC];omega) ?_
   refine kW ?_
   have hrl:zK ([(b3,cl [.slice (some ⟨b1,0,none⟩) 286 286,.slice (some ⟨b2,0,none⟩) 30 30] 240)]::[(b1,cl (ivn (inc (cA ts) 256)) 3)]::[(b2,cl (ivn (cD ts)) 3)]::[(bk,cl [.slice (some ⟨b1,0,none⟩) 286 286,.slice (some ⟨b2,0,none⟩) 30 30] 240)]::L) ⟨bk,0,none⟩ [.slice (some ⟨b1,0,none⟩) 286 286,.slice (some ⟨b2,0,none⟩) 30 30]:=zK.cl' (.there (.there (.there .here))) rfl
   have hf1:Rs (([(b1,cl (ivn (inc (cA ts) 256)) 3)]++[(b2,cl (ivn (cD ts)) 3)])::[]) 1 (.slice (some ⟨b1,0,none⟩) 286 286) 286 (ivn (inc (cA ts) 256)):=⟨zF (c:=(ivn (inc (cA ts) 256)).toArray) (.mem (List.mem_append_left _ (List.mem_singleton.2 rfl))) (by rw [zC,uS,hla]) (by simp),_,_,rfl,Nat.le_refl _⟩
   have hf2:Rs (([(b1,cl (ivn (inc (cA ts) 256)) 3)]++[(b2,cl (ivn (cD ts)) 3)])::[]) 1 (.slice (some ⟨b2,0,none⟩) 30 30) 30 (ivn (cD ts)):=⟨zF (c:=(ivn (cD ts)).toArray) (.mem (List.mem_append_right _ (List.mem_singleton.2 rfl))) (by rw [zC,hld]) (by simp),_,_,rfl,Nat.le_refl _⟩
   first
    |(refine zX (vs:=[.agg #[.slice (some ⟨b1,0,none⟩) 286 286,.slice (some ⟨b2,0,none⟩) 30 30]]) rfl (.agg ⟨by kernel_rfl,by kernel_rfl⟩ rfl hrl rfl .nil) ?_
      exact ⟨_,fun w h=>two.2 (iH h),_,_,_,rfl,hf1,hf2,rfl⟩)
    |(refine yF (vs:=[.agg #[.slice (some ⟨b1,0,none⟩) 286 286,.slice (some ⟨b2,0,none⟩) 30 30]]) rfl (.agg ⟨by kernel_rfl,by kernel_rfl⟩ rfl hrl rfl .nil) ?_
      exact ⟨_,fun w h=>two.2 (iH h),_,_,_,rfl,hf1,hf2,rfl⟩)
end Go.Proofs.YtemdlifojcgplaaGreatDoor
namespace Go.Df
open Go.Vx Go.If Go.Hf
set_option linter.all false
theorem zdx {f:Nat→Nat} (cs:List Nat):∀n,(∀i,i < n→f i=0)→sS f n cs=0
 |0,_=>rfl
 |n+1,h=>by rw [Zv,zdx cs n (fun i hi=>h i (by omega)),h n (by omega)];simp
theorem zf3 {f:Nat→Nat} {cs:List Nat} {B F:Nat} (h1:∀i,cs.getD i 0≤B):∀n,(∀i,i < n→f i≤F)→sS f n cs≤n * (B * F)
 |0,_=>by simp [sS,Go.Pm.sumTo]
 |n+1,h2=>by
  have:=zf3 h1 n (fun i hi=>h2 i (by omega))
  have:=Nat.mul_le_mul (h1 n) (h2 n (by omega))
  rw [Zv,Nat.succ_mul]
  omega
theorem zpq (i:Nat) (h:i < 286):fxA i≤5:=by
 unfold fxA
 split
 ·exact (zce i h (by assumption)).2
 ·omega
end Go.Df
namespace Go.Proofs.YtemdlifojcgplaaGreatDoor
open Go Go.Vx Go.Hf Go.If Go.Df
variable [W0]
set_option maxRecDepth 4000
set_option linter.all false
theorem zcQ (v1 v2 v3:Value) (ls cs:List Nat) (L:List Chunk) (h:Rs L 1 v1 ls.length (ivn ls)) (hc:Rs L 1 v3 cs.length (ivn cs)) (hn:cs.length≤1000) (hcB:∀i,cs.getD i 0≤2147483648) (hsB:∀i,ls.getD i 0≤1048576) :
 GvP Tryz.prog 203 [.agg #[v1,v2],v3].toArray L (.int .i64 ((sS (fun i=>ls.getD i 0) (min cs.length ls.length) cs:Nat):Int)):=by
 refine Gv.of_body (args:=[.agg #[v1,v2],v3]) Tryz.func203 rfl rfl ?_
 obtain ⟨a1,c1,rfl,_⟩:=h.room
 obtain ⟨a3,c3,rfl,_⟩:=hc.room
 have hco:=fun B=>zng a3 a1 c3 c1 cs ls (B::L) (by rw [vW];exact zm hc.sl) (by rw [vW];exact zm h.sl) hn hcB hsB
 rw [show QL cs ls (min cs.length ls.length)=sS (fun i=>ls.getD i 0) (min cs.length ls.length) cs from rfl] at hco
 (refine kW ?_;refine kU fun bk=>?_;refine kW ?_)
 refine cP rfl rfl (hco _) ?_
 refine kW ?_
 refine kR ?_
 exact ⟨_,iC,rfl,rfl⟩
theorem zna (v1 v2:Value) (ca cd:List Nat) (L:List Chunk) (h1:Rs L 1 v1 286 (ivn ca)) (h2:Rs L 1 v2 30 (ivn cd)) (hb1:∀i,ca.getD i 0≤1000000) (hb2:∀i,cd.getD i 0≤1000000) :
 GvP Tryz.prog 204 [.agg #[v1,v2]].toArray L (.int .i64 ((sS fxA 286 ca+sS (fun i=>exB i 2 4) 30 cd:Nat):Int)):=by
 refine Gv.of_body (args:=[.agg #[v1,v2]]) Tryz.func204 rfl rfl ?_
 obtain ⟨a1,c1,rfl,_⟩:=h1.room
 obtain ⟨a2,c2,rfl,_⟩:=h2.room
 have hl1:ca.length=286:=by have:=h1.len;rw [zC] at this;omega
 have hl2:cd.length=30:=by have:=h2.len;rw [zC] at this;omega
 (refine kW ?_;refine kU fun bk=>?_;refine kW ?_)
 refine zn (X:=Nat) (fun x=>[(1,.pointer (some ⟨bk,0,none⟩)),(3,.int .i64 ((sS fxA x ca:Nat):Int)),(4,.int .i64 (x:Int))]) (fun x=>[(bk,cl [.slice a1 286 c1,.slice a2 30 c2] 240)]::L)
  (fun x=>257≤x∧x≤286∧sS fxA x ca≤x * 5000000) (fun x=>286 - x) 257 ⟨Nat.le_refl _,by decide,by rw [zdx ca 257 (fun i hi=>by unfold fxA;rw [if_neg (by omega)])];omega⟩ (by
    rw [zdx ca 257 (fun i hi=>by unfold fxA;rw [if_neg (by omega)])]
    exact iS) (fun w h=>h) ?_
 intro x hx9
 have hx:257≤x∧x≤286∧sS fxA x ca≤x * 5000000:=hx9
 have hfx:fxA x=(lnB x).2:=by unfold fxA;rw [if_pos hx.1]
 have hss:=Zv fxA x ca
 have hcx:=hb1 x
 rw [hfx] at hss
 obtain ⟨s,hs9⟩:∃s,s=sS fxA x ca:=⟨_,rfl⟩
 rw [←hs9] at hx hss ⊢
 (repeat' first|refine kW ?_|refine kU fun bk=>?_|refine kV fun hc=>?_|refine kZ (fun hc=>?_) fun hc=>?_|fail)
 ·have hxl:x < 286:=by omega
  have hlb:=zce x hxl hx.1
  have hsl:=fun L=>QA x L hx.1 (by omega)
  have hget:(ivn ca)[x]? =some (.int .i64 ((ca.getD x 0:Nat):Int)):=yC (by simp [List.getD,show x < ca.length by omega])
  obtain ⟨tb,toff,tcap,tcc,T1,f1,hv9,hf1,hv1⟩:=yV h1.sl hget
  injection hv9 with q1 q2 q3
  subst q1 q3
  clear q2
  generalize ca.getD x 0=n at hss hcx hv1
  generalize lnB x=lb at hlb hsl hss
  refine cP rfl rfl (hsl _) ?_
  refine kW ?_
  refine ze (zi (j:=x) rfl rfl rfl hxl) rfl ?_
  refine kW ?_
  refine ze (zq rfl (.there hf1) hv1) rfl ?_
  refine kW ?_
  have hml:n * lb.2≤1000000 * 5:=Nat.mul_le_mul hcx hlb.2
  refine ze (qU (r:=((n * lb.2:Nat):Int)) rfl rfl (by simp [zdQ]) (by omega)) rfl ?_
  generalize n * lb.2=z at hml hss
  refine kW ?_
  rw [show (s:Int)+(z:Int)=((sS fxA (x+1) ca:Nat):Int) from by omega]
  refine zf (X:=Nat) (μ:=fun x=>286 - x) (x:=x) (x+1) (by show 286 - (x+1) < 286 - x;omega) (by show 257≤x+1∧x+1≤286∧sS fxA (x+1) ca≤(x+1) * 5000000;omega) iS (fun w h=>h)
 obtain rfl:x=286:=by omega
 rw [←hs9]
 clear hss hcx hfx
 refine zn (X:=Nat) (fun x=>[(1,.pointer (some ⟨bk,0,none⟩)),(3,.int .i64 ((s+sS (fun i=>exB i 2 4) x cd:Nat):Int)),(30,.slice a2 30 c2),(31,.int .i64 30),(32,.int .i64 (x:Int))]) (fun x=>[(bk,cl [.slice a1 286 c1,.slice a2 30 c2] 240)]::L)
  (fun x=>x≤30∧sS (fun i=>exB i 2 4) x cd≤x * 13000000) (fun x=>30 - x) 0 ⟨by decide,by simp [sS,Go.Pm.sumTo]⟩ (by
    rw [show sS (fun i=>exB i 2 4) 0 cd=0 from rfl,Nat.add_zero]
    exact iS) (fun w h=>h) ?_
 intro y hy9
 have hy:y≤30∧sS (fun i=>exB i 2 4) y cd≤y * 13000000:=hy9
 have hss:=Zv (fun i=>exB i 2 4) y cd
 have hcx:=hb2 y
 obtain ⟨u,hu9⟩:∃u,u=sS (fun i=>exB i 2 4) y cd:=⟨_,rfl⟩
 rw [←hu9] at hy hss ⊢
 (repeat' first|refine kW ?_|refine kU fun bk=>?_|refine kV fun hc=>?_|refine kZ (fun hc=>?_) fun hc=>?_|fail)
 ·have hyl:y < 30:=by omega
  have hlb:=zb4 y hyl
  have hsl:=fun L=>YE y L hyl
  have hget:(ivn cd)[y]? =some (.int .i64 ((cd.getD y 0:Nat):Int)):=yC (by simp [List.getD,show y < cd.length by omega])
  obtain ⟨tb,toff,tcap,tcc,T1,f1,hv9,hf1,hv1⟩:=yV h2.sl hget
  injection hv9 with q1 q2 q3
  subst q1 q3
  clear q2
  generalize cd.getD y 0=n at hss hcx hv1
  generalize exB y 2 4=e at hlb hsl hss
  refine ze (zi (j:=y) rfl rfl rfl hyl) rfl ?_
  refine kW ?_
  refine ze (zq rfl (.there hf1) hv1) rfl ?_
  refine kW ?_
  refine cP rfl rfl (hsl _) ?_
  refine kW ?_
  have hml:n * e≤1000000 * 13:=Nat.mul_le_mul hcx hlb.2
  refine ze (qU (r:=((n * e:Nat):Int)) rfl rfl (by simp [zdQ]) (by omega)) rfl ?_
  generalize n * e=z at hml hss
  refine kW ?_
  rw [show ((s+u:Nat):Int)+(z:Int)=((s+sS (fun i=>exB i 2 4) (y+1) cd:Nat):Int) from by omega]
  refine zf (X:=Nat) (μ:=fun x=>30 - x) (x:=y) (y+1) (by show 30 - (y+1) < 30 - y;omega) (by show y+1≤30∧sS (fun i=>exB i 2 4) (y+1) cd≤(y+1) * 13000000;omega) iS (fun w h=>h)
 ·obtain rfl:y=30:=by omega
  rw [←hu9]
  refine kR ?_
  exact ⟨_,iC,rfl,rfl⟩
end Go.Proofs.YtemdlifojcgplaaGreatDoor
namespace Go.Df
open Go.Vx Go.If Go.Hf
set_option linter.all false
theorem zmR [W0] {l dl:List Nat} {ts:List (Nat × Nat)} (h:∀t∈ts,Zm t) :
 itL (tsI l dl (ts.map tok)++[sc l 256])=sS (fun i=>l.getD i 0) 286 (inc (cA ts) 256)+sS (fun i=>dl.getD i 0) 30 (cD ts)+(sS fxA 286 (inc (cA ts) 256)+sS (fun i=>exB i 2 4) 30 (cD ts)):=by
 have h1:256 < (cA ts).length:=by rw [vv];decide
 rw [zw,zmS h,YD h1,YD h1,if_pos (by decide),if_pos (by decide),show fxA 256=0 from rfl]
 simp only [itL,sc]
 omega
end Go.Df
namespace Go.Proofs.YtemdlifojcgplaaGreatDoor
open Go Go.Vx Go.Hf Go.If Go.Df
variable [W0]
set_option maxRecDepth 4000
set_option linter.all false
theorem ZB (v1 v2 v3 v4 vt c1 c2:Value) (l dl:List Nat) (ts:List (Nat × Nat)) (L:List Chunk) (ha:CdR L v1 v2 l) (hb:CdR L v3 v4 dl) (ht:TkR L vt ts) (hn:ts.length≤200000) (hl:286≤l.length) (hd:30≤dl.length)
 (h1:Rs L 1 c1 286 (ivn (inc (cA ts) 256))) (h2:Rs L 1 c2 30 (ivn (cD ts))) :
 GvP Tryz.prog 157 [.agg #[v1,v2],.agg #[v3,v4],vt,.agg #[c1,c2]].toArray L (.agg (cdV vt v1 v2 v3 v4 (itL (coI l dl ts))).toArray):=by
 refine Gv.of_body (args:=[.agg #[v1,v2],.agg #[v3,v4],vt,.agg #[c1,c2]]) Tryz.func157 rfl rfl ?_
 have hla:(inc (cA ts) 256).length=286:=by rw [uS,vv]
 have hld:=Zz ts
 have hca:∀i,(inc (cA ts) 256).getD i 0≤200001:=fun i=>by
  have:=zjc ht.ok i
  rw [wX (by rw [vv];decide)]
  split<;>omega
 have hcd:∀i,(cD ts).getD i 0≤200000:=fun i=>by have:=zjd ht.ok i;omega
 have hsz:itL (coI l dl ts)=_:=zmR (l:=l) (dl:=dl) ht.ok
 have b1:=zlu (cs:=inc (cA ts) 256) (f:=fun i=>l.getD i 0) hca (fun i=>ha.ok.at i) 286
 have b2:=zlu (cs:=cD ts) (f:=fun i=>dl.getD i 0) hcd (fun i=>hb.ok.at i) 30
 have b3:=zf3 (f:=fun i=>exB i 2 4) (F:=13) hcd 30 (fun i hi=>(zb4 i hi).2)
 have b4:=zf3 (f:=fxA) (F:=5) hca 286 zpq
 rw [hsz]
 generalize inc (cA ts) 256=ca at *
 generalize cD ts=cd at *
 obtain ⟨ta,tc,rfl,_⟩:=ht.rs.room
 obtain ⟨a1,e1,rfl,_⟩:=ha.l.room
 obtain ⟨a2,e2,rfl,_⟩:=ha.c.room
 obtain ⟨a3,e3,rfl,_⟩:=hb.l.room
 obtain ⟨a4,e4,rfl,_⟩:=hb.c.room
 obtain ⟨a5,e5,rfl,_⟩:=h1.room
 obtain ⟨a6,e6,rfl,_⟩:=h2.room
 (refine kW ?_;refine kU fun bk=>?_;refine kW ?_;refine kU fun bk=>?_;refine kW ?_;refine kU fun bk=>?_;refine kW ?_;refine kU fun bk=>?_;refine kW ?_)
 rename_i q4 q5 q7
 have hm1:min ca.length l.length=286:=by omega
 have hm2:min cd.length dl.length=30:=by omega
 have hc1:=fun B1 B2 B3 B4=>zcQ (.slice a1 l.length e1) (.slice a2 l.length e2) (.slice a5 286 e5) l ca (B1::B2::B3::B4::L) ha.l.there.there.there.there (by rw [hla];exact h1.there.there.there.there) (by omega) (fun i=>by have:=hca i;omega) (fun i=>by have:=ha.ok.at i;omega)
 have hc2:=fun B1 B2 B3 B4=>zcQ (.slice a3 dl.length e3) (.slice a4 dl.length e4) (.slice a6 30 e6) dl cd (B1::B2::B3::B4::L) hb.l.there.there.there.there (by rw [hld];exact h2.there.there.there.there) (by omega) (fun i=>by have:=hcd i;omega) (fun i=>by have:=hb.ok.at i;omega)
 have hc3:=fun B1 B2 B3 B4=>zna (.slice a5 286 e5) (.slice a6 30 e6) ca cd (B1::B2::B3::B4::L) h1.there.there.there.there h2.there.there.there.there (fun i=>by have:=hca i;omega) (fun i=>by have:=hcd i;omega)
 rw [hm1] at hc1
 rw [hm2] at hc2
 clear hsz
 generalize sS (fun i=>l.getD i 0) 286 ca=z1 at *
 generalize sS (fun i=>dl.getD i 0) 30 cd=z2 at *
 generalize sS fxA 286 ca=z3 at *
 generalize sS (fun i=>exB i 2 4) 30 cd=z4 at *
 refine zk [16] mixed ?_
 (refine za 0 ?_;refine za 1 ?_;refine za 2 ?_;refine za 3 ?_;refine za 4 ?_;refine za 5 ?_;refine za 7 ?_;refine za 8 ?_;refine za 9 ?_;refine za 12 ?_)
 refine cI 6 rfl rfl ?_
 refine cP rfl rfl (hc1 _ _ _ _) ?_
 refine ⟨iC,?_⟩
 refine cI 10 rfl rfl ?_
 refine cP rfl rfl (hc2 _ _ _ _) ?_
 refine ⟨iC,?_⟩
 (refine za 11 ?_)
 refine cI 13 rfl rfl ?_
 refine cP rfl rfl (hc3 _ _ _ _) ?_
 refine ⟨iC,?_⟩
 (refine za 14 ?_;refine za 15 ?_)
 refine cL 16 rfl rfl rfl ?_
 rw [show (z1:Int)+(z2:Int)+((z3+z4:Nat):Int)=((z1+z2+(z3+z4):Nat):Int) from by omega]
 refine zo (l:=[.slice none 0 0,.slice none 0 0,.slice none 0 0,.slice none 0 0,.slice none 0 0,.int .i64 0]) (cdV (.slice ta ts.length tc) (.slice a1 l.length e1) (.slice a2 l.length e2) (.slice a3 dl.length e3) (.slice a4 dl.length e4) (z1+z2+(z3+z4))) rfl rfl rfl rfl rfl iU (by simp [cdV]) ?_
 refine cD ?_
 refine kW ?_
 have hrl:zK ([(bk,cl (cdV (.slice ta ts.length tc) (.slice a1 l.length e1) (.slice a2 l.length e2) (.slice a3 dl.length e3) (.slice a4 dl.length e4) (z1+z2+(z3+z4))) 184)]::[(q7,cl [.slice a5 286 e5,.slice a6 30 e6] 240)]::[(q5,cl [.slice a3 dl.length e3,.slice a4 dl.length e4] 182)]::[(q4,cl [.slice a1 l.length e1,.slice a2 l.length e2] 182)]::L) ⟨bk,0,none⟩ (cdV (.slice ta ts.length tc) (.slice a1 l.length e1) (.slice a2 l.length e2) (.slice a3 dl.length e3) (.slice a4 dl.length e4) (z1+z2+(z3+z4))):=zK.cl' .here rfl
 first
  |(refine zX (vs:=[.agg (cdV (.slice ta ts.length tc) (.slice a1 l.length e1) (.slice a2 l.length e2) (.slice a3 dl.length e3) (.slice a4 dl.length e4) (z1+z2+(z3+z4))).toArray]) rfl (.agg ⟨by kernel_rfl,by kernel_rfl⟩ rfl hrl rfl .nil) ?_
    exact ⟨_,fun w h=>h.drop.drop.drop.drop,rfl,rfl⟩)
  |(refine yF (vs:=[.agg (cdV (.slice ta ts.length tc) (.slice a1 l.length e1) (.slice a2 l.length e2) (.slice a3 dl.length e3) (.slice a4 dl.length e4) (z1+z2+(z3+z4))).toArray]) rfl (.agg ⟨by kernel_rfl,by kernel_rfl⟩ rfl hrl rfl .nil) ?_
    exact ⟨_,fun w h=>h.drop.drop.drop.drop,rfl,rfl⟩)
theorem zb9 (v vt:Value) (b:List UInt8) (ts:List (Nat × Nat)) (S L:List Chunk) (hi:Inc S L) (h:PcR S v vt b ts) :
 Gv Tryz.prog 119 [.agg #[v,vt]].toArray L (fun r L'=>∃v1 v2 v3 v4 C,r=.agg (cdV vt v1 v2 v3 v4 (itL (coI fxL fxD ts))).toArray∧CoR (C::S) vt v1 v2 v3 v4 ts fxL fxD∧L'=C::L):=by
 refine Gv.of_body (args:=[.agg #[v,vt]]) Tryz.func119 rfl rfl ?_
 obtain ⟨va,vc,rfl,_⟩:=h.x.room
 obtain ⟨ta,tc,rfl,_⟩:=h.t.rs.room
 have hL:=h.sub hi.mem
 (refine kW ?_;refine kU fun bk=>?_;refine kW ?_;refine kU fun bk=>?_;refine kW ?_)
 rename_i q1
 refine cC rfl rfl (Yu _) (fun r L' hp=>?_)
 obtain ⟨u,w,C1,C2,rfl,rfl,ho1,ho2⟩:=hp
 have hu:=Rs.ow (L:=[]) ho1
 have hw:=Rs.ow (L:=[]) ho2
 obtain ⟨ua,uc,rfl⟩:=zM ho1
 obtain ⟨wa,wc,rfl⟩:=zM ho2
 refine kW ?_
 refine zk [11] mixed ?_
 (refine za 0 ?_;refine za 2 ?_;refine za 4 ?_;refine za 5 ?_;refine za 6 ?_;refine za 7 ?_)
 refine cI 1 rfl rfl ?_
 refine cC rfl rfl (zaO (.slice ua 288 uc) fxL _ (hu.sub iM) za3 (by decide)) (fun r L' hp=>?_)
 obtain ⟨u2,C3,rfl,hca,rfl⟩:=hp
 refine ⟨iC,?_⟩
 refine cI 3 rfl rfl ?_
 refine cC rfl rfl (zaO (.slice wa 32 wc) fxD _ (hw.sub iM) za2 (by decide)) (fun r L' hp=>?_)
 obtain ⟨w2,C4,rfl,hcb,rfl⟩:=hp
 refine ⟨iC,?_⟩
 refine cI 8 rfl rfl ?_
 refine cC rfl rfl (zaQ (.slice ta ts.length tc) ts _ (hL.t.sub iM) h.nt) (fun r L' hp=>?_)
 obtain ⟨x1,x2,C5,rfl,hx1,hx2,rfl⟩:=hp
 refine ⟨iC,?_⟩
 have hA:CdR (C4::C3::C2::C1::S) (.slice ua 288 uc) u2 fxL:=⟨hu.sub iM,hca.sub iM,za3,by decide⟩
 have hB:CdR (C4::C3::C2::C1::S) (.slice wa 32 wc) w2 fxD:=⟨hw.sub iM,hcb.sub iM,za2,by decide⟩
 have hA2:CdR (C4::C3::C2::C1::L) (.slice ua 288 uc) u2 fxL:=⟨hu.sub iM,hca.sub iM,za3,by decide⟩
 have hB2:CdR (C4::C3::C2::C1::L) (.slice wa 32 wc) w2 fxD:=⟨hw.sub iM,hcb.sub iM,za2,by decide⟩
 have hfin:CoR ((C4++(C3++(C2++C1)))::S) (.slice ta ts.length tc) (.slice ua 288 uc) u2 (.slice wa 32 wc) w2 ts fxL fxD:=by
  refine CoR.sub (L:=C4::C3::C2::C1::S) (fun x hx=>by simpa [List.append_assoc] using hx) ⟨h.t.sub iM,hA,hB,by decide,by decide,h.nt⟩
 refine cI 9 rfl rfl ?_
 refine cP rfl rfl (ZB (.slice ua 288 uc) u2 (.slice wa 32 wc) w2 (.slice ta ts.length tc) x1 x2 fxL fxD ts _ (hA2.sub iM) (hB2.sub iM) (hL.t.sub iM) h.nt (by decide) (by decide) (hx1.sub iM) (hx2.sub iM)) ?_
 refine ⟨iC,?_⟩
 generalize itL (coI fxL fxD ts)=size at *
 obtain ⟨u2a,u2c,rfl,_⟩:=hca.room
 obtain ⟨w2a,w2c,rfl,_⟩:=hcb.room
 unfold cdV
 (refine za 10 ?_)
 refine cL 11 rfl rfl rfl ?_
 refine zo (l:=[.slice none 0 0,.slice none 0 0,.slice none 0 0,.slice none 0 0,.slice none 0 0,.int .i64 0]) [.slice ta ts.length tc,.slice ua 288 uc,.slice u2a 288 u2c,.slice wa 32 wc,.slice w2a 32 w2c,.int .i64 (size:Int)] rfl rfl rfl rfl rfl iU (by simp) ?_
 refine cD ?_
 refine kW ?_
 (first|refine zX (vs:=[.agg ([.slice ta ts.length tc,.slice ua 288 uc,.slice u2a 288 u2c,.slice wa 32 wc,.slice w2a 32 w2c,.int .i64 (size:Int)]).toArray]) rfl (.agg ⟨by kernel_rfl,by kernel_rfl⟩ rfl (zK.cl' (vs:=[.slice ta ts.length tc,.slice ua 288 uc,.slice u2a 288 u2c,.slice wa 32 wc,.slice w2a 32 w2c,.int .i64 (size:Int)]) (by repeat (first|assumption|exact Fnd.here|refine Fnd.there ?_)) rfl) rfl .nil) ?_|refine yF (vs:=[.agg ([.slice ta ts.length tc,.slice ua 288 uc,.slice u2a 288 u2c,.slice wa 32 wc,.slice w2a 32 w2c,.int .i64 (size:Int)]).toArray]) rfl (.agg ⟨by kernel_rfl,by kernel_rfl⟩ rfl (zK.cl' (vs:=[.slice ta ts.length tc,.slice ua 288 uc,.slice u2a 288 u2c,.slice wa 32 wc,.slice w2a 32 w2c,.int .i64 (size:Int)]) (by repeat (first|assumption|exact Fnd.here|refine Fnd.there ?_)) rfl) rfl .nil) ?_)
 refine ⟨(C4++(C3++(C2++C1)))::L,fun w h=>four.2 (iH h),_,_,_,_,_,rfl,hfin,rfl⟩
end Go.Proofs.YtemdlifojcgplaaGreatDoor
namespace Go.Df
open Go.Vx Go.If Go.Hf
set_option linter.all false
def sfN (x n:Nat) (bf:Bool):Nat:=if x=0∧11≤n then 18 else if x=0∧3≤n then 17 else if 0 < x∧bf=true∧3≤n then 16 else x
def smN (x n:Nat) (bf:Bool):Nat:=min n (rpA (sfN x n bf)+2 ^ rpB (sfN x n bf) - 1)
def Zo (x:Nat):Nat→Nat→Bool→List (Nat × Nat)
 |0,_,_=>[]
 |f+1,n,bf=>if n=0 then [] else (sfN x n bf,smN x n bf - rpA (sfN x n bf))::Zo x f (n - smN x n bf) true
def eqN:List Nat→Nat
 |[]=>0
 |x::r=>1+(r.takeWhile fun y=>decide (y=x)).length
def rnF:Nat→List Nat→List (Nat × Nat)
 |0,_=>[]
 |f+1,l=>if l=[] then [] else Zo (l.getD 0 0) (eqN l) (eqN l) false++rnF f (l.drop (eqN l))
def rnS (l:List Nat):List (Nat × Nat):=rnF l.length l
theorem zf5 {x n:Nat} (h:x≤15) (bf:Bool):sfN x n bf≤18:=by unfold sfN;split<;>(try split)<;>(try split)<;>omega
theorem zhv {x n:Nat} (h:x≤15) (hn:1≤n) (bf:Bool):rpA (sfN x n bf)≤n∧1≤rpA (sfN x n bf)∧rpA (sfN x n bf)≤11∧rpB (sfN x n bf)≤7:=by
 unfold sfN
 split
 ·exact ⟨by show 11≤n;omega,by decide,by decide,by decide⟩
 ·split
  ·exact ⟨by show 3≤n;omega,by decide,by decide,by decide⟩
  ·split
   ·exact ⟨by show 3≤n;omega,by decide,by decide,by decide⟩
   ·have e1:rpA x=1:=by unfold rpA;rw [if_neg (by omega),if_neg (by omega),if_neg (by omega)]
    have e2:rpB x=0:=by unfold rpB;rw [if_neg (by omega),if_neg (by omega),if_neg (by omega)]
    rw [e1,e2];omega
theorem zeR {x n:Nat} (h:x≤15) (hn:1≤n) (bf:Bool):rpA (sfN x n bf)≤smN x n bf∧smN x n bf≤n∧1≤smN x n bf∧smN x n bf - rpA (sfN x n bf) < 2 ^ rpB (sfN x n bf):=by
 have:=zhv h hn bf
 have hp:0 < 2 ^ rpB (sfN x n bf):=Nat.pow_pos (by decide)
 unfold smN
 omega
theorem zbf (x:Nat) (hx:x≤15):∀f n bf,(Zo x f n bf).length≤n
 |0,n,bf=>Nat.zero_le _
 |f+1,n,bf=>by
  rw [Zo]
  split
  ·exact Nat.zero_le _
  ·have:=zeR hx (n:=n) (by omega) bf
   have:=zbf x hx f (n - smN x n bf) true
   rw [List.length_cons];omega
theorem zgI {l:List Nat} (h:l≠[]):1≤eqN l∧eqN l≤l.length:=by
 cases l with
 |nil=>exact absurd rfl h
 |cons x r=>
  have:=(List.takeWhile_sublist (fun y=>decide (y=x)) (l:=r)).length_le
  simp only [eqN,List.length_cons]
  omega
theorem zjI {l:List Nat} {k:Nat} (h0:1≤k) (hk:k≤eqN l):(k < l.length∧l.getD k 0=l.getD 0 0→k+1≤eqN l)∧(¬(k < l.length∧l.getD k 0=l.getD 0 0)→eqN l≤k):=by
 cases l with
 |nil=>simp only [eqN] at hk;omega
 |cons x r=>
  obtain ⟨j,rfl⟩:∃j,k=j+1:=⟨k - 1,by omega⟩
  simp only [eqN,List.getD_cons_succ,List.getD_cons_zero,List.length_cons] at hk ⊢
  have key:∀(r:List Nat) (j:Nat),j≤(r.takeWhile fun y=>decide (y=x)).length→(j < r.length∧r.getD j 0=x→j+1≤(r.takeWhile fun y=>decide (y=x)).length)∧(¬(j < r.length∧r.getD j 0=x)→(r.takeWhile fun y=>decide (y=x)).length≤j):=by
   intro r
   induction r with
   |nil=>intro j _;exact ⟨fun h=>by simp at h,fun _=>by simp⟩
   |cons y r ih=>
    intro j hj
    by_cases hy:y=x
    ·rw [List.takeWhile_cons_of_pos (by simpa using hy)] at hj ⊢
     simp only [List.length_cons] at hj ⊢
     cases j with
     |zero=>exact ⟨fun _=>by omega,fun h=>absurd ⟨by simp,by simpa using hy⟩ h⟩
     |succ j=>
      have:=ih j (by omega)
      simp only [List.getD_cons_succ]
      exact ⟨fun h=>by have:=this.1 ⟨by omega,h.2⟩;omega,fun h=>by have:=this.2 (fun hh=>h ⟨by omega,hh.2⟩);omega⟩
    ·rw [List.takeWhile_cons_of_neg (by simpa using hy),List.length_nil] at hj ⊢
     obtain rfl:j=0:=by omega
     exact ⟨fun h=>absurd (by simpa using h.2) hy,fun _=>Nat.le_refl _⟩
  have:=key r j (by omega)
  exact ⟨fun h=>by have:=this.1 ⟨by omega,h.2⟩;omega,fun h=>by have:=this.2 (fun hh=>h ⟨by omega,hh.2⟩);omega⟩
end Go.Df
namespace Go.Proofs.YtemdlifojcgplaaGreatDoor
open Go Go.Vx Go.Hf Go.If Go.Df
variable [W0]
set_option maxRecDepth 4000
set_option linter.all false
theorem zft (k n:Nat) (L:List Chunk) (hk:k≤18) (hn:n≤1000):GvP Tryz.prog 296 [.int .i64 (k:Int),.int .i64 (n:Int)].toArray L (.bool (decide (rpA k≤n))):=by
 refine Gv.of_body Tryz.func296 rfl rfl ?_
 have hr:=zbq k L (by omega)
 generalize rpA k=a at hr ⊢
 generalize rpB k=b at hr
 refine kW ?_
 refine cP rfl rfl hr ?_
 refine kW ?_
 refine kR ?_
 exact ⟨_,iC,congrArg Value.bool (by rw [Bool.eq_iff_iff];simp only [decide_eq_true_eq];omega),rfl⟩
theorem zeZ (x n:Nat) (bf:Bool) (L:List Chunk) (hx:x≤15) (hn:n≤1000):GvP Tryz.prog 291 [.int .i64 (x:Int),.int .i64 (n:Int),.bool bf].toArray L (.int .i64 ((sfN x n bf:Nat):Int)):=by
 refine Gv.of_body Tryz.func291 rfl rfl ?_
 have h18:=fun L=>zft 18 n L (by decide) hn
 have h17:=fun L=>zft 17 n L (by decide) hn
 have h16:=fun L=>zft 16 n L (by decide) hn
 rw [show rpA 18=11 from rfl] at h18
 rw [show rpA 17=3 from rfl] at h17
 rw [show rpA 16=3 from rfl] at h16
 unfold sfN
 by_cases h0:x=0
 ·subst h0
  refine kW ?_
  refine cP rfl rfl (h18 _) ?_
  (repeat' first|refine kW ?_|refine kU fun bk=>?_|refine kV fun hc=>?_|refine kZ (fun hc=>?_) fun hc=>?_|fail)
  ·rw [if_pos ⟨rfl,by omega⟩]
   refine kR ?_
   exact ⟨_,iC,rfl,rfl⟩
  refine cP rfl rfl (h17 _) ?_
  (repeat' first|refine kW ?_|refine kU fun bk=>?_|refine kV fun hc=>?_|refine kZ (fun hc=>?_) fun hc=>?_|fail)
  ·rw [if_neg (by omega),if_pos ⟨rfl,by omega⟩]
   refine kR ?_
   exact ⟨_,iC,rfl,rfl⟩
  ·rw [if_neg (by omega),if_neg (by omega),if_neg (by omega)]
   refine kR ?_
   exact ⟨_,iC,rfl,rfl⟩
 ·cases bf with
  |false=>
   (refine kW ?_;refine kV fun hc=>?_;refine kW ?_;refine kV fun hc=>?_;refine kW ?_;refine kV fun hc=>?_;refine kW ?_)
   rw [if_neg (by omega),if_neg (by omega),if_neg (fun h=>by cases h.2.1)]
   refine kR ?_
   exact ⟨_,iC,rfl,rfl⟩
  |true=>
   (refine kW ?_;refine kV fun hc=>?_;refine kW ?_;refine kV fun hc=>?_;refine kW ?_;refine kV fun hc=>?_;refine kW ?_)
   refine cP rfl rfl (h16 _) ?_
   (repeat' first|refine kW ?_|refine kU fun bk=>?_|refine kV fun hc=>?_|refine kZ (fun hc=>?_) fun hc=>?_|fail)
   ·rw [if_neg (by omega),if_neg (by omega),if_pos ⟨by omega,rfl,by omega⟩]
    refine kR ?_
    exact ⟨_,iC,rfl,rfl⟩
   ·rw [if_neg (by omega),if_neg (by omega),if_neg (by omega)]
    refine kR ?_
    exact ⟨_,iC,rfl,rfl⟩
theorem zeH (x n:Nat) (L:List Chunk) (hx:x≤15) (hn:n≤1000) :
 Gv Tryz.prog 282 [.int .i64 (x:Int),.int .i64 (n:Int)].toArray L (fun r L'=>∃C,Ow 278 2 r (Zo x n n false).length (flt TkV (Zo x n n false)) C∧L'=C::L):=by
 refine Gv.of_body Tryz.func282 rfl rfl ?_
 have hlen:=zbf x hx n n false
 refine kW ?_
 refine zn (X:=Nat × Nat × List (Nat × Nat) × Value × Chunk) (fun z=>[(0,.int .i64 (x:Int)),(1,.int .i64 (z.2.1:Int)),(5,z.2.2.2.1)]) (fun z=>z.2.2.2.2::L)
  (fun z=>z.2.1≤z.1∧z.1≤n∧z.2.2.1++Zo x z.1 z.2.1 (decide (0 < z.2.2.1.length))=Zo x n n false∧Ow 278 2 z.2.2.2.1 z.2.2.1.length (flt TkV z.2.2.1) z.2.2.2.2) (fun z=>z.1) (n,n,[],.slice none 0 0,[])
  ⟨Nat.le_refl _,Nat.le_refl _,rfl,.inl ⟨rfl,rfl,rfl,rfl⟩⟩ iS (fun w h=>Holds.nil.2 h) ?_
 rintro ⟨f,m,dn,vl,Cl⟩ ⟨hmf,hfn,hdn,hov⟩
 simp only at hmf hfn hdn hov ⊢
 have hdl:dn.length≤1000:=by
  have:=congrArg List.length hdn
  rw [List.length_append] at this
  omega
 obtain ⟨va,vc,rfl⟩:=zM hov
 (repeat' first|refine kW ?_|refine kU fun bk=>?_|refine kV fun hc=>?_|refine kZ (fun hc=>?_) fun hc=>?_|fail)
 ·have hm0:1≤m:=by omega
  obtain ⟨g,rfl⟩:∃g,f=g+1:=⟨f - 1,by omega⟩
  rw [Zo,if_neg (by omega)] at hdn
  have hsb:=zeR hx hm0 (decide (0 < dn.length))
  have hsf:=zhv hx hm0 (decide (0 < dn.length))
  have hs18:=zf5 (n:=m) hx (decide (0 < dn.length))
  have hsy:=fun L=>zeZ x m (decide (0 < dn.length)) L hx (by omega)
  have hsm:smN x m (decide (0 < dn.length))=min m (rpA (sfN x m (decide (0 < dn.length)))+2 ^ rpB (sfN x m (decide (0 < dn.length))) - 1):=rfl
  have hru:=fun L=>zbq (sfN x m (decide (0 < dn.length))) L (by omega)
  have hpw:2 ^ rpB (sfN x m (decide (0 < dn.length)))≤2 ^ 7:=Nat.pow_le_pow_right (by decide) hsf.2.2.2
  have hdz:decide ((dn.length:Int) > 0)=decide (0 < dn.length):=by rw [Bool.eq_iff_iff];simp only [decide_eq_true_eq];omega
  rw [hdz]
  refine cP rfl rfl (hsy _) ?_
  generalize smN x m (decide (0 < dn.length))=sm at hsb hsm hdn
  generalize sfN x m (decide (0 < dn.length))=sf at hsb hsf hs18 hsm hru hpw hdn ⊢
  refine kW ?_
  refine cP rfl rfl (hru _) ?_
  obtain ⟨e,he⟩:∃e,e=2 ^ rpB sf:=⟨_,rfl⟩
  rw [←he] at hsm hpw hsb
  refine kW ?_
  refine ze (uq 1 (rpB sf) rfl rfl rfl rfl (by omega) (by rw [←he];omega)) rfl ?_
  rw [Nat.one_mul,←he]
  refine kW ?_
  rw [show min (m:Int) ((rpA sf:Int)+(e:Int) - 1)=(sm:Int) from by omega]
  rw [show (sm:Int) - (rpA sf:Int)=((sm - rpA sf:Nat):Int) from by omega]
  refine zl (cs:=TkV (sf,sm - rpA sf)) rfl (by rfl) (by first|(simp [zA,patch,Value.cells,zeros];done)|(simp [zA,patch,Value.cells,zeros];rfl)) (by omega) rfl rfl (fun bn=>?_)
  refine kW ?_
  refine zu rfl rfl hov (zF (k:=2) (c:=(TkV (sf,sm - rpA sf)).toArray) (xs:=TkV (sf,sm - rpA sf)) (m:=1) Fnd.here rfl (by simp)) (by repeat (first|exact Zip.here _|apply Zip.there)) rfl (by rfl) (by omega) (by simp [maxLen];omega) rfl (fun vl2 Cl2 hov2 _ _=>?_)
  rw [show flt TkV dn++TkV (sf,sm - rpA sf)=flt TkV (dn++[(sf,sm - rpA sf)]) from by rw [uR TkV dn];simp [flt],show dn.length+1=(dn++[(sf,sm - rpA sf)]).length from by simp] at hov2
  refine kW ?_
  rw [show (m:Int) - (sm:Int)=((m - sm:Nat):Int) from by omega]
  refine zf (X:=Nat × Nat × List (Nat × Nat) × Value × Chunk) (μ:=fun z=>z.1) (x:=(g+1,m,dn,.slice va dn.length vc,Cl)) (g,m - sm,dn++[(sf,sm - rpA sf)],vl2,Cl2) (by simp only;omega) ⟨by simp only;omega,by simp only;omega,by
   simp only
   rw [show decide (0 < (dn++[(sf,sm - rpA sf)]).length)=true from by simp,List.append_assoc]
   exact hdn,hov2⟩ iS (fun w h=>iH h)
 ·obtain rfl:m=0:=by omega
  have hz:Zo x f 0 (decide (0 < dn.length))=[]:=by cases f<;>rfl
  rw [hz,List.append_nil] at hdn
  rw [←hdn]
  refine kR ?_
  exact ⟨_,iC,Cl,hov,rfl⟩
theorem zm7 (v:Value) (l:List Nat) (L:List Chunk) (h:Rs L 1 v l.length (ivn l)) (hl:l≠[]) (hn:l.length≤1000):GvP Tryz.prog 281 [v].toArray L (.int .i64 ((eqN l:Nat):Int)):=by
 refine Gv.of_body (args:=[v]) Tryz.func281 rfl rfl ?_
 have he:=zgI hl
 obtain ⟨x0,hx0⟩:∃x,l[0]? =some x:=⟨l[0],List.getElem?_eq_getElem (by omega)⟩
 obtain ⟨b,off,cap,cc,T,fr,rfl,hfn,hv0⟩:=yV h.sl (yC hx0)
 have hg0:l.getD 0 0=x0:=by simp [List.getD,hx0]
 refine kW ?_
 refine zn (X:=Nat) (fun x=>[(0,.slice (some ⟨b,off,none⟩) l.length cap),(3,.int .i64 (x:Int))]) (fun _=>L) (fun x=>1≤x∧x≤eqN l) (fun x=>l.length - x) 1 ⟨Nat.le_refl _,he.1⟩ iS (fun w h=>h) ?_
 intro k hk9
 have hk:1≤k∧k≤eqN l:=hk9
 have hst:=zjI hk.1 hk.2
 rw [hg0] at hst
 refine kW ?_
 by_cases hkl:k < l.length
 ·obtain ⟨xk,hxk⟩:∃x,l[k]? =some x:=⟨l[k],List.getElem?_eq_getElem hkl⟩
  obtain ⟨b',off',cap',cc',T',fr',hv9,hfk,hvk⟩:=yV h.sl (yC hxk)
  injection hv9 with q1 q2 q3
  injection q1 with q1
  injection q1 with q4 q5 q6
  subst q4 q5 q3
  clear q2 q6
  have hgk:l.getD k 0=xk:=by simp [List.getD,hxk]
  rw [hgk] at hst
  refine zk [] mixed ?_
  (refine za 0 ?_;refine za 1 ?_;refine za 2 ?_;refine za 3 ?_;refine za 4 ?_)
  rw [show decide ((k:Int) < (l.length:Int))=true from by simp;omega]
  (refine zN 5 ?_;refine zN 6 ?_)
  refine cO 7 rfl rfl rfl (zi (j:=k) (len:=l.length) rfl rfl rfl hkl) ?_
  refine cO 8 rfl rfl rfl (zq rfl hfk hvk) ?_
  (refine zN 9 ?_)
  refine cO 10 rfl rfl rfl (zi (j:=0) (len:=l.length) rfl rfl rfl (by omega)) ?_
  refine cO 11 rfl rfl rfl (zq rfl hfn hv0) ?_
  (refine zN 12 ?_)
  (refine za 13 ?_)
  refine cD ?_
  (repeat' first|refine kW ?_|refine kU fun bk=>?_|refine kV fun hc=>?_|refine kZ (fun hc=>?_) fun hc=>?_|fail)
  ·have:=hst.1 ⟨hkl,by omega⟩
   refine zf (X:=Nat) (μ:=fun x=>l.length - x) (x:=k) (k+1) (by show l.length - (k+1) < l.length - k;omega) ⟨by omega,this⟩ iS (fun w h=>h)
  ·have:=hst.2 (fun hh=>by omega)
   have e:k=eqN l:=by omega
   refine kR ?_
   exact ⟨_,iC,by rw [e];rfl,rfl⟩
 ·have:=hst.2 (fun hh=>hkl hh.1)
  have e:k=eqN l:=by omega
  refine zk [] mixed ?_
  (refine za 0 ?_;refine za 1 ?_;refine za 2 ?_;refine za 3 ?_;refine za 4 ?_)
  rw [show decide ((k:Int) < (l.length:Int))=false from by simp;omega]
  (refine zD 5 ?_;refine zD 6 ?_;refine zD 7 ?_;refine zD 8 ?_;refine zD 9 ?_;refine zD 10 ?_;refine zD 11 ?_;refine zD 12 ?_)
  (refine za 13 ?_)
  refine cD ?_
  refine kW ?_
  refine kR ?_
  exact ⟨_,iC,by rw [e];rfl,rfl⟩
end Go.Proofs.YtemdlifojcgplaaGreatDoor
namespace Go.Df
open Go.Vx Go.If Go.Hf
set_option linter.all false
theorem zdu:∀(f:Nat) (l:List Nat),(∀x∈l,x≤15)→(rnF f l).length≤l.length
 |0,l,_=>Nat.zero_le _
 |f+1,l,h=>by
  rw [rnF]
  split
  ·exact Nat.zero_le _
  ·rename_i hl
   have he:=zgI hl
   have hx:l.getD 0 0≤15:=by
    cases l with
    |nil=>exact absurd rfl hl
    |cons y r=>exact h y (by simp)
   have h1:=zbf (l.getD 0 0) hx (eqN l) (eqN l) false
   have h2:=zdu f (l.drop (eqN l)) (fun x hx=>h x (List.mem_of_mem_drop hx))
   rw [List.length_append]
   rw [List.length_drop] at h2
   omega
theorem znW (f:Nat):rnF f []=[]:=by cases f<;>rfl
def trN (l:List Nat) (least:Nat):Nat→Nat
 |0=>0
 |n+1=>if least < n+1∧l.getD n 0=0 then trN l least n else n+1
theorem Q0 {l:List Nat} {least:Nat}:∀n,least≤n→least≤trN l least n∧trN l least n≤n∧∀i,trN l least n≤i→i < n→l.getD i 0=0
 |0,h=>⟨by rw [trN];exact h,Nat.le_refl _,fun i h1 h2=>by omega⟩
 |n+1,h=>by
  rw [trN]
  split
  ·rename_i hc
   obtain ⟨h1,h2,h3⟩:=Q0 (l:=l) (least:=least) n (by omega)
   exact ⟨h1,by omega,fun i h4 h5=>by
    by_cases hi:i=n
    ·rw [hi];exact hc.2
    ·exact h3 i h4 (by omega)⟩
  ·exact ⟨h,Nat.le_refl _,fun i h1 h2=>by omega⟩
def cR (rs:List (Nat × Nat)):List Nat:=rs.foldl (fun l r=>inc l r.1) (List.replicate 19 0)
theorem zaL (a:List (Nat × Nat)) (t:Nat × Nat):cR (a++[t])=inc (cR a) t.1:=by unfold cR;rw [List.foldl_append];rfl
theorem Yp (rs:List (Nat × Nat)):(cR rs).length=19:=by
 induction rs using wF with
 |h0=>exact List.length_replicate
 |h1 a t ih=>rw [zaL,uS,ih]
theorem zje {rs:List (Nat × Nat)} (h:∀r∈rs,r.1 < 19) (i:Nat):(cR rs).getD i 0≤rs.length:=by
 induction rs using wF with
 |h0=>rw [show cR []=List.replicate 19 0 from rfl,zat];exact Nat.zero_le _
 |h1 a t ih=>
  have:=ih (fun x hx=>h x (by simp [hx]))
  rw [zaL,wX (by rw [Yp];exact h t (by simp)),List.length_append,List.length_singleton]
  split<;>omega
def orN (own:List Nat):List Nat:=(List.range 19).map fun i=>own.getD (yY.getD i 0) 0
end Go.Df
namespace Go.Proofs.YtemdlifojcgplaaGreatDoor
open Go Go.Vx Go.Hf Go.If Go.Df
variable [W0]
set_option maxRecDepth 4000
set_option linter.all false
theorem QD (v:Value) (l:List Nat) (least:Nat) (S L:List Chunk) (hi:Inc S L) (h:Rs S 1 v l.length (ivn l)) (hl:least≤l.length) (hn:l.length≤1000) :
 Gv Tryz.prog 262 [v,.int .i64 (least:Int)].toArray L (fun r L'=>Rs S 1 r (trN l least l.length) (ivn (l.take (trN l least l.length)))∧L'=L):=by
 refine Gv.of_body (args:=[v,.int .i64 (least:Int)]) Tryz.func262 rfl rfl ?_
 have hL:=h.sub hi.mem
 obtain ⟨va,vc,rfl,_⟩:=h.room
 have hb:=Q0 (l:=l) l.length hl
 refine kW ?_
 refine zn (X:=Nat) (fun x=>[(0,.slice va l.length vc),(1,.int .i64 (least:Int)),(5,.int .i64 (x:Int))]) (fun _=>L) (fun x=>least≤x∧x≤l.length∧trN l least x=trN l least l.length) (fun x=>x) l.length ⟨hl,Nat.le_refl _,rfl⟩ iS (fun w h=>h) ?_
 intro n hn9
 have hn1:least≤n∧n≤l.length∧trN l least n=trN l least l.length:=hn9
 generalize trN l least l.length=R at *
 have hfin:n=R→∃r,Rs S 1 r R (ivn (l.take R))∧∀{n:Nat} {M:List (Nat × Value)} {L:List Chunk} {d:Nat} {ty:TypeId} {ps:String} {af:Array Edge} {g:Option (Nat × Bool)} {x:Operand} {lo hi:Option Operand},
  ev M x=some (.slice va l.length vc)→bnd M lo 0=some ((0:Nat):Int)→bnd M hi l.length=some (R:Int)→EV Tryz.prog n ⟨some d,.slice 154 x lo hi none,ty,ps,af,g⟩ M L d r:=by
  intro hR
  obtain ⟨r,hr,hev⟩:=yR (P:=Tryz.prog) (T:=154) h (l:=0) (h:=R) (by omega) (by omega)
  rw [Nat.zero_mul,List.drop_zero,Nat.sub_zero,Nat.mul_one] at hr
  exact ⟨r,by rw [show ivn (l.take R)=(ivn l).take R from by simp [ivn,List.map_take]];exact hr,hev⟩
 by_cases hgo:least < n
 ·obtain ⟨k,rfl⟩:∃k,n=k+1:=⟨n - 1,by omega⟩
  have hkl:k < l.length:=by omega
  obtain ⟨x,hx⟩:∃x,l[k]? =some x:=⟨l[k],List.getElem?_eq_getElem hkl⟩
  obtain ⟨b,off,cap,cc,T,fr,hv9,hfn,hcell⟩:=yV hL.sl (yC hx)
  injection hv9 with q1 q2 q3
  subst q1 q3
  clear q2
  have hgk:l.getD k 0=x:=by simp [List.getD,hx]
  have hst:=hn1.2.2
  rw [trN,hgk] at hst
  (refine kW ?_;refine kV fun hc=>?_;refine kW ?_)
  refine ze (zi (j:=k) rfl rfl (by omega) hkl) rfl ?_
  refine kW ?_
  refine ze (zq rfl hfn hcell) rfl ?_
  (repeat' first|refine kW ?_|refine kU fun bk=>?_|refine kV fun hc=>?_|refine kZ (fun hc=>?_) fun hc=>?_|fail)
  ·rw [if_pos ⟨hgo,by omega⟩] at hst
   refine zf (X:=Nat) (μ:=fun x=>x) (x:=k+1) k (by show k < k+1;omega) ⟨by omega,by omega,hst⟩ iS (fun w h=>h)
  ·rw [if_neg (fun hh=>by omega)] at hst
   obtain ⟨r,hr,hev⟩:=hfin hst
   refine ze (hev rfl rfl (by rw [←hst];rfl)) rfl ?_
   refine kW ?_
   refine kR ?_
   exact ⟨_,iC,hr,rfl⟩
 ·have hst:=hn1.2.2
  have hnR:n=R:=by
   cases n with
   |zero=>exact hst
   |succ n=>rw [trN,if_neg (fun hh=>by omega)] at hst;exact hst
  obtain ⟨r,hr,hev⟩:=hfin hnR
  (refine kW ?_;refine kV fun hc=>?_;refine kW ?_)
  refine ze (hev rfl rfl (by rw [←hnR];rfl)) rfl ?_
  refine kW ?_
  refine kR ?_
  exact ⟨_,iC,hr,rfl⟩
theorem zlq (v:Value) (l:List Nat) (L:List Chunk) (h:Rs L 1 v l.length (ivn l)) (hx:∀x∈l,x≤15) (hn:l.length≤1000) :
 Gv Tryz.prog 263 [v].toArray L (fun r L'=>∃C,Ow 278 2 r (rnS l).length (flt TkV (rnS l)) C∧L'=C::L):=by
 refine Gv.of_body (args:=[v]) Tryz.func263 rfl rfl ?_
 have hlen:=zdu l.length l hx
 unfold rnS
 refine kW ?_
 refine zn (X:=Nat × List Nat × Value × List (Nat × Nat) × Value × Chunk) (fun z=>[(0,z.2.2.1),(3,z.2.2.2.2.1)]) (fun z=>z.2.2.2.2.2::L)
  (fun z=>Rs L 1 z.2.2.1 z.2.1.length (ivn z.2.1)∧z.2.1.length≤z.1∧(∀x∈z.2.1,x≤15)∧z.2.1.length≤1000∧z.2.2.2.1++rnF z.1 z.2.1=rnF l.length l∧Ow 278 2 z.2.2.2.2.1 z.2.2.2.1.length (flt TkV z.2.2.2.1) z.2.2.2.2.2) (fun z=>z.1) (l.length,l,v,[],.slice none 0 0,[])
  ⟨h,Nat.le_refl _,hx,hn,rfl,.inl ⟨rfl,rfl,rfl,rfl⟩⟩ iS (fun w h=>Holds.nil.2 h) ?_
 clear h hx v
 rintro ⟨f,t,v,dn,vl,Cl⟩ ⟨h,htf,hx,htn,hdn,hov⟩
 simp only at h htf hx htn hdn hov ⊢
 have hdl:dn.length+(rnF f t).length≤1000:=by
  have:=congrArg List.length hdn
  rw [List.length_append] at this
  omega
 obtain ⟨va,vc,rfl,_⟩:=h.room
 (repeat' first|refine kW ?_|refine kU fun bk=>?_|refine kV fun hc=>?_|refine kZ (fun hc=>?_) fun hc=>?_|fail)
 ·have ht0:t≠[]:=fun hh=>by rw [hh] at hc;simp at hc
  have he:=zgI ht0
  obtain ⟨g,rfl⟩:∃g,f=g+1:=⟨f - 1,by omega⟩
  rw [rnF,if_neg ht0] at hdn hdl
  rw [List.length_append] at hdl
  obtain ⟨x0,hx0⟩:∃x,t[0]? =some x:=⟨t[0],List.getElem?_eq_getElem (by omega)⟩
  have hg0:t.getD 0 0=x0:=by simp [List.getD,hx0]
  rw [hg0] at hdn hdl
  have hx15:x0≤15:=hx x0 (List.mem_of_getElem? hx0)
  obtain ⟨r,hr,hev⟩:=yR (P:=Tryz.prog) (T:=154) h (l:=eqN t) (h:=t.length) he.2 (Nat.le_refl _)
  rw [Nat.mul_one,Nat.mul_one,List.take_of_length_le (by rw [List.length_drop,zC];exact Nat.le_refl _),show (ivn t).drop (eqN t)=ivn (t.drop (eqN t)) from by simp [ivn,List.map_drop],←List.length_drop] at hr
  obtain ⟨b,off,cap,cc,T,fr,hv9,hfn,hcell⟩:=yV h.sl (yC hx0)
  injection hv9 with q1 q2 q3
  subst q1 q3
  clear q2
  have heq:=zm7 _ t (Cl::L) h.there ht0 htn
  refine cP rfl rfl heq ?_
  have hone:=fun L=>zeH x0 (eqN t) L hx15 (by omega)
  generalize Zo x0 (eqN t) (eqN t) false=one at hone hdn hdl
  refine kW ?_
  refine ze (zi (j:=0) rfl rfl rfl (by omega)) rfl ?_
  refine kW ?_
  refine ze (zq rfl (.there hfn) hcell) rfl ?_
  refine kW ?_
  refine cC rfl rfl (hone _) (fun r2 L' hp=>?_)
  obtain ⟨C2,ho2,rfl⟩:=hp
  refine kW ?_
  refine zu rfl rfl hov (qz ho2) (by repeat (first|exact Zip.here _|apply Zip.there)) rfl (XZ zaF _) (by omega) (by simp [maxLen];omega) rfl (fun vl2 Cl2 hov2 _ _=>?_)
  rw [←uR,←List.length_append] at hov2
  refine kW ?_
  refine ze (hev rfl rfl rfl) rfl ?_
  refine kW ?_
  refine zf (X:=Nat × List Nat × Value × List (Nat × Nat) × Value × Chunk) (μ:=fun z=>z.1) (x:=(g+1,t,.slice (some ⟨b,off,none⟩) t.length vc,dn,vl,Cl)) (g,t.drop (eqN t),r,dn++one,vl2,Cl2) (by simp only;omega) ⟨hr,by simp only [List.length_drop];omega,fun x hx'=>hx x (List.mem_of_mem_drop hx'),by simp only [List.length_drop];omega,by simp only;rw [List.append_assoc];exact hdn,hov2⟩ iS (fun w h=>iH h)
 ·have ht0:t=[]:=List.length_eq_zero_iff.1 (by omega)
  subst ht0
  rw [znW,List.append_nil] at hdn
  rw [←hdn]
  refine kR ?_
  exact ⟨_,iC,Cl,hov,rfl⟩
end Go.Proofs.YtemdlifojcgplaaGreatDoor
namespace Go.So
set_option linter.all false
variable {α : Type}
def swp (f:Nat→α) (i j:Nat):Nat→α:=fun k=>if k=i then f j else if k=j then f i else f k
def upd (f:Nat→α) (i:Nat) (y:α):Nat→α:=fun k=>if k=i then y else f k
theorem zax (f:Nat→α) (i j:Nat):upd (upd f i (f j)) j (f i)=swp f i j:=by
 funext k
 simp only [upd,swp]
 by_cases h1:k=j
 ·by_cases h2:k=i
  ·subst h1;subst h2;simp
  ·rw [if_pos h1,if_neg h2,if_pos h1]
 ·rw [if_neg h1]
  by_cases h2:k=i
  ·rw [if_pos h2,if_pos h2]
  ·rw [if_neg h2,if_neg h2,if_neg h1]
inductive Mv (a b:Nat):(Nat→α)→(Nat→α)→Prop
 |refl (f):Mv a b f f
 |step {f g i j}:Mv a b f g→a≤i→i < b→a≤j→j < b→Mv a b f (swp g i j)
theorem Mv.one {a b i j:Nat} (f:Nat→α) (h1:a≤i) (h2:i < b) (h3:a≤j) (h4:j < b):Mv a b f (swp f i j):=.step (.refl f) h1 h2 h3 h4
theorem Mv.trans {a b:Nat} {f g h:Nat→α} (h1:Mv a b f g) (h2:Mv a b g h):Mv a b f h:=by
 induction h2 with
 |refl=>exact h1
 |step _ p q r s ih=>exact ih.step p q r s
theorem Mv.mono {a b c d:Nat} {f g:Nat→α} (h:Mv a b f g) (h1:c≤a) (h2:b≤d):Mv c d f g:=by
 induction h with
 |refl=>exact .refl _
 |step _ p q r s ih=>exact ih.step (by omega) (by omega) (by omega) (by omega)
theorem Mv.out {a b:Nat} {f g:Nat→α} (h:Mv a b f g) {k:Nat} (hk:k < a∨b≤k):g k=f k:=by
 induction h with
 |refl=>rfl
 |step _ p q r s ih=>
  simp only [swp]
  rw [if_neg (by omega),if_neg (by omega)]
  exact ih
theorem Mv.all {a b:Nat} {f g:Nat→α} (h:Mv a b f g) {p:α→Prop} (hp:∀k,a≤k→k < b→p (f k)):∀k,a≤k→k < b→p (g k):=by
 induction h with
 |refl=>exact hp
 |@step g i j _ h1 h2 h3 h4 ih=>
  intro k hk1 hk2
  simp only [swp]
  split
  ·exact ih j h3 h4
  ·split
   ·exact ih i h1 h2
   ·exact ih k hk1 hk2
theorem zlP (f:Nat→α) {i j n:Nat} (hi:i < n) (hj:j < n):((List.range n).map (swp f i j)).Perm ((List.range n).map f):=by
 have e:swp f i j=fun k=>f (swp id i j k):=by
  funext k
  simp only [swp,id]
  split
  ·rfl
  ·split<;>rfl
 have hs:((List.range n).map (swp id i j)).Perm (List.range n):=by
  refine (List.perm_ext_iff_of_nodup ?_ List.nodup_range).2 fun x=>?_
  ·refine List.Pairwise.map _ (fun a b hab=>?_) List.nodup_range
   intro he
   apply hab
   simp only [swp,id] at he
   split at he<;>split at he<;>(try split at he)<;>(try split at he)<;>omega
  ·simp only [List.mem_map,List.mem_range]
   constructor
   ·rintro ⟨k,hk,rfl⟩
    simp only [swp,id]
    split
    ·exact hj
    ·split
     ·exact hi
     ·exact hk
   ·intro hx
    refine ⟨swp id i j x,?_,?_⟩
    ·simp only [swp,id]
     split
     ·exact hj
     ·split
      ·exact hi
      ·exact hx
    ·simp only [swp,id]
     split<;>(try split)<;>(try split)<;>(try split)<;>omega
 have e2:(List.range n).map (fun k=>f (swp id i j k))=((List.range n).map (swp id i j)).map f:=by rw [List.map_map];rfl
 rw [e,e2]
 exact hs.map f
theorem Mv.perm {a b n:Nat} {f g:Nat→α} (h:Mv a b f g) (hb:b≤n):((List.range n).map g).Perm ((List.range n).map f):=by
 induction h with
 |refl=>exact .refl _
 |step _ p q r s ih=>exact (zlP _ (by omega) (by omega)).trans ih
def swr (f:Nat→α) (a b:Nat):Nat→Nat→α
 |0=>f
 |n+1=>swp (swr f a b n) (a+n) (b+n)
theorem zlQ (f:Nat→α) {a b c d:Nat}:∀n,c≤a→c≤b→a+n≤d→b+n≤d→Mv c d f (swr f a b n)
 |0,_,_,_,_=>.refl f
 |n+1,h1,h2,h3,h4=>(zlQ f n h1 h2 (by omega) (by omega)).step (by omega) (by omega) (by omega) (by omega)
theorem QC (f:Nat→α) {a b:Nat}:∀n,a+n≤b→∀k,swr f a b n k=if a≤k∧k < a+n then f (k - a+b) else if b≤k∧k < b+n then f (k - b+a) else f k
 |0,_,k=>by
  simp only [swr]
  rw [if_neg (by omega),if_neg (by omega)]
 |n+1,h,k=>by
  simp only [swr,swp]
  by_cases h1:k=a+n
  ·rw [if_pos h1,QC f n (by omega),if_neg (by omega),if_neg (by omega),if_pos (by omega)]
   congr 1;omega
  ·rw [if_neg h1]
   by_cases h2:k=b+n
   ·rw [if_pos h2,QC f n (by omega),if_neg (by omega),if_neg (by omega),if_neg (by omega),if_pos (by omega)]
    congr 1;omega
   ·rw [if_neg h2,QC f n (by omega)]
    have eA:(a≤k∧k < a+n)=(a≤k∧k < a+(n+1)):=by apply propext;omega
    have eB:(b≤k∧k < b+n)=(b≤k∧k < b+(n+1)):=by apply propext;omega
    simp only [eA,eB]
def rot (f:Nat→α) (a m b:Nat):Nat→α:=fun k=>if a≤k∧k < a+(b - m) then f (k - a+m) else if a+(b - m)≤k∧k < b then f (k - (b - m)) else f k
theorem zlj (f:Nat→α) {m i j:Nat} (hj:j < i) (hi:i≤m) (h0:0 < j):rot (swr f (m - i) m j) (m - (i - j)) m (m+j)=rot f (m - i) m (m+j):=by
 funext k
 simp only [rot]
 have hs:=QC f (a:=m - i) (b:=m) j (by omega)
 by_cases c1:k < m - i
 ·rw [if_neg (by omega),if_neg (by omega),hs,if_neg (by omega),if_neg (by omega),if_neg (by omega),if_neg (by omega)]
 by_cases c2:k < m - i+j
 ·rw [if_neg (by omega),if_neg (by omega),hs,if_pos (by omega),if_pos (by omega)]
 by_cases c3:k < m - i+j+j
 ·rw [if_pos (by omega),hs,if_neg (by omega),if_pos (by omega),if_neg (by omega),if_pos (by omega)]
  congr 1;omega
 by_cases c4:k < m+j
 ·rw [if_neg (by omega),if_pos (by omega),hs,if_neg (by omega),if_neg (by omega),if_neg (by omega),if_pos (by omega)]
 ·rw [if_neg (by omega),if_neg (by omega),hs,if_neg (by omega),if_neg (by omega),if_neg (by omega),if_neg (by omega)]
theorem zli (f:Nat→α) {m i j:Nat} (hj:i < j) (hi:i≤m) (h0:0 < i):rot (swr f (m - i) (m+j - i) i) (m - i) m (m+(j - i))=rot f (m - i) m (m+j):=by
 funext k
 simp only [rot]
 have hs:=QC f (a:=m - i) (b:=m+j - i) i (by omega)
 by_cases c1:k < m - i
 ·rw [if_neg (by omega),if_neg (by omega),hs,if_neg (by omega),if_neg (by omega),if_neg (by omega),if_neg (by omega)]
 by_cases c2:k < m - i+(j - i)
 ·rw [if_pos (by omega),hs,if_neg (by omega),if_neg (by omega),if_pos (by omega)]
 by_cases c3:k < m+(j - i)
 ·rw [if_neg (by omega),if_pos (by omega),hs,if_pos (by omega),if_pos (by omega)]
  congr 1;omega
 by_cases c4:k < m+j
 ·rw [if_neg (by omega),if_neg (by omega),hs,if_neg (by omega),if_pos (by omega),if_neg (by omega),if_pos (by omega)]
  congr 1;omega
 ·rw [if_neg (by omega),if_neg (by omega),hs,if_neg (by omega),if_neg (by omega),if_neg (by omega),if_neg (by omega)]
theorem zlk (f:Nat→α) {m i:Nat} (hi:i≤m):swr f (m - i) m i=rot f (m - i) m (m+i):=by
 funext k
 simp only [rot]
 have e:m+i - m=i:=by omega
 rw [QC f i (by omega),e]
 repeat' split
 all_goals first
  |rfl
  |(exfalso;omega)
  |(congr 1;omega)
def Srt (key:α→Nat) (a b:Nat) (f:Nat→α):Prop:=∀i j,a≤i→i≤j→j < b→key (f i)≤key (f j)
theorem Srt.sub {key:α→Nat} {a b c d:Nat} {f:Nat→α} (h:Srt key a b f) (h1:a≤c) (h2:d≤b):Srt key c d f:=fun i j p q r=>h i j (by omega) q (by omega)
theorem Srt.join {key:α→Nat} {a m b:Nat} {f:Nat→α} (h1:Srt key a m f) (h2:Srt key m b f) (h3:∀i j,a≤i→i < m→m≤j→j < b→key (f i)≤key (f j)):Srt key a b f:=by
 intro i j hi hij hj
 by_cases c:j < m
 ·exact h1 i j hi hij c
 by_cases c':i < m
 ·exact h3 i j hi c' (by omega) hj
 ·exact h2 i j (by omega) hij hj
theorem Srt.congr {key:α→Nat} {a b:Nat} {f g:Nat→α} (h:Srt key a b f) (he:∀k,a≤k→k < b→g k=f k):Srt key a b g:=fun i j p q r=>by
 rw [he i p (by omega),he j (by omega) r];exact h i j p q r
end Go.So
namespace Go.Vx
open Go Go.So
set_option linter.all false
variable [W0]
omit [W0] in
def cv (x:Nat × Nat):List Value:=[.int .i64 (x.1:Int),.int .i64 (x.2:Int)]
omit [W0] in
def cvs (f:Nat→Nat × Nat):Nat→List Value
 |0=>[]
 |n+1=>cvs f n++cv (f n)
theorem y8 (f:Nat→Nat × Nat):∀n,(cvs f n).length=n * 2
 |0=>rfl
 |n+1=>by rw [cvs,List.length_append,y8 f n];simp [cv];omega
theorem zb3 {f g:Nat→Nat × Nat}:∀{n:Nat},(∀k,k < n→f k=g k)→cvs f n=cvs g n
 |0,_=>rfl
 |n+1,h=>by rw [cvs,cvs,zb3 (fun k hk=>h k (by omega)),h n (by omega)]
theorem Qn (f:Nat→Nat × Nat):∀{n j:Nat},j < n→∃A B,cvs f n=A++(cv (f j)++B)∧A.length=j * 2∧∀y,cvs (upd f j y) n=A++(cv y++B)
 |0,j,h=>by omega
 |n+1,j,h=>by
  by_cases he:j=n
  ·subst he
   refine ⟨cvs f j,[],by simp [cvs],y8 f j,fun y=>?_⟩
   rw [cvs,zb3 (g:=f) (fun k hk=>by simp only [upd];rw [if_neg (by omega)])]
   simp [upd]
  ·obtain ⟨A,B,h1,h2,h3⟩:=Qn f (n:=n) (j:=j) (by omega)
   refine ⟨A,B++cv (f n),by rw [cvs,h1];simp,h2,fun y=>?_⟩
   rw [cvs,h3]
   simp only [upd]
   rw [if_neg (by omega)]
   simp
theorem vC {f:Nat→Nat × Nat} {n j b:Nat} {rest:List Value} {T:TypeId} {L:List Chunk} (hj:j < n) (hf:Fnd L b (cl (cvs f n++rest) T)):zK L ⟨b,j * 2,none⟩ (cv (f j)):=by
 obtain ⟨A,B,h1,h2,_⟩:=Qn f hj
 refine zK.cl' hf ?_
 have hl:(cv (f j)).length=2:=rfl
 rw [h1,cut,List.append_assoc,←h2,List.drop_left,List.append_assoc,List.take_left' rfl]
theorem uD {f:Nat→Nat × Nat} {n j:Nat} {rest:List Value} {y:Nat × Nat} (hj:j < n):patch (cvs f n++rest) (j * 2) (cv y)=cvs (upd f j y) n++rest:=by
 obtain ⟨A,B,h1,h2,h3⟩:=Qn f hj
 rw [h1,h3,patch,←h2]
 have hl:A.length+(cv y).length=(A++cv (f j)).length:=by simp [cv]
 have e1:A++(cv (f j)++B)++rest=A++(cv (f j)++(B++rest)):=by simp
 have e2:A++(cv (f j)++B)++rest=(A++cv (f j))++(B++rest):=by simp
 have t1:(A++(cv (f j)++B)++rest).take A.length=A:=by rw [e1,List.take_left]
 have t2:(A++(cv (f j)++B)++rest).drop (A.length+(cv y).length)=B++rest:=by rw [hl,e2,List.drop_left]
 rw [t1,t2]
 simp
end Go.Vx
namespace Go.Proofs.YtemdlifojcgplaaGreatDoor
open Go Go.Vx Go.So
variable [W0]
set_option maxRecDepth 4000
set_option linter.all false
theorem zgQ (x:Int) (L:List Chunk):GvP Tryz.prog 207 [.int .i64 x].toArray L (.bool false):=by
 refine Gv.of_body Tryz.func207 rfl rfl ?_
 refine kW ?_
 refine kR ?_
 refine ⟨L,iC,?_,rfl⟩
 simp [zV]
omit [W0] in
def zfl (x y:Int):Int:=if x < y then -1 else if x > y then 1 else 0
theorem zhY (x y:Int) (L:List Chunk):GvP Tryz.prog 162 [.int .i64 x,.int .i64 y].toArray L (.int .i64 (zfl x y)):=by
 refine Gv.of_body Tryz.func162 rfl rfl ?_
 refine kW ?_
 refine cP rfl rfl (zgQ x L) ?_
 refine kW ?_
 refine cP rfl rfl (zgQ y L) ?_
 (repeat' first|refine kW ?_|refine kU fun bk=>?_|refine kV fun hc=>?_|refine kZ (fun hc=>?_) fun hc=>?_|fail)
 ·refine kR ?_
  exact ⟨L,iC,by unfold zfl;rw [if_pos (by assumption)];rfl,rfl⟩
 ·refine kR ?_
  exact ⟨L,iC,by unfold zfl;rw [if_neg (by assumption),if_pos (by assumption)];rfl,rfl⟩
 ·refine kR ?_
  exact ⟨L,iC,by unfold zfl;rw [if_neg (by assumption),if_neg (by assumption)];rfl,rfl⟩
theorem zaM (x y:Nat × Nat) (L:List Chunk):GvP Tryz.prog 287 [.agg (cv x).toArray,.agg (cv y).toArray].toArray L (.int .i64 (zfl (x.2:Int) (y.2:Int))):=by
 refine Gv.of_body Tryz.func287 rfl rfl ?_
 (refine kW ?_;refine kU fun bk=>?_;refine kW ?_;refine kU fun bk=>?_;refine kW ?_)
 refine cP rfl rfl (zhY _ _ _) ?_
 refine kW ?_
 refine kR ?_
 exact ⟨L,iC,rfl,rfl⟩
omit [W0] in
def uz:Value:=.func (.func 287) #[] #[]
theorem zdz (f:Nat→Nat × Nat) (N b0 cap a b n:Nat) (rest:List Value) (L:List Chunk) (hN:N≤1000) (h1:a+n≤N) (h2:b+n≤N) :
 Gv Tryz.prog 302 [.slice (some ⟨b0,0,none⟩) N cap,.int .i64 (a:Int),.int .i64 (b:Int),.int .i64 (n:Int),uz].toArray ([(b0,cl (cvs f N++rest) 352)]::L)
  (fun r L'=>r=.tuple #[]∧L'=[(b0,cl (cvs (swr f a b n) N++rest) 352)]::L):=by
 refine Gv.of_body Tryz.func302 rfl rfl ?_
 refine kW ?_
 refine zn (X:=Nat) (fun i=>[(0,.slice (some ⟨b0,0,none⟩) N cap),(1,.int .i64 (a:Int)),(2,.int .i64 (b:Int)),(3,.int .i64 (n:Int)),(10,.int .i64 (i:Int))])
  (fun i=>[(b0,cl (cvs (swr f a b i) N++rest) 352)]::L) (fun i=>i≤n) (fun i=>n - i) 0 (Nat.zero_le _) iS (fun w h=>h) ?_
 intro i hi
 obtain ⟨g,hg⟩:∃g,g=swr f a b i:=⟨_,rfl⟩
 have hst:swr f a b (i+1)=swp g (a+i) (b+i):=by rw [hg];rfl
 rw [←hg]
 (repeat' first|refine kW ?_|refine kU fun bk=>?_|refine kV fun hc=>?_|refine kZ (fun hc=>?_) fun hc=>?_|fail)
 ·have hlt:i < n:=by omega
  refine zk [4,5,6,7,21,22,23] mixed ?_
  (refine Qj 4 ?_;refine Qj 5 ?_;refine Qj 6 ?_;refine Qj 7 ?_)
  (refine yU 0 ?_;refine yU 1 ?_;refine yU 2 ?_;refine yU 3 ?_;refine yU 8 ?_;refine yU 9 ?_;refine yU 10 ?_;refine yU 11 ?_)
  (refine yB 12 rfl rfl (by kernel_rfl) iP iC (zh (j:=b+i) rfl rfl (by omega) (by omega)) (by rfl) ?_)
  (refine yB 13 rfl rfl (by kernel_rfl) iP iC (zB rfl (vC (f:=g) (n:=N) (j:=b+i) (rest:=rest) (by omega) (by repeat (first|assumption|exact Fnd.here|refine Fnd.there ?_))) rfl) (by rfl) ?_)
  (refine yU 14 ?_;refine yU 15 ?_;refine yU 16 ?_;refine yU 17 ?_)
  (refine yB 18 rfl rfl (by kernel_rfl) iP iC (zh (j:=a+i) rfl rfl (by omega) (by omega)) (by rfl) ?_)
  (refine yB 19 rfl rfl (by kernel_rfl) iP iC (zB rfl (vC (f:=g) (n:=N) (j:=a+i) (rest:=rest) (by omega) (by repeat (first|assumption|exact Fnd.here|refine Fnd.there ?_))) rfl) (by rfl) ?_)
  (refine yB 20 rfl rfl (by kernel_rfl) iP iC (zh (j:=a+i) rfl rfl (by omega) (by omega)) (by rfl) ?_)
  refine cL 21 rfl rfl rfl ?_
  refine zo (vs:=cv (g (b+i))) (cvs (upd g (a+i) (g (b+i))) N++rest) rfl rfl rfl rfl (uD (by omega)) iU (by rw [List.length_append,y8];simp [cv];omega) ?_
  refine cL 22 rfl rfl rfl ?_
  refine ze (zh (j:=b+i) rfl rfl (by omega) (by omega)) rfl ?_
  refine cL 23 rfl rfl rfl ?_
  refine zo (l:=cvs (upd g (a+i) (g (b+i))) N++rest) (vs:=cv (g (a+i))) (cvs (swp g (a+i) (b+i)) N++rest) rfl rfl rfl rfl (by rw [uD (n:=N) (rest:=rest) (j:=b+i) (by omega),zax]) iU (by rw [List.length_append,y8];simp [cv];omega) ?_
  refine cD ?_
  rw [←hst]
  refine kW ?_
  refine zf (X:=Nat) (μ:=fun i=>n - i) (x:=i) (i+1) (by omega) (by omega) iS (fun w h=>h)
 ·have hin:i=n:=by omega
  rw [hg,hin]
  refine kR ?_
  exact ⟨_,iC,rfl,rfl⟩
theorem zeF (f:Nat→Nat × Nat) (N b0 cap a m b:Nat) (rest:List Value) (L:List Chunk) (hN:N≤1000) (h1:a < m) (h2:m < b) (h3:b≤N) :
 Gv Tryz.prog 300 [.slice (some ⟨b0,0,none⟩) N cap,.int .i64 (a:Int),.int .i64 (m:Int),.int .i64 (b:Int),uz].toArray ([(b0,cl (cvs f N++rest) 352)]::L)
  (fun r L'=>r=.tuple #[]∧∃g,Mv a b f g∧g=rot f a m b∧L'=[(b0,cl (cvs g N++rest) 352)]::L):=by
 refine Gv.of_body Tryz.func300 rfl rfl ?_
 refine kW ?_
 refine zn (X:=Nat × Nat × (Nat→Nat × Nat)) (fun x=>[(0,.slice (some ⟨b0,0,none⟩) N cap),(2,.int .i64 (m:Int)),(4,uz),(10,.int .i64 (x.1:Int)),(11,.int .i64 (x.2.1:Int))])
  (fun x=>[(b0,cl (cvs x.2.2 N++rest) 352)]::L) (fun x=>0 < x.1∧0 < x.2.1∧x.1≤m - a∧m+x.2.1≤b∧Mv a b f x.2.2∧rot x.2.2 (m - x.1) m (m+x.2.1)=rot f a m b) (fun x=>x.1+x.2.1) (m - a,b - m,f)
  ⟨by simp only;omega,by simp only;omega,by simp only;omega,by simp only;omega,.refl f,by simp only;rw [show m - (m - a)=a from by omega,show m+(b - m)=b from by omega]⟩ iS (fun w h=>h) ?_
 rintro ⟨i,j,g⟩ ⟨q1,q2,q3,q4,q5,q6⟩
 simp only at q1 q2 q3 q4 q5 q6 ⊢
 have hmv:∀c d n,a≤c→a≤d→c+n≤b→d+n≤b→Mv a b f (swr g c d n):=fun c d n p1 p2 p3 p4=>q5.trans (zlQ g n p1 p2 p3 p4)
 (repeat' first|refine kW ?_|refine kU fun bk=>?_|refine kV fun hc=>?_|refine kZ (fun hc=>?_) fun hc=>?_|fail)
 ·rw [show (m:Int) - (i:Int)=((m - i:Nat):Int) from by omega]
  refine cC rfl rfl (zdz g N b0 cap (m - i) m j rest L hN (by omega) (by omega)) (fun r L' hp=>?_)
  obtain ⟨rfl,rfl⟩:=hp
  refine kW ?_
  refine zf (X:=Nat × Nat × (Nat→Nat × Nat)) (μ:=fun x=>x.1+x.2.1) (x:=(i,j,g)) (i - j,j,swr g (m - i) m j) (by simp only;omega) ⟨by simp only;omega,q2,by simp only;omega,q4,hmv _ _ _ (by omega) (by omega) (by omega) (by omega),?_⟩ iS (fun w h=>h)
  simp only
  rw [zlj g (by omega) (by omega) q2]
  exact q6
 ·rw [show (m:Int) - (i:Int)=((m - i:Nat):Int) from by omega,show (m:Int)+(j:Int) - (i:Int)=((m+j - i:Nat):Int) from by omega]
  refine cC rfl rfl (zdz g N b0 cap (m - i) (m+j - i) i rest L hN (by omega) (by omega)) (fun r L' hp=>?_)
  obtain ⟨rfl,rfl⟩:=hp
  refine kW ?_
  refine zf (X:=Nat × Nat × (Nat→Nat × Nat)) (μ:=fun x=>x.1+x.2.1) (x:=(i,j,g)) (i,j - i,swr g (m - i) (m+j - i) i) (by simp only;omega) ⟨q1,by simp only;omega,q3,by simp only;omega,hmv _ _ _ (by omega) (by omega) (by omega) (by omega),?_⟩ iS (fun w h=>h)
  simp only
  rw [zli g (by omega) (by omega) q1]
  exact q6
 ·have hij:i=j:=by omega
  rw [show (m:Int) - (i:Int)=((m - i:Nat):Int) from by omega]
  refine cC rfl rfl (zdz g N b0 cap (m - i) m i rest L hN (by omega) (by omega)) (fun r L' hp=>?_)
  obtain ⟨rfl,rfl⟩:=hp
  refine kW ?_
  refine kR ?_
  refine ⟨_,iC,rfl,swr g (m - i) m i,hmv _ _ _ (by omega) (by omega) (by omega) (by omega),?_,rfl⟩
  rw [zlk g (by omega)]
  rw [←hij] at q6
  exact q6
theorem XM (x y:Nat):decide (zfl (x:Int) (y:Int) < 0)=decide (x < y):=by
 apply decide_eq_decide.2
 unfold zfl
 split
 ·omega
 ·split<;>omega
omit [W0] in
def ky:Nat × Nat→Nat:=fun x=>x.2
theorem zek (f:Nat→Nat × Nat) (N b0 cap a b:Nat) (rest:List Value) (L:List Chunk) (hN:N≤1000) (h1:a≤b) (h3:b≤N) :
 Gv Tryz.prog 297 [.slice (some ⟨b0,0,none⟩) N cap,.int .i64 (a:Int),.int .i64 (b:Int),uz].toArray ([(b0,cl (cvs f N++rest) 352)]::L)
  (fun r L'=>r=.tuple #[]∧∃g,Mv a b f g∧Srt ky a b g∧L'=[(b0,cl (cvs g N++rest) 352)]::L):=by
 refine Gv.of_body Tryz.func297 rfl rfl ?_
 refine kW ?_
 refine zn (X:=Nat × (Nat→Nat × Nat)) (fun x=>[(0,.slice (some ⟨b0,0,none⟩) N cap),(1,.int .i64 (a:Int)),(2,.int .i64 (b:Int)),(3,uz),(8,.int .i64 (x.1:Int))])
  (fun x=>[(b0,cl (cvs x.2 N++rest) 352)]::L) (fun x=>a < x.1∧x.1≤b+1∧Mv a b f x.2∧Srt ky a x.1 x.2) (fun x=>b+1 - x.1) (a+1,f)
  ⟨by simp only;omega,by simp only;omega,.refl f,fun i j p q r=>by simp only at r;rw [show i=j from by omega];exact Nat.le_refl _⟩ iS (fun w h=>h) ?_
 rintro ⟨i,g⟩ ⟨q1,q2,q3,q4⟩
 simp only at q1 q2 q3 q4 ⊢
 (repeat' first|refine kW ?_|refine kU fun bk=>?_|refine kV fun hc=>?_|refine kZ (fun hc=>?_) fun hc=>?_|fail)
 ·have hib:i < b:=by omega
  refine zn (X:=Nat × (Nat→Nat × Nat)) (fun x=>[(0,.slice (some ⟨b0,0,none⟩) N cap),(1,.int .i64 (a:Int)),(2,.int .i64 (b:Int)),(3,uz),(8,.int .i64 (i:Int)),(9,.int .i64 (x.1:Int))])
   (fun x=>[(b0,cl (cvs x.2 N++rest) 352)]::L) (fun x=>a≤x.1∧x.1≤i∧Mv a b f x.2∧(∀p q,a≤p→p≤q→q≤i→p≠x.1→q≠x.1→ky (x.2 p)≤ky (x.2 q))∧∀q,x.1 < q→q≤i→ky (x.2 x.1)≤ky (x.2 q)) (fun x=>x.1) (i,g)
   ⟨by simp only;omega,Nat.le_refl _,q3,fun p q hp hpq hq hpi hqi=>q4 p q hp hpq (by simp only at hqi;omega),fun q h4 h5=>by simp only at h4;omega⟩ iS (fun w h=>h) ?_
  clear q3 q4 g
  rintro ⟨j,g⟩ ⟨r1,r2,r3,r4,r5⟩
  simp only at r1 r2 r3 r4 r5 ⊢
  have hsrt:(j=a∨¬ky (g j) < ky (g (j - 1)))→Srt ky a (i+1) g:=by
   intro hend p q hp hpq hq
   by_cases e1:p=j
   ·subst e1
    by_cases e2:p=q
    ·rw [e2];exact Nat.le_refl _
    ·exact r5 q (by omega) (by omega)
   ·by_cases e2:q=j
    ·subst e2
     rcases hend with h|h
     ·omega
     ·have:=r4 p (q - 1) hp (by omega) (by omega) e1 (by omega)
      omega
    ·exact r4 p q hp hpq (by omega) e1 e2
  refine kW ?_
  by_cases hja:a < j
  ·refine zk [] mixed ?_
   (refine za 0 ?_;refine za 1 ?_;refine za 2 ?_;refine za 3 ?_)
   rw [show decide ((j:Int) > (a:Int))=true from by simp;omega]
   (refine zN 4 ?_;refine zN 5 ?_;refine zN 6 ?_)
   refine cO 7 rfl rfl rfl (zh (j:=j) (len:=N) rfl rfl rfl (by omega)) ?_
   refine cO 8 rfl rfl rfl (zB rfl (vC (f:=g) (n:=N) (j:=j) (rest:=rest) (by omega) (by repeat (first|assumption|exact Fnd.here|refine Fnd.there ?_))) rfl) ?_
   (refine zN 9 ?_;refine zN 10 ?_;refine zN 11 ?_)
   refine cO 12 rfl rfl rfl (zh (j:=j - 1) (len:=N) rfl rfl (by omega) (by omega)) ?_
   refine cO 13 rfl rfl rfl (zB rfl (vC (f:=g) (n:=N) (j:=j - 1) (rest:=rest) (by omega) (by repeat (first|assumption|exact Fnd.here|refine Fnd.there ?_))) rfl) ?_
   (refine ziV 14 (by kernel_rfl) rfl rfl rfl ?_)
   refine cP rfl rfl (zaM (g j) (g (j - 1)) _) ?_
   refine ⟨iC,?_⟩
   (refine zN 15 ?_)
   rw [XM]
   (refine za 16 ?_)
   refine cD ?_
   (repeat' first|refine kW ?_|refine kU fun bk=>?_|refine kV fun hc=>?_|refine kZ (fun hc=>?_) fun hc=>?_|fail)
   ·have hky:ky (g j) < ky (g (j - 1)):=by assumption
    refine zk [2,3,4,15,16,17] mixed ?_
    (refine Qj 2 ?_;refine Qj 3 ?_;refine Qj 4 ?_)
    (refine yU 0 ?_;refine yU 1 ?_;refine yU 5 ?_;refine yU 6 ?_;refine yU 7 ?_)
    (refine yB 8 rfl rfl (by kernel_rfl) iP iC (zh (j:=j - 1) (len:=N) rfl rfl (by omega) (by omega)) (by rfl) ?_)
    (refine yB 9 rfl rfl (by kernel_rfl) iP iC (zB rfl (vC (f:=g) (n:=N) (j:=j - 1) (rest:=rest) (by omega) (by repeat (first|assumption|exact Fnd.here|refine Fnd.there ?_))) rfl) (by rfl) ?_)
    (refine yU 10 ?_;refine yU 11 ?_)
    (refine yB 12 rfl rfl (by kernel_rfl) iP iC (zh (j:=j) (len:=N) rfl rfl rfl (by omega)) (by rfl) ?_)
    (refine yB 13 rfl rfl (by kernel_rfl) iP iC (zB rfl (vC (f:=g) (n:=N) (j:=j) (rest:=rest) (by omega) (by repeat (first|assumption|exact Fnd.here|refine Fnd.there ?_))) rfl) (by rfl) ?_)
    (refine yB 14 rfl rfl (by kernel_rfl) iP iC (zh (j:=j) (len:=N) rfl rfl rfl (by omega)) (by rfl) ?_)
    refine cL 15 rfl rfl rfl ?_
    refine zo (vs:=cv (g (j - 1))) (cvs (upd g j (g (j - 1))) N++rest) rfl rfl rfl rfl (uD (by omega)) iU (by rw [List.length_append,y8];simp [cv];omega) ?_
    refine cL 16 rfl rfl rfl ?_
    refine ze (zh (j:=j - 1) (len:=N) rfl rfl (by omega) (by omega)) rfl ?_
    refine cL 17 rfl rfl rfl ?_
    refine zo (l:=cvs (upd g j (g (j - 1))) N++rest) (vs:=cv (g j)) (cvs (swp g j (j - 1)) N++rest) rfl rfl rfl rfl (by rw [uD (n:=N) (rest:=rest) (j:=j - 1) (by omega),zax]) iU (by rw [List.length_append,y8];simp [cv];omega) ?_
    refine cD ?_
    refine kW ?_
    have ea:swp g j (j - 1) j=g (j - 1):=by simp [swp]
    have eb:swp g j (j - 1) (j - 1)=g j:=by unfold swp;rw [if_neg (by omega),if_pos rfl]
    have ec:∀k,k≠j→k≠j - 1→swp g j (j - 1) k=g k:=fun k k1 k2=>by simp only [swp];rw [if_neg k1,if_neg k2]
    refine zf (X:=Nat × (Nat→Nat × Nat)) (μ:=fun x=>x.1) (x:=(j,g)) (j - 1,swp g j (j - 1)) (by simp only;omega) ⟨by simp only;omega,by simp only;omega,r3.step (by omega) (by omega) (by omega) (by omega),?_,?_⟩ iS (fun w h=>h)
    ·intro p q hp hpq hq hpj hqj
     simp only at hpj hqj ⊢
     by_cases e1:p=j
     ·subst e1
      by_cases e2:q=p
      ·rw [e2];exact Nat.le_refl _
      ·rw [ea,ec q e2 hqj];exact r4 (p - 1) q (by omega) (by omega) hq (by omega) e2
     ·rw [ec p e1 hpj]
      by_cases e2:q=j
      ·subst e2
       rw [ea]
       exact r4 p (q - 1) hp (by omega) (by omega) e1 (by omega)
      ·rw [ec q e2 hqj];exact r4 p q hp hpq hq e1 e2
    ·intro q hq1 hq2
     simp only at hq1 ⊢
     rw [eb]
     by_cases e2:q=j
     ·subst e2;rw [ea];exact Nat.le_of_lt hky
     ·rw [ec q e2 (by omega)];exact r5 q (by omega) hq2
   ·have hky:¬ky (g j) < ky (g (j - 1)):=by assumption
    refine zf (X:=Nat × (Nat→Nat × Nat)) (μ:=fun x=>b+1 - x.1) (x:=(i,g)) (i+1,g) (by simp only;omega) ⟨by simp only;omega,by simp only;omega,r3,hsrt (.inr hky)⟩ iS (fun w h=>h)
  ·refine zk [] mixed ?_
   (refine za 0 ?_;refine za 1 ?_;refine za 2 ?_;refine za 3 ?_)
   rw [show decide ((j:Int) > (a:Int))=false from by simp;omega]
   (refine zD 4 ?_;refine zD 5 ?_;refine zD 6 ?_;refine zD 7 ?_;refine zD 8 ?_;refine zD 9 ?_;refine zD 10 ?_;refine zD 11 ?_;refine zD 12 ?_;refine zD 13 ?_;refine zD 14 ?_;refine zD 15 ?_)
   (refine za 16 ?_)
   refine cD ?_
   refine kW ?_
   refine zf (X:=Nat × (Nat→Nat × Nat)) (μ:=fun x=>b+1 - x.1) (x:=(i,g)) (i+1,g) (by simp only;omega) ⟨by simp only;omega,by simp only;omega,r3,hsrt (.inl (by omega))⟩ iS (fun w h=>h)
 ·refine kR ?_
  exact ⟨_,iC,rfl,g,q3,q4.sub (Nat.le_refl _) (by omega),rfl⟩
end Go.Proofs.YtemdlifojcgplaaGreatDoor
namespace Go.So
set_option linter.all false
variable {α : Type}
theorem zlh (f:Nat→α) {s m e:Nat} (h1:s≤m) (h2:m≤e) (h:¬(s < m∧m < e)):rot f s m e=f:=by
 funext k
 simp only [rot]
 repeat' split
 all_goals first
  |rfl
  |(exfalso;omega)
  |(congr 1;omega)
theorem Y3 {key:α→Nat} {a mid b:Nat} {g1 g2 g3:Nat→α} (ha:a≤mid) (hc:∀i j,a≤i→i < mid→mid≤j→j < b→key (g1 i)≤key (g1 j)) (m2:Mv a mid g1 g2) (m3:Mv mid b g2 g3) (s2:Srt key a mid g2) (s3:Srt key mid b g3):Srt key a b g3:=by
 refine Srt.join (m:=mid) (s2.congr fun k hk1 hk2=>m3.out (.inl hk2)) s3 ?_
 intro i j hi hi2 hj hj2
 rw [m3.out (.inl hi2)]
 refine m3.all (p:=fun x=>key (g2 i)≤key x) (fun j hj hj2=>?_) j hj hj2
 rw [m2.out (.inr hj)]
 exact m2.all (p:=fun x=>key x≤key (g1 j)) (fun i hi hi2=>hc i j hi hi2 hj hj2) i hi hi2
theorem zcg {key:α→Nat} {a s m mid e b:Nat} {f:Nat→α} (h1:a≤s) (h2:s≤m) (h3:m≤e) (h4:e≤b) (hm:s+(e - m)=mid) (sl:Srt key a m f) (sr:Srt key m b f)
 (hab:a < s→e < b→key (f (s - 1))≤key (f e)) (hba:m < e→s < m→key (f (e - 1))≤key (f s)) :
 (∀i j,a≤i→i < mid→mid≤j→j < b→key (rot f s m e i)≤key (rot f s m e j))∧Srt key a s (rot f s m e)∧Srt key s mid (rot f s m e)∧Srt key mid e (rot f s m e)∧Srt key e b (rot f s m e):=by
 have v1:∀k,k < s→rot f s m e k=f k:=fun k hk=>by simp only [rot];rw [if_neg (by omega),if_neg (by omega)]
 have v2:∀k,s≤k→k < mid→rot f s m e k=f (k - s+m):=fun k hk hk2=>by simp only [rot];rw [if_pos (by omega)]
 have v3:∀k,mid≤k→k < e→rot f s m e k=f (k - (e - m)):=fun k hk hk2=>by simp only [rot];rw [if_neg (by omega),if_pos (by omega)]
 have v4:∀k,e≤k→rot f s m e k=f k:=fun k hk=>by simp only [rot];rw [if_neg (by omega),if_neg (by omega)]
 refine ⟨fun i j hi hi2 hj hj2=>?_,fun i j p q r=>?_,fun i j p q r=>?_,fun i j p q r=>?_,fun i j p q r=>?_⟩
 ·by_cases ci:i < s
  ·rw [v1 i ci]
   by_cases cj:j < e
   ·rw [v3 j hj cj]
    exact sl i _ hi (by omega) (by omega)
   ·rw [v4 j (by omega)]
    exact Nat.le_trans (sl i (s - 1) hi (by omega) (by omega)) (Nat.le_trans (hab (by omega) (by omega)) (sr e j (by omega) (by omega) hj2))
  ·rw [v2 i (by omega) hi2]
   by_cases cj:j < e
   ·rw [v3 j hj cj]
    exact Nat.le_trans (sr _ (e - 1) (by omega) (by omega) (by omega)) (Nat.le_trans (hba (by omega) (by omega)) (sl s _ (by omega) (by omega) (by omega)))
   ·rw [v4 j (by omega)]
    exact sr _ _ (by omega) (by omega) hj2
 ·rw [v1 i (by omega),v1 j r];exact sl i j p q (by omega)
 ·rw [v2 i (by omega) (by omega),v2 j (by omega) r];exact sr _ _ (by omega) (by omega) (by omega)
 ·rw [v3 i (by omega) (by omega),v3 j (by omega) r];exact sl _ _ (by omega) (by omega) (by omega)
 ·rw [v4 i (by omega),v4 j (by omega)];exact sr _ _ (by omega) (by omega) (by omega)
end Go.So
namespace Go.Proofs.YtemdlifojcgplaaGreatDoor
open Go Go.Vx Go.So
variable [W0]
set_option maxRecDepth 4000
set_option linter.all false
def zoT (N k:Nat):Prop:=∀(f:Nat→Nat × Nat) (b0 cap a m b:Nat) (rest:List Value) (L:List Chunk),b - a≤k→a < m→m < b→b≤N→Srt ky a m f→Srt ky m b f→
 Gv Tryz.prog 298 [.slice (some ⟨b0,0,none⟩) N cap,.int .i64 (a:Int),.int .i64 (m:Int),.int .i64 (b:Int),uz].toArray ([(b0,cl (cvs f N++rest) 352)]::L)
  (fun r L'=>r=.tuple #[]∧∃g,Mv a b f g∧Srt ky a b g∧L'=[(b0,cl (cvs g N++rest) 352)]::L)
theorem zg4 (N:Nat) (hN:N≤1000):∀k,zoT N k:=by
 intro k
 induction k with
 |zero=>intro f b0 cap a m b rest L h;omega
 |succ k ih=>
  intro f b0 cap a m b rest L hk h1 h2 h3 sl sr
  refine Gv.of_body Tryz.func298 rfl rfl ?_
  (repeat' first|refine kW ?_|refine kU fun bk=>?_|refine kV fun hc=>?_|refine kZ (fun hc=>?_) fun hc=>?_|fail)
  ·have hma:m=a+1:=by omega
   refine zn (X:=Nat × Nat) (fun x=>[(0,.slice (some ⟨b0,0,none⟩) N cap),(1,.int .i64 (a:Int)),(2,.int .i64 (m:Int)),(3,.int .i64 (b:Int)),(4,uz),(10,.int .i64 (x.1:Int)),(11,.int .i64 (x.2:Int))])
    (fun x=>[(b0,cl (cvs f N++rest) 352)]::L) (fun x=>m≤x.1∧x.1≤x.2∧x.2≤b∧(∀t,m≤t→t < x.1→ky (f t) < ky (f a))∧∀t,x.2≤t→t < b→ky (f a)≤ky (f t)) (fun x=>x.2 - x.1) (m,b)
    ⟨Nat.le_refl _,by simp only;omega,Nat.le_refl _,fun t p q=>by simp only at q;omega,fun t p q=>by simp only at p;omega⟩ iS (fun w h=>h) ?_
   rintro ⟨i,j⟩ ⟨q1,q2,q3,q4,q5⟩
   simp only at q1 q2 q3 q4 q5 ⊢
   (repeat' first|refine kW ?_|refine kU fun bk=>?_|refine kV fun hc=>?_|refine kZ (fun hc=>?_) fun hc=>?_|fail)
   ·rw [show ((i:Int)+(j:Int)) / 2=(((i+j) / 2:Nat):Int) from by omega]
    obtain ⟨h,hh⟩:∃h,h=(i+j) / 2:=⟨_,rfl⟩
    rw [←hh]
    refine zk [] mixed ?_
    (refine za 0 ?_;refine za 1 ?_;refine za 2 ?_)
    refine cT 3 rfl rfl (zh (j:=h) (len:=N) rfl rfl rfl (by omega)) ?_
    refine cT 4 rfl rfl (zB rfl (vC (f:=f) (n:=N) (j:=h) (rest:=rest) (by omega) (by repeat (first|assumption|exact Fnd.here|refine Fnd.there ?_))) rfl) ?_
    (refine za 5 ?_;refine za 6 ?_)
    refine cT 7 rfl rfl (zh (j:=a) (len:=N) rfl rfl rfl (by omega)) ?_
    refine cT 8 rfl rfl (zB rfl (vC (f:=f) (n:=N) (j:=a) (rest:=rest) (by omega) (by repeat (first|assumption|exact Fnd.here|refine Fnd.there ?_))) rfl) ?_
    refine cI 9 rfl rfl ?_
    refine cP rfl rfl (zaM (f h) (f a) _) ?_
    refine ⟨iC,?_⟩
    (refine za 10 ?_)
    rw [XM]
    refine cD ?_
    (repeat' first|refine kW ?_|refine kU fun bk=>?_|refine kV fun hc=>?_|refine kZ (fun hc=>?_) fun hc=>?_|fail)
    ·have hky:ky (f h) < ky (f a):=by assumption
     refine zf (X:=Nat × Nat) (μ:=fun x=>x.2 - x.1) (x:=(i,j)) (h+1,j) (by simp only;omega) ⟨by simp only;omega,by simp only;omega,q3,fun t p q=>?_,q5⟩ iS (fun w h=>h)
     simp only at q
     exact Nat.lt_of_le_of_lt (sr t h p (by omega) (by omega)) hky
    ·have hky:¬ky (f h) < ky (f a):=by assumption
     refine zf (X:=Nat × Nat) (μ:=fun x=>x.2 - x.1) (x:=(i,j)) (i,h) (by simp only;omega) ⟨q1,by simp only;omega,by simp only;omega,q4,fun t p q=>?_⟩ iS (fun w h=>h)
     simp only at p
     exact Nat.le_trans (by omega) (sr h t (by omega) p q)
   ·have hij:i=j:=by omega
    refine zn (X:=Nat × (Nat→Nat × Nat)) (fun x=>[(0,.slice (some ⟨b0,0,none⟩) N cap),(10,.int .i64 (i:Int)),(13,.int .i64 (x.1:Int))])
     (fun x=>[(b0,cl (cvs x.2 N++rest) 352)]::L) (fun x=>a≤x.1∧x.1≤i - 1∧Mv a b f x.2∧x.2 x.1=f a∧(∀t,a≤t→t < x.1→x.2 t=f (t+1))∧∀t,x.1 < t→x.2 t=f t) (fun x=>i - x.1) (a,f)
     ⟨Nat.le_refl _,by simp only;omega,.refl f,rfl,fun t p q=>by simp only at q;omega,fun t p=>rfl⟩ iS (fun w h=>h) ?_
    rintro ⟨k,g⟩ ⟨r1,r2,r3,r4,r5,r6⟩
    simp only at r1 r2 r3 r4 r5 r6 ⊢
    (repeat' first|refine kW ?_|refine kU fun bk=>?_|refine kV fun hc=>?_|refine kZ (fun hc=>?_) fun hc=>?_|fail)
    ·refine zk [2,3,4,15,16,17] mixed ?_
     (refine Qj 2 ?_;refine Qj 3 ?_;refine Qj 4 ?_)
     (refine yU 0 ?_;refine yU 1 ?_;refine yU 5 ?_;refine yU 6 ?_;refine yU 7 ?_)
     (refine yB 8 rfl rfl (by kernel_rfl) iP iC (zh (j:=k+1) (len:=N) rfl rfl (by omega) (by omega)) (by rfl) ?_)
     (refine yB 9 rfl rfl (by kernel_rfl) iP iC (zB rfl (vC (f:=g) (n:=N) (j:=k+1) (rest:=rest) (by omega) (by repeat (first|assumption|exact Fnd.here|refine Fnd.there ?_))) rfl) (by rfl) ?_)
     (refine yU 10 ?_;refine yU 11 ?_)
     (refine yB 12 rfl rfl (by kernel_rfl) iP iC (zh (j:=k) (len:=N) rfl rfl rfl (by omega)) (by rfl) ?_)
     (refine yB 13 rfl rfl (by kernel_rfl) iP iC (zB rfl (vC (f:=g) (n:=N) (j:=k) (rest:=rest) (by omega) (by repeat (first|assumption|exact Fnd.here|refine Fnd.there ?_))) rfl) (by rfl) ?_)
     (refine yB 14 rfl rfl (by kernel_rfl) iP iC (zh (j:=k) (len:=N) rfl rfl rfl (by omega)) (by rfl) ?_)
     refine cL 15 rfl rfl rfl ?_
     refine zo (vs:=cv (g (k+1))) (cvs (upd g (k) (g (k+1))) N++rest) rfl rfl rfl rfl (uD (by omega)) iU (by rw [List.length_append,y8];simp [cv];omega) ?_
     refine cL 16 rfl rfl rfl ?_
     refine ze (zh (j:=k+1) (len:=N) rfl rfl (by omega) (by omega)) rfl ?_
     refine cL 17 rfl rfl rfl ?_
     refine zo (l:=cvs (upd g (k) (g (k+1))) N++rest) (vs:=cv (g (k))) (cvs (swp g (k) (k+1)) N++rest) rfl rfl rfl rfl (by rw [uD (n:=N) (rest:=rest) (j:=k+1) (by omega),zax]) iU (by rw [List.length_append,y8];simp [cv];omega) ?_
     refine cD ?_
     refine kW ?_
     refine zf (X:=Nat × (Nat→Nat × Nat)) (μ:=fun x=>i - x.1) (x:=(k,g)) (k+1,swp g k (k+1)) (by simp only;omega) ⟨by simp only;omega,by simp only;omega,r3.step (by omega) (by omega) (by omega) (by omega),?_,fun t p q=>?_,fun t p=>?_⟩ iS (fun w h=>h)
     ·show swp g k (k+1) (k+1)=f a
      unfold swp
      rw [if_neg (by omega),if_pos rfl]
      exact r4
     ·show swp g k (k+1) t=f (t+1)
      unfold swp
      simp only at q
      by_cases e:t=k
      ·rw [if_pos e,r6 (k+1) (by omega),e]
      ·rw [if_neg e,if_neg (by omega)]
       exact r5 t p (by omega)
     ·show swp g k (k+1) t=f t
      unfold swp
      simp only at p
      rw [if_neg (by omega),if_neg (by omega)]
      exact r6 t (by omega)
    ·have hki:k=i - 1:=by omega
     refine kR ?_
     refine ⟨_,iC,rfl,g,r3,fun p q hp hpq hq=>?_,rfl⟩
     by_cases e1:p < k
     ·rw [r5 p hp e1]
      by_cases e2:q < k
      ·rw [r5 q (by omega) e2];exact sr _ _ (by omega) (by omega) (by omega)
      ·by_cases e3:q=k
       ·rw [e3,r4];exact Nat.le_of_lt (q4 _ (by omega) (by omega))
       ·rw [r6 q (by omega)];exact sr _ _ (by omega) (by omega) hq
     ·by_cases e2:p=k
      ·rw [e2,r4]
       by_cases e3:q=k
       ·rw [e3,r4];exact Nat.le_refl _
       ·rw [r6 q (by omega)];exact q5 q (by omega) hq
      ·rw [r6 p (by omega),r6 q (by omega)];exact sr _ _ (by omega) hpq hq
  ·have hmb:b=m+1:=by omega
   refine zn (X:=Nat × Nat) (fun x=>[(0,.slice (some ⟨b0,0,none⟩) N cap),(1,.int .i64 (a:Int)),(2,.int .i64 (m:Int)),(3,.int .i64 (b:Int)),(4,uz),(14,.int .i64 (x.1:Int)),(15,.int .i64 (x.2:Int))])
    (fun x=>[(b0,cl (cvs f N++rest) 352)]::L) (fun x=>a≤x.1∧x.1≤x.2∧x.2≤m∧(∀t,a≤t→t < x.1→ky (f t)≤ky (f m))∧∀t,x.2≤t→t < m→ky (f m)≤ky (f t)) (fun x=>x.2 - x.1) (a,m)
    ⟨Nat.le_refl _,by simp only;omega,Nat.le_refl _,fun t p q=>by simp only at q;omega,fun t p q=>by simp only at p;omega⟩ iS (fun w h=>h) ?_
   rintro ⟨i,j⟩ ⟨q1,q2,q3,q4,q5⟩
   simp only at q1 q2 q3 q4 q5 ⊢
   (repeat' first|refine kW ?_|refine kU fun bk=>?_|refine kV fun hc=>?_|refine kZ (fun hc=>?_) fun hc=>?_|fail)
   ·rw [show ((i:Int)+(j:Int)) / 2=(((i+j) / 2:Nat):Int) from by omega]
    obtain ⟨h,hh⟩:∃h,h=(i+j) / 2:=⟨_,rfl⟩
    rw [←hh]
    refine zk [] mixed ?_
    (refine za 0 ?_;refine za 1 ?_;refine za 2 ?_)
    refine cT 3 rfl rfl (zh (j:=m) (len:=N) rfl rfl rfl (by omega)) ?_
    refine cT 4 rfl rfl (zB rfl (vC (f:=f) (n:=N) (j:=m) (rest:=rest) (by omega) (by repeat (first|assumption|exact Fnd.here|refine Fnd.there ?_))) rfl) ?_
    (refine za 5 ?_;refine za 6 ?_)
    refine cT 7 rfl rfl (zh (j:=h) (len:=N) rfl rfl rfl (by omega)) ?_
    refine cT 8 rfl rfl (zB rfl (vC (f:=f) (n:=N) (j:=h) (rest:=rest) (by omega) (by repeat (first|assumption|exact Fnd.here|refine Fnd.there ?_))) rfl) ?_
    refine cI 9 rfl rfl ?_
    refine cP rfl rfl (zaM (f m) (f h) _) ?_
    refine ⟨iC,?_⟩
    (refine za 10 ?_)
    rw [XM]
    (refine za 11 ?_)
    refine cD ?_
    (repeat' first|refine kW ?_|refine kU fun bk=>?_|refine kV fun hc=>?_|refine kZ (fun hc=>?_) fun hc=>?_|fail)
    ·have hky:¬ky (f m) < ky (f h):=by assumption
     refine zf (X:=Nat × Nat) (μ:=fun x=>x.2 - x.1) (x:=(i,j)) (h+1,j) (by simp only;omega) ⟨by simp only;omega,by simp only;omega,q3,fun t p q=>?_,q5⟩ iS (fun w h=>h)
     simp only at q
     exact Nat.le_trans (sl t h p (by omega) (by omega)) (by omega)
    ·have hky:ky (f m) < ky (f h):=by assumption
     refine zf (X:=Nat × Nat) (μ:=fun x=>x.2 - x.1) (x:=(i,j)) (i,h) (by simp only;omega) ⟨q1,by simp only;omega,by simp only;omega,q4,fun t p q=>?_⟩ iS (fun w h=>h)
     simp only at p
     exact Nat.le_trans (Nat.le_of_lt hky) (sl h t (by omega) p q)
   ·have hij:i=j:=by omega
    refine zn (X:=Nat × (Nat→Nat × Nat)) (fun x=>[(0,.slice (some ⟨b0,0,none⟩) N cap),(14,.int .i64 (i:Int)),(17,.int .i64 (x.1:Int))])
     (fun x=>[(b0,cl (cvs x.2 N++rest) 352)]::L) (fun x=>i≤x.1∧x.1≤m∧Mv a b f x.2∧x.2 x.1=f m∧(∀t,x.1 < t→t≤m→x.2 t=f (t - 1))∧∀t,t < x.1→x.2 t=f t) (fun x=>x.1) (m,f)
     ⟨by simp only;omega,Nat.le_refl _,.refl f,rfl,fun t p q=>by simp only at p;omega,fun t p=>rfl⟩ iS (fun w h=>h) ?_
    rintro ⟨k,g⟩ ⟨r1,r2,r3,r4,r5,r6⟩
    simp only at r1 r2 r3 r4 r5 r6 ⊢
    (repeat' first|refine kW ?_|refine kU fun bk=>?_|refine kV fun hc=>?_|refine kZ (fun hc=>?_) fun hc=>?_|fail)
    ·refine zk [2,3,4,15,16,17] mixed ?_
     (refine Qj 2 ?_;refine Qj 3 ?_;refine Qj 4 ?_)
     (refine yU 0 ?_;refine yU 1 ?_;refine yU 5 ?_;refine yU 6 ?_;refine yU 7 ?_)
     (refine yB 8 rfl rfl (by kernel_rfl) iP iC (zh (j:=k - 1) (len:=N) rfl rfl (by omega) (by omega)) (by rfl) ?_)
     (refine yB 9 rfl rfl (by kernel_rfl) iP iC (zB rfl (vC (f:=g) (n:=N) (j:=k - 1) (rest:=rest) (by omega) (by repeat (first|assumption|exact Fnd.here|refine Fnd.there ?_))) rfl) (by rfl) ?_)
     (refine yU 10 ?_;refine yU 11 ?_)
     (refine yB 12 rfl rfl (by kernel_rfl) iP iC (zh (j:=k) (len:=N) rfl rfl rfl (by omega)) (by rfl) ?_)
     (refine yB 13 rfl rfl (by kernel_rfl) iP iC (zB rfl (vC (f:=g) (n:=N) (j:=k) (rest:=rest) (by omega) (by repeat (first|assumption|exact Fnd.here|refine Fnd.there ?_))) rfl) (by rfl) ?_)
     (refine yB 14 rfl rfl (by kernel_rfl) iP iC (zh (j:=k) (len:=N) rfl rfl rfl (by omega)) (by rfl) ?_)
     refine cL 15 rfl rfl rfl ?_
     refine zo (vs:=cv (g (k - 1))) (cvs (upd g (k) (g (k - 1))) N++rest) rfl rfl rfl rfl (uD (by omega)) iU (by rw [List.length_append,y8];simp [cv];omega) ?_
     refine cL 16 rfl rfl rfl ?_
     refine ze (zh (j:=k - 1) (len:=N) rfl rfl (by omega) (by omega)) rfl ?_
     refine cL 17 rfl rfl rfl ?_
     refine zo (l:=cvs (upd g (k) (g (k - 1))) N++rest) (vs:=cv (g (k))) (cvs (swp g (k) (k - 1)) N++rest) rfl rfl rfl rfl (by rw [uD (n:=N) (rest:=rest) (j:=k - 1) (by omega),zax]) iU (by rw [List.length_append,y8];simp [cv];omega) ?_
     refine cD ?_
     refine kW ?_
     refine zf (X:=Nat × (Nat→Nat × Nat)) (μ:=fun x=>x.1) (x:=(k,g)) (k - 1,swp g k (k - 1)) (by simp only;omega) ⟨by simp only;omega,by simp only;omega,r3.step (by omega) (by omega) (by omega) (by omega),?_,fun t p q=>?_,fun t p=>?_⟩ iS (fun w h=>h)
     ·show swp g k (k - 1) (k - 1)=f m
      unfold swp
      rw [if_neg (by omega),if_pos rfl]
      exact r4
     ·show swp g k (k - 1) t=f (t - 1)
      unfold swp
      simp only at p
      by_cases e:t=k
      ·rw [if_pos e,r6 (k - 1) (by omega),e]
      ·rw [if_neg e,if_neg (by omega)]
       exact r5 t (by omega) q
     ·show swp g k (k - 1) t=f t
      unfold swp
      simp only at p
      rw [if_neg (by omega),if_neg (by omega)]
      exact r6 t (by omega)
    ·have hki:k=i:=by omega
     refine kR ?_
     refine ⟨_,iC,rfl,g,r3,fun p q hp hpq hq=>?_,rfl⟩
     by_cases e1:p < k
     ·rw [r6 p e1]
      by_cases e2:q < k
      ·rw [r6 q e2];exact sl _ _ hp hpq (by omega)
      ·by_cases e3:q=k
       ·rw [e3,r4];exact q4 _ hp (by omega)
       ·rw [r5 q (by omega) (by omega)];exact sl _ _ hp (by omega) (by omega)
     ·by_cases e2:p=k
      ·rw [e2,r4]
       by_cases e3:q=k
       ·rw [e3,r4];exact Nat.le_refl _
       ·rw [r5 q (by omega) (by omega)];exact q5 _ (by omega) (by omega)
      ·rw [r5 p (by omega) (by omega),r5 q (by omega) (by omega)];exact sl _ _ (by omega) (by omega) (by omega)
  ·obtain ⟨mid,hmid⟩:∃mid,mid=(a+b) / 2:=⟨_,rfl⟩
   obtain ⟨s0,hs0⟩:∃s0,s0=mid+m - b:=⟨_,rfl⟩
   obtain ⟨r0,hr0⟩:∃r0,r0=mid:=⟨_,rfl⟩
   have hsr:s0≤r0:=by omega
   refine zn (X:=Nat × Nat) (fun x=>[(0,.slice (some ⟨b0,0,none⟩) N cap),(1,.int .i64 (a:Int)),(2,.int .i64 (m:Int)),(3,.int .i64 (b:Int)),(4,uz),(18,.int .i64 (mid:Int)),(19,.int .i64 ((mid+m:Nat):Int)),(20,.int .i64 (x.1:Int)),(21,.int .i64 (x.2:Int)),(22,.int .i64 ((mid+m - 1:Nat):Int))])
    (fun x=>[(b0,cl (cvs f N++rest) 352)]::L) (fun x=>s0≤x.1∧x.1≤x.2∧x.2≤r0∧(∀t,s0≤t→t < x.1→ky (f t)≤ky (f (mid+m - 1 - t)))∧∀t,x.2≤t→t < r0→ky (f (mid+m - 1 - t)) < ky (f t)) (fun x=>x.2 - x.1) (s0,r0)
    ⟨Nat.le_refl _,hsr,Nat.le_refl _,fun t p q=>by simp only at q;omega,fun t p q=>by simp only at p;omega⟩ iS (fun w h=>h) ?_
   rintro ⟨s,r⟩ ⟨q1,q2,q3,q4,q5⟩
   simp only at q1 q2 q3 q4 q5 ⊢
   refine vg ?_
   (repeat' first|refine kY ?_|refine kU fun bk=>?_|refine kV fun hc=>?_|refine kZ (fun hc=>?_) fun hc=>?_|fail)
   refine vg ?_
   (repeat' first|refine kY ?_|refine kU fun bk=>?_|refine kV fun hc=>?_|refine kZ (fun hc=>?_) fun hc=>?_|fail)
   ·refine kW ?_
    rw [show ((s:Int)+(r:Int)) / 2=(((s+r) / 2:Nat):Int) from by omega]
    obtain ⟨h,hh⟩:∃h,h=(s+r) / 2:=⟨_,rfl⟩
    rw [←hh]
    refine zk [] mixed ?_
    (refine za 0 ?_;refine za 1 ?_;refine za 2 ?_;refine za 3 ?_;refine za 4 ?_)
    refine cT 5 rfl rfl (zh (j:=mid+m - 1 - h) (len:=N) rfl rfl (by omega) (by omega)) ?_
    refine cT 6 rfl rfl (zB rfl (vC (f:=f) (n:=N) (j:=mid+m - 1 - h) (rest:=rest) (by omega) (by repeat (first|assumption|exact Fnd.here|refine Fnd.there ?_))) rfl) ?_
    (refine za 7 ?_;refine za 8 ?_)
    refine cT 9 rfl rfl (zh (j:=h) (len:=N) rfl rfl rfl (by omega)) ?_
    refine cT 10 rfl rfl (zB rfl (vC (f:=f) (n:=N) (j:=h) (rest:=rest) (by omega) (by repeat (first|assumption|exact Fnd.here|refine Fnd.there ?_))) rfl) ?_
    refine cI 11 rfl rfl ?_
    refine cP rfl rfl (zaM (f (mid+m - 1 - h)) (f h) _) ?_
    refine ⟨iC,?_⟩
    (refine za 12 ?_)
    rw [XM]
    (refine za 13 ?_)
    refine cD ?_
    (repeat' first|refine kW ?_|refine kU fun bk=>?_|refine kV fun hc=>?_|refine kZ (fun hc=>?_) fun hc=>?_|fail)
    ·have hky:¬ky (f (mid+m - 1 - h)) < ky (f h):=by assumption
     refine zf (X:=Nat × Nat) (μ:=fun x=>x.2 - x.1) (x:=(s,r)) (h+1,r) (by simp only;omega) ⟨by simp only;omega,by simp only;omega,q3,fun t p q=>?_,q5⟩ iS (fun w h=>h)
     simp only at q
     have e1:=sl t h (by omega) (by omega) (by omega)
     have e2:=sr (mid+m - 1 - h) (mid+m - 1 - t) (by omega) (by omega) (by omega)
     omega
    ·have hky:ky (f (mid+m - 1 - h)) < ky (f h):=by assumption
     refine zf (X:=Nat × Nat) (μ:=fun x=>x.2 - x.1) (x:=(s,r)) (s,h) (by simp only;omega) ⟨q1,by simp only;omega,by simp only;omega,q4,fun t p q=>?_⟩ iS (fun w h=>h)
     simp only at p
     have e1:=sl h t (by omega) (by omega) (by omega)
     have e2:=sr (mid+m - 1 - t) (mid+m - 1 - h) (by omega) (by omega) (by omega)
     omega
   ·have hsr2:s=r:=by omega
    obtain ⟨e,he⟩:∃e,e=mid+m - s:=⟨_,rfl⟩
    have hem:m≤e:=by omega
    have heb:e≤b:=by omega
    have hsm:s≤m:=by omega
    obtain ⟨hc1,k1,k2,k3,k4⟩:=zcg (key:=ky) (f:=f) (a:=a) (s:=s) (m:=m) (mid:=mid) (e:=e) (b:=b) (by omega) hsm hem heb (by omega) sl sr
     (fun p q=>by
       have:=q4 (s - 1) (by omega) (by omega)
       rw [show mid+m - 1 - (s - 1)=e from by omega] at this
       exact this)
     (fun p q=>by
       have:=q5 s (by omega) (by omega)
       rw [show mid+m - 1 - s=e - 1 from by omega] at this
       exact Nat.le_of_lt this)
    refine vg ?_
    (repeat' first|refine kY ?_|refine kU fun bk=>?_|refine kV fun hc=>?_|refine kZ (fun hc=>?_) fun hc=>?_|fail)
    refine Zy (X:=Nat→Nat × Nat) (fun g=>[(0,.slice (some ⟨b0,0,none⟩) N cap),(1,.int .i64 (a:Int)),(2,.int .i64 (m:Int)),(3,.int .i64 (b:Int)),(4,uz),(18,.int .i64 (mid:Int)),(20,.int .i64 (s:Int)),(24,.int .i64 (e:Int))])
     (fun g=>[(b0,cl (cvs g N++rest) 352)]::L) (fun g=>Mv a b f g∧g=rot f s m e) ?_ ?_
    ·have hid:¬(s < m∧m < e)→f=rot f s m e:=fun h=>(zlh f hsm hem h).symm
     refine qP (fun w h=>h) (WC.sub (M':=[(0,.slice (some ⟨b0,0,none⟩) N cap),(1,.int .i64 (a:Int)),(2,.int .i64 (m:Int)),(3,.int .i64 (b:Int)),(4,uz),(18,.int .i64 (mid:Int)),(20,.int .i64 (s:Int)),(24,.int .i64 (e:Int))]) ?_ iS)
     (repeat' first|refine kW ?_|refine kU fun bk=>?_|refine kV fun hc=>?_|refine kZ (fun hc=>?_) fun hc=>?_|fail)
     all_goals first
      |exact yA f ⟨.refl f,hid (by omega)⟩ iS (fun w h=>h)
      |skip
     refine cC rfl rfl (zeF f N b0 cap s m e rest L hN (by omega) (by omega) (by omega)) (fun r L' hp=>?_)
     obtain ⟨rfl,g,hg1,hg2,rfl⟩:=hp
     refine kW ?_
     exact yA g ⟨hg1.mono (by omega) heb,hg2⟩ iS (fun w h=>h)
    rintro g1 ⟨hg1,hg2⟩
    rw [←hg2] at hc1 k1 k2 k3 k4
    refine Zy (X:=Nat→Nat × Nat) (fun g=>[(0,.slice (some ⟨b0,0,none⟩) N cap),(1,.int .i64 (a:Int)),(2,.int .i64 (m:Int)),(3,.int .i64 (b:Int)),(4,uz),(18,.int .i64 (mid:Int)),(20,.int .i64 (s:Int)),(24,.int .i64 (e:Int))])
     (fun g=>[(b0,cl (cvs g N++rest) 352)]::L) (fun g=>Mv a mid g1 g∧Srt ky a mid g) ?_ ?_
    ·have hid:¬(a < s∧s < mid)→Srt ky a mid g1:=fun h=>by
      by_cases e1:s=a
      ·rw [e1] at k2;exact k2
      ·rw [show mid=s from by omega];exact k1
     (repeat' first|refine kW ?_|refine kU fun bk=>?_|refine kV fun hc=>?_|refine kZ (fun hc=>?_) fun hc=>?_|fail)
     all_goals first
      |exact yA g1 ⟨.refl g1,hid (by omega)⟩ iS (fun w h=>h)
      |skip
     refine cC rfl rfl (ih g1 b0 cap a s mid rest L (by omega) (by omega) (by omega) (by omega) k1 k2) (fun r L' hp=>?_)
     obtain ⟨rfl,g,hg3,hg4,rfl⟩:=hp
     refine kW ?_
     exact yA g ⟨hg3,hg4⟩ iS (fun w h=>h)
    rintro g2 ⟨hg3,hg4⟩
    have k3':Srt ky mid e g2:=k3.congr fun k p q=>hg3.out (.inr p)
    have k4':Srt ky e b g2:=k4.congr fun k p q=>hg3.out (.inr (by omega))
    have hmv:Mv a b f g2:=hg1.trans (hg3.mono (Nat.le_refl _) (by omega))
    have hid:¬(mid < e∧e < b)→Srt ky mid b g2:=fun h=>by
     by_cases e1:e=mid
     ·rw [e1] at k4';exact k4'
     ·rw [show b=e from by omega];exact k3'
    (repeat' first|refine kW ?_|refine kU fun bk=>?_|refine kV fun hc=>?_|refine kZ (fun hc=>?_) fun hc=>?_|fail)
    all_goals first
     |(refine kR ?_
       exact ⟨_,iC,rfl,g2,hmv,Y3 (by omega) hc1 hg3 (.refl g2) hg4 (hid (by omega)),rfl⟩)
     |skip
    refine cC rfl rfl (ih g2 b0 cap mid e b rest L (by omega) (by omega) (by omega) (by omega) k3' k4') (fun r L' hp=>?_)
    obtain ⟨rfl,g,hg5,hg6,rfl⟩:=hp
    refine kW ?_
    refine kR ?_
    exact ⟨_,iC,rfl,g,hmv.trans (hg5.mono (by omega) (Nat.le_refl _)),Y3 (by omega) hc1 hg3 hg5 hg4 hg6,rfl⟩
  ·obtain ⟨mid,hmid⟩:∃mid,mid=(a+b) / 2:=⟨_,rfl⟩
   obtain ⟨s0,hs0⟩:∃s0,s0=a:=⟨_,rfl⟩
   obtain ⟨r0,hr0⟩:∃r0,r0=m:=⟨_,rfl⟩
   have hsr:s0≤r0:=by omega
   refine zn (X:=Nat × Nat) (fun x=>[(0,.slice (some ⟨b0,0,none⟩) N cap),(1,.int .i64 (a:Int)),(2,.int .i64 (m:Int)),(3,.int .i64 (b:Int)),(4,uz),(18,.int .i64 (mid:Int)),(19,.int .i64 ((mid+m:Nat):Int)),(20,.int .i64 (x.1:Int)),(21,.int .i64 (x.2:Int)),(22,.int .i64 ((mid+m - 1:Nat):Int))])
    (fun x=>[(b0,cl (cvs f N++rest) 352)]::L) (fun x=>s0≤x.1∧x.1≤x.2∧x.2≤r0∧(∀t,s0≤t→t < x.1→ky (f t)≤ky (f (mid+m - 1 - t)))∧∀t,x.2≤t→t < r0→ky (f (mid+m - 1 - t)) < ky (f t)) (fun x=>x.2 - x.1) (s0,r0)
    ⟨Nat.le_refl _,hsr,Nat.le_refl _,fun t p q=>by simp only at q;omega,fun t p q=>by simp only at p;omega⟩ iS (fun w h=>h) ?_
   rintro ⟨s,r⟩ ⟨q1,q2,q3,q4,q5⟩
   simp only at q1 q2 q3 q4 q5 ⊢
   refine vg ?_
   (repeat' first|refine kY ?_|refine kU fun bk=>?_|refine kV fun hc=>?_|refine kZ (fun hc=>?_) fun hc=>?_|fail)
   refine vg ?_
   (repeat' first|refine kY ?_|refine kU fun bk=>?_|refine kV fun hc=>?_|refine kZ (fun hc=>?_) fun hc=>?_|fail)
   ·refine kW ?_
    rw [show ((s:Int)+(r:Int)) / 2=(((s+r) / 2:Nat):Int) from by omega]
    obtain ⟨h,hh⟩:∃h,h=(s+r) / 2:=⟨_,rfl⟩
    rw [←hh]
    refine zk [] mixed ?_
    (refine za 0 ?_;refine za 1 ?_;refine za 2 ?_;refine za 3 ?_;refine za 4 ?_)
    refine cT 5 rfl rfl (zh (j:=mid+m - 1 - h) (len:=N) rfl rfl (by omega) (by omega)) ?_
    refine cT 6 rfl rfl (zB rfl (vC (f:=f) (n:=N) (j:=mid+m - 1 - h) (rest:=rest) (by omega) (by repeat (first|assumption|exact Fnd.here|refine Fnd.there ?_))) rfl) ?_
    (refine za 7 ?_;refine za 8 ?_)
    refine cT 9 rfl rfl (zh (j:=h) (len:=N) rfl rfl rfl (by omega)) ?_
    refine cT 10 rfl rfl (zB rfl (vC (f:=f) (n:=N) (j:=h) (rest:=rest) (by omega) (by repeat (first|assumption|exact Fnd.here|refine Fnd.there ?_))) rfl) ?_
    refine cI 11 rfl rfl ?_
    refine cP rfl rfl (zaM (f (mid+m - 1 - h)) (f h) _) ?_
    refine ⟨iC,?_⟩
    (refine za 12 ?_)
    rw [XM]
    (refine za 13 ?_)
    refine cD ?_
    (repeat' first|refine kW ?_|refine kU fun bk=>?_|refine kV fun hc=>?_|refine kZ (fun hc=>?_) fun hc=>?_|fail)
    ·have hky:¬ky (f (mid+m - 1 - h)) < ky (f h):=by assumption
     refine zf (X:=Nat × Nat) (μ:=fun x=>x.2 - x.1) (x:=(s,r)) (h+1,r) (by simp only;omega) ⟨by simp only;omega,by simp only;omega,q3,fun t p q=>?_,q5⟩ iS (fun w h=>h)
     simp only at q
     have e1:=sl t h (by omega) (by omega) (by omega)
     have e2:=sr (mid+m - 1 - h) (mid+m - 1 - t) (by omega) (by omega) (by omega)
     omega
    ·have hky:ky (f (mid+m - 1 - h)) < ky (f h):=by assumption
     refine zf (X:=Nat × Nat) (μ:=fun x=>x.2 - x.1) (x:=(s,r)) (s,h) (by simp only;omega) ⟨q1,by simp only;omega,by simp only;omega,q4,fun t p q=>?_⟩ iS (fun w h=>h)
     simp only at p
     have e1:=sl h t (by omega) (by omega) (by omega)
     have e2:=sr (mid+m - 1 - t) (mid+m - 1 - h) (by omega) (by omega) (by omega)
     omega
   ·have hsr2:s=r:=by omega
    obtain ⟨e,he⟩:∃e,e=mid+m - s:=⟨_,rfl⟩
    have hem:m≤e:=by omega
    have heb:e≤b:=by omega
    have hsm:s≤m:=by omega
    obtain ⟨hc1,k1,k2,k3,k4⟩:=zcg (key:=ky) (f:=f) (a:=a) (s:=s) (m:=m) (mid:=mid) (e:=e) (b:=b) (by omega) hsm hem heb (by omega) sl sr
     (fun p q=>by
       have:=q4 (s - 1) (by omega) (by omega)
       rw [show mid+m - 1 - (s - 1)=e from by omega] at this
       exact this)
     (fun p q=>by
       have:=q5 s (by omega) (by omega)
       rw [show mid+m - 1 - s=e - 1 from by omega] at this
       exact Nat.le_of_lt this)
    refine vg ?_
    (repeat' first|refine kY ?_|refine kU fun bk=>?_|refine kV fun hc=>?_|refine kZ (fun hc=>?_) fun hc=>?_|fail)
    refine Zy (X:=Nat→Nat × Nat) (fun g=>[(0,.slice (some ⟨b0,0,none⟩) N cap),(1,.int .i64 (a:Int)),(2,.int .i64 (m:Int)),(3,.int .i64 (b:Int)),(4,uz),(18,.int .i64 (mid:Int)),(20,.int .i64 (s:Int)),(24,.int .i64 (e:Int))])
     (fun g=>[(b0,cl (cvs g N++rest) 352)]::L) (fun g=>Mv a b f g∧g=rot f s m e) ?_ ?_
    ·have hid:¬(s < m∧m < e)→f=rot f s m e:=fun h=>(zlh f hsm hem h).symm
     refine qP (fun w h=>h) (WC.sub (M':=[(0,.slice (some ⟨b0,0,none⟩) N cap),(1,.int .i64 (a:Int)),(2,.int .i64 (m:Int)),(3,.int .i64 (b:Int)),(4,uz),(18,.int .i64 (mid:Int)),(20,.int .i64 (s:Int)),(24,.int .i64 (e:Int))]) ?_ iS)
     (repeat' first|refine kW ?_|refine kU fun bk=>?_|refine kV fun hc=>?_|refine kZ (fun hc=>?_) fun hc=>?_|fail)
     all_goals first
      |exact yA f ⟨.refl f,hid (by omega)⟩ iS (fun w h=>h)
      |skip
     refine cC rfl rfl (zeF f N b0 cap s m e rest L hN (by omega) (by omega) (by omega)) (fun r L' hp=>?_)
     obtain ⟨rfl,g,hg1,hg2,rfl⟩:=hp
     refine kW ?_
     exact yA g ⟨hg1.mono (by omega) heb,hg2⟩ iS (fun w h=>h)
    rintro g1 ⟨hg1,hg2⟩
    rw [←hg2] at hc1 k1 k2 k3 k4
    refine Zy (X:=Nat→Nat × Nat) (fun g=>[(0,.slice (some ⟨b0,0,none⟩) N cap),(1,.int .i64 (a:Int)),(2,.int .i64 (m:Int)),(3,.int .i64 (b:Int)),(4,uz),(18,.int .i64 (mid:Int)),(20,.int .i64 (s:Int)),(24,.int .i64 (e:Int))])
     (fun g=>[(b0,cl (cvs g N++rest) 352)]::L) (fun g=>Mv a mid g1 g∧Srt ky a mid g) ?_ ?_
    ·have hid:¬(a < s∧s < mid)→Srt ky a mid g1:=fun h=>by
      by_cases e1:s=a
      ·rw [e1] at k2;exact k2
      ·rw [show mid=s from by omega];exact k1
     (repeat' first|refine kW ?_|refine kU fun bk=>?_|refine kV fun hc=>?_|refine kZ (fun hc=>?_) fun hc=>?_|fail)
     all_goals first
      |exact yA g1 ⟨.refl g1,hid (by omega)⟩ iS (fun w h=>h)
      |skip
     refine cC rfl rfl (ih g1 b0 cap a s mid rest L (by omega) (by omega) (by omega) (by omega) k1 k2) (fun r L' hp=>?_)
     obtain ⟨rfl,g,hg3,hg4,rfl⟩:=hp
     refine kW ?_
     exact yA g ⟨hg3,hg4⟩ iS (fun w h=>h)
    rintro g2 ⟨hg3,hg4⟩
    have k3':Srt ky mid e g2:=k3.congr fun k p q=>hg3.out (.inr p)
    have k4':Srt ky e b g2:=k4.congr fun k p q=>hg3.out (.inr (by omega))
    have hmv:Mv a b f g2:=hg1.trans (hg3.mono (Nat.le_refl _) (by omega))
    have hid:¬(mid < e∧e < b)→Srt ky mid b g2:=fun h=>by
     by_cases e1:e=mid
     ·rw [e1] at k4';exact k4'
     ·rw [show b=e from by omega];exact k3'
    (repeat' first|refine kW ?_|refine kU fun bk=>?_|refine kV fun hc=>?_|refine kZ (fun hc=>?_) fun hc=>?_|fail)
    all_goals first
     |(refine kR ?_
       exact ⟨_,iC,rfl,g2,hmv,Y3 (by omega) hc1 hg3 (.refl g2) hg4 (hid (by omega)),rfl⟩)
     |skip
    refine cC rfl rfl (ih g2 b0 cap mid e b rest L (by omega) (by omega) (by omega) (by omega) k3' k4') (fun r L' hp=>?_)
    obtain ⟨rfl,g,hg5,hg6,rfl⟩:=hp
    refine kW ?_
    refine kR ?_
    exact ⟨_,iC,rfl,g,hmv.trans (hg5.mono (by omega) (Nat.le_refl _)),Y3 (by omega) hc1 hg3 hg5 hg4 hg6,rfl⟩
end Go.Proofs.YtemdlifojcgplaaGreatDoor
namespace Go.So
set_option linter.all false
variable {α : Type}
def Blk (key:α→Nat) (s n:Nat) (f:Nat→α):Prop:=∀c,s ∣ c→Srt key c (min (c+s) n) f
theorem ZC {d c a:Nat} (h1:d ∣ c) (h2:d ∣ a) (h:c < a):c+d≤a:=by
 obtain ⟨x,rfl⟩:=h1
 obtain ⟨y,rfl⟩:=h2
 have hxy:x < y:=by
  rcases Nat.lt_or_ge x y with h'|h'
  ·exact h'
  ·have:=Nat.mul_le_mul_left d h'
   omega
 have:=Nat.mul_le_mul_left d hxy
 rw [Nat.mul_succ] at this
 exact this
structure Half (key:α→Nat) (s n a:Nat) (f:Nat→α):Prop where
 al:2 * s ∣ a
 le:a≤n
 lo:∀c,2 * s ∣ c→c+2 * s≤a→Srt key c (c+2 * s) f
 hi:∀c,s ∣ c→a≤c→Srt key c (min (c+s) n) f
theorem Half.start {key:α→Nat} {s n:Nat} {f:Nat→α} (hs:0 < s) (h:Blk key s n f):Half key s n 0 f:=⟨Nat.dvd_zero _,Nat.zero_le _,fun c hc h2=>by omega,fun c hc _=>h c hc⟩
theorem Half.dv {key:α→Nat} {s n a:Nat} {f:Nat→α} (h:Half key s n a f):s ∣ a:=Nat.dvd_trans (Nat.dvd_mul_left s 2) h.al
theorem Half.two {key:α→Nat} {s n a:Nat} {f:Nat→α} (h:Half key s n a f) (hb:a+s≤n):Srt key a (a+s) f∧Srt key (a+s) (min (a+2 * s) n) f:=by
 have h1:=h.hi a h.dv (Nat.le_refl _)
 have h2:=h.hi (a+s) (Nat.dvd_add h.dv (Nat.dvd_refl s)) (by omega)
 rw [Nat.min_eq_left hb] at h1
 rw [show a+s+s=a+2 * s from by omega] at h2
 exact ⟨h1,h2⟩
theorem Half.step {key:α→Nat} {s n a:Nat} {f g:Nat→α} (hs:0 < s) (h:Half key s n a f) (hb:a+2 * s≤n) (hm:Mv a (a+2 * s) f g) (ho:Srt key a (a+2 * s) g):Half key s n (a+2 * s) g:=by
 refine ⟨Nat.dvd_add h.al (Nat.dvd_refl _),hb,fun c hc h2=>?_,fun c hc h2=>?_⟩
 ·by_cases e:c=a
  ·rw [e];exact ho
  ·have h3:c < a:=by omega
   have h4:=ZC hc h.al h3
   exact (h.lo c hc h4).congr fun k p q=>hm.out (.inl (by omega))
 ·exact (h.hi c hc (by omega)).congr fun k p q=>hm.out (.inr (by omega))
theorem Half.fin {key:α→Nat} {s n a:Nat} {f g:Nat→α} (hs:0 < s) (h:Half key s n a f) (hb:n < a+2 * s) (hm:Mv a n f g) (ho:Srt key a n g):Blk key (2 * s) n g:=by
 intro c hc
 by_cases e:c < a
 ·have h4:=ZC hc h.al e
  rw [Nat.min_eq_left (by have:=h.le;omega)]
  exact (h.lo c hc h4).congr fun k p q=>hm.out (.inl (by omega))
 ·by_cases e2:c=a
  ·rw [e2,Nat.min_eq_right (by omega)];exact ho
  ·have h4:=ZC h.al hc (by omega)
   intro i j p q r
   omega
end Go.So
namespace Go.Proofs.YtemdlifojcgplaaGreatDoor
open Go Go.Vx Go.So
variable [W0]
set_option maxRecDepth 4000
set_option linter.all false
theorem insert_nil (v:Value) (L:List Chunk):GvP Tryz.prog 297 [v,.int .i64 0,.int .i64 0,uz].toArray L (.tuple #[]):=by
 refine Gv.of_body Tryz.func297 rfl rfl ?_
 refine kW ?_
 refine zn (X:=Unit) (fun _=>[(2,.int .i64 0),(8,.int .i64 1)]) (fun _=>L) (fun _=>True) (fun _=>0) () trivial iS (fun w h=>h) ?_
 intro _ _
 refine kW ?_
 exact kE
theorem zlM (f:Nat→Nat × Nat) (N b0 cap:Nat) (rest:List Value) (L:List Chunk) (hN:N≤1000) :
 Gv Tryz.prog 293 [.slice (some ⟨b0,0,none⟩) N cap,.int .i64 (N:Int),uz].toArray ([(b0,cl (cvs f N++rest) 352)]::L)
  (fun r L'=>r=.tuple #[]∧∃g,Mv 0 N f g∧Srt ky 0 N g∧L'=[(b0,cl (cvs g N++rest) 352)]::L):=by
 refine Gv.of_body Tryz.func293 rfl rfl ?_
 refine kW ?_
 refine zn (X:=Nat × (Nat→Nat × Nat)) (fun x=>[(0,.slice (some ⟨b0,0,none⟩) N cap),(1,.int .i64 (N:Int)),(2,uz),(6,.int .i64 20),(7,.int .i64 (x.1:Int)),(8,.int .i64 ((x.1+20:Nat):Int))])
  (fun x=>[(b0,cl (cvs x.2 N++rest) 352)]::L) (fun x=>20 ∣ x.1∧x.1≤N∧Mv 0 N f x.2∧∀c,20 ∣ c→c+20≤x.1→Srt ky c (c+20) x.2) (fun x=>N - x.1) (0,f)
  ⟨Nat.dvd_zero _,Nat.zero_le _,.refl f,fun c hc h=>by simp only at h;omega⟩ iS (fun w h=>h) ?_
 rintro ⟨a,g⟩ ⟨q1,q2,q3,q4⟩
 simp only at q1 q2 q3 q4 ⊢
 (repeat' first|refine kW ?_|refine kU fun bk=>?_|refine kV fun hc=>?_|refine kZ (fun hc=>?_) fun hc=>?_|fail)
 ·refine cC rfl rfl (zek g N b0 cap a (a+20) rest L hN (by omega) (by omega)) (fun r L' hp=>?_)
  obtain ⟨rfl,g1,hg1,hg2,rfl⟩:=hp
  refine kW ?_
  refine zf (X:=Nat × (Nat→Nat × Nat)) (μ:=fun x=>N - x.1) (x:=(a,g)) (a+20,g1) (by simp only;omega) ⟨Nat.dvd_add q1 (Nat.dvd_refl _),by simp only;omega,q3.trans (hg1.mono (Nat.zero_le _) (by omega)),fun c hc h=>?_⟩ iS (fun w h=>h)
  simp only at h
  by_cases e:c=a
  ·rw [e];exact hg2
  ·have h4:=ZC hc q1 (by omega)
   exact (q4 c hc h4).congr fun k p q=>hg1.out (.inl (by omega))
 ·refine cC rfl rfl (zek g N b0 cap a N rest L hN q2 (Nat.le_refl _)) (fun r L' hp=>?_)
  obtain ⟨rfl,g1,hg1,hg2,rfl⟩:=hp
  have hblk:Blk ky 20 N g1:=by
   intro c hc
   by_cases e:c < a
   ·have h4:=ZC hc q1 e
    rw [Nat.min_eq_left (by omega)]
    exact (q4 c hc h4).congr fun k p q=>hg1.out (.inl (by omega))
   ·by_cases e2:c=a
    ·rw [e2,Nat.min_eq_right (by omega)];exact hg2
    ·have h4:=ZC q1 hc (by omega)
     intro i j p q r
     omega
  have hmv:Mv 0 N f g1:=q3.trans (hg1.mono (Nat.zero_le _) (Nat.le_refl _))
  clear hg1 hg2 q1 q2 q3 q4
  refine kW ?_
  refine zn (X:=Nat × (Nat→Nat × Nat)) (fun x=>[(0,.slice (some ⟨b0,0,none⟩) N cap),(1,.int .i64 (N:Int)),(2,uz),(6,.int .i64 (x.1:Int))])
   (fun x=>[(b0,cl (cvs x.2 N++rest) 352)]::L) (fun x=>0 < x.1∧Mv 0 N f x.2∧Blk ky x.1 N x.2) (fun x=>N - x.1) (20,g1)
   ⟨by simp only;omega,hmv,hblk⟩ iS (fun w h=>h) ?_
  rintro ⟨s,g2⟩ ⟨r1,r2,r3⟩
  simp only at r1 r2 r3 ⊢
  (repeat' first|refine kW ?_|refine kU fun bk=>?_|refine kV fun hc=>?_|refine kZ (fun hc=>?_) fun hc=>?_|fail)
  ·refine zn (X:=Nat × (Nat→Nat × Nat)) (fun x=>[(0,.slice (some ⟨b0,0,none⟩) N cap),(1,.int .i64 (N:Int)),(2,uz),(6,.int .i64 (s:Int)),(7,.int .i64 (x.1:Int)),(8,.int .i64 ((x.1+2 * s:Nat):Int))])
    (fun x=>[(b0,cl (cvs x.2 N++rest) 352)]::L) (fun x=>Mv 0 N f x.2∧Half ky s N x.1 x.2) (fun x=>N - x.1) (0,g2)
    ⟨r2,Half.start r1 r3⟩ iS (fun w h=>h) ?_
   rintro ⟨a2,g3⟩ ⟨t1,t2⟩
   simp only at t1 t2 ⊢
   have t3:=t2.le
   (repeat' first|refine kW ?_|refine kU fun bk=>?_|refine kV fun hc=>?_|refine kZ (fun hc=>?_) fun hc=>?_|fail)
   ·rw [show (a2:Int)+(s:Int)=((a2+s:Nat):Int) from by omega]
    obtain ⟨u1,u2⟩:=t2.two (by omega)
    rw [Nat.min_eq_left (by omega)] at u2
    refine cC rfl rfl (zg4 N hN (2 * s) g3 b0 cap a2 (a2+s) (a2+2 * s) rest L (by omega) (by omega) (by omega) (by omega) u1 u2) (fun r L' hp=>?_)
    obtain ⟨rfl,g4,hg1,hg2,rfl⟩:=hp
    refine kW ?_
    refine zf (X:=Nat × (Nat→Nat × Nat)) (μ:=fun x=>N - x.1) (x:=(a2,g3)) (a2+2 * s,g4) (by simp only;omega) ⟨t1.trans (hg1.mono (Nat.zero_le _) (by omega)),t2.step r1 (by omega) hg1 hg2⟩ iS (fun w h=>h)
   ·rw [show (a2:Int)+(s:Int)=((a2+s:Nat):Int) from by omega]
    obtain ⟨u1,u2⟩:=t2.two (by omega)
    rw [Nat.min_eq_right (by omega)] at u2
    refine cC rfl rfl (zg4 N hN N g3 b0 cap a2 (a2+s) N rest L (by omega) (by omega) (by omega) (Nat.le_refl _) u1 u2) (fun r L' hp=>?_)
    obtain ⟨rfl,g4,hg1,hg2,rfl⟩:=hp
    refine kW ?_
    refine zf (X:=Nat × (Nat→Nat × Nat)) (μ:=fun x=>N - x.1) (x:=(s,g2)) (2 * s,g4) (by simp only;omega) ⟨by simp only;omega,t1.trans (hg1.mono (Nat.zero_le _) (Nat.le_refl _)),t2.fin r1 (by omega) hg1 hg2⟩ iS (fun w h=>h)
   ·have u1:=t2.hi a2 t2.dv (Nat.le_refl _)
    rw [Nat.min_eq_right (by omega)] at u1
    refine zf (X:=Nat × (Nat→Nat × Nat)) (μ:=fun x=>N - x.1) (x:=(s,g2)) (2 * s,g3) (by simp only;omega) ⟨by simp only;omega,t1,t2.fin r1 (by omega) (.refl g3) u1⟩ iS (fun w h=>h)
  ·have u1:=r3 0 (Nat.dvd_zero _)
   rw [Nat.min_eq_right (by omega)] at u1
   refine kR ?_
   exact ⟨_,iC,rfl,g2,r2,u1,rfl⟩
theorem zgb (v:Value) (L:List Chunk):GvP Tryz.prog 293 [v,.int .i64 0,uz].toArray L (.tuple #[]):=by
 refine Gv.of_body Tryz.func293 rfl rfl ?_
 refine kW ?_
 refine zn (X:=Unit) (fun _=>[(0,v),(1,.int .i64 0),(2,uz),(6,.int .i64 20),(7,.int .i64 0),(8,.int .i64 20)]) (fun _=>L) (fun _=>True) (fun _=>0) () trivial iS (fun w h=>h) ?_
 intro _ _
 refine kW ?_
 refine cP rfl rfl (insert_nil v L) ?_
 refine kW ?_
 refine zn (X:=Unit) (fun _=>[(1,.int .i64 0),(6,.int .i64 20)]) (fun _=>L) (fun _=>True) (fun _=>0) () trivial iS (fun w h=>h) ?_
 intro _ _
 refine kW ?_
 exact kE
theorem zlH (f:Nat→Nat × Nat) (N b0 cap:Nat) (rest:List Value) (L:List Chunk) (hN:N≤1000) :
 Gv Tryz.prog 286 [.slice (some ⟨b0,0,none⟩) N cap,uz].toArray ([(b0,cl (cvs f N++rest) 352)]::L)
  (fun r L'=>r=.tuple #[]∧∃g,Mv 0 N f g∧Srt ky 0 N g∧L'=[(b0,cl (cvs g N++rest) 352)]::L):=by
 refine Gv.of_body Tryz.func286 rfl rfl ?_
 refine kW ?_
 refine cC rfl rfl (zlM f N b0 cap rest L hN) (fun r L' hp=>?_)
 obtain ⟨rfl,g,h1,h2,rfl⟩:=hp
 refine kW ?_
 refine kR ?_
 exact ⟨_,iC,rfl,g,h1,h2,rfl⟩
theorem zf9 (L:List Chunk):GvP Tryz.prog 286 [.slice none 0 0,uz].toArray L (.tuple #[]):=by
 refine Gv.of_body Tryz.func286 rfl rfl ?_
 refine kW ?_
 refine cP rfl rfl (zgb _ L) ?_
 refine kW ?_
 exact kE
end Go.Proofs.YtemdlifojcgplaaGreatDoor
namespace Go.Proofs.YtemdlifojcgplaaGreatDoor
open Go Go.Vx
variable [W0]
set_option maxRecDepth 4000
set_option linter.all false
omit [W0] in
def ckV (a:Option Addr) (m k:Nat):Value:=match a with
 |some ⟨b,off,none⟩=>.slice (some ⟨b,off+2 * k * 2,none⟩) (min 2 (m - 2 * k)) (min 2 (m - 2 * k))
 |x=>.slice x 0 0
omit [W0] in
def ckS (a:Option Addr) (m:Nat):List (List Value):=(List.range ((m+1) / 2)).map fun k=>[ckV a m k]
theorem qI (a:Option Addr) (m:Nat):(ckS a m).length=(m+1) / 2:=by simp [ckS]
theorem zcT (a:Option Addr) (m:Nat) {k:Nat} (h:k < (m+1) / 2):(ckS a m).getD k []=[ckV a m k]:=by simp [ckS,List.getD,h]
omit [W0] in
def HdS (a:Option Addr) (m c:Nat):Prop:=m≤c∧((a=none∧m=0)∨∃b off,a=some ⟨b,off,none⟩)
theorem zmN (a:Option Addr) (m c:Nat) (L:List Chunk) :
 Gv Tryz.prog 299 [.slice a m c,.int .i64 2].toArray L
  (fun r L'=>∃p q,r=.func (.func 301) #[] #[.pointer (some ⟨p,0,none⟩),.pointer (some ⟨q,0,none⟩)]∧L'=[(q,cl [.int .i64 2] 3)]::[(p,cl [.slice a m c] 363)]::L):=by
 refine Gv.of_body Tryz.func299 rfl rfl ?_
 (refine kW ?_;refine kU fun bk=>?_;refine kW ?_;refine kU fun bk=>?_;refine kW ?_)
 refine kH ?_
 exact ⟨_,fun w h=>h,_,_,rfl,rfl⟩
theorem zjl (a:Option Addr) (m c p q:Nat) (hm:m≤100000) (hh:HdS a m c) :
 It Tryz.prog 301 [.pointer (some ⟨p,0,none⟩),.pointer (some ⟨q,0,none⟩)].toArray ([(q,cl [.int .i64 2] 3)]::[(p,cl [.slice a m c] 363)]::[]) (ckS a m):=by
 refine It.of_body Tryz.func301 rfl rfl fun l J L0 h0 hy=>?_
 obtain ⟨Lit,hLit⟩:∃Lit:List Chunk,Lit=[(q,cl [.int .i64 2] 3)]::[(p,cl [.slice a m c] 363)]::[]:=⟨_,rfl⟩
 rw [←hLit]
 have fq:∀L',Fnd (L'++Lit) q (cl [.int .i64 2] 3):=fun L'=>by rw [hLit];exact Fnd.right Fnd.here
 have fp:∀L',Fnd (L'++Lit) p (cl [.slice a m c] 363):=fun L'=>by rw [hLit];exact Fnd.right (Fnd.there Fnd.here)
 (repeat' first|refine kI ?_|refine kU fun bk=>?_|refine kJ fun hc=>?_|refine kK (fun hc=>?_) fun hc=>?_|fail)
 refine zcD (X:=Nat × List Chunk) (fun x=>[(0,.func (.yield l) #[] #[]),(1,.pointer (some ⟨p,0,none⟩)),(2,.pointer (some ⟨q,0,none⟩)),(4,.int .i64 ((2 * x.1:Nat):Int))])
  (fun x=>x.2++Lit) (fun x=>x.1≤(ckS a m).length∧J x.1 x.2) (fun x=>(ckS a m).length - x.1) (0,L0) ⟨Nat.zero_le _,h0⟩ iS (fun w h=>h) ?_
 rintro ⟨k,L'⟩ ⟨hk,hj⟩
 simp only at hk hj ⊢
 rw [qI] at hk
 (repeat' first|refine kI ?_|refine kU fun bk=>?_|refine kJ fun hc=>?_|refine kK (fun hc=>?_) fun hc=>?_|fail)
 refine ze (zy rfl (fp L') rfl) rfl ?_
 (repeat' first|refine kI ?_|refine kU fun bk=>?_|refine kJ fun hc=>?_|refine kK (fun hc=>?_) fun hc=>?_|fail)
 ·have hlt:2 * k < m:=by omega
  obtain ⟨hmc,hh⟩:=hh
  obtain ⟨b,off,rfl⟩:∃b off,a=some ⟨b,off,none⟩:=by
   rcases hh with ⟨_,h⟩|h
   ·omega
   ·exact h
  refine zgp (L'++Lit) [] (by repeat (first|with_reducible exact NL.body|with_reducible exact zbP|with_reducible exact zbL|with_reducible refine NL.then ?_|with_reducible refine NL.block ?_)) rfl mixed ?_
  refine cT 0 rfl rfl (zy rfl (fq L') rfl) ?_
  refine cT 1 rfl rfl (zy rfl (fp L') rfl) ?_
  (refine za 2 ?_)
  refine cT 3 rfl rfl (yS (l:=2 * k) (h:=m) rfl (qH rfl rfl) rfl (by omega) hmc) ?_
  (refine za 4 ?_;refine za 5 ?_)
  obtain ⟨e,he⟩:∃e,e=min 2 (m - 2 * k):=⟨_,rfl⟩
  rw [show min (2:Int) ((m - 2 * k:Nat):Int)=(e:Int) from by omega]
  (refine za 6 ?_)
  refine cD ?_
  have hck:ckV (some ⟨b,off,none⟩) m k=.slice (some ⟨b,off+2 * k * 2,none⟩) e e:=by rw [he];rfl
  (repeat' first|refine kI ?_|refine kU fun bk=>?_|refine kJ fun hc=>?_|refine kK (fun hc=>?_) fun hc=>?_|fail)
  refine zgq ?_
  (repeat' first|refine kL ?_|refine kU fun bk=>?_|refine kJ fun hc=>?_|refine kK (fun hc=>?_) fun hc=>?_|fail)
  refine ze (zy rfl (fp L') rfl) rfl ?_
  (repeat' first|refine kL ?_|refine kU fun bk=>?_|refine kJ fun hc=>?_|refine kK (fun hc=>?_) fun hc=>?_|fail)
  rw [show ((2 * k:Nat):Int)+(e:Int)=((2 * k+e:Nat):Int) from by omega]
  refine ze (zbM (l:=2 * k) (h:=2 * k+e) (m:=2 * k+e) rfl rfl rfl rfl (by omega) (Nat.le_refl _) (by omega)) rfl ?_
  rw [if_neg (by omega),show 2 * k+e - 2 * k=e from by omega,←hck]
  have hyk:=hy Lit k L' (by rw [qI];omega) hj
  rw [zcT _ _ (by omega)] at hyk
  refine zdM rfl rfl hyk rfl ?_
  rintro L'' ⟨L3,hj3,rfl⟩
  (repeat' first|refine kL ?_|refine kU fun bk=>?_|refine kJ fun hc=>?_|refine kK (fun hc=>?_) fun hc=>?_|fail)
  (repeat' first|refine kI ?_|refine kU fun bk=>?_|refine kJ fun hc=>?_|refine kK (fun hc=>?_) fun hc=>?_|fail)
  refine ze (zy rfl (fq L3) rfl) rfl ?_
  (repeat' first|refine kI ?_|refine kU fun bk=>?_|refine kJ fun hc=>?_|refine kK (fun hc=>?_) fun hc=>?_|fail)
  refine zf (X:=Nat × List Chunk) (μ:=fun x=>(ckS (some ⟨b,off,none⟩) m).length - x.1) (x:=(k,L')) (k+1,L3) (by simp only [qI];omega) ⟨by simp only [qI];omega,hj3⟩ iS (fun w h=>h)
 ·have hke:k=(m+1) / 2:=by omega
  refine kH ?_
  refine ⟨_,fun w h=>h,L',?_,rfl⟩
  rw [qI,←hke]
  exact hj
end Go.Proofs.YtemdlifojcgplaaGreatDoor
namespace Go.Pm
set_option linter.all false
theorem zcl:∀{l:List Pm.It} {k:Nat} {x y:Pm.It},l[2 * k]? =some x→l[2 * k+1]? =some y→(pairs l)[k]? =some (pack x y)
 |[],k,x,y,h,_=>by simp at h
 |[_],0,x,y,_,h=>by simp at h
 |[_],k+1,x,y,h,_=>by simp at h
 |a::b::r,0,x,y,h1,h2=>by
  simp at h1 h2
  subst h1 h2
  rfl
 |a::b::r,k+1,x,y,h1,h2=>by
  rw [show 2 * (k+1)=2 * k+1+1 from by omega,List.getElem?_cons_succ,List.getElem?_cons_succ] at h1
  rw [show 2 * (k+1)+1=2 * k+1+1+1 from by omega,List.getElem?_cons_succ,List.getElem?_cons_succ] at h2
  rw [pairs,List.getElem?_cons_succ]
  exact zcl h1 h2
end Go.Pm
namespace Go.Proofs.YtemdlifojcgplaaGreatDoor
open Go Go.Vx
variable [W0]
set_option maxRecDepth 4000
set_option linter.all false
omit [W0] in
def itv (x:Pm.It):List Value:=[.int .i64 (x.w:Int),.bool (!Pm.isC x)]
omit [W0] in
def qA (l:List Pm.It):List Value:=l.flatMap itv
theorem Yy (l:List Pm.It):(qA l).length=l.length * 2:=by
 induction l with
 |nil=>rfl
 |cons x r ih=>simp [qA,itv] at ih ⊢;omega
theorem ZG (a b:List Pm.It):qA (a++b)=qA a++qA b:=by simp [qA]
theorem zh6 (l:List Pm.It):ones (qA l)=true:=by
 induction l with
 |nil=>rfl
 |cons x r ih=>
  have e:qA (x::r)=.int .i64 (x.w:Int)::.bool (!Pm.isC x)::qA r:=rfl
  rw [e]
  simpa [ones,Value.oneCell'] using ih
theorem Zh:∀{l:List Pm.It} {i:Nat} {x:Pm.It},l[i]? =some x→(qA l)[i * 2]? =some (.int .i64 (x.w:Int))∧(qA l)[i * 2+1]? =some (.bool (!Pm.isC x))
 |[],i,x,h=>by simp at h
 |a::r,0,x,h=>by
  simp at h
  subst h
  exact ⟨rfl,rfl⟩
 |a::r,i+1,x,h=>by
  simp at h
  have ih:=Zh h
  have e:qA (a::r)=.int .i64 (a.w:Int)::.bool (!Pm.isC a)::qA r:=rfl
  rw [e,show (i+1) * 2=i * 2+1+1 from by omega]
  exact ih
theorem znI {e k m:Nat} {v:Value} {xs:List Value} {C:Chunk} (h:Ow e k v m xs C):v.oneCell'=true:=by
 rcases h with ⟨rfl,_⟩|⟨b,cap,rest,rfl,_⟩<;>rfl
theorem znK (v:Value) (l:List Pm.It) (Cb:Chunk) (L:List Chunk) (hO:Ow 372 2 v l.length (qA l) Cb) (hl:l.length≤1000) (hw:∀x∈l,x.w≤2305843009213693952) :
 Gv Tryz.prog 295 [v].toArray (Cb::L) (fun r L'=>∃C,L'=C::Cb::L∧Ow 372 2 r (Pm.pairs l).length (qA (Pm.pairs l)) C):=by
 obtain ⟨a,c,rfl,hh⟩:∃a c,v=.slice a l.length c∧HdS a l.length c:=by
  rcases hO with ⟨rfl,h1,_⟩|⟨b,cap,rest,rfl,_,_,_,h2,_⟩
  ·rw [h1];exact ⟨_,_,rfl,Nat.le_refl _,.inl ⟨rfl,rfl⟩⟩
  ·exact ⟨_,_,rfl,h2,.inr ⟨b,0,rfl⟩⟩
 refine Gv.of_bodyM Tryz.func295 rfl rfl ?_
 (refine kW ?_;refine kU fun bk=>?_;refine kW ?_)
 obtain ⟨b3,hb3⟩:∃b3,b3=bk:=⟨_,rfl⟩
 rw [←hb3]
 clear hb3
 refine cC rfl rfl (zmN a l.length c _) (fun r L' hp=>?_)
 obtain ⟨p,q,rfl,rfl⟩:=hp
 refine kW ?_
 obtain ⟨J,hJ⟩:∃J:Nat→List Chunk→Prop,∀k L',J k L'↔∃v C,Ow 372 2 v ((Pm.pairs l).take k).length (qA ((Pm.pairs l).take k)) C∧L'=[(b3,cl [v] 363)]::C::Cb::L:=⟨fun k L'=>∃v C,Ow 372 2 v ((Pm.pairs l).take k).length (qA ((Pm.pairs l).take k)) C∧L'=[(b3,cl [v] 363)]::C::Cb::L,fun _ _=>Iff.rfl⟩
 refine zdL (ps:=[7]) rfl (zjl a l.length c p q (by omega) hh) J ([(b3,cl [.slice none 0 0] 363)]::[]::Cb::L) ((hJ _ _).2 ⟨_,[],.inl ⟨rfl,rfl,rfl,rfl⟩,rfl⟩) (fun w h=>?_) (fun k hk=>by rw [qI] at hk;rw [zcT _ _ hk];rfl) rfl
  (fun k _=>[(3,.pointer (some ⟨b3,0,none⟩)),(4,ckV a l.length k)]) (fun lp k L' R hk hj=>?_) (fun lp k L' R hk hj=>?_) (fun D a' w L3 hst hd hj hw'=>?_)
 ·have h2:=h.perm (List.perm_append_comm (l₁:=[[(q,cl [.int .i64 2] 3)],[(p,cl [.slice a l.length c] 363)]]) (l₂:=[(b3,cl [.slice none 0 0] 363)]::Cb::L))
  exact Holds.gap.2 h2
 ·rw [qI] at hk
  rw [zcT _ _ hk]
  show Wic _ _ _ _ _ ((7,ckV a l.length k)::_) _
  (repeat' first|refine kI ?_|refine kU fun bk=>?_|refine kJ fun hc=>?_|refine kK (fun hc=>?_) fun hc=>?_|fail)
  exact zop iS (fun w h=>h)
 ·rw [qI] at hk
  obtain ⟨v,C,ho,rfl⟩:=(hJ _ _).1 hj
  rcases hO with ⟨_,h1,_⟩|⟨b,cap,rest,hv,rfl,hxl,hrl,hmc,_⟩
  ·omega
  injection hv with e1 e2 e3
  subst e1 e3
  clear e2
  show Wic _ _ _ _ _ _ ([(b3,cl [v] 363)]::C::[(b,cl (qA l++rest) 372)]::(L++R))
  have hpl:=Pm.wM l
  by_cases h2:2 * k+2≤l.length
  ·have hck:ckV (some ⟨b,0,none⟩) l.length k=.slice (some ⟨b,0+2 * k * 2,none⟩) 2 2:=by
    show Value.slice (some ⟨b,0+2 * k * 2,none⟩) (min 2 (l.length - 2 * k)) (min 2 (l.length - 2 * k))=_
    rw [Nat.min_eq_left (by omega)]
   obtain ⟨x,hx⟩:∃x,l[2 * k]? =some x:=⟨l[2 * k],by simp [show 2 * k < l.length from by omega]⟩
   obtain ⟨y,hy⟩:∃y,l[2 * k+1]? =some y:=⟨l[2 * k+1],by simp [show 2 * k+1 < l.length from by omega]⟩
   have hwx:=hw x (List.mem_of_getElem? hx)
   have hwy:=hw y (List.mem_of_getElem? hy)
   have hpg:=Pm.zcl hx hy
   have hgx:nth (qA l++rest) (0+2 * k * 2+0 * 2+0)=some (.int .i64 (x.w:Int)):=by
    have h3:=(Zh hx).1
    rw [yu,show 0+2 * k * 2+0 * 2+0=2 * k * 2 from by omega,List.getElem?_append_left (List.getElem?_eq_some_iff.1 h3).1]
    exact h3
   have hgy:nth (qA l++rest) (0+2 * k * 2+1 * 2+0)=some (.int .i64 (y.w:Int)):=by
    have h3:=(Zh hy).1
    rw [yu,show 0+2 * k * 2+1 * 2+0=(2 * k+1) * 2 from by omega,List.getElem?_append_left (List.getElem?_eq_some_iff.1 h3).1]
    exact h3
   have htk:(Pm.pairs l).take (k+1)=(Pm.pairs l).take k++[Pm.pack x y]:=by rw [List.take_add_one,hpg];rfl
   have htl:((Pm.pairs l).take k).length=k:=by rw [List.length_take,hpl];omega
   rw [hck]
   (repeat' first|refine kI ?_|refine kU fun bk=>?_|refine kJ fun hc=>?_|refine kK (fun hc=>?_) fun hc=>?_|fail)
   refine zgp [[(b3,cl [v] 363)],[(b,cl (qA l++rest) 372)]] [13] (by repeat (first|with_reducible exact NL.body|with_reducible exact zbP|with_reducible exact zbL|with_reducible refine NL.then ?_|with_reducible refine NL.block ?_)) rfl mixed ?_
   (refine ziW 0 ?_;refine ziW 1 ?_)
   refine cT 2 rfl rfl (zi (j:=0) rfl rfl rfl (by omega)) ?_
   refine cT 3 rfl rfl (yH rfl) ?_
   refine cT 4 rfl rfl (zy rfl (Fnd.there Fnd.here) hgx) ?_
   (refine ziW 5 ?_)
   refine cT 6 rfl rfl (zi (j:=1) rfl rfl rfl (by omega)) ?_
   refine cT 7 rfl rfl (yH rfl) ?_
   refine cT 8 rfl rfl (zy rfl (Fnd.there Fnd.here) hgy) ?_
   (refine ziW 9 ?_)
   rw [←Int.natCast_add]
   (refine ziW 10 ?_)
   refine cI 11 rfl rfl ?_
   refine zl (cs:=itv (Pm.pack x y)) rfl (by rfl) (by simp [zA,patch,Value.cells,zeros];rfl) (by omega) rfl rfl (fun bs=>?_)
   refine ⟨iC,?_⟩
   refine cI 12 rfl rfl ?_
   refine zu rfl rfl ho (zF (k:=2) (c:=(itv (Pm.pack x y)).toArray) (xs:=itv (Pm.pack x y)) (m:=1) Fnd.here rfl (by simp)) (by repeat (first|exact Zip.here _|apply Zip.there)) rfl (by rfl) (by omega) (by simp [maxLen];omega) rfl (fun v' C' ho' _ _=>?_)
   refine ⟨iC,?_⟩
   refine cL 13 rfl rfl rfl ?_
   refine zG [v'] rfl rfl (znI ho') rfl iU (by simp) ?_
   refine cD ?_
   (repeat' first|refine kI ?_|refine kU fun bk=>?_|refine kJ fun hc=>?_|refine kK (fun hc=>?_) fun hc=>?_|fail)
   refine ziT ([(b3,cl [v'] 363)]::C'::[(b,cl (qA l++rest) 372)]::L) ((hJ _ _).2 ⟨v',C',?_,rfl⟩) (fun w h=>h.drop)
   rw [htk,ZG,List.length_append]
   exact ho'
  ·have hck:ckV (some ⟨b,0,none⟩) l.length k=.slice (some ⟨b,0+2 * k * 2,none⟩) 1 1:=by
    show Value.slice (some ⟨b,0+2 * k * 2,none⟩) (min 2 (l.length - 2 * k)) (min 2 (l.length - 2 * k))=_
    rw [show min 2 (l.length - 2 * k)=1 from by omega]
   rw [hck]
   (repeat' first|refine kI ?_|refine kU fun bk=>?_|refine kJ fun hc=>?_|refine kK (fun hc=>?_) fun hc=>?_|fail)
   refine ziT ([(b3,cl [v] 363)]::C::[(b,cl (qA l++rest) 372)]::L) ((hJ _ _).2 ⟨v,C,?_,rfl⟩) (fun w h=>h)
   have e1:(Pm.pairs l).take (k+1)=(Pm.pairs l).take k:=by rw [List.take_of_length_le (by omega),List.take_of_length_le (by omega)]
   rw [e1]
   exact ho
 ·obtain ⟨v,C,ho,rfl⟩:=(hJ _ _).1 hj
  rw [qI,List.take_of_length_le (by rw [Pm.wM];omega)] at ho
  have hw2:Holds w (([(D,.deferred (some []))]::[(b3,cl [v] 363)]::C::Cb::L)++[[(q,cl [.int .i64 2] 3)],[(p,cl [.slice a l.length c] 363)]]):=hw'
  have hw3:=hw2.front
  change Code.wp _ _ _ a' w
  refine Wmc.out (M:=[(3,.pointer (some ⟨b3,0,none⟩))]) (L:=[(D,.deferred (some []))]::[(b3,cl [v] 363)]::C::Cb::L) ?_ a' w (hst.sub iS) hd hw3
  refine zoZ (zhP (zoo rfl (zy rfl (Fnd.there Fnd.here) rfl) rfl (zoo rfl (yQ rfl) rfl (zo0 (zmt rfl (zoY ?_))))))
  exact ziS (.inl rfl) rfl rfl (L1:=C::Cb::L) (fun w h=>(iC:Inc ([(D,.deferred (some []))]::C::Cb::L) _).holds h) ⟨C,rfl,ho⟩
end Go.Proofs.YtemdlifojcgplaaGreatDoor
namespace Go.Pm
set_option linter.all false
theorem ZI:∀{l:List Pm.It},l.Pairwise (fun a b=>a.w≤b.w)→(pairs l).Pairwise (fun a b=>a.w≤b.w)
 |[],_=>.nil
 |[_],_=>.nil
 |a::b::r,h=>by
  have ha:=(List.pairwise_cons.1 h).1
  have h2:=(List.pairwise_cons.1 h).2
  have hb:=(List.pairwise_cons.1 h2).1
  have hr:=(List.pairwise_cons.1 h2).2
  refine List.pairwise_cons.2 ⟨fun x hx=>?_,ZI hr⟩
  obtain ⟨y,hy,hxy⟩:∃y∈r,∃z∈r,x.w=y.w+z.w:=by
   have key:∀l:List Pm.It,∀x∈pairs l,∃y∈l,∃z∈l,x.w=y.w+z.w:=by
    intro l
    induction l using pairs.induct with
    |case1 a b r ih=>
     intro x hx
     rcases List.mem_cons.1 hx with rfl|hx
     ·exact ⟨a,by simp,b,by simp,rfl⟩
     ·obtain ⟨y,hy,z,hz,e⟩:=ih x hx
      exact ⟨y,by simp [hy],z,by simp [hz],e⟩
    |case2 t ht=>
     intro x hx
     match t,ht with
     |[],_=>simp [pairs] at hx
     |[_],_=>simp [pairs] at hx
     |a::b::r,ht=>exact absurd rfl (ht a b r)
   exact key r x hx
  obtain ⟨z,hz,e⟩:=hxy
  have h1:=ha y (List.mem_cons_of_mem _ hy)
  have h3:=hb z hz
  show a.w+b.w≤x.w
  omega
structure Mp (cs ps:List Pm.It) (i t:Nat) (A:List Pm.It):Prop where
 ci:A.filter isC=cs.take i
 pt:A.filter (fun x=>!isC x)=ps.take t
 up:A.Pairwise fun a b=>a.w≤b.w
 lc:∀x∈A,∀y∈cs.drop i,x.w≤y.w
 lp:∀x∈A,∀y∈ps.drop t,x.w≤y.w
theorem Mp.nil (cs ps:List Pm.It):Mp cs ps 0 0 []:=⟨by simp,by simp,.nil,fun x hx=>by simp at hx,fun x hx=>by simp at hx⟩
theorem zl5 {A:List Pm.It} {x:Pm.It} (h:A.Pairwise fun a b=>a.w≤b.w) (hx:∀y∈A,y.w≤x.w):(A++[x]).Pairwise fun a b=>a.w≤b.w:=by
 rw [List.pairwise_append]
 exact ⟨h,List.pairwise_singleton _ _,fun a ha b hb=>by rw [List.mem_singleton.1 hb];exact hx a ha⟩
theorem zam {l:List Pm.It} {i:Nat} {x:Pm.It} (hl:l.Pairwise fun a b=>a.w≤b.w) (hx:l[i]? =some x):∀y∈l.drop i,x.w≤y.w:=by
 intro y hy
 have hlt:=(List.getElem?_eq_some_iff.1 hx).1
 have h2:=hl.sublist (List.drop_sublist i l)
 rw [List.drop_eq_getElem_cons hlt] at h2 hy
 have he:l[i]=x:=by rw [List.getElem?_eq_getElem hlt] at hx;exact Option.some.inj hx
 rw [he] at h2 hy
 rcases List.mem_cons.1 hy with h|h
 ·rw [h];exact Nat.le_refl _
 ·exact (List.pairwise_cons.1 h2).1 y h
theorem X0 {l:List Pm.It} {i:Nat} {x:Pm.It} (hx:l[i]? =some x):x∈l.drop i:=by
 have hlt:=(List.getElem?_eq_some_iff.1 hx).1
 rw [List.drop_eq_getElem_cons hlt]
 have he:l[i]=x:=by rw [List.getElem?_eq_getElem hlt] at hx;exact Option.some.inj hx
 rw [he];exact List.mem_cons_self
theorem XT {l:List Pm.It} {i:Nat} {y:Pm.It} (hy:y∈l.drop (i+1)):y∈l.drop i:=by
 rw [←List.drop_drop] at hy
 exact List.mem_of_mem_drop hy
theorem Mp.pack {cs ps:List Pm.It} {i t:Nat} {A:List Pm.It} {x z:Pm.It} (h:Mp cs ps i t A) (hcs:cs.Pairwise fun a b=>a.w≤b.w) (hps:ps.Pairwise fun a b=>a.w≤b.w) (hpp:∀x∈ps,isC x=false)
 (hx:ps[t]? =some x) (hz:cs[i]? =some z) (hlt:x.w < z.w):Mp cs ps i (t+1) (A++[x]):=by
 have hxc:=hpp x (List.mem_of_getElem? hx)
 refine ⟨?_,?_,zl5 h.up fun y hy=>h.lp y hy x (X0 hx),fun a ha y hy=>?_,fun a ha y hy=>?_⟩
 ·rw [List.filter_append,h.ci];simp [hxc]
 ·rw [List.filter_append,h.pt,List.take_add_one,hx];simp [hxc]
 ·rcases List.mem_append.1 ha with ha|ha
  ·exact h.lc a ha y hy
  ·rw [List.mem_singleton.1 ha];exact Nat.le_trans (Nat.le_of_lt hlt) (zam hcs hz y hy)
 ·rcases List.mem_append.1 ha with ha|ha
  ·exact h.lp a ha y (XT hy)
  ·rw [List.mem_singleton.1 ha];exact zam hps hx y (XT hy)
theorem Mp.Zn {cs ps:List Pm.It} {i t:Nat} {A:List Pm.It} {z:Pm.It} (h:Mp cs ps i t A) (hcs:cs.Pairwise fun a b=>a.w≤b.w) (hps:ps.Pairwise fun a b=>a.w≤b.w) (hcc:∀x∈cs,isC x=true)
 (hz:cs[i]? =some z) (hge:∀x,ps[t]? =some x→z.w≤x.w):Mp cs ps (i+1) t (A++[z]):=by
 have hzc:=hcc z (List.mem_of_getElem? hz)
 refine ⟨?_,?_,zl5 h.up fun y hy=>h.lc y hy z (X0 hz),fun a ha y hy=>?_,fun a ha y hy=>?_⟩
 ·rw [List.filter_append,h.ci,List.take_add_one,hz];simp [hzc]
 ·rw [List.filter_append,h.pt];simp [hzc]
 ·rcases List.mem_append.1 ha with ha|ha
  ·exact h.lc a ha y (XT hy)
  ·rw [List.mem_singleton.1 ha];exact zam hcs hz y (XT hy)
 ·rcases List.mem_append.1 ha with ha|ha
  ·exact h.lp a ha y hy
  ·rw [List.mem_singleton.1 ha]
   cases hp:ps[t]? with
   |none=>rw [List.drop_of_length_le (List.getElem?_eq_none_iff.1 hp)] at hy;simp at hy
   |some x=>exact Nat.le_trans (hge x hp) (zam hps hp y hy)
theorem Mp.fin {cs ps:List Pm.It} {t:Nat} {A:List Pm.It} (h:Mp cs ps cs.length t A) (hps:ps.Pairwise fun a b=>a.w≤b.w) (hpp:∀x∈ps,isC x=false):Mg cs ps (A++ps.drop t):=by
 have h1:(ps.drop t).filter isC=[]:=List.filter_eq_nil_iff.2 fun x hx=>by rw [hpp x (List.mem_of_mem_drop hx)];simp
 have h2:(ps.drop t).filter (fun x=>!isC x)=ps.drop t:=List.filter_eq_self.2 fun x hx=>by rw [hpp x (List.mem_of_mem_drop hx)];rfl
 refine ⟨?_,?_,?_⟩
 ·rw [List.pairwise_append]
  exact ⟨h.up,hps.sublist (List.drop_sublist _ _),fun a ha b hb=>h.lp a ha b hb⟩
 ·rw [List.filter_append,h.ci,h1,List.take_length,List.append_nil]
 ·rw [List.filter_append,h.pt,h2,List.take_append_drop]
theorem Mp.len {cs ps:List Pm.It} {i t:Nat} {A:List Pm.It} (h:Mp cs ps i t A):A.length≤cs.length+ps.length:=by
 have h1:=(Zr isC A).length_eq
 rw [List.length_append,h.ci,h.pt,List.length_take,List.length_take] at h1
 omega
end Go.Pm
namespace Go.Proofs.YtemdlifojcgplaaGreatDoor
open Go Go.Vx Go.So
variable [W0]
set_option maxRecDepth 4000
set_option linter.all false
omit [W0] in
def PsV (ps:List Pm.It) (Cp:Chunk) (v:Value) (t:Nat):Prop:=(ps.length≤t∧∃a c,v=.slice a 0 c)∨
 (t < ps.length∧∃bp cp rp,v=.slice (some ⟨bp,t * 2,none⟩) (ps.length - t) (cp - t)∧ps.length≤cp∧Cp=[(bp,cl (qA ps++rp) 372)])
theorem PsV.new {ps:List Pm.It} {Cp:Chunk} {v:Value} (h:Ow 372 2 v ps.length (qA ps) Cp):PsV ps Cp v 0:=by
 rcases h with ⟨rfl,h1,_⟩|⟨b,cap,rest,rfl,rfl,_,_,hmc,_⟩
 ·exact .inl ⟨by omega,_,_,rfl⟩
 ·rcases Nat.eq_zero_or_pos ps.length with h0|h0
  ·rw [h0];exact .inl ⟨by omega,_,_,rfl⟩
  ·exact .inr ⟨h0,b,cap,rest,by simp,hmc,rfl⟩
theorem zh5 (l:List Pm.It) (t:Nat):qA (l.drop t)=(qA l).drop (t * 2):=by
 conv=>rhs;rw [←List.take_append_drop t l,ZG]
 rcases Nat.lt_or_ge t l.length with h|h
 ·have e:(qA (l.take t)).length=t * 2:=by rw [Yy,List.length_take];omega
  rw [←e,List.drop_left]
 ·have e:(qA (l.take t)).length≤t * 2:=by rw [Yy,List.length_take];omega
  rw [List.drop_of_length_le h]
  show []=_
  rw [show qA ([]:List Pm.It)=[] from rfl,List.append_nil,List.drop_of_length_le e]
theorem PsV.sl {ps:List Pm.It} {Cp:Chunk} {v:Value} {t:Nat} {L:List Chunk} (h:PsV ps Cp v t) (hL:∀x∈Cp,x∈L.flatten):Sl L 2 v (ps.drop t).length (qA (ps.drop t)):=by
 rcases h with ⟨h1,a,c,rfl⟩|⟨h1,bp,cp,rp,rfl,h2,rfl⟩
 ·rw [List.drop_of_length_le h1]
  cases a with
  |none=>exact .inl ⟨c,rfl,rfl,rfl⟩
  |some a=>exact .inr ⟨a,c,rfl,.inl rfl,rfl⟩
 ·refine .inr ⟨⟨bp,t * 2,none⟩,cp - t,by rw [List.length_drop],?_,Yy _⟩
  refine .inr ⟨bp,t * 2,_,_,(0,0),rfl,hL (bp,_) (by simp;rfl),fun j u hj=>?_⟩
  rw [zh5,List.getElem?_drop] at hj
  rw [List.getElem?_toArray,List.getElem?_append_left (List.getElem?_eq_some_iff.1 hj).1]
  exact hj
omit [W0] in
def qg (wt:Nat→Nat) (g:Nat→Nat × Nat) (N:Nat):List Pm.It:=(List.range N).map fun r=>Pm.Zn wt (g r).1
theorem zd5 (wt:Nat→Nat) (g:Nat→Nat × Nat) {N i:Nat} (h:i < N):(qg wt g N)[i]? =some (Pm.Zn wt (g i).1):=by simp [qg,h]
theorem q9 (wt:Nat→Nat) (g:Nat→Nat × Nat) (N:Nat):(qg wt g N).length=N:=by simp [qg]
theorem QK (wt:Nat→Nat) (g:Nat→Nat × Nat) (N:Nat):∀x∈qg wt g N,Pm.isC x=true:=by
 intro x hx
 obtain ⟨r,_,rfl⟩:=List.mem_map.1 hx
 rfl
theorem zaP {wt:Nat→Nat} {g:Nat→Nat × Nat} {N:Nat} (hs:Srt ky 0 N g) (hw:∀r,r < N→(g r).2=wt (g r).1):(qg wt g N).Pairwise fun a b=>a.w≤b.w:=by
 rw [qg,List.pairwise_map]
 refine List.Pairwise.imp_of_mem (fun {a b} ha hb (hab:a < b)=>?_) List.pairwise_lt_range
 have hb':=List.mem_range.1 hb
 have:=hs a b (Nat.zero_le _) (by omega) hb'
 unfold ky at this
 rw [hw a (by omega),hw b hb'] at this
 exact this
theorem zkF (wt:Nat→Nat) (g:Nat→Nat × Nat) (N b0 c0:Nat) (rest:List Value) (v:Value) (lb:List Pm.It) (Cb:Chunk) (L:List Chunk) (hN:N≤400) (hs:Srt ky 0 N g) (hgw:∀r,r < N→(g r).2=wt (g r).1) (hgb:∀r,r < N→(g r).2≤1073741824)
 (hO:Ow 372 2 v lb.length (qA lb) Cb) (hl:lb.length≤1000) (hw:∀x∈lb,x.w≤2305843009213693952) (hup:lb.Pairwise fun a b=>a.w≤b.w) :
 Gv Tryz.prog 290 [.slice (some ⟨b0,0,none⟩) N c0,v].toArray ([(b0,cl (cvs g N++rest) 352)]::Cb::L)
  (fun r L'=>∃A C,L'=C::[(b0,cl (cvs g N++rest) 352)]::Cb::L∧Ow 372 2 r A.length (qA A) C∧Pm.Mg (qg wt g N) (Pm.pairs lb) A):=by
 have hcs:=zaP hs hgw
 have hps:=Pm.ZI hup
 have hpp:=Pm.uZ lb
 have hcc:=QK wt g N
 have hcl:=q9 wt g N
 have hpl:=Pm.wM lb
 have hpc:=znK v lb Cb ([(b0,cl (cvs g N++rest) 352)]::L) hO hl hw
 obtain ⟨va,vc,hvs⟩:∃a c,v=.slice a lb.length c:=by
  rcases hO with ⟨rfl,h1,_⟩|⟨b,cap,rest,rfl,_⟩
  ·rw [h1];exact ⟨_,_,rfl⟩
  ·exact ⟨_,_,rfl⟩
 refine Gv.of_body Tryz.func290 rfl rfl ?_
 refine kW ?_
 refine cC rfl rfl (Gv.take hpc (by repeat (first|exact Take.here|apply Take.there))) (fun r L' hp=>?_)
 obtain ⟨Cp,rfl,hop⟩:=hp
 obtain ⟨ps,hpse⟩:∃ps,ps=Pm.pairs lb:=⟨_,rfl⟩
 rw [←hpse] at hop hps hpp hpl ⊢
 have hpv:=PsV.new hop
 refine kW ?_
 refine zn (X:=Nat × Nat × List Pm.It × Value × Chunk × Value) (fun x=>[(5,x.2.2.2.1),(6,x.2.2.2.2.2),(11,.slice (some ⟨b0,0,none⟩) N c0),(12,.int .i64 (N:Int)),(13,.int .i64 (x.1:Int))])
  (fun x=>[(b0,cl (cvs g N++rest) 352)]::x.2.2.2.2.1::Cp::Cb::L)
  (fun x=>x.1≤N∧Pm.Mp (qg wt g N) ps x.1 x.2.1 x.2.2.1∧Ow 372 2 x.2.2.2.1 x.2.2.1.length (qA x.2.2.1) x.2.2.2.2.1∧PsV ps Cp x.2.2.2.2.2 x.2.1) (fun x=>N - x.1) (0,0,[],.slice none 0 0,[],r)
  ⟨Nat.zero_le _,Pm.Mp.nil _ _,.inl ⟨rfl,rfl,rfl,rfl⟩,hpv⟩ iS (fun w h=>?_) ?_
 ·show Holds w ([(b0,cl (cvs g N++rest) 352)]::[]::Cp::Cb::L)
  exact Holds.gap.2 (iH h)
 clear hpv hpc
 rintro ⟨i,t,A,vi,Ci,vp⟩ ⟨q1,q2,q3,q4⟩
 simp only at q1 q2 q3 q4 ⊢
 (repeat' first|refine kW ?_|refine kU fun bk=>?_|refine kV fun hc=>?_|refine kZ (fun hc=>?_) fun hc=>?_|fail)
 ·have hiN:i < N:=by omega
  refine ze (zh (j:=i) (len:=N) rfl rfl rfl hiN) rfl ?_
  refine kW ?_
  refine ze (zB rfl (vC (f:=g) (n:=N) (j:=i) (rest:=rest) hiN Fnd.here) rfl) rfl ?_
  (refine kW ?_;refine kU fun bk=>?_;refine kW ?_)
  obtain ⟨bc,hbc⟩:∃bc,bc=bk:=⟨_,rfl⟩
  rw [←hbc]
  clear hbc
  refine yD (L':=[(bc,cl [.int .i64 0,.int .i64 0] 352)]::[(b0,cl (cvs g N++rest) 352)]::Ci::Cp::Cb::L) (fun w h=>h) ?_
  refine zo (l:=[.int .i64 0,.int .i64 0]) (vs:=cv (g i)) (cv (g i)) rfl rfl rfl rfl rfl iU (by simp [cv]) ?_
  refine kW ?_
  refine zn (X:=Nat × List Pm.It × Value × Chunk × Value) (fun x=>[(5,x.2.2.1),(6,x.2.2.2.2),(8,.pointer (some ⟨bc,0,none⟩)),(11,.slice (some ⟨b0,0,none⟩) N c0),(12,.int .i64 (N:Int)),(13,.int .i64 (i:Int))])
   (fun x=>[(bc,cl (cv (g i)) 352)]::[(b0,cl (cvs g N++rest) 352)]::x.2.2.2.1::Cp::Cb::L)
   (fun x=>Pm.Mp (qg wt g N) ps i x.1 x.2.1∧Ow 372 2 x.2.2.1 x.2.1.length (qA x.2.1) x.2.2.2.1∧PsV ps Cp x.2.2.2.2 x.1) (fun x=>ps.length - x.1) (t,A,vi,Ci,vp)
   ⟨q2,q3,q4⟩ iS (fun w h=>h) ?_
  clear q2 q3 q4 t A vi Ci vp
  rintro ⟨t,A,vi,Ci,vp⟩ ⟨q2,q3,q4⟩
  simp only at q2 q3 q4 ⊢
  have hcz:=zd5 wt g hiN
  have hzw:(Pm.Zn wt (g i).1).w=(g i).2:=(hgw i hiN).symm
  have hAl:=q2.len
  rw [hcl] at hAl
  have hitv:itv (Pm.Zn wt (g i).1)=[.int .i64 ((g i).2:Int),.bool false]:=by unfold itv;rw [hzw];rfl
  have hq4:=q4
  rcases q4 with ⟨h1,a,c,rfl⟩|⟨h1,bp,cp,rp,rfl,h2,rfl⟩
  ·refine kW ?_
   refine zk [] mixed ?_
   (refine za 0 ?_;refine za 1 ?_;refine za 2 ?_;refine za 3 ?_)
   rw [show decide ((((0:Nat):Nat):Int) > 0)=false from by decide]
   (refine zD 4 ?_;refine zD 5 ?_;refine zD 6 ?_;refine zD 7 ?_;refine zD 8 ?_;refine zD 9 ?_;refine zD 10 ?_)
   (refine za 11 ?_)
   refine cD ?_
   refine kW ?_
   refine zl (cs:=itv (Pm.Zn wt (g i).1)) rfl (by rfl) (by rw [hitv];first|(simp [zA,patch,Value.cells,zeros];done)|(simp [zA,patch,Value.cells,zeros];rfl)) (by omega) rfl rfl (fun bs=>?_)
   refine kW ?_
   refine zu rfl rfl q3 (zF (k:=2) (c:=(itv (Pm.Zn wt (g i).1)).toArray) (xs:=itv (Pm.Zn wt (g i).1)) (m:=1) Fnd.here rfl (by simp)) (by repeat (first|exact Zip.here _|apply Zip.there)) rfl (by rfl) (by omega) (by simp [maxLen];omega) rfl (fun v' C' ho' _ _=>?_)
   refine kW ?_
   refine zf (X:=Nat × Nat × List Pm.It × Value × Chunk × Value) (μ:=fun x=>N - x.1) (x:=(i,0,[],.slice none 0 0,[],.slice none 0 0)) (i+1,t,A++[Pm.Zn wt (g i).1],v',C',.slice a 0 c) (by simp only;omega) ⟨by simp only;omega,q2.Zn hcs hps hcc hcz (fun x hx=>by rw [List.getElem?_eq_none h1] at hx;cases hx),by rw [ZG,List.length_append];exact ho',hq4⟩ iS (fun w h=>iH h)
  ·obtain ⟨x,hx⟩:∃x,ps[t]? =some x:=⟨ps[t],by simp [h1]⟩
   have hgx:=(Zh hx).1
   have hxl:=(List.getElem?_eq_some_iff.1 hgx).1
   have hgx2:nth (qA ps++rp) (t * 2+0 * 2+0)=some (.int .i64 (x.w:Int)):=by
    rw [yu,show t * 2+0 * 2+0=t * 2 from by omega,List.getElem?_append_left hxl]
    exact hgx
   refine kW ?_
   refine zk [] mixed ?_
   (refine za 0 ?_;refine za 1 ?_;refine za 2 ?_;refine za 3 ?_)
   rw [show decide (((ps.length - t:Nat):Int) > 0)=true from by simp;omega]
   (refine zN 4 ?_)
   refine cO 5 rfl rfl rfl (zi (j:=0) rfl rfl rfl (by omega)) ?_
   refine cO 6 rfl rfl rfl (yH rfl) ?_
   refine cO 7 rfl rfl rfl (zy rfl (Fnd.there (Fnd.there (Fnd.there Fnd.here))) hgx2) ?_
   (refine zN 8 ?_;refine zN 9 ?_;refine zN 10 ?_)
   (refine za 11 ?_)
   refine cD ?_
   (repeat' first|refine kW ?_|refine kU fun bk=>?_|refine kV fun hc=>?_|refine kZ (fun hc=>?_) fun hc=>?_|fail)
   ·have hgx1:=(Zh hx).2
    have hrd:zK [[(bp,cl (qA ps++rp) 372)]] ⟨bp,t * 2+0 * 2,none⟩ (itv x):=by
     refine .inr ⟨bp,_,_,_,(0,0),rfl,Fnd.here,fun j u hj=>?_⟩
     rw [List.getElem?_toArray]
     match j,hj with
     |0,hj=>
      rw [show t * 2+0 * 2+0=t * 2 from by omega,List.getElem?_append_left hxl,hgx]
      exact hj
     |1,hj=>
      rw [show t * 2+0 * 2+1=t * 2+1 from by omega,List.getElem?_append_left (List.getElem?_eq_some_iff.1 hgx1).1,hgx1]
      exact hj
     |n+2,hj=>simp [itv] at hj
    refine yO [[(bp,cl (qA ps++rp) 372)]] [] mixed ?_
    (refine za 0 ?_;refine za 1 ?_)
    refine cT 2 rfl rfl (zi (j:=0) rfl rfl rfl (by omega)) ?_
    refine cT 3 rfl rfl (zB rfl hrd rfl) ?_
    (refine za 6 ?_)
    refine cT 7 rfl rfl (yS (l:=1) (h:=ps.length - t) rfl rfl rfl (by omega) (by omega)) ?_
    refine cI 4 rfl rfl ?_
    refine zl (cs:=itv x) rfl (by rfl) (by simp [zA,patch,Value.cells,zeros,itv];done) (by omega) rfl rfl (fun bs=>?_)
    refine ⟨iC,?_⟩
    refine cI 5 rfl rfl ?_
    refine zu rfl rfl q3 (zF (k:=2) (c:=(itv x).toArray) (xs:=itv x) (m:=1) Fnd.here rfl (by simp)) (by repeat (first|exact Zip.here _|apply Zip.there)) rfl (by rfl) (by omega) (by simp [maxLen];omega) rfl (fun v' C' ho' _ _=>?_)
    refine ⟨iC,?_⟩
    (refine za 8 ?_;refine za 9 ?_)
    refine cD ?_
    refine kW ?_
    refine zf (X:=Nat × List Pm.It × Value × Chunk × Value) (μ:=fun x=>ps.length - x.1) (x:=(t,A,vi,Ci,vi)) (t+1,A++[x],v',C',_) (by simp only;omega) ⟨q2.pack hcs hps hpp hx hcz (by rw [hzw];omega),by rw [ZG,List.length_append];exact ho',?_⟩ iS (fun w h=>iH h)
    by_cases h3:t+1 < ps.length
    ·refine .inr ⟨h3,bp,cp,rp,?_,h2,rfl⟩
     rw [if_neg (by omega)]
     simp only
     rw [show t * 2+1 * 2=(t+1) * 2 from by omega,Nat.sub_sub,Nat.sub_sub]
    ·have e0:ps.length - t - 1=0:=by omega
     rw [e0]
     exact .inl ⟨by simp only;omega,_,_,rfl⟩
   ·refine zl (cs:=itv (Pm.Zn wt (g i).1)) rfl (by rfl) (by rw [hitv];first|(simp [zA,patch,Value.cells,zeros];done)|(simp [zA,patch,Value.cells,zeros];rfl)) (by omega) rfl rfl (fun bs=>?_)
    refine kW ?_
    refine zu rfl rfl q3 (zF (k:=2) (c:=(itv (Pm.Zn wt (g i).1)).toArray) (xs:=itv (Pm.Zn wt (g i).1)) (m:=1) Fnd.here rfl (by simp)) (by repeat (first|exact Zip.here _|apply Zip.there)) rfl (by rfl) (by omega) (by simp [maxLen];omega) rfl (fun v' C' ho' _ _=>?_)
    refine kW ?_
    refine zf (X:=Nat × Nat × List Pm.It × Value × Chunk × Value) (μ:=fun x=>N - x.1) (x:=(i,0,[],.slice none 0 0,[],.slice none 0 0)) (i+1,t,A++[Pm.Zn wt (g i).1],v',C',.slice (some ⟨bp,t * 2,none⟩) (ps.length - t) (cp - t)) (by simp only;omega) ⟨by simp only;omega,q2.Zn hcs hps hcc hcz (fun y hy=>by rw [hx] at hy;injection hy with hy;subst hy;rw [hzw];omega),by rw [ZG,List.length_append];exact ho',hq4⟩ iS (fun w h=>iH h)
 ·have hie:i=N:=by omega
  refine zu rfl rfl q3 (q4.sl (fun x hx=>?_)) (by repeat (first|exact Zip.here _|apply Zip.there)) rfl (zh6 _) ?_ ?_ rfl (fun v' C' ho' _ _=>?_)
  ·simp only [List.flatten_cons,List.mem_append]
   exact .inr (.inr (.inl hx))
  ·have:=q2.len
   rw [hcl] at this
   rw [List.length_drop]
   omega
  ·have:=q2.len
   rw [hcl] at this
   rw [List.length_drop]
   simp [maxLen]
   omega
  ·refine kW ?_
   refine kR ?_
   rw [hie] at q2
   have hfin:=Pm.Mp.fin (cs:=qg wt g N) (by rw [hcl];exact q2) hps hpp
   refine ⟨C'::[(b0,cl (cvs g N++rest) 352)]::Cb::L,iC,A++ps.drop t,C',rfl,?_,hfin⟩
   rw [List.length_append,ZG]
   exact ho'
end Go.Proofs.YtemdlifojcgplaaGreatDoor
namespace Go.Hf
set_option linter.all false
def okc (x:Int):Bool:=!(decide (x < 0)||decide (1073741824 < x))
theorem zdj (x:Int):okc x=true↔0≤x∧x≤1073741824:=by
 unfold okc
 by_cases h1:x < 0<;>by_cases h2:1073741824 < x<;>simp [h1,h2]<;>omega
def pos (cs:List Nat):Nat→List (Nat × Nat)
 |0=>[]
 |k+1=>pos cs k++if 0 < cs.getD k 0 then [(k,cs.getD k 0)] else []
theorem uf (cs:List Nat):∀k,(pos cs k).length≤k
 |0=>Nat.le_refl _
 |k+1=>by
  have:=uf cs k
  rw [pos,List.length_append]
  split<;>simp<;>omega
theorem zas (cs:List Nat):∀k x,x∈pos cs k↔x.1 < k∧0 < cs.getD x.1 0∧x.2=cs.getD x.1 0
 |0,x=>by simp [pos]
 |k+1,x=>by
  rw [pos,List.mem_append,zas cs k]
  by_cases h:0 < cs.getD k 0
  ·rw [if_pos h,List.mem_singleton]
   constructor
   ·rintro (⟨h1,h2,h3⟩|rfl)
    ·exact ⟨by omega,h2,h3⟩
    ·exact ⟨Nat.lt_succ_self _,h,rfl⟩
   ·rintro ⟨h1,h2,h3⟩
    rcases Nat.lt_or_ge x.1 k with h4|h4
    ·exact .inl ⟨h4,h2,h3⟩
    ·have e:x.1=k:=by omega
     refine .inr ?_
     obtain ⟨x1,x2⟩:=x
     simp only at e h3 ⊢
     subst e h3
     rfl
  ·rw [if_neg h]
   constructor
   ·rintro (⟨h1,h2,h3⟩|h1)
    ·exact ⟨by omega,h2,h3⟩
    ·cases h1
   ·rintro ⟨h1,h2,h3⟩
    refine .inl ⟨?_,h2,h3⟩
    rcases Nat.lt_or_ge x.1 k with h4|h4
    ·exact h4
    ·have e:x.1=k:=by omega
     rw [e] at h2
     exact absurd h2 h
theorem zcm (cs:List Nat):∀k,((pos cs k).map fun x=>x.1).Nodup
 |0=>by simp [pos]
 |k+1=>by
  rw [pos,List.map_append,List.nodup_append]
  refine ⟨zcm cs k,by split<;>simp,fun a ha b hb=>?_⟩
  obtain ⟨x,hx,rfl⟩:=List.mem_map.1 ha
  have h1:=((zas cs k x).1 hx).1
  split at hb
  ·simp at hb;omega
  ·simp at hb
structure Cn (cs:List Nat) (n N:Nat) (g:Nat→Nat × Nat):Prop where
 le:N≤n
 up:Go.So.Srt (fun x=>x.2) 0 N g
 sy:∀r,r < N→(g r).1 < n∧0 < cs.getD (g r).1 0∧(g r).2=cs.getD (g r).1 0
 inj:∀r p,r < N→p < N→(g r).1=(g p).1→r=p
 onto:∀i,i < n→0 < cs.getD i 0→∃r,r < N∧(g r).1=i
theorem zqy {cs:List Nat} {n:Nat} {g:Nat→Nat × Nat} (hu:Go.So.Srt (fun x=>x.2) 0 (pos cs n).length g)
 (hp:((List.range (pos cs n).length).map g).Perm (pos cs n)):Cn cs n (pos cs n).length g where
 le:=uf cs n
 up:=hu
 sy r hr:=(zas cs n (g r)).1 (hp.mem_iff.1 (List.mem_map.2 ⟨r,List.mem_range.2 hr,rfl⟩))
 inj r p hr hq he:=by
  have h1:(((List.range (pos cs n).length).map g).map fun x=>x.1).Nodup:=(hp.map _).nodup_iff.2 (zcm cs n)
  rw [List.map_map] at h1
  have h2:((List.range (pos cs n).length).map ((fun x=>x.1) ∘ g))[r]? =((List.range (pos cs n).length).map ((fun x=>x.1) ∘ g))[p]? :=by
   rw [List.getElem?_map,List.getElem?_map,List.getElem?_range hr,List.getElem?_range hq]
   exact congrArg some he
  exact (List.getElem?_inj (by simpa using hr) h1).1 h2
 onto i hi h0:=by
  have h1:=(zas cs n (i,cs.getD i 0)).2 ⟨hi,h0,rfl⟩
  obtain ⟨r,hr,he⟩:=List.mem_map.1 (hp.mem_iff.2 h1)
  exact ⟨r,List.mem_range.1 hr,by rw [he]⟩
end Go.Hf
namespace Go.Proofs.YtemdlifojcgplaaGreatDoor
open Go Go.Vx Go.So Go.Hf
variable [W0]
set_option maxRecDepth 4000
set_option linter.all false
theorem zqV (x:Int) (L:List Chunk):GvP Tryz.prog 285 [.int .i64 x].toArray L (.bool (!okc x)):=by
 refine Gv.of_body Tryz.func285 rfl rfl ?_
 (repeat' first|refine kW ?_|refine kU fun bk=>?_|refine kV fun hc=>?_|refine kZ (fun hc=>?_) fun hc=>?_|fail)
 ·refine kR ?_
  exact ⟨L,iC,congrArg Value.bool (show true=!okc x by simp [okc,hc]),rfl⟩
 ·refine kR ?_
  exact ⟨L,iC,congrArg Value.bool (show decide (x > 1073741824)=!okc x by simp [okc,hc]),rfl⟩
omit [W0] in
def zpN:Value:=.func (.func 285) #[] #[]
theorem zni (a:Option Addr) (c:Nat) (ls:List Int) (L:List Chunk) (h:Sl L 1 (.slice a ls.length c) ls.length (yg ls)) (hl:ls.length≤17592186044416) :
 Gv Tryz.prog 292 [.slice a ls.length c,zpN].toArray L (fun r L'=>∃k:Int,r=.int .i64 k∧(0≤k↔ls.all okc=false)∧L'=L):=by
 refine Gv.of_body Tryz.func292 rfl rfl ?_
 refine kW ?_
 refine zn (X:=Nat) (fun i=>[(0,.slice a ls.length c),(1,zpN),(7,.int .i64 (ls.length:Int)),(8,.int .i64 (i:Int))]) (fun _=>L)
  (fun i=>i≤ls.length∧(ls.take i).all okc=true) (fun i=>ls.length - i) 0 ⟨Nat.zero_le _,rfl⟩ iS (fun w h=>h) ?_
 rintro i ⟨hi,hal⟩
 (repeat' first|refine kW ?_|refine kU fun bk=>?_|refine kV fun hc=>?_|refine kZ (fun hc=>?_) fun hc=>?_|fail)
 ·have hlt:i < ls.length:=by omega
  obtain ⟨b,off,cap,cc,T,fr,hve,hfn,hcell⟩:=yV h (wT hlt)
  injection hve with q1 q2 q3
  subst q1 q3
  clear q2
  have htk:(ls.take (i+1)).all okc=((ls.take i).all okc&&okc (ls.getD i 0)):=by
   rw [List.take_add_one,List.all_append,List.getElem?_eq_getElem hlt]
   simp [List.getD,hlt]
  obtain ⟨x,hx⟩:∃x,x=ls.getD i 0:=⟨_,rfl⟩
  have hxm:x∈ls:=by rw [hx];simp [List.getD,hlt]
  rw [←hx] at hcell htk
  refine ze (zi (j:=i) rfl rfl rfl hlt) rfl ?_
  refine kW ?_
  refine ze (zq rfl hfn hcell) rfl ?_
  refine kW ?_
  refine cP rfl rfl (zqV x _) ?_
  (repeat' first|refine kW ?_|refine kU fun bk=>?_|refine kV fun hc=>?_|refine kZ (fun hc=>?_) fun hc=>?_|fail)
  ·refine kR ?_
   refine ⟨L,iC,_,rfl,⟨fun _=>?_,fun _=>by omega⟩,rfl⟩
   rw [Bool.eq_false_iff]
   intro hh
   have:=List.all_eq_true.1 hh x hxm
   rw [this] at hc
   cases hc
  ·have hox:okc x=true:=by simpa using hc
   refine zf (X:=Nat) (μ:=fun i=>ls.length - i) (x:=i) (i+1) (by omega) ⟨by omega,by rw [htk,hal,hox];rfl⟩ iS (fun w h=>h)
 ·refine kR ?_
  refine ⟨L,iC,_,rfl,⟨fun h=>absurd h (by decide),fun hh=>?_⟩,rfl⟩
  rw [List.take_of_length_le (by omega)] at hal
  rw [hal] at hh
  cases hh
theorem zfn (a:Option Addr) (c:Nat) (ls:List Int) (L:List Chunk) (h:Sl L 1 (.slice a ls.length c) ls.length (yg ls)) (hl:ls.length≤17592186044416) :
 GvP Tryz.prog 284 [.slice a ls.length c,zpN].toArray L (.bool (!ls.all okc)):=by
 refine Gv.of_body Tryz.func284 rfl rfl ?_
 refine kW ?_
 refine cC rfl rfl (zni a c ls L h hl) (fun r L' hp=>?_)
 obtain ⟨k,rfl,hk,rfl⟩:=hp
 refine kW ?_
 refine kR ?_
 refine ⟨L',iC,congrArg Value.bool ?_,rfl⟩
 rw [Bool.eq_iff_iff]
 simp only [Bool.not_eq_true']
 rw [←hk]
 simp
theorem zd7 (a:Option Addr) (c:Nat) (ls:List Int) (L:List Chunk) (h:Sl L 1 (.slice a ls.length c) ls.length (yg ls)) (hl:ls.length≤17592186044416) :
 GvP Tryz.prog 277 [.slice a ls.length c].toArray L (.bool (ls.all okc)):=by
 refine Gv.of_body Tryz.func277 rfl rfl ?_
 refine kW ?_
 refine cP rfl rfl (zfn a c ls L h hl) ?_
 refine kW ?_
 refine kR ?_
 exact ⟨L,iC,congrArg Value.bool (Bool.not_not _),rfl⟩
omit [W0] in
def psv (l:List (Nat × Nat)):List Value:=l.flatMap cv
theorem zhl (l:List (Nat × Nat)) (x:Nat × Nat):psv (l++[x])=psv l++cv x:=by simp [psv]
theorem zgE (f:Nat→Nat × Nat):∀n,cvs f n=psv ((List.range n).map f)
 |0=>rfl
 |n+1=>by rw [cvs,zgE f n,List.range_succ,List.map_append,List.map_singleton,zhl]
omit [W0] in
def fof (l:List (Nat × Nat)):Nat→Nat × Nat:=fun k=>l.getD k (0,0)
theorem zc3 (l:List (Nat × Nat)):(List.range l.length).map (fof l)=l:=by
 apply List.ext_getElem?
 intro k
 rw [List.getElem?_map]
 rcases Nat.lt_or_ge k l.length with h|h
 ·rw [List.getElem?_range h]
  simp [fof,List.getD,h]
 ·rw [List.getElem?_eq_none (by simpa using h),List.getElem?_eq_none h]
  rfl
theorem znO (l:List (Nat × Nat)):psv l=cvs (fof l) l.length:=by rw [zgE,zc3]
theorem zkK {ls:List Int} {i:Nat} (h:i < ls.length):(nl ls).getD i 0=(ls.getD i 0).toNat:=by simp [nl,List.getD,h]
theorem zmU (a:Option Addr) (c:Nat) (ls:List Int) (L:List Chunk) (h:Sl L 1 (.slice a ls.length c) ls.length (yg ls)) (hl:ls.length≤400) (hok:ls.all okc=true) :
 Gv Tryz.prog 278 [.slice a ls.length c].toArray L (fun r L'=>∃g C,Cn (nl ls) ls.length (pos (nl ls) ls.length).length g∧L'=C::L∧Ow 352 2 r (pos (nl ls) ls.length).length (cvs g (pos (nl ls) ls.length).length) C):=by
 refine Gv.of_body Tryz.func278 rfl rfl ?_
 refine kW ?_
 refine zn (X:=Nat × Value × Chunk) (fun x=>[(3,x.2.1),(6,.slice a ls.length c),(7,.int .i64 (ls.length:Int)),(8,.int .i64 (x.1:Int))]) (fun x=>x.2.2::L)
  (fun x=>x.1≤ls.length∧Ow 352 2 x.2.1 (pos (nl ls) x.1).length (psv (pos (nl ls) x.1)) x.2.2) (fun x=>ls.length - x.1) (0,.slice none 0 0,[]) ⟨Nat.zero_le _,.inl ⟨rfl,rfl,rfl,rfl⟩⟩ iS (fun w h=>Holds.nil.2 h) ?_
 rintro ⟨i,v,C⟩ ⟨hi,ho⟩
 simp only at hi ho ⊢
 (repeat' first|refine kW ?_|refine kU fun bk=>?_|refine kV fun hc=>?_|refine kZ (fun hc=>?_) fun hc=>?_|fail)
 ·have hlt:i < ls.length:=by omega
  obtain ⟨b,off,cap,cc,T,fr,hve,hfn,hcell⟩:=yV h (wT hlt)
  injection hve with q1 q2 q3
  subst q1 q3
  clear q2
  have hg:=zkK hlt
  have hox:okc (ls.getD i 0)=true:=List.all_eq_true.1 hok _ (by simp [List.getD,hlt])
  obtain ⟨ho1,ho2⟩:=(zdj _).1 hox
  obtain ⟨x,hx⟩:∃x,x=(nl ls).getD i 0:=⟨_,rfl⟩
  have hxe:ls.getD i 0=(x:Int):=by rw [hx,hg];omega
  have hps:pos (nl ls) (i+1)=pos (nl ls) i++if 0 < x then [(i,x)] else []:=by rw [hx];rfl
  have hpl:=uf (nl ls) i
  rw [hxe] at hcell
  refine ze (zi (j:=i) rfl rfl rfl hlt) rfl ?_
  refine kW ?_
  refine ze (zq rfl hfn.there hcell) rfl ?_
  (repeat' first|refine kW ?_|refine kU fun bk=>?_|refine kV fun hc=>?_|refine kZ (fun hc=>?_) fun hc=>?_|fail)
  ·have h0:0 < x:=by omega
   rw [if_pos h0] at hps
   refine zl (cs:=cv (i,x)) rfl (by rfl) (by first|(simp [zA,patch,Value.cells,zeros,cv];done)|(simp [zA,patch,Value.cells,zeros,cv];rfl)) (by omega) rfl rfl (fun bs=>?_)
   refine kW ?_
   refine zu rfl rfl ho (zF (k:=2) (c:=(cv (i,x)).toArray) (xs:=cv (i,x)) (m:=1) Fnd.here rfl (by simp)) (by repeat (first|exact Zip.here _|apply Zip.there)) rfl (by rfl) (by omega) (by simp [maxLen];omega) rfl (fun v' C' ho' _ _=>?_)
   refine kW ?_
   refine zf (X:=Nat × Value × Chunk) (μ:=fun x=>ls.length - x.1) (x:=(i,v,C)) (i+1,v',C') (by simp only;omega) ⟨by simp only;omega,by simp only;rw [hps,List.length_append,zhl];exact ho'⟩ iS (fun w h=>h.drop)
  ·have h0:¬0 < x:=by omega
   rw [if_neg h0,List.append_nil] at hps
   refine zf (X:=Nat × Value × Chunk) (μ:=fun x=>ls.length - x.1) (x:=(i,v,C)) (i+1,v,C) (by simp only;omega) ⟨by simp only;omega,by simp only;rw [hps];exact ho⟩ iS (fun w h=>h)
 ·have hie:i=ls.length:=by omega
  subst hie
  have hpl:=uf (nl ls) ls.length
  obtain ⟨P,hP⟩:∃P,P=pos (nl ls) ls.length:=⟨_,rfl⟩
  rw [←hP] at ho hpl ⊢
  rw [znO] at ho
  have hcn:=fun g h1 h2=>zqy (cs:=nl ls) (n:=ls.length) (g:=g) (by rw [←hP];exact h1) (by rw [←hP];exact h2)
  rw [←hP] at hcn
  rcases ho with ⟨rfl,h1,h2,rfl⟩|⟨b,cap,rest,rfl,rfl,hxl,hrl,hmc,hcm⟩
  ·refine cP rfl rfl (zf9 _) ?_
   refine kW ?_
   refine kR ?_
   have hP0:P=[]:=List.length_eq_zero_iff.1 h1
   refine ⟨[]::L,iC,fof P,[],hcn _ (fun p q _ _ hq=>by omega) (by rw [zc3]),rfl,.inl ⟨rfl,h1,h2,rfl⟩⟩
  ·refine cC rfl rfl (zlH (fof P) P.length b cap rest L (by omega)) (fun r L' hp=>?_)
   obtain ⟨rfl,g,hm,hs,rfl⟩:=hp
   refine kW ?_
   refine kR ?_
   refine ⟨[(b,cl (cvs g P.length++rest) 352)]::L,iC,g,_,hcn _ hs ?_,rfl,.inr ⟨b,cap,rest,rfl,rfl,y8 g _,hrl,hmc,hcm⟩⟩
   ·have:=hm.perm (Nat.le_refl _)
    rw [zc3] at this
    exact this
end Go.Proofs.YtemdlifojcgplaaGreatDoor
namespace Go.Pm
set_option linter.all false
theorem znz {cs ps:List Pm.It} (hcs:cs.Pairwise fun a b=>a.w≤b.w) (hps:ps.Pairwise fun a b=>a.w≤b.w) (hcc:∀x∈cs,isC x=true) (hpp:∀x∈ps,isC x=false):∀i,i≤cs.length→∃t A,Mp cs ps i t A:=by
 intro i
 induction i with
 |zero=>intro _;exact ⟨0,[],Mp.nil _ _⟩
 |succ i ih=>
  intro hi
  obtain ⟨t,A,h⟩:=ih (by omega)
  obtain ⟨z,hz⟩:∃z,cs[i]? =some z:=⟨cs[i],by simp [show i < cs.length from by omega]⟩
  have key:∀m t A,ps.length - t≤m→Mp cs ps i t A→∃t A,Mp cs ps (i+1) t A:=by
   intro m
   induction m with
   |zero=>
    intro t A hm h
    exact ⟨t,_,h.Zn hcs hps hcc hz fun x hx=>by have:=(List.getElem?_eq_some_iff.1 hx).1;omega⟩
   |succ m ih=>
    intro t A hm h
    cases hp:ps[t]? with
    |none=>exact ⟨t,_,h.Zn hcs hps hcc hz fun x hx=>by rw [hp] at hx;cases hx⟩
    |some x=>
     rcases Nat.lt_or_ge x.w z.w with hlt|hge
     ·have hl:=(List.getElem?_eq_some_iff.1 hp).1
      exact ih (t+1) _ (by omega) (h.pack hcs hps hpp hp hz hlt)
     ·exact ⟨t,_,h.Zn hcs hps hcc hz fun y hy=>by rw [hp] at hy;injection hy with hy;subst hy;exact hge⟩
  exact key _ t A (Nat.le_refl _) h
theorem zar {cs ps:List Pm.It} (hcs:cs.Pairwise fun a b=>a.w≤b.w) (hps:ps.Pairwise fun a b=>a.w≤b.w) (hcc:∀x∈cs,isC x=true) (hpp:∀x∈ps,isC x=false):∃A,Mg cs ps A:=by
 obtain ⟨t,A,h⟩:=znz hcs hps hcc hpp cs.length (Nat.le_refl _)
 exact ⟨_,h.fin hps hpp⟩
open Classical in
noncomputable def QW (cs ps:List Pm.It):List Pm.It:=if h:∃A,Mg cs ps A then Classical.choose h else []
noncomputable def zaa (cs:List Pm.It) (lv:Nat→List Pm.It) (k:Nat) (A:List Pm.It):Nat→List Pm.It
 |0=>[]
 |j+1=>if j < k then lv (j+1) else if j=k then A else QW cs (pairs (zaa cs lv k A j))
theorem wS {cs:List Pm.It} {lv:Nat→List Pm.It} {k:Nat} {A:List Pm.It} (h0:lv 0=[]):∀{j:Nat},j≤k→zaa cs lv k A j=lv j
 |0,_=>h0.symm
 |j+1,h=>by unfold zaa;rw [if_pos (by omega)]
theorem XV {cs:List Pm.It} {lv:Nat→List Pm.It} {k:Nat} {A:List Pm.It}:zaa cs lv k A (k+1)=A:=by
 unfold zaa;rw [if_neg (by omega),if_pos rfl]
theorem zm9 {cs:List Pm.It} {lv:Nat→List Pm.It} {k:Nat} {A:List Pm.It} (hcs:cs.Pairwise fun a b=>a.w≤b.w) (hcc:∀x∈cs,isC x=true) (h:Lv cs lv) (hA:Mg cs (pairs (lv k)) A):Lv cs (zaa cs lv k A):=by
 refine ⟨rfl,fun j=>?_⟩
 induction j with
 |zero=>
  by_cases h0:0 < k
  ·rw [wS h.zero (by omega),wS h.zero (by omega)];exact h.next 0
  ·have hk:k=0:=by omega
   subst hk
   rw [XV,wS h.zero (Nat.le_refl _)]
   exact hA
 |succ j ih=>
  by_cases h1:j+1 < k
  ·rw [wS h.zero (by omega),wS h.zero (by omega)];exact h.next (j+1)
  ·by_cases h2:j+1=k
   ·subst h2
    rw [XV,wS h.zero (Nat.le_refl _)]
    exact hA
   ·have hup:(pairs (zaa cs lv k A (j+1))).Pairwise fun a b=>a.w≤b.w:=ZI ih.up
    have hex:=zar hcs hup hcc (uZ _)
    have e:zaa cs lv k A (j+1+1)=QW cs (pairs (zaa cs lv k A (j+1))):=by
     rw [zaa,if_neg (by omega),if_neg h2]
    rw [e]
    unfold QW
    rw [dif_pos hex]
    exact Classical.choose_spec hex
theorem zpE {cs:List Pm.It} (hcs:cs.Pairwise fun a b=>a.w≤b.w) (hcc:∀x∈cs,isC x=true):∃lv,Lv cs lv:=by
 have key:∀k,∃lv:Nat→List Pm.It,lv 0=[]∧∀j,j < k→Mg cs (pairs (lv j)) (lv (j+1)):=fun k=>by
  induction k with
  |zero=>exact ⟨fun _=>[],rfl,fun j h=>by omega⟩
  |succ k ih=>
   obtain ⟨lv,h0,h1⟩:=ih
   have hup:(pairs (lv k)).Pairwise fun a b=>a.w≤b.w:=by
    refine ZI ?_
    cases k with
    |zero=>rw [h0];exact .nil
    |succ k=>exact (h1 k (by omega)).up
   obtain ⟨A,hA⟩:=zar hcs hup hcc (uZ _)
   refine ⟨zaa cs lv k A,rfl,fun j hj=>?_⟩
   by_cases h2:j=k
   ·subst h2;rw [XV,wS h0 (Nat.le_refl _)];exact hA
   ·rw [wS h0 (by omega),wS h0 (by omega)];exact h1 j (by omega)
 let lv:Nat→List Pm.It:=fun n=>Nat.rec [] (fun j A=>QW cs (pairs A)) n
 refine ⟨lv,rfl,fun j=>?_⟩
 have hup:∀j,(lv j).Pairwise fun a b=>a.w≤b.w:=fun j=>by
  induction j with
  |zero=>exact .nil
  |succ j ih=>
   have hex:=zar hcs (ZI ih) hcc (uZ _)
   have e:lv (j+1)=QW cs (pairs (lv j)):=rfl
   rw [e];unfold QW;rw [dif_pos hex]
   exact (Classical.choose_spec hex).up
 have hex:=zar hcs (ZI (hup j)) hcc (uZ _)
 have e:lv (j+1)=QW cs (pairs (lv j)):=rfl
 rw [e];unfold QW;rw [dif_pos hex]
 exact Classical.choose_spec hex
theorem QV:∀{l:List Pm.It} {x:Pm.It},x∈pairs l→∃y∈l,∃z∈l,x.w=y.w+z.w
 |[],x,h=>by simp [pairs] at h
 |[_],x,h=>by simp [pairs] at h
 |a::b::r,x,h=>by
  rcases List.mem_cons.1 h with rfl|h
  ·exact ⟨a,by simp,b,by simp,rfl⟩
  ·obtain ⟨y,hy,z,hz,e⟩:=QV h
   exact ⟨y,by simp [hy],z,by simp [hz],e⟩
theorem zpF {cs:List Pm.It} {lv:Nat→List Pm.It} {B:Nat} (h:Lv cs lv) (hB:∀x∈cs,x.w≤B):∀k,∀x∈lv k,x.w≤B * 2 ^ k
 |0,x,hx=>by rw [h.zero] at hx;simp at hx
 |k+1,x,hx=>by
  cases hc:isC x with
  |true=>
   have:x∈(lv (k+1)).filter isC:=List.mem_filter.2 ⟨hx,hc⟩
   rw [(h.next k).cs] at this
   exact Nat.le_trans (hB x this) (Nat.le_mul_of_pos_right _ (Nat.pow_pos (by decide)))
  |false=>
   have:x∈(lv (k+1)).filter (fun x=>!isC x):=List.mem_filter.2 ⟨hx,by rw [hc];rfl⟩
   rw [(h.next k).ps] at this
   obtain ⟨y,hy,z,hz,e⟩:=QV this
   have h1:=zpF h hB k y hy
   have h2:=zpF h hB k z hz
   rw [e,Nat.pow_succ,←Nat.mul_assoc]
   omega
theorem zqR {cs:List Pm.It} {lv:Nat→List Pm.It} (h:Lv cs lv):∀k,(lv k).Pairwise fun a b=>a.w≤b.w
 |0=>by rw [h.zero];exact .nil
 |k+1=>(h.next k).up
theorem zfD {cs:List Pm.It} {lv:Nat→List Pm.It} (h:Lv cs lv):∀k,(lv k).length≤2 * cs.length
 |0=>by rw [h.zero];simp
 |k+1=>by
  have:=Y2 h k
  have:=zfD h k
  omega
end Go.Pm
namespace Go.Proofs.YtemdlifojcgplaaGreatDoor
open Go Go.Vx Go.So
variable [W0]
set_option maxRecDepth 4000
set_option linter.all false
omit [W0] in
structure LvR (lv:Nat→List Pm.It) (k:Nat) (vs:List Value) (Cs:List Chunk):Prop where
 lv_:vs.length=k
 lc:Cs.length=k+1
 at_:∀j,j < k→∃v C,vs[j]? =some v∧Cs[j+1]? =some C∧Ow 372 2 v (lv (j+1)).length (qA (lv (j+1))) C
theorem zkx (wt:Nat→Nat) (g:Nat→Nat × Nat) (N b0 c0 M:Nat) (rest:List Value) (L:List Chunk) (hN:N≤400) (hM:M≤15) (hs:Srt ky 0 N g) (hgw:∀r,r < N→(g r).2=wt (g r).1) (hgb:∀r,r < N→(g r).2≤1073741824) :
 Gv Tryz.prog 280 [.slice (some ⟨b0,0,none⟩) N c0,.int .i64 (M:Int)].toArray ([(b0,cl (cvs g N++rest) 352)]::L)
  (fun r L'=>∃lv vs Cs Cl,L'=Cl::Cs.flatten::[(b0,cl (cvs g N++rest) 352)]::L∧Pm.Lv (qg wt g N) lv∧LvR lv M vs Cs∧Ow 363 1 r M vs Cl):=by
 have hcs:=zaP hs hgw
 have hcc:=QK wt g N
 have hcl:=q9 wt g N
 have hcw:∀x∈qg wt g N,x.w≤1073741824:=fun x hx=>by
  obtain ⟨r,hr,rfl⟩:=List.mem_map.1 hx
  have:=hgb r (List.mem_range.1 hr)
  rw [hgw r (List.mem_range.1 hr)] at this
  exact this
 obtain ⟨lv0,hlv0⟩:=Pm.zpE hcs hcc
 refine Gv.of_body Tryz.func280 rfl rfl ?_
 refine kW ?_
 refine zn (X:=Nat × (Nat→List Pm.It) × List Value × List Chunk × Chunk × Value × Value × Chunk) (fun x=>[(0,.slice (some ⟨b0,0,none⟩) N c0),(5,x.2.2.2.2.2.1),(6,x.2.2.2.2.2.2.1),(7,.int .i64 (M:Int)),(8,.int .i64 (x.1:Int))])
  (fun x=>x.2.2.2.2.1::x.2.2.2.1.flatten::x.2.2.2.2.2.2.2::[(b0,cl (cvs g N++rest) 352)]::L)
  (fun x=>x.1≤M∧Pm.Lv (qg wt g N) x.2.1∧LvR x.2.1 x.1 x.2.2.1 (x.2.2.2.1++[x.2.2.2.2.2.2.2])∧Ow 363 1 x.2.2.2.2.2.1 x.1 x.2.2.1 x.2.2.2.2.1∧Ow 372 2 x.2.2.2.2.2.2.1 (x.2.1 x.1).length (qA (x.2.1 x.1)) x.2.2.2.2.2.2.2) (fun x=>M - x.1) (0,lv0,[],[],[],.slice none 0 0,.slice none 0 0,[])
  ⟨Nat.zero_le _,hlv0,⟨rfl,rfl,fun j hj=>by omega⟩,.inl ⟨rfl,rfl,rfl,rfl⟩,by simp only;rw [hlv0.zero];exact .inl ⟨rfl,rfl,rfl,rfl⟩⟩ iS (fun w h=>?_) ?_
 ·show Holds w ([]::[]::[]::[(b0,cl (cvs g N++rest) 352)]::L)
  exact Holds.nil.2 (Holds.nil.2 (Holds.nil.2 h))
 rintro ⟨k,lv,vs,Cs,Cl,rv,bv,Cb⟩ ⟨q1,q2,q3,q4,q5⟩
 simp only at q1 q2 q3 q4 q5 ⊢
 have hlen:=Pm.zfD q2 k
 rw [hcl] at hlen
 (repeat' first|refine kW ?_|refine kU fun bk=>?_|refine kV fun hc=>?_|refine kZ (fun hc=>?_) fun hc=>?_|fail)
 ·have hkM:k < M:=by omega
  have hpw:2 ^ k≤2 ^ 15:=Nat.pow_le_pow_right (by decide) (by omega)
  have hmg:=zkF wt g N b0 c0 rest bv (lv k) Cb (Cl::Cs.flatten::L) hN hs hgw hgb q5 (by omega) (fun x hx=>by
   have h1:=Pm.zpF q2 hcw k x hx
   have h2:1073741824 * 2 ^ k≤1073741824 * 2 ^ 15:=Nat.mul_le_mul_left _ hpw
   omega) (Pm.zqR q2 k)
  refine cC rfl rfl (Gv.holds hmg (fun w h=>iH h)) (fun r L' hp=>?_)
  obtain ⟨A,C,rfl,hoA,hA⟩:=hp
  have hlv':=Pm.zm9 hcs hcc q2 hA
  obtain ⟨ra,rc,rfl⟩:=zM hoA
  refine kW ?_
  refine zl (cs:=[.slice ra A.length rc]) rfl (by rfl) (by simp [zA,patch,Value.cells,zeros];done) (by omega) rfl rfl (fun bs=>?_)
  refine kW ?_
  refine zu rfl rfl q4 (zF (k:=1) (c:=#[.slice ra A.length rc]) (xs:=[.slice ra A.length rc]) (m:=1) Fnd.here rfl (by simp)) (by repeat (first|exact Zip.here _|apply Zip.there)) rfl (by rfl) (by omega) (by simp [maxLen];omega) rfl (fun v' C' ho' _ _=>?_)
  refine kW ?_
  refine zf (X:=Nat × (Nat→List Pm.It) × List Value × List Chunk × Chunk × Value × Value × Chunk) (μ:=fun x=>M - x.1) (x:=(k,lv,vs,Cs,Cl,rv,bv,Cb)) (k+1,Pm.zaa (qg wt g N) lv k A,vs++[.slice ra A.length rc],Cs++[Cb],C',v',.slice ra A.length rc,C) (by simp only;omega)
   ⟨by simp only;omega,hlv',?_,ho',by simp only;rw [Pm.XV];exact hoA⟩ iS (fun w h=>?_)
  ·refine ⟨by simp only [List.length_append,q3.lv_,List.length_cons,List.length_nil],by have:=q3.lc;simp only [List.length_append,List.length_cons,List.length_nil] at this ⊢;omega,fun j hj=>?_⟩
   have hlc:(Cs++[Cb]).length=k+1:=q3.lc
   by_cases e:j=k
   ·subst e
    refine ⟨_,C,by simp only;rw [List.getElem?_append_right (by rw [q3.lv_];omega),q3.lv_,Nat.sub_self];rfl,by simp only;rw [List.getElem?_append_right (by rw [hlc];omega),hlc,Nat.sub_self];rfl,?_⟩
    simp only
    rw [Pm.XV]
    exact hoA
   ·obtain ⟨v1,C1,h1,h2,h3⟩:=q3.at_ j (by simp only at hj;omega)
    refine ⟨v1,C1,by simp only;rw [List.getElem?_append_left (List.getElem?_eq_some_iff.1 h1).1];exact h1,by simp only;rw [List.getElem?_append_left (List.getElem?_eq_some_iff.1 h2).1];exact h2,?_⟩
    simp only
    rw [Pm.wS q2.zero (by simp only at hj;omega)]
    exact h3
  ·have h2:=(iC:Inc (C'::Cs.flatten::Cb::C::[(b0,cl (cvs g N++rest) 352)]::L) _).holds h
   simp only [List.flatten_append,List.flatten_cons,List.flatten_nil,List.append_nil]
   simpa [Holds,List.append_assoc] using h2
 ·have hk:k=M:=by omega
  subst hk
  refine kH ?_
  refine ⟨_,fun w h=>?_,lv,vs,Cs++[Cb],Cl,rfl,q2,q3,q4⟩
  simp only [List.flatten_append,List.flatten_cons,List.flatten_nil,List.append_nil]
  simpa [Holds,List.append_assoc] using h
theorem zmD (l:List Pm.It) (b m c:Nat) (rest:List Value) (L:List Chunk) (hf:Fnd L b (cl (qA l++rest) 372)) (hm:m≤l.length) (hl:l.length≤1000) :
 GvP Tryz.prog 289 [.slice (some ⟨b,0,none⟩) m c].toArray L (.int .i64 ((((l.take m).filter fun x=>!Pm.isC x).length:Nat):Int)):=by
 refine Gv.of_body Tryz.func289 rfl rfl ?_
 refine kW ?_
 refine zn (X:=Nat) (fun i=>[(3,.int .i64 ((((l.take i).filter fun x=>!Pm.isC x).length:Nat):Int)),(6,.slice (some ⟨b,0,none⟩) m c),(7,.int .i64 (m:Int)),(8,.int .i64 (i:Int))]) (fun _=>L) (fun i=>i≤m) (fun i=>m - i) 0 (Nat.zero_le _) iS (fun w h=>h) ?_
 intro i hi
 have hb:((l.take i).filter fun x=>!Pm.isC x).length≤i:=by
  have h1:=List.length_filter_le (fun x=>!Pm.isC x) (l.take i)
  rw [List.length_take] at h1
  omega
 (repeat' first|refine kW ?_|refine kU fun bk=>?_|refine kV fun hc=>?_|refine kZ (fun hc=>?_) fun hc=>?_|fail)
 ·have hlt:i < m:=by omega
  obtain ⟨x,hx⟩:∃x,l[i]? =some x:=⟨l[i],by simp [show i < l.length from by omega]⟩
  have hgx:=(Zh hx).1
  have hgx1:=(Zh hx).2
  have hst:((l.take (i+1)).filter fun x=>!Pm.isC x).length=((l.take i).filter fun x=>!Pm.isC x).length+(if Pm.isC x then 0 else 1):=by
   rw [List.take_add_one,hx,List.filter_append,List.length_append]
   congr 1
   cases hc:Pm.isC x<;>simp [hc]
  have hrd:zK L ⟨b,i * 2,none⟩ (itv x):=by
   refine .inr ⟨b,_,_,_,(0,0),rfl,hf,fun j u hj=>?_⟩
   rw [List.getElem?_toArray]
   match j,hj with
   |0,hj=>
    rw [Nat.add_zero,List.getElem?_append_left (List.getElem?_eq_some_iff.1 hgx).1,hgx]
    exact hj
   |1,hj=>
    rw [List.getElem?_append_left (List.getElem?_eq_some_iff.1 hgx1).1,hgx1]
    exact hj
   |n+2,hj=>simp [itv] at hj
  refine ze (zh (j:=i) (len:=m) rfl rfl rfl hlt) rfl ?_
  refine kW ?_
  refine ze (zB rfl hrd rfl) rfl ?_
  (refine kW ?_;refine kU fun bk=>?_;refine kW ?_)
  refine yD (L':=[(bk,cl [.int .i64 0,.bool false] 372)]::L) (fun w h=>h) ?_
  refine zo (l:=[.int .i64 0,.bool false]) (vs:=itv x) (itv x) rfl rfl rfl rfl rfl iU (by simp [itv]) ?_
  cases hcx:Pm.isC x with
  |true=>
   rw [hcx] at hst
   have hst2:((l.take (i+1)).filter fun x=>!Pm.isC x).length=((l.take i).filter fun x=>!Pm.isC x).length:=hst
   rw [show itv x=[.int .i64 (x.w:Int),.bool false] from by unfold itv;rw [hcx];rfl]
   refine kW ?_
   rw [←hst2]
   refine zf (X:=Nat) (μ:=fun i=>m - i) (x:=i) (i+1) (by omega) (by omega) iS (fun w h=>h.drop)
  |false=>
   rw [hcx] at hst
   have hst2:((l.take (i+1)).filter fun x=>!Pm.isC x).length=((l.take i).filter fun x=>!Pm.isC x).length+1:=hst
   rw [show itv x=[.int .i64 (x.w:Int),.bool true] from by unfold itv;rw [hcx];rfl]
   refine kW ?_
   rw [show ((((l.take i).filter fun x=>!Pm.isC x).length:Nat):Int)+1=((((l.take (i+1)).filter fun x=>!Pm.isC x).length:Nat):Int) from by rw [hst2];omega]
   refine zf (X:=Nat) (μ:=fun i=>m - i) (x:=i) (i+1) (by omega) (by omega) iS (fun w h=>h.drop)
 ·rw [show i=m from by omega]
  exact kE
theorem zmF (v:Value) (L:List Chunk):Gv Tryz.prog 288 [v].toArray L
 (fun r L'=>∃p,r=.func (.func 294) #[] #[.pointer (some ⟨p,0,none⟩)]∧L'=[(p,cl v.cells.toList 354)]::L):=by
 refine Gv.of_body Tryz.func288 rfl rfl ?_
 (refine kW ?_;refine kU fun bk=>?_;refine kW ?_)
 refine kH ?_
 exact ⟨_,fun w h=>h,_,rfl,rfl⟩
omit [W0] in
def bwS (vs:List Value):List (List Value):=(List.range vs.length).map fun k=>[.int .i64 ((vs.length - 1 - k:Nat):Int),vs.getD (vs.length - 1 - k) undef]
theorem vT (vs:List Value):(bwS vs).length=vs.length:=by simp [bwS]
theorem zcP (vs:List Value) {k:Nat} (h:k < vs.length):(bwS vs).getD k []=[.int .i64 ((vs.length - 1 - k:Nat):Int),vs.getD (vs.length - 1 - k) undef]:=by simp [bwS,List.getD,h]
theorem zi0 (vs:List Value) (p b c:Nat) (rest:List Value) (hm:vs.length≤1000) :
 It Tryz.prog 294 [.pointer (some ⟨p,0,none⟩)].toArray ([(p,cl [.slice (some ⟨b,0,none⟩) vs.length c] 354)]::[(b,cl (vs++rest) 363)]::[]) (bwS vs):=by
 refine It.of_body Tryz.func294 rfl rfl fun l J L0 h0 hy=>?_
 obtain ⟨Lit,hLit⟩:∃Lit:List Chunk,Lit=[(p,cl [.slice (some ⟨b,0,none⟩) vs.length c] 354)]::[(b,cl (vs++rest) 363)]::[]:=⟨_,rfl⟩
 rw [←hLit]
 have fp:∀L',Fnd (L'++Lit) p (cl [.slice (some ⟨b,0,none⟩) vs.length c] 354):=fun L'=>by rw [hLit];exact Fnd.right Fnd.here
 have fb:∀L',Fnd (L'++Lit) b (cl (vs++rest) 363):=fun L'=>by rw [hLit];exact Fnd.right (Fnd.there Fnd.here)
 (repeat' first|refine kI ?_|refine kU fun bk=>?_|refine kJ fun hc=>?_|refine kK (fun hc=>?_) fun hc=>?_|fail)
 refine ze (zy rfl (fp L0) rfl) rfl ?_
 (repeat' first|refine kI ?_|refine kU fun bk=>?_|refine kJ fun hc=>?_|refine kK (fun hc=>?_) fun hc=>?_|fail)
 refine zcD (X:=Nat × List Chunk) (fun x=>[(0,.func (.yield l) #[] #[]),(1,.pointer (some ⟨p,0,none⟩)),(3,.int .i64 ((vs.length:Int) - 1 - (x.1:Int)))])
  (fun x=>x.2++Lit) (fun x=>x.1≤vs.length∧J x.1 x.2) (fun x=>vs.length - x.1) (0,L0) ⟨Nat.zero_le _,h0⟩ iS (fun w h=>h) ?_
 rintro ⟨k,L'⟩ ⟨hk,hj⟩
 simp only at hk hj ⊢
 (repeat' first|refine kI ?_|refine kU fun bk=>?_|refine kJ fun hc=>?_|refine kK (fun hc=>?_) fun hc=>?_|fail)
 ·have hlt:k < vs.length:=by omega
  obtain ⟨u,hu⟩:∃u,vs[vs.length - 1 - k]? =some u:=⟨vs[vs.length - 1 - k],by simp [show vs.length - 1 - k < vs.length from by omega]⟩
  have hgu:nth (vs++rest) ((vs.length - 1 - k) * 1)=some u:=by
   rw [yu,Nat.mul_one,List.getElem?_append_left (List.getElem?_eq_some_iff.1 hu).1]
   exact hu
  rw [show (vs.length:Int) - 1 - (k:Int)=((vs.length - 1 - k:Nat):Int) from by omega]
  refine zgq ?_
  (repeat' first|refine kL ?_|refine kU fun bk=>?_|refine kJ fun hc=>?_|refine kK (fun hc=>?_) fun hc=>?_|fail)
  refine ze (zy rfl (fp L') rfl) rfl ?_
  (repeat' first|refine kL ?_|refine kU fun bk=>?_|refine kJ fun hc=>?_|refine kK (fun hc=>?_) fun hc=>?_|fail)
  refine ze (zh (j:=vs.length - 1 - k) (len:=vs.length) rfl rfl rfl (by omega)) rfl ?_
  (repeat' first|refine kL ?_|refine kU fun bk=>?_|refine kJ fun hc=>?_|refine kK (fun hc=>?_) fun hc=>?_|fail)
  refine ze (zy rfl (fb L') hgu) rfl ?_
  have hyk:=hy Lit k L' (by rw [vT];omega) hj
  rw [zcP _ hlt,show vs.getD (vs.length - 1 - k) undef=u from by simp [List.getD,hu]] at hyk
  refine zdM rfl rfl hyk rfl ?_
  rintro L'' ⟨L3,hj3,rfl⟩
  (repeat' first|refine kL ?_|refine kU fun bk=>?_|refine kJ fun hc=>?_|refine kK (fun hc=>?_) fun hc=>?_|fail)
  (repeat' first|refine kI ?_|refine kU fun bk=>?_|refine kJ fun hc=>?_|refine kK (fun hc=>?_) fun hc=>?_|fail)
  refine zf (X:=Nat × List Chunk) (μ:=fun x=>vs.length - x.1) (x:=(k,L')) (k+1,L3) (by simp only;omega) ⟨by simp only;omega,hj3⟩ iS (fun w h=>h)
 ·have hke:k=vs.length:=by omega
  refine kH ?_
  refine ⟨_,fun w h=>h,L',?_,rfl⟩
  rw [vT,←hke]
  exact hj
end Go.Proofs.YtemdlifojcgplaaGreatDoor
namespace Go.Pm
set_option linter.all false
def bt (lv:Nat→List Pm.It) (M m:Nat):Nat→Nat
 |0=>m
 |k+1=>2 * pC lv (M - k) (bt lv M m k)
theorem zeL (lv:Nat→List Pm.It) (M m:Nat):∀k,k≤M→(sel lv M m).drop k=sel lv (M - k) (bt lv M m k)
 |0,_=>rfl
 |k+1,h=>by
  have ih:=zeL lv M m k (by omega)
  obtain ⟨j,hj⟩:∃j,M - k=j+1:=⟨M - k - 1,by omega⟩
  rw [←List.drop_drop,ih,hj,show M - (k+1)=j from by omega]
  simp only [sel,List.drop_succ_cons,List.drop_zero,bt,hj]
theorem zlw {lv:Nat→List Pm.It} {M m k:Nat} (h:k < M):(sel lv M m).take (k+1)=(sel lv M m).take k++[sC lv (M - k) (bt lv M m k)]:=by
 have hd:=zeL lv M m k (by omega)
 obtain ⟨j,hj⟩:∃j,M - k=j+1:=⟨M - k - 1,by omega⟩
 have h0:(sel lv M m)[k]? =some (sC lv (M - k) (bt lv M m k)):=by
  have:((sel lv M m).drop k)[0]? =(sel lv M m)[k]? :=by rw [List.getElem?_drop,Nat.add_zero]
  rw [←this,hd,hj];rfl
 rw [List.take_add_one,h0];rfl
theorem bt_le {cs:List Pm.It} {lv:Nat→List Pm.It} (h:Lv cs lv) {M m:Nat} (hm:m≤(lv M).length):∀k,k≤M→bt lv M m k≤(lv (M - k)).length
 |0,_=>hm
 |k+1,hk=>by
  obtain ⟨j,hj⟩:∃j,M - k=j+1:=⟨M - k - 1,by omega⟩
  rw [bt,hj,show M - (k+1)=j from by omega]
  exact zkX h j _
theorem zpD (A:List Nat) (s r:Nat):ln (A++[s]) r=ln A r+if r < s then 1 else 0:=by
 unfold ln
 rw [List.filter_append,List.length_append]
 congr 1
 by_cases h:r < s
 ·simp [h]
 ·simp [h]
end Go.Pm
namespace Go.Proofs.YtemdlifojcgplaaGreatDoor
open Go Go.Vx Go.So
variable [W0]
set_option maxRecDepth 4000
set_option linter.all false
omit [W0] in
structure LsI (S:List Nat) (N n:Nat) (sy:Nat→Nat) (q:Nat) (ls:List Nat):Prop where
 len:ls.length=n
 on:∀r,r < N→ls.getD (sy r) 0=Pm.ln S r+if r < q then 1 else 0
 off:∀i,(∀r,r < N→sy r≠i)→ls.getD i 0=0
theorem LsI.start {N n:Nat} {sy:Nat→Nat}:LsI [] N n sy 0 (List.replicate n 0):=by
 refine ⟨by simp,fun r hr=>?_,fun i hi=>?_⟩
 ·rw [if_neg (by omega)]
  simp only [List.getD,List.getElem?_replicate]
  split<;>rfl
 ·simp only [List.getD,List.getElem?_replicate]
  split<;>rfl
theorem LsI.step {S:List Nat} {N n:Nat} {sy:Nat→Nat} {q:Nat} {ls:List Nat} (h:LsI S N n sy q ls) (hi:∀r p,r < N→p < N→sy r=sy p→r=p) (hq:q < N) (hn:sy q < n):LsI S N n sy (q+1) (ls.set (sy q) (ls.getD (sy q) 0+1)):=by
 have hl:sy q < ls.length:=by rw [h.len];exact hn
 refine ⟨by rw [List.length_set];exact h.len,fun r hr=>?_,fun i hx=>?_⟩
 ·by_cases e:r=q
  ·subst e
   have e1:(ls.set (sy r) (ls.getD (sy r) 0+1)).getD (sy r) 0=ls.getD (sy r) 0+1:=by simp only [List.getD,List.getElem?_set_self hl,Option.getD_some]
   rw [e1,h.on r hr,if_neg (by omega),if_pos (by omega)]
  ·have hne:sy q≠sy r:=fun hh=>e (hi r q hr hq hh.symm)
   have e1:(ls.set (sy q) (ls.getD (sy q) 0+1)).getD (sy r) 0=ls.getD (sy r) 0:=by simp only [List.getD,List.getElem?_set_ne hne]
   rw [e1,h.on r hr]
   congr 1
   have:(r < q)=(r < q+1):=by apply propext;omega
   simp only [this]
 ·have e1:(ls.set (sy q) (ls.getD (sy q) 0+1)).getD i 0=ls.getD i 0:=by simp only [List.getD,List.getElem?_set_ne (hx q hq)]
  rw [e1,h.off i hx]
theorem LsI.turn {S:List Nat} {N n:Nat} {sy:Nat→Nat} {q:Nat} {ls:List Nat} (h:LsI S N n sy q ls):LsI (S++[q]) N n sy 0 ls:=by
 refine ⟨h.len,fun r hr=>?_,h.off⟩
 rw [h.on r hr,Pm.zpD,if_neg (show ¬r < 0 by omega),Nat.add_zero]
theorem zfB (wt:Nat→Nat) (g:Nat→Nat × Nat) (N n b0 c0 bl bv cw M:Nat) (rest restv:List Value) (lv:Nat→List Pm.It) (vs:List Value) (Cs:List Chunk) (L:List Chunk) (hN2:2≤N) (hN:N≤400) (hn:n≤400) (hc0:N≤c0) (hM:M≤15) (hM1:1≤M) (hMN:N≤2 ^ M)
 (hlv:Pm.Lv (qg wt g N) lv) (hR:LvR lv M vs Cs) (hinj:∀r p,r < N→p < N→(g r).1=(g p).1→r=p) (hsy:∀r,r < N→(g r).1 < n) :
 Gv Tryz.prog 279 [.slice (some ⟨bl,0,none⟩) n n,.slice (some ⟨b0,0,none⟩) N c0,.slice (some ⟨bv,0,none⟩) M cw].toArray ([(bl,cl (ivn (List.replicate n 0)) 3)]::[(b0,cl (cvs g N++rest) 352)]::[(bv,cl (vs++restv) 363)]::Cs.flatten::L)
  (fun r L'=>r=.tuple #[]∧∃ls,LsI (Pm.sel lv M (2 * N - 2)) N n (fun r=>(g r).1) 0 ls∧L'=[(bl,cl (ivn ls) 3)]::L):=by
 have hcl:=q9 wt g N
 obtain ⟨k0,hk0⟩:∃k0,M=k0+1:=⟨M - 1,by omega⟩
 have hfull:2 * N - 2≤(lv M).length:=by
  have:=Pm.zg1 hlv k0 (by rw [hcl];omega) (by rw [hcl,←hk0];exact hMN)
  rw [hcl,←hk0] at this
  exact this
 have hbt:=Pm.bt_le hlv hfull
 have hvl:=hR.lv_
 obtain ⟨B,hB⟩:∃B,B=Pm.bt lv M (2 * N - 2):=⟨_,rfl⟩
 refine Gv.of_bodyM Tryz.func279 rfl rfl ?_
 (refine kW ?_;refine kU fun bk=>?_;refine kW ?_;refine kU fun bk=>?_;refine kW ?_;refine kU fun bk=>?_;refine kW ?_)
 rename_i b3 b4
 obtain ⟨b6,hb6⟩:∃b6,b6=bk:=⟨_,rfl⟩
 rw [←hb6]
 clear hb6
 rw [show (2:Int) * (N:Int) - 2=((2 * N - 2:Nat):Int) from by omega]
 refine yD (L':=[(b6,cl [.int .i64 0] 3)]::[(b4,cl [.slice (some ⟨b0,0,none⟩) N c0] 349)]::[(b3,cl [.slice (some ⟨bl,0,none⟩) n n] 154)]::[(bl,cl (ivn (List.replicate n 0)) 3)]::[(b0,cl (cvs g N++rest) 352)]::[(bv,cl (vs++restv) 363)]::Cs.flatten::L) (fun w h=>h) ?_
 refine zG [.int .i64 ((2 * N - 2:Nat):Int)] rfl rfl rfl rfl iU (by simp) ?_
 refine kW ?_
 refine cC rfl rfl (zmF (.slice (some ⟨bv,0,none⟩) M cw) _) (fun r L' hp=>?_)
 obtain ⟨p,rfl,rfl⟩:=hp
 refine kW ?_
 obtain ⟨J,hJ⟩:∃J:Nat→List Chunk→Prop,∀k L',J k L'↔∃ls,LsI ((Pm.sel lv M (2 * N - 2)).take k) N n (fun r=>(g r).1) 0 ls∧L'=[(b6,cl [.int .i64 ((Pm.bt lv M (2 * N - 2) k:Nat):Int)] 3)]::[(b4,cl [.slice (some ⟨b0,0,none⟩) N c0] 349)]::[(b3,cl [.slice (some ⟨bl,0,none⟩) n n] 154)]::[(bl,cl (ivn ls) 3)]::[(b0,cl (cvs g N++rest) 352)]::Cs.flatten::L:=
  ⟨fun k L'=>∃ls,LsI ((Pm.sel lv M (2 * N - 2)).take k) N n (fun r=>(g r).1) 0 ls∧L'=[(b6,cl [.int .i64 ((Pm.bt lv M (2 * N - 2) k:Nat):Int)] 3)]::[(b4,cl [.slice (some ⟨b0,0,none⟩) N c0] 349)]::[(b3,cl [.slice (some ⟨bl,0,none⟩) n n] 154)]::[(bl,cl (ivn ls) 3)]::[(b0,cl (cvs g N++rest) 352)]::Cs.flatten::L,fun _ _=>Iff.rfl⟩
 have hit:=zi0 vs p bv cw restv (by rw [hvl];omega)
 rw [hvl] at hit
 refine zdL (ps:=[18,19]) rfl hit J ([(b6,cl [.int .i64 ((Pm.bt lv M (2 * N - 2) 0:Nat):Int)] 3)]::[(b4,cl [.slice (some ⟨b0,0,none⟩) N c0] 349)]::[(b3,cl [.slice (some ⟨bl,0,none⟩) n n] 154)]::[(bl,cl (ivn (List.replicate n 0)) 3)]::[(b0,cl (cvs g N++rest) 352)]::Cs.flatten::L) ((hJ _ _).2 ⟨_,LsI.start,rfl⟩) (fun w h=>?_)
  (fun k hk=>by rw [vT] at hk;rw [zcP _ hk];rfl) rfl
  (fun k _=>[(3,.pointer (some ⟨b3,0,none⟩)),(4,.pointer (some ⟨b4,0,none⟩)),(6,.pointer (some ⟨b6,0,none⟩)),(8,vs.getD (vs.length - 1 - k) undef)]) (fun lp k L' R hk hj=>?_) (fun lp k L' R hk hj=>?_) (fun D a' w L3 hst hd hj hw'=>?_)
 ·have h2:=(iC:Inc ([(b6,cl [.int .i64 ((Pm.bt lv M (2 * N - 2) 0:Nat):Int)] 3)]::[(b4,cl [.slice (some ⟨b0,0,none⟩) N c0] 349)]::[(b3,cl [.slice (some ⟨bl,0,none⟩) n n] 154)]::[(bl,cl (ivn (List.replicate n 0)) 3)]::[(b0,cl (cvs g N++rest) 352)]::Cs.flatten::[(p,cl [.slice (some ⟨bv,0,none⟩) M cw] 354)]::[(bv,cl (vs++restv) 363)]::L) _).holds h
  refine h2.perm ?_
  exact List.Perm.append_left [_,_,_,_,_,_] (List.perm_append_comm (l₁:=[_,_]) (l₂:=L))
 ·rw [vT] at hk
  rw [zcP _ hk]
  show Wic _ _ _ _ _ ((19,vs.getD (vs.length - 1 - k) undef)::(18,_)::_) _
  (repeat' first|refine kI ?_|refine kU fun bk=>?_|refine kJ fun hc=>?_|refine kK (fun hc=>?_) fun hc=>?_|fail)
  exact zop iS (fun w h=>h)
 ·rw [vT,hvl] at hk
  obtain ⟨ls,hls,rfl⟩:=(hJ _ _).1 hj
  obtain ⟨v1,C1,hv1,hC1,ho1⟩:=hR.at_ (M - 1 - k) (by omega)
  rw [show M - 1 - k+1=M - k from by omega] at hC1 ho1
  have hge:N≤(lv (M - k)).length:=by
   have:=Pm.Y2 hlv (M - k - 1)
   rw [show M - k - 1+1=M - k from by omega,hcl] at this
   omega
  rcases ho1 with ⟨_,h1,_⟩|⟨b1,c1,r1,rfl,rfl,hxl,hrl,hmc,_⟩
  ·omega
  have hbk:=hbt k (by omega)
  have hsp:=Pm.sp lv (M - k) (Pm.bt lv M (2 * N - 2) k) hbk
  have hsc:Pm.sC lv (M - k) (Pm.bt lv M (2 * N - 2) k)≤N:=by
   have:=Pm.zlt hlv (M - k - 1) (Pm.bt lv M (2 * N - 2) k)
   rw [show M - k - 1+1=M - k from by omega,hcl] at this
   exact this
  have hbs:Pm.bt lv M (2 * N - 2) (k+1)=2 * Pm.pC lv (M - k) (Pm.bt lv M (2 * N - 2) k):=rfl
  have hst:=Pm.zlw (lv:=lv) (m:=2 * N - 2) hk
  have hll:=Pm.zfD hlv (M - k)
  rw [hcl] at hll
  have hfl:Fnd (Cs.flatten::(L++R)) b1 (cl (qA (lv (M - k))++r1) 372):=Fnd.mem (List.mem_flatten.2 ⟨_,List.mem_of_getElem? hC1,by simp⟩)
  have ham:=fun L' h'=>zmD (lv (M - k)) b1 (Pm.bt lv M (2 * N - 2) k) c1 r1 L' h' hbk (by omega)
  have hpc:(((lv (M - k)).take (Pm.bt lv M (2 * N - 2) k)).filter fun x=>!Pm.isC x).length=Pm.pC lv (M - k) (Pm.bt lv M (2 * N - 2) k):=rfl
  rw [hpc] at ham
  obtain ⟨T,hT⟩:∃T,T=Pm.bt lv M (2 * N - 2) k:=⟨_,rfl⟩
  obtain ⟨T2,hT2⟩:∃T2,T2=Pm.bt lv M (2 * N - 2) (k+1):=⟨_,rfl⟩
  obtain ⟨pc,hpce⟩:∃pc,pc=Pm.pC lv (M - k) (Pm.bt lv M (2 * N - 2) k):=⟨_,rfl⟩
  obtain ⟨sc,hsce⟩:∃sc,sc=Pm.sC lv (M - k) (Pm.bt lv M (2 * N - 2) k):=⟨_,rfl⟩
  rw [←hsce] at hst
  rw [←hpce] at ham hbs hsp
  rw [←hsce] at hsp hsc
  rw [←hT] at hbk hsp ham ⊢
  rw [←hT2] at hbs
  rw [hvl,show vs.getD (M - 1 - k) undef=.slice (some ⟨b1,0,none⟩) (lv (M - k)).length c1 from by simp [List.getD,hv1]]
  show Wic _ _ _ _ _ _ ([(b6,cl [.int .i64 (T:Int)] 3)]::[(b4,cl [.slice (some ⟨b0,0,none⟩) N c0] 349)]::[(b3,cl [.slice (some ⟨bl,0,none⟩) n n] 154)]::[(bl,cl (ivn ls) 3)]::[(b0,cl (cvs g N++rest) 352)]::Cs.flatten::(L++R))
  (repeat' first|refine kI ?_|refine kU fun bk=>?_|refine kJ fun hc=>?_|refine kK (fun hc=>?_) fun hc=>?_|fail)
  refine ze (qE (h:=T) rfl rfl (qH rfl rfl) (by omega)) rfl ?_
  (repeat' first|refine kI ?_|refine kU fun bk=>?_|refine kJ fun hc=>?_|refine kK (fun hc=>?_) fun hc=>?_|fail)
  refine cP rfl rfl (ham _ (Fnd.there (Fnd.there (Fnd.there (Fnd.there (Fnd.there hfl)))))) ?_
  (repeat' first|refine kI ?_|refine kU fun bk=>?_|refine kJ fun hc=>?_|refine kK (fun hc=>?_) fun hc=>?_|fail)
  rw [show (T:Int) - (pc:Int)=(sc:Int) from by omega]
  refine ze (qE (h:=sc) rfl rfl (qH rfl rfl) (by omega)) rfl ?_
  (repeat' first|refine kI ?_|refine kU fun bk=>?_|refine kJ fun hc=>?_|refine kK (fun hc=>?_) fun hc=>?_|fail)
  refine zcD (X:=Nat × List Nat) (fun x=>[(3,.pointer (some ⟨b3,0,none⟩)),(6,.pointer (some ⟨b6,0,none⟩)),(9,.int .i64 (pc:Int)),(28,.slice (some ⟨b0,0,none⟩) sc c0),(29,.int .i64 (sc:Int)),(30,.int .i64 (x.1:Int))])
   (fun x=>[(b6,cl [.int .i64 (T:Int)] 3)]::[(b4,cl [.slice (some ⟨b0,0,none⟩) N c0] 349)]::[(b3,cl [.slice (some ⟨bl,0,none⟩) n n] 154)]::[(bl,cl (ivn x.2) 3)]::[(b0,cl (cvs g N++rest) 352)]::Cs.flatten::(L++R))
   (fun x=>x.1≤sc∧LsI ((Pm.sel lv M (2 * N - 2)).take k) N n (fun r=>(g r).1) x.1 x.2) (fun x=>sc - x.1) (0,ls) ⟨Nat.zero_le _,hls⟩ iS (fun w h=>h) ?_
  clear hls
  rintro ⟨q,ls⟩ ⟨hq,hls⟩
  simp only at hq hls ⊢
  (repeat' first|refine kI ?_|refine kU fun bk=>?_|refine kJ fun hc=>?_|refine kK (fun hc=>?_) fun hc=>?_|fail)
  ·have hqs:q < sc:=by omega
   have hqN:q < N:=by omega
   have hsq:=hsy q hqN
   have hlq:ls.getD (g q).1 0≤15:=by
    have h1:=hls.on q hqN
    rw [if_neg (by omega)] at h1
    have h2:=Pm.zkB ((Pm.sel lv M (2 * N - 2)).take k) q
    rw [List.length_take,Pm.vB] at h2
    omega
   have hld:nth (ivn ls) ((g q).1 * 1)=some (.int .i64 ((ls.getD (g q).1 0:Nat):Int)):=by
    rw [yu,Nat.mul_one]
    exact yC (by simp [List.getD,show (g q).1 < ls.length from by rw [hls.len];exact hsq])
   have hls2:=hls.step hinj hqN hsq
   refine ze (zh (j:=q) (len:=sc) rfl rfl rfl hqs) rfl ?_
   (repeat' first|refine kI ?_|refine kU fun bk=>?_|refine kJ fun hc=>?_|refine kK (fun hc=>?_) fun hc=>?_|fail)
   refine ze (zB rfl (vC (f:=g) (n:=N) (j:=q) (rest:=rest) hqN (Fnd.there (Fnd.there (Fnd.there (Fnd.there Fnd.here))))) rfl) rfl ?_
   (repeat' first|refine kI ?_|refine kU fun bk=>?_|refine kJ fun hc=>?_|refine kK (fun hc=>?_) fun hc=>?_|fail)
   refine yD (L':=[(bk,cl [.int .i64 0,.int .i64 0] 352)]::[(b6,cl [.int .i64 (T:Int)] 3)]::[(b4,cl [.slice (some ⟨b0,0,none⟩) N c0] 349)]::[(b3,cl [.slice (some ⟨bl,0,none⟩) n n] 154)]::[(bl,cl (ivn ls) 3)]::[(b0,cl (cvs g N++rest) 352)]::Cs.flatten::(L++R)) (fun w h=>h) ?_
   refine zo (l:=[.int .i64 0,.int .i64 0]) (vs:=cv (g q)) (cv (g q)) rfl rfl rfl rfl rfl iU (by simp [cv]) ?_
   (repeat' first|refine kI ?_|refine kU fun bk=>?_|refine kJ fun hc=>?_|refine kK (fun hc=>?_) fun hc=>?_|fail)
   refine ze (zh (j:=(g q).1) (len:=n) rfl rfl rfl hsq) rfl ?_
   (repeat' first|refine kI ?_|refine kU fun bk=>?_|refine kJ fun hc=>?_|refine kK (fun hc=>?_) fun hc=>?_|fail)
   refine ze (zy rfl (Fnd.there (Fnd.there (Fnd.there (Fnd.there Fnd.here)))) hld) rfl ?_
   (repeat' first|refine kI ?_|refine kU fun bk=>?_|refine kJ fun hc=>?_|refine kK (fun hc=>?_) fun hc=>?_|fail)
   refine ze (zh (j:=(g q).1) (len:=n) rfl rfl rfl hsq) rfl ?_
   (repeat' first|refine kI ?_|refine kU fun bk=>?_|refine kJ fun hc=>?_|refine kK (fun hc=>?_) fun hc=>?_|fail)
   refine zG (l:=ivn ls) (ivn (ls.set (g q).1 (ls.getD (g q).1 0+1))) rfl rfl rfl (by rw [Nat.mul_one];simp [ivn,List.map_set]) iU (by rw [zC,hls.len];omega) ?_
   (repeat' first|refine kI ?_|refine kU fun bk=>?_|refine kJ fun hc=>?_|refine kK (fun hc=>?_) fun hc=>?_|fail)
   refine zf (X:=Nat × List Nat) (μ:=fun x=>sc - x.1) (x:=(q,ls)) (q+1,ls.set (g q).1 (ls.getD (g q).1 0+1)) (by simp only;omega) ⟨by simp only;omega,hls2⟩ iS (fun w h=>h.drop)
  ·have hqe:q=sc:=by omega
   subst hqe
   rw [show (2:Int) * (pc:Int)=(T2:Int) from by omega]
   refine ziT ([(b6,cl [.int .i64 (T2:Int)] 3)]::[(b4,cl [.slice (some ⟨b0,0,none⟩) N c0] 349)]::[(b3,cl [.slice (some ⟨bl,0,none⟩) n n] 154)]::[(bl,cl (ivn ls) 3)]::[(b0,cl (cvs g N++rest) 352)]::Cs.flatten::L) ((hJ _ _).2 ⟨ls,?_,by rw [hT2]⟩) (fun w h=>h)
   rw [hst]
   exact hls.turn
 ·obtain ⟨ls,hls,rfl⟩:=(hJ _ _).1 hj
  rw [vT,hvl,List.take_of_length_le (by rw [Pm.vB];exact Nat.le_refl _)] at hls
  obtain ⟨T,hT⟩:∃T,T=Pm.bt lv M (2 * N - 2) (bwS vs).length:=⟨_,rfl⟩
  rw [←hT] at hw'
  have hw2:Holds w (([(D,.deferred (some []))]::[(b6,cl [.int .i64 (T:Int)] 3)]::[(b4,cl [.slice (some ⟨b0,0,none⟩) N c0] 349)]::[(b3,cl [.slice (some ⟨bl,0,none⟩) n n] 154)]::[(bl,cl (ivn ls) 3)]::[(b0,cl (cvs g N++rest) 352)]::Cs.flatten::L)++[[(p,cl [.slice (some ⟨bv,0,none⟩) M cw] 354)],[(bv,cl (vs++restv) 363)]]):=hw'
  have hw3:=hw2.front
  refine (ziS (e:=.normal) (.inr rfl) rfl rfl (L1:=[(bl,cl (ivn ls) 3)]::L) (fun w h=>(iC:Inc ([(D,.deferred (some []))]::[(bl,cl (ivn ls) 3)]::L) _).holds h) ⟨rfl,ls,hls,rfl⟩).out a' w hst hd hw3
end Go.Proofs.YtemdlifojcgplaaGreatDoor
namespace Go.Proofs.YtemdlifojcgplaaGreatDoor
open Go Go.Vx Go.So Go.Hf
variable [W0]
set_option maxRecDepth 4000
set_option linter.all false
omit [W0] in
def nC (ls:List Int):Nat:=(pos (nl ls) ls.length).length
omit [W0] in
def zfq (ls:List Int) (most:Int):Prop:=most < 1∨15 < most∨400 < ls.length∨ls.all okc=false∨2 ^ most.toNat < nC ls
omit [W0] in
structure yP (cs:List Nat) (M:Nat) (lens:List Nat):Prop where
 len:lens.length=cs.length
 m1:1≤M
 m15:M≤15
 n400:cs.length≤400
 off:∀i,cs.getD i 0=0→lens.getD i 0=0
 ex:∃N g,N=(pos cs cs.length).length∧Cn cs cs.length N g∧N≤2 ^ M∧(N=1→∀r,r < N→lens.getD (g r).1 0=1)∧
  (2≤N→∃lv,Pm.Lv (qg (fun i=>cs.getD i 0) g N) lv∧∀r,r < N→lens.getD (g r).1 0=Pm.ln (Pm.sel lv M (2 * N - 2)) r)
theorem zcx:∀n,zeros [.int .i64 0] n=ivn (List.replicate n 0)
 |0=>rfl
 |n+1=>by simp only [zeros,List.replicate_succ];rw [zcx n];rfl
theorem zeD (n i:Nat):(List.replicate n 0).getD i 0=0:=by
 simp only [List.getD,List.getElem?_replicate]
 split<;>rfl
theorem zh7 (a:Option Addr) (c:Nat) (ls:List Int) (most:Int) (L:List Chunk) (h:Sl L 1 (.slice a ls.length c) ls.length (yg ls)) (hl:ls.length≤17592186044416) :
 Gv Tryz.prog 261 [.slice a ls.length c,.int .i64 most].toArray L (fun r L'=>(zfq ls most∧r=.tuple #[.slice none 0 0,.int .i64 1]∧L'=L)∨
  (¬zfq ls most∧∃lens v C,r=.tuple #[v,.int .i64 0]∧L'=C::L∧Ow 3 1 v ls.length (ivn lens) C∧yP (nl ls) most.toNat lens)):=by
 refine Gv.of_body Tryz.func261 rfl rfl ?_
 obtain ⟨Q,hQ⟩:∃Q:Value→List Chunk→Prop,∀r L',Q r L'↔((zfq ls most∧r=.tuple #[.slice none 0 0,.int .i64 1]∧L'=L)∨
  (¬zfq ls most∧∃lens v C,r=.tuple #[v,.int .i64 0]∧L'=C::L∧Ow 3 1 v ls.length (ivn lens) C∧yP (nl ls) most.toNat lens)):=⟨fun r L'=>_,fun _ _=>Iff.rfl⟩
 simp only [←hQ]
 have hno:zfq ls most→∀(M:List (Nat × Value)) (L1:List Chunk),lk M 4=some (.slice none 0 0)→lk M 5=some (.int .i64 1)→(∀w,Holds w L1→Holds w L)→
  WQ Tryz.f261.ntmps (bodyPost Tryz.prog Tryz.f261 (fun e w'=>∃v L',e=.returned v∧Q v L'∧Holds w' L') .ret) M L1:=by
  intro he M L1 h2 h3 h4
  refine um (rs:=[.tmp 4,.tmp 5]) (vs:=[.slice none 0 0,.int .i64 1]) rfl (by simp [Yj,h2,h3]) ?_
  exact ⟨L,h4,(hQ _ _).2 (.inl ⟨he,rfl,rfl⟩)⟩
 (repeat' first|refine kW ?_|refine kU fun bk=>?_|refine kV fun hc=>?_|refine kZ (fun hc=>?_) fun hc=>?_|fail)
 ·exact hno (.inl hc) _ _ rfl rfl (fun w h=>h)
 ·exact hno (.inr (.inl hc)) _ _ rfl rfl (fun w h=>h)
 ·exact hno (.inr (.inr (.inl (by omega)))) _ _ rfl rfl (fun w h=>h)
 refine cP rfl rfl (zd7 a c ls L h hl) ?_
 (repeat' first|refine kW ?_|refine kU fun bk=>?_|refine kV fun hc=>?_|refine kZ (fun hc=>?_) fun hc=>?_|fail)
 ·exact hno (.inr (.inr (.inr (.inl (by simpa using hc))))) _ _ rfl rfl (fun w h=>h)
 rename_i hm1 hm2 hm3
 have hok:ls.all okc=true:=by simpa using hc
 obtain ⟨M,rfl⟩:∃M:Nat,most=(M:Int):=⟨most.toNat,by omega⟩
 refine cC rfl rfl (zmU a c ls L h (by omega) hok) (fun r L' hp=>?_)
 obtain ⟨g,C,hcn,rfl,ho⟩:=hp
 obtain ⟨N,hN⟩:∃N,N=(pos (nl ls) ls.length).length:=⟨_,rfl⟩
 rw [←hN] at hcn ho
 obtain ⟨va,vc,rfl⟩:=zM ho
 have hp15:2 ^ M≤2 ^ 15:=Nat.pow_le_pow_right (by decide) (by omega)
 refine kW ?_
 refine ze (uq 1 M rfl rfl rfl rfl (by omega) (by omega)) rfl ?_
 (repeat' first|refine kW ?_|refine kU fun bk=>?_|refine kV fun hc=>?_|refine kZ (fun hc=>?_) fun hc=>?_|fail)
 ·refine hno (.inr (.inr (.inr (.inr ?_)))) _ _ rfl rfl (fun w h=>h.drop)
  unfold nC
  rw [←hN,Int.toNat_natCast]
  omega
 have hNM:N≤2 ^ M:=by omega
 refine zJ (m:=ls.length) (c:=ls.length) rfl rfl (by rfl) (by omega) (by omega) (by omega) rfl (fun bn=>?_)
 rw [show zeros (Value.int .i64 0).cells.toList ls.length=ivn (List.replicate ls.length 0) from zcx _]
 have hne:¬zfq ls (M:Int):=by
  rintro (h1|h1|h1|h1|h1)
  ·omega
  ·omega
  ·omega
  ·rw [hok] at h1;cases h1
  ·unfold nC at h1
   rw [←hN,Int.toNat_natCast] at h1
   omega
 have hfin:∀lens,lens.length=ls.length→yP (nl ls) M lens→∀(L1:List Chunk),(∀w,Holds w L1→Holds w ([(bn,cl (ivn lens) 3)]::L))→∃L',(∀w,Holds w L1→Holds w L')∧Q (.tuple #[.slice (some ⟨bn,0,none⟩) ls.length ls.length,.int .i64 0]) L':=by
  intro lens hll hlo L1 h1
  refine ⟨_,h1,(hQ _ _).2 (.inr ⟨hne,lens,_,_,rfl,rfl,.inr ⟨bn,ls.length,[],rfl,by rw [List.append_nil],by rw [zC,hll,Nat.mul_one],by simp,Nat.le_refl _,by simp [maxLen];omega⟩,by rw [Int.toNat_natCast];exact hlo⟩)⟩
 (repeat' first|refine kW ?_|refine kU fun bk=>?_|refine kV fun hc=>?_|refine kZ (fun hc=>?_) fun hc=>?_|fail)
 ·have hN1:N=1:=by omega
  rcases ho with ⟨_,h1,_⟩|⟨b,cap,rest,hv,rfl,hxl,hrl,hmc,hcm⟩
  ·omega
  injection hv with e1 e2 e3
  subst e1 e3
  clear e2
  have hsy:=hcn.sy 0 (by omega)
  have hld:nth (cvs g N++rest) (0 * 2+0)=some (.int .i64 ((g 0).1:Int)):=by
   rw [hN1];rfl
  refine ze (zh (j:=0) (len:=N) rfl rfl rfl (by omega)) rfl ?_
  refine kW ?_
  refine ze (zy rfl (Fnd.there Fnd.here) hld) rfl ?_
  refine kW ?_
  refine ze (zh (j:=(g 0).1) (len:=ls.length) rfl rfl rfl hsy.1) rfl ?_
  refine kW ?_
  refine zG (l:=ivn (List.replicate ls.length 0)) (ivn ((List.replicate ls.length 0).set (g 0).1 1)) rfl rfl rfl (by rw [Nat.mul_one];simp [ivn,List.map_set]) iU (by rw [zC,List.length_replicate,Nat.mul_one];exact hsy.1) ?_
  refine kW ?_
  refine um (rs:=[.tmp 4,.tmp 5]) (vs:=[.slice (some ⟨bn,0,none⟩) ls.length ls.length,.int .i64 0]) rfl rfl ?_
  refine hfin ((List.replicate ls.length 0).set (g 0).1 1) (by simp) ⟨by simp [zQ],by omega,by omega,by rw [zQ];omega,fun i hi=>?_,N,g,by rw [zQ];exact hN,by rw [zQ];exact hcn,hNM,fun _ r hr=>?_,fun h2=>by omega⟩ _ (fun w h=>iH h)
  ·have hne2:(g 0).1≠i:=fun e=>by rw [e] at hsy;omega
   simp only [List.getD,List.getElem?_set_ne hne2]
   exact zeD _ _
  ·have e0:r=0:=by omega
   subst e0
   simp [List.getD,hsy.1]
 ·have hN1:2≤N:=by omega
  rcases ho with ⟨_,h1,_⟩|⟨b,cap,rest,hv,rfl,hxl,hrl,hmc,hcm⟩
  ·omega
  injection hv with e1 e2 e3
  subst e1 e3
  clear e2
  have hle:=hcn.le
  have hgb:∀r,r < N→(g r).2≤1073741824:=by
   intro r hr
   obtain ⟨h1,h2,h3⟩:=hcn.sy r hr
   have hox:okc (ls.getD (g r).1 0)=true:=List.all_eq_true.1 hok _ (by simp [List.getD,h1])
   have h4:=(zdj _).1 hox
   rw [h3,zkK h1]
   omega
  refine yD (L':=[(b,cl (cvs g N++rest) 352)]::[(bn,cl (ivn (List.replicate ls.length 0)) 3)]::L) (fun w h=>iH h) ?_
  refine cC rfl rfl (zkx (fun i=>(nl ls).getD i 0) g N b vc M rest _ (by omega) (by omega) hcn.up (fun r hr=>(hcn.sy r hr).2.2) hgb) (fun r L' hp=>?_)
  obtain ⟨lv,vs,Cs,Cl,rfl,hlv,hR,hO⟩:=hp
  rcases hO with ⟨_,h1,_⟩|⟨bv,cw,restv,rfl,rfl,hxl2,hrl2,hmc2,hcm2⟩
  ·omega
  refine kW ?_
  refine yD (L':=[(bn,cl (ivn (List.replicate ls.length 0)) 3)]::[(b,cl (cvs g N++rest) 352)]::[(bv,cl (vs++restv) 363)]::Cs.flatten::L) (fun w h=>iH h) ?_
  refine cC rfl rfl (zfB (fun i=>(nl ls).getD i 0) g N ls.length b vc bn bv cw M rest restv lv vs Cs L hN1 (by omega) (by omega) hmc (by omega) (by omega) hNM hlv hR hcn.inj (fun r hr=>(hcn.sy r hr).1)) (fun r L' hp=>?_)
  obtain ⟨rfl,lst,hI,rfl⟩:=hp
  refine kW ?_
  refine um (rs:=[.tmp 4,.tmp 5]) (vs:=[.slice (some ⟨bn,0,none⟩) ls.length ls.length,.int .i64 0]) rfl rfl ?_
  refine hfin lst hI.len ⟨by rw [hI.len,zQ],by omega,by omega,by rw [zQ];omega,fun i hi=>?_,N,g,by rw [zQ];exact hN,by rw [zQ];exact hcn,hNM,fun h1=>by omega,fun _=>⟨lv,hlv,fun r hr=>?_⟩⟩ _ (fun w h=>h)
  ·refine hI.off i fun r hr he=>?_
   have h1:=(hcn.sy r hr).2.1
   rw [he] at h1
   omega
  ·have h1:=hI.on r hr
   rw [if_neg (by omega),Nat.add_zero] at h1
   exact h1
 ·have hN0:N=0:=by omega
  refine um (rs:=[.tmp 4,.tmp 5]) (vs:=[.slice (some ⟨bn,0,none⟩) ls.length ls.length,.int .i64 0]) rfl rfl ?_
  refine hfin (List.replicate ls.length 0) (by simp) ⟨by simp [zQ],by omega,by omega,by rw [zQ];omega,fun i hi=>zeD _ _,N,g,by rw [zQ];exact hN,by rw [zQ];exact hcn,hNM,fun _ r hr=>by omega,fun h2=>by omega⟩ _ (fun w h=>iH h)
end Go.Proofs.YtemdlifojcgplaaGreatDoor
namespace Go.Hf
open Go.Pm
set_option linter.all false
theorem getD_map (is:List Nat):(List.range is.length).map (fun i=>is.getD i 0)=is:=by
 apply List.ext_getElem?
 intro k
 rw [List.getElem?_map]
 rcases Nat.lt_or_ge k is.length with h|h
 ·rw [List.getElem?_range h]
  simp [List.getD,h]
 ·rw [List.getElem?_eq_none (by simpa using h),List.getElem?_eq_none h]
  rfl
section
variable {cs : List Nat} {n N : Nat} {g : Nat → Nat × Nat} (h : Cn cs n N g)
include h
theorem Cn.perm:((List.range N).map fun r=>(g r).1).Perm ((List.range n).filter fun i=>decide (0 < cs.getD i 0)):=by
 have hn1:((List.range N).map fun r=>(g r).1).Nodup:=by
  unfold List.Nodup
  rw [List.pairwise_map]
  refine List.Pairwise.imp_of_mem (fun {a b} ha hb (hab:a≠b) he=>hab ?_) List.nodup_range
  exact h.inj a b (List.mem_range.1 ha) (List.mem_range.1 hb) he
 refine (List.perm_ext_iff_of_nodup hn1 (List.nodup_range.filter _)).2 fun i=>?_
 rw [List.mem_map,List.mem_filter,List.mem_range]
 constructor
 ·rintro ⟨r,hr,rfl⟩
  have h1:=h.sy r (List.mem_range.1 hr)
  exact ⟨h1.1,by simpa using h1.2.1⟩
 ·rintro ⟨h1,h2⟩
  obtain ⟨r,hr,he⟩:=h.onto i h1 (by simpa using h2)
  exact ⟨r,List.mem_range.2 hr,he⟩
theorem Cn.ws (hl:cs.length=n):((List.range N).map fun r=>cs.getD (g r).1 0).Perm (cs.filter fun x=>decide (0 < x)):=by
 have h1:=h.perm.map fun i=>cs.getD i 0
 rw [List.map_map] at h1
 refine h1.trans (List.Perm.of_eq ?_)
 subst hl
 conv=>rhs;rw [←getD_map cs]
 rw [List.filter_map]
 rfl
end
end Go.Hf
namespace Go.Proofs.YtemdlifojcgplaaGreatDoor
open Go Go.Vx Go.So Go.Hf Go.Pm
variable [W0]
set_option maxRecDepth 4000
set_option linter.all false
theorem zgB {cs:List Nat} {n N:Nat} {g:Nat→Nat × Nat} (h:Cn cs n N g):∀x∈qg (fun i=>cs.getD i 0) g N,0 < x.w:=by
 intro x hx
 obtain ⟨r,hr,rfl⟩:=List.mem_map.1 hx
 exact (h.sy r (List.mem_range.1 hr)).2.1
theorem yP.on {cs lens:List Nat} {M:Nat} (h:yP cs M lens) {i:Nat} (hi:i < cs.length) (h0:0 < cs.getD i 0):1≤lens.getD i 0∧lens.getD i 0≤M:=by
 obtain ⟨N,g,hN,hcn,hNM,hone,htwo⟩:=h.ex
 obtain ⟨r,hr,rfl⟩:=hcn.onto i hi h0
 have hm1:=h.m1
 by_cases h2:2≤N
 ·obtain ⟨lv,hlv,hln⟩:=htwo h2
  obtain ⟨k,rfl⟩:∃k,M=k+1:=⟨M - 1,by omega⟩
  have hcl:=q9 (fun i=>cs.getD i 0) g N
  have h3:=taken hlv (zgB hcn) k (by omega) (by omega) r (by omega)
  rw [hcl] at h3
  have h4:=zkB (sel lv (k+1) (2 * N - 2)) r
  rw [vB] at h4
  rw [hln r hr]
  exact ⟨h3,h4⟩
 ·have:=hone (by omega) r hr
  omega
theorem yP.pos {cs lens:List Nat} {M:Nat} (h:yP cs M lens) {i:Nat} (hi:i < cs.length):0 < lens.getD i 0↔0 < cs.getD i 0:=by
 rcases Nat.eq_zero_or_pos (cs.getD i 0) with h0|h0
 ·rw [h.off i h0,h0]
 ·have:=h.on hi h0
  omega
theorem yP.le {cs lens:List Nat} {M:Nat} (h:yP cs M lens) (i:Nat):lens.getD i 0≤M:=by
 rcases Nat.lt_or_ge i cs.length with hi|hi
 ·rcases Nat.eq_zero_or_pos (cs.getD i 0) with h0|h0
  ·rw [h.off i h0];omega
  ·exact (h.on hi h0).2
 ·have:lens.getD i 0=0:=by simp [List.getD,List.getElem?_eq_none (show lens.length≤i by rw [h.len];exact hi)]
  omega
theorem yP.nC {cs lens:List Nat} {M:Nat} (h:yP cs M lens):(cs.filter fun x=>decide (0 < x)).length=(Go.Hf.pos cs cs.length).length:=by
 obtain ⟨N,g,hN,hcn,_⟩:=h.ex
 have:=(hcn.ws rfl).length_eq
 rw [List.length_map,List.length_range] at this
 rw [←this,hN]
theorem yP.all {cs lens:List Nat} {M:Nat} (h:yP cs M lens) (h2:2≤(Go.Hf.pos cs cs.length).length):kS lens=32768:=by
 have hle:=h.le
 have hpos:=fun i=>h.pos (i:=i)
 have hm1:=h.m1
 have hm15:=h.m15
 have hlen:=h.len
 obtain ⟨N,g,hN,hcn,hNM,hone,htwo⟩:=h.ex
 rw [←hN] at h2
 obtain ⟨lv,hlv,hln⟩:=htwo h2
 have hcl:=q9 (fun i=>cs.getD i 0) g N
 have hgl:((List.range N).map fun r=>(g r).1).length=N:=by simp
 obtain ⟨k,rfl⟩:∃k,M=k+1:=⟨M - 1,by omega⟩
 have hw:=whole hlv (zgB hcn) k (by omega) (by omega)
 rw [hcl] at hw
 refine zkk (l:=lens) (is:=(List.range N).map fun r=>(g r).1) (L:=k+1) (g:=fun r=>ln (sel lv (k+1) (2 * N - 2)) r) ?_ hm15 (fun r hr=>?_) (fun r hr=>?_) ?_
 ·refine hcn.perm.trans (List.Perm.of_eq ?_)
  rw [hlen]
  refine List.filter_congr fun i hi=>?_
  exact decide_eq_decide.2 (hpos i (List.mem_range.1 hi)).symm
 ·rw [hgl] at hr
  have:((List.range N).map fun r=>(g r).1).getD r 0=(g r).1:=by simp [List.getD,List.getElem?_range hr]
  rw [this]
  exact hln r hr
 ·have h4:=zkB (sel lv (k+1) (2 * N - 2)) r
  rw [vB] at h4
  exact h4
 ·rw [hgl];exact hw
theorem yP.fits {cs lens:List Nat} {M:Nat} (h:yP cs M lens):kS lens≤32768:=by
 by_cases h2:2≤(Go.Hf.pos cs cs.length).length
 ·exact Nat.le_of_eq (h.all h2)
 ·have hpos:=fun i=>h.pos (i:=i)
  have hlen:=h.len
  obtain ⟨N,g,hN,hcn,hNM,hone,htwo⟩:=h.ex
  rw [←hN] at h2
  have hp:((List.range N).map fun r=>(g r).1).Perm ((List.range lens.length).filter fun i=>decide (0 < lens.getD i 0)):=by
   refine hcn.perm.trans (List.Perm.of_eq ?_)
   rw [hlen]
   refine List.filter_congr fun i hi=>?_
   exact decide_eq_decide.2 (hpos i (List.mem_range.1 hi)).symm
  rw [zgS hp]
  rcases Nat.eq_zero_or_pos N with h0|h0
  ·subst h0;simp
  ·obtain rfl:N=1:=by omega
   have h3:=hone rfl 0 (by omega)
   show ((([0].map fun r=>(g r).1).map fun i=>2 ^ (15 - lens.getD i 0)).sum)≤_
   simp only [List.map_cons,List.map_nil,List.sum_cons,List.sum_nil,h3]
   decide
end Go.Proofs.YtemdlifojcgplaaGreatDoor
namespace Go.Df
theorem gD {l:List Nat} {i:Nat} (h:i < l.length):l[i]? =some (l.getD i 0):=by rw [List.getD_eq_getElem?_getD,List.getElem?_eq_getElem h];rfl
end Go.Df
namespace Go.Proofs.YtemdlifojcgplaaGreatDoor
open Go Go.Vx Go.Hf Go.If Go.Df
variable [W0]
set_option maxRecDepth 4000
set_option linter.all false
theorem Yt (v:Value) (rs:List (Nat × Nat)) (L:List Chunk) (h:Rs L 2 v rs.length (flt TkV rs)) (hr:∀r∈rs,r.1 < 19) (hn:rs.length≤1000) :
 Gv Tryz.prog 264 [v].toArray L (fun r L'=>∃C,Rs [C] 1 r 19 (ivn (cR rs))∧L'=C::L):=by
 refine Gv.of_body (args:=[v]) Tryz.func264 rfl rfl ?_
 obtain ⟨va,vc,rfl,_⟩:=h.room
 refine kW ?_
 refine zJ (m:=19) (c:=19) rfl rfl (by rfl) (by omega) (by omega) (by omega) rfl (fun b=>?_)
 rw [yN]
 refine kW ?_
 refine zn (X:=Nat) (fun x=>[(3,.slice (some ⟨b,0,none⟩) 19 19),(7,.slice va rs.length vc),(8,.int .i64 (rs.length:Int)),(9,.int .i64 (x:Int))]) (fun x=>[(b,cl (ivn (cR (rs.take x))) 3)]::L)
  (fun x=>x≤rs.length) (fun x=>rs.length - x) 0 (Nat.zero_le _) iS (fun w h=>h) ?_
 intro j hj9
 have hj:j≤rs.length:=hj9
 have hla:=Yp (rs.take j)
 have hga:=fun i=>zje (rs:=rs.take j) (fun r h'=>hr r (List.mem_of_mem_take h')) i
 rw [List.length_take,Nat.min_eq_left hj] at hga
 (repeat' first|refine kW ?_|refine kU fun bk=>?_|refine kV fun hc=>?_|refine kZ (fun hc=>?_) fun hc=>?_|fail)
 ·have hjl:j < rs.length:=by omega
  obtain ⟨t,ht⟩:∃t,rs[j]? =some t:=⟨rs[j],List.getElem?_eq_getElem hjl⟩
  have hto:=hr t (List.mem_of_getElem? ht)
  have hsA:=zaL (rs.take j) t
  rw [←qd ht] at hsA
  obtain ⟨tb,toff,tcap,hv9,hrd⟩:=h.elem hjl (by decide)
  injection hv9 with q1 q2 q3
  subst q1 q3
  clear q2
  rw [Yv uj ht] at hrd
  obtain ⟨t1,t2⟩:=t
  simp only at hto hsA
  have h1:=hga t1
  obtain ⟨n1,hn1⟩:∃n1,n1=(cR (rs.take j)).getD t1 0:=⟨_,rfl⟩
  have hget1:(ivn (cR (rs.take j)))[t1]? =some (.int .i64 (n1:Int)):=yC (by rw [hn1];simp [List.getD,show t1 < (cR (rs.take j)).length by omega])
  have hset1:(ivn (cR (rs.take j))).set (t1 * 1) (.int .i64 ((n1+1:Nat):Int))=ivn (cR (rs.take (j+1))):=by
   rw [hsA];unfold inc;rw [←hn1];simp [ivn,List.map_set]
  rw [←hn1] at h1
  have hrd:zK L ⟨tb,toff+j * 2,none⟩ [.int .i64 (t1:Int),.int .i64 (t2:Int)]:=hrd
  refine ze (zi (j:=j) rfl rfl rfl hjl) rfl ?_
  refine kW ?_
  refine ze (zB rfl (y9 hrd) rfl) rfl ?_
  (refine kW ?_;refine kU fun bk=>?_;refine kW ?_)
  refine ze (zh (j:=t1) (len:=19) rfl rfl rfl hto) rfl ?_
  refine kW ?_
  refine ze (zy rfl (.there .here) (by rw [yu,Nat.mul_one];exact hget1)) rfl ?_
  refine kW ?_
  refine ze (zh (j:=t1) (len:=19) rfl rfl rfl hto) rfl ?_
  refine kW ?_
  rw [show (n1:Int)+1=((n1+1:Nat):Int) from by omega]
  refine zG (ivn (cR (rs.take (j+1)))) rfl rfl rfl hset1 iU (by rw [zC];omega) ?_
  refine kW ?_
  refine zf (X:=Nat) (μ:=fun x=>rs.length - x) (x:=j) (j+1) (by show rs.length - (j+1) < rs.length - j;omega) (by show j+1≤rs.length;omega) iS (fun w h=>iH h)
 ·obtain rfl:j=rs.length:=by omega
  rw [List.take_length] at hla ⊢
  refine kR ?_
  exact ⟨_,iC,[(b,cl (ivn (cR rs)) 3)],⟨zF (c:=(ivn (cR rs)).toArray) .here (by rw [zC,hla]) (by simp),_,_,rfl,Nat.le_refl _⟩,rfl⟩
theorem zew (v:Value) (own:List Nat) (L:List Chunk) (h:Rs L 1 v own.length (ivn own)) (h19:own.length=19) (hor:qQ L) :
 Gv Tryz.prog 265 [v].toArray L (fun r L'=>∃C,Rs [C] 1 r (trN (orN own) 4 19) (ivn ((orN own).take (trN (orN own) 4 19)))∧L'=C::L):=by
 refine Gv.of_body (args:=[v]) Tryz.func265 rfl rfl ?_
 rw [h19] at h
 obtain ⟨va,vc,rfl,_⟩:=h.room
 have hol:(orN own).length=19:=by simp [orN]
 refine kW ?_
 refine zn (X:=Nat × Value × Chunk) (fun x=>[(0,.slice va 19 vc),(3,x.2.1),(6,.int .i64 19),(7,.int .i64 (x.1:Int))]) (fun x=>x.2.2::L)
  (fun x=>x.1≤19∧Ow 3 1 x.2.1 x.1 (ivn ((orN own).take x.1)) x.2.2) (fun x=>19 - x.1) (0,.slice none 0 0,[]) ⟨by simp only;omega,.inl ⟨rfl,rfl,rfl,rfl⟩⟩ iS (fun w h=>Holds.nil.2 h) ?_
 rintro ⟨j,vl,Cl⟩ ⟨hj,hov⟩
 simp only at hj hov ⊢
 (repeat' first|refine kW ?_|refine kU fun bk=>?_|refine kV fun hc=>?_|refine kZ (fun hc=>?_) fun hc=>?_|fail)
 ·have hjl:j < 19:=by omega
  have ho19:yY.getD j 0 < 19:=by
   have:∀j,j < 19→yY.getD j 0 < 19:=by decide
   exact this j hjl
  have hnx:(orN own)[j]? =some (own.getD (yY.getD j 0) 0):=by simp [orN,hjl]
  have hord:=zbp j (Cl::L) hor.there hjl
  have hget:(ivn own)[yY.getD j 0]? =some (.int .i64 ((own.getD (yY.getD j 0) 0:Nat):Int)):=yC (gD (by omega))
  generalize yY.getD j 0=o at *
  generalize own.getD o 0=x at *
  obtain ⟨tb,toff,tcap,tcc,T1,f1,hv9,hf1,hv1⟩:=yV h.sl hget
  injection hv9 with q1 q2 q3
  subst q1 q3
  clear q2
  refine cP rfl rfl hord ?_
  refine kW ?_
  refine ze (zi (j:=o) rfl rfl rfl ho19) rfl ?_
  refine kW ?_
  refine ze (zq rfl (.there hf1) hv1) rfl ?_
  refine kW ?_
  refine zl (cs:=[.int .i64 (x:Int)]) rfl (by rfl) (by first|(simp [zA,patch,Value.cells,zeros];done)|(simp [zA,patch,Value.cells,zeros];rfl)) (by omega) rfl rfl (fun bn=>?_)
  refine kW ?_
  refine zu rfl rfl hov (zF (k:=1) (c:=#[.int .i64 (x:Int)]) (xs:=[.int .i64 (x:Int)]) (m:=1) Fnd.here rfl (by simp)) (by repeat (first|exact Zip.here _|apply Zip.there)) rfl (by rfl) (by omega) (by simp [maxLen];omega) rfl (fun vl2 Cl2 hov2 _ _=>?_)
  rw [show ivn ((orN own).take j)++[Value.int .i64 (x:Int)]=ivn ((orN own).take (j+1)) from by rw [qd hnx];simp [ivn]] at hov2
  refine kW ?_
  refine zf (X:=Nat × Value × Chunk) (μ:=fun x=>19 - x.1) (x:=(j,vl,Cl)) (j+1,vl2,Cl2) (by simp only;omega) ⟨by simp only;omega,hov2⟩ iS (fun w h=>iH h)
 ·obtain rfl:j=19:=by omega
  rw [List.take_of_length_le (by omega)] at hov
  have htr:=QD vl (orN own) 4 [Cl] (Cl::L) iC (by rw [hol];exact Rs.ow hov) (by omega) (by omega)
  rw [hol] at htr
  refine cC rfl rfl htr (fun r L' hp=>?_)
  obtain ⟨hr,rfl⟩:=hp
  refine kW ?_
  refine kR ?_
  exact ⟨_,iC,Cl,hr,rfl⟩
theorem vS (v:Value) (cs:List Nat) (most:Nat) (L:List Chunk) (h:Rs L 1 v cs.length (ivn cs)) (h1:1≤most) (h15:most≤15) (hn:cs.length≤400) (hb:∀i,cs.getD i 0≤1000000) (hm:(pos cs cs.length).length≤2 ^ most) :
 Gv Tryz.prog 243 [v,.int .i64 (most:Int)].toArray L (fun r L'=>∃lens w u C,r=.agg #[w,u]∧yP cs most lens∧CdR [C] w u lens∧L'=C::L):=by
 refine Gv.of_body (args:=[v,.int .i64 (most:Int)]) Tryz.func243 rfl rfl ?_
 obtain ⟨va,vc,rfl,_⟩:=h.room
 have hle:=fun L' (h':Rs L' 1 (.slice va cs.length vc) cs.length (ivn cs))=>zh7 (a:=va) (c:=vc) (icn cs) (most:Int) L' (by rw [zL,vW];exact h'.sl) (by rw [zL];omega)
 have hne:¬zfq (icn cs) (most:Int):=by
  rintro (h'|h'|h'|h'|h')
  ·omega
  ·omega
  ·rw [zL] at h';omega
  ·have:(icn cs).all okc=true:=by
    rw [List.all_eq_true]
    intro x hx
    obtain ⟨i,hi,rfl⟩:=List.getElem_of_mem hx
    have h2:=hb i
    have h3:(icn cs)[i]=((cs.getD i 0:Nat):Int):=by rw [←zej];simp [List.getD,hi]
    rw [h3,zdj]
    omega
   rw [this] at h';cases h'
  ·unfold nC at h'
   rw [Zi,zL,Int.toNat_natCast] at h'
   omega
 rw [zL,Zi,Int.toNat_natCast] at hle
 (refine kW ?_;refine kU fun bk=>?_;refine kW ?_)
 refine cC rfl rfl (hle _ h.there) (fun r L' hp=>?_)
 rcases hp with ⟨h',_⟩|⟨_,lens,w,C,rfl,rfl,ho,hlo⟩
 ·exact absurd h' hne
 have hll:=hlo.len
 have hco:Cok lens:=⟨hlo.fits,fun x hx=>by
  obtain ⟨i,hi,rfl⟩:=List.getElem_of_mem hx
  have:=hlo.le i
  rw [show lens.getD i 0=lens[i] from by simp [List.getD,hi]] at this
  omega⟩
 rw [←hll] at ho
 have hw:=Rs.ow (L:=[]) ho
 obtain ⟨wa,wc,rfl⟩:=zM ho
 refine kW ?_
 refine cC rfl rfl (zaO (.slice wa lens.length wc) lens _ (hw.sub iM) hco (by omega)) (fun r L' hp=>?_)
 obtain ⟨u,C2,rfl,hu,rfl⟩:=hp
 obtain ⟨ua,uc,rfl,_⟩:=hu.room
 refine kW ?_
 (first|refine zX (vs:=[.agg ([.slice wa lens.length wc,.slice ua lens.length uc]).toArray]) rfl (.agg ⟨by kernel_rfl,by kernel_rfl⟩ rfl (zK.cl' (vs:=[.slice wa lens.length wc,.slice ua lens.length uc]) (by repeat (first|assumption|exact Fnd.here|refine Fnd.there ?_)) rfl) rfl .nil) ?_|refine yF (vs:=[.agg ([.slice wa lens.length wc,.slice ua lens.length uc]).toArray]) rfl (.agg ⟨by kernel_rfl,by kernel_rfl⟩ rfl (zK.cl' (vs:=[.slice wa lens.length wc,.slice ua lens.length uc]) (by repeat (first|assumption|exact Fnd.here|refine Fnd.there ?_)) rfl) rfl .nil) ?_)
 refine ⟨(C2++C)::L,fun w h=>two.2 (iH h),lens,_,_,C2++C,rfl,hlo,?_,rfl⟩
 refine CdR.sub (L:=C2::C::[]) (fun x hx=>by simpa [List.append_assoc] using hx) ⟨hw.sub iM,hu.sub iM,hco,by omega⟩
end Go.Proofs.YtemdlifojcgplaaGreatDoor
namespace Go.Df
open Go.Vx Go.If Go.Hf
set_option linter.all false
theorem zhf (x:Nat) (hx:x≤15):∀f n bf,∀r∈Zo x f n bf,r.1 < 19∧r.2 < 2 ^ rpB r.1
 |0,n,bf,r,h=>by cases h
 |f+1,n,bf,r,h=>by
  rw [Zo] at h
  split at h
  ·cases h
  ·have hb:=zeR hx (n:=n) (by omega) bf
   have h18:=zf5 (n:=n) hx bf
   rcases List.mem_cons.1 h with rfl|h
   ·exact ⟨by simp only;omega,hb.2.2.2⟩
   ·exact zhf x hx f _ _ r h
theorem zld:∀(f:Nat) (l:List Nat),(∀x∈l,x≤15)→∀r∈rnF f l,r.1 < 19∧r.2 < 2 ^ rpB r.1
 |0,l,_,r,h=>by cases h
 |f+1,l,hl,r,h=>by
  rw [rnF] at h
  split at h
  ·cases h
  ·rename_i hne
   rcases List.mem_append.1 h with h|h
   ·refine zhf _ ?_ _ _ _ r h
    cases l with
    |nil=>exact absurd rfl hne
    |cons y q=>exact hl y (by simp)
   ·exact zld f _ (fun x hx=>hl x (List.mem_of_mem_drop hx)) r h
def hdL (l dl:List Nat):List Nat:=l.take (trN l 257 l.length)++dl.take (trN dl 1 dl.length)
end Go.Df
namespace Go.Proofs.YtemdlifojcgplaaGreatDoor
open Go Go.Vx Go.Hf Go.If Go.Df
variable [W0]
set_option maxRecDepth 4000
set_option linter.all false
theorem HdR.bits {L:List Chunk} {vo v1 v2 vr:Value} {n1 n2:Nat} {o own:List Nat} {rs:List (Nat × Nat)} (h:HdR L vo v1 v2 vr n1 n2 o own rs):itL (hwI n1 n2 o own rs)≤100+22 * 400:=by
 have:=zc9 h.c.ok h.ol.2 rs n1 n2
 have:=h.rn
 omega
theorem zka (v1 v3:Value) (l dl:List Nat) (L:List Chunk) (h1:Rs L 1 v1 l.length (ivn l)) (h3:Rs L 1 v3 dl.length (ivn dl)) (hl:l.length=286) (hd:dl.length=30) (x1:∀x∈l,x≤15) (x3:∀x∈dl,x≤15) (hor:qQ L) :
 Gv Tryz.prog 244 [v1,v3].toArray L (fun r L'=>∃own vo v5 v6 vr C,r=.agg (hdV (trN l 257 l.length) (trN dl 1 dl.length) vo v5 v6 vr).toArray∧yP (cR (rnS (hdL l dl))) 7 own∧
  HdR [C] vo v5 v6 vr (trN l 257 l.length) (trN dl 1 dl.length) ((orN own).take (trN (orN own) 4 19)) own (rnS (hdL l dl))∧L'=C::L):=by
 refine Gv.of_body (args:=[v1,v3]) Tryz.func244 rfl rfl ?_
 have b1:=Q0 (l:=l) (least:=257) l.length (by omega)
 have b3:=Q0 (l:=dl) (least:=1) dl.length (by omega)
 have ht1:=fun S L' hi hs=>QD v1 l 257 S L' hi hs (by omega) (by omega)
 have ht3:=fun S L' hi hs=>QD v3 dl 1 S L' hi hs (by omega) (by omega)
 have hlst:∀x∈hdL l dl,x≤15:=fun x hx=>by
  rcases List.mem_append.1 hx with h|h
  ·exact x1 x (List.mem_of_mem_take h)
  ·exact x3 x (List.mem_of_mem_take h)
 have hlen:(hdL l dl).length=trN l 257 l.length+trN dl 1 dl.length:=by unfold hdL;rw [List.length_append,List.length_take,List.length_take];omega
 have hrl:=zdu (hdL l dl).length (hdL l dl) hlst
 have hro:=zld (hdL l dl).length (hdL l dl) hlst
 have hcl:hdL l dl=l.take (trN l 257 l.length)++dl.take (trN dl 1 dl.length):=rfl
 have hlt1:(l.take (trN l 257 l.length)).length=trN l 257 l.length:=by rw [List.length_take];omega
 have hlt3:(dl.take (trN dl 1 dl.length)).length=trN dl 1 dl.length:=by rw [List.length_take];omega
 generalize trN l 257 l.length=n1 at *
 generalize trN dl 1 dl.length=n2 at *
 rw [hl] at b1
 rw [hd] at b3
 have hrn:rnS (hdL l dl)=rnF (hdL l dl).length (hdL l dl):=rfl
 (refine kW ?_;refine kU fun bk=>?_;refine kW ?_)
 refine cC rfl rfl (ht1 L _ iC h1) (fun r1 L' hp=>?_)
 obtain ⟨hr1,rfl⟩:=hp
 refine kW ?_
 refine cC rfl rfl (ht3 L _ iC h3) (fun r3 L' hp=>?_)
 obtain ⟨hr3,rfl⟩:=hp
 obtain ⟨a1,c1,rfl,_⟩:=hr1.room
 obtain ⟨a3,c3,rfl,_⟩:=hr3.room
 refine kW ?_
 refine zl (cs:=[.slice a1 n1 c1,.slice a3 n2 c3]) rfl (by rfl) (by first|(simp [zA,patch,Value.cells,zeros];done)|(simp [zA,patch,Value.cells,zeros];rfl)) (by omega) rfl rfl (fun bn=>?_)
 refine kW ?_
 have hcat:=fun B=>zd6 (some ⟨bn,0,none⟩) 2 [(.slice a1 n1 c1,l.take n1),(.slice a3 n2 c3,dl.take n2)] ([(bn,cl [.slice a1 n1 c1,.slice a3 n2 c3] 154)]::B::L) (zF (c:=#[.slice a1 n1 c1,.slice a3 n2 c3]) .here rfl (by simp)) (by
  intro x hx
  simp only [List.mem_cons,List.not_mem_nil,or_false] at hx
  rcases hx with rfl|rfl
  ·simp only [hlt1];exact hr1.sl |> zm |> zm
  ·simp only [hlt3];exact hr3.sl |> zm |> zm) (by simp) (by
  have:ccL [((.slice a1 n1 c1:Value),l.take n1),(.slice a3 n2 c3,dl.take n2)] 2=hdL l dl:=by rw [hcl];simp [ccL]
  show 1≤(ccL _ 2).length
  rw [this];omega) (by
  have:ccL [((.slice a1 n1 c1:Value),l.take n1),(.slice a3 n2 c3,dl.take n2)] 2=hdL l dl:=by rw [hcl];simp [ccL]
  show (ccL _ 2).length≤_
  rw [this];omega)
 rw [show ccL [((.slice a1 n1 c1:Value),l.take n1),(.slice a3 n2 c3,dl.take n2)] [((.slice a1 n1 c1:Value),l.take n1),(.slice a3 n2 c3,dl.take n2)].length=hdL l dl from by rw [hcl];simp [ccL]] at hcat
 refine cC rfl rfl (hcat _) (fun r L' hp=>?_)
 obtain ⟨C1,rfl,ho1⟩:=hp
 have hr1:=Rs.ow (L:=[]) ho1
 refine kW ?_
 refine cC rfl rfl (zlq r (hdL l dl) _ (hr1.sub iM) hlst (by omega)) (fun r2 L' hp=>?_)
 obtain ⟨C2,ho2,rfl⟩:=hp
 have hr2:=Rs.ow (L:=[]) ho2
 rw [←hrn] at hrl hro
 generalize rnS (hdL l dl)=rs at *
 refine kW ?_
 refine cC rfl rfl (Yt r2 rs _ (hr2.sub iM) (fun x hx=>(hro x hx).1) (by omega)) (fun r4 L' hp=>?_)
 obtain ⟨C3,hr4,rfl⟩:=hp
 have hcr:=Yp rs
 have hcb:=fun i=>zje (rs:=rs) (fun x hx=>(hro x hx).1) i
 have hpl:=uf (cR rs) (cR rs).length
 refine kW ?_
 refine cC rfl rfl (vS r4 (cR rs) 7 _ (by rw [hcr];exact hr4.sub iM) (by decide) (by decide) (by omega) (fun i=>by have:=hcb i;omega) (by omega)) (fun r5 L' hp=>?_)
 obtain ⟨own,w,u,C4,rfl,hlo,hcd,rfl⟩:=hp
 have hol:=hlo.len
 rw [hcr] at hol
 obtain ⟨wa,wc,rfl,_⟩:=hcd.l.room
 obtain ⟨ua,uc,rfl,_⟩:=hcd.c.room
 (refine kW ?_;refine kU fun bk=>?_;refine kW ?_)
 refine zk [10] mixed ?_
 (refine za 0 ?_;refine za 1 ?_;refine za 2 ?_;refine za 3 ?_;refine za 4 ?_;refine za 5 ?_;refine za 7 ?_;refine za 8 ?_)
 refine cI 6 rfl rfl ?_
 refine cC rfl rfl (zew (.slice wa own.length wc) own _ (hcd.l.sub iM) hol (by repeat (first|exact hor|apply qQ.there))) (fun r6 L' hp=>?_)
 obtain ⟨C5,ho5,rfl⟩:=hp
 refine ⟨iC,?_⟩
 have hoN:(orN own).length=19:=by simp [orN]
 have hb4:=Q0 (l:=orN own) (least:=4) 19 (by decide)
 have hot:((orN own).take (trN (orN own) 4 19)).length=trN (orN own) 4 19:=by rw [List.length_take];omega
 have hfin:HdR ((C5++(C4++C2))::[]) r6 (.slice wa own.length wc) (.slice ua own.length uc) r2 n1 n2 ((orN own).take (trN (orN own) 4 19)) own rs:=by
  refine HdR.sub (L:=C5::C4::C2::[]) (fun x hx=>by simpa [List.append_assoc] using hx) ⟨?_,hcd.sub iM,hr2.sub iM,b1.imp id (fun h=>h.1),b3.imp id (fun h=>h.1),by rw [hot];omega,fun x hx=>?_,hol,by omega,hro⟩
  ·rw [hot];exact ho5.sub iM
  ·have hx2:=List.mem_of_mem_take hx
   unfold orN at hx2
   obtain ⟨i,_,rfl⟩:=List.mem_map.1 hx2
   have:=hlo.le (yY.getD i 0)
   omega
 obtain ⟨on,hon⟩:∃on,on=trN (orN own) 4 19:=⟨_,rfl⟩
 rw [←hon] at ho5
 obtain ⟨oa,oc,rfl,_⟩:=ho5.room
 obtain ⟨ra,rc,rfl,_⟩:=hr2.room
 (refine za 9 ?_)
 refine cL 10 rfl rfl rfl ?_
 refine zo (l:=[.int .i64 0,.int .i64 0,.slice none 0 0,.slice none 0 0,.slice none 0 0,.slice none 0 0]) [.int .i64 (n1:Int),.int .i64 (n2:Int),.slice oa on oc,.slice wa own.length wc,.slice ua own.length uc,.slice ra rs.length rc] rfl rfl rfl rfl rfl iU (by simp) ?_
 refine cD ?_
 refine kW ?_
 (first|refine zX (vs:=[.agg ([.int .i64 (n1:Int),.int .i64 (n2:Int),.slice oa on oc,.slice wa own.length wc,.slice ua own.length uc,.slice ra rs.length rc]).toArray]) rfl (.agg ⟨by kernel_rfl,by kernel_rfl⟩ rfl (zK.cl' (vs:=[.int .i64 (n1:Int),.int .i64 (n2:Int),.slice oa on oc,.slice wa own.length wc,.slice ua own.length uc,.slice ra rs.length rc]) (by repeat (first|assumption|exact Fnd.here|refine Fnd.there ?_)) rfl) rfl .nil) ?_|refine yF (vs:=[.agg ([.int .i64 (n1:Int),.int .i64 (n2:Int),.slice oa on oc,.slice wa own.length wc,.slice ua own.length uc,.slice ra rs.length rc]).toArray]) rfl (.agg ⟨by kernel_rfl,by kernel_rfl⟩ rfl (zK.cl' (vs:=[.int .i64 (n1:Int),.int .i64 (n2:Int),.slice oa on oc,.slice wa own.length wc,.slice ua own.length uc,.slice ra rs.length rc]) (by repeat (first|assumption|exact Fnd.here|refine Fnd.there ?_)) rfl) rfl .nil) ?_)
 exact ⟨(C5++(C4++C2))::L,fun w h=>three.2 (iH h),own,_,_,_,_,_,rfl,hlo,by rw [←hon] at hfin ⊢;exact hfin,rfl⟩
end Go.Proofs.YtemdlifojcgplaaGreatDoor
namespace Go.Df
open Go.Vx Go.If Go.Hf
set_option linter.all false
def vL (r:Nat × Nat):Rl:=if r.1=16 then .rep r.2 else if r.1=17 then .few r.2 else if r.1=18 then .more r.2 else .len r.1
def zaE (r:Nat × Nat):Prop:=r.1≤18∧r.2 < 2 ^ rpB r.1
theorem zaE.cases {r:Nat × Nat} (h:zaE r):(r.1≤15∧r.2=0∧vL r=.len r.1∧rpB r.1=0)∨(r.1=16∧r.2 < 4∧vL r=.rep r.2)∨(r.1=17∧r.2 < 8∧vL r=.few r.2)∨(r.1=18∧r.2 < 128∧vL r=.more r.2):=by
 obtain ⟨s,m⟩:=r
 obtain ⟨h1,h2⟩:=h
 simp only at h1 h2 ⊢
 by_cases h16:s=16
 ·subst h16;exact .inr (.inl ⟨rfl,h2,rfl⟩)
 by_cases h17:s=17
 ·subst h17;exact .inr (.inr (.inl ⟨rfl,h2,rfl⟩))
 by_cases h18:s=18
 ·subst h18;exact .inr (.inr (.inr ⟨rfl,h2,rfl⟩))
 have hb:rpB s=0:=by unfold rpB;rw [if_neg h16,if_neg h17,if_neg h18]
 rw [hb] at h2
 exact .inl ⟨by omega,by omega,by unfold vL;rw [if_neg h16,if_neg h17,if_neg h18],hb⟩
theorem zle [W0] {own:List Nat}:∀{rs:List (Nat × Nat)},(∀r∈rs,zaE r)→itV (rnI own rs)=itV (rsI own (rs.map vL))∧itL (rnI own rs)=itL (rsI own (rs.map vL))
 |[],_=>⟨rfl,rfl⟩
 |r::q,h=>by
  obtain ⟨h1,h2⟩:=zle (own:=own) (rs:=q) (fun x hx=>h x (List.mem_cons_of_mem _ hx))
  rw [List.map_cons,rsI,rnI,Zt,zw]
  obtain ⟨s,m⟩:=r
  rcases (h _ List.mem_cons_self).cases with ⟨_,g2,g3,g4⟩|⟨g1,_,g3⟩|⟨g1,_,g3⟩|⟨g1,_,g3⟩
  ·simp only at g2 g3 g4
   rw [g3,g2,g4]
   simp only [rlI,itV,itL,h1,h2,Nat.pow_zero]
   exact ⟨by simp,by omega⟩
  ·simp only at g1
   subst g1
   rw [g3]
   simp only [rlI,itV,itL,h1,h2,show rpB 16=2 from rfl]
   exact ⟨by rw [Nat.pow_add,Nat.mul_add,Nat.mul_add,Nat.mul_assoc];simp [Nat.add_assoc],by omega⟩
  ·simp only at g1
   subst g1
   rw [g3]
   simp only [rlI,itV,itL,h1,h2,show rpB 17=3 from rfl]
   exact ⟨by rw [Nat.pow_add,Nat.mul_add,Nat.mul_add,Nat.mul_assoc];simp [Nat.add_assoc],by omega⟩
  ·simp only at g1
   subst g1
   rw [g3]
   simp only [rlI,itV,itL,h1,h2,show rpB 18=7 from rfl]
   exact ⟨by rw [Nat.pow_add,Nat.mul_add,Nat.mul_add,Nat.mul_assoc];simp [Nat.add_assoc],by omega⟩
theorem zku (a:List Nat) (m x:Nat) (h:1≤m):(a++List.replicate m x).getD ((a++List.replicate m x).length - 1) 0=x:=by
 rw [List.length_append,List.length_replicate,List.getD_eq_getElem?_getD,List.getElem?_append_right (by omega),List.getElem?_replicate,if_pos (by omega)]
 rfl
theorem step_ok {x n:Nat} (hx:x≤15) (hn:1≤n) (bf:Bool) (a:List Nat) (hb:bf=true→a≠[]∧a.getD (a.length - 1) 0=x) :
 zaE (sfN x n bf,smN x n bf - rpA (sfN x n bf))∧rlW (vL (sfN x n bf,smN x n bf - rpA (sfN x n bf))) a=a++List.replicate (smN x n bf) x∧(∀own:List Nat,0 < own.getD (sfN x n bf) 0→znV own a.length (vL (sfN x n bf,smN x n bf - rpA (sfN x n bf)))):=by
 have hs:=zeR hx hn bf
 have hr:zaE (sfN x n bf,smN x n bf - rpA (sfN x n bf)):=⟨zf5 hx bf,hs.2.2.2⟩
 refine ⟨hr,?_⟩
 by_cases h1:x=0∧11≤n
 ·have e:sfN x n bf=18:=by unfold sfN;rw [if_pos h1]
  rw [e] at hr hs ⊢
  generalize smN x n bf=m at *
  have e2:rpA 18=11:=rfl
  rw [e2] at hs ⊢
  refine ⟨?_,fun own ho=>⟨hs.2.2.2,ho⟩⟩
  show a++List.replicate (11+(m - 11)) 0=_
  rw [show 11+(m - 11)=m from by omega,h1.1]
 by_cases h2:x=0∧3≤n
 ·have e:sfN x n bf=17:=by unfold sfN;rw [if_neg h1,if_pos h2]
  rw [e] at hr hs ⊢
  generalize smN x n bf=m at *
  have e2:rpA 17=3:=rfl
  rw [e2] at hs ⊢
  refine ⟨?_,fun own ho=>⟨hs.2.2.2,ho⟩⟩
  show a++List.replicate (3+(m - 3)) 0=_
  rw [show 3+(m - 3)=m from by omega,h2.1]
 by_cases h3:0 < x∧bf=true∧3≤n
 ·have e:sfN x n bf=16:=by unfold sfN;rw [if_neg h1,if_neg h2,if_pos h3]
  rw [e] at hr hs ⊢
  generalize smN x n bf=m at *
  have e2:rpA 16=3:=rfl
  rw [e2] at hs ⊢
  obtain ⟨g1,g2⟩:=hb h3.2.1
  refine ⟨?_,fun own ho=>⟨List.length_pos_iff.2 g1,hs.2.2.2,ho⟩⟩
  show a++List.replicate (3+(m - 3)) (a.getD (a.length - 1) 0)=_
  rw [show 3+(m - 3)=m from by omega,g2]
 ·have e:sfN x n bf=x:=by unfold sfN;rw [if_neg h1,if_neg h2,if_neg h3]
  have e1:rpA x=1:=by unfold rpA;rw [if_neg (by omega),if_neg (by omega),if_neg (by omega)]
  have e2:rpB x=0:=by unfold rpB;rw [if_neg (by omega),if_neg (by omega),if_neg (by omega)]
  have e3:smN x n bf=1:=by unfold smN;rw [e,e1,e2];show min n (1+1 - 1)=1;omega
  rw [e,e1,e3]
  have e4:vL (x,1 - 1)=.len x:=by unfold vL;rw [if_neg (by simp only;omega),if_neg (by simp only;omega),if_neg (by simp only;omega)]
  rw [e4]
  exact ⟨rfl,fun own ho=>⟨hx,ho⟩⟩
theorem zkQ {x:Nat} (hx:x≤15):∀(f n:Nat) (bf:Bool) (a:List Nat),n≤f→(bf=true→a≠[]∧a.getD (a.length - 1) 0=x)→
 (∀r∈Zo x f n bf,zaE r)∧rsW ((Zo x f n bf).map vL) a=a++List.replicate n x∧(∀own:List Nat,(∀r∈Zo x f n bf,0 < own.getD r.1 0)→zbJ own a.length ((Zo x f n bf).map vL))
 |0,n,bf,a,hn,hb=>by
  obtain rfl:n=0:=by omega
  exact ⟨fun r hr=>(by cases hr),by simp [Zo,rsW],fun own _=>trivial⟩
 |f+1,n,bf,a,hn,hb=>by
  rw [Zo]
  by_cases h0:n=0
  ·rw [if_pos h0]
   subst h0
   exact ⟨fun r hr=>(by cases hr),by simp [rsW],fun own _=>trivial⟩
  rw [if_neg h0]
  obtain ⟨g1,g2,g3⟩:=step_ok hx (n:=n) (by omega) bf a hb
  have hs:=zeR hx (n:=n) (by omega) bf
  obtain ⟨i1,i2,i3⟩:=zkQ hx f (n - smN x n bf) true (a++List.replicate (smN x n bf) x) (by omega) (fun _=>⟨by
   intro h
   have:=congrArg List.length h
   simp only [List.length_append,List.length_replicate,List.length_nil] at this
   omega,zku _ _ _ hs.2.2.1⟩)
  refine ⟨fun r hr=>?_,?_,fun own ho=>?_⟩
  ·rcases List.mem_cons.1 hr with rfl|hr
   ·exact g1
   ·exact i1 r hr
  ·rw [List.map_cons,rsW,g2,i2,List.append_assoc,List.replicate_append_replicate,show smN x n bf+(n - smN x n bf)=n from by omega]
  ·rw [List.map_cons]
   refine ⟨g3 own (ho _ List.mem_cons_self),?_⟩
   have:=i3 own (fun r hr=>ho r (List.mem_cons_of_mem _ hr))
   rw [←Zk,g2]
   exact this
theorem zhr:∀(x y:List Rl) (a:List Nat),rsW (x++y) a=rsW y (rsW x a)
 |[],y,a=>rfl
 |r::x,y,a=>by rw [List.cons_append,rsW,zhr x,rsW]
theorem zeG {own:List Nat}:∀{x y:List Rl} {n:Nat},zbJ own n x→zbJ own (n+rsN x) y→zbJ own n (x++y)
 |[],y,n,h1,h2=>by simpa [rsN] using h2
 |r::x,y,n,h1,h2=>by
  refine ⟨h1.1,zeG h1.2 ?_⟩
  rw [rsN] at h2
  rw [Nat.add_assoc]
  exact h2
theorem zm6 {l:List Nat} (h:l≠[]):l.take (eqN l)=List.replicate (eqN l) (l.getD 0 0):=by
 cases l with
 |nil=>exact absurd rfl h
 |cons x r=>
  have key:∀(r:List Nat),r.take (r.takeWhile fun y=>decide (y=x)).length=List.replicate (r.takeWhile fun y=>decide (y=x)).length x:=by
   intro r
   induction r with
   |nil=>rfl
   |cons y r ih=>
    by_cases hy:y=x
    ·rw [List.takeWhile_cons_of_pos (by simpa using hy),List.length_cons,List.take_succ_cons,ih,List.replicate_succ,hy]
    ·rw [List.takeWhile_cons_of_neg (by simpa using hy)];rfl
  rw [eqN,Nat.add_comm,List.take_succ_cons,key,List.replicate_succ]
  rfl
theorem zoI:∀(f:Nat) (l a:List Nat),(∀x∈l,x≤15)→l.length≤f→
 (∀r∈rnF f l,zaE r)∧rsW ((rnF f l).map vL) a=a++l∧(∀own:List Nat,(∀r∈rnF f l,0 < own.getD r.1 0)→zbJ own a.length ((rnF f l).map vL))
 |0,l,a,h15,hf=>by
  obtain rfl:l=[]:=List.length_eq_zero_iff.1 (by omega)
  exact ⟨fun r hr=>(by cases hr),by simp [rnF,rsW],fun own _=>trivial⟩
 |f+1,l,a,h15,hf=>by
  rw [rnF]
  by_cases h0:l=[]
  ·rw [if_pos h0,h0]
   exact ⟨fun r hr=>(by cases hr),by simp [rsW],fun own _=>trivial⟩
  rw [if_neg h0]
  have hb:=zgI h0
  have hx:l.getD 0 0≤15:=by
   cases l with
   |nil=>exact absurd rfl h0
   |cons y r=>exact h15 y List.mem_cons_self
  obtain ⟨g1,g2,g3⟩:=zkQ hx (eqN l) (eqN l) false a (Nat.le_refl _) (fun h=>by cases h)
  obtain ⟨i1,i2,i3⟩:=zoI f (l.drop (eqN l)) (a++List.replicate (eqN l) (l.getD 0 0)) (fun x hx=>h15 x (List.mem_of_mem_drop hx)) (by rw [List.length_drop];omega)
  refine ⟨fun r hr=>?_,?_,fun own ho=>?_⟩
  ·rcases List.mem_append.1 hr with hr|hr
   ·exact g1 r hr
   ·exact i1 r hr
  ·rw [List.map_append,zhr,g2,i2,List.append_assoc,←zm6 h0,List.take_append_drop]
  ·rw [List.map_append]
   refine zeG (g3 own fun r hr=>ho r (List.mem_append_left _ hr)) ?_
   have:=i3 own (fun r hr=>ho r (List.mem_append_right _ hr))
   have hl:=Z9 ((Zo (l.getD 0 0) (eqN l) (eqN l) false).map vL) a
   rw [g2] at hl
   rw [←hl]
   exact this
theorem zlg {l:List Nat} (h15:∀x∈l,x≤15):(∀r∈rnS l,zaE r)∧rsW ((rnS l).map vL) []=l∧(∀own:List Nat,(∀r∈rnS l,0 < own.getD r.1 0)→zbJ own 0 ((rnS l).map vL)):=by
 have:=zoI l.length l [] h15 (Nat.le_refl _)
 exact this
def exR (rs:List (Nat × Nat)):Nat:=(rs.map fun r=>rpB r.1).sum
theorem zgJ (a:List (Nat × Nat)) (r:Nat × Nat):exR (a++[r])=exR a+rpB r.1:=by simp [exR]
theorem znX [W0] {own:List Nat} {rs:List (Nat × Nat)} (h:∀r∈rs,r.1 < 19):itL (rnI own rs)=sS (fun i=>own.getD i 0) 19 (cR rs)+exR rs:=by
 induction rs using wF with
 |h0=>
  rw [show cR []=List.replicate 19 0 from rfl,Y8]
  rfl
 |h1 a t ih=>
  have ht:=h t (by simp)
  rw [zdv,zw,ih (fun x hx=>h x (by simp [hx])),zaL,YD (by rw [Yp];exact ht),if_pos ht,zgJ]
  simp only [rnI,itL,sc]
  omega
theorem znh [W0] {n1 n2:Nat} {o own:List Nat} {rs:List (Nat × Nat)} (h:∀r∈rs,r.1 < 19):itL (hwI n1 n2 o own rs)=14+3 * o.length+sS (fun i=>own.getD i 0) 19 (cR rs)+exR rs:=by
 unfold hwI
 rw [zw,zw,zev,znX h]
 simp only [itL]
 omega
end Go.Df
namespace Go.Proofs.YtemdlifojcgplaaGreatDoor
open Go Go.Vx Go.Hf Go.If Go.Df
variable [W0]
set_option maxRecDepth 4000
set_option linter.all false
theorem zj9 (vo v1 v2 vr:Value) (n1 n2:Nat) (o own:List Nat) (rs:List (Nat × Nat)) (L:List Chunk) (hK:HdR L vo v1 v2 vr n1 n2 o own rs) :
 GvP Tryz.prog 325 [.agg (hdV n1 n2 vo v1 v2 vr).toArray].toArray L (.int .i64 ((itL (hwI n1 n2 o own rs):Nat):Int)):=by
 refine Gv.of_body Tryz.func325 rfl rfl ?_
 have hbit:=hK.bits
 rw [znh (fun r h=>(hK.ro r h).1)] at hbit ⊢
 have hcr:=Yp rs
 have hrn:=hK.rn
 have hol:=hK.ol
 have hcb:=fun i=>zje (rs:=rs) (fun x hx=>(hK.ro x hx).1) i
 obtain ⟨oa,oc,rfl,_⟩:=hK.ord.room
 obtain ⟨a1,c1,rfl,_⟩:=hK.c.l.room
 obtain ⟨a2,c2,rfl,_⟩:=hK.c.c.room
 obtain ⟨ra,rc,rfl,_⟩:=hK.run.room
 unfold hdV
 (refine kW ?_;refine kU fun bk=>?_;refine kW ?_)
 have hm:min (cR rs).length own.length=19:=by rw [hcr,hK.o19];rfl
 refine zk [12] mixed ?_
 (refine za 0 ?_;refine za 1 ?_;refine za 2 ?_;refine za 3 ?_;refine za 4 ?_;refine za 5 ?_;refine za 6 ?_;refine za 7 ?_;refine za 8 ?_)
 refine cI 9 rfl rfl ?_
 refine cC rfl rfl (Yt (.slice ra rs.length rc) rs _ (hK.run.sub iM) (fun x hx=>(hK.ro x hx).1) (by omega)) (fun r L' hp=>?_)
 obtain ⟨C1,hr1,rfl⟩:=hp
 refine ⟨iC,?_⟩
 have hco:=zcQ (.slice a1 own.length c1) (.slice a2 own.length c2) r own (cR rs) (C1::[(bk,cl (hdV n1 n2 (.slice oa o.length oc) (.slice a1 own.length c1) (.slice a2 own.length c2) (.slice ra rs.length rc)) 226)]::L) (hK.c.l.sub iM) (by rw [hcr];exact hr1.sub iM) (by omega) (fun i=>by have:=hcb i;omega) (fun i=>by have:=hK.c.ok.at i;omega)
 rw [hm] at hco
 generalize sS (fun i=>own.getD i 0) 19 (cR rs)=z at *
 refine cI 10 rfl rfl ?_
 refine cP rfl rfl hco ?_
 refine ⟨iC,?_⟩
 (refine za 11 ?_)
 refine cL 12 rfl rfl rfl ?_
 rw [show (14:Int)+3 * (o.length:Int)+(z:Int)=((14+3 * o.length+z:Nat):Int) from by omega]
 generalize 14+3 * o.length+z=bs at *
 refine ze (yQ rfl) rfl ?_
 refine cD ?_
 refine kW ?_
 refine zn (X:=Nat) (fun x=>[(3,.int .i64 ((bs+exR (rs.take x):Nat):Int)),(21,.slice ra rs.length rc),(22,.int .i64 (rs.length:Int)),(23,.int .i64 (x:Int))]) (fun _=>L) (fun x=>x≤rs.length∧exR (rs.take x)≤7 * x) (fun x=>rs.length - x) 0 ⟨Nat.zero_le _,by simp [exR]⟩ (by
  rw [show exR (rs.take 0)=0 from rfl,Nat.add_zero]
  exact iS) (fun w h=>iH h) ?_
 intro j hj9
 have hj:j≤rs.length∧exR (rs.take j)≤7 * j:=hj9
 (repeat' first|refine kW ?_|refine kU fun bk=>?_|refine kV fun hc=>?_|refine kZ (fun hc=>?_) fun hc=>?_|fail)
 ·have hjl:j < rs.length:=by omega
  obtain ⟨t,ht⟩:∃t,rs[j]? =some t:=⟨rs[j],List.getElem?_eq_getElem hjl⟩
  have hto:=(hK.ro t (List.mem_of_getElem? ht)).1
  have hsA:=zgJ (rs.take j) t
  rw [←qd ht] at hsA
  obtain ⟨tb,toff,tcap,hv9,hrd⟩:=hK.run.elem hjl (by decide)
  injection hv9 with q1 q2 q3
  subst q1 q3
  clear q2
  rw [Yv uj ht] at hrd
  obtain ⟨t1,t2⟩:=t
  simp only at hto hsA
  have hrd:zK L ⟨tb,toff+j * 2,none⟩ [.int .i64 (t1:Int),.int .i64 (t2:Int)]:=hrd
  have hru:=fun L=>zbq t1 L (by omega)
  have hb7:rpB t1≤7:=by unfold rpB;split<;>(try split)<;>(try split)<;>omega
  refine ze (zi (j:=j) rfl rfl rfl hjl) rfl ?_
  refine kW ?_
  refine ze (zB rfl hrd rfl) rfl ?_
  (refine kW ?_;refine kU fun bk=>?_;refine kW ?_)
  refine cP rfl rfl (hru _) ?_
  refine kW ?_
  rw [show ((bs+exR (rs.take j):Nat):Int)+(rpB t1:Int)=((bs+exR (rs.take (j+1)):Nat):Int) from by rw [hsA];omega]
  refine zf (X:=Nat) (μ:=fun x=>rs.length - x) (x:=j) (j+1) (by show rs.length - (j+1) < rs.length - j;omega) ⟨by omega,by rw [hsA];omega⟩ iS (fun w h=>iH h)
 ·obtain rfl:j=rs.length:=by omega
  rw [List.take_length]
  refine kR ?_
  exact ⟨_,iC,rfl,rfl⟩
end Go.Proofs.YtemdlifojcgplaaGreatDoor
