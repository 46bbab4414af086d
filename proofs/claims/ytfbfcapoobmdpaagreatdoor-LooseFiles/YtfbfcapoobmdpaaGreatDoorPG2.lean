/- Contracts and facts on the way to the top. It proves no statement by itself. No conditions. -/
import Derived.Test.YtfbfcapoobmdpaaGreatDoorPG1
set_option maxHeartbeats 16000000
namespace Go.Proofs.YtfbfcapoobmdpaaGreatDoor
open Go Go.Vx
variable [W0]
set_option maxRecDepth 4000
set_option linter.all false
omit [W0] in
def h50:H5:=⟨1732584193#32,4023233417#32,2562383102#32,271733878#32,3285377520#32⟩
omit [W0] in
def Xo (t:List UInt8):Nat→H5
 |0=>h50
 |k+1=>zkF (Xo t k) ((t.drop (64 * k)).take 64)
theorem Xp (t u:List UInt8):∀k,64 * k≤t.length→Xo (t++u) k=Xo t k
 |0,_=>rfl
 |k+1,h=>by
  have e:((t++u).drop (64 * k)).take 64=(t.drop (64 * k)).take 64:=by
   rw [List.drop_append_of_le_length (by omega),List.take_append_of_le_length (by simp;omega)]
  simp only [Xo,Xp t u k (by omega),e]
omit [W0] in
structure XF (t:List UInt8) (h:H5) (blk:List UInt8):Prop where
 len:blk.length=64
 chain:h=Xo t (t.length / 64)
 rest:blk.take (t.length % 64)=t.drop (64 * (t.length / 64))
omit [W0] in
def uL (blk:List UInt8) (r:Nat) (u:List UInt8):List UInt8:=blk.take r++(u++blk.drop (r+u.length))
theorem ZY {blk u:List UInt8} {r:Nat} (hb:blk.length=64) (h:r+u.length≤64):(uL blk r u).length=64:=by
 simp [uL];omega
theorem zaW {blk u:List UInt8} {r:Nat} (hb:blk.length=64) (h:r+u.length≤64):(uL blk r u).take (r+u.length)=blk.take r++u:=by
 unfold uL
 have e:(blk.take r++u).length=r+u.length:=by simp;omega
 rw [←List.append_assoc,←e,List.take_left]
theorem XF.part {t u:List UInt8} {h:H5} {blk:List UInt8} (hi:XF t h blk) (hu:t.length % 64+u.length < 64):XF (t++u) h (uL blk (t.length % 64) u):=by
 have e1:(t++u).length / 64=t.length / 64:=by simp;omega
 have e2:(t++u).length % 64=t.length % 64+u.length:=by simp;omega
 refine ⟨ZY hi.len (by omega),?_,?_⟩
 ·rw [e1,Xp _ _ _ (by omega)];exact hi.chain
 ·rw [e1,e2,zaW hi.len (by omega),hi.rest,List.drop_append_of_le_length (by omega)]
theorem XF.full {t u:List UInt8} {h:H5} {blk:List UInt8} (hi:XF t h blk) (hu:t.length % 64+u.length=64):XF (t++u) (zkF h (uL blk (t.length % 64) u)) (uL blk (t.length % 64) u):=by
 have e1:(t++u).length / 64=t.length / 64+1:=by simp;omega
 have e2:(t++u).length % 64=0:=by simp;omega
 have hl:=ZY (u:=u) hi.len (show t.length % 64+u.length≤64 by omega)
 have ht:=zaW (u:=u) hi.len (show t.length % 64+u.length≤64 by omega)
 rw [hu,List.take_of_length_le (by omega),hi.rest] at ht
 have e3:((t++u).drop (64 * (t.length / 64))).take 64=uL blk (t.length % 64) u:=by
  rw [ht,List.drop_append_of_le_length (by omega),List.take_of_length_le]
  simp;omega
 refine ⟨hl,?_,?_⟩
 ·rw [e1]
  simp only [Xo]
  rw [Xp _ _ _ (by omega),←hi.chain,e3]
 ·rw [e1,e2,List.take_zero,List.drop_of_length_le (by simp;omega)]
theorem XF.new:XF [] h50 (List.replicate 64 0):=⟨by simp,rfl,rfl⟩
theorem YH {h:H5} {blk:List UInt8} {n:Nat}:(yT h blk n).length=6+blk.length:=by simp [yT,zH];omega
theorem zfR {v:Value} {l vs:List Value} {o:Nat}:patch (v::l) (o+1) vs=v::patch l o vs:=by
 simp [patch,Nat.add_right_comm o 1]
theorem zf6 {h:H5} {blk u:List UInt8} {n r:Nat} (hu:r+u.length≤blk.length):patch (yT h blk n) (5+r * 1) (bsv u)=yT h (uL blk r u) n:=by
 unfold yT
 rw [Nat.mul_one,show 5+r=(((((r+1)+1)+1)+1)+1) from by omega]
 simp only [zfR]
 have e:patch (bsv blk++[Value.int .u64 (n:Int)]) r (bsv u)=bsv (uL blk r u)++[.int .u64 (n:Int)]:=by
  unfold patch uL
  rw [List.take_append_of_le_length (by simp [zH];omega),List.drop_append_of_le_length (by simp [zH];omega)]
  simp [bsv,List.map_take,List.map_drop]
 rw [e]
theorem zeQ {h:H5} {blk:List UInt8} {n:Nat} (m:Nat) (hb:blk.length=64):(yT h blk n).set 69 (.int .u64 (m:Int))=yT h blk m:=by
 unfold yT
 simp only [List.set_cons_succ]
 rw [List.set_append_right _ _ (by simp [zH,hb])]
 simp [zH,hb]
omit [W0] in
structure SlC (L:List Chunk) (k:Nat) (v:Value) (m:Nat) (xs:List Value):Prop where
 sl:Sl L k v m xs
 room:∃a c,v=.slice a m c∧m≤c
theorem SlC.there {L:List Chunk} {C:Chunk} {k m:Nat} {v:Value} {xs:List Value} (h:SlC L k v m xs):SlC (C::L) k v m xs:=⟨zm h.sl,h.room⟩
theorem SlC.ow {e k m:Nat} {v:Value} {xs:List Value} {C:Chunk} {L:List Chunk} (h:Ow e k v m xs C):SlC (C::L) k v m xs:=by
 refine ⟨qy h,?_⟩
 rcases h with ⟨rfl,rfl,_⟩|⟨b,cap,rest,rfl,_,_,_,hmc,_⟩
 ·exact ⟨_,_,rfl,Nat.le_refl _⟩
 ·exact ⟨_,_,rfl,hmc⟩
theorem SlC.cut {L:List Chunk} {bb off m cap q:Nat} {l:List UInt8} {c:Array Value} {T:TypeId} {fr:Nat × Nat} (hf:Fnd L bb (.cells c T fr)) (hc:∀j u,(bsv l)[j]? =some u→c[off+j]? =some u) (hm:l.length=m) (hq:q≤m) (hmc:m≤cap) :
 SlC L 1 (.slice (some ⟨bb,if cap=q then off else off+q * 1,none⟩) (m - q) (cap - q)) (m - q) (bsv (l.drop q)):=by
 refine ⟨.inr ⟨_,_,rfl,?_,by simp [zH,hm]⟩,_,_,rfl,by omega⟩
 by_cases h0:m=q
 ·refine .inl ?_
  rw [List.drop_of_length_le (by omega)];rfl
 ·refine .inr ⟨bb,_,c,T,fr,rfl,hf,fun j u hj=>?_⟩
  rw [if_neg (by omega),Nat.mul_one,Nat.add_assoc]
  refine hc _ _ ?_
  rw [←hj]
  simp [bsv]
theorem zhI (t b:List UInt8) (h:H5) (blk:List UInt8) (v:Value) (p:Nat) (L:List Chunk) (hi:XF t h blk) (hlen:t.length+b.length < 1152921504606846976) (hv:SlC L 1 v b.length (bsv b)) :
 Gv Tryz.prog 88 [.pointer (some ⟨p,0,none⟩),v].toArray ([(p,cl (yT h blk t.length) 198)]::L)
  (fun r L'=>r=.tuple #[]∧∃h' blk',XF (t++b) h' blk'∧L'=[(p,cl (yT h' blk' (t++b).length) 198)]::L):=by
 refine Gv.of_body Tryz.func88 rfl rfl ?_
 refine kX ?_
 refine zn (X:=Nat × Value × H5 × List UInt8) (fun x=>[(0,.pointer (some ⟨p,0,none⟩)),(1,x.2.1)])
  (fun x=>[(p,cl (yT x.2.2.1 x.2.2.2 (t++b.take x.1).length) 198)]::L)
  (fun x=>x.1≤b.length∧SlC L 1 x.2.1 (b.length - x.1) (bsv (b.drop x.1))∧XF (t++b.take x.1) x.2.2.1 x.2.2.2) (fun x=>b.length - x.1) (0,v,h,blk) ⟨Nat.zero_le _,by simpa using hv,by simpa using hi⟩ iS (fun w h=>by simpa using h) ?_
 clear hi hv h blk v
 intro x ⟨hx1,hx2,hx3⟩
 obtain ⟨k,v,h,blk⟩:=x
 simp only at hx1 hx2 hx3 ⊢
 obtain ⟨a,c,rfl,hmc⟩:=hx2.room
 (repeat' first|refine kX ?_|refine kU fun bk=>?_|refine kV fun hc=>?_|refine kZ (fun hc=>?_) fun hc=>?_|fail)
 ·have hm0:0 < b.length - k:=by omega
  have hN:(t++b.take k).length=t.length+k:=by simp;omega
  obtain ⟨s,hs⟩:∃s,s=t++b.take k:=⟨_,rfl⟩
  obtain ⟨u,hu⟩:∃u,u=b.drop k:=⟨_,rfl⟩
  have hul:u.length=b.length - k:=by rw [hu,List.length_drop]
  rw [←hs] at hx3 hN ⊢
  rw [←hu] at hx2
  rw [←hul] at hx2 hm0 hmc ⊢
  rcases zn0 hx2.sl with ⟨h0,_⟩|⟨bb,off,cap,cc,T,fr,hve,hfn,hcell⟩
  ·omega
  injection hve with e1 e2 e3
  subst e1 e3
  clear e2
  have hr:(s.length:Int).tmod 64=((s.length % 64:Nat):Int):=by rw [Int.tmod_eq_emod_of_nonneg (by omega)];omega
  have hlv:∀(h:H5) (blk:List UInt8) (n:Nat),blk.length=64→nth (yT h blk n) 69=some (.int .u64 (n:Int)):=fun h blk n hb=>by rw [yu];exact zeP hb
  have hbl:=hx3.len
  obtain ⟨q,hq⟩:∃q,q=min u.length (64 - s.length % 64):=⟨_,rfl⟩
  have hql:(u.take q).length=q:=by simp;omega
  have htk:(bsv u).take (min u.length (64 - s.length % 64) * 1)=bsv (u.take q):=by simp [bsv,hq]
  have hbl2:=ZY (u:=u.take q) (r:=s.length % 64) hbl (by omega)
  refine zk [10,11] mixed ?_
  (refine zy 0 ?_;refine zy 1 ?_;refine zy 2 ?_;refine zy 3 ?_;refine zy 4 ?_;refine zy 5 ?_)
  refine zy 6 ?_ (he:=zx rfl Fnd.here (hlv h blk _ hbl))
  refine cT 7 rfl rfl (Xm rfl rfl (by decide)) ?_
  rw [hr]
  refine cT 8 rfl rfl (uw (l:=s.length % 64) (h:=64) rfl rfl rfl (by omega) (by omega) (by omega)) ?_
  (refine zy 9 ?_)
  refine cL 10 rfl rfl rfl ?_
  refine vR (yT h (uL blk (s.length % 64) (u.take q)) s.length) rfl rfl (zm hx2.sl) (by rw [htk];exact yj) ?_ iU ?_ rfl ?_
  ·rw [htk]
   exact zf6 (by omega)
  ·rw [YH];omega
  rw [←hq]
  refine cL 11 rfl rfl rfl ?_
  refine wP ?_
  refine cD ?_
  refine kX ?_
  refine ze (yS (l:=q) (h:=u.length) rfl rfl rfl (by omega) hmc) rfl ?_
  refine kX ?_
  refine ze (zx rfl Fnd.here (hlv _ _ _ hbl2)) rfl ?_
  refine kX ?_
  refine ze (qj rfl rfl rfl) rfl ?_
  rw [wrap_u64 (by omega) (by omega),show (s.length:Int)+(q:Int)=((s.length+q:Nat):Int) from by omega]
  refine kX ?_
  refine zG (yT h (uL blk (s.length % 64) (u.take q)) (s.length+q)) rfl rfl rfl (zeQ _ hbl2) iU (by rw [YH];omega) ?_
  refine kX ?_
  refine ze (zx rfl Fnd.here (hlv _ _ _ hbl2)) rfl ?_
  refine kX ?_
  refine ze (Xm rfl rfl (by decide)) rfl ?_
  rw [show ((s.length+q:Nat):Int).tmod 64=(((s.length+q) % 64:Nat):Int) from by rw [Int.tmod_eq_emod_of_nonneg (by omega)];omega]
  have hnx:t++b.take (k+q)=s++u.take q:=by
   rw [hs,hu,List.append_assoc,←List.take_add]
  have hnl:(t++b.take (k+q)).length=s.length+q:=by rw [hnx];simp;omega
  have hsc:SlC L 1 (.slice (some ⟨bb,if c=q then off else off+q * 1,none⟩) (u.length - q) (c - q)) (b.length - (k+q)) (bsv (b.drop (k+q))):=by
   have:=SlC.cut (L:=L) (q:=q) (cap:=c) hfn hcell rfl (by omega) hmc
   rw [hul,hu,List.drop_drop] at this
   rw [hul,show b.length - (k+q)=b.length - k - q from by omega]
   exact this
  (repeat' first|refine kX ?_|refine kU fun bk=>?_|refine kV fun hc=>?_|refine kZ (fun hc=>?_) fun hc=>?_|fail)
  ·have h64:s.length % 64+q=64:=by omega
   refine cC rfl rfl (zqS _ _ _ p L hbl2) (fun r L' hp=>?_)
   obtain ⟨rfl,rfl⟩:=hp
   refine kX ?_
   rw [hul] at hsc ⊢
   refine zf (X:=Nat × Value × H5 × List UInt8) (μ:=fun x=>b.length - x.1) (x:=(k,.slice (some ⟨bb,off,none⟩) u.length c,h,blk)) (k+q,_,zkF h (uL blk (s.length % 64) (u.take q)),uL blk (s.length % 64) (u.take q)) (by simp only;omega)
    ⟨by simp only;omega,hsc,by simp only;rw [hnx];exact hx3.full (by omega)⟩ iS (fun w h=>by simp only;rw [hnl];exact h)
  ·have h64:s.length % 64+q < 64:=by omega
   rw [hul] at hsc ⊢
   refine zf (X:=Nat × Value × H5 × List UInt8) (μ:=fun x=>b.length - x.1) (x:=(k,.slice (some ⟨bb,off,none⟩) u.length c,h,blk)) (k+q,_,h,uL blk (s.length % 64) (u.take q)) (by simp only;omega)
    ⟨by simp only;omega,hsc,by simp only;rw [hnx];exact hx3.part (by omega)⟩ iS (fun w h=>by simp only;rw [hnl];exact h)
 ·have hk:k=b.length:=by omega
  subst hk
  rw [List.take_length] at hx3 ⊢
  refine kR ?_
  exact ⟨_,iC,rfl,h,blk,hx3,rfl⟩
omit [W0] in
def hiW (n:Nat):BitVec 32:=BitVec.ofNat 32 (8 * n / 4294967296)
omit [W0] in
def loW (n:Nat):BitVec 32:=BitVec.ofNat 32 (8 * n)
omit [W0] in
def Xf (n:Nat):List UInt8:=128::List.replicate ((119 - n % 64) % 64) 0++wb (hiW n)++wb (loW n)
theorem zdl (n:Nat):(Xf n).length=(119 - n % 64) % 64+9:=by simp [Xf,zct]
omit [W0] in
def hbs (h:H5):List (BitVec 32):=[h.a,h.b,h.c,h.d,h.e]
omit [W0] in
def zf7 (t:List UInt8):List UInt8:=wbs (hbs (Xo (t++Xf t.length) ((t++Xf t.length).length / 64)))
theorem QY (t:List UInt8):(zf7 t).length=20:=by simp [zf7,zgi,hbs]
theorem zqD (t:List UInt8) (h:H5) (blk:List UInt8) (p:Nat) (L:List Chunk) (hi:XF t h blk) (hlen:t.length < 576460752303423488) :
 Gv Tryz.prog 128 [.pointer (some ⟨p,0,none⟩)].toArray ([(p,cl (yT h blk t.length) 198)]::L)
  (fun r L'=>r=.tuple #[]∧∃h' blk',XF (t++Xf t.length) h' blk'∧L'=[(p,cl (yT h' blk' (t++Xf t.length).length) 198)]::L):=by
 refine Gv.of_body Tryz.func128 rfl rfl ?_
 have hbl:=hi.len
 have hlv:nth (yT h blk t.length) 69=some (.int .u64 (t.length:Int)):=by rw [yu];exact zeP hbl
 obtain ⟨n,hn⟩:∃n,n=t.length:=⟨_,rfl⟩
 rw [←hn] at hlv hlen
 rw [←hn]
 obtain ⟨z,hz⟩:∃z,z=(119 - n % 64) % 64:=⟨_,rfl⟩
 refine kX ?_
 refine ze (zx rfl Fnd.here hlv) rfl ?_
 refine kX ?_
 refine ze (qj rfl rfl rfl) rfl ?_
 rw [wrap_u64 (by omega) (by omega)]
 refine kX ?_
 refine ze (zx rfl Fnd.here hlv) rfl ?_
 refine kX ?_
 refine ze (qj rfl rfl rfl) rfl ?_
 refine kX ?_
 refine ze (Xm rfl rfl (by decide)) rfl ?_
 have e1:(IntKind.u64.wrap (55 - (n:Int))).tmod 64=(z:Int):=by
  simp [IntKind.wrap,IntKind.bits,IntKind.signed]
  rw [Int.tmod_eq_emod_of_nonneg (by omega)]
  omega
 rw [e1]
 refine kX ?_
 refine ze (qj rfl rfl rfl) rfl ?_
 rw [wrap_u64 (by omega) (by omega),show 1+(z:Int)=((z+1:Nat):Int) from by omega]
 refine kX ?_
 refine zJ rfl rfl (by rfl) (Nat.le_refl _) (by omega) (by omega) rfl (fun bn=>?_)
 refine kX ?_
 refine zG (bsv (128::List.replicate z 0)) rfl rfl rfl ?_ iU (by simp [zeros_length,Value.cells]) ?_
 ·show (zeros [.int .u8 0] (z+1)).set 0 _=_
  rw [zcu];rfl
 refine kX ?_
 have ho:Ow 5 1 (.slice (some ⟨bn,0,none⟩) (z+1) (z+1)) (z+1) (bsv (128::List.replicate z 0)) [(bn,cl (bsv (128::List.replicate z 0)) 5)]:=
  .inr ⟨bn,z+1,[],rfl,by simp,by simp [zH],by simp,Nat.le_refl _,by simp [maxLen];omega⟩
 have e2:BitVec.ofInt 32 ((n:Int) * 8 / 4294967296)=hiW n:=by
  apply BitVec.eq_of_toNat_eq
  rw [BitVec.toNat_ofInt,hiW,BitVec.toNat_ofNat]
  omega
 have e3:BitVec.ofInt 32 ((n:Int) * 8)=loW n:=by
  apply BitVec.eq_of_toNat_eq
  rw [BitVec.toNat_ofInt,loW,BitVec.toNat_ofNat]
  omega
 rw [e2]
 refine cC rfl rfl (Qk _ (hiW n) _ _ _ _ ho (by omega)) (fun v1 L' hp=>?_)
 obtain ⟨_,C1,rfl,rfl,ho1⟩:=hp
 refine kX ?_
 rw [e3]
 refine cC rfl rfl (Qk _ (loW n) _ _ _ _ ho1 (by omega)) (fun v2 L' hp=>?_)
 obtain ⟨_,C2,rfl,rfl,ho2⟩:=hp
 refine kX ?_
 have hpad:128::List.replicate z 0++wb (hiW n)++wb (loW n)=Xf n:=by rw [hz];rfl
 rw [hpad] at ho2
 have hpl:=zdl n
 have hv2:SlC (C2::L) 1 v2 (Xf n).length (bsv (Xf n)):=by
  rw [hpl,show (119 - n % 64) % 64+9=z+1+4+4 from by omega]
  exact SlC.ow ho2
 have hw:=zhI t (Xf n) h blk v2 p (C2::L) hi (by omega) hv2
 rw [←hn] at hw
 refine cC rfl rfl (Gv.take hw (by repeat (first|exact Take.here|apply Take.there))) (fun r L' hp=>?_)
 obtain ⟨rfl,h',blk',hi',rfl⟩:=hp
 refine kX ?_
 refine kR ?_
 exact ⟨_,iC,rfl,h',blk',hi',rfl⟩
omit [W0] in
def Z70:List Value:=yT ⟨0,0,0,0,0⟩ (List.replicate 64 0) 0
theorem zkI (L:List Chunk):Gv Tryz.prog 87 [].toArray L (fun r L'=>∃p,r=.pointer (some ⟨p,0,none⟩)∧L'=[(p,cl (yT h50 (List.replicate 64 0) 0) 198)]::L):=by
 refine Gv.of_body Tryz.func87 rfl rfl ?_
 (refine kX ?_;refine kU fun bk=>?_;refine kX ?_)
 refine kH ?_
 exact ⟨[(bk,cl (yT h50 (List.replicate 64 0) 0) 198)]::L,fun w h=>h,bk,rfl,rfl⟩
theorem zra (t:List UInt8) (h:H5) (blk:List UInt8) (p:Nat) (L:List Chunk) (hi:XF t h blk) (hlen:t.length < 576460752303423488) :
 Gv Tryz.prog 89 [.pointer (some ⟨p,0,none⟩)].toArray ([(p,cl (yT h blk t.length) 198)]::L)
  (fun r L'=>∃C,L'=C::[(p,cl (yT h blk t.length) 198)]::L∧Ow 5 1 r 20 (bsv (zf7 t)) C):=by
 refine Gv.of_body Tryz.func89 rfl rfl ?_
 have hbl:=hi.len
 have hsl:(yT h blk t.length).length=70:=by rw [YH,hbl]
 have hone:ones (yT h blk t.length)=true:=by
  have:=yj (l:=blk)
  simp only [ones,yT,List.all_cons,List.all_append] at *
  simp [this,Value.oneCell']
 refine kX ?_
 refine wP ?_ (he:=zB rfl (zK.cl' (vs:=yT h blk t.length) Fnd.here (by simp [cut])) hsl)
 (refine kX ?_;refine kU fun bk=>?_;refine kX ?_)
 refine yC (L':=[(bk,cl Z70 198)]::[(p,cl (yT h blk t.length) 198)]::L) (fun w h=>h) ?_
 refine zo (yT h blk t.length) rfl rfl hsl hone ?_ iU ?_ ?_
 ·have:Z70.length=70:=by decide
  simp [patch,hsl,this]
 ·rw [hsl];decide
 refine kX ?_
 refine cC rfl rfl (zqD t h blk bk _ hi hlen) (fun r L' hp=>?_)
 obtain ⟨rfl,h',blk',hi',rfl⟩:=hp
 have hch:=hi'.chain
 refine kX ?_
 refine zJ (m:=0) (c:=20) rfl rfl (by rfl) (by omega) (by omega) (by omega) rfl (fun bn=>?_)
 refine kX ?_
 refine wP ?_ (he:=zB rfl (zK.cl' (vs:=[w32 h'.a,w32 h'.b,w32 h'.c,w32 h'.d,w32 h'.e]) (Fnd.there Fnd.here) rfl) rfl)
 refine kX ?_
 have ho:Ow 5 1 (.slice (some ⟨bn,0,none⟩) 0 20) 0 (bsv []) [(bn,cl (zeros [.int .u8 0] 20) 5)]:=
  .inr ⟨bn,20,zeros [.int .u8 0] 20,rfl,rfl,rfl,by simp [zeros_length],by omega,by simp [maxLen]⟩
 refine zn (X:=Nat × Value × Chunk) (fun x=>[(4,x.2.1),(13,.agg [w32 h'.a,w32 h'.b,w32 h'.c,w32 h'.d,w32 h'.e].toArray),(14,.int .i64 (x.1:Int))])
  (fun x=>x.2.2::[(p,cl (yT h blk t.length) 198)]::L)
  (fun x=>x.1≤5∧Ow 5 1 x.2.1 (4 * x.1) (bsv (wbs ((hbs h').take x.1))) x.2.2) (fun x=>5 - x.1) (0,_,_) ⟨Nat.zero_le _,ho⟩ iS (fun w h=>iH h) ?_
 intro x ⟨hx1,hx2⟩
 obtain ⟨k,v,C⟩:=x
 simp only at hx1 hx2 ⊢
 (repeat' first|refine kX ?_|refine kU fun bk=>?_|refine kV fun hc=>?_|refine kZ (fun hc=>?_) fun hc=>?_|fail)
 ·have hk:k < 5:=by omega
  obtain ⟨w,hw⟩:∃w,(hbs h')[k]? =some w:=⟨(hbs h')[k]'hk,List.getElem?_eq_getElem hk⟩
  have hwv:[w32 h'.a,w32 h'.b,w32 h'.c,w32 h'.d,w32 h'.e][k]? =some (w32 w):=zdI hw
  refine wP ?_ (he:=Ym rfl rfl rfl hwv hk)
  refine kX ?_
  refine cC rfl rfl (Qk _ w _ _ _ _ hx2 (by omega)) (fun v1 L' hp=>?_)
  obtain ⟨_,C1,rfl,rfl,ho1⟩:=hp
  refine kX ?_
  have e:wbs ((hbs h').take k)++wb w=wbs ((hbs h').take (k+1)):=by
   rw [List.take_add_one,hw,zgh];simp [wbs]
  rw [e] at ho1
  refine zf (X:=Nat × Value × Chunk) (μ:=fun x=>5 - x.1) (x:=(k,v,C)) (k+1,v1,C1) (by simp only;omega) ⟨by simp only;omega,ho1⟩ iS (fun w h=>h)
 ·have hk:k=5:=by omega
  subst hk
  skip
  refine kR ?_
  refine ⟨_,iC,C,rfl,?_⟩
  rw [zf7,←hch]
  exact hx2
theorem zp7 (t:List UInt8) (v:Value) (L:List Chunk) (hlen:t.length < 576460752303423488) (hv:SlC L 1 v t.length (bsv t)) :
 Gv Tryz.prog 56 [v].toArray L (fun r L'=>∃C,L'=C::L∧Ow 5 1 r 20 (bsv (zf7 t)) C):=by
 refine Gv.of_body Tryz.func56 rfl rfl ?_
 refine kX ?_
 refine cC rfl rfl (zkI L) (fun r L' hp=>?_)
 obtain ⟨p,rfl,rfl⟩:=hp
 refine kX ?_
 refine cC rfl rfl (zhI [] t h50 (List.replicate 64 0) v p L .new (by simp;omega) hv) (fun r L' hp=>?_)
 obtain ⟨rfl,h',blk',hi',rfl⟩:=hp
 rw [List.nil_append] at hi' ⊢
 refine kX ?_
 refine cC rfl rfl (zra t h' blk' p L hi' hlen) (fun r L' hp=>?_)
 obtain ⟨C,rfl,ho⟩:=hp
 refine kX ?_
 refine kR ?_
 exact ⟨C::L,iC,C,rfl,ho⟩
theorem Qe {L:List Chunk} {v:Value} {m k:Nat} {t:List UInt8} (h:Sl L 1 v m (bsv t)) (hk:k < m) :
 ∃bb off cap c T fr,v=.slice (some ⟨bb,off,none⟩) m cap∧Fnd L bb (.cells c T fr)∧c[off+k * 1]? =some (.int .u8 ((t.getD k 0).toNat:Int)):=by
 rcases h with ⟨c,rfl,rfl,h0⟩|⟨a,cap,rfl,hr,hl⟩
 ·omega
 ·have hlt:k < t.length:=by rw [zH] at hl;omega
  have hg:(bsv t)[k]? =some (.int .u8 ((t.getD k 0).toNat:Int)):=wW (by simp [List.getD,hlt])
  rcases hr with h0|⟨b,off,c,T,fr,rfl,h1,h2⟩
  ·rw [h0] at hg;simp at hg
  ·exact ⟨b,off,cap,c,T,fr,rfl,h1,by rw [Nat.mul_one];exact h2 _ _ hg⟩
theorem take_succ {α:Type} {t:List α} {k:Nat} (d:α) (h:k < t.length):t.take (k+1)=t.take k++[t.getD k d]:=by
 rw [List.take_add_one,List.getElem?_eq_getElem h]
 simp [List.getD,h]
omit [W0] in
def zmx (a:BitVec 32) (x:UInt8):BitVec 32:=(a+b2w x) % 65521#32
omit [W0] in
def uO (s:BitVec 32 × BitVec 32) (t:List UInt8):BitVec 32 × BitVec 32:=t.foldl (fun s x=>(zmx s.1 x,(s.2+zmx s.1 x) % 65521#32)) s
theorem zbQ (s:BitVec 32 × BitVec 32) (t:List UInt8) (x:UInt8):uO s (t++[x])=(zmx (uO s t).1 x,((uO s t).2+zmx (uO s t).1 x) % 65521#32):=by simp [uO]
omit [W0] in
def Ql (s:BitVec 32 × BitVec 32):BitVec 32:=s.2 <<< 16|||s.1
theorem zfK (L:List Chunk):Gv Tryz.prog 76 [].toArray L (fun r L'=>∃p,r=.pointer (some ⟨p,0,none⟩)∧L'=[(p,cl [w32 1#32,w32 0#32] 191)]::L):=by
 refine Gv.of_body Tryz.func76 rfl rfl ?_
 (refine kX ?_;refine kU fun bk=>?_;refine kX ?_)
 refine kH ?_
 exact ⟨[(bk,cl [w32 1#32,w32 0#32] 191)]::L,fun w h=>h,bk,rfl,rfl⟩
theorem zcJ (s:BitVec 32 × BitVec 32) (t:List UInt8) (v:Value) (p:Nat) (L:List Chunk) (hlen:t.length < 576460752303423488) (hv:SlC L 1 v t.length (bsv t)) :
 Gv Tryz.prog 77 [.pointer (some ⟨p,0,none⟩),v].toArray ([(p,cl [w32 s.1,w32 s.2] 191)]::L)
  (fun z L'=>z=.tuple #[]∧L'=[(p,cl [w32 (uO s t).1,w32 (uO s t).2] 191)]::L):=by
 refine Gv.of_body Tryz.func77 rfl rfl ?_
 obtain ⟨a,c,rfl,hmc⟩:=hv.room
 refine kX ?_
 refine zk [] mixed ?_
 (refine zy 0 ?_;refine zy 1 ?_;refine zy 2 ?_;refine zy 3 ?_;refine zy 4 ?_;refine zy 5 ?_;refine zy 6 ?_;refine zy 7 ?_;refine zy 8 ?_;refine zy 9 ?_)
 refine cD ?_
 refine kX ?_
 refine zn (X:=Nat) (fun k=>[(0,.pointer (some ⟨p,0,none⟩)),(4,w32 (uO s (t.take k)).1),(5,w32 (uO s (t.take k)).2),(16,.slice a t.length c),(17,.int .i64 (t.length:Int)),(18,.int .i64 (k:Int))])
  (fun k=>[(p,cl [w32 s.1,w32 s.2] 191)]::L) (fun k=>k≤t.length) (fun k=>t.length - k) 0 (Nat.zero_le _) iS (fun w h=>h) ?_
 intro k hk
 replace hk:k≤t.length:=hk
 (repeat' first|refine kX ?_|refine kU fun bk=>?_|refine kV fun hc=>?_|refine kZ (fun hc=>?_) fun hc=>?_|fail)
 ·have hlt:k < t.length:=by omega
  obtain ⟨bb,off,cap,cc,bT,bfr,hve,hfn,hcell⟩:=Qe hv.sl hlt
  injection hve with e1 e2 e3
  subst e1 e3
  clear e2
  refine kX ?_
  refine wP ?_ (he:=zq rfl hfn.there hcell)
  refine kX ?_
  refine zf (X:=Nat) (J:=fun k=>k≤t.length) (μ:=fun k=>t.length - k) (x:=k) (k+1) (by omega) (show k+1≤t.length by omega) ?_ (fun w h=>h)
  rw [take_succ 0 hlt,zbQ]
  exact iS
 ·have hk:k=t.length:=by omega
  subst hk
  rw [List.take_length]
  refine kR ?_
  exact ⟨_,iC,rfl,rfl⟩
theorem zcI (s:BitVec 32 × BitVec 32) (p:Nat) (L:List Chunk) (hf:Fnd L p (cl [w32 s.1,w32 s.2] 191)):GvP Tryz.prog 78 [.pointer (some ⟨p,0,none⟩)].toArray L (w32 (Ql s)):=by
 refine Gv.of_body Tryz.func78 rfl rfl ?_
 refine kX ?_
 refine zk [] mixed ?_
 (refine zy 0 ?_;refine zy 1 ?_;refine zy 2 ?_;refine zy 3 ?_;refine zy 4 ?_;refine zy 5 ?_;refine zy 6 ?_;refine zy 7 ?_;refine zy 8 ?_;refine zy 9 ?_;refine zy 10 ?_)
 refine cD ?_
 refine kX ?_
 exact kE
theorem zgs (t:List UInt8) (v:Value) (L:List Chunk) (hlen:t.length < 576460752303423488) (hv:SlC L 1 v t.length (bsv t)) :
 GvP Tryz.prog 47 [v].toArray L (w32 (Ql (uO (1#32,0#32) t))):=by
 refine Gv.of_body Tryz.func47 rfl rfl ?_
 refine kX ?_
 refine cC rfl rfl (zfK L) (fun r L' hp=>?_)
 obtain ⟨p,rfl,rfl⟩:=hp
 refine kX ?_
 refine cC rfl rfl (zcJ (1#32,0#32) t v p L hlen hv) (fun r L' hp=>?_)
 obtain ⟨rfl,rfl⟩:=hp
 refine kX ?_
 refine cP rfl rfl (zcI (uO (1#32,0#32) t) p _ Fnd.here) ?_
 refine kX ?_
 exact kE
omit [W0] in
def zqA:List UInt8:=[48,49,50,51,52,53,54,55,56,57,97,98,99,100,101,102]
omit [W0] in
def zjD:ByteArray:=⟨zqA.toArray⟩
omit [W0] in
def dig (i:Nat):UInt8:=zqA.getD i 0
theorem zcY {i:Nat} (h:i < 16):zjD[i]? =some (dig i):=by
 have:∀i:Fin 16,zjD[i.val]? =some (dig i.val):=by decide
 exact this ⟨i,h⟩
omit [W0] in
def zka (x:UInt8):List UInt8:=[dig (x.toNat / 16),dig (x.toNat % 16)]
omit [W0] in
def zab:List UInt8→List UInt8
 |[]=>[]
 |x::r=>zka x++zab r
theorem zei (a b:List UInt8):zab (a++b)=zab a++zab b:=by
 induction a with
 |nil=>rfl
 |cons x r ih=>simp [zab,ih]
theorem zqM (t:List UInt8) (v:Value) (L:List Chunk) (hlen:t.length≤35184372088832) (hv:SlC L 1 v t.length (bsv t)) :
 GvP Tryz.prog 55 [v].toArray L (.string ⟨(zab t).toArray⟩):=by
 refine Gv.of_body Tryz.func55 rfl rfl ?_
 obtain ⟨a,c,rfl,hmc⟩:=hv.room
 refine kX ?_
 refine zJ (m:=0) (c:=2 * t.length) rfl rfl (by rfl) (by omega) (by omega) (by omega) rfl (fun bn=>?_)
 refine kX ?_
 have ho:Ow 5 1 (.slice (some ⟨bn,0,none⟩) 0 (2 * t.length)) 0 (bsv []) [(bn,cl (zeros [.int .u8 0] (2 * t.length)) 5)]:=
  .inr ⟨bn,2 * t.length,zeros [.int .u8 0] (2 * t.length),rfl,rfl,rfl,by simp [zeros_length],by omega,by simp [maxLen];omega⟩
 refine zn (X:=Nat × Value × Chunk) (fun x=>[(3,x.2.1),(10,.slice a t.length c),(11,.int .i64 (t.length:Int)),(12,.int .i64 (x.1:Int))])
  (fun x=>x.2.2::L) (fun x=>x.1≤t.length∧Ow 5 1 x.2.1 (2 * x.1) (bsv (zab (t.take x.1))) x.2.2) (fun x=>t.length - x.1) (0,_,_) ⟨Nat.zero_le _,ho⟩ iS (fun w h=>h) ?_
 intro x ⟨hx1,hx2⟩
 obtain ⟨k,s,C⟩:=x
 simp only at hx1 hx2 ⊢
 (repeat' first|refine kX ?_|refine kU fun bk=>?_|refine kV fun hc=>?_|refine kZ (fun hc=>?_) fun hc=>?_|fail)
 ·have hlt:k < t.length:=by omega
  obtain ⟨bb,off,cap,cc,bT,bfr,hve,hfn,hcell⟩:=Qe hv.sl hlt
  injection hve with e1 e2 e3
  subst e1 e3
  clear e2
  obtain ⟨x,hx⟩:∃x,x=t.getD k 0:=⟨_,rfl⟩
  rw [←hx] at hcell
  have hxl:=x.toNat_lt
  refine kX ?_
  refine wP ?_ (he:=zq rfl hfn.there hcell)
  refine kX ?_
  refine zk [8,9] mixed ?_
  (refine zy 0 ?_;refine zy 1 ?_;refine zy 2 ?_)
  refine cT 3 rfl rfl (yK (s:=zjD) (j:=x.toNat / 16) rfl rfl (by omega) (zcY (by omega))) ?_
  (refine zy 4 ?_)
  refine cT 5 rfl rfl (zmi rfl rfl rfl) ?_
  refine cT 6 rfl rfl (yK (s:=zjD) (j:=x.toNat % 16) rfl rfl rfl (zcY (by omega))) ?_
  refine cI 7 rfl rfl ?_
  refine zl (cs:=bsv (zka x)) rfl (by rfl) (by simp [zA,patch,Value.cells,zeros];rfl) (by omega) rfl rfl (fun bk=>?_)
  refine ⟨iC,?_⟩
  refine cL 8 rfl rfl rfl ?_
  refine zu rfl rfl hx2 (zF (c:=(bsv (zka x)).toArray) (xs:=bsv (zka x)) (m:=2) Fnd.here rfl (by simp)) (by repeat (first|exact Zip.here _|apply Zip.there)) (by rfl) yj (by omega) (by simp [maxLen];omega) rfl (fun v' C' ho1 h1 h2=>?_)
  refine cL 9 rfl rfl rfl ?_
  refine wP ?_
  refine cD ?_
  refine kX ?_
  have e:zab (t.take (k+1))=zab (t.take k)++zka x:=by
   rw [take_succ 0 hlt,zei,←hx];simp [zab]
  rw [←yt,←e] at ho1
  refine zf (X:=Nat × Value × Chunk) (μ:=fun x=>t.length - x.1) (x:=(k,s,C)) (k+1,v',C') (by simp only;omega) ⟨by simp only;omega,ho1⟩ iS (fun w h=>iH h)
 ·have hk:k=t.length:=by omega
  subst hk
  rw [List.take_length] at hx2
  refine ze (qC (b:=zab t) rfl (qy hx2)) rfl ?_
  refine kX ?_
  refine kR ?_
  exact ⟨L,iC,rfl,rfl⟩
end Go.Proofs.YtfbfcapoobmdpaaGreatDoor
namespace Go.Vx
open Go
set_option linter.all false
variable [W0]
omit [W0] in
def zbC (fr:Nat × Nat) (n:Nat):Prop:=∀j,j < n→¬(fr.1≤j∧j < fr.2)
theorem zbC.zero (n:Nat):zbC (0,0) n:=fun j _ h=>by simp at h
theorem zbC.behind (n:Nat):zbC (n,n+1) n:=fun j hj h=>by simp at h;omega
omit [W0] in
def OwF (e k:Nat) (v:Value) (m:Nat) (xs:List Value) (C:Chunk):Prop:=
 ∃b cap rest fr,v=.slice (some ⟨b,0,none⟩) m cap∧C=[(b,.cells (xs++rest).toArray e fr)]∧xs.length=m * k∧rest.length=(cap - m) * k∧m≤cap∧cap≤maxLen∧zbC fr (xs++rest).length
theorem zpR {e k m:Nat} {v:Value} {xs:List Value} {C:Chunk} {L:List Chunk} (h:OwF e k v m xs C):Sl (C::L) k v m xs:=by
 obtain ⟨b,cap,rest,fr,rfl,rfl,hxl,hrl,hmc,hcm,hfr⟩:=h
 exact .inr ⟨_,_,rfl,.inr ⟨b,0,_,_,_,rfl,.here,fun j u hj=>by rw [Nat.zero_add];simpa using z8 hj⟩,hxl⟩
theorem setCells_at {b:Nat} {T:TypeId} {fr:Nat × Nat}:∀(vs:List Value) (off:Nat) (c:Array Value) (w:World),w.heap[b]? =some (.cells c T fr)→off+vs.length≤c.size→
 (w.setCells b off vs).heap[b]? =some (.cells (patch c.toList off vs).toArray T fr)
 |[],off,c,w,h,_=>by simpa [World.setCells,patch] using h
 |v::r,off,c,w,h,hf=>by
  simp only [List.length_cons] at hf
  have h1:=setCell_at (off:=off) (v:=v) h
  have h2:=setCells_at r (off+1) _ _ h1 (by simp;omega)
  rw [World.setCells,h2]
  congr 2
  have e:=list_seg_step c.toList off v r (by simp;omega)
  simpa [patch,Array.toList_setIfInBounds,Nat.add_assoc,Nat.add_comm 1] using e
theorem YF {b:Nat}:∀(vs:List Value) (off:Nat) (w:World) (c:Nat),c≠b→(w.setCells b off vs).heap[c]? =w.heap[c]?
 |[],_,_,_,_=>rfl
 |v::r,off,w,c,h=>by
  rw [World.setCells,YF r _ _ _ h,zbm h]
theorem vM {b:Nat}:∀(vs:List Value) (off:Nat) (w:World),(w.setCells b off vs).os=w.os∧(w.setCells b off vs).output=w.output
 |[],_,_=>⟨rfl,rfl⟩
 |v::r,off,w=>by rw [World.setCells];exact vM r _ _
section
variable {P : Program} {n : Nat} {M : List (Nat × Value)} {L : List Chunk} {K : List (Nat × Value) → List Chunk → Prop}
variable {d : Nat} {ty : TypeId} {ps : String} {af : Array Edge} {g : Option (Nat × Bool)} {x y : Operand} {v : Value}
theorem zdZ {s:ByteArray} {cap:Nat}:bytesRow s cap=(bsv s.data.toList++List.replicate (cap - s.size) (Value.int .u8 0)).toArray:=by
 apply Array.ext'
 simp [bytesRow,bsv]
theorem zcz {s t e by_:Nat} [hs:ST P s] [ht:SL P t e 1 by_] [he:IK P e .u8] {str:ByteArray} (hx:ev M x=some (.string str)) (hm:str.size≤maxLen) (hn:Nat.blt d n=true)
 (h:∀v C,OwF e 1 v str.size (bsv str.data.toList) C→K ((d,v)::M) (C::L)):OW P n ⟨some d,.convert s t x,ty,ps,af,g⟩ K M L:=⟨fun a w next Q ha hw hk=>by
 have hr:=run_bytes_of_string (P:=P) w s t e str hs.out (Qz ht.out) he.out
 have hrun:(execOp a.eval ⟨some d,.convert s t x,ty,ps,af,g⟩).run P w=.ok (.value (.slice (some ⟨w.heap.size,0,none⟩) str.size (grownCap w str.size 0 e)))
  (w.drew.alloc (.cells (bytesRow str (grownCap w str.size 0 e)) e ((bytesRow str (grownCap w str.size 0 e)).size,(bytesRow str (grownCap w str.size 0 e)).size+1))):=by
  simp only [execOp,Sem.run_bind,ha.eval hx,hr,Result.andThen_ok,Sem.run_pure]
 unfold Oper.wp
 rw [hrun,Oper.upon_value]
 have hH:=(hw.same (w':=w.drew) rfl rfl rfl).alloc (.cells (bytesRow str (grownCap w str.size 0 e)) e ((bytesRow str (grownCap w str.size 0 e)).size,(bytesRow str (grownCap w str.size 0 e)).size+1))
 rw [zdZ] at hH ⊢
 have hge:=grownCap_ge w str.size 0 e
 refine (hk _ _ (h _ _ ⟨w.heap.size,grownCap w str.size 0 e,List.replicate (grownCap w str.size 0 e - str.size) (Value.int .u8 0),(_,_),rfl,rfl,?_,by simp,hge,grownCap_le_maxLen w str.size 0 e hm,?_⟩)).out _ _ (ha.put _ hn) hH
 ·rw [zH,Nat.mul_one];rfl
 ·simp only [List.size_toArray]
  exact zbC.behind _⟩
theorem zfb {t e k by_:Nat} [hs:SL P t e k by_] {z:Value} [hz:ZV P e z] {v r:Value} {m c:Nat} {xs ys:List Value} {C:Chunk} {A B:List Chunk} (hx:ev M x=some v) (hy:ev M y=some r) (hown:OwF e k v m xs C)
 (hsl:Sl L k r c ys) (hzip:Zip C L A B) (hzk:z.cells.size=k) (h1:ones ys=true) (hb:(m+c) * by_≤140737488355328) (h63:m+c≤maxLen)
 (hn:Nat.blt d n=true) (h:∀v' C',OwF e k v' (m+c) (xs++ys) C'→K ((d,v')::M) (A++C'::B)) :
 OW P n ⟨some d,.call ⟨.builtin .append,#[x,y],#[t,t]⟩,ty,ps,af,g⟩ K M L:=⟨fun a w next Q ha hw0 hk=>by
 have hL:=hzip.eq
 subst hL
 have hw:=hw0.perm List.perm_middle
 replace hsl:=hsl.perm (List.perm_middle (a:=C) (l₁:=A) (l₂:=B))
 obtain ⟨ht,i,hi,hik,hib,hk0⟩:=hs.parts
 have hzz:i.zero=some z:=by have:=hz.out;rw [hi] at this;simpa using this
 subst hik hib
 have hsmall:m+c≤9223372036854775807:=by simpa [maxLen] using h63
 obtain ⟨b,cap,rest,fr,rfl,rfl,hxl,hrl,hmc,hcm,hfr⟩:=hown
 have main:∃v' C' w',(Builtin.append_ #[t,t] ty #[.slice (some ⟨b,0,none⟩) m cap,r]).run P w=.ok v' w'∧OwF e i.size v' (m+c) (xs++ys) C'∧Holds w' (C'::(A++B)):=by
  have hfnd:w.heap[b]? =some (.cells (xs++rest).toArray e fr):=(Fnd.here:Fnd ([(b,.cells (xs++rest).toArray e fr)]::(A++B)) b _).get hw
  rcases hsl with ⟨c',rfl,rfl,rfl⟩|⟨a',c',rfl,hrd,hyl⟩
  ·refine ⟨.slice (some ⟨b,0,none⟩) m cap,_,w,?_,⟨b,cap,rest,fr,by simp,rfl,by simpa using hxl,by simpa using hrl,by simpa using hmc,hcm,by simpa using hfr⟩,by simpa using hw⟩
   simp [Builtin.append_,run_underlying ht,sizeOf,typeInfo,hi,Builtin.lenOf,Builtin.firstCells,hmc,storeCells]
  ·by_cases hroom:m+c≤cap
   ·have hlen:m * i.size+ys.length≤(xs++rest).length:=by
     simp only [List.length_append,hxl,hrl,hyl,←Nat.add_mul]
     exact Nat.mul_le_mul_right _ (by omega)
    have hr:=run_append_room_cells (P:=P) (w:=w) t ty e i ht hi b 0 m cap a' c c' ys hyl (hrd.cells hw) (X9 h1) hroom
     (fun j hj=>by rw [cell_of hfnd];simp;simp at hlen;omega)
     (fun j hj=>by
       have:=hfr (0+m * i.size+j) (by omega)
       simp only [World.frozen?,hfnd]
       cases hd:(decide (fr.1≤0+m * i.size+j)&&decide (0+m * i.size+j < fr.2)) with
       |false=>rfl
       |true=>simp at hd;exact absurd (by simpa using hd) this)
    rw [Nat.zero_add] at hr
    have hx1:patch (xs++rest).toArray.toList (m * i.size) ys=(xs++ys)++rest.drop ys.length:=by
     simp only [List.toList_toArray,patch]
     rw [←hxl,List.take_left]
     congr 1
     rw [List.drop_append]
     simp
    have hat:=setCells_at (T:=e) (fr:=fr) ys (m * i.size) _ w hfnd (by simpa using hlen)
    rw [hx1] at hat
    refine ⟨_,[(b,.cells ((xs++ys)++rest.drop ys.length).toArray e fr)],_,hr,⟨b,cap,rest.drop ys.length,fr,rfl,rfl,?_,?_,hroom,hcm,?_⟩,?_⟩
    ·rw [List.length_append,hxl,hyl,Nat.add_mul]
    ·rw [List.length_drop,hrl,hyl,←Nat.sub_mul];congr 1;omega
    ·intro j hj
     refine hfr j ?_
     simp at hj hlen ⊢
     omega
    ·exact hw.upd .here hat (fun q hq=>YF _ _ _ _ hq) (vM _ _ _).1 (vM _ _ _).2
   ·have hrd0:zK ([(b,.cells (xs++rest).toArray e fr)]::(A++B)) ⟨b,0,none⟩ xs:=.inr ⟨b,0,_,_,_,rfl,.here,fun j u hj=>by rw [Nat.zero_add];simpa using z8 hj⟩
    have hr:=run_append_grow (P:=P) w t ty e i z ht hi hzz ⟨b,0,none⟩ m cap xs hxl (hrd0.cells hw) a' c c' ys hyl (hrd.cells hw) (by omega) (by omega) (growslice_fits (by omega) hb)
    refine ⟨_,[(w.heap.size,.cells ((xs++ys)++(Builtin.zeroCells z.cells (grownCap w (m+c) cap e - (m+c))).toList).toArray e (0,0))],_,hr,⟨w.heap.size,_,_,(0,0),rfl,rfl,?_,?_,grownCap_ge w (m+c) cap e,grownCap_le_maxLen w (m+c) cap e h63,zbC.zero _⟩,?_⟩
    ·rw [List.length_append,hxl,hyl,Nat.add_mul]
    ·simp [size_zeroCells,hzk]
    ·have h0:=(hw.drop.same (w':=w.drew) rfl rfl rfl).alloc (.cells (xs.toArray++ys.toArray++Builtin.zeroCells z.cells (grownCap w (m+c) cap e - (m+c))) e)
     have e1:(xs++ys++(Builtin.zeroCells z.cells (grownCap w (m+c) cap e - (m+c))).toList).toArray=xs.toArray++ys.toArray++Builtin.zeroCells z.cells (grownCap w (m+c) cap e - (m+c)):=by
      apply Array.ext';simp
     rw [e1];exact h0
 obtain ⟨v',C',w',hr,ho,hw'⟩:=main
 unfold Oper.wp
 have hrun:(execOp a.eval ⟨some d,.call ⟨.builtin .append,#[x,y],#[t,t]⟩,ty,ps,af,g⟩).run P w=.ok (.value v') w':=by
  simp only [execOp,resolve,invoke,builtin,Sem.run_bind,Sem.run_pure,Result.andThen_ok,List.map_toArray,List.map_cons,List.map_nil,ha.eval hx,ha.eval hy,hr]
 rw [hrun,Oper.upon_value]
 exact (hk _ _ (h v' C' ho)).out _ _ (ha.put v' hn) (hw'.perm List.perm_middle.symm)⟩
end
end Go.Vx
namespace Go.Proofs.YtfbfcapoobmdpaaGreatDoor
open Go Go.Vx
variable [W0]
set_option maxRecDepth 4000
set_option linter.all false
omit [W0] in
def str (t:List UInt8):ByteArray:=⟨t.toArray⟩
theorem yD (t:List UInt8):(str t).size=t.length:=rfl
theorem Yc {t:List UInt8} {k:Nat} (h:k < t.length):(str t)[k]? =some (t.getD k 0):=by
 show (str t).data[k]? =_
 simp [str,List.getD,h]
theorem zeV (t:List UInt8):(str t).data.toList=t:=rfl
theorem zfY (t:List UInt8) (L:List Chunk) (hlen:t.length < 576460752303423488) :
 GvP Tryz.prog 66 [.string (str t)].toArray L (w32 (Ql (uO (1#32,0#32) t))):=by
 refine Gv.of_body Tryz.func66 rfl rfl ?_
 refine kX ?_
 refine zn (X:=Nat) (fun k=>[(0,.string (str t)),(3,w32 (uO (1#32,0#32) (t.take k)).1),(4,w32 (uO (1#32,0#32) (t.take k)).2),(5,.int .i64 (k:Int))])
  (fun k=>L) (fun k=>k≤t.length) (fun k=>t.length - k) 0 (Nat.zero_le _) iS (fun w h=>h) ?_
 intro k hk
 replace hk:k≤t.length:=hk
 (repeat' first|refine kX ?_|refine kU fun bk=>?_|refine kV fun hc=>?_|refine kZ (fun hc=>?_) fun hc=>?_|fail)
 ·rw [yD] at hc
  have hlt:k < t.length:=by omega
  refine ze (yK (s:=str t) rfl rfl rfl (Yc hlt)) rfl ?_
  refine kX ?_
  refine zf (X:=Nat) (J:=fun k=>k≤t.length) (μ:=fun k=>t.length - k) (x:=k) (k+1) (by omega) (show k+1≤t.length by omega) ?_ (fun w h=>h)
  rw [take_succ 0 hlt,zbQ]
  exact iS
 ·rw [yD] at hc
  have hk:k=t.length:=by omega
  subst hk
  rw [List.take_length]
  refine kR ?_
  exact ⟨L,iC,rfl,rfl⟩
omit [W0] in
def dv (d:UInt8):Int:=if 48≤d.toNat∧d.toNat≤57 then (d.toNat:Int) - 48 else if 97≤d.toNat∧d.toNat≤102 then (d.toNat:Int) - 87 else -1
theorem zb4 (d:UInt8):dv d < 16:=by
 unfold dv;split
 ·omega
 ·split<;>omega
theorem zpl {i:Nat} (h:i < 16):dv (dig i)=(i:Int):=by
 have:∀i:Fin 16,dv (dig i.val)=(i.val:Int):=by decide
 exact this ⟨i,h⟩
theorem zm2 (d:UInt8) (h:∀j,j < 16→dig j≠d):dv d= -1:=by
 have:∀n:Fin 256,(∀j:Fin 16,dig j.val≠UInt8.ofNat n.val)→dv (UInt8.ofNat n.val)= -1:=by decide+kernel
 have h2:=this ⟨d.toNat,d.toNat_lt⟩
 simp only [UInt8.ofNat_toNat] at h2
 exact h2 fun j=>h j.val j.isLt
omit [W0] in
def Yw (d:UInt8):Value:=if 0≤dv d then .tuple #[.int .u8 (dv d),.bool true] else .tuple #[.int .u8 0,.bool false]
theorem zfw (d:UInt8) (L:List Chunk):GvP Tryz.prog 86 [.int .u8 (d.toNat:Int)].toArray L (Yw d):=by
 refine Gv.of_body Tryz.func86 rfl rfl ?_
 have hd:=d.toNat_lt
 (repeat' first|refine kX ?_|refine kU fun bk=>?_|refine kV fun hc=>?_|refine kZ (fun hc=>?_) fun hc=>?_|fail)
 ·refine ze (qj rfl rfl rfl) rfl ?_
  have e:dv d=(d.toNat:Int) - 48:=by unfold dv;rw [if_pos (by omega)]
  have h0:Yw d=.tuple #[.int .u8 ((d.toNat:Int) - 48),.bool true]:=by unfold Yw;rw [if_pos (by omega),e]
  rw [wrap_u8,show (((d.toNat:Int) - 48) % 256).toNat=(d.toNat - 48:Nat) from by omega,h0]
  refine kX ?_
  refine kR ?_
  refine ⟨L,iC,?_,rfl⟩
  rw [show ((d.toNat - 48:Nat):Int)=(d.toNat:Int) - 48 from by omega]
  rfl
 ·refine ze (qj rfl rfl rfl) rfl ?_
  have e:dv d=(d.toNat:Int) - 87:=by unfold dv;rw [if_neg (by omega),if_pos (by omega)]
  have h0:Yw d=.tuple #[.int .u8 ((d.toNat:Int) - 87),.bool true]:=by unfold Yw;rw [if_pos (by omega),e]
  rw [wrap_u8,show (((d.toNat:Int) - 97) % 256).toNat=(d.toNat - 97:Nat) from by omega,h0]
  refine kX ?_
  refine ze (qj rfl rfl rfl) rfl ?_
  rw [wrap_u8,show ((((d.toNat - 97:Nat):Int)+10) % 256).toNat=(d.toNat - 87:Nat) from by omega]
  refine kX ?_
  refine kR ?_
  refine ⟨L,iC,?_,rfl⟩
  rw [show ((d.toNat - 87:Nat):Int)=(d.toNat:Int) - 87 from by omega]
  rfl
 all_goals
  have e:dv d= -1:=by unfold dv;rw [if_neg (by omega),if_neg (by omega)]
  have h0:Yw d=.tuple #[.int .u8 0,.bool false]:=by unfold Yw;rw [if_neg (by omega)]
  rw [h0]
  refine kR ?_
  exact ⟨L,iC,rfl,rfl⟩
theorem zgG (d:UInt8) (L:List Chunk):GvP Tryz.prog 67 [.int .u8 (d.toNat:Int)].toArray L (.int .i64 (dv d)):=by
 refine Gv.of_body Tryz.func67 rfl rfl ?_
 refine kX ?_
 refine zn (X:=Nat) (fun k=>[(0,.int .u8 (d.toNat:Int)),(3,.int .i64 (k:Int))]) (fun k=>L) (fun k=>k≤16∧∀j,j < k→dig j≠d) (fun k=>16 - k) 0 ⟨Nat.zero_le _,fun j h=>by omega⟩ iS (fun w h=>h) ?_
 intro k ⟨hk,hall⟩
 (repeat' first|refine kX ?_|refine kU fun bk=>?_|refine kV fun hc=>?_|refine kZ (fun hc=>?_) fun hc=>?_|fail)
 ·have hlt:k < 16:=by omega
  refine ze (yK (s:=zjD) (j:=k) rfl rfl rfl (zcY hlt)) rfl ?_
  (repeat' first|refine kX ?_|refine kU fun bk=>?_|refine kV fun hc=>?_|refine kZ (fun hc=>?_) fun hc=>?_|fail)
  ·have he:dig k=d:=by
    apply UInt8.toNat_inj.1
    omega
   refine kR ?_
   refine ⟨L,iC,?_,rfl⟩
   rw [←he,zpl hlt]
   rfl
  ·have hne:dig k≠d:=fun he=>hc (by rw [he])
   refine zf (X:=Nat) (J:=fun k=>k≤16∧∀j,j < k→dig j≠d) (μ:=fun k=>16 - k) (x:=k) (k+1) (by omega) ⟨by omega,fun j hj=>?_⟩ iS (fun w h=>h)
   rcases Nat.lt_or_ge j k with h'|h'
   ·exact hall j h'
   ·rw [show j=k from by omega];exact hne
 ·have hk2:k=16:=by omega
  subst hk2
  refine kR ?_
  refine ⟨L,iC,?_,rfl⟩
  rw [zm2 d hall]
  rfl
omit [W0] in
def Qv (t:List UInt8) (i:Nat):Bool:=decide (0≤dv (t.getD (2 * i) 0))&&decide (0≤dv (t.getD (2 * i+1) 0))
omit [W0] in
def Q8 (t:List UInt8) (i:Nat):UInt8:=UInt8.ofNat (16 * (dv (t.getD (2 * i) 0)).toNat+(dv (t.getD (2 * i+1) 0)).toNat)
omit [W0] in
def zac (t:List UInt8) (k:Nat):List UInt8:=(List.range k).map (Q8 t)
theorem Yz (t:List UInt8) (k:Nat):(zac t k).length=k:=by simp [zac]
theorem zcj (t:List UInt8) (k:Nat):zac t (k+1)=zac t k++[Q8 t k]:=by simp [zac,List.range_succ]
omit [W0] in
def unB (t:List UInt8):Bool:=decide (t.length % 2=0)&&(List.range (t.length / 2)).all (Qv t)
omit [W0] in
def unL (t:List UInt8):List UInt8:=if unB t then zac t (t.length / 2) else []
theorem zdD {t:List UInt8} (h:t.length % 2≠0):unB t=false:=by simp [unB,h]
theorem zaw {t:List UInt8} {i:Nat} (h:i < t.length / 2) (hk:Qv t i=false):unB t=false:=by
 simp only [unB,Bool.and_eq_false_iff]
 refine .inr ?_
 rw [List.all_eq_false]
 exact ⟨i,List.mem_range.2 h,by simp [hk]⟩
theorem ze3 {t:List UInt8} (h:t.length % 2=0) (hk:∀i,i < t.length / 2→Qv t i=true):unB t=true:=by
 simp only [unB,h,decide_true,Bool.true_and,List.all_eq_true]
 exact fun i hi=>hk i (List.mem_range.1 hi)
theorem zcc {d:UInt8} (h:0≤dv d):Yw d=.tuple #[.int .u8 (dv d),.bool true]:=if_pos h
theorem zef {d:UInt8} (h:¬0≤dv d):Yw d=.tuple #[.int .u8 0,.bool false]:=if_neg h
theorem zdW {t:List UInt8} {i:Nat} (h1:0≤dv (t.getD (2 * i) 0)) (h2:0≤dv (t.getD (2 * i+1) 0)):((Q8 t i).toNat:Int)=16 * dv (t.getD (2 * i) 0)+dv (t.getD (2 * i+1) 0):=by
 have a1:=zb4 (t.getD (2 * i) 0)
 have a2:=zb4 (t.getD (2 * i+1) 0)
 simp only [Q8,UInt8.toNat_ofNat']
 omega
theorem halves {a b:Nat} (ha:a < 16) (hb:b < 16):zcM .or .u8 (IntKind.u8.wrap ((a:Int) * 2 ^ (min ((4:Int)).toNat IntKind.u8.bits))) (b:Int)=some ((16 * a+b:Nat):Int):=by
 have:∀a b:Fin 16,zcM .or .u8 (IntKind.u8.wrap ((a.val:Int) * 2 ^ (min ((4:Int)).toNat IntKind.u8.bits))) (b.val:Int)=some ((16 * a.val+b.val:Nat):Int):=by decide+kernel
 exact this ⟨a,ha⟩ ⟨b,hb⟩
theorem zoc (t:List UInt8) (L:List Chunk) (hlen:t.length≤70368744177664) :
 Gv Tryz.prog 53 [.string (str t)].toArray L (fun r L'=>∃v C,r=.tuple #[v,.bool (unB t)]∧L'=C::L∧Ow 5 1 v (unL t).length (bsv (unL t)) C):=by
 refine Gv.of_body Tryz.func53 rfl rfl ?_
 have hno:unB t=false→Ow 5 1 (.slice none 0 0) (unL t).length (bsv (unL t)) []:=fun h=>by
  unfold unL;rw [h];exact .inl ⟨rfl,rfl,rfl,rfl⟩
 refine kX ?_
 refine ze (Xm rfl rfl (by decide)) rfl ?_
 rw [show (((str t).size:Nat):Int).tmod 2=((t.length % 2:Nat):Int) from by rw [yD,Int.tmod_eq_emod_of_nonneg (by omega)];omega]
 (repeat' first|refine kX ?_|refine kU fun bk=>?_|refine kV fun hc=>?_|refine kZ (fun hc=>?_) fun hc=>?_|fail)
 ·have hb:=zdD (t:=t) (by omega)
  refine Zd (L':=[]::L) (fun w h=>Holds.nil.2 h) ?_
  refine kR ?_
  exact ⟨[]::L,iC,.slice none 0 0,[],by rw [hb];rfl,rfl,hno hb⟩
 ·have hev:t.length % 2=0:=by omega
  refine ze (ziC rfl rfl (by decide)) rfl ?_
  rw [show IntKind.i64.wrap ((((str t).size:Nat):Int).tdiv 2)=((t.length / 2:Nat):Int) from by
   rw [yD,Int.tdiv_eq_ediv_of_nonneg (by omega),wrap_i64 (by omega) (by omega)];omega]
  refine kX ?_
  refine zJ (m:=0) rfl rfl (by rfl) (by omega) (by omega) (by omega) rfl (fun bn=>?_)
  refine kX ?_
  have ho:Ow 5 1 (.slice (some ⟨bn,0,none⟩) 0 (t.length / 2)) 0 (bsv (zac t 0)) [(bn,cl (zeros [.int .u8 0] (t.length / 2)) 5)]:=
   .inr ⟨bn,t.length / 2,zeros [.int .u8 0] (t.length / 2),rfl,rfl,rfl,by simp [zeros_length],by omega,by simp [maxLen];omega⟩
  refine zn (X:=Nat × Value × Chunk) (fun x=>[(0,.string (str t)),(4,x.2.1),(5,.int .i64 ((2 * x.1:Nat):Int))])
   (fun x=>x.2.2::L) (fun x=>2 * x.1≤t.length∧(∀i,i < x.1→Qv t i=true)∧Ow 5 1 x.2.1 x.1 (bsv (zac t x.1)) x.2.2) (fun x=>t.length - x.1) (0,_,_) ⟨Nat.zero_le _,fun i h=>by omega,ho⟩ iS (fun w h=>h) ?_
  intro x ⟨hx1,hx2,hx3⟩
  obtain ⟨k,s,C⟩:=x
  simp only at hx1 hx2 hx3 ⊢
  (repeat' first|refine kX ?_|refine kU fun bk=>?_|refine kV fun hc=>?_|refine kZ (fun hc=>?_) fun hc=>?_|fail)
  ·rw [yD] at hc
   have h0:2 * k+1 < t.length:=by omega
   obtain ⟨a,haq⟩:∃a,a=t.getD (2 * k) 0:=⟨_,rfl⟩
   obtain ⟨b,hbq⟩:∃b,b=t.getD (2 * k+1) 0:=⟨_,rfl⟩
   have hal:=zb4 a
   have hbl:=zb4 b
   refine ze (yK (s:=str t) (j:=2 * k) rfl rfl rfl (Yc (by omega))) rfl ?_
   rw [←haq]
   refine kX ?_
   refine cP rfl rfl (zfw a _) ?_
   by_cases ha:0≤dv a
   ·rw [zcc ha]
    refine kX ?_
    refine ze (yK (s:=str t) (j:=2 * k+1) rfl rfl (by omega) (Yc h0)) rfl ?_
    rw [←hbq]
    refine kX ?_
    refine cP rfl rfl (zfw b _) ?_
    by_cases hb:0≤dv b
    ·rw [zcc hb]
     have hok:Qv t k=true:=by unfold Qv;rw [←haq,←hbq];simp [ha,hb]
     have hby:=zdW (t:=t) (i:=k) (by rw [←haq];exact ha) (by rw [←hbq];exact hb)
     rw [←haq,←hbq] at hby
     refine kX ?_
     refine ze (zfa rfl rfl (by omega) rfl) rfl ?_
     refine kX ?_
     have hh:zcM .or .u8 (IntKind.u8.wrap (dv a * 2 ^ (min ((4:Int)).toNat IntKind.u8.bits))) (dv b)=some ((Q8 t k).toNat:Int):=by
      have:=halves (a:=(dv a).toNat) (b:=(dv b).toNat) (by omega) (by omega)
      rw [Int.toNat_of_nonneg ha,Int.toNat_of_nonneg hb] at this
      rw [this]
      congr 1
      omega
     refine ze (wZ rfl rfl hh) rfl ?_
     refine kX ?_
     refine zl (cs:=bsv [Q8 t k]) rfl (by rfl) (by simp [zA,patch,Value.cells,zeros];rfl) (by omega) rfl rfl (fun bk=>?_)
     refine kX ?_
     refine zu rfl rfl hx3 (zF (c:=(bsv [Q8 t k]).toArray) (xs:=bsv [Q8 t k]) (m:=1) Fnd.here rfl (by simp)) (by repeat (first|exact Zip.here _|apply Zip.there)) (by rfl) yj (by omega) (by simp [maxLen];omega) rfl (fun v' C' ho1 h1 h2=>?_)
     rw [←yt,←zcj] at ho1
     refine kX ?_
     refine zf (X:=Nat × Value × Chunk) (μ:=fun x=>t.length - x.1) (x:=(k,s,C)) (k+1,v',C') (by simp only;omega)
      ⟨by simp only;omega,fun i hi=>?_,ho1⟩ iS (fun w h=>iH h)
     rcases Nat.lt_or_ge i k with h'|h'
     ·exact hx2 i h'
     ·rw [show i=k from by simp only at hi;omega];exact hok
    ·rw [zef hb]
     have hbad:=zaw (t:=t) (i:=k) (by omega) (by unfold Qv;rw [←haq,←hbq,decide_eq_false hb];simp)
     refine kX ?_
     refine Zd (L':=[]::L) (fun w h=>Holds.nil.2 h.drop) ?_
     refine kR ?_
     exact ⟨[]::L,iC,.slice none 0 0,[],by rw [hbad];rfl,rfl,hno hbad⟩
   ·rw [zef ha]
    refine kX ?_
    refine ze (yK (s:=str t) (j:=2 * k+1) rfl rfl (by omega) (Yc h0)) rfl ?_
    rw [←hbq]
    refine kX ?_
    refine cP rfl rfl (zfw b _) ?_
    have hx:∃x y,Yw b=.tuple #[.int .u8 x,.bool y]:=by
     unfold Yw;split<;>exact ⟨_,_,rfl⟩
    obtain ⟨x,y,hxy⟩:=hx
    rw [hxy]
    have hbad:=zaw (t:=t) (i:=k) (by omega) (by unfold Qv;rw [←haq,←hbq,decide_eq_false ha];simp)
    refine kX ?_
    refine Zd (L':=[]::L) (fun w h=>Holds.nil.2 h.drop) ?_
    refine kR ?_
    exact ⟨[]::L,iC,.slice none 0 0,[],by rw [hbad];rfl,rfl,hno hbad⟩
  ·rw [yD] at hc
   have hk:k=t.length / 2:=by omega
   have hb:unB t=true:=ze3 hev fun i hi=>hx2 i (by omega)
   have hl:unL t=zac t k:=by unfold unL;rw [hb,hk];rfl
   refine kR ?_
   refine ⟨C::L,iC,s,C,by rw [hb];rfl,rfl,?_⟩
   rw [hl,Yz]
   exact hx3
theorem zf1 (t:List UInt8) (L:List Chunk) (hlen:t.length≤140737488355328) :
 Gv Tryz.prog 35 [.string (str t)].toArray L (fun r L'=>∃v C,r=.tuple #[v,.bool (unB t)]∧L'=C::L∧Ow 5 1 v (unL t).length (bsv (unL t)) C):=by
 refine Gv.of_body Tryz.func35 rfl rfl ?_
 have hno:unB t=false→Ow 5 1 (.slice none 0 0) (unL t).length (bsv (unL t)) []:=fun h=>by
  unfold unL;rw [h];exact .inl ⟨rfl,rfl,rfl,rfl⟩
 refine kX ?_
 refine ze (Xm rfl rfl (by decide)) rfl ?_
 rw [show (((str t).size:Nat):Int).tmod 2=((t.length % 2:Nat):Int) from by rw [yD,Int.tmod_eq_emod_of_nonneg (by omega)];omega]
 (repeat' first|refine kX ?_|refine kU fun bk=>?_|refine kV fun hc=>?_|refine kZ (fun hc=>?_) fun hc=>?_|fail)
 ·have hb:=zdD (t:=t) (by omega)
  refine Zd (L':=[]::L) (fun w h=>Holds.nil.2 h) ?_
  refine kR ?_
  exact ⟨[]::L,iC,.slice none 0 0,[],by rw [hb];rfl,rfl,hno hb⟩
 ·have hev:t.length % 2=0:=by omega
  apply zl (parts:=[]) rfl (by rfl) (by simp [zA];rfl) (by omega) rfl rfl (fun bn=>?_)
  refine kX ?_
  have ho:Ow 5 1 (.slice (some ⟨bn,0,none⟩) 0 0) 0 (bsv (zac t 0)) [(bn,cl [] 5)]:=
   .inr ⟨bn,0,[],rfl,rfl,rfl,rfl,Nat.le_refl _,by simp [maxLen]⟩
  refine zn (X:=Nat × Value × Chunk) (fun x=>[(0,.string (str t)),(4,x.2.1),(5,.int .i64 ((2 * x.1:Nat):Int))])
   (fun x=>x.2.2::L) (fun x=>2 * x.1≤t.length∧(∀i,i < x.1→Qv t i=true)∧Ow 5 1 x.2.1 x.1 (bsv (zac t x.1)) x.2.2) (fun x=>t.length - x.1) (0,_,_) ⟨Nat.zero_le _,fun i h=>by omega,ho⟩ iS (fun w h=>h) ?_
  intro x ⟨hx1,hx2,hx3⟩
  obtain ⟨k,s,C⟩:=x
  simp only at hx1 hx2 hx3 ⊢
  (repeat' first|refine kX ?_|refine kU fun bk=>?_|refine kV fun hc=>?_|refine kZ (fun hc=>?_) fun hc=>?_|fail)
  ·rw [yD] at hc
   have h0:2 * k+1 < t.length:=by omega
   obtain ⟨a,haq⟩:∃a,a=t.getD (2 * k) 0:=⟨_,rfl⟩
   obtain ⟨b,hbq⟩:∃b,b=t.getD (2 * k+1) 0:=⟨_,rfl⟩
   have hal:=zb4 a
   have hbl:=zb4 b
   have hal0: -1≤dv a:=by unfold dv;split;omega;split<;>omega
   have hbl0: -1≤dv b:=by unfold dv;split;omega;split<;>omega
   refine ze (yK (s:=str t) (j:=2 * k) rfl rfl rfl (Yc (by omega))) rfl ?_
   rw [←haq]
   refine kX ?_
   refine cP rfl rfl (zgG a _) ?_
   refine kX ?_
   refine ze (yK (s:=str t) (j:=2 * k+1) rfl rfl (by omega) (Yc h0)) rfl ?_
   rw [←hbq]
   refine kX ?_
   refine cP rfl rfl (zgG b _) ?_
   (repeat' first|refine kX ?_|refine kU fun bk=>?_|refine kV fun hc=>?_|refine kZ (fun hc=>?_) fun hc=>?_|fail)
   ·have hbad:=zaw (t:=t) (i:=k) (by omega) (by unfold Qv;rw [←haq,←hbq,decide_eq_false (by omega)];simp)
    refine Zd (L':=[]::L) (fun w h=>Holds.nil.2 h.drop) ?_
    refine kR ?_
    exact ⟨[]::L,iC,.slice none 0 0,[],by rw [hbad];rfl,rfl,hno hbad⟩
   ·have hbad:=zaw (t:=t) (i:=k) (by omega) (by unfold Qv;rw [←haq,←hbq,decide_eq_false (p:=0≤dv b) (by omega)];simp)
    refine Zd (L':=[]::L) (fun w h=>Holds.nil.2 h.drop) ?_
    refine kR ?_
    exact ⟨[]::L,iC,.slice none 0 0,[],by rw [hbad];rfl,rfl,hno hbad⟩
   ·have ha:0≤dv a:=by omega
    have hb:0≤dv b:=by omega
    have hok:Qv t k=true:=by unfold Qv;rw [←haq,←hbq];simp [ha,hb]
    have hby:=zdW (t:=t) (i:=k) (by rw [←haq];exact ha) (by rw [←hbq];exact hb)
    rw [←haq,←hbq] at hby
    have hh:IntKind.u8.wrap (16 * dv a+dv b)=((Q8 t k).toNat:Int):=by
     rw [hby,wrap_u8];omega
    rw [hh]
    refine zl (cs:=bsv [Q8 t k]) rfl (by rfl) (by simp [zA,patch,Value.cells,zeros];rfl) (by omega) rfl rfl (fun bk=>?_)
    refine kX ?_
    refine zu rfl rfl hx3 (zF (c:=(bsv [Q8 t k]).toArray) (xs:=bsv [Q8 t k]) (m:=1) Fnd.here rfl (by simp)) (by repeat (first|exact Zip.here _|apply Zip.there)) (by rfl) yj (by omega) (by simp [maxLen];omega) rfl (fun v' C' ho1 h1 h2=>?_)
    rw [←yt,←zcj] at ho1
    refine kX ?_
    refine zf (X:=Nat × Value × Chunk) (μ:=fun x=>t.length - x.1) (x:=(k,s,C)) (k+1,v',C') (by simp only;omega)
     ⟨by simp only;omega,fun i hi=>?_,ho1⟩ iS (fun w h=>iH h)
    rcases Nat.lt_or_ge i k with h'|h'
    ·exact hx2 i h'
    ·rw [show i=k from by simp only at hi;omega];exact hok
  ·rw [yD] at hc
   have hk:k=t.length / 2:=by omega
   have hb:unB t=true:=ze3 hev fun i hi=>hx2 i (by omega)
   have hl:unL t=zac t k:=by unfold unL;rw [hb,hk];rfl
   refine kR ?_
   refine ⟨C::L,iC,s,C,by rw [hb];rfl,rfl,?_⟩
   rw [hl,Yz]
   exact hx3
end Go.Proofs.YtfbfcapoobmdpaaGreatDoor
namespace Go.Vx
open Go
set_option linter.all false
variable [W0]
section
variable {P : Program} {n : Nat} {M : List (Nat × Value)} {L : List Chunk} {K : List (Nat × Value) → List Chunk → Prop}
variable {d : Nat} {ty : TypeId} {ps : String} {af : Array Edge} {g : Option (Nat × Bool)} {x y : Operand} {v : Value}
theorem zhM {t:TypeId} [hst:ST P t] {s:ByteArray} (hx:ev M x=some (.string s)) (hn:Nat.blt d n=true) (h:∀b,K ((d,.pointer (some ⟨b,0,none⟩))::M) ([(b,.stringIter s 0)]::L)) :
 OW P n ⟨some d,.range t x,ty,ps,af,g⟩ K M L:=
 uW (f:=fun b=>.pointer (some ⟨b,0,none⟩)) rfl hn (fun a w ha hw=>by
  simp [execOp,Instr.range,ha.eval hx,underlying,hst.out,newObj,Sem.run,Result.andThen]) h
theorem ziK {b pos:Nat} {s:ByteArray} {L':List Chunk} (hx:ev M x=some (.pointer (some ⟨b,0,none⟩))) (hp:pos < s.size) (hu:Upd L b (.stringIter s pos) (.stringIter s (pos+(Utf8.decode s pos).2)) L') (hn:Nat.blt d n=true)
 (h:K ((d,.tuple #[.bool true,.int .i64 (pos:Int),.int .i32 ((Utf8.decode s pos).1:Int)])::M) L') :
 OW P n ⟨some d,.next x true,ty,ps,af,g⟩ K M L:=⟨fun a w nx Q ha hw hk=>by
 have hb:=hu.fnd.get hw
 have hlt:b < w.heap.size:=(Array.getElem?_eq_some_iff.1 hb).1
 have hrun:(execOp a.eval ⟨some d,.next x true,ty,ps,af,g⟩).run P w=.ok (.value (.tuple #[.bool true,.int .i64 (pos:Int),.int .i32 ((Utf8.decode s pos).1:Int)])) { w with heap:=w.heap.setIfInBounds b (.stringIter s (pos+(Utf8.decode s pos).2)) }:=by
  simp [execOp,ha.eval hx,Instr.next,getObj,setObj,Sem.run,hb,hp,goInt]
 unfold Oper.wp
 rw [hrun,Oper.upon_value]
 refine (hk _ _ h).out _ _ (ha.put _ hn) (hw.upd hu ?_ ?_ rfl rfl)
 ·simp [hlt]
 ·intro c hc;simp [Ne.symm hc]⟩
theorem zmh {b pos:Nat} {s:ByteArray} (hx:ev M x=some (.pointer (some ⟨b,0,none⟩))) (hf:Fnd L b (.stringIter s pos)) (hp:¬pos < s.size) :
 EV P n ⟨some d,.next x true,ty,ps,af,g⟩ M L d (.tuple #[.bool false]):=
 ⟨rfl,fun a w ha hw=>by
   have hb:=hf.get hw
   simp [execOp,ha.eval hx,Instr.next,getObj,Sem.run,hb,hp]⟩
end
end Go.Vx
namespace Go.Ob
open Go Go.Lib Go.Vx
set_option linter.all false
set_option maxRecDepth 4000
def zhs:List UInt8:=[99,111,109,109,105,116]
def zoK:List UInt8:=[116,114,101,101]
def zlr:List UInt8:=[98,108,111,98]
def zq2:List UInt8:=[116,97,103]
open Go.Proofs.YtfbfcapoobmdpaaGreatDoor
def nmL:Nat→List UInt8
 |1=>zhs
 |2=>zoK
 |3=>zlr
 |4=>zq2
 |_=>[]
def nmI (k:Int):List UInt8:=if 1≤k∧k≤4 then nmL k.toNat else []
def kdL (s:List UInt8):Nat:=if s=zhs then 1 else if s=zoK then 2 else if s=zlr then 3 else if s=zq2 then 4 else 0
def dgF:Nat→Nat→List UInt8
 |0,_=>[]
 |f+1,n=>if n < 10 then [UInt8.ofNat (48+n)] else dgF f (n / 10)++[UInt8.ofNat (48+n % 10)]
def dgL (n:Nat):List UInt8:=dgF 20 n
def hdL (k size:Int):List UInt8:=nmI k++[32]++dgL (max size 0).toNat++[0]
def idL (k:Int) (body:List UInt8):List UInt8:=zab (zf7 (hdL k (body.length:Int)++body))
def X3 (s:List UInt8):Bool:=decide (s.length=40)&&unB s
def inD (c:Nat):Bool:=decide (48≤c)&&decide (c≤57)
def zZ (c:UInt8):List UInt8→List UInt8 × List UInt8
 |[]=>([],[])
 |x::t=>if x=c then ([],t) else (x::(zZ c t).1,(zZ c t).2)
end Go.Ob
namespace Go.Ob
open Go Go.Lib Go.Vx
set_option linter.all false
set_option maxRecDepth 4000
theorem YX (c:UInt8):∀s:List UInt8,(c∉s∧zZ c s=(s,[]))∨∃a t,c∉a∧s=a++c::t∧zZ c s=(a,t)
 |[]=>.inl ⟨by simp,rfl⟩
 |x::s=>by
  unfold zZ
  by_cases hx:x=c
  ·subst hx
   exact .inr ⟨[],s,by simp,rfl,by rw [if_pos rfl]⟩
  ·rw [if_neg hx]
   rcases YX c s with ⟨h1,h2⟩|⟨a,t,h1,h2,h3⟩
   ·exact .inl ⟨by simp [h1,Ne.symm hx],by rw [h2]⟩
   ·exact .inr ⟨x::a,t,by simp [h1,Ne.symm hx],by rw [h2];rfl,by rw [h3]⟩
theorem XP (c:UInt8) (t:List UInt8):∀a:List UInt8,c∉a→zZ c (a++c::t)=(a,t)
 |[],_=>by simp [zZ]
 |x::a,h=>by
  simp only [List.mem_cons,not_or] at h
  simp only [List.cons_append,zZ]
  rw [if_neg (Ne.symm h.1),XP c t a h.2]
end Go.Ob
namespace Go.Vx
open Go Go.Lib Go.RowKit
set_option linter.all false
variable [W0]
omit [W0] in
def OwG (e:Nat) (v:Value) (m:Nat) (xs:List Value) (C:Chunk):Prop:=(v=.slice none 0 0∧m=0∧xs=[]∧C=[])∨OwF e 1 v m xs C
theorem OwG.nil {e:Nat}:OwG e (.slice none 0 0) 0 [] []:=.inl ⟨rfl,rfl,rfl,rfl⟩
theorem OwG.f {e m:Nat} {v:Value} {xs:List Value} {C:Chunk} (h:OwF e 1 v m xs C):OwG e v m xs C:=.inr h
theorem OwG.ow {e m:Nat} {v:Value} {xs:List Value} {C:Chunk} (h:Ow e 1 v m xs C):OwG e v m xs C:=by
 rcases h with h|⟨b,cap,rest,rfl,rfl,h1,h2,h3,h4⟩
 ·exact .inl h
 ·exact .inr ⟨b,cap,rest,(0,0),rfl,rfl,h1,h2,h3,h4,zbC.zero _⟩
theorem OwG.sl {e m:Nat} {v:Value} {xs:List Value} {C:Chunk} {L:List Chunk} (h:OwG e v m xs C):Sl (C::L) 1 v m xs:=by
 rcases h with ⟨rfl,rfl,rfl,rfl⟩|h
 ·exact .inl ⟨0,rfl,rfl,rfl⟩
 ·exact zpR h
theorem OwG.room {e m:Nat} {v:Value} {xs:List Value} {C:Chunk} (h:OwG e v m xs C):∃a c,v=.slice a m c∧m≤c:=by
 rcases h with ⟨rfl,rfl,rfl,rfl⟩|⟨b,cap,rest,fr,rfl,rfl,h1,h2,h3,h4,_⟩
 ·exact ⟨_,_,rfl,Nat.le_refl _⟩
 ·exact ⟨_,_,rfl,h3⟩
section
variable {P : Program} {n : Nat} {M : List (Nat × Value)} {L : List Chunk} {K : List (Nat × Value) → List Chunk → Prop}
variable {d : Nat} {ty : TypeId} {ps : String} {af : Array Edge} {g : Option (Nat × Bool)} {x y : Operand} {v : Value}
theorem XD {t e by_:Nat} [hs:SL P t e 1 by_] {z:Value} [hz:ZV P e z] {v r:Value} {m c:Nat} {xs ys:List Value} {C:Chunk} {A B:List Chunk} (hx:ev M x=some v) (hy:ev M y=some r) (hown:OwG e v m xs C)
 (hsl:Sl L 1 r c ys) (hzip:Zip C L A B) (hzk:z.cells.size=1) (h1:ones ys=true) (hb:(m+c) * by_≤140737488355328) (h63:m+c≤maxLen)
 (hn:Nat.blt d n=true) (h:∀v' C',OwG e v' (m+c) (xs++ys) C'→K ((d,v')::M) (A++C'::B)) :
 OW P n ⟨some d,.call ⟨.builtin .append,#[x,y],#[t,t]⟩,ty,ps,af,g⟩ K M L:=by
 rcases hown with ⟨rfl,rfl,rfl,rfl⟩|hown
 ·exact zu hx hy (.inl ⟨rfl,rfl,rfl,rfl⟩) hsl hzip hzk h1 hb h63 hn (fun v' C' ho _ _=>h v' C' (OwG.ow ho))
 ·exact zfb hx hy hown hsl hzip hzk h1 hb h63 hn (fun v' C' ho=>h v' C' (.inr ho))
omit [W0] in
theorem qJ (q:ByteArray):strCells q=bsv q.data.toList:=rfl
theorem ziG {t s e by_:Nat} [hs:SL P t e 1 by_] [hst:ST P s] [hz:ZV P e (.int .u8 0)] {v:Value} {m:Nat} {xs:List Value} {C:Chunk} {A B:List Chunk} {q:ByteArray} (hx:ev M x=some v) (hy:ev M y=some (.string q)) (hown:OwG e v m xs C)
 (hzip:Zip C L A B) (hb:(m+q.size) * by_≤140737488355328) (h63:m+q.size≤maxLen)
 (hn:Nat.blt d n=true) (h:∀v' C',OwG e v' (m+q.size) (xs++bsv q.data.toList) C'→K ((d,v')::M) (A++C'::B)) :
 OW P n ⟨some d,.call ⟨.builtin .append,#[x,y],#[t,s]⟩,ty,ps,af,g⟩ K M L:=⟨fun a w next Q ha hw0 hk=>by
 have hL:=hzip.eq
 subst hL
 have hw:=hw0.perm List.perm_middle
 obtain ⟨ht,i,hi,hik,hib,hk0⟩:=hs.parts
 have hu:=hst.out
 have hzz:i.zero=some (.int .u8 0):=by have:=hz.out;rw [hi] at this;simpa using this
 subst hib
 have hsmall:m+q.size≤9223372036854775807:=by simpa [maxLen] using h63
 have main:∃v' C' w',(Builtin.append_ #[t,s] ty #[v,.string q]).run P w=.ok v' w'∧OwG e v' (m+q.size) (xs++bsv q.data.toList) C'∧Holds w' (C'::(A++B)):=by
  rcases hown with ⟨rfl,rfl,rfl,rfl⟩|⟨b,cap,rest,fr,rfl,rfl,hxl,hrl,hmc,hcm,hfr⟩
  ·by_cases hm:q.size=0
   ·have hn:strCells q=[]:=List.eq_nil_of_length_eq_zero (by rw [strCells_length];exact hm)
    refine ⟨.slice none 0 0,[],w,?_,?_,hw⟩
    ·have hf:=run_firstCells_string (P:=P) w 1 q
     rw [hm] at hf
     simp [Builtin.append_,run_underlying ht,run_underlying hu,sizeOf,typeInfo,hi,hik,Builtin.lenOf,hm,hf]
    ·rw [←qJ,hn,hm];exact OwG.nil
   ·have hr:=run_append_nil_string (P:=P) w t s ty e i (.int .u8 0) ht hu hi hzz q (by omega) (by omega) (by have h2:=hb;simp only [Nat.zero_add] at h2;omega)
    have e0:(q.data.map fun b=>Value.int .u8 b.toNat)=(strCells q).toArray:=by
     apply Array.ext'
     simp [strCells]
    rw [e0] at hr
    refine ⟨_,[(w.heap.size,.cells (bsv q.data.toList++(Builtin.zeroCells (Value.int .u8 0).cells (grownCap w q.size 0 e - q.size)).toList).toArray e (0,0))],_,hr,.inr ⟨w.heap.size,grownCap w q.size 0 e,(Builtin.zeroCells (Value.int .u8 0).cells (grownCap w q.size 0 e - q.size)).toList,(0,0),by rw [Nat.zero_add],rfl,?_,?_,?_,grownCap_le_maxLen w q.size 0 e (by omega),zbC.zero _⟩,?_⟩
    ·rw [List.nil_append,←qJ,strCells_length];omega
    ·simp [size_zeroCells,Value.cells]
    ·rw [Nat.zero_add];exact grownCap_ge w q.size 0 e
    ·have h0:=(hw.drop.same (w':=w.drew) rfl rfl rfl).alloc (.cells ((strCells q).toArray++Builtin.zeroCells (Value.int .u8 0).cells (grownCap w q.size 0 e - q.size)) e)
     have e1:(bsv q.data.toList++(Builtin.zeroCells (Value.int .u8 0).cells (grownCap w q.size 0 e - q.size)).toList).toArray=(strCells q).toArray++Builtin.zeroCells (Value.int .u8 0).cells (grownCap w q.size 0 e - q.size):=by
      apply Array.ext';simp [qJ]
     rw [e1];exact h0
  ·have hfnd:w.heap[b]? =some (.cells (xs++rest).toArray e fr):=(Fnd.here:Fnd ([(b,.cells (xs++rest).toArray e fr)]::(A++B)) b _).get hw
   by_cases hroom:m+q.size≤cap
   ·have hxl':xs.length=m:=by simpa using hxl
    have hrl':rest.length=cap - m:=by simpa using hrl
    have hlen:m+(strCells q).length≤(xs++rest).length:=by
     simp only [List.length_append,hxl',hrl',strCells_length];omega
    have hf:=run_firstCells_string (P:=P) w 1 q
    have hst:=run_storeCells_cells (P:=P) b m (strCells q) 0 w
     (fun j hj=>by rw [cell_of hfnd];simp;simp at hlen;omega)
     (fun j hj=>by
       have:=hfr (m+0+j) (by omega)
       simp only [World.frozen?,hfnd]
       cases hd:(decide (fr.1≤m+0+j)&&decide (m+0+j < fr.2)) with
       |false=>simpa using hd
       |true=>simp at hd;exact absurd (by simpa using hd) this)
     (strCells_oneCell q)
    simp only [Nat.add_zero] at hst
    have hr:(Builtin.append_ #[t,s] ty #[.slice (some ⟨b,0,none⟩) m cap,.string q]).run P w=.ok (.slice (some ⟨b,0,none⟩) (m+q.size) cap) (w.setCells b m (strCells q)):=by
     simp [Builtin.append_,run_underlying ht,run_underlying hu,sizeOf,typeInfo,hi,hik,Builtin.lenOf,hroom,hf,Addr.add_lit,hst]
    have hx1:patch (xs++rest).toArray.toList m (strCells q)=(xs++bsv q.data.toList)++rest.drop (strCells q).length:=by
     simp only [List.toList_toArray,patch]
     rw [←hxl',List.take_left]
     congr 1
     rw [List.drop_append]
     simp
    have hat:=setCells_at (T:=e) (fr:=fr) (strCells q) m _ w hfnd (by simpa using hlen)
    rw [hx1] at hat
    refine ⟨_,[(b,.cells ((xs++bsv q.data.toList)++rest.drop (strCells q).length).toArray e fr)],_,hr,.inr ⟨b,cap,rest.drop (strCells q).length,fr,rfl,rfl,?_,?_,hroom,hcm,?_⟩,?_⟩
    ·rw [List.length_append,hxl',←qJ,strCells_length];omega
    ·rw [List.length_drop,hrl',strCells_length];omega
    ·intro j hj
     refine hfr j ?_
     simp only [List.length_append,List.length_drop,←qJ] at hj hlen ⊢
     omega
    ·exact hw.upd .here hat (fun q hq=>YF _ _ _ _ hq) (vM _ _ _).1 (vM _ _ _).2
   ·have hrd0:zK ([(b,.cells (xs++rest).toArray e fr)]::(A++B)) ⟨b,0,none⟩ xs:=.inr ⟨b,0,_,_,_,rfl,.here,fun j u hj=>by rw [Nat.zero_add];simpa using z8 hj⟩
    have hr:=run_append_grow_string (P:=P) w t s ty e i (.int .u8 0) ht hu hi hzz ⟨b,0,none⟩ m cap xs (by rw [hik];exact hxl) (hrd0.cells hw) q (by omega) (by omega) (growslice_fits (by omega) hb)
    refine ⟨_,[(w.heap.size,.cells ((xs++bsv q.data.toList)++(Builtin.zeroCells (Value.int .u8 0).cells (grownCap w (m+q.size) cap e - (m+q.size))).toList).toArray e (0,0))],_,hr,.inr ⟨w.heap.size,_,_,(0,0),rfl,rfl,?_,?_,grownCap_ge w (m+q.size) cap e,grownCap_le_maxLen w (m+q.size) cap e h63,zbC.zero _⟩,?_⟩
    ·have hxl':xs.length=m:=by simpa using hxl
     rw [List.length_append,hxl',←qJ,strCells_length];omega
    ·simp [size_zeroCells,Value.cells]
    ·have h0:=(hw.drop.same (w':=w.drew) rfl rfl rfl).alloc (.cells (xs.toArray++(strCells q).toArray++Builtin.zeroCells (Value.int .u8 0).cells (grownCap w (m+q.size) cap e - (m+q.size))) e)
     have e1:(xs++bsv q.data.toList++(Builtin.zeroCells (Value.int .u8 0).cells (grownCap w (m+q.size) cap e - (m+q.size))).toList).toArray=xs.toArray++(strCells q).toArray++Builtin.zeroCells (Value.int .u8 0).cells (grownCap w (m+q.size) cap e - (m+q.size)):=by
      apply Array.ext';simp [qJ]
     rw [e1];exact h0
 obtain ⟨v',C',w',hr,ho,hw'⟩:=main
 unfold Oper.wp
 have hrun:(execOp a.eval ⟨some d,.call ⟨.builtin .append,#[x,y],#[t,s]⟩,ty,ps,af,g⟩).run P w=.ok (.value v') w':=by
  simp only [execOp,resolve,invoke,builtin,Sem.run_bind,Sem.run_pure,Result.andThen_ok,List.map_toArray,List.map_cons,List.map_nil,ha.eval hx,ha.eval hy,hr]
 rw [hrun,Oper.upon_value]
 exact (hk _ _ (h v' C' ho)).out _ _ (ha.put v' hn) (hw'.perm List.perm_middle.symm)⟩
end
end Go.Vx
namespace Go.Ob
open Go Go.Vx Go.Proofs.YtfbfcapoobmdpaaGreatDoor Go.Lib
set_option linter.all false
variable [W0]
theorem zn5 (a b:List UInt8):str a++str b=str (a++b):=by
 apply ByteArray.ext
 simp [str]
theorem str_inj {a b:List UInt8}:str a=str b↔a=b:=by
 constructor
 ·intro h
  have:=congrArg (fun s=>s.data.toList) h
  simpa [str] using this
 ·rintro rfl;rfl
theorem zn7 (t:List UInt8) (l h:Nat):(str t).extract l h=str ((t.drop l).take (h - l)):=by
 apply ByteArray.ext
 apply Array.ext'
 simp [str,List.drop_take]
theorem zn6 (t:List UInt8) (pos:Nat):Utf8.decode (str t) pos=decodeL (t.drop pos):=(decodeL_drop (str t) pos).symm
theorem zqb (s:ByteArray):∃t,s=str t∧t.length=s.size:=⟨s.data.toList,by cases s;rfl,by cases s;simp [ByteArray.size]⟩
section
variable {P : Program} {n : Nat} {M : List (Nat × Value)} {L : List Chunk} {K : List (Nat × Value) → List Chunk → Prop}
variable {d : Nat} {ty : TypeId} {ps : String} {af : Array Edge} {g : Option (Nat × Bool)} {x y : Operand} {v : Value}
theorem wV (a b:List UInt8) {t u:TypeId} (hx:ev M x=some (.string (str a))) (hy:ev M y=some (.string (str b))) (hs:a.length+b.length≤9223372036854775807) :
 EV P n ⟨some d,.binOp .add t x y u,ty,ps,af,g⟩ M L d (.string (str (a++b))):=by
 have:=zhK (P:=P) (n:=n) (M:=M) (L:=L) (d:=d) (ty:=ty) (ps:=ps) (af:=af) (g:=g) (t:=t) (u:=u) hx hy (by simpa [yD] using hs)
 rw [zn5] at this
 exact this
theorem zoR (a b:List UInt8) {t u:TypeId} (hx:ev M x=some (.string (str a))) (hy:ev M y=some (.string (str b))) :
 EV P n ⟨some d,.binOp .eql t x y u,ty,ps,af,g⟩ M L d (.bool (decide (a=b))):=by
 have:=uy (P:=P) (n:=n) (M:=M) (L:=L) (d:=d) (ty:=ty) (ps:=ps) (af:=af) (g:=g) (t:=t) (u:=u) hx hy
 simpa only [str_inj] using this
theorem ZM (t:List UInt8) (l h:Nat) {T:Nat} [hs:ST P T] {lo hi:Option Operand} (hx:ev M x=some (.string (str t))) (hl:bnd M lo 0=some (l:Int)) (hh:bnd M hi t.length=some (h:Int))
 (h1:l≤h) (h2:h≤t.length):EV P n ⟨some d,.slice T x lo hi none,ty,ps,af,g⟩ M L d (.string (str ((t.drop l).take (h - l)))):=by
 have:=QI (P:=P) (n:=n) (M:=M) (L:=L) (d:=d) (ty:=ty) (ps:=ps) (af:=af) (g:=g) (T:=T) hx hl hh h1 h2
 rw [zn7] at this
 exact this
end
omit [W0] in
theorem zgU {k:Nat} (h1:1≤k) (h2:k≤4):kdL (nmL k)=k:=by
 match k,h1,h2 with
 |1,_,_=>decide
 |2,_,_=>decide
 |3,_,_=>decide
 |4,_,_=>decide
omit [W0] in
theorem zkk {s:List UInt8} (h:∀j,1≤j→j≤4→nmL j≠s):kdL s=0:=by
 have h1:=h 1 (by decide) (by decide)
 have h2:=h 2 (by decide) (by decide)
 have h3:=h 3 (by decide) (by decide)
 have h4:=h 4 (by decide) (by decide)
 unfold kdL
 exact (if_neg (Ne.symm h1)).trans ((if_neg (Ne.symm h2)).trans ((if_neg (Ne.symm h3)).trans (if_neg (Ne.symm h4))))
omit [W0] in
theorem zha {k:Nat} (h1:1≤k) (h2:k≤4):nmI (k:Int)=nmL k:=by
 unfold nmI
 rw [if_pos (by omega)]
 rfl
omit [W0] in
theorem zfL {k:Int} (h:¬(1≤k∧k≤4)):nmI k=[]:=if_neg h
omit [W0] in
theorem zdf (k:Int):(nmI k).length≤6:=by
 unfold nmI
 split
 ·rename_i h
  obtain ⟨n,rfl⟩:∃n:Nat,k=n:=⟨k.toNat,by omega⟩
  match n,h with
  |1,_=>decide
  |2,_=>decide
  |3,_=>decide
  |4,_=>decide
  |0,h=>exact absurd h.1 (by decide)
  |n+5,h=>omega
 ·exact Nat.zero_le _
end Go.Ob
namespace Go.Proofs.YtfbfcapoobmdpaaGreatDoor
open Go Go.Vx Go.Ob
set_option linter.all false
variable [W0]
set_option maxRecDepth 4000
theorem zbd (k:Int) (L:List Chunk):GvP Tryz.prog 36 [.int .i64 k].toArray L (.string (str (nmI k))):=by
 refine Gv.of_body Tryz.func36 rfl rfl ?_
 (repeat' first|refine kW ?_|refine kU fun bk=>?_|refine kV fun hc=>?_|refine kZ (fun hc=>?_) fun hc=>?_|fail)
 ·subst hc;exact kE
 ·subst hc;exact kE
 ·subst hc;exact kE
 ·subst hc;exact kE
 ·refine kR ?_
  exact ⟨_,iC,by rw [zfL (by omega)];rfl,rfl⟩
theorem zkO (s:List UInt8) (L:List Chunk):GvP Tryz.prog 62 [.string (str s)].toArray L (.tuple #[.int .i64 (kdL s:Int),.bool (decide (kdL s≠0))]):=by
 refine Gv.of_body Tryz.func62 rfl rfl ?_
 refine kW ?_
 refine zn (X:=Nat) (fun k=>[(0,.string (str s)),(4,.int .i64 (k:Int))]) (fun _=>L) (fun k=>1≤k∧k≤5∧∀j,1≤j→j < k→nmL j≠s) (fun k=>5 - k) 1 ⟨by omega,by omega,fun j h1 h2=>by omega⟩ iS (fun w h=>h) ?_
 intro k ⟨h1,h2,h3⟩
 (repeat' first|refine kW ?_|refine kU fun bk=>?_|refine kV fun hc=>?_|refine kZ (fun hc=>?_) fun hc=>?_|fail)
 ·refine cP rfl rfl (zbd _ _) ?_
  rw [zha h1 (by omega)]
  (repeat' first|refine kW ?_|refine kU fun bk=>?_|refine kV fun hc=>?_|refine kZ (fun hc=>?_) fun hc=>?_|fail)
  skip
  ·have hc:=str_inj.1 hc
   refine kR ?_
   refine ⟨_,iC,?_,rfl⟩
   rw [←hc,zgU h1 (by omega),decide_eq_true (by omega)]
   rfl
  ·refine zf (X:=Nat) (μ:=fun k=>5 - k) (x:=k) (k+1) (by omega) ⟨by omega,by omega,fun j g1 g2=>?_⟩ iS (fun w h=>h)
   rcases Nat.lt_or_ge j k with h|h
   ·exact h3 j g1 h
   ·rw [show j=k from by omega];exact fun hh=>hc (str_inj.2 hh)
 ·refine kR ?_
  refine ⟨_,iC,?_,rfl⟩
  rw [zkk (fun j g1 g2=>h3 j g1 (by omega))]
  rfl
theorem zim (k:Int) (L:List Chunk):GvP Tryz.prog 43 [.int .i64 k].toArray L (.string (str (nmI k))):=by
 refine Gv.of_body Tryz.func43 rfl rfl ?_
 refine kW ?_
 refine zl (cs:=[.string (str (nmL 0)),.string (str (nmL 1)),.string (str (nmL 2)),.string (str (nmL 3)),.string (str (nmL 4))]) rfl (by rfl) (by simp [zA,patch,Value.cells,zeros];exact ⟨rfl,rfl,rfl,rfl,rfl⟩) (by omega) rfl rfl (fun bn=>?_)
 (repeat' first|refine kW ?_|refine kU fun bk=>?_|refine kV fun hc=>?_|refine kZ (fun hc=>?_) fun hc=>?_|fail)
 ·refine kR ?_
  exact ⟨_,iC,by rw [zfL (by omega)];rfl,rfl⟩
 ·refine kR ?_
  exact ⟨_,iC,by rw [zfL (by omega)];rfl,rfl⟩
 ·obtain ⟨j,rfl⟩:∃j:Nat,k=j:=⟨k.toNat,by omega⟩
  have hj:j < 5:=by omega
  refine ze (zh (j:=j) rfl rfl rfl hj) rfl ?_
  refine kW ?_
  refine ze (v:=.string (str (nmI (j:Int)))) (zx rfl Fnd.here (by
   match j,hj with
   |0,_=>rfl
   |1,_=>rfl
   |2,_=>rfl
   |3,_=>rfl
   |4,_=>rfl)) rfl ?_
  refine kW ?_
  exact kE
end Go.Proofs.YtfbfcapoobmdpaaGreatDoor
namespace Go.Proofs.YtfbfcapoobmdpaaGreatDoor
open Go Go.Shelf Go.Proofs
set_option linter.all false
set_option maxRecDepth 100000
def wm : Go.Shelf.Ren :=
  {
    f := fun x =>
      match x with
      | 145 => 61
      | 220 => 98
      | 219 => 134
      | 217 => 123
      | 225 => 183
      | 224 => 96
      | 267 => 184
      | 266 => 172
      | 314 => 226
      | n => n,
    t := fun x =>
      match x with
      | 9 => 9
      | 4 => 4
      | 59 => 102
      | 3 => 3
      | 5 => 5
      | 46 => 85
      | 146 => 206
      | 51 => 88
      | n => n,
    g := fun x =>
      match x with
      | 1 => 0
      | n => n }
theorem zrn : Go.Proofs.Lays.n145 Go.Proofs.Tryz.prog wm :=
  { mixed := by kernel_rfl,
    f145 := Eq.trans Go.Proofs.Tryz.func61 (congrArg Option.some (Eq.refl (Go.Proofs.Body.n145 wm))),
    f217 :=
      Eq.trans Go.Proofs.Tryz.func123 (congrArg Option.some (Eq.refl (Go.Proofs.Body.n217 wm))),
    f219 :=
      Eq.trans Go.Proofs.Tryz.func134 (congrArg Option.some (Eq.refl (Go.Proofs.Body.n219 wm))),
    f220 := Eq.trans Go.Proofs.Tryz.func98 (congrArg Option.some (Eq.refl (Go.Proofs.Body.n220 wm))),
    f224 := Eq.trans Go.Proofs.Tryz.func96 (congrArg Option.some (Eq.refl (Go.Proofs.Body.n224 wm))),
    f225 :=
      Eq.trans Go.Proofs.Tryz.func183 (congrArg Option.some (Eq.refl (Go.Proofs.Body.n225 wm))),
    f266 :=
      Eq.trans Go.Proofs.Tryz.func172 (congrArg Option.some (Eq.refl (Go.Proofs.Body.n266 wm))),
    f267 :=
      Eq.trans Go.Proofs.Tryz.func184 (congrArg Option.some (Eq.refl (Go.Proofs.Body.n267 wm))),
    f314 :=
      Eq.trans Go.Proofs.Tryz.func226 (congrArg Option.some (Eq.refl (Go.Proofs.Body.n314 wm))),
    t3 := Go.Proofs.Tryz.underlying3, a3 := Go.Proofs.Tryz.isAgg3, z3 := Go.Proofs.Tryz.sizeOf3,
    v3 := Go.Proofs.Tryz.zeroValue3, t4 := Go.Proofs.Tryz.underlying4, a4 := Go.Proofs.Tryz.isAgg4,
    z4 := Go.Proofs.Tryz.sizeOf4, v4 := Go.Proofs.Tryz.zeroValue4, t5 := Go.Proofs.Tryz.underlying5,
    a5 := Go.Proofs.Tryz.isAgg5, z5 := Go.Proofs.Tryz.sizeOf5, v5 := Go.Proofs.Tryz.zeroValue5,
    t9 := Go.Proofs.Tryz.underlying9, a9 := Go.Proofs.Tryz.isAgg9, z9 := Go.Proofs.Tryz.sizeOf9,
    v9 := Go.Proofs.Tryz.zeroValue9, t46 := Go.Proofs.Tryz.underlying85, a46 := Go.Proofs.Tryz.isAgg85,
    z46 := Go.Proofs.Tryz.sizeOf85, v46 := Go.Proofs.Tryz.zeroValue85, t51 := Go.Proofs.Tryz.underlying88,
    a51 := Go.Proofs.Tryz.isAgg88, z51 := Go.Proofs.Tryz.sizeOf88, v51 := Go.Proofs.Tryz.zeroValue88,
    t59 := Go.Proofs.Tryz.underlying102, a59 := Go.Proofs.Tryz.isAgg102, z59 := Go.Proofs.Tryz.sizeOf102,
    v59 := Go.Proofs.Tryz.zeroValue102, t146 := Go.Proofs.Tryz.underlying206, a146 := Go.Proofs.Tryz.isAgg206,
    z146 := Go.Proofs.Tryz.sizeOf206, v146 := Go.Proofs.Tryz.zeroValue206,
    g1 := by kernel_rfl }
def zeO : Go.Shelf.Ren :=
  {
    f := fun x =>
      match x with
      | 283 => 168
      | n => n,
    t := fun x =>
      match x with
      | 3 => 3
      | 9 => 9
      | 4 => 4
      | n => n,
    g := fun x =>
      have n := x;
      n }
theorem zrp : Go.Proofs.Lays.n283 Go.Proofs.Tryz.prog zeO :=
  { mixed := by kernel_rfl,
    f283 :=
      Eq.trans Go.Proofs.Tryz.func168 (congrArg Option.some (Eq.refl (Go.Proofs.Body.n283 zeO))),
    t3 := Go.Proofs.Tryz.underlying3, a3 := Go.Proofs.Tryz.isAgg3, z3 := Go.Proofs.Tryz.sizeOf3,
    v3 := Go.Proofs.Tryz.zeroValue3, t4 := Go.Proofs.Tryz.underlying4, a4 := Go.Proofs.Tryz.isAgg4,
    z4 := Go.Proofs.Tryz.sizeOf4, v4 := Go.Proofs.Tryz.zeroValue4, t9 := Go.Proofs.Tryz.underlying9,
    a9 := Go.Proofs.Tryz.isAgg9, z9 := Go.Proofs.Tryz.sizeOf9, v9 := Go.Proofs.Tryz.zeroValue9 }
def YG : Go.Shelf.Ren :=
  {
    f := fun x =>
      match x with
      | 284 => 169
      | 129 => 211
      | 317 => 210
      | 318 => 212
      | n => n,
    t := fun x =>
      match x with
      | 53 => 86
      | 3 => 3
      | 212 => 291
      | 0 => 0
      | 4 => 4
      | 46 => 85
      | 5 => 5
      | 9 => 9
      | n => n,
    g := fun x =>
      match x with
      | 17 => 3
      | n => n }
theorem zro : Go.Proofs.LaysM.n284 Go.Proofs.Tryz.prog YG :=
  { mixed := by kernel_rfl,
    f129 :=
      Eq.trans Go.Proofs.Tryz.func211 (congrArg Option.some (Eq.refl (Go.Proofs.Body.n129 YG))),
    f284 :=
      Eq.trans Go.Proofs.Tryz.func169 (congrArg Option.some (Eq.refl (Go.Proofs.Body.n284 YG))),
    f317 :=
      Eq.trans Go.Proofs.Tryz.func210 (congrArg Option.some (Eq.refl (Go.Proofs.Body.n317 YG))),
    f318 :=
      Eq.trans Go.Proofs.Tryz.func212 (congrArg Option.some (Eq.refl (Go.Proofs.Body.n318 YG))),
    t0 := Go.Proofs.Tryz.underlying0, a0 := Go.Proofs.Tryz.isAgg0, z0 := Go.Proofs.Tryz.sizeOf0,
    v0 := Go.Proofs.Tryz.zeroValue0, t3 := Go.Proofs.Tryz.underlying3, a3 := Go.Proofs.Tryz.isAgg3,
    z3 := Go.Proofs.Tryz.sizeOf3, v3 := Go.Proofs.Tryz.zeroValue3, t4 := Go.Proofs.Tryz.underlying4,
    a4 := Go.Proofs.Tryz.isAgg4, z4 := Go.Proofs.Tryz.sizeOf4, v4 := Go.Proofs.Tryz.zeroValue4,
    t5 := Go.Proofs.Tryz.underlying5, a5 := Go.Proofs.Tryz.isAgg5, z5 := Go.Proofs.Tryz.sizeOf5,
    v5 := Go.Proofs.Tryz.zeroValue5, t9 := Go.Proofs.Tryz.underlying9, a9 := Go.Proofs.Tryz.isAgg9,
    z9 := Go.Proofs.Tryz.sizeOf9, v9 := Go.Proofs.Tryz.zeroValue9, t46 := Go.Proofs.Tryz.underlying85,
    a46 := Go.Proofs.Tryz.isAgg85, z46 := Go.Proofs.Tryz.sizeOf85, v46 := Go.Proofs.Tryz.zeroValue85,
    t53 := Go.Proofs.Tryz.underlying86, a53 := Go.Proofs.Tryz.isAgg86, z53 := Go.Proofs.Tryz.sizeOf86,
    v53 := Go.Proofs.Tryz.zeroValue86, t212 := Go.Proofs.Tryz.underlying291, a212 := Go.Proofs.Tryz.isAgg291,
    z212 := Go.Proofs.Tryz.sizeOf291, v212 := Go.Proofs.Tryz.zeroValue291,
    g17 := by kernel_rfl,
    i0 := Eq.refl (Option.some (Option.some (Go.Value.tuple #[]), 1, 0)),
    i3 := Eq.refl (Option.some (Option.some (Go.Value.int Go.IntKind.i64 0), 1, 8)),
    i4 := Eq.refl (Option.some (Option.some (Go.Value.bool Bool.false), 1, 1)),
    i5 := Eq.refl (Option.some (Option.some (Go.Value.int Go.IntKind.u8 0), 1, 1)),
    i9 := Eq.refl (Option.some (Option.some (Go.Value.string { data := #[] }), 1, 16)),
    i46 := Eq.refl (Option.some (Option.some (Go.Value.int Go.IntKind.u64 0), 1, 8)),
    i53 := Eq.refl (Option.some (Option.some (Go.Value.int Go.IntKind.u64 0), 1, 8)),
    i212 :=
      Eq.refl
        (Option.some
          (Option.some
              (Go.Value.agg
                #[Go.Value.int Go.IntKind.u64 0, Go.Value.int Go.IntKind.u64 0, Go.Value.int Go.IntKind.u64 0,
                  Go.Value.int Go.IntKind.u64 0, Go.Value.int Go.IntKind.u64 0, Go.Value.int Go.IntKind.u64 0,
                  Go.Value.int Go.IntKind.u64 0, Go.Value.int Go.IntKind.u64 0, Go.Value.int Go.IntKind.u64 0,
                  Go.Value.int Go.IntKind.u64 0, Go.Value.int Go.IntKind.u64 0, Go.Value.int Go.IntKind.u64 0,
                  Go.Value.int Go.IntKind.u64 0, Go.Value.int Go.IntKind.u64 0, Go.Value.int Go.IntKind.u64 0,
                  Go.Value.int Go.IntKind.u64 0, Go.Value.int Go.IntKind.u64 0, Go.Value.int Go.IntKind.u64 0,
                  Go.Value.int Go.IntKind.u64 0, Go.Value.int Go.IntKind.u64 0]),
            20, 160)),
    m17 := by kernel_rfl }
def zeN : Go.Shelf.Ren :=
  {
    f := fun x =>
      match x with
      | 285 => 170
      | n => n,
    t := fun x =>
      match x with
      | 37 => 22
      | 53 => 86
      | 3 => 3
      | 4 => 4
      | 51 => 88
      | 9 => 9
      | 5 => 5
      | 0 => 0
      | n => n,
    g := fun x =>
      have n := x;
      n }
theorem zrm : Go.Proofs.Lays.n285 Go.Proofs.Tryz.prog zeN :=
  { mixed := by kernel_rfl,
    f285 :=
      Eq.trans Go.Proofs.Tryz.func170 (congrArg Option.some (Eq.refl (Go.Proofs.Body.n285 zeN))),
    t0 := Go.Proofs.Tryz.underlying0, a0 := Go.Proofs.Tryz.isAgg0, z0 := Go.Proofs.Tryz.sizeOf0,
    v0 := Go.Proofs.Tryz.zeroValue0, t3 := Go.Proofs.Tryz.underlying3, a3 := Go.Proofs.Tryz.isAgg3,
    z3 := Go.Proofs.Tryz.sizeOf3, v3 := Go.Proofs.Tryz.zeroValue3, t4 := Go.Proofs.Tryz.underlying4,
    a4 := Go.Proofs.Tryz.isAgg4, z4 := Go.Proofs.Tryz.sizeOf4, v4 := Go.Proofs.Tryz.zeroValue4,
    t5 := Go.Proofs.Tryz.underlying5, a5 := Go.Proofs.Tryz.isAgg5, z5 := Go.Proofs.Tryz.sizeOf5,
    v5 := Go.Proofs.Tryz.zeroValue5, t9 := Go.Proofs.Tryz.underlying9, a9 := Go.Proofs.Tryz.isAgg9,
    z9 := Go.Proofs.Tryz.sizeOf9, v9 := Go.Proofs.Tryz.zeroValue9, t37 := Go.Proofs.Tryz.underlying22,
    a37 := Go.Proofs.Tryz.isAgg22, z37 := Go.Proofs.Tryz.sizeOf22, v37 := Go.Proofs.Tryz.zeroValue22,
    t51 := Go.Proofs.Tryz.underlying88, a51 := Go.Proofs.Tryz.isAgg88, z51 := Go.Proofs.Tryz.sizeOf88,
    v51 := Go.Proofs.Tryz.zeroValue88, t53 := Go.Proofs.Tryz.underlying86, a53 := Go.Proofs.Tryz.isAgg86,
    z53 := Go.Proofs.Tryz.sizeOf86, v53 := Go.Proofs.Tryz.zeroValue86 }
def zY : Go.Shelf.Ren :=
  {
    f := fun x =>
      match x with
      | 155 => 40
      | 154 => 73
      | 138 => 108
      | 165 => 109
      | 143 => 110
      | 166 => 111
      | 197 => 112
      | 169 => 113
      | 195 => 144
      | 218 => 145
      | 240 => 146
      | 241 => 147
      | 219 => 134
      | 260 => 148
      | 276 => 190
      | 277 => 191
      | 217 => 123
      | 225 => 183
      | 224 => 96
      | 267 => 184
      | 266 => 172
      | 314 => 226
      | n => n,
    t := fun x =>
      match x with
      | 9 => 9
      | 3 => 3
      | 4 => 4
      | 72 => 161
      | 0 => 0
      | 76 => 164
      | 105 => 166
      | 21 => 21
      | 5 => 5
      | 70 => 159
      | 20 => 20
      | 37 => 22
      | 75 => 163
      | 127 => 133
      | 164 => 268
      | 46 => 85
      | 119 => 271
      | 139 => 274
      | 138 => 273
      | 146 => 206
      | 51 => 88
      | 80 => 168
      | n => n,
    g := fun x =>
      match x with
      | 1 => 0
      | 3 => 1
      | 4 => 2
      | n => n }
theorem zlz : Go.Proofs.Lays.n155 Go.Proofs.Tryz.prog zY :=
  { mixed := by kernel_rfl,
    f138 :=
      Eq.trans Go.Proofs.Tryz.func108 (congrArg Option.some (Eq.refl (Go.Proofs.Body.n138 zY))),
    f143 :=
      Eq.trans Go.Proofs.Tryz.func110 (congrArg Option.some (Eq.refl (Go.Proofs.Body.n143 zY))),
    f154 := Eq.trans Go.Proofs.Tryz.func73 (congrArg Option.some (Eq.refl (Go.Proofs.Body.n154 zY))),
    f155 := Eq.trans Go.Proofs.Tryz.func40 (congrArg Option.some (Eq.refl (Go.Proofs.Body.n155 zY))),
    f165 :=
      Eq.trans Go.Proofs.Tryz.func109 (congrArg Option.some (Eq.refl (Go.Proofs.Body.n165 zY))),
    f166 :=
      Eq.trans Go.Proofs.Tryz.func111 (congrArg Option.some (Eq.refl (Go.Proofs.Body.n166 zY))),
    f169 :=
      Eq.trans Go.Proofs.Tryz.func113 (congrArg Option.some (Eq.refl (Go.Proofs.Body.n169 zY))),
    f195 :=
      Eq.trans Go.Proofs.Tryz.func144 (congrArg Option.some (Eq.refl (Go.Proofs.Body.n195 zY))),
    f197 :=
      Eq.trans Go.Proofs.Tryz.func112 (congrArg Option.some (Eq.refl (Go.Proofs.Body.n197 zY))),
    f217 :=
      Eq.trans Go.Proofs.Tryz.func123 (congrArg Option.some (Eq.refl (Go.Proofs.Body.n217 zY))),
    f218 :=
      Eq.trans Go.Proofs.Tryz.func145 (congrArg Option.some (Eq.refl (Go.Proofs.Body.n218 zY))),
    f219 :=
      Eq.trans Go.Proofs.Tryz.func134 (congrArg Option.some (Eq.refl (Go.Proofs.Body.n219 zY))),
    f224 := Eq.trans Go.Proofs.Tryz.func96 (congrArg Option.some (Eq.refl (Go.Proofs.Body.n224 zY))),
    f225 :=
      Eq.trans Go.Proofs.Tryz.func183 (congrArg Option.some (Eq.refl (Go.Proofs.Body.n225 zY))),
    f240 :=
      Eq.trans Go.Proofs.Tryz.func146 (congrArg Option.some (Eq.refl (Go.Proofs.Body.n240 zY))),
    f241 :=
      Eq.trans Go.Proofs.Tryz.func147 (congrArg Option.some (Eq.refl (Go.Proofs.Body.n241 zY))),
    f260 :=
      Eq.trans Go.Proofs.Tryz.func148 (congrArg Option.some (Eq.refl (Go.Proofs.Body.n260 zY))),
    f266 :=
      Eq.trans Go.Proofs.Tryz.func172 (congrArg Option.some (Eq.refl (Go.Proofs.Body.n266 zY))),
    f267 :=
      Eq.trans Go.Proofs.Tryz.func184 (congrArg Option.some (Eq.refl (Go.Proofs.Body.n267 zY))),
    f276 :=
      Eq.trans Go.Proofs.Tryz.func190 (congrArg Option.some (Eq.refl (Go.Proofs.Body.n276 zY))),
    f277 :=
      Eq.trans Go.Proofs.Tryz.func191 (congrArg Option.some (Eq.refl (Go.Proofs.Body.n277 zY))),
    f314 :=
      Eq.trans Go.Proofs.Tryz.func226 (congrArg Option.some (Eq.refl (Go.Proofs.Body.n314 zY))),
    t0 := Go.Proofs.Tryz.underlying0, a0 := Go.Proofs.Tryz.isAgg0, z0 := Go.Proofs.Tryz.sizeOf0,
    v0 := Go.Proofs.Tryz.zeroValue0, t3 := Go.Proofs.Tryz.underlying3, a3 := Go.Proofs.Tryz.isAgg3,
    z3 := Go.Proofs.Tryz.sizeOf3, v3 := Go.Proofs.Tryz.zeroValue3, t4 := Go.Proofs.Tryz.underlying4,
    a4 := Go.Proofs.Tryz.isAgg4, z4 := Go.Proofs.Tryz.sizeOf4, v4 := Go.Proofs.Tryz.zeroValue4,
    t5 := Go.Proofs.Tryz.underlying5, a5 := Go.Proofs.Tryz.isAgg5, z5 := Go.Proofs.Tryz.sizeOf5,
    v5 := Go.Proofs.Tryz.zeroValue5, t9 := Go.Proofs.Tryz.underlying9, a9 := Go.Proofs.Tryz.isAgg9,
    z9 := Go.Proofs.Tryz.sizeOf9, v9 := Go.Proofs.Tryz.zeroValue9, t20 := Go.Proofs.Tryz.underlying20,
    a20 := Go.Proofs.Tryz.isAgg20, z20 := Go.Proofs.Tryz.sizeOf20, v20 := Go.Proofs.Tryz.zeroValue20,
    t21 := Go.Proofs.Tryz.underlying21, a21 := Go.Proofs.Tryz.isAgg21, z21 := Go.Proofs.Tryz.sizeOf21,
    v21 := Go.Proofs.Tryz.zeroValue21, t37 := Go.Proofs.Tryz.underlying22, a37 := Go.Proofs.Tryz.isAgg22,
    z37 := Go.Proofs.Tryz.sizeOf22, v37 := Go.Proofs.Tryz.zeroValue22, t46 := Go.Proofs.Tryz.underlying85,
    a46 := Go.Proofs.Tryz.isAgg85, z46 := Go.Proofs.Tryz.sizeOf85, v46 := Go.Proofs.Tryz.zeroValue85,
    t51 := Go.Proofs.Tryz.underlying88, a51 := Go.Proofs.Tryz.isAgg88, z51 := Go.Proofs.Tryz.sizeOf88,
    v51 := Go.Proofs.Tryz.zeroValue88, t70 := Go.Proofs.Tryz.underlying159, a70 := Go.Proofs.Tryz.isAgg159,
    z70 := Go.Proofs.Tryz.sizeOf159, v70 := Go.Proofs.Tryz.zeroValue159, t72 := Go.Proofs.Tryz.underlying161,
    a72 := Go.Proofs.Tryz.isAgg161, z72 := Go.Proofs.Tryz.sizeOf161, v72 := Go.Proofs.Tryz.zeroValue161,
    t75 := Go.Proofs.Tryz.underlying163, a75 := Go.Proofs.Tryz.isAgg163, z75 := Go.Proofs.Tryz.sizeOf163,
    v75 := Go.Proofs.Tryz.zeroValue163, t76 := Go.Proofs.Tryz.underlying164, a76 := Go.Proofs.Tryz.isAgg164,
    z76 := Go.Proofs.Tryz.sizeOf164, v76 := Go.Proofs.Tryz.zeroValue164, t105 := Go.Proofs.Tryz.underlying166,
    a105 := Go.Proofs.Tryz.isAgg166, z105 := Go.Proofs.Tryz.sizeOf166, v105 := Go.Proofs.Tryz.zeroValue166,
    t119 := Go.Proofs.Tryz.underlying271, a119 := Go.Proofs.Tryz.isAgg271, z119 := Go.Proofs.Tryz.sizeOf271,
    t127 := Go.Proofs.Tryz.underlying133, a127 := Go.Proofs.Tryz.isAgg133, z127 := Go.Proofs.Tryz.sizeOf133,
    v127 := Go.Proofs.Tryz.zeroValue133, t138 := Go.Proofs.Tryz.underlying273, a138 := Go.Proofs.Tryz.isAgg273,
    z138 := Go.Proofs.Tryz.sizeOf273, v138 := Go.Proofs.Tryz.zeroValue273, t139 := Go.Proofs.Tryz.underlying274,
    a139 := Go.Proofs.Tryz.isAgg274, z139 := Go.Proofs.Tryz.sizeOf274, v139 := Go.Proofs.Tryz.zeroValue274,
    t146 := Go.Proofs.Tryz.underlying206, a146 := Go.Proofs.Tryz.isAgg206, z146 := Go.Proofs.Tryz.sizeOf206,
    v146 := Go.Proofs.Tryz.zeroValue206, t164 := Go.Proofs.Tryz.underlying268, a164 := Go.Proofs.Tryz.isAgg268,
    z164 := Go.Proofs.Tryz.sizeOf268, v164 := Go.Proofs.Tryz.zeroValue268,
    g1 := by kernel_rfl, g3 := by kernel_rfl,
    g4 := by kernel_rfl }
abbrev zrq (_ : World) : Prop := True
theorem zq3 : Builder.Extra Tryz.prog zY where
  sizeBuilder := by kernel_rfl
  liesBuilder := by kernel_rfl
  t5 := zlz.t5
  a5 := zlz.a5
  z5 := zlz.z5
  v5 := zlz.v5
  infoByte := by kernel_rfl
  cellsByte := by kernel_rfl
  sizeByte := by kernel_rfl
  neB5 := by decide
end Go.Proofs.YtfbfcapoobmdpaaGreatDoor
namespace Go.Proofs.YtfbfcapoobmdpaaGreatDoor
open Go Go.Vx Go.Ob Go.RowKit
set_option linter.all false
set_option maxRecDepth 4000
theorem zz (n j:Nat):(bsv (List.replicate n 0))[j]? =if j < n then some (.int .u8 0) else none:=by
 unfold bsv
 rw [List.map_replicate,List.getElem?_replicate]
 rfl
variable [W0]
structure wO (L:List Chunk):Prop where
 ut:∀w,Vx.Holds w L→zrq w
 mx:∃m,∀w,Vx.Holds w L→w.cell? ⟨(wm.g 1),0,none⟩=some (.int .i64 m)
 pw:∀w,Vx.Holds w L→Lib.TabIs Tryz.prog w "internal/strconv.uint64pow10" .u64 Lib.pow10Tab
theorem wO.of {S L:List Chunk} (h:wO S) (hi:∀w,Vx.Holds w L→Vx.Holds w S):wO L:=
 ⟨fun w hw=>h.ut w (hi w hw),h.mx.imp fun m hm w hw=>hm w (hi w hw),fun w hw=>h.pw w (hi w hw)⟩
theorem wO.inc {S L:List Chunk} (h:wO S) (hi:Inc S L):wO L:=h.of fun w hw=>hi.holds hw
theorem wO.there {L:List Chunk} {C:Chunk} (h:wO L):wO (C::L):=h.of fun w hw=>hw.drop
theorem GvP.of_below {P:Program} {f:FuncId} {args:Array Value} {L:List Chunk} {v:Value} (h:∀w,Vx.Holds w L→Calls P f args w fun e w'=>e=.returned v∧Below w.heap.size w w'):GvP P f args L v:=
 ⟨fun w hw=>(h w hw).mono fun e w' he=>⟨v,L,he.1,⟨rfl,rfl⟩,hw.1,fun x hx=>by rw [he.2.block _ (hw.lt hx)];exact hw.2.1 x hx,he.2.os.trans hw.2.2.1,he.2.output.trans hw.2.2.2⟩⟩
theorem below_drewN (w:World) (n:Nat):Below w.heap.size w (w.drewN n):=⟨rfl,rfl,rfl,Nat.le_refl _,fun _ _=>rfl⟩
theorem zqz (s sep:List UInt8) (L:List Chunk) (hb:wO L) (hl:s.length < 4294967281) :
 GvP Tryz.prog 61 [.string (str s),.string (str sep)].toArray L (.tuple #[.string (str (Lib.cut s sep).1),.string (str (Lib.cut s sep).2.1),.bool (Lib.cut s sep).2.2]):=by
 obtain ⟨m,hm⟩:=hb.mx
 refine GvP.of_below fun w hw=>(Any.strings_Cut zrn (str s) (str sep) m w hl (hm w hw)).mono ?_
 rintro e w' ⟨rfl,n,rfl⟩
 exact ⟨rfl,below_drewN w n⟩
theorem zn1 (i:Nat) (L:List Chunk) (h:i < 100):GvP Tryz.prog 168 [.int .i64 (i:Int)].toArray L (.string (str (Lib.decDigits i))):=
 GvP.of_below fun w hw=>(Any.internal_strconv_small zrp i h w).mono (by rintro e w' ⟨rfl,rfl⟩;exact ⟨rfl,Below.refl _ _⟩)
theorem zet (u:Nat) (L:List Chunk) (hb:wO L) (h1:1≤u) (h2:u < 18446744073709551616):GvP Tryz.prog 169 [.int .u64 (u:Int)].toArray L (.int .i64 (Lib.nDigits u:Int)):=
 GvP.of_below fun w hw=>(Any.internal_strconv_numDigits zro u h1 h2 w (hb.pw w hw)).mono (by rintro e w' ⟨rfl,rfl⟩;exact ⟨rfl,Below.refl _ _⟩)
theorem Z5 {u:Nat} (h1:1≤u) (h2:u < 18446744073709551616):Lib.nDigits u≤20:=by
 have:=Lib.numDigits_eq u h1 h2
 split at this<;>omega
theorem zqK (b T u:Nat) (L:List Chunk) (h1:1≤u) (h2:u < 18446744073709551616) :
 Gv Tryz.prog 170 [.slice (some ⟨b,0,none⟩) (Lib.nDigits u) 24,.int .u64 (u:Int)].toArray ([(b,cl (bsv (List.replicate 24 0)) T)]::L)
  (fun r L'=>r=.tuple #[]∧∃rest,rest.length=24 - Lib.nDigits u∧L'=[(b,cl (bsv (Lib.decDigits u)++rest) T)]::L):=⟨fun w hw=>by
 have hnd:=Z5 h1 h2
 have hf:w.heap[b]? =some (cl (bsv (List.replicate 24 0)) T):=(Fnd.here:Fnd ([(b,_)]::L) b _).get hw
 have hH:Sort.Holds (fun (b:UInt8)=>Value.int .u8 (b.toNat:Int)) w b 0 (Array.replicate (Lib.nDigits u) (0:UInt8)):=fun j hj=>by
  have hj':j < Lib.nDigits u:=by simpa using hj
  constructor
  ·rw [Nat.zero_add,cell_of hf,getElem!_pos _ j hj,List.getElem?_toArray,zz,if_pos (by omega),Array.getElem_replicate]
   rfl
  ·simp [World.frozen?,hf,cl]
 have hc:=Any.internal_strconv_formatBase10 zrm b 0 24 u (Array.replicate (Lib.nDigits u) 0) w hH (by rw [Array.size_replicate];exact Lib.lt_pow_nDigits u) h2 (by rw [Array.size_replicate];omega)
 rw [Array.size_replicate] at hc
 refine hc.mono ?_
 rintro e w' ⟨rfl,n,v',dk,rfl,hF⟩
 have hsz:dk.size=Lib.nDigits u:=hF.size
 have hdk:dk.toList=Lib.decDigits u:=by
  refine List.ext_getElem (by rw [Array.length_toList,hsz,Lib.decDigits_length]) fun j hj1 hj2=>?_
  rw [Lib.row_is_numeral hF j hj2,getElem!_pos _ j (by simpa using hj1)]
  rfl
 have hrow:Sort.putCells (fun (b:UInt8)=>Value.int .u8 (b.toNat:Int)) 0 dk (bsv (List.replicate 24 0)).toArray=(bsv (Lib.decDigits u)++bsv (List.replicate (24 - Lib.nDigits u) 0)).toArray:=by
  apply Array.ext'
  rw [←hdk]
  refine List.ext_getElem? fun j=>?_
  unfold Sort.putCells
  simp only [Array.getElem?_toList,Array.getElem?_mapIdx,List.getElem?_toArray,List.toList_toArray]
  rw [zz]
  rcases Nat.lt_or_ge j dk.size with h|h
  ·rw [List.getElem?_append_left (by simpa [bsv] using h),if_pos (by omega)]
   simp [bsv,h,Array.getElem?_eq_getElem h]
  ·rw [List.getElem?_append_right (by simpa [bsv] using h),zz]
   have hl:(bsv dk.toList).length=dk.size:=by simp [bsv]
   rw [hl]
   rcases Nat.lt_or_ge j 24 with h'|h'
   ·rw [if_pos h',if_pos (by omega),Option.map_some,if_neg (by omega)]
   ·rw [if_neg (by omega),if_neg (by omega)]
    rfl
 refine ⟨.tuple #[],_,rfl,⟨rfl,bsv (List.replicate (24 - Lib.nDigits u) 0),by simp [bsv],rfl⟩,hw.upd .here ?_ ?_ rfl rfl⟩
 ·show (w.heap.modify b _)[b]? =_
  rw [Array.getElem?_modify,if_pos rfl,hf]
  show some (Obj.cells _ _ _)=_
  rw [hrow]
  rfl
 ·intro c hc
  show (w.heap.modify b _)[c]? =_
  rw [Array.getElem?_modify,if_neg (Ne.symm hc)]⟩
end Go.Proofs.YtfbfcapoobmdpaaGreatDoor
namespace Go.Vx
open Go
set_option linter.all false
variable [W0]
theorem yX {k:IntKind} (hs:k.signed=false) {m:Nat} (h:m < 2 ^ k.bits):k.wrap (m:Int)=(m:Int):=by
 unfold IntKind.wrap
 simp only [hs,Bool.false_and,Bool.false_eq_true,if_false]
 have c1:((2:Int) ^ k.bits)=((2 ^ k.bits:Nat):Int):=by simp
 rw [c1]
 have h2:((m:Nat):Int) < ((2 ^ k.bits:Nat):Int):=by exact_mod_cast h
 exact Int.emod_eq_of_lt (Int.natCast_nonneg m) h2
theorem vE {b m:Nat} (h:m < 2 ^ b):(BitVec.ofInt b (m:Int)).toNat=m:=by
 rw [BitVec.toNat_ofInt]
 have h2:((m:Nat):Int) < ((2 ^ b:Nat):Int):=by exact_mod_cast h
 rw [Int.emod_eq_of_lt (Int.natCast_nonneg m) h2]
 rfl
section
variable {P : Program} {n : Nat} {Q : Exit → Act → World → Prop} {M : List (Nat × Value)} {L : List Chunk} {K : List (Nat × Value) → List Chunk → Prop}
variable {d : Nat} {ty : TypeId} {ps : String} {af : Array Edge} {g : Option (Nat × Bool)} {x y : Operand} {v : Value}
theorem vH {t u:TypeId} {k k':IntKind} {i j:Int} (a s:Nat) (hx:ev M x=some (.int k i)) (hy:ev M y=some (.int k' j)) (hi:i=(a:Int)) (hj:j=(s:Int)) (hs:k.signed=false) (hr:a * 2 ^ s < 2 ^ k.bits) :
 EV P n ⟨some d,.binOp .shl t x y u,ty,ps,af,g⟩ M L d (.int k ((a * 2 ^ s:Nat):Int)):=by
 subst hi hj
 refine zfa hx hy (by omega) ?_
 rw [Int.toNat_natCast]
 rcases Nat.lt_or_ge k.bits s with h|h
 ·have h0:a=0:=by
   rcases Nat.eq_zero_or_pos a with h0|h0
   ·exact h0
   ·exfalso
    have h1:2 ^ k.bits≤2 ^ s:=Nat.pow_le_pow_right (by decide) (Nat.le_of_lt h)
    have h2:1 * 2 ^ s≤a * 2 ^ s:=Nat.mul_le_mul_right _ h0
    omega
  subst h0
  have:=yX hs (m:=0) (Nat.pow_pos (by decide))
  simpa using this
 ·rw [Nat.min_eq_left h]
  have c:(a:Int) * 2 ^ s=((a * 2 ^ s:Nat):Int):=by simp
  rw [c]
  exact yX hs hr
theorem Zo {t u:TypeId} {k k':IntKind} {i j:Int} (a s:Nat) (hx:ev M x=some (.int k i)) (hy:ev M y=some (.int k' j)) (hi:i=(a:Int)) (hj:j=(s:Int)) (hr:a < 2 ^ k.bits) :
 EV P n ⟨some d,.binOp .shr t x y u,ty,ps,af,g⟩ M L d (.int k ((a / 2 ^ s:Nat):Int)):=by
 subst hi hj
 refine ZP hx hy (by omega) ?_
 rw [Int.toNat_natCast]
 have c:∀q:Nat,(a:Int).fdiv (2 ^ q)=((a / 2 ^ q:Nat):Int):=fun q=>by
  have:((2:Int) ^ q)=((2 ^ q:Nat):Int):=by simp
  rw [this,Int.fdiv_eq_ediv_of_nonneg _ (Int.natCast_nonneg _),←Int.natCast_ediv]
 rw [c]
 rcases Nat.lt_or_ge k.bits s with h|h
 ·rw [Nat.min_eq_right (Nat.le_of_lt h),Nat.div_eq_of_lt hr,Nat.div_eq_of_lt (Nat.lt_of_lt_of_le hr (Nat.pow_le_pow_right (by decide) (Nat.le_of_lt h)))]
 ·rw [Nat.min_eq_left h]
theorem uM {t u:TypeId} {k:IntKind} {i j:Int} (a s:Nat) (hx:ev M x=some (.int k i)) (hy:ev M y=some (.int k j)) (hi:i=(a:Int)) (hj:j=((2 ^ s - 1:Nat):Int)) (hs:k.signed=false) (ha:a < 2 ^ k.bits) (hb:s≤k.bits) :
 EV P n ⟨some d,.binOp .and t x y u,ty,ps,af,g⟩ M L d (.int k ((a % 2 ^ s:Nat):Int)):=by
 subst hi hj
 refine wZ (op:=.and) hx hy ?_
 have h1:2 ^ s - 1 < 2 ^ k.bits:=by
  have:=Nat.pow_le_pow_right (n:=2) (by decide) hb
  have h0:0 < 2 ^ s:=Nat.pow_pos (by decide)
  omega
 show some (k.wrap ((BitVec.ofInt k.bits (a:Int)&&&BitVec.ofInt k.bits ((2 ^ s - 1:Nat):Int)).toNat:Int))=_
 rw [BitVec.toNat_and,vE ha,vE h1,Nat.and_two_pow_sub_one_eq_mod,yX hs (Nat.lt_of_le_of_lt (Nat.mod_le _ _) ha)]
theorem zkQ {a b s:Nat} (h:a < 2 ^ s):a|||b * 2 ^ s=a+b * 2 ^ s:=by
 rw [Nat.mul_comm,Nat.or_comm,←Nat.two_pow_add_eq_or_of_lt h,Nat.add_comm]
theorem ze9 {t u:TypeId} {k:IntKind} {i j:Int} (a b s:Nat) (hx:ev M x=some (.int k i)) (hy:ev M y=some (.int k j)) (hi:i=(a:Int)) (hj:j=((b * 2 ^ s:Nat):Int)) (hs:k.signed=false) (ha:a < 2 ^ s) (hr:a+b * 2 ^ s < 2 ^ k.bits) :
 EV P n ⟨some d,.binOp .or t x y u,ty,ps,af,g⟩ M L d (.int k ((a+b * 2 ^ s:Nat):Int)):=by
 subst hi hj
 refine wZ (op:=.or) hx hy ?_
 show some (k.wrap ((BitVec.ofInt k.bits (a:Int)|||BitVec.ofInt k.bits ((b * 2 ^ s:Nat):Int)).toNat:Int))=_
 rw [BitVec.toNat_or,vE (by omega),vE (by omega),zkQ ha,yX hs hr]
theorem YT {t u:TypeId} {k:IntKind} {i j:Int} (a b s:Nat) (hx:ev M x=some (.int k i)) (hy:ev M y=some (.int k j)) (hi:i=((b * 2 ^ s:Nat):Int)) (hj:j=(a:Int)) (hs:k.signed=false) (ha:a < 2 ^ s) (hr:a+b * 2 ^ s < 2 ^ k.bits) :
 EV P n ⟨some d,.binOp .or t x y u,ty,ps,af,g⟩ M L d (.int k ((a+b * 2 ^ s:Nat):Int)):=by
 subst hi hj
 refine wZ (op:=.or) hx hy ?_
 show some (k.wrap ((BitVec.ofInt k.bits ((b * 2 ^ s:Nat):Int)|||BitVec.ofInt k.bits (a:Int)).toNat:Int))=_
 rw [BitVec.toNat_or,vE (by omega),vE (by omega),Nat.or_comm,zkQ ha,yX hs hr]
theorem vG {s t:Nat} {k k':IntKind} [h1:IK P s k] [h2:IK P t k'] {i:Int} (a:Nat) (hx:ev M x=some (.int k i)) (hi:i=(a:Int)) (hs:k'.signed=false) (ha:a < 2 ^ k'.bits) :
 EV P n ⟨some d,.convert s t x,ty,ps,af,g⟩ M L d (.int k' (a:Int)):=by
 subst hi
 exact zO hx (yX hs ha)
theorem uZ (a:Nat):IntKind.u8.wrap (a:Int)=((UInt8.ofNat a).toNat:Int):=by
 rw [wrap_u8,UInt8.toNat_ofNat']
 omega
theorem ziB {s t:Nat} {k:IntKind} [h1:IK P s k] [h2:IK P t .u8] {i:Int} (a:Nat) (hx:ev M x=some (.int k i)) (hi:i=(a:Int)) :
 EV P n ⟨some d,.convert s t x,ty,ps,af,g⟩ M L d (.int .u8 ((UInt8.ofNat a).toNat:Int)):=by
 subst hi
 refine zO hx ?_
 rw [wrap_u8,UInt8.toNat_ofNat']
 omega
theorem uN {t u:TypeId} {i j:Int} (a b:Nat) (hx:ev M x=some (.int .i64 i)) (hy:ev M y=some (.int .i64 j)) (hi:i=(a:Int)) (hj:j=(b:Int)) (hb:b≠0) (ha:a≤9223372036854775807) :
 EV P n ⟨some d,.binOp .quo t x y u,ty,ps,af,g⟩ M L d (.int .i64 ((a / b:Nat):Int)):=by
 subst hi hj
 have:=ziC (P:=P) (n:=n) (L:=L) (d:=d) (ty:=ty) (ps:=ps) (af:=af) (g:=g) (t:=t) (u:=u) hx hy (by omega)
 have e:IntKind.i64.wrap (((a:Nat):Int).tdiv (b:Int))=((a / b:Nat):Int):=by
  rw [Int.tdiv_eq_ediv_of_nonneg (by omega),←Int.natCast_ediv]
  have:a / b≤a:=Nat.div_le_self _ _
  generalize a / b=q at *
  exact wrap_i64 (by omega) (by omega)
 rwa [e] at this
theorem XC {t u:TypeId} {k:IntKind} {i j:Int} (a b:Nat) (hx:ev M x=some (.int k i)) (hy:ev M y=some (.int k j)) (hi:i=(a:Int)) (hj:j=(b:Int)) (hb:b≠0) :
 EV P n ⟨some d,.binOp .rem t x y u,ty,ps,af,g⟩ M L d (.int k ((a % b:Nat):Int)):=by
 subst hi hj
 have:=Xm (P:=P) (n:=n) (L:=L) (d:=d) (ty:=ty) (ps:=ps) (af:=af) (g:=g) (t:=t) (u:=u) hx hy (by omega)
 have e:((a:Nat):Int).tmod (b:Int)=((a % b:Nat):Int):=by
  rw [Int.tmod_eq_emod_of_nonneg (by omega),Int.natCast_emod]
 rwa [e] at this
end
omit [W0] in
def val:List UInt8→Nat
 |[]=>0
 |b::r=>b.toNat+256 * val r
omit [W0] in
def byB (V i:Nat):UInt8:=UInt8.ofNat (V / 2 ^ (8 * i))
omit [W0] in
def leB (V k:Nat):List UInt8:=(List.range k).map (byB V)
theorem zkU (i:Nat):2 ^ (8 * (i+1))=256 * 2 ^ (8 * i):=by
 rw [Nat.mul_add,Nat.pow_add,Nat.mul_comm]
theorem zl5:∀d:List UInt8,val d < 2 ^ (8 * d.length)
 |[]=>by simp [val]
 |b::r=>by
  have:=zl5 r
  have hb:=b.toNat_lt
  rw [List.length_cons,zkU]
  simp only [val]
  omega
theorem zay:∀(d:List UInt8) (i:Nat),i < d.length→val d / 2 ^ (8 * i) % 256=(d.getD i 0).toNat
 |[],i,h=>by simp at h
 |b::r,0,_=>by
  have hb:=b.toNat_lt
  simp [val]
 |b::r,i+1,h=>by
  have hb:=b.toNat_lt
  have h2:=zay r i (by simpa using h)
  rw [zkU,←Nat.div_div_eq_div_mul]
  have e:val (b::r) / 256=val r:=by simp only [val];omega
  rw [e,h2]
  simp
theorem qx (V k:Nat):(leB V k).length=k:=by simp [leB]
theorem za8 (V k:Nat):leB V (k+1)=leB V k++[byB V k]:=by simp [leB,List.range_succ]
theorem uX (V i:Nat):(byB V i).toNat=V / 2 ^ (8 * i) % 256:=by simp [byB,UInt8.toNat_ofNat']
theorem zgx {V N x i:Nat} (h:8 * (i+1)≤N):byB (V+2 ^ N * x) i=byB V i:=by
 apply UInt8.toNat_inj.1
 rw [uX,uX]
 obtain ⟨j,rfl⟩:=Nat.le.dest h
 rw [Nat.pow_add,zkU,show 256 * 2 ^ (8 * i) * 2 ^ j * x=2 ^ (8 * i) * (256 * (2 ^ j * x)) from by ac_rfl,Nat.add_mul_div_left _ _ (Nat.pow_pos (by decide)),Nat.add_mul_mod_self_left]
theorem znp {V N x k:Nat} (h:8 * k≤N):leB (V+2 ^ N * x) k=leB V k:=by
 unfold leB
 refine List.map_congr_left fun i hi=>?_
 have:=List.mem_range.1 hi
 exact zgx (by omega)
theorem zmH {d:List UInt8} {i:Nat} (h:i < d.length):byB (val d) i=d.getD i 0:=by
 apply UInt8.toNat_inj.1
 rw [uX,zay d i h]
theorem znq {V k:Nat} (h:V < 2 ^ (8 * k)) (b:List UInt8):leB (V+2 ^ (8 * k) * val b) (k+b.length)=leB V k++b:=by
 apply List.ext_getElem?
 intro i
 rcases Nat.lt_or_ge i k with hi|hi
 ·rw [List.getElem?_append_left (by rw [qx];exact hi)]
  simp only [leB,List.getElem?_map]
  rw [List.getElem?_range (by omega),List.getElem?_range hi]
  simp only [Option.map_some]
  rw [zgx (by omega)]
 ·rw [List.getElem?_append_right (by rw [qx];exact hi),qx]
  rcases Nat.lt_or_ge i (k+b.length) with h2|h2
  ·simp only [leB,List.getElem?_map]
   rw [List.getElem?_range h2]
   have e:byB (V+2 ^ (8 * k) * val b) i=byB (val b) (i - k):=by
    apply UInt8.toNat_inj.1
    rw [uX,uX,show 8 * i=8 * k+8 * (i - k) from by omega,Nat.pow_add,←Nat.div_div_eq_div_mul,Nat.add_mul_div_left _ _ (Nat.pow_pos (by decide)),Nat.div_eq_of_lt h,Nat.zero_add]
   have h3:i - k < b.length:=by omega
   simp only [Option.map_some,e,zmH h3]
   simp [List.getD_eq_getElem?_getD,h3]
  ·rw [List.getElem?_eq_none (by rw [qx];exact h2),List.getElem?_eq_none (by omega)]
theorem zof (a:List UInt8) (x:UInt8):val (a++[x])=val a+2 ^ (8 * a.length) * x.toNat:=by
 induction a with
 |nil=>simp [val]
 |cons b r ih=>
  simp only [List.cons_append,val,ih,List.length_cons,zkU]
  rw [Nat.mul_add,Nat.mul_assoc]
  omega
theorem zhF:∀(k V:Nat),val (leB V k)=V % 2 ^ (8 * k)
 |0,V=>by simp [leB,val,Nat.mod_one]
 |k+1,V=>by
  rw [za8,zof,zhF k V,qx,uX,zkU,Nat.mul_comm 256,Nat.mod_mul]
omit [W0] in
def mir (v:Nat):Nat→Nat
 |0=>0
 |i+1=>2 * mir v i+v / 2 ^ i % 2
theorem zde (v:Nat):∀i,mir v i < 2 ^ i
 |0=>by simp [mir]
 |i+1=>by
  have:=zde v i
  simp only [mir]
  omega
end Go.Vx
namespace Go.Proofs.YtfbfcapoobmdpaaGreatDoor
open Go Go.Vx Go.Ob
set_option linter.all false
variable [W0]
set_option maxRecDepth 4000
omit [W0] in
theorem zcV:∀(f n:Nat),n < 10 ^ (f+1)→dgF (f+1) n=Lib.decDigits n
 |0,n,h=>by
  unfold dgF
  rw [if_pos (by simpa using h),Lib.decDigits_one (by simpa using h)]
 |f+1,n,h=>by
  rw [Lib.decDigits]
  unfold dgF
  split
  ·rfl
  ·rw [zcV f (n / 10) (by rw [Nat.pow_succ] at h;omega)]
omit [W0] in
theorem zcX {n:Nat} (h:n < 100000000000000000000):dgL n=Lib.decDigits n:=zcV 19 n h
theorem wK (u:Nat) (h:u < 18446744073709551616):Lib.nDigits u≤20:=by
 rcases Nat.eq_zero_or_pos u with rfl|h1
 ·rw [Lib.nDigits_small (by decide)];decide
 ·exact Z5 h1 h
theorem zcK (u m:Nat) (v:Value) (xs:List Value) (C:Chunk) (L:List Chunk) (hb:wO L) (h:OwG 5 v m xs C) (hm:m≤1000000) (hu:u < 18446744073709551616) :
 Gv Tryz.prog 122 [v,.int .u64 (u:Int),.int .i64 10].toArray (C::L) (fun r L'=>∃C',OwG 5 r (m+(Lib.decDigits u).length) (xs++bsv (Lib.decDigits u)) C'∧L'=C'::L):=by
 refine Gv.of_body (args:=[v,.int .u64 (u:Int),.int .i64 10]) Tryz.func122 rfl rfl ?_
 (repeat' first|refine kW ?_|refine kU fun bk=>?_|refine kV fun hc=>?_|refine kZ (fun hc=>?_) fun hc=>?_|fail)
 ·refine wR rfl rfl rfl (zn1 u _ (by omega)) rfl ?_
  refine kW ?_
  refine ziG rfl rfl h (by repeat (first|exact Zip.here _|apply Zip.there)) (by rw [yD,Lib.decDigits_length];have:=wK u hu;omega) (by rw [yD,Lib.decDigits_length];have:=wK u hu;unfold maxLen;omega) rfl (fun v' C' ho=>?_)
  refine kW ?_
  refine kR ?_
  exact ⟨_,iC,C',ho,rfl⟩
 ·refine wR rfl rfl rfl (zet u _ hb.there.there (by omega) hu) rfl ?_
  refine kW ?_
  have hnd:=Z5 (by omega:1≤u) hu
  refine ze (uw (l:=0) (h:=Lib.nDigits u) rfl rfl rfl (Nat.zero_le _) (by omega) (by omega)) rfl ?_
  refine kW ?_
  refine qF rfl rfl rfl (zqK _ _ u (C::L) (by omega) hu) rfl (fun r L' hp=>?_)
  obtain ⟨rfl,rest,hrl,rfl⟩:=hp
  refine kW ?_
  refine ze (uw (l:=0) (h:=Lib.nDigits u) rfl rfl rfl (Nat.zero_le _) (by omega) (by omega)) rfl ?_
  refine kW ?_
  have hdl:=Lib.decDigits_length u
  refine XD rfl rfl h (zF (xs:=bsv (Lib.decDigits u)) (m:=Lib.nDigits u) Fnd.here (by rw [zH,hdl];omega) (by simp)) (by repeat (first|exact Zip.here _|apply Zip.there)) (by rfl) yj (by omega) (by unfold maxLen;omega) rfl (fun v' C' ho=>?_)
  refine kW ?_
  refine kR ?_
  rw [←hdl] at ho
  exact ⟨_,iC,C',ho,rfl⟩
theorem zdO (i m:Nat) (v:Value) (xs:List Value) (C:Chunk) (L:List Chunk) (hb:wO L) (h:OwG 5 v m xs C) (hm:m≤1000000) (hu:i≤9223372036854775807) :
 Gv Tryz.prog 48 [v,.int .i64 (i:Int),.int .i64 10].toArray (C::L) (fun r L'=>∃C',OwG 5 r (m+(Lib.decDigits i).length) (xs++bsv (Lib.decDigits i)) C'∧L'=C'::L):=by
 refine Gv.of_body (args:=[v,.int .i64 (i:Int),.int .i64 10]) Tryz.func48 rfl rfl ?_
 refine kW ?_
 have hin:Gv Tryz.prog 79 [v,.int .i64 (i:Int),.int .i64 10].toArray (C::L) (fun r L'=>∃C',OwG 5 r (m+(Lib.decDigits i).length) (xs++bsv (Lib.decDigits i)) C'∧L'=C'::L):=by
  refine Gv.of_body (args:=[v,.int .i64 (i:Int),.int .i64 10]) Tryz.func79 rfl rfl ?_
  refine kW ?_
  refine qF rfl rfl rfl (zcK i m v xs C L hb h hm (by omega)) rfl (fun r L' hp=>?_)
  obtain ⟨C',ho,rfl⟩:=hp
  refine kW ?_
  refine kR ?_
  exact ⟨_,iC,C',ho,rfl⟩
 refine qF rfl rfl rfl hin rfl (fun r L' hp=>?_)
 obtain ⟨C',ho,rfl⟩:=hp
 refine kW ?_
 refine kR ?_
 exact ⟨_,iC,C',ho,rfl⟩
theorem zeh (k n:Int) (L:List Chunk) (hb:wO L) (hn:n≤9223372036854775807) :
 Gv Tryz.prog 22 [.int .i64 k,.int .i64 n].toArray L (fun r L'=>∃C,OwG 5 r (hdL k n).length (bsv (hdL k n)) C∧L'=C::L):=by
 refine Gv.of_body (args:=[.int .i64 k,.int .i64 n]) Tryz.func22 rfl rfl ?_
 refine kW ?_
 refine wR rfl rfl rfl (zbd k _) rfl ?_
 refine kW ?_
 have h6:=zdf k
 refine zcz rfl (by rw [yD];unfold maxLen;omega) rfl (fun v C ho=>?_)
 rw [yD,zeV] at ho
 refine kW ?_
 refine zl (cs:=bsv [32]) rfl (by rfl) (by simp [zA,patch,Value.cells,zeros];rfl) (by omega) rfl rfl (fun b1=>?_)
 refine kW ?_
 refine XD rfl rfl (OwG.f ho) (zF (xs:=bsv [32]) (m:=1) Fnd.here rfl (by simp)) (by repeat (first|exact Zip.here _|apply Zip.there)) (by rfl) yj (by omega) (by unfold maxLen;omega) rfl (fun v1 C1 h1=>?_)
 refine kW ?_
 obtain ⟨i,hi⟩:∃i:Nat,max n 0=(i:Int):=⟨(max n 0).toNat,by omega⟩
 rw [hi]
 have hi2:i≤9223372036854775807:=by omega
 refine qF rfl rfl rfl (Gv.take (zdO i _ v1 _ C1 _ (hb.there) h1 (by omega) hi2) (by repeat (first|exact Take.here|apply Take.there))) rfl (fun r L' hp=>?_)
 obtain ⟨C2,h2,rfl⟩:=hp
 refine kW ?_
 refine zl (cs:=bsv [0]) rfl (by rfl) (by simp [zA,patch,Value.cells,zeros];rfl) (by omega) rfl rfl (fun b2=>?_)
 refine kW ?_
 have hd:=wK i (by omega)
 rw [←Lib.decDigits_length] at hd
 refine XD rfl rfl h2 (zF (xs:=bsv [0]) (m:=1) Fnd.here rfl (by simp)) (by repeat (first|exact Zip.here _|apply Zip.there)) (by rfl) yj (by omega) (by unfold maxLen;omega) rfl (fun v3 C3 h3=>?_)
 refine kW ?_
 refine kR ?_
 have e:hdL k n=nmI k++[32]++Lib.decDigits i++[0]:=by
  unfold hdL
  rw [hi,Int.toNat_natCast,zcX (by omega)]
 refine ⟨C3::L,iC,C3,?_,rfl⟩
 have e2:(nmI k++[32]++Lib.decDigits i++[0]).length=(nmI k).length+1+(Lib.decDigits i).length+1:=by simp only [List.length_append,List.length_cons,List.length_nil]
 rw [e,e2,yt,yt,yt]
 exact h3
theorem zc6 (k n:Int) (hn:n≤9223372036854775807):(hdL k n).length≤28:=by
 have h6:=zdf k
 have hd:=wK (max n 0).toNat (by omega)
 rw [←Lib.decDigits_length] at hd
 unfold hdL
 rw [zcX (by omega)]
 simp only [List.length_append,List.length_cons,List.length_nil]
 omega
theorem OwG.slc {e m:Nat} {v:Value} {xs:List Value} {C:Chunk} {L:List Chunk} (h:OwG e v m xs C):SlC (C::L) 1 v m xs:=⟨h.sl,h.room⟩
theorem id_n (k:Int) (v:Value) (t:List UInt8) (L:List Chunk) (hb:wO L) (ht:t.length≤140737488351232) (hv:SlC L 1 v t.length (bsv t)) :
 GvP Tryz.prog 30 [.int .i64 k,v].toArray L (.string (str (idL k t))):=by
 obtain ⟨a,c,rfl,hac⟩:=hv.room
 refine Gv.of_body (args:=[.int .i64 k,.slice a t.length c]) Tryz.func30 rfl rfl ?_
 refine kW ?_
 refine qF rfl rfl rfl (zeh k t.length L hb (by omega)) rfl (fun r L' hp=>?_)
 obtain ⟨C,ho,rfl⟩:=hp
 have hl:=zc6 k t.length (by omega)
 refine kW ?_
 refine XD rfl rfl ho hv.there.sl (by repeat (first|exact Zip.here _|apply Zip.there)) (by rfl) yj (by omega) (by unfold maxLen;omega) rfl (fun v1 C1 h1=>?_)
 rw [←yt,←List.length_append] at h1
 refine kW ?_
 refine qF rfl rfl rfl (zp7 (hdL k t.length++t) v1 _ (by rw [List.length_append];omega) (OwG.slc h1)) rfl (fun r L' hp=>?_)
 obtain ⟨C2,rfl,h2⟩:=hp
 refine kW ?_
 refine wR rfl rfl rfl (zqM (zf7 (hdL k t.length++t)) _ _ (by rw [QY];decide) (by rw [QY];exact SlC.ow h2)) rfl ?_
 refine kW ?_
 exact kE
theorem zj5 (s:List UInt8) (L:List Chunk) (hs:s.length≤9223372036854775807):GvP Tryz.prog 27 [.string (str s)].toArray L (.bool (X3 s)):=by
 refine Gv.of_body Tryz.func27 rfl rfl ?_
 (repeat' first|refine kW ?_|refine kU fun bk=>?_|refine kV fun hc=>?_|refine kZ (fun hc=>?_) fun hc=>?_|fail)
 ·rw [yD] at hc
  refine kR ?_
  exact ⟨_,iC,by unfold X3;rw [decide_eq_false (by omega)];rfl,rfl⟩
 ·rw [yD] at hc
  refine qF rfl rfl rfl (zoc s L (by omega)) rfl (fun r L' hp=>?_)
  obtain ⟨v,C,rfl,rfl,ho⟩:=hp
  refine kW ?_
  refine kR ?_
  exact ⟨L,iC,by unfold X3;rw [decide_eq_true (by omega)];rfl,rfl⟩
theorem zil (s:List UInt8) (L:List Chunk) (hs:s.length≤140737488355328):GvP Tryz.prog 15 [.string (str s)].toArray L (.bool (X3 s)):=by
 refine Gv.of_body Tryz.func15 rfl rfl ?_
 refine kW ?_
 refine qF rfl rfl rfl (zf1 s L hs) rfl (fun r L' hp=>?_)
 obtain ⟨v,C,rfl,rfl,ho⟩:=hp
 obtain ⟨a,c,rfl⟩:=zM ho
 cases hu:unB s with
 |true=>
  have hl:(unL s).length=s.length / 2:=by unfold unL;rw [if_pos hu,Yz]
  have hev:s.length % 2=0:=by
   rcases Nat.eq_zero_or_pos (s.length % 2) with h|h
   ·exact h
   ·rw [zdD (by omega)] at hu;exact absurd hu (by decide)
  refine kW ?_
  refine kR ?_
  refine ⟨L,iC,?_,rfl⟩
  unfold X3
  rw [hu,Bool.and_true,hl]
  show Value.bool _=Value.bool _
  congr 1
  rw [Bool.eq_iff_iff]
  simp
  omega
 |false=>
  refine kW ?_
  refine kR ?_
  exact ⟨L,iC,by unfold X3;rw [hu,Bool.and_false];rfl,rfl⟩
theorem zjE (n:Nat) (L:List Chunk) (hn:n≤9223372036854775807):GvP Tryz.prog 44 [.int .i64 (n:Int)].toArray L (.string (str (dgL n))):=by
 refine Gv.of_body Tryz.func44 rfl rfl ?_
 have hd:=wK n (by omega)
 rw [←Lib.decDigits_length] at hd
 have hby:∀a:Nat,a < 10→IntKind.u8.wrap (48+IntKind.u8.wrap (a:Int))=((UInt8.ofNat (48+a)).toNat:Int):=fun a ha=>by
  rw [wrap_u8,wrap_u8,UInt8.toNat_ofNat'];omega
 rw [zcX (by omega)]
 refine kW ?_
 refine zn (X:=Nat × List UInt8) (fun x=>[(0,.int .i64 (x.1:Int)),(3,.string (str x.2))]) (fun _=>L) (fun x=>x.1≤n∧Lib.decDigits x.1++x.2=Lib.decDigits n) (fun x=>x.1) (n,[]) ⟨Nat.le_refl _,by simp⟩ iS (fun w h=>h) ?_
 intro x ⟨h1,h2⟩
 obtain ⟨k,s⟩:=x
 simp only at h1 h2 ⊢
 have hsl:(Lib.decDigits k).length+s.length≤20:=by rw [←List.length_append,h2];exact hd
 (repeat' first|refine kW ?_|refine kU fun bk=>?_|refine kV fun hc=>?_|refine kZ (fun hc=>?_) fun hc=>?_|fail)
 ·refine ze (XC k 10 rfl rfl rfl rfl (by decide)) rfl ?_
  refine kW ?_
  refine ze (qj rfl rfl rfl) rfl ?_
  obtain ⟨c,hcq⟩:∃c,c=UInt8.ofNat (48+k % 10):=⟨_,rfl⟩
  rw [hby _ (by omega),←hcq]
  refine kW ?_
  refine zl (cs:=bsv [c]) rfl (by rfl) (by simp [zA,patch,Value.cells,zeros];rfl) (by omega) rfl rfl (fun b1=>?_)
  refine kW ?_
  refine ze (qC (b:=[c]) (m:=1) rfl (zF Fnd.here rfl (by simp))) rfl ?_
  refine kW ?_
  refine ze (wV [c] s rfl rfl (by simp;omega)) rfl ?_
  refine kW ?_
  refine ze (uN k 10 rfl rfl rfl rfl (by decide) (by omega)) rfl ?_
  refine kW ?_
  refine zf (X:=Nat × List UInt8) (μ:=fun x=>x.1) (x:=(k,s)) (k / 10,[c]++s) (by simp only;omega) ⟨by simp only;omega,?_⟩ iS (fun w h=>iH h)
  rw [←h2]
  simp only [hcq]
  conv=>rhs;rw [Lib.decDigits,dif_neg (by omega)]
  simp
 ·refine ze (qj rfl rfl rfl) rfl ?_
  obtain ⟨c,hcq⟩:∃c,c=UInt8.ofNat (48+k):=⟨_,rfl⟩
  rw [hby k (by omega),←hcq]
  refine kW ?_
  refine zl (cs:=bsv [c]) rfl (by rfl) (by simp [zA,patch,Value.cells,zeros];rfl) (by omega) rfl rfl (fun b1=>?_)
  refine kW ?_
  refine ze (qC (b:=[c]) (m:=1) rfl (zF Fnd.here rfl (by simp))) rfl ?_
  refine kW ?_
  refine ze (wV [c] s rfl rfl (by simp;omega)) rfl ?_
  refine kW ?_
  refine kR ?_
  refine ⟨L,iC,?_,rfl⟩
  rw [←h2,Lib.decDigits_one (by omega),←hcq]
  rfl
theorem zeC (k n:Int) (L:List Chunk) (hn:n≤9223372036854775807):GvP Tryz.prog 20 [.int .i64 k,.int .i64 n].toArray L (.string (str (hdL k n))):=by
 refine Gv.of_body (args:=[.int .i64 k,.int .i64 n]) Tryz.func20 rfl rfl ?_
 refine kW ?_
 have h6:=zdf k
 refine wR rfl rfl rfl (zim k _) rfl ?_
 refine kW ?_
 refine ze (wV (nmI k) [32] rfl rfl (by simp;omega)) rfl ?_
 refine kW ?_
 obtain ⟨i,hi⟩:∃i:Nat,max n 0=(i:Int):=⟨(max n 0).toNat,by omega⟩
 rw [hi]
 have hi2:i≤9223372036854775807:=by omega
 have hd:=wK i (by omega)
 rw [←Lib.decDigits_length,←zcX (by omega)] at hd
 refine wR rfl rfl rfl (zjE i _ hi2) rfl ?_
 refine kW ?_
 refine ze (wV (nmI k++[32]) (dgL i) rfl rfl (by simp;omega)) rfl ?_
 refine kW ?_
 refine ze (wV (nmI k++[32]++dgL i) [0] rfl rfl (by simp;omega)) rfl ?_
 refine kW ?_
 refine kR ?_
 exact ⟨_,iC,by unfold hdL;rw [hi,Int.toNat_natCast];rfl,rfl⟩
end Go.Proofs.YtfbfcapoobmdpaaGreatDoor
namespace Go.Ob
open Go Go.Lib Go.Proofs.YtfbfcapoobmdpaaGreatDoor
set_option linter.all false
theorem zq0 {α:Type} {q:List α→Prop} (h0:q []) (hs:∀l x,q l→q (l++[x])) (l:List α):q l:=by
 have:∀(n:Nat) (l:List α),l.length=n→q l:=by
  intro n
  induction n with
  |zero=>intro l hl;rw [List.eq_nil_of_length_eq_zero hl];exact h0
  |succ n ih=>
   intro l hl
   rcases List.eq_nil_or_concat l with rfl|⟨m,x,rfl⟩
   ·exact h0
   ·rw [List.concat_eq_append] at hl ⊢
    exact hs m x (ih m (by simp at hl;omega))
 exact this _ l rfl
theorem zgF:∀(f n:Nat),(dgF f n).all (fun b=>inD b.toNat)=true
 |0,_=>rfl
 |f+1,n=>by
  have hd:∀j,j < 10→inD (UInt8.ofNat (48+j)).toNat=true:=by decide
  unfold dgF
  split
  ·rw [List.all_cons,hd n (by omega)];rfl
  ·rw [List.all_append,zgF f,Bool.true_and]
   rw [List.all_cons,hd (n % 10) (by omega)];rfl
theorem zjC (f n:Nat):dgF (f+1) n≠[]:=by
 unfold dgF
 split<;>simp
theorem zd9:∀(f n:Nat),0 < n→n < 10 ^ (f+1)→(dgF (f+1) n).getD 0 0≠48
 |0,n,h,hn=>by
  have hd:∀j,j < 10→0 < j→UInt8.ofNat (48+j)≠48:=by decide
  unfold dgF
  rw [if_pos (by simpa using hn)]
  exact hd n (by simpa using hn) h
 |f+1,n,h,hn=>by
  have hd:∀j,j < 10→0 < j→UInt8.ofNat (48+j)≠48:=by decide
  unfold dgF
  split
  ·exact hd n (by omega) h
  ·have ih:=zd9 f (n / 10) (by omega) (by rw [Nat.pow_succ] at hn;omega)
   have hne:=zjC f (n / 10)
   obtain ⟨c,r,hcr⟩:=List.exists_cons_of_ne_nil hne
   rw [hcr] at ih ⊢
   exact ih
def vlD (l:List UInt8):Nat:=l.foldl (fun a c=>10 * a+(c.toNat - 48)) 0
theorem Qh (l:List UInt8) (c:UInt8):vlD (l++[c])=10 * vlD l+(c.toNat - 48):=by simp [vlD]
theorem zl6 (p:List UInt8):∀q:List UInt8,vlD p≤vlD (p++q):=
 zq0 (by simp) (fun l x ih=>by rw [←List.append_assoc,Qh];omega)
theorem Qo {n:Nat} (h:n < 10):dgL n=[UInt8.ofNat (48+n)]:=by
 unfold dgL dgF
 rw [if_pos h]
theorem zd8 {n:Nat} (h:10≤n) (hn:n < 10000000000000000000):dgL n=dgL (n / 10)++[UInt8.ofNat (48+n % 10)]:=by
 have h1:dgF 19 (n / 10)=dgF 20 (n / 10):=by
  rw [zcV 18 (n / 10) (by omega),zcV 19 (n / 10) (by omega)]
 show dgF 20 n=dgF 20 (n / 10)++_
 rw [←h1]
 conv=>lhs;unfold dgF
 rw [if_neg (by omega)]
def GdD (s:List UInt8):Prop:=s≠[]∧(∀b∈s,48≤b.toNat∧b.toNat≤57)∧(2≤s.length→s.getD 0 0≠48)
theorem zcW (n:Nat):∀b∈dgL n,48≤b.toNat∧b.toNat≤57:=fun b hb=>by
 have:=List.all_eq_true.1 (zgF 20 n) b hb
 unfold inD at this
 simp only [Bool.and_eq_true,decide_eq_true_eq] at this
 exact this
theorem zjB (n:Nat):dgL n≠[]:=zjC 19 n
theorem zjA {n:Nat} (hn:n < 10000000000000000000):GdD (dgL n):=by
 refine ⟨zjB n,zcW n,fun h2=>?_⟩
 rcases Nat.eq_zero_or_pos n with h0|h0
 ·subst h0
  rw [Qo (by omega)] at h2
  simp at h2
 ·exact zd9 19 n h0 (by omega)
theorem zog:∀n:Nat,n < 10000000000000000000→vlD (dgL n)=n:=by
 intro n
 induction n using Nat.strongRecOn with
 |ind n ih=>
  intro hn
  have hd:∀j,j < 10→(UInt8.ofNat (48+j)).toNat - 48=j:=by decide
  rcases Nat.lt_or_ge n 10 with h|h
  ·rw [Qo h]
   show 10 * 0+((UInt8.ofNat (48+n)).toNat - 48)=n
   rw [hd n h];omega
  ·rw [zd8 h hn,Qh,ih (n / 10) (by omega) (by omega),hd _ (Nat.mod_lt _ (by omega))]
   omega
theorem zdX {c:UInt8} (h1:48≤c.toNat):UInt8.ofNat (48+(c.toNat - 48))=c:=by
 rw [show 48+(c.toNat - 48)=c.toNat from by omega]
 exact UInt8.ofNat_toNat
theorem zhH {s:List UInt8} (h1:s≠[]) (h2:∀b∈s,48≤b.toNat∧b.toNat≤57) (h3:s.getD 0 0≠48):1≤vlD s:=by
 cases s with
 |nil=>exact absurd rfl h1
 |cons a t=>
  have h4:=zl6 [a] t
  have h5:vlD [a]=a.toNat - 48:=by simp [vlD]
  have h6:=h2 a (by simp)
  have h7:a.toNat≠48:=fun h=>h3 (by show a=48;exact UInt8.toNat_inj.1 h)
  simp only [List.singleton_append] at h4
  omega
theorem zj2:∀s:List UInt8,GdD s→vlD s < 10000000000000000000→dgL (vlD s)=s:=by
 refine zq0 (fun h=>absurd rfl h.1) (fun l c ih h hb=>?_)
 have hc:=h.2.1 c (by simp)
 rw [Qh] at hb ⊢
 by_cases hl:l=[]
 ·subst hl
  rw [show 10 * vlD []+(c.toNat - 48)=c.toNat - 48 from by simp [vlD],Qo (by omega),zdX hc.1]
  rfl
 ·have hlen:0 < l.length:=List.length_pos_iff.2 hl
  have h0:l.getD 0 0≠48:=by
   have:=h.2.2 (by simp;omega)
   rwa [List.getD_eq_getElem?_getD,List.getElem?_append_left hlen,←List.getD_eq_getElem?_getD] at this
  have hall:∀b∈l,48≤b.toNat∧b.toNat≤57:=fun b hb=>h.2.1 b (by simp [hb])
  have hp:=zhH hl hall h0
  rw [zd8 (by omega) hb,show (10 * vlD l+(c.toNat - 48)) / 10=vlD l from by omega,show (10 * vlD l+(c.toNat - 48)) % 10=c.toNat - 48 from by omega,zdX hc.1,ih ⟨hl,hall,fun _=>h0⟩ (by omega)]
theorem XR {s:List UInt8} {n:Nat} (hn:n < 10000000000000000000):s=dgL n↔GdD s∧vlD s=n:=by
 constructor
 ·rintro rfl
  exact ⟨zjA hn,zog n hn⟩
 ·rintro ⟨h,rfl⟩
  exact (zj2 s h hn).symm
theorem zjZ {s:List UInt8} {k:Nat} (hk:k < s.length):s.getD k 0∈s:=by
 rw [List.getD_eq_getElem?_getD,List.getElem?_eq_getElem hk]
 exact List.getElem_mem hk
theorem zmW {s:List UInt8} {n k:Nat} (hk:k < s.length) (h:¬(48≤(s.getD k 0).toNat∧(s.getD k 0).toNat≤57)):s≠dgL n:=fun e=>by
 have hm:=zjZ hk
 rw [e] at hm h
 exact h (zcW n _ hm)
theorem zpj {s:List UInt8} {k:Nat} (hk:k < s.length) (hd:∀c∈s.take k,48≤c.toNat∧c.toNat≤57) (hc:48≤(s.getD k 0).toNat∧(s.getD k 0).toNat≤57) :
 (∀c∈s.take (k+1),48≤c.toNat∧c.toNat≤57)∧vlD (s.take (k+1))=10 * vlD (s.take k)+((s.getD k 0).toNat - 48):=by
 have e:s.take (k+1)=s.take k++[s.getD k 0]:=by
  rw [List.take_add_one,List.getD_eq_getElem?_getD,List.getElem?_eq_getElem hk];rfl
 rw [e,Qh]
 refine ⟨fun c h=>?_,rfl⟩
 rcases List.mem_append.1 h with h|h
 ·exact hd c h
 ·rw [List.mem_singleton.1 h];exact hc
theorem zmZ {s:List UInt8} {k:Nat} (h0:1≤k) (hk:k < s.length) (hd:∀c∈s.take k,48≤c.toNat∧c.toNat≤57) (h3:2≤k→s.getD 0 0≠48):vlD (s.take k)≠0↔s.getD 0 0≠48:=by
 have hg:(s.take k).getD 0 0=s.getD 0 0:=by
  rw [List.getD_eq_getElem?_getD,List.getElem?_take,if_pos (by omega),←List.getD_eq_getElem?_getD]
 have hne:s.take k≠[]:=fun h=>by
  have:=congrArg List.length h
  rw [List.length_take,List.length_nil] at this
  omega
 constructor
 ·intro h e
  rcases Nat.lt_or_ge k 2 with h2|h2
  ·have hk1:k=1:=by omega
   subst hk1
   cases s with
   |nil=>simp at hk
   |cons a t=>
    simp only [List.getD_cons_zero] at e
    subst e
    exact h (by simp [vlD])
  ·exact h3 h2 e
 ·intro h
  have:=zhH hne hd (by rw [hg];exact h)
  omega
theorem zmX {s:List UInt8} {n k:Nat} (hn:n < 10000000000000000000) (h0:1≤k) (hk:k < s.length) (h:s.getD 0 0=48):s≠dgL n:=fun e=>by
 have:=(XR hn).1 e
 exact this.1.2.2 (by omega) h
theorem zmY {s:List UInt8} {n k:Nat} (hn:n < 10000000000000000000) (h:n < vlD (s.take k)):s≠dgL n:=fun e=>by
 have h1:=((XR hn).1 e).2
 have h2:=zl6 (s.take k) (s.drop k)
 rw [List.take_append_drop] at h2
 omega
theorem zpi {s:List UInt8} {n:Nat} (hn:n < 10000000000000000000) (hd:∀c∈s,48≤c.toNat∧c.toNat≤57) (h3:2≤s.length→s.getD 0 0≠48):s=dgL n↔s≠[]∧vlD s=n:=
 ⟨fun e=>⟨((XR hn).1 e).1.1,((XR hn).1 e).2⟩,fun h=>(XR hn).2 ⟨⟨h.1,hd,h3⟩,h.2⟩⟩
theorem znY {s:List UInt8} {k:Nat} (hk:k < s.length):((decodeL (s.drop k)).1=(s.getD k 0).toNat∧(decodeL (s.drop k)).2=1∧(s.getD k 0).toNat < 128)∨(128≤(decodeL (s.drop k)).1∧128≤(s.getD k 0).toNat):=by
 have hg:(s.drop k).getD 0 0=s.getD k 0:=by simp [List.getD_eq_getElem?_getD]
 rcases Nat.lt_or_ge (s.getD k 0).toNat 128 with h|h
 ·left
  have e:s.drop k=s.getD k 0::s.drop (k+1):=by
   rw [List.getD_eq_getElem?_getD,List.getElem?_eq_getElem hk]
   exact List.drop_eq_getElem_cons hk
  rw [e,decodeL_ascii _ _ h]
  exact ⟨rfl,rfl,h⟩
 ·right
  exact ⟨(zm0 _ (by rw [hg];exact h)).1,h⟩
theorem zkl {s:List UInt8} (h:kdL s≠0):1≤kdL s∧kdL s≤4∧nmL (kdL s)=s:=by
 unfold kdL at h ⊢
 repeat' split at h
 all_goals first
  |(rename_i hs;subst hs;exact ⟨by decide,by decide,by decide⟩)
  |exact absurd rfl h
theorem zkK (k:Nat):(32:UInt8)∉nmL k∧(0:UInt8)∉nmL k:=by
 unfold nmL
 split<;>decide
def psK (t:List UInt8):Nat:=
 if (0:UInt8)∈t∧kdL (zZ 32 (zZ 0 t).1).1≠0∧(zZ 32 (zZ 0 t).1).2=dgL (zZ 0 t).2.length then kdL (zZ 32 (zZ 0 t).1).1 else 0
def psB (t:List UInt8):List UInt8:=(zZ 0 t).2
theorem zan (k n:Nat) (h1:1≤k) (h2:k≤4):hdL (k:Int) (n:Int)=nmL k++[32]++dgL n++[0]:=by
 unfold hdL
 rw [zha h1 h2,show (max (n:Int) 0).toNat=n from by omega]
theorem zdo {t:List UInt8} {k:Nat} (h1:1≤k) (h2:k≤4):psK t=k↔(0:UInt8)∈t∧hdL (k:Int) ((psB t).length:Int)=(zZ 0 t).1++[0]:=by
 rw [zan k _ h1 h2]
 unfold psK psB
 constructor
 ·intro h
  split at h
  ·rename_i hh
   obtain ⟨h0,h3,h4⟩:=hh
   refine ⟨h0,?_⟩
   have h5:=(zkl h3).2.2
   rw [h] at h5
   congr 1
   rcases YX 32 (zZ 0 t).1 with ⟨_,e⟩|⟨a,b,_,e1,e2⟩
   ·rw [e] at h4
    exact absurd h4.symm (zjB _)
   ·rw [e2] at h4 h5
    simp only at h4 h5
    rw [e1,h5,←h4]
    simp
  ·omega
 ·rintro ⟨h0,h⟩
  have h3:(zZ 0 t).1=nmL k++(32:UInt8)::dgL (zZ 0 t).2.length:=by
   have:=List.append_cancel_right h
   rw [←this];simp
  have h4:=XP 32 (dgL (zZ 0 t).2.length) (nmL k) (zkK k).1
  rw [←h3] at h4
  rw [h4]
  simp only
  rw [zgU h1 h2,if_pos ⟨h0,by omega,trivial⟩]
theorem zpW (t:List UInt8):psK t≤4:=by
 unfold psK
 split
 ·rename_i h;exact (zkl h.2.1).2.1
 ·omega
theorem zj7 {k:Nat} (h1:1≤k) (h2:k≤4) (n:Nat) (b:List UInt8):zZ 0 (hdL (k:Int) (n:Int)++b)=(nmL k++[32]++dgL n,b):=by
 rw [zan k n h1 h2,show nmL k++[32]++dgL n++[0]++b=(nmL k++[32]++dgL n)++(0:UInt8)::b from by simp]
 refine XP 0 b _ ?_
 simp only [List.mem_append,List.mem_singleton,not_or]
 refine ⟨⟨(zkK k).2,by decide⟩,fun h=>?_⟩
 have:=zcW n 0 h
 simp at this
theorem zqY {k:Nat} (h1:1≤k) (h2:k≤4) (b:List UInt8):psK (hdL (k:Int) (b.length:Int)++b)=k∧psB (hdL (k:Int) (b.length:Int)++b)=b:=by
 have hb:psB (hdL (k:Int) (b.length:Int)++b)=b:=by unfold psB;rw [zj7 h1 h2]
 refine ⟨(zdo h1 h2).2 ⟨?_,?_⟩,hb⟩
 ·rw [zan k _ h1 h2];simp
 ·rw [hb,zj7 h1 h2,zan k _ h1 h2]
end Go.Ob
namespace Go.Proofs.YtfbfcapoobmdpaaGreatDoor
open Go Go.Vx Go.Ob Go.Lib
set_option linter.all false
variable [W0]
set_option maxRecDepth 4000
omit [W0] in
theorem index_ge:∀s sub:List UInt8,-1≤Lib.index s sub
 |[],sub=>by unfold Lib.index;split<;>decide
 |x::t,sub=>by
  have:=index_ge t sub
  unfold Lib.index
  split
  ·decide
  ·split<;>omega
omit [W0] in
theorem zjy (x:UInt8) (t sep:List UInt8):Lib.cut (x::t) sep=if sep.isPrefixOf (x::t) then ([],(x::t).drop sep.length,true) else (x::(Lib.cut t sep).1,(Lib.cut t sep).2.1,(Lib.cut t sep).2.2):=by
 have hge:=index_ge t sep
 by_cases hp:sep.isPrefixOf (x::t)=true
 ·rw [if_pos hp]
  unfold Lib.cut
  rw [show Lib.index (x::t) sep=0 from by rw [Lib.index,if_pos hp]]
  rw [if_pos (by decide)]
  simp
 ·rw [if_neg hp]
  rcases Int.lt_or_le (Lib.index t sep) 0 with h|h
  ·have h1:Lib.index t sep= -1:=by omega
   unfold Lib.cut
   rw [show Lib.index (x::t) sep= -1 from by rw [Lib.index,if_neg hp,h1];rfl,h1]
   simp
  ·unfold Lib.cut
   rw [show Lib.index (x::t) sep=Lib.index t sep+1 from by rw [Lib.index,if_neg hp,if_neg (by simp;omega)]]
   obtain ⟨k,hk⟩:∃k:Nat,Lib.index t sep=k:=⟨(Lib.index t sep).toNat,by omega⟩
   rw [hk,if_pos (by omega),if_pos (by omega)]
   simp [show ((k:Int)+1).toNat=k+1 from by omega,show k+1+sep.length=(k+sep.length)+1 from by omega]
omit [W0] in
theorem zcU (c:UInt8):∀s:List UInt8,(Lib.cut s [c]).1=(zZ c s).1∧(Lib.cut s [c]).2.1=(zZ c s).2
 |[]=>by simp [Lib.cut,Lib.index,zZ]
 |x::t=>by
  obtain ⟨h1,h2⟩:=zcU c t
  rw [zjy]
  unfold zZ
  by_cases h:x=c
  ·subst h
   simp
  ·rw [if_neg h,if_neg (by simp [List.isPrefixOf,Ne.symm h])]
   exact ⟨by rw [h1],h2⟩
omit [W0] in
theorem YW (c:UInt8) (s:List UInt8):(zZ c s).1.length≤s.length∧(zZ c s).2.length≤s.length:=by
 rcases YX c s with ⟨_,h⟩|⟨x,t,_,h1,h2⟩
 ·rw [h];simp
 ·rw [h2,h1];simp;omega
end Go.Proofs.YtfbfcapoobmdpaaGreatDoor
namespace Go.Vx
open Go
set_option linter.all false
variable [W0]
theorem QH {P:Program} {T e by_:Nat} [hs:SL P T e 1 by_] {v:Value} {m:Nat} {xs:List UInt8} {C:Chunk} (hO:Ow e 1 v m (bsv xs) C) {l h:Nat} (h1:l≤h) (h2:h≤m) :
 ∃r,(∀L:List Chunk,Sl (C::L) 1 r (h - l) (bsv ((xs.drop l).take (h - l))))∧(∃a c,r=.slice a (h - l) c∧h - l≤c)∧∀{n:Nat} {M:List (Nat × Value)} {L:List Chunk} {d:Nat} {ty:TypeId} {ps:String} {af:Array Edge} {g:Option (Nat × Bool)} {x:Operand} {lo hi:Option Operand},
  ev M x=some v→bnd M lo 0=some (l:Int)→bnd M hi m=some (h:Int)→EV P n ⟨some d,.slice T x lo hi none,ty,ps,af,g⟩ M L d r:=by
 rcases hO with ⟨rfl,rfl,hx,rfl⟩|⟨b,cap,rest,rfl,rfl,hxl,hrl,hmc,hcm⟩
 ·obtain rfl:h=0:=by omega
  obtain rfl:l=0:=by omega
  exact ⟨.slice none 0 0,fun L=>.inl ⟨_,rfl,rfl,by simp [bsv]⟩,⟨_,_,rfl,Nat.le_refl _⟩,fun hx hl hh=>Yn hx hl hh⟩
 ·refine ⟨_,fun L=>.inr ⟨_,_,rfl,?_,?_⟩,⟨_,_,rfl,?_⟩,fun hx hl hh=>yS hx hl hh h1 (by omega)⟩
  ·rcases Nat.eq_or_lt_of_le h1 with h0|h0
   ·subst h0
    exact .inl (by simp [bsv])
   ·refine .inr ⟨b,_,_,_,_,rfl,Fnd.here,fun j u hj=>?_⟩
    rw [if_neg (by omega),Nat.mul_one,Nat.zero_add]
    have hj2:(bsv xs)[l+j]? =some u:=by
     rw [←hj]
     have hjl:j < h - l:=by
      rcases Nat.lt_or_ge j (h - l) with h'|h'
      ·exact h'
      ·rw [List.getElem?_eq_none (by simp [zH];omega)] at hj;simp at hj
     simp [bsv,List.getElem?_take,hjl]
    simpa using z8 (r:=rest) hj2
  ·rw [zH] at hxl ⊢
   simp;omega
  ·omega
end Go.Vx
namespace Go.Proofs.YtfbfcapoobmdpaaGreatDoor
open Go Go.Vx Go.Ob Go.Lib
set_option linter.all false
set_option maxRecDepth 4000
variable [W0]
theorem wrap_i32 {r:Int} (h1:0≤r) (h2:r≤2147483647):IntKind.i32.wrap r=r:=by
 simp [IntKind.wrap,IntKind.bits,IntKind.signed]
 omega
theorem zmf (s:List UInt8) (n:Nat) (L:List Chunk) (hn:n≤100000000000000000) (hs:s.length≤9223372036854775807) :
 GvP Tryz.prog 63 [.string (str s),.int .i64 (n:Int)].toArray L (.bool (decide (s=dgL n))):=by
 refine Gv.of_body (args:=[.string (str s),.int .i64 (n:Int)]) Tryz.func63 rfl rfl ?_
 refine kW ?_
 refine zhM rfl rfl (fun b=>?_)
 refine kW ?_
 refine zn (X:=Nat) (fun k=>[(0,.string (str s)),(1,.int .i64 (n:Int)),(5,.int .i64 ((vlD (s.take k):Nat):Int)),(9,.pointer (some ⟨b,0,none⟩))]) (fun k=>[(b,.stringIter (str s) k)]::L)
  (fun k=>k≤s.length∧(∀c∈s.take k,48≤c.toNat∧c.toNat≤57)∧(2≤k→s.getD 0 0≠48)∧vlD (s.take k)≤n) (fun k=>s.length - k) 0 ⟨Nat.zero_le _,by simp,by omega,by simp [vlD]⟩ iS (fun w h=>h) ?_
 rintro k ⟨h1,h2,h3,h4⟩
 by_cases hk:k < s.length
 ·have hr:=znY hk
  have hb1:=zmW (n:=n) hk
  have hrun:=zpj hk h2
  have hhd:=fun h0=>zmZ h0 hk h2 h3
  refine kW ?_
  refine ziK rfl (by rw [yD];exact hk) .here rfl ?_
  rw [zn6]
  generalize (decodeL (s.drop k)).1=c at *
  generalize (decodeL (s.drop k)).2=wd at *
  (repeat' first|refine kW ?_|refine kU fun bk=>?_|refine kV fun hc=>?_|refine kZ (fun hc=>?_) fun hc=>?_|fail)
  ·refine kR ?_
   exact ⟨L,iC,by rw [decide_eq_false (hb1 (by omega))];rfl,rfl⟩
  ·refine kR ?_
   exact ⟨L,iC,by rw [decide_eq_false (hb1 (by omega))];rfl,rfl⟩
  ·refine kR ?_
   have h48:s.getD 0 0=48:=Classical.byContradiction fun h=>(hhd (by omega)).2 h (by omega)
   exact ⟨L,iC,by rw [decide_eq_false (zmX (by omega) (show 1≤k by omega) hk h48)];rfl,rfl⟩
  all_goals (
   have hcd:48≤(s.getD k 0).toNat∧(s.getD k 0).toNat≤57:=by omega
   have hcw:c=(s.getD k 0).toNat∧wd=1:=by omega
   have h3':2≤k+1→s.getD 0 0≠48:=fun h=>(hhd (by omega)).1 (by omega)
   obtain ⟨h2',hv⟩:=hrun hcd
   refine ze (qj (r:=(c:Int) - 48) rfl rfl rfl) rfl ?_
   rw [wrap_i32 (r:=(c:Int) - 48) (by omega) (by omega),show (c:Int) - 48=((c - 48:Nat):Int) from by omega]
   obtain ⟨hc1,rfl⟩:=hcw
   (repeat' first|refine kW ?_|refine kU fun bk=>?_|refine kV fun hc=>?_|refine kZ (fun hc=>?_) fun hc=>?_|fail)
   all_goals first
    |(refine kR ?_;exact ⟨L,iC,by rw [decide_eq_false (zmY (s:=s) (k:=k+1) (by omega) (by omega))];rfl,rfl⟩)
    |exact zf (X:=Nat) (μ:=fun k=>s.length - k) (x:=k) (k+1) (by omega) ⟨by omega,h2',h3',by omega⟩ iS (fun w h=>h))
 ·refine kW ?_
  refine ze (zmh rfl Fnd.here (by rw [yD];exact hk)) rfl ?_
  have hke:k=s.length:=by omega
  subst hke
  rw [List.take_length] at h2 h4 ⊢
  have he:=zpi (s:=s) (n:=n) (by omega) h2 h3
  have hs0:str s={ data:=#[] }↔s=[]:=by rw [show ({ data:=#[] }:ByteArray)=str [] from rfl,str_inj]
  (repeat' first|refine kW ?_|refine kU fun bk=>?_|refine kV fun hc=>?_|refine kZ (fun hc=>?_) fun hc=>?_|fail)
  ·rw [hs0] at hc
   refine kR ?_
   refine ⟨L,iC,?_,rfl⟩
   show Value.bool _=Value.bool _
   congr 1
   rw [Bool.eq_iff_iff,beq_iff_eq,decide_eq_true_eq,he]
   exact ⟨fun h=>⟨hc,by omega⟩,fun h=>by rw [h.2]⟩
  ·rw [hs0] at hc
   refine kR ?_
   exact ⟨L,iC,by rw [decide_eq_false (fun h=>(he.1 h).1 hc)];rfl,rfl⟩
theorem zko (s:List UInt8) (n:Nat) (L:List Chunk) (hb:wO L) (hn:n≤100000000000000000) (hs:s.length < 4294967281) :
 GvP Tryz.prog 33 [.string (str s),.int .i64 (n:Int)].toArray L (.tuple #[.int .i64 (kdL (Ob.zZ 32 s).1:Int),.bool (decide (kdL (Ob.zZ 32 s).1≠0∧(Ob.zZ 32 s).2=dgL n))]):=by
 refine Gv.of_body (args:=[.string (str s),.int .i64 (n:Int)]) Tryz.func33 rfl rfl ?_
 have c1:=zqz s [32] L hb hs
 rw [(zcU 32 s).1,(zcU 32 s).2] at c1
 have l1:=YW 32 s
 generalize (Lib.cut s [32]).2.2=f1 at c1
 refine kW ?_
 refine cP rfl rfl c1 ?_
 refine kW ?_
 refine cP rfl rfl (zkO (Ob.zZ 32 s).1 _) ?_
 have hw:=zmf (Ob.zZ 32 s).2 n L hn (by omega)
 by_cases hk:kdL (Ob.zZ 32 s).1=0
 ·rw [decide_eq_false (p:=kdL (Ob.zZ 32 s).1≠0) (fun h=>h hk),decide_eq_false (p:=kdL (Ob.zZ 32 s).1≠0∧(Ob.zZ 32 s).2=dgL n) (fun h=>h.1 hk)]
  refine kW ?_
  exact kE
 ·rw [decide_eq_true (p:=kdL (Ob.zZ 32 s).1≠0) hk,show decide (kdL (Ob.zZ 32 s).1≠0∧(Ob.zZ 32 s).2=dgL n)=decide ((Ob.zZ 32 s).2=dgL n) from by simp [hk]]
  refine kW ?_
  refine cP rfl rfl hw ?_
  refine kW ?_
  exact kE
theorem zh4 (c:UInt8) (t:List UInt8):(c∉t∧Lib.indexByte t c= -1∧Ob.zZ c t=(t,[]))∨∃k:Nat,c∈t∧k < t.length∧Lib.indexByte t c=(k:Int)∧Ob.zZ c t=(t.take k,t.drop (k+1)):=by
 induction t with
 |nil=>exact .inl ⟨by simp,rfl,rfl⟩
 |cons x t ih=>
  by_cases hx:x=c
  ·subst hx
   exact .inr ⟨0,by simp,by simp,by simp [Lib.indexByte],by simp [Ob.zZ]⟩
  ·rcases ih with ⟨h1,h2,h3⟩|⟨k,h1,h2,h3,h4⟩
   ·exact .inl ⟨by simp [h1,Ne.symm hx],by simp [Lib.indexByte,hx,h2],by simp [Ob.zZ,hx,h3]⟩
   ·refine .inr ⟨k+1,by simp [h1],by simpa using h2,?_,by simp [Ob.zZ,hx,h4]⟩
    rw [Lib.indexByte,if_neg (by simpa using hx),h3,if_neg (by simp)]
    omega
theorem zdY (t:List UInt8):Lib.bytesOf (t.map fun x=>(x.toNat:Int))=t:=by
 unfold Lib.bytesOf
 rw [List.map_map]
 conv=>rhs;rw [←List.map_id t]
 refine List.map_congr_left fun x _=>?_
 simp
def ByV (L:List Chunk) (v:Value) (t:List UInt8):Prop:=
 (v=.slice none 0 0∧t=[])∨∃b cap c T fr,v=.slice (some ⟨b,0,none⟩) t.length cap∧Fnd L b (.cells c T fr)∧∀(i:Nat) u,(bsv t)[i]? =some u→c[i]? =some u
theorem ByV.ow {e:Nat} {v:Value} {t:List UInt8} {C:Chunk} {L:List Chunk} (h:Ow e 1 v t.length (bsv t) C):ByV (C::L) v t:=by
 rcases h with ⟨rfl,h0,_,_⟩|⟨b,cap,rest,rfl,rfl,_,_,_,_⟩
 ·exact .inl ⟨rfl,List.eq_nil_of_length_eq_zero h0⟩
 ·exact .inr ⟨b,cap,_,_,_,rfl,Fnd.here,fun i u hi=>by simpa using z8 hi⟩
theorem ByV.there {v:Value} {t:List UInt8} {C:Chunk} {L:List Chunk} (h:ByV L v t):ByV (C::L) v t:=by
 rcases h with h|⟨b,cap,c,T,fr,h1,h2,h3⟩
 ·exact .inl h
 ·exact .inr ⟨b,cap,c,T,fr,h1,h2.there,h3⟩
theorem zi2 (v:Value) (t:List UInt8) (L:List Chunk) (hv:ByV L v t) :
 GvP Tryz.prog 93 [v,.int .u8 0].toArray L (.int .i64 (Lib.indexByte t 0)):=by
 refine Gv.of_body (args:=[v,.int .u8 0]) Tryz.func93 rfl rfl ?_
 refine kW ?_
 refine ze (YU (f:=132) (v:=.int .i64 (Lib.indexByte t 0)) rfl rfl Tryz.func132 (by kernel_rfl) (by kernel_rfl) (by kernel_rfl) rfl (fun w hw=>?_)) rfl ?_
 rotate_left
 ·refine kW ?_
  exact kE
 rcases hv with ⟨rfl,rfl⟩|⟨b,cap,c,T,fr,rfl,h1,h2⟩
 ·exact Lib.run_indexByteNil w 0 0 0
 ·have:=Lib.run_indexByteSlice (P:=Tryz.prog) w b 0 t.length cap (t.map fun x=>(x.toNat:Int)) (by simp) (fun i hi=>?_) 0
  ·rw [zdY] at this
   exact this
  ·rw [cell_of (h1.get hw),Nat.zero_add]
   refine h2 i _ ?_
   simp [bsv,List.getD_eq_getElem?_getD,hi]
theorem zo5 (v sv:Value) (t:List UInt8) (L:List Chunk) (hv:ByV L v t) (hs:Sl L 1 sv 1 (bsv [0])) :
 GvP Tryz.prog 60 [v,sv].toArray L (.int .i64 (Lib.indexByte t 0)):=by
 refine Gv.of_body (args:=[v,sv]) Tryz.func60 rfl rfl ?_
 obtain ⟨bb,off,cap,c,T,fr,rfl,h1,h2⟩:=Qe hs (show 0 < 1 by omega)
 refine kW ?_
 refine ze (zi (j:=0) rfl rfl rfl (by omega)) rfl ?_
 refine kW ?_
 refine ze (zq rfl h1 h2) rfl ?_
 refine kW ?_
 refine cP rfl rfl (zi2 v t _ hv) ?_
 refine kW ?_
 exact kE
theorem zfi (v sv:Value) (t:List UInt8) (C:Chunk) (L:List Chunk) (ho:Ow 5 1 v t.length (bsv t) C) (hv:ByV L v t) (hs:Sl L 1 sv 1 (bsv [0])) (ht:t.length≤140737488355328) :
 Gv Tryz.prog 32 [v,sv].toArray L (fun r L'=>∃v1 v2,r=.tuple #[v1,v2,.bool (decide ((0:UInt8)∈t))]∧(∀L0,SlC (C::L0) 1 v1 (Ob.zZ 0 t).1.length (bsv (Ob.zZ 0 t).1))∧(∀L0,SlC (C::L0) 1 v2 (Ob.zZ 0 t).2.length (bsv (Ob.zZ 0 t).2))∧L'=L):=by
 refine Gv.of_body (args:=[v,sv]) Tryz.func32 rfl rfl ?_
 obtain ⟨va,vc,rfl⟩:=zM ho
 have hi:=zo5 (.slice va t.length vc) sv t L hv hs
 obtain ⟨sa,sc,rfl⟩:∃a c,sv=.slice a 1 c:=by
  obtain ⟨bb,off,cap,c,T,fr,rfl,_,_⟩:=Qe hs (show 0 < 1 by omega)
  exact ⟨_,_,rfl⟩
 rcases zh4 0 t with ⟨h1,h2,h3⟩|⟨k,h1,h2,h3,h4⟩
 ·rw [h2] at hi
  rw [h3,decide_eq_false h1]
  refine kW ?_
  refine cP rfl rfl hi ?_
  refine kW ?_
  refine kR ?_
  exact ⟨_,iC,_,_,rfl,fun L0=>SlC.ow ho,fun L0=>⟨.inl ⟨0,rfl,rfl,rfl⟩,_,_,rfl,Nat.le_refl _⟩,rfl⟩
 ·rw [h3] at hi
  rw [h4,decide_eq_true h1]
  obtain ⟨r1,q1,⟨a1,c1,rfl,g1⟩,e1⟩:=QH (P:=Tryz.prog) (T:=22) ho (l:=0) (h:=k) (Nat.zero_le _) (by omega)
  obtain ⟨r2,q2,⟨a2,c2,rfl,g2⟩,e2⟩:=QH (P:=Tryz.prog) (T:=22) ho (l:=k+1) (h:=t.length) (by omega) (Nat.le_refl _)
  have l1:(t.take k).length=k:=by rw [List.length_take];omega
  have l2:(t.drop (k+1)).length=t.length - (k+1):=by rw [List.length_drop]
  have q1':∀L0,SlC (C::L0) 1 (.slice a1 (k - 0) c1) (t.take k).length (bsv (t.take k)):=fun L0=>⟨by rw [l1];exact q1 L0,a1,c1,by rw [l1];rfl,by rw [l1];exact g1⟩
  have q2':∀L0,SlC (C::L0) 1 (.slice a2 (t.length - (k+1)) c2) (t.drop (k+1)).length (bsv (t.drop (k+1))):=fun L0=>⟨by
   have:=q2 L0
   rw [List.take_of_length_le (by rw [l2];exact Nat.le_refl _)] at this
   rw [l2];exact this,a2,c2,by rw [l2],by rw [l2];exact g2⟩
  refine kW ?_
  refine cP rfl rfl hi ?_
  refine kW ?_
  refine zk [] mixed ?_
  (refine za 0 ?_;refine za 1 ?_)
  refine cT 2 rfl rfl (e1 rfl rfl rfl) ?_
  (refine za 3 ?_;refine za 4 ?_;refine za 5 ?_;refine za 6 ?_;refine za 7 ?_)
  refine cT 8 rfl rfl (e2 rfl (qH rfl (by omega)) rfl) ?_
  (refine za 9 ?_;refine za 10 ?_;refine za 11 ?_)
  refine cD ?_
  refine kW ?_
  refine kR ?_
  exact ⟨_,iC,_,_,rfl,q1',q2',rfl⟩
end Go.Proofs.YtfbfcapoobmdpaaGreatDoor
namespace Go.Vx
open Go
set_option linter.all false
variable [W0]
theorem znG {e m:Nat} {v:Value} {xs:List UInt8} {C:Chunk} (h:Ow e 1 v m (bsv xs) C) {k:Nat} (hk:k < m) :
 ∃b cap rest,v=.slice (some ⟨b,0,none⟩) m cap∧C=[(b,cl (bsv xs++rest) e)]∧(bsv xs++rest).toArray[k * 1]? =some (.int .u8 ((xs.getD k 0).toNat:Int)):=by
 rcases h with ⟨rfl,rfl,_⟩|⟨b,cap,rest,rfl,rfl,hxl,hrl,hmc,hcm⟩
 ·omega
 ·refine ⟨b,cap,rest,rfl,rfl,?_⟩
  have hlt:k < xs.length:=by rw [zH] at hxl;omega
  rw [Nat.mul_one]
  simpa using z8 (r:=rest) (wW (l:=xs) (i:=k) (b:=xs.getD k 0) (by simp [List.getD,hlt]))
theorem Gv.take2 {P:Program} {L:List Chunk} {f:FuncId} {args:Array Value} {post:Value→List Chunk→Prop} {L1 R:List Chunk} {C D:Chunk} (h:Gv P f args (C::D::R) post) (h1:Take C L L1) (h2:Take D L1 R):Gv P f args L post:=
 h.holds fun _ hw=>(hw.take h1).perm ((h2.perm).cons C)
theorem Holds.gap {w:World} {D:Chunk} {L:List Chunk}:Holds w (D::[]::L)↔Holds w (D::L):=by simp [Holds]
theorem yV {L:List Chunk} {v:Value} {m:Nat} {xs:List Value} (h:Sl L 1 v m xs) {k:Nat} {u:Value} (hk:xs[k]? =some u) :
 ∃b off cap c T fr,v=.slice (some ⟨b,off,none⟩) m cap∧Fnd L b (.cells c T fr)∧c[off+k * 1]? =some u:=by
 rcases h with ⟨c,rfl,rfl,rfl⟩|⟨a,cap,rfl,hr,hl⟩
 ·simp at hk
 ·rcases hr with h0|⟨b,off,c,T,fr,rfl,h1,h2⟩
  ·subst h0;simp at hk
  ·exact ⟨b,off,cap,c,T,fr,rfl,h1,by rw [Nat.mul_one];exact h2 _ _ hk⟩
theorem zdN {P:Program} {n:Nat} {Q:Exit→Act→World→Prop} {M:List (Nat × Value)} {L S:List Chunk} {ops:List Oper} {T:List Nat} {fuel:Nat} {listed:Array Bool} (i:Nat) {d j:Nat} {b:Bool} {o:Oper} (hi:ops[i]? =some o) (hg:o.guard=some (j,b)) (hy:yl ops M j=some undef) (hd:o.dst=some d) (hb:takeB ops T listed i=true) (hPO:PO Q) (hinc:Inc S L) (hn:Nat.blt d n=true)
 (h:WR P n ops Q S T fuel (listed.setIfInBounds i true) ((d,undef)::M) L):WR P n ops Q S T (fuel+1) listed M L:=
 XJ hi hd hb hPO hinc hn (fun a ha=>.inr ⟨by simp [Region.wanted,hg,wH ha hy,undef],rfl⟩) h
theorem qG {P:Program} {n:Nat} {Q:Exit→Act→World→Prop} {M:List (Nat × Value)} {L S:List Chunk} {ops:List Oper} {T:List Nat} {fuel:Nat} {listed:Array Bool} (i:Nat) {d j:Nat} {b:Bool} {o:Oper} (h:WR P n ops Q S T fuel (listed.setIfInBounds i true) ((d,undef)::M) L)
 (hi:ops[i]? =some o:=by exact rfl) (hg:o.guard=some (j,b):=by exact rfl) (hy:yl ops M j=some undef:=by exact rfl) (hd:o.dst=some d:=by exact rfl) (hb:takeB ops T listed i=true:=by kernel_rfl) (hPO:PO Q:=by exact iP) (hinc:Inc S L:=by exact iC) (hn:Nat.blt d n=true:=by exact rfl) :
 WR P n ops Q S T (fuel+1) listed M L:=zdN i hi hg hy hd hb hPO hinc hn h
end Go.Vx
namespace Go.Pm
set_option linter.all false
structure It where
 w:Nat
 c:Option Nat
 f:Nat→Nat
def isC (x:It):Bool:=x.c.isSome
def Zm (wt:Nat→Nat) (i:Nat):It:=⟨wt i,some i,fun j=>if j=i then 1 else 0⟩
def pack (a b:It):It:=⟨a.w+b.w,none,fun i=>a.f i+b.f i⟩
def pairs:List It→List It
 |a::b::r=>pack a b::pairs r
 |_=>[]
structure Mg (cs ps A:List It):Prop where
 up:A.Pairwise fun a b=>a.w≤b.w
 cs:A.filter isC=cs
 ps:A.filter (fun x=>!isC x)=ps
theorem wL:∀l:List It,(pairs l).length=l.length / 2
 |[]=>rfl
 |[_]=>by simp [pairs]
 |a::b::r=>by
  have:=wL r
  simp only [pairs,List.length_cons,this]
  omega
theorem uY:∀(l:List It),∀x∈pairs l,isC x=false
 |[],x,h=>by simp [pairs] at h
 |[_],x,h=>by simp [pairs] at h
 |a::b::r,x,h=>by
  simp only [pairs,List.mem_cons] at h
  rcases h with rfl|h
  ·rfl
  ·exact uY r x h
theorem YL {α:Type} (q:α→Bool):∀(l:List α) (m:Nat),(l.take m).filter q=(l.filter q).take ((l.take m).filter q).length
 |[],m=>by simp
 |x::r,0=>by simp
 |x::r,m+1=>by
  simp only [List.take_succ_cons,List.filter_cons]
  have ih:=YL q r m
  split
  ·simp only [List.length_cons,List.take_succ_cons]
   rw [←ih]
  ·exact ih
theorem Zp {α:Type} (q:α→Bool):∀l:List α,l.Perm (l.filter q++l.filter fun x=>!q x)
 |[]=>.refl _
 |x::r=>by
  have ih:=Zp q r
  cases h:q x with
  |true=>simp only [List.filter_cons,h,if_true,Bool.not_true,Bool.false_eq_true,if_false,List.cons_append];exact ih.cons x
  |false=>
   simp only [List.filter_cons,h,Bool.not_false,if_true,Bool.false_eq_true,if_false]
   exact (ih.cons x).trans List.perm_middle.symm
structure Lv (cs:List It) (lv:Nat→List It):Prop where
 zero:lv 0=[]
 next:∀k,Mg cs (pairs (lv k)) (lv (k+1))
section
variable {cs : List It} {lv : Nat → List It} (h : Lv cs lv)
def sC (lv:Nat→List It) (k m:Nat):Nat:=(((lv k).take m).filter isC).length
def pC (lv:Nat→List It) (k m:Nat):Nat:=(((lv k).take m).filter fun x=>!isC x).length
def sel (lv:Nat→List It):Nat→Nat→List Nat
 |0,_=>[]
 |k+1,m=>sC lv (k+1) m::sel lv k (2 * pC lv (k+1) m)
theorem sp (lv:Nat→List It) (k m:Nat) (hm:m≤(lv k).length):sC lv k m+pC lv k m=m:=by
 have:=(Zp isC ((lv k).take m)).length_eq
 simp only [List.length_append,List.length_take] at this
 unfold sC pC
 omega
include h in
theorem zjt (k m:Nat):((lv (k+1)).take m).filter isC=cs.take (sC lv (k+1) m):=by
 have:=YL isC (lv (k+1)) m
 rw [(h.next k).cs] at this
 exact this
include h in
theorem zkX (k m:Nat):((lv (k+1)).take m).filter (fun x=>!isC x)=(pairs (lv k)).take (pC lv (k+1) m):=by
 have:=YL (fun x=>!isC x) (lv (k+1)) m
 rw [(h.next k).ps] at this
 exact this
include h in
theorem zkV (k m:Nat):pC lv (k+1) m≤(pairs (lv k)).length:=by
 rw [←(h.next k).ps]
 unfold pC
 exact ((List.take_sublist m (lv (k+1))).filter _).length_le
include h in
theorem zls (k m:Nat):sC lv (k+1) m≤cs.length:=by
 rw [←(h.next k).cs]
 unfold sC
 exact ((List.take_sublist m (lv (k+1))).filter _).length_le
include h in
theorem zkW (k m:Nat):2 * pC lv (k+1) m≤(lv k).length:=by
 have:=zkV h k m
 rw [wL] at this
 omega
include h in
include h in
def kr:List Nat→Nat
 |[]=>0
 |s::r=>s * 2 ^ r.length+kr r
theorem vB (lv:Nat→List It):∀k m,(sel lv k m).length=k
 |0,_=>rfl
 |k+1,m=>by simp [sel,vB lv k]
include h in
theorem zkp:∀k m,m≤(lv (k+1)).length→kr (sel lv (k+1) m)=m * 2 ^ k
 |0,m,hm=>by
  have h1:=sp lv 1 m hm
  have h2:=zkV h 0 m
  rw [h.zero] at h2
  simp [pairs] at h2
  simp only [sel,kr,List.length_nil]
  simp only [Nat.zero_add] at h2 ⊢
  omega
 |k+1,m,hm=>by
  have h1:=sp lv (k+2) m hm
  have h2:=zkW h (k+1) m
  have ih:=zkp k _ h2
  rw [sel,kr,ih,vB,Nat.pow_succ]
  rw [show 2 * pC lv (k+1+1) m * 2 ^ k=pC lv (k+1+1) m * (2 ^ k * 2) from by rw [Nat.mul_comm 2,Nat.mul_assoc,Nat.mul_comm 2],←Nat.add_mul,h1]
def down:List Nat→Prop
 |[]=>True
 |[_]=>True
 |a::b::r=>b≤a∧down (b::r)
theorem zce:∀{l:List It} {t:Nat} {x:It},l[t]? =some x→(h2:t < 2 * (pairs l).length)→(hp:∀y∈l,0 < y.w)→∃y,(pairs l)[t / 2]? =some y∧x.w < y.w
 |[],t,x,h,_,_=>by simp at h
 |[_],t,x,h,h2,_=>by simp [pairs] at h2
 |a::b::r,0,x,h,_,hp=>by
  simp at h;subst h
  have:=hp b (by simp)
  exact ⟨pack a b,rfl,by simp only [pack];omega⟩
 |a::b::r,1,x,h,_,hp=>by
  simp at h;subst h
  have:=hp a (by simp)
  exact ⟨pack a b,rfl,by simp only [pack];omega⟩
 |a::b::r,t+2,x,h,h2,hp=>by
  have h':r[t]? =some x:=by simpa using h
  obtain ⟨y,hy,hw⟩:=zce h' (by simp [pairs] at h2;omega) (fun y hy=>hp y (by simp [hy]))
  refine ⟨y,?_,hw⟩
  rw [show (t+2) / 2=t / 2+1 from by omega]
  simpa [pairs] using hy
include h in
theorem pos (hp:∀x∈cs,0 < x.w):∀k,∀y∈lv k,0 < y.w
 |0,y,hy=>by rw [h.zero] at hy;simp at hy
 |k+1,y,hy=>by
  cases hc:isC y with
  |true=>
   have:y∈(lv (k+1)).filter isC:=List.mem_filter.2 ⟨hy,hc⟩
   rw [(h.next k).cs] at this
   exact hp y this
  |false=>
   have:y∈(lv (k+1)).filter fun x=>!isC x:=List.mem_filter.2 ⟨hy,by simp [hc]⟩
   rw [(h.next k).ps] at this
   have ih:=pos hp k
   have key:∀(l:List It),(∀z∈l,0 < z.w)→∀z∈pairs l,0 < z.w:=by
    intro l
    induction l using pairs.induct with
    |case1 a b r ihr=>
     intro hl z hz
     simp only [pairs,List.mem_cons] at hz
     rcases hz with rfl|hz
     ·have:=hl a (by simp);simp only [pack];omega
     ·exact ihr (fun z hz=>hl z (by simp [hz])) z hz
    |case2 l hl2=>
     intro _ z hz
     rw [pairs] at hz
     ·simp at hz
     ·exact hl2
   exact key _ ih y this
include h in
theorem ziq (hp:∀x∈cs,0 < x.w) (k m:Nat):sC lv (k+1) (2 * pC lv (k+2) m)≤sC lv (k+2) m:=by
 rcases Nat.lt_or_ge (sC lv (k+2) m) (sC lv (k+1) (2 * pC lv (k+2) m)) with hlt|hle
 ·exfalso
  have hn:=zls h k (2 * pC lv (k+2) m)
  have hcs:sC lv (k+2) m < cs.length:=by omega
  -- the Zm that comes next
  obtain ⟨x,hx⟩:∃x,cs[sC lv (k+2) m]? =some x:=⟨cs[sC lv (k+2) m],by simp [hcs]⟩
  have hin:x∈((lv (k+1)).take (2 * pC lv (k+2) m)).filter isC:=by
   rw [zjt h]
   refine List.mem_of_getElem? (i:=sC lv (k+2) m) ?_
   rw [List.getElem?_take,if_pos hlt];exact hx
  obtain ⟨hin1,hxc⟩:=List.mem_filter.1 hin
  obtain ⟨t,ht⟩:=List.getElem?_of_mem hin1
  rw [List.getElem?_take] at ht
  split at ht
  ·rename_i htl
   have h2:pC lv (k+2) m≤(pairs (lv (k+1))).length:=zkV h (k+1) m
   have hpk:((lv (k+2)).take m).filter (fun x=>!isC x)=(pairs (lv (k+1))).take (pC lv (k+2) m):=zkX h (k+1) m
   obtain ⟨y,hy,hyw⟩:=zce ht (by omega) (pos h hp (k+1))
   have hym:y∈((lv (k+2)).take m).filter fun x=>!isC x:=by
    rw [hpk]
    refine List.mem_of_getElem? (i:=t / 2) ?_
    rw [List.getElem?_take,if_pos (by omega)];exact hy
   have hy1:=(List.mem_filter.1 hym).1
   -- the Zm stands behind
   have hxd:x∈(lv (k+2)).drop m:=by
    have e:cs=((lv (k+2)).take m).filter isC++((lv (k+2)).drop m).filter isC:=by
     rw [←List.filter_append,List.take_append_drop,(h.next (k+1)).cs]
    have hl:(((lv (k+2)).take m).filter isC).length=sC lv (k+2) m:=rfl
    rw [e,List.getElem?_append_right (by omega),hl,Nat.sub_self] at hx
    exact (List.mem_filter.1 (List.mem_of_getElem? hx)).1
   have hup:=(h.next (k+1)).up
   rw [←List.take_append_drop m (lv (k+1+1)),List.pairwise_append] at hup
   have:=hup.2.2 y hy1 x hxd
   omega
  ·cases ht
 ·exact hle
include h in
theorem zeK (hp:∀x∈cs,0 < x.w):∀k m,down (sel lv k m)
 |0,_=>trivial
 |1,_=>trivial
 |k+2,m=>⟨ziq h hp k m,zeK hp (k+1) _⟩
end
end Go.Pm
namespace Go.Pm
set_option linter.all false
def ln (S:List Nat) (r:Nat):Nat:=(S.filter fun s=>decide (r < s)).length
def sumTo (g:Nat→Nat):Nat→Nat
 |0=>0
 |n+1=>sumTo g n+g n
theorem sumTo_congr {g h:Nat→Nat}:∀{n:Nat},(∀i,i < n→g i=h i)→sumTo g n=sumTo h n
 |0,_=>rfl
 |n+1,hh=>by
  have h1:=sumTo_congr (n:=n) (fun i hi=>hh i (by omega))
  simp only [sumTo,h1,hh n (by omega)]
theorem zcp (g:Nat→Nat) (a:Nat):∀b,sumTo g (a+b)=sumTo g a+sumTo (fun i=>g (a+i)) b
 |0=>rfl
 |b+1=>by
  have h1:=zcp g a b
  rw [←Nat.add_assoc]
  simp only [sumTo,h1]
  omega
theorem YJ (c:Nat):∀n,sumTo (fun _=>c) n=n * c
 |0=>by simp [sumTo]
 |n+1=>by simp only [sumTo,YJ c n,Nat.add_mul,Nat.one_mul]
theorem sumTo_le (g:Nat→Nat):∀{n i:Nat},i < n→g i≤sumTo g n
 |0,i,h=>by omega
 |n+1,i,h=>by
  simp only [sumTo]
  rcases Nat.lt_or_ge i n with h'|h'
  ·have:=sumTo_le g h';omega
  ·rw [show i=n from by omega];omega
theorem zis (g:Nat→Nat) {n i j:Nat} (hi:i < n) (hj:j < n) (hne:i≠j):g i+g j≤sumTo g n:=by
 induction n with
 |zero=>omega
 |succ n ih=>
  simp only [sumTo]
  by_cases h1:i=n
  ·have:=sumTo_le g (show j < n by omega);subst h1;omega
  ·by_cases h2:j=n
   ·have:=sumTo_le g (show i < n by omega);subst h2;omega
   ·have:=ih (by omega) (by omega);omega
theorem zhZ {s:Nat} {R:List Nat} (h:down (s::R)):down R:=by
 cases R with
 |nil=>trivial
 |cons b r=>exact h.2
theorem zgH:∀{R:List Nat} {s:Nat},down (s::R)→∀x∈R,x≤s
 |[],s,_,x,hx=>by simp at hx
 |b::r,s,h,x,hx=>by
  rcases List.mem_cons.1 hx with rfl|hx
  ·exact h.1
  ·exact Nat.le_trans (zgH h.2 x hx) h.1
theorem zgZ (s:Nat) (R:List Nat) (r:Nat):ln (s::R) r=(if r < s then 1 else 0)+ln R r:=by
 unfold ln
 by_cases h:r < s
 ·simp [h];omega
 ·simp [h]
theorem znt {R:List Nat} {r:Nat} (h:∀x∈R,x≤r):ln R r=0:=by
 unfold ln
 rw [List.filter_eq_nil_iff.2 (fun x hx=>by have:=h x hx;simp;omega)]
 rfl
theorem zkA (S:List Nat) (r:Nat):ln S r≤S.length:=List.length_filter_le _ _
theorem shares:∀(S:List Nat) (n:Nat),down S→(∀s∈S,s≤n)→sumTo (fun r=>2 ^ (S.length - ln S r)) n+kr S=n * 2 ^ S.length
 |[],n,_,_=>by simp [ln,kr,YJ]
 |s::R,n,hd,hn=>by
  have hs:s≤n:=hn s (by simp)
  have hR:=zgH hd
  have ih:=shares R s (zhZ hd) hR
  obtain ⟨j,rfl⟩:=Nat.le.dest hs
  rw [zcp]
  have e1:sumTo (fun r=>2 ^ ((s::R).length - ln (s::R) r)) s=sumTo (fun r=>2 ^ (R.length - ln R r)) s:=by
   refine sumTo_congr fun r hr=>?_
   rw [zgZ,if_pos hr,List.length_cons]
   congr 1
   omega
  have e2:sumTo (fun i=>2 ^ ((s::R).length - ln (s::R) (s+i))) j=j * 2 ^ (R.length+1):=by
   rw [←YJ]
   refine sumTo_congr fun i hi=>?_
   rw [zgZ,if_neg (by omega),znt (fun x hx=>by have:=hR x hx;omega),List.length_cons]
   rfl
  rw [e1,e2,kr,List.length_cons,Nat.pow_succ]
  generalize sumTo (fun r=>2 ^ (R.length - ln R r)) s=x at *
  generalize 2 ^ R.length=y at *
  generalize kr R=z at *
  rw [Nat.add_mul,←Nat.mul_assoc,←Nat.mul_assoc]
  omega
section
variable {cs : List It} {lv : Nat → List It} (h : Lv cs lv)
include h in
theorem Y2 (k:Nat):(lv (k+1)).length=cs.length+(lv k).length / 2:=by
 have:=(Zp isC (lv (k+1))).length_eq
 rw [(h.next k).cs,(h.next k).ps] at this
 simpa [wL] using this
include h in
theorem zg2 (hn:0 < cs.length):∀k,∃c,(lv (k+1)).length+c=2 * cs.length∧1≤c∧(c - 1) * 2 ^ k < cs.length
 |0=>⟨cs.length,by rw [Y2 h,h.zero];simp;omega,hn,by omega⟩
 |k+1=>by
  obtain ⟨c,h1,h2,h3⟩:=zg2 hn k
  refine ⟨(c+1) / 2,by rw [Y2 h (k+1)];omega,by omega,?_⟩
  have h4:2 * ((c+1) / 2 - 1)≤c - 1:=by omega
  have h5:=Nat.mul_le_mul_right (2 ^ k) h4
  rw [Nat.pow_succ,Nat.mul_comm (2 ^ k),←Nat.mul_assoc,Nat.mul_comm _ 2]
  omega
include h in
theorem zg1 (k:Nat) (hn:0 < cs.length) (hk:cs.length≤2 ^ (k+1)):2 * cs.length - 2≤(lv (k+1)).length:=by
 obtain ⟨c,h1,h2,h3⟩:=zg2 h hn k
 rw [Nat.pow_succ] at hk
 have h4:c - 1 < 2:=by
  rcases Nat.lt_or_ge (c - 1) 2 with h'|h'
  ·exact h'
  ·have:=Nat.mul_le_mul_right (2 ^ k) h'
   omega
 omega
theorem zhu (hh:∀k m,sC lv (k+1) m≤cs.length):∀k m,∀s∈sel lv k m,s≤cs.length
 |0,m,s,hs=>by simp [sel] at hs
 |k+1,m,s,hs=>by
  simp only [sel,List.mem_cons] at hs
  rcases hs with rfl|hs
  ·exact hh k m
  ·exact zhu hh k _ s hs
theorem whole (h:Lv cs lv) (hp:∀x∈cs,0 < x.w) (k:Nat) (hn:1≤cs.length) (hk:cs.length≤2 ^ (k+1)) :
 sumTo (fun r=>2 ^ (k+1 - ln (sel lv (k+1) (2 * cs.length - 2)) r)) cs.length=2 ^ (k+1):=by
 have h1:=shares (sel lv (k+1) (2 * cs.length - 2)) cs.length (zeK h hp _ _) (zhu (zls h) _ _)
 rw [vB,zkp h k _ (zg1 h k hn hk)] at h1
 have e:(2 * cs.length - 2) * 2 ^ k+2 ^ (k+1)=cs.length * 2 ^ (k+1):=by
  rw [Nat.pow_succ,show 2 ^ k * 2=2 * 2 ^ k from Nat.mul_comm _ _,←Nat.mul_assoc]
  obtain ⟨j,hj⟩:∃j,cs.length=j+1:=⟨cs.length - 1,by omega⟩
  rw [hj,show 2 * (j+1) - 2=2 * j from by omega,show (j+1) * 2=2 * j+2 from by omega,Nat.add_mul]
 omega
theorem taken (h:Lv cs lv) (hp:∀x∈cs,0 < x.w) (k:Nat) (hn:2≤cs.length) (hk:cs.length≤2 ^ (k+1)) (r:Nat) (hr:r < cs.length):1≤ln (sel lv (k+1) (2 * cs.length - 2)) r:=by
 have h1:=whole h hp k (by omega) hk
 rcases Nat.eq_zero_or_pos (ln (sel lv (k+1) (2 * cs.length - 2)) r) with h0|h0
 ·exfalso
  obtain ⟨q,hq,hne⟩:∃q,q < cs.length∧r≠q:=by
   rcases Nat.eq_zero_or_pos r with h2|h2
   ·exact ⟨1,by omega,by omega⟩
   ·exact ⟨0,by omega,by omega⟩
  have:=zis (fun r=>2 ^ (k+1 - ln (sel lv (k+1) (2 * cs.length - 2)) r)) hr hq hne
  simp only [h0,Nat.sub_zero] at this
  have hpos:0 < 2 ^ (k+1 - ln (sel lv (k+1) (2 * cs.length - 2)) q):=Nat.pow_pos (by decide)
  omega
 ·exact h0
end
end Go.Pm
namespace Go.Hf
set_option linter.all false
def kS:List Nat→Nat
 |[]=>0
 |x::r=>(if 0 < x then 2 ^ (15 - x) else 0)+kS r
theorem zfz (a b:List Nat):kS (a++b)=kS a+kS b:=by
 induction a with
 |nil=>simp [kS]
 |cons x r ih=>simp only [List.cons_append,kS,ih];omega
theorem zgR (l:List Nat):kS l≤l.length * 16384:=by
 induction l with
 |nil=>simp [kS]
 |cons x r ih=>
  have:(if 0 < x then 2 ^ (15 - x) else 0)≤16384:=by
   split
   ·exact Nat.le_trans (Nat.pow_le_pow_right (by decide) (show 15 - x≤14 by omega)) (by decide)
   ·omega
  simp only [kS,List.length_cons]
  omega
def cn (l:List Nat) (n:Nat):Nat:=(l.filter fun x=>x == n).length
theorem Yr (a b:List Nat) (n:Nat):cn (a++b) n=cn a n+cn b n:=by simp [cn]
theorem uQ (x:Nat) (r:List Nat) (n:Nat):cn (x::r) n=(if x=n then 1 else 0)+cn r n:=by
 unfold cn
 by_cases h:x=n
 ·simp [h];omega
 ·simp [h]
def fs (l:List Nat):Nat→Nat
 |0=>0
 |n+1=>2 * (fs l n+if n=0 then 0 else cn l n)
theorem zpp (l:List Nat):fs l 1=0:=rfl
theorem zc3 (l:List Nat) {n:Nat} (h:0 < n):fs l (n+1)=2 * (fs l n+cn l n):=by
 rw [fs,if_neg (by omega)]
def ks (l:List Nat) (n:Nat):Nat:=kS (l.filter fun x=>decide (x≤n))
theorem X6 (l:List Nat) (n:Nat):ks l (n+1)=ks l n+cn l (n+1) * 2 ^ (15 - (n+1)):=by
 induction l with
 |nil=>simp [ks,kS,cn]
 |cons x r ih=>
  unfold ks at *
  rw [uQ]
  rcases Nat.lt_trichotomy x (n+1) with h|h|h
  ·have h1:x≤n+1:=by omega
   have h2:x≤n:=by omega
   have h3:x≠n+1:=by omega
   simp only [List.filter_cons,h1,h2,h3,decide_true,if_true,kS,if_false,ih,Nat.zero_add]
   omega
  ·subst h
   have h2:¬n+1≤n:=by omega
   simp only [List.filter_cons,Nat.le_refl,h2,decide_true,decide_false,if_true,Bool.false_eq_true,if_false,kS,ih,Nat.zero_lt_succ,Nat.add_mul,Nat.one_mul]
   omega
  ·have h1:¬x≤n+1:=by omega
   have h2:¬x≤n:=by omega
   have h3:x≠n+1:=by omega
   simp only [List.filter_cons,h1,h2,h3,decide_false,Bool.false_eq_true,if_false,ih,Nat.zero_add]
theorem zda (l:List Nat):ks l 0=0:=by
 induction l with
 |nil=>rfl
 |cons x r ih=>
  unfold ks at *
  by_cases h:x≤0
  ·simp only [List.filter_cons,h,decide_true,if_true,kS,ih]
   rw [if_neg (by omega)]
  ·simp only [List.filter_cons,h,decide_false,Bool.false_eq_true,if_false,ih]
theorem zfA {l:List Nat} {n:Nat} (h:∀x∈l,x≤n):ks l n=kS l:=by
 unfold ks
 rw [List.filter_eq_self.2 (fun x hx=>by simpa using h x hx)]
theorem znm (l:List Nat) {a b:Nat} (h:a≤b):ks l a≤ks l b:=by
 induction b with
 |zero=>rw [Nat.le_zero.1 h];exact Nat.le_refl _
 |succ b ih=>
  rcases Nat.lt_or_ge a (b+1) with h'|h'
  ·rw [X6];have:=ih (by omega);omega
  ·rw [show a=b+1 from by omega];exact Nat.le_refl _
theorem zgV (l:List Nat) (n:Nat):ks l n≤kS l:=by
 have key:∀l:List Nat,kS (l.filter fun x=>decide (x≤n))≤kS l:=by
  intro l
  induction l with
  |nil=>exact Nat.le_refl _
  |cons x r ih=>
   by_cases h:x≤n
   ·simp only [List.filter_cons,h,decide_true,if_true,kS];omega
   ·simp only [List.filter_cons,h,decide_false,Bool.false_eq_true,if_false,kS];omega
 exact key l
theorem Qp (l:List Nat):∀n,1≤n→n≤15→(fs l n+cn l n) * 2 ^ (15 - n)=ks l n
 |0,h,_=>by omega
 |1,_,_=>by
  have h:ks l 1=ks l 0+cn l 1 * 2 ^ (15 - 1):=X6 l 0
  rw [zda] at h
  rw [zpp,Nat.zero_add]
  omega
 |n+2,_,h2=>by
  have ih:=Qp l (n+1) (by omega) (by omega)
  rw [zc3 l (by omega),X6,←ih,Nat.add_mul]
  congr 1
  rw [show 15 - (n+1)=15 - (n+1+1)+1 from by omega,Nat.pow_succ]
  generalize fs l (n+1)+cn l (n+1)=x
  generalize 2 ^ (15 - (n+1+1))=y
  rw [Nat.mul_comm 2 x,Nat.mul_assoc,Nat.mul_comm 2 y]
theorem zaZ {l:List Nat} (hk:kS l≤32768) {n:Nat} (h1:1≤n) (h2:n≤15):fs l n+cn l n≤2 ^ n:=by
 have h:=Qp l n h1 h2
 have h3:=zgV l n
 have h4:(fs l n+cn l n) * 2 ^ (15 - n)≤2 ^ n * 2 ^ (15 - n):=by
  rw [h,←Nat.pow_add,show n+(15 - n)=15 from by omega]
  exact Nat.le_trans h3 hk
 exact Nat.le_of_mul_le_mul_right h4 (Nat.pow_pos (by decide))
def cd (l:List Nat) (i:Nat):Nat:=if l.getD i 0=0 then 0 else fs l (l.getD i 0)+cn (l.take i) (l.getD i 0)
def cds (l:List Nat):List Nat:=(List.range l.length).map (cd l)
theorem zaN {l:List Nat} {i n:Nat} (hi:l[i]? =some n):cn (l.take i) n < cn l n:=by
 have hlt:i < l.length:=by
  rcases Nat.lt_or_ge i l.length with h|h
  ·exact h
  ·simp [List.getElem?_eq_none h] at hi
 have e:l=l.take i++(n::l.drop (i+1)):=by
  rw [List.getElem?_eq_getElem hlt] at hi
  rw [←Option.some.inj hi,←List.drop_eq_getElem_cons hlt,List.take_append_drop]
 have:=congrArg (fun x=>cn x n) e
 simp only [Yr,uQ,if_true] at this
 omega
theorem zd2 {l:List Nat} {i n:Nat} (hi:l[i]? =some n) (h0:n≠0):fs l n≤cd l i∧cd l i < fs l n+cn l n:=by
 have hg:l.getD i 0=n:=by simp [List.getD,hi]
 have:=zaN hi
 unfold cd
 rw [hg,if_neg h0]
 omega
theorem XO (l:List Nat) (n:Nat) {i j:Nat} (h:i≤j):cn (l.take i) n≤cn (l.take j) n:=by
 have:l.take j=l.take i++(l.drop i).take (j - i):=by
  rw [List.take_drop,show i+(j - i)=j from by omega]
  have h1:l.take i=(l.take j).take i:=by rw [List.take_take,Nat.min_eq_left h]
  rw [h1,List.take_append_drop]
 rw [this,Yr]
 omega
theorem zpd {l:List Nat} {i j n:Nat} (hi:l[i]? =some n) (hj:l[j]? =some n) (h0:n≠0) (he:cd l i=cd l j):i=j:=by
 have key:∀{i j:Nat},l[i]? =some n→l[j]? =some n→i < j→cd l i < cd l j:=by
  intro i j hi hj hlt
  have hg:l.getD i 0=n:=by simp [List.getD,hi]
  have hg2:l.getD j 0=n:=by simp [List.getD,hj]
  have h1:cn (l.take (i+1)) n=cn (l.take i) n+1:=by
   rw [List.take_add_one,hi,Yr]
   simp [cn]
  have h2:=XO l n (show i+1≤j from hlt)
  unfold cd
  rw [hg,hg2,if_neg h0,if_neg h0]
  omega
 rcases Nat.lt_trichotomy i j with h|h|h
 ·have:=key hi hj h;omega
 ·exact h
 ·have:=key hj hi h;omega
theorem zgz {l:List Nat} {n v:Nat} (h0:n≠0) (h1:fs l n≤v) (h2:v < fs l n+cn l n):∃i,l[i]? =some n∧cd l i=v:=by
 have key:∀(l:List Nat) (k:Nat),k < cn l n→∃i,l[i]? =some n∧cn (l.take i) n=k:=by
  intro l
  induction l with
  |nil=>intro k hk;simp [cn] at hk
  |cons x r ih=>
   intro k hk
   rw [uQ] at hk
   by_cases hx:x=n
   ·rw [if_pos hx] at hk
    rcases Nat.eq_zero_or_pos k with h|h
    ·exact ⟨0,by simp [hx],by simp [cn,h]⟩
    ·obtain ⟨i,hi,hc⟩:=ih (k - 1) (by omega)
     exact ⟨i+1,by simpa using hi,by rw [List.take_succ_cons,uQ,if_pos hx,hc];omega⟩
   ·rw [if_neg hx,Nat.zero_add] at hk
    obtain ⟨i,hi,hc⟩:=ih k hk
    exact ⟨i+1,by simpa using hi,by rw [List.take_succ_cons,uQ,if_neg hx,hc];omega⟩
 obtain ⟨i,hi,hc⟩:=key l (v - fs l n) (by omega)
 have hg:l.getD i 0=n:=by simp [List.getD,hi]
 refine ⟨i,hi,?_⟩
 unfold cd
 rw [hg,if_neg h0,hc]
 omega
theorem zed (l:List Nat) {n:Nat} (h0:0 < n):∀k,(fs l n+cn l n) * 2 ^ (k+1)≤fs l (n+k+1)
 |0=>by rw [zc3 l (by omega)];simp;omega
 |k+1=>by
  have ih:=zed l h0 k
  rw [show n+(k+1)+1=(n+k+1)+1 from by omega,zc3 l (by omega),Nat.pow_succ,←Nat.mul_assoc]
  omega
theorem zbX {l:List Nat} {i n m:Nat} (hi:l[i]? =some m) (h0:0 < n) (hm:n < m):fs l n+cn l n≤cd l i / 2 ^ (m - n):=by
 obtain ⟨k,rfl⟩:∃k,m=n+k+1:=⟨m - n - 1,by omega⟩
 have h1:=zed l h0 k
 have h2:=(zd2 hi (by omega)).1
 rw [Nat.le_div_iff_mul_le (Nat.pow_pos (by decide)),show n+k+1 - n=k+1 from by omega]
 omega
def ext (l:List Nat) (n v:Nat):Prop:=∃(i m:Nat),l[i]? =some m∧n < m∧cd l i / 2 ^ (m - n)=v
theorem ext_iff {l:List Nat} (hk:kS l≤32768) (hl:∀x∈l,x≤15) {n v:Nat} (hn:n≤15):ext l n v↔((if n=0 then 0 else fs l n+cn l n)≤v∧v * 2 ^ (15 - n) < kS l):=by
 have hend:∀m,1≤m→m≤15→(fs l m+cn l m) * 2 ^ (15 - m)≤kS l:=fun m h1 h2=>by rw [Qp l m h1 h2];exact zgV l m
 constructor
 ·rintro ⟨i,m,hi,hm,rfl⟩
  have hm15:=hl m (List.mem_of_getElem? hi)
  obtain ⟨c1,c2⟩:=zd2 hi (by omega)
  refine ⟨?_,?_⟩
  ·split
   ·exact Nat.zero_le _
   ·exact zbX hi (by omega) hm
  ·have h1:=hend m (by omega) hm15
   have h2:cd l i / 2 ^ (m - n) * 2 ^ (15 - n)≤cd l i * 2 ^ (15 - m):=by
    rw [show 15 - n=(m - n)+(15 - m) from by omega,Nat.pow_add,←Nat.mul_assoc]
    exact Nat.mul_le_mul_right _ (Nat.div_mul_le_self _ _)
   have h3:(cd l i+1) * 2 ^ (15 - m)≤(fs l m+cn l m) * 2 ^ (15 - m):=Nat.mul_le_mul_right _ c2
   have h4:0 < 2 ^ (15 - m):=Nat.pow_pos (by decide)
   rw [Nat.add_mul] at h3
   omega
 ·rintro ⟨h1,h2⟩
  -- the first length whose codes reach beyond v
  have hex:∃m,n < m∧m≤15∧v * 2 ^ (15 - n) < ks l m:=by
   refine ⟨15,?_,Nat.le_refl _,by rw [zfA hl];exact h2⟩
   rcases Nat.lt_or_ge n 15 with h|h
   ·exact h
   ·exfalso
    have hn15:n=15:=by omega
    subst hn15
    rw [if_neg (by omega)] at h1
    have h3:=Qp l 15 (by omega) (by omega)
    rw [zfA hl] at h3
    simp at h3 h2
    omega
  have hmin:∃m,n < m∧m≤15∧v * 2 ^ (15 - n) < ks l m∧∀q,n < q→q < m→ks l q≤v * 2 ^ (15 - n):=by
   obtain ⟨m,a1,a2,a3⟩:=hex
   have key:∀m,n < m→m≤15→v * 2 ^ (15 - n) < ks l m→∃m,n < m∧m≤15∧v * 2 ^ (15 - n) < ks l m∧∀q,n < q→q < m→ks l q≤v * 2 ^ (15 - n):=by
    intro m
    induction m with
    |zero=>intro h;omega
    |succ m ih=>
     intro b1 b2 b3
     by_cases hc:n < m∧v * 2 ^ (15 - n) < ks l m
     ·exact ih hc.1 (by omega) hc.2
     ·refine ⟨m+1,b1,b2,b3,fun q c1 c2=>?_⟩
      have:ks l q≤ks l m:=znm l (by omega)
      have h5:¬v * 2 ^ (15 - n) < ks l m:=fun h=>hc ⟨by omega,h⟩
      omega
   exact key m a1 a2 a3
  obtain ⟨m,m1,m2,m3,m4⟩:=hmin
  have hlow:ks l (m - 1)≤v * 2 ^ (15 - n):=by
   rcases Nat.lt_or_ge n (m - 1) with h|h
   ·exact m4 (m - 1) h (by omega)
   ·have hmn:m - 1=n:=by omega
    rw [hmn]
    rcases Nat.eq_zero_or_pos n with h0|h0
    ·subst h0;rw [zda];exact Nat.zero_le _
    ·rw [if_neg (by omega)] at h1
     rw [←Qp l n h0 hn]
     exact Nat.mul_le_mul_right _ h1
  have hstep:ks l m=ks l (m - 1)+cn l m * 2 ^ (15 - m):=by
   obtain ⟨q,rfl⟩:∃q,m=q+1:=⟨m - 1,by omega⟩
   exact X6 l q
  have hfe:=Qp l m (by omega) m2
  -- the code of length m that begins with v and goes on with zeros
  have hp:v * 2 ^ (15 - n)=v * 2 ^ (m - n) * 2 ^ (15 - m):=by
   rw [Nat.mul_assoc,←Nat.pow_add,show m - n+(15 - m)=15 - n from by omega]
  have hpos:0 < 2 ^ (15 - m):=Nat.pow_pos (by decide)
  have g1:fs l m≤v * 2 ^ (m - n):=by
   have:fs l m * 2 ^ (15 - m)≤v * 2 ^ (m - n) * 2 ^ (15 - m):=by
    rw [←hp]
    rw [Nat.add_mul] at hfe
    omega
   exact Nat.le_of_mul_le_mul_right this hpos
  have g2:v * 2 ^ (m - n) < fs l m+cn l m:=by
   have:v * 2 ^ (m - n) * 2 ^ (15 - m) < (fs l m+cn l m) * 2 ^ (15 - m):=by rw [←hp,hfe];exact m3
   exact Nat.lt_of_mul_lt_mul_right this
  obtain ⟨i,hi,hc⟩:=zgz (show m≠0 by omega) g1 g2
  refine ⟨i,m,hi,m1,?_⟩
  rw [hc,Nat.mul_div_cancel _ (Nat.pow_pos (by decide))]
end Go.Hf
namespace Go.Vx
open Go
set_option linter.all false
variable [W0]
section
variable {P : Program} {n : Nat} {M : List (Nat × Value)} {L : List Chunk} {d : Nat} {ty : TypeId} {ps : String} {af : Array Edge} {g : Option (Nat × Bool)} {x y : Operand}
theorem uq {t u:TypeId} {k':IntKind} {i j:Int} (a s:Nat) (hx:ev M x=some (.int .i64 i)) (hy:ev M y=some (.int k' j)) (hi:i=(a:Int)) (hj:j=(s:Int)) (hs:s≤64) (hr:a * 2 ^ s≤9223372036854775807) :
 EV P n ⟨some d,.binOp .shl t x y u,ty,ps,af,g⟩ M L d (.int .i64 ((a * 2 ^ s:Nat):Int)):=by
 subst hi hj
 refine zfa hx hy (by omega) ?_
 rw [Int.toNat_natCast,Nat.min_eq_left (by simpa [IntKind.bits] using hs)]
 have c:(a:Int) * 2 ^ s=((a * 2 ^ s:Nat):Int):=by simp
 rw [c]
 exact wrap_i64 (by omega) (by omega)
end
omit [W0] in
def wnv (l:List Nat):List Value:=l.map fun (n:Nat)=>Value.int .u32 (n:Int)
theorem wG {l:List Nat}:(wnv l).length=l.length:=by simp [wnv]
theorem zbB {l:List Nat}:ones (wnv l)=true:=by simp [ones,wnv,Value.oneCell']
theorem zaA {l:List Nat} {i n:Nat} (h:l[i]? =some n):(wnv l)[i]? =some (.int .u32 (n:Int)):=by simp [wnv,h]
theorem QG:∀n,zeros [.int .u32 0] n=wnv (List.replicate n 0)
 |0=>rfl
 |n+1=>by simp only [zeros,List.replicate_succ];rw [QG n];rfl
theorem wT {l:List Int} {i:Nat} (h:i < l.length):(yg l)[i]? =some (.int .i64 (l.getD i 0)):=by simp [yg,List.getD,h]
end Go.Vx
namespace Go.Hf
def okL (ls:List Int):Bool:=ls.all fun x=>decide (0≤x)&&decide (x≤15)
def nl (ls:List Int):List Nat:=ls.map Int.toNat
def wgt (ls:List Int):Int:=if okL ls then (kS (nl ls):Int) else -1
theorem zS (ls:List Int):(nl ls).length=ls.length:=by simp [nl]
theorem zeu {ls:List Int} {i:Nat} (hi:i < ls.length) (h:okL (ls.take i)=true) (h1:0≤ls.getD i 0) (h2:ls.getD i 0≤15):okL (ls.take (i+1))=true:=by
 have hg:ls.getD i 0=ls[i]:=by simp [List.getD,hi]
 rw [hg] at h1 h2
 unfold okL at *
 rw [List.take_add_one,List.getElem?_eq_getElem hi,List.all_append,h]
 simp [h1,h2]
theorem zhd {ls:List Int} {i:Nat} (hi:i < ls.length) (h:ls.getD i 0 < 0∨15 < ls.getD i 0):okL ls=false:=by
 have hg:ls.getD i 0=ls[i]:=by simp [List.getD,hi]
 rw [hg] at h
 unfold okL
 rw [List.all_eq_false]
 refine ⟨ls[i],List.getElem_mem hi,?_⟩
 simp only [Bool.and_eq_true,decide_eq_true_eq]
 omega
theorem zhe {ls:List Int} (h:okL ls=true) {x:Int} (hx:x∈ls):0≤x∧x≤15:=by
 have:=List.all_eq_true.1 h x hx
 simpa using this
theorem Xw {ls:List Int} (h:okL ls=true) {x:Nat} (hx:x∈nl ls):x≤15:=by
 obtain ⟨y,hy,rfl⟩:=List.mem_map.1 hx
 have:=zhe h hy
 omega
theorem zdg {ls:List Int} (h:okL ls=true) (i:Nat):0≤ls.getD i 0∧ls.getD i 0≤15∧((nl ls).getD i 0:Int)=ls.getD i 0:=by
 rcases Nat.lt_or_ge i ls.length with hi|hi
 ·have hg:ls.getD i 0=ls[i]:=by simp [List.getD,hi]
  have hg2:(nl ls).getD i 0=ls[i].toNat:=by simp [nl,List.getD,hi]
  have:=zhe h (List.getElem_mem hi)
  rw [hg,hg2]
  omega
 ·have hg:ls.getD i 0=0:=by simp [List.getD,List.getElem?_eq_none hi]
  have hg2:(nl ls).getD i 0=0:=by simp [nl,List.getD,List.getElem?_eq_none hi]
  rw [hg,hg2]
  omega
theorem zni {ls:List Int} {i:Nat} (hi:i < ls.length):kS (nl (ls.take (i+1)))=kS (nl (ls.take i))+(if 0 < (ls.getD i 0).toNat then 2 ^ (15 - (ls.getD i 0).toNat) else 0):=by
 have hg:ls.getD i 0=ls[i]:=by simp [List.getD,hi]
 rw [List.take_add_one,List.getElem?_eq_getElem hi,hg]
 simp only [nl,List.map_append,zfz,Option.toList,List.map_cons,List.map_nil,kS]
 omega
end Go.Hf
namespace Go.Proofs.YtfbfcapoobmdpaaGreatDoor
open Go Go.Vx Go.Hf
variable [W0]
set_option maxRecDepth 4000
set_option linter.all false
theorem zbA (a:Option Addr) (c:Nat) (ls:List Int) (L:List Chunk) (h:Sl L 1 (.slice a ls.length c) ls.length (yg ls)) (hl:ls.length≤17592186044416) :
 GvP Tryz.prog 189 [.slice a ls.length c].toArray L (.int .i64 (wgt ls)):=by
 refine Gv.of_body Tryz.func189 rfl rfl ?_
 refine kW ?_
 refine zn (X:=Nat) (fun i=>[(0,.slice a ls.length c),(3,.int .i64 ((kS (nl (ls.take i)):Nat):Int)),(4,.int .i64 (i:Int))]) (fun _=>L) (fun i=>i≤ls.length∧okL (ls.take i)=true) (fun i=>ls.length - i) 0 ⟨Nat.zero_le _,rfl⟩ iS (fun w h=>h) ?_
 intro i ⟨hi,hok⟩
 (repeat' first|refine kW ?_|refine kU fun bk=>?_|refine kV fun hc=>?_|refine kZ (fun hc=>?_) fun hc=>?_|fail)
 ·have hlt:i < ls.length:=by omega
  obtain ⟨b,off,cap,cc,T,fr,hve,hfn,hcell⟩:=yV h (wT hlt)
  injection hve with e1 e2 e3
  subst e1 e3
  clear e2
  have hk:=zgR (nl (ls.take i))
  have hkl:(nl (ls.take i)).length=i:=by simp [nl];omega
  rw [hkl] at hk
  have hst:=zni hlt
  have hbad:=zhd hlt
  have hgood:=zeu hlt hok
  obtain ⟨x,hx⟩:∃x,x=ls.getD i 0:=⟨_,rfl⟩
  rw [←hx] at hcell hst hbad hgood
  refine ze (zi (j:=i) rfl rfl rfl hlt) rfl ?_
  refine kW ?_
  refine ze (zq rfl hfn hcell) rfl ?_
  (repeat' first|refine kW ?_|refine kU fun bk=>?_|refine kV fun hc=>?_|refine kZ (fun hc=>?_) fun hc=>?_|fail)
  ·refine kR ?_
   exact ⟨L,iC,by unfold wgt;rw [hbad (by omega)];rfl,rfl⟩
  ·refine ze (zi (j:=i) rfl rfl rfl hlt) rfl ?_
   refine kW ?_
   refine ze (zq rfl hfn hcell) rfl ?_
   (repeat' first|refine kW ?_|refine kU fun bk=>?_|refine kV fun hc=>?_|refine kZ (fun hc=>?_) fun hc=>?_|fail)
   ·refine kR ?_
    exact ⟨L,iC,by unfold wgt;rw [hbad (by omega)];rfl,rfl⟩
   ·refine ze (zi (j:=i) rfl rfl rfl hlt) rfl ?_
    refine kW ?_
    refine ze (zq rfl hfn hcell) rfl ?_
    (repeat' first|refine kW ?_|refine kU fun bk=>?_|refine kV fun hc=>?_|refine kZ (fun hc=>?_) fun hc=>?_|fail)
    ·obtain ⟨m,rfl⟩:∃m:Nat,x=(m:Int):=⟨x.toNat,by omega⟩
     rw [Int.toNat_natCast,if_pos (by omega)] at hst
     have hp:2 ^ (15 - m)≤2 ^ 15:=Nat.pow_le_pow_right (by decide) (by omega)
     refine ze (zi (j:=i) rfl rfl rfl hlt) rfl ?_
     refine kW ?_
     refine ze (zq rfl hfn hcell) rfl ?_
     refine kW ?_
     refine ze (uq 1 (15 - m) rfl rfl rfl (by omega) (by omega) (by omega)) rfl ?_
     rw [Nat.one_mul]
     refine kW ?_
     rw [show ((kS (nl (ls.take i)):Nat):Int)+((2 ^ (15 - m):Nat):Int)=((kS (nl (ls.take (i+1))):Nat):Int) from by rw [hst];omega]
     skip
     refine zf (X:=Nat) (μ:=fun i=>ls.length - i) (x:=i) (i+1) (by omega) ⟨by omega,hgood (by omega) (by omega)⟩ iS (fun w h=>h)
    ·have hx0:x=0:=by omega
     have hst2:kS (nl (ls.take (i+1)))=kS (nl (ls.take i)):=by rw [hst,hx0];simp
     rw [←hst2]
     refine zf (X:=Nat) (μ:=fun i=>ls.length - i) (x:=i) (i+1) (by omega) ⟨by omega,hgood (by omega) (by omega)⟩ iS (fun w h=>h)
 ·have hil:i=ls.length:=by omega
  rw [hil,List.take_length] at hok
  refine kR ?_
  refine ⟨L,iC,?_,rfl⟩
  unfold wgt
  rw [hok,hil,List.take_length]
  rfl
theorem Xq (a:Option Addr) (c:Nat) (ls:List Int) (L:List Chunk) (h:Sl L 1 (.slice a ls.length c) ls.length (yg ls)) (hl:ls.length≤17592186044416) :
 GvP Tryz.prog 140 [.slice a ls.length c].toArray L (.bool (wgt ls == 32768)):=by
 refine Gv.of_body Tryz.func140 rfl rfl ?_
 refine kW ?_
 refine cP rfl rfl (zbA a c ls L h hl) ?_
 refine kW ?_
 exact kE
omit [W0] in
def QL (cs ls:List Nat):Nat→Nat:=Go.Pm.sumTo fun i=>cs.getD i 0 * ls.getD i 0
theorem zjv {cs ls:List Nat} (h1:∀i,cs.getD i 0≤2147483648) (h2:∀i,ls.getD i 0≤1048576) (n:Nat):QL cs ls n≤n * 2251799813685248:=by
 induction n with
 |zero=>simp [QL,Go.Pm.sumTo]
 |succ n ih=>
  have:=Nat.mul_le_mul (h1 n) (h2 n)
  simp only [QL,Go.Pm.sumTo] at *
  omega
omit [W0] in
def icn (l:List Nat):List Int:=l.map fun (n:Nat)=>(n:Int)
theorem zL (l:List Nat):(icn l).length=l.length:=by simp [icn]
theorem zej (l:List Nat) (i:Nat):(icn l).getD i 0=((l.getD i 0:Nat):Int):=by
 rcases Nat.lt_or_ge i l.length with hi|hi
 ·simp [icn,List.getD,hi]
 ·simp [icn,List.getD,List.getElem?_eq_none hi]
end Go.Proofs.YtfbfcapoobmdpaaGreatDoor
namespace Go.Hf
set_option linter.all false
def cdE (ls:List Int):Nat:=if 400 < ls.length∨okL ls=false then 1 else if 32768 < kS (nl ls) then 3 else 0
def cdL (ls:List Int):List Nat:=if cdE ls=0 then cds (nl ls) else []
theorem zaj {ls:List Int} (h:400 < ls.length∨okL ls=false):cdE ls=1∧cdL ls=[]:=by
 have e:cdE ls=1:=if_pos h
 exact ⟨e,by unfold cdL;rw [e];rfl⟩
theorem zbW {ls:List Int} (h1:ls.length≤400) (h2:okL ls=true) (h3:32768 < kS (nl ls)):cdE ls=3∧cdL ls=[]:=by
 have e:cdE ls=3:=by unfold cdE;rw [if_neg (by rw [h2];simp;omega),if_pos h3]
 exact ⟨e,by unfold cdL;rw [e];rfl⟩
theorem Yq {ls:List Int} (h1:ls.length≤400) (h2:okL ls=true) (h3:kS (nl ls)≤32768):cdE ls=0∧cdL ls=cds (nl ls):=by
 have e:cdE ls=0:=by unfold cdE;rw [if_neg (by rw [h2];simp;omega),if_neg (by omega)]
 exact ⟨e,by unfold cdL;rw [e];rfl⟩
theorem uP {ls:List Int} (h:cdE ls=0):ls.length≤400∧okL ls=true∧kS (nl ls)≤32768:=by
 unfold cdE at h
 split at h
 ·omega
 ·rename_i h1
  split at h
  ·omega
  ·refine ⟨by omega,?_,by omega⟩
   cases ho:okL ls with
   |true=>rfl
   |false=>exact absurd (.inr ho) h1
def nx (l:List Nat) (n:Nat):Nat:=fs l (n - 1)+if n - 1=0 then 0 else cn l (n - 1)
theorem zpM (l:List Nat) {n:Nat} (h:1≤n):nx l n * 2 ^ 1=fs l n:=by
 obtain ⟨m,rfl⟩:∃m,n=m+1:=⟨n - 1,by omega⟩
 simp only [nx,Nat.add_sub_cancel,fs]
 omega
theorem zhb (l:List Nat) {n:Nat} (h:1≤n):nx l (n+1)=fs l n+cn l n:=by
 unfold nx
 rw [Nat.add_sub_cancel,if_neg (by omega)]
def outs (l:List Nat) (n j:Nat):List Nat:=(List.range l.length).map fun i=>if (0 < l.getD i 0∧l.getD i 0 < n)∨(l.getD i 0=n∧i < j) then cd l i else 0
theorem wh (l:List Nat) (n j:Nat):(outs l n j).length=l.length:=by simp [outs]
theorem YA {l:List Nat} {n j i:Nat} (hi:i < l.length):(outs l n j)[i]? =some (if (0 < l.getD i 0∧l.getD i 0 < n)∨(l.getD i 0=n∧i < j) then cd l i else 0):=by
 unfold outs
 rw [List.getElem?_map,List.getElem?_range hi]
 rfl
theorem zbg {l:List Nat} {A:List Nat} {n j:Nat} (hl:A.length=l.length) (h:∀i,i < l.length→A[i]? =some (if (0 < l.getD i 0∧l.getD i 0 < n)∨(l.getD i 0=n∧i < j) then cd l i else 0)):A=outs l n j:=by
 apply List.ext_getElem?
 intro i
 rcases Nat.lt_or_ge i l.length with hi|hi
 ·rw [h i hi,YA hi]
 ·rw [List.getElem?_eq_none (by omega),List.getElem?_eq_none (by rw [wh];exact hi)]
theorem zkS {l:List Nat} {n j:Nat} (hj:j < l.length) (he:l.getD j 0=n):(outs l n j).set j (cd l j)=outs l n (j+1):=by
 refine zbg (by rw [List.length_set,wh]) fun i hi=>?_
 by_cases h:i=j
 ·subst h
  rw [List.getElem?_set_self (by rw [wh];exact hi),if_pos (.inr ⟨he,by omega⟩)]
 ·rw [List.getElem?_set_ne (by omega),YA hi]
  congr 1
  have e:(i < j)=(i < j+1):=by apply propext;omega
  simp only [e]
theorem zie {l:List Nat} {n j:Nat} (he:l.getD j 0≠n):outs l n j=outs l n (j+1):=by
 refine zbg (wh l n j) fun i hi=>?_
 rw [YA hi]
 congr 1
 by_cases h:i=j
 ·subst h
  simp only [he,false_and,or_false]
 ·have e:(i < j)=(i < j+1):=by apply propext;omega
  simp only [e]
theorem zid {l:List Nat} {n:Nat} (hn:1≤n):outs l n l.length=outs l (n+1) 0:=by
 refine zbg (wh l n _) fun i hi=>?_
 rw [YA hi]
 congr 1
 have e:((0 < l.getD i 0∧l.getD i 0 < n)∨(l.getD i 0=n∧i < l.length))=((0 < l.getD i 0∧l.getD i 0 < n+1)∨(l.getD i 0=n+1∧i < 0)):=by apply propext;omega
 simp only [e]
theorem zfQ (l:List Nat):outs l 1 0=List.replicate l.length 0:=by
 apply List.ext_getElem?
 intro i
 rcases Nat.lt_or_ge i l.length with hi|hi
 ·rw [YA hi,List.getElem?_replicate,if_pos hi,if_neg (by omega)]
 ·rw [List.getElem?_eq_none (by rw [wh];exact hi),List.getElem?_eq_none (by simp;exact hi)]
theorem zkR {l:List Nat} (h:∀x∈l,x≤15):outs l 16 0=cds l:=by
 unfold outs cds
 refine List.map_congr_left fun i hi=>?_
 have hil:=List.mem_range.1 hi
 have hx:l.getD i 0≤15:=by
  have:l.getD i 0=l[i]:=by simp [List.getD,hil]
  rw [this];exact h _ (List.getElem_mem hil)
 by_cases h0:l.getD i 0=0
 ·rw [if_neg (by omega)]
  unfold cd
  rw [if_pos h0]
 ·rw [if_pos (.inl ⟨by omega,by omega⟩)]
theorem vI {l:List Nat} {j:Nat} (hj:j < l.length) (n:Nat):cn (l.take (j+1)) n=cn (l.take j) n+if l.getD j 0=n then 1 else 0:=by
 have hg:l.getD j 0=l[j]:=by simp [List.getD,hj]
 rw [List.take_add_one,List.getElem?_eq_getElem hj,Yr,hg]
 congr 1
 simp only [Option.toList,uQ]
 simp [cn]
theorem ZX (l:List Nat) (j n:Nat):cn (l.take j) n≤cn l n:=by
 have:=XO l n (show j≤max j l.length by omega)
 rwa [List.take_of_length_le (Nat.le_max_right j l.length)] at this
end Go.Hf
namespace Go.Proofs.YtfbfcapoobmdpaaGreatDoor
open Go Go.Vx Go.Hf
variable [W0]
set_option maxRecDepth 4000
set_option linter.all false
theorem zfZ (a:Option Addr) (c:Nat) (ls:List Int) (L:List Chunk) (h:Sl L 1 (.slice a ls.length c) ls.length (yg ls)) (hl:ls.length≤17592186044416) :
 Gv Tryz.prog 227 [.slice a ls.length c].toArray L (fun r L'=>∃u C,r=.tuple #[u,.int .i64 (cdE ls:Int)]∧L'=C::L∧Ow 88 1 u (cdL ls).length (wnv (cdL ls)) C):=by
 refine Gv.of_body Tryz.func227 rfl rfl ?_
 have hno:∀(e:Nat),cdE ls=e→cdL ls=[]→∀M:List (Nat × Value),lk M 2=some (.slice none 0 0)→lk M 3=some (.int .i64 (e:Int))→
  WQ Tryz.f227.ntmps (bodyPost Tryz.prog Tryz.f227 (fun e w'=>∃v L',e=.returned v∧(∃u C,v=.tuple #[u,.int .i64 (cdE ls:Int)]∧L'=C::L∧Ow 88 1 u (cdL ls).length (wnv (cdL ls)) C)∧Holds w' L') .ret) M L:=by
  intro e he hc M h2 h3
  refine um (rs:=[.tmp 2,.tmp 3]) (vs:=[.slice none 0 0,.int .i64 (e:Int)]) rfl (by simp [Yi,h2,h3]) ?_
  rw [he,hc]
  exact ⟨[]::L,fun w hw=>Holds.nil.2 hw,_,[],rfl,rfl,.inl ⟨rfl,rfl,rfl,rfl⟩⟩
 (repeat' first|refine kW ?_|refine kU fun bk=>?_|refine kV fun hc=>?_|refine kZ (fun hc=>?_) fun hc=>?_|fail)
 ·obtain ⟨e1,e2⟩:=zaj (ls:=ls) (.inl (by omega))
  exact hno 1 e1 e2 _ rfl rfl
 have h400:ls.length≤400:=by omega
 refine cP rfl rfl (zbA a c ls L h hl) ?_
 have hw:okL ls=true→wgt ls=(kS (nl ls):Int):=fun h=>by unfold wgt;rw [h];rfl
 cases hok:okL ls with
 |false=>
  have hw2:wgt ls= -1:=by unfold wgt;rw [hok];rfl
  rw [hw2]
  obtain ⟨e1,e2⟩:=zaj (ls:=ls) (.inr hok)
  refine kW ?_
  exact hno 1 e1 e2 _ rfl rfl
 |true=>
  have hw1:=hw hok
  have hkl:=zgR (nl ls)
  rw [zS] at hkl
  rw [hw1]
  refine kW ?_
  refine cP rfl rfl (zbA a c ls L h hl) ?_
  rw [hw1]
  (repeat' first|refine kW ?_|refine kU fun bk=>?_|refine kV fun hc=>?_|refine kZ (fun hc=>?_) fun hc=>?_|fail)
  ·obtain ⟨e1,e2⟩:=zbW h400 hok (by omega)
   exact hno 3 e1 e2 _ rfl rfl
  obtain ⟨l,hll⟩:∃l,l=nl ls:=⟨_,rfl⟩
  have hlen:l.length=ls.length:=by rw [hll,zS]
  have hk:kS l≤32768:=by rw [hll];omega
  have h15:∀x∈l,x≤15:=fun x hx=>Xw hok (by rw [←hll];exact hx)
  obtain ⟨e1,e2⟩:=Yq h400 hok (by rw [←hll];exact hk)
  rw [←hll] at e2
  have hfit:∀n,1≤n→n≤15→fs l n+cn l n≤32768:=fun n h1 h2=>Nat.le_trans (zaZ hk h1 h2) (Nat.le_trans (Nat.pow_le_pow_right (by decide) h2) (by decide))
  have hnx:∀n,1≤n→n≤16→nx l n≤32768:=fun n h1 h2=>by
   rcases Nat.eq_or_lt_of_le h1 with h3|h3
   ·subst h3;simp [nx,fs]
   ·have:=hfit (n - 1) (by omega) (by omega)
    have h4:=zhb l (n:=n - 1) (by omega)
    rw [show n - 1+1=n from by omega] at h4
    omega
  refine zJ (m:=ls.length) (c:=ls.length) rfl rfl (by rfl) (by omega) (by omega) (by omega) rfl (fun bn=>?_)
  rw [show zeros (Value.int .u32 0).cells.toList ls.length=wnv (outs l 1 0) from by rw [zfQ,hlen];exact QG _]
  refine kW ?_
  refine zn (X:=Nat) (fun n=>[(0,.slice a ls.length c),(4,.slice (some ⟨bn,0,none⟩) ls.length ls.length),(5,.int .u32 ((nx l n:Nat):Int)),(6,.int .i64 (n:Int))]) (fun n=>[(bn,cl (wnv (outs l n 0)) 88)]::L) (fun n=>1≤n∧n≤16) (fun n=>16 - n) 1 ⟨by omega,by omega⟩ iS (fun w h=>h) ?_
  intro n ⟨hn1,hn2⟩
  have hnn:=hnx n hn1 hn2
  (repeat' first|refine kW ?_|refine kU fun bk=>?_|refine kV fun hc=>?_|refine kZ (fun hc=>?_) fun hc=>?_|fail)
  ·have hn15:n≤15:=by omega
   have hf:=hfit n hn1 hn15
   refine ze (vH (nx l n) 1 rfl rfl rfl rfl rfl (by simp only [IntKind.bits];omega)) rfl ?_
   rw [zpM l hn1]
   refine kW ?_
   refine zn (X:=Nat) (fun j=>[(0,.slice a ls.length c),(4,.slice (some ⟨bn,0,none⟩) ls.length ls.length),(5,.int .u32 ((fs l n+cn (l.take j) n:Nat):Int)),(6,.int .i64 (n:Int)),(7,.int .i64 (j:Int))]) (fun j=>[(bn,cl (wnv (outs l n j)) 88)]::L) (fun j=>j≤ls.length) (fun j=>ls.length - j) 0 (Nat.zero_le _) iS (fun w h=>h) ?_
   intro j hj
   have hct:=ZX l j n
   (repeat' first|refine kW ?_|refine kU fun bk=>?_|refine kV fun hc=>?_|refine kZ (fun hc=>?_) fun hc=>?_|fail)
   ·have hlt:j < ls.length:=by omega
    obtain ⟨b,off,cap,cc,T,fr,hve,hfn,hcell⟩:=yV h (wT hlt)
    injection hve with q1 q2 q3
    subst q1 q3
    clear q2
    have hat:=(zdg hok j).2.2
    rw [←hll] at hat
    rw [←hat] at hcell
    have hcs:=vI (l:=l) (j:=j) (by omega) n
    refine ze (zi (j:=j) rfl rfl rfl hlt) rfl ?_
    refine kW ?_
    refine ze (zq rfl hfn.there hcell) rfl ?_
    (repeat' first|refine kW ?_|refine kU fun bk=>?_|refine kV fun hc=>?_|refine kZ (fun hc=>?_) fun hc=>?_|fail)
    ·have hg:l.getD j 0=n:=by omega
     rw [if_pos hg] at hcs
     have hcd:cd l j=fs l n+cn (l.take j) n:=by unfold cd;rw [hg,if_neg (by omega)]
     rw [←hcd]
     refine ze (zh (j:=j) (len:=ls.length) rfl rfl rfl hlt) rfl ?_
     refine kW ?_
     refine zG (l:=wnv (outs l n j)) (wnv (outs l n (j+1))) rfl rfl rfl (by rw [Nat.mul_one,←zkS (by omega) hg];simp [wnv,List.map_set]) iU (by simp [wnv,wh];omega) ?_
     refine kW ?_
     refine ze (qj rfl rfl rfl) rfl ?_
     rw [show ((cd l j:Nat):Int)+1=((fs l n+cn (l.take (j+1)) n:Nat):Int) from by rw [hcs,hcd];omega,yX rfl (by simp only [IntKind.bits];have:=ZX l (j+1) n;omega)]
     refine kW ?_
     refine zf (X:=Nat) (μ:=fun j=>ls.length - j) (x:=j) (j+1) (by omega) (by omega) iS (fun w h=>h)
    ·have hg:l.getD j 0≠n:=fun he=>hc (by omega)
     rw [if_neg hg] at hcs
     have hcs2:cn (l.take (j+1)) n=cn (l.take j) n:=hcs
     rw [←hcs2]
     refine zf (X:=Nat) (μ:=fun j=>ls.length - j) (x:=j) (j+1) (by omega) (by omega) iS ?_
     rw [←zie hg]
     exact fun w h=>h
   ·have hje:j=l.length:=by omega
    subst hje
    rw [List.take_length,←zhb l hn1,zid hn1]
    refine zf (X:=Nat) (μ:=fun n=>16 - n) (x:=n) (n+1) (by omega) ⟨by omega,by omega⟩ iS (fun w h=>h)
  ·have hn16:n=16:=by omega
   subst hn16
   rw [zkR h15]
   refine kR ?_
   have hcl:(cds l).length=ls.length:=by simp [cds,hlen]
   refine ⟨[(bn,cl (wnv (cds l)) 88)]::L,iC,_,_,by rw [e1];rfl,rfl,?_⟩
   rw [e2,hcl]
   exact .inr ⟨bn,ls.length,[],rfl,by rw [List.append_nil],by rw [wG,hcl,Nat.mul_one],by simp,Nat.le_refl _,by simp [maxLen];omega⟩
end Go.Proofs.YtfbfcapoobmdpaaGreatDoor
namespace Go.Proofs.YtfbfcapoobmdpaaGreatDoor
open Go Go.Vx
variable [W0]
set_option maxRecDepth 4000
set_option linter.all false
theorem zgu (p m t:Nat) (a:Option Addr) (c:Nat) (T:TypeId) (L:List Chunk) (hf:Fnd L p (cl [.slice a m c,.int .i64 (t:Int)] T)) (hm:m≤140737488355328) (hn:t≤8 * m) :
 GvP Tryz.prog 185 [.pointer (some ⟨p,0,none⟩)].toArray L (.int .i64 ((8 * m - t:Nat):Int)):=by
 refine Gv.of_body Tryz.func185 rfl rfl ?_
 refine kW ?_
 refine zk [] mixed ?_
 (refine za 0 ?_;refine za 1 ?_;refine za 2 ?_;refine za 3 ?_;refine za 4 ?_;refine za 5 ?_;refine za 6 ?_;refine za 7 ?_;refine za 8 ?_;refine za 9 ?_;refine za 10 ?_)
 rw [show 8 * (m:Int) - (t:Int)=((8 * m - t:Nat):Int) from by omega]
 (refine za 11 ?_)
 refine cD ?_
 refine kW ?_
 exact kE
theorem zmG (p t:Nat) (v:Value) (T:TypeId) (L:List Chunk) (hf:Fnd L p (cl [v,.int .i64 (t:Int)] T)) (ht:t≤1125899906842700) :
 GvP Tryz.prog 105 [.pointer (some ⟨p,0,none⟩)].toArray L (.int .i64 (((t+7) / 8:Nat):Int)):=by
 refine Gv.of_body Tryz.func105 rfl rfl ?_
 refine kW ?_
 refine ze (uN (t+7) 8 rfl rfl (by omega) rfl (by decide) (by omega)) rfl ?_
 refine kW ?_
 exact kE
theorem zo6 {d:List UInt8} {t:Nat} (h:t < 8 * d.length):(d.getD (t / 8) 0).toNat / 2 ^ (t % 8) % 2 ^ 1=val d / 2 ^ t % 2:=by
 rw [←zay d (t / 8) (by omega)]
 have e:val d / 2 ^ t=val d / 2 ^ (8 * (t / 8)) / 2 ^ (t % 8):=by
  rw [Nat.div_div_eq_div_mul,←Nat.pow_add,show 8 * (t / 8)+t % 8=t from by omega]
 rw [e]
 generalize val d / 2 ^ (8 * (t / 8))=y
 have e2:(256:Nat)=2 ^ (t % 8) * 2 ^ (8 - t % 8):=by rw [←Nat.pow_add,show t % 8+(8 - t % 8)=8 from by omega]
 rw [e2,Nat.mod_mul_right_div_self]
 exact Nat.mod_mod_of_dvd _ (by
  have:=Nat.pow_dvd_pow 2 (show 1≤8 - t % 8 by omega)
  simpa using this)
end Go.Proofs.YtfbfcapoobmdpaaGreatDoor
namespace Go.Hf
set_option linter.all false
def hit (l:List Nat) (n v i:Nat):Bool:=l.getD i 0 == n&&decide (0 < n)&&cd l i == v
def far (l:List Nat) (n v i:Nat):Bool:=decide (n < l.getD i 0)&&cd l i / 2 ^ (l.getD i 0 - n) == v
def Zk (l:List Nat) (n v:Nat):Option Nat:=(List.range l.length).find? (hit l n v)
def XU (l:List Nat) (n v:Nat):Bool:=(List.range l.length).any (far l n v)
def hv (w t:Nat):Nat→Nat
 |0=>0
 |n+1=>2 * hv w t n+w / 2 ^ (t+n) % 2
def rdS (l:List Nat) (w t z:Nat):Nat→Nat→Nat × Nat × Nat
 |0,n=>(0,3,n)
 |f+1,n=>match Zk l n (hv w t n) with
  |some i=>(i,0,n)
  |none=>if XU l n (hv w t n)=false then (0,3,n) else if z≤t+n then (0,4,n) else rdS l w t z f (n+1)
theorem zcL (a b:Nat):((a:Int) == (b:Int))=(a == b):=by
 rw [Bool.eq_iff_iff]
 simp only [beq_iff_eq]
 omega
theorem zgO (w t:Nat):∀n,hv w t n < 2 ^ n
 |0=>by simp [hv]
 |n+1=>by
  have:=zgO w t n
  simp only [hv,Nat.pow_succ]
  omega
theorem find_range {f:Nat→Bool} {i n:Nat} (hi:i < n) (h:f i=true) (hb:∀j,j < i→f j=false):(List.range n).find? f=some i:=by
 obtain ⟨m,rfl⟩:=Nat.le.dest hi
 rw [show i+1+m=i+(1+m) from by omega,List.range_add,List.find?_append]
 have h1:(List.range i).find? f=none:=by
  rw [List.find?_eq_none]
  intro j hj
  rw [hb j (List.mem_range.1 hj)]
  simp
 rw [h1,Nat.add_comm 1 m,List.range_succ_eq_map]
 simp [h]
theorem Y0 {f:Nat→Bool} {n:Nat} (hb:∀j,j < n→f j=false):(List.range n).find? f=none:=by
 rw [List.find?_eq_none]
 intro j hj
 rw [hb j (List.mem_range.1 hj)]
 simp
theorem any_succ {f:Nat→Bool} (n:Nat):(List.range (n+1)).any f=((List.range n).any f||f n):=by
 rw [List.range_succ,List.any_append]
 simp
theorem getD_lt {l:List Nat} {i:Nat} (h:0 < l.getD i 0):i < l.length:=by
 rcases Nat.lt_or_ge i l.length with h'|h'
 ·exact h'
 ·simp [List.getD,List.getElem?_eq_none h'] at h
theorem zqu {l:List Nat} (hk:kS l≤32768) (hl:∀x∈l,x≤15) (i:Nat):cd l i < 32769:=by
 by_cases h0:l.getD i 0=0
 ·unfold cd;rw [if_pos h0];omega
 ·have hi:=getD_lt (l:=l) (i:=i) (by omega)
  have hg:l[i]? =some (l.getD i 0):=by simp [List.getD,hi]
  have h1:=(zd2 hg h0).2
  have h2:=zaZ hk (n:=l.getD i 0) (by omega) (hl _ (List.mem_of_getElem? hg))
  have h3:2 ^ (l.getD i 0)≤2 ^ 15:=Nat.pow_le_pow_right (by decide) (hl _ (List.mem_of_getElem? hg))
  omega
end Go.Hf
namespace Go.Vx
open Go
set_option linter.all false
variable [W0]
theorem znI {e m:Nat} {v:Value} {xs:List Nat} {C:Chunk} (h:Ow e 1 v m (wnv xs) C) {k:Nat} (hk:k < m) :
 ∃b cap rest,v=.slice (some ⟨b,0,none⟩) m cap∧C=[(b,cl (wnv xs++rest) e)]∧(wnv xs++rest).toArray[k * 1]? =some (.int .u32 (xs.getD k 0:Int)):=by
 rcases h with ⟨rfl,rfl,_⟩|⟨b,cap,rest,rfl,rfl,hxl,hrl,hmc,hcm⟩
 ·omega
 ·refine ⟨b,cap,rest,rfl,rfl,?_⟩
  have hlt:k < xs.length:=by rw [wG] at hxl;omega
  rw [Nat.mul_one]
  simpa using z8 (r:=rest) (zaA (l:=xs) (i:=k) (n:=xs.getD k 0) (by simp [List.getD,hlt]))
end Go.Vx
namespace Go.Proofs.YtfbfcapoobmdpaaGreatDoor
open Go Go.Vx Go.Hf
variable [W0]
set_option maxRecDepth 4000
set_option linter.all false
omit [W0] in
def BiS (p:Nat) (d:List UInt8) (fa:Option Addr) (fc t:Nat) (D:Chunk) (L:List Chunk):Prop:=t≤8 * d.length∧D=[(p,cl [.slice fa d.length fc,.int .i64 (t:Int)] 151)]∧Sl L 1 (.slice fa d.length fc) d.length (bsv d)
theorem zgv (p t:Nat) (v:Value) (d:List UInt8) (L:List Chunk) (hv:Sl L 1 v d.length (bsv d)) (hl:d.length≤140737488355328) (hlt:t < 8 * d.length) :
 Gv Tryz.prog 186 [.pointer (some ⟨p,0,none⟩)].toArray ([(p,cl [v,.int .i64 (t:Int)] 151)]::L) (fun r L'=>r=.int .u32 ((val d / 2 ^ t % 2:Nat):Int)∧L'=[(p,cl [v,.int .i64 ((t+1:Nat):Int)] 151)]::L):=by
 refine Gv.of_body Tryz.func186 rfl rfl ?_
 have hbit:=zo6 hlt
 obtain ⟨b,off,cap,cc,T,fr,rfl,hfn,hcell⟩:=yV hv (wW (l:=d) (i:=t / 8) (b:=d.getD (t / 8) 0) (by simp [List.getD,show t / 8 < d.length from by omega]))
 have hbl:=(d.getD (t / 8) 0).toNat_lt
 obtain ⟨x,hx⟩:∃x,x=(d.getD (t / 8) 0).toNat:=⟨_,rfl⟩
 rw [←hx] at hcell hbl hbit
 have hx2:x / 2 ^ (t % 8)≤x:=Nat.div_le_self _ _
 refine kW ?_
 refine zk [] mixed ?_
 (refine za 0 ?_;refine za 1 ?_;refine za 2 ?_;refine za 3 ?_;refine za 4 ?_;refine za 5 ?_;refine za 6 ?_;refine za 7 ?_)
 refine cT 8 rfl rfl (uN t 8 rfl rfl rfl rfl (by decide) (by omega)) ?_
 refine cT 9 rfl rfl (zi (j:=t / 8) rfl rfl rfl (by omega)) ?_
 refine cT 10 rfl rfl (zq rfl hfn.there hcell) ?_
 (refine za 11 ?_;refine za 12 ?_;refine za 13 ?_;refine za 14 ?_)
 refine cT 15 rfl rfl (XC t 8 rfl rfl rfl rfl (by decide)) ?_
 refine cT 16 rfl rfl (Zo x (t % 8) rfl rfl rfl rfl (by simp only [IntKind.bits];omega)) ?_
 refine cT 17 rfl rfl (vG (k':=.u32) (x / 2 ^ (t % 8)) rfl rfl rfl (by simp only [IntKind.bits];omega)) ?_
 refine cT 18 rfl rfl (uM (x / 2 ^ (t % 8)) 1 rfl rfl rfl rfl rfl (by simp only [IntKind.bits];omega) (by decide)) ?_
 rw [hbit]
 (refine za 19 ?_)
 refine cD ?_
 refine kW ?_
 refine kR ?_
 exact ⟨_,iC,rfl,rfl⟩
theorem zf0 (a:Option Addr) (c:Nat) (ls:List Int) (fa:Option Addr) (fc q t:Nat) (d:List UInt8) (D:Chunk) (L:List Chunk) (h:Sl L 1 (.slice a ls.length c) ls.length (yg ls)) (hok:cdE ls=0) (hB:BiS q d fa fc t D L) (hl:d.length≤140737488355328) :
 Gv Tryz.prog 187 [.slice a ls.length c,.pointer (some ⟨q,0,none⟩)].toArray (D::L) (fun r L'=>∃D',r=.tuple #[.int .i64 ((rdS (nl ls) (val d) t (8 * d.length) 16 0).1:Int),.int .i64 ((rdS (nl ls) (val d) t (8 * d.length) 16 0).2.1:Int)]∧
  BiS q d fa fc (t+(rdS (nl ls) (val d) t (8 * d.length) 16 0).2.2) D' L∧L'=D'::L):=by
 obtain ⟨h400,hoL,hk⟩:=uP hok
 refine Gv.of_body Tryz.func187 rfl rfl ?_
 refine kW ?_
 refine cC rfl rfl (zfZ a c ls (D::L) (zm h) (by omega)) (fun r L' hp=>?_)
 obtain ⟨u,C,rfl,rfl,ho⟩:=hp
 rw [(Yq h400 hoL hk).2,hok] at *
 obtain ⟨l,hll⟩:∃l,l=nl ls:=⟨_,rfl⟩
 rw [←hll] at ho hk ⊢
 have hlen:l.length=ls.length:=by rw [hll,zS]
 have h15:∀x∈l,x≤15:=fun x hx=>Xw hoL (by rw [←hll];exact hx)
 have hcl:(cds l).length=ls.length:=by simp [cds,hlen]
 rw [hcl] at ho
 have hcg:∀i,i < ls.length→(cds l).getD i 0=cd l i:=fun i hi=>by
  have:i < l.length:=by omega
  simp [cds,List.getD,List.getElem?_range this]
 obtain ⟨ua,uc,rfl⟩:=zM ho
 refine kW ?_
 have hgd:∀i,l.getD i 0≤15:=fun i=>by
  rcases Nat.eq_zero_or_pos (l.getD i 0) with h0|h0
  ·omega
  ·have hi:=getD_lt h0
   exact h15 _ (by rw [show l.getD i 0=l[i] from by simp [List.getD,hi]];exact List.getElem_mem hi)
 have hfin:∀(s e k:Nat) (D1:Chunk) (M:List (Nat × Value)) (L1:List Chunk),BiS q d fa fc (t+k) D1 L→rdS l (val d) t (8 * d.length) 16 0=(s,e,k)→lk M 4=some (.int .i64 (s:Int))→lk M 5=some (.int .i64 (e:Int))→(∀w,Holds w L1→Holds w (D1::L))→
  WQ Tryz.f187.ntmps (bodyPost Tryz.prog Tryz.f187 (fun e w'=>∃v L',e=.returned v∧(∃D',v=.tuple #[.int .i64 ((rdS l (val d) t (8 * d.length) 16 0).1:Int),.int .i64 ((rdS l (val d) t (8 * d.length) 16 0).2.1:Int)]∧
   BiS q d fa fc (t+(rdS l (val d) t (8 * d.length) 16 0).2.2) D' L∧L'=D'::L)∧Holds w' L') .ret) M L1:=by
  intro s e k D1 M L1 hB hr h4 h5 hL
  refine um (rs:=[.tmp 4,.tmp 5]) (vs:=[.int .i64 (s:Int),.int .i64 (e:Int)]) rfl (by simp [Yi,h4,h5]) ?_
  rw [hr]
  exact ⟨D1::L,hL,D1,rfl,hB,rfl⟩
 refine zn (X:=Nat × Chunk) (fun x=>[(0,.slice a ls.length c),(1,.pointer (some ⟨q,0,none⟩)),(6,.slice ua ls.length uc),(9,.int .u32 ((hv (val d) t x.1:Nat):Int)),(10,.int .i64 (x.1:Int))])
  (fun x=>C::x.2::L) (fun x=>x.1≤16∧BiS q d fa fc (t+x.1) x.2 L∧rdS l (val d) t (8 * d.length) 16 0=rdS l (val d) t (8 * d.length) (16 - x.1) x.1) (fun x=>16 - x.1) (0,D) ⟨by simp,hB,rfl⟩ iS (fun w h=>h) ?_
 rintro ⟨n,D1⟩ ⟨hn,hB1,hrd⟩
 simp only at hn hB1 hrd ⊢
 have hvl:=zgO (val d) t n
 have hv16:2 ^ n≤2 ^ 16:=Nat.pow_le_pow_right (by decide) hn
 (repeat' first|refine kW ?_|refine kU fun bk=>?_|refine kV fun hc=>?_|refine kZ (fun hc=>?_) fun hc=>?_|fail)
 ·have hn15:n≤15:=by omega
  have hv15:2 ^ n≤2 ^ 15:=Nat.pow_le_pow_right (by decide) hn15
  obtain ⟨v,hv0⟩:∃v,v=hv (val d) t n:=⟨_,rfl⟩
  have hrs:rdS l (val d) t (8 * d.length) (16 - n) n=(match Zk l n v with
   |some i=>(i,0,n)
   |none=>if XU l n v=false then (0,3,n) else if 8 * d.length≤t+n then (0,4,n) else rdS l (val d) t (8 * d.length) (16 - (n+1)) (n+1)):=by
   rw [show 16 - n=(16 - (n+1))+1 from by omega,rdS,hv0]
   try rfl
  rw [hrs] at hrd
  rw [←hv0] at hvl ⊢
  refine zn (X:=Nat × Bool) (fun x=>[(0,.slice a ls.length c),(1,.pointer (some ⟨q,0,none⟩)),(6,.slice ua ls.length uc),(8,.bool x.2),(9,.int .u32 ((v:Nat):Int)),(10,.int .i64 (n:Int)),(11,.int .i64 (x.1:Int))])
   (fun _=>C::D1::L) (fun x=>x.1≤ls.length∧(∀j,j < x.1→hit l n v j=false)∧x.2=(List.range x.1).any (far l n v)) (fun x=>ls.length - x.1) (0,false) ⟨Nat.zero_le _,fun j hj=>by simp at hj,rfl⟩ iS (fun w h=>h) ?_
  rintro ⟨i,sm⟩ ⟨hi,hnone,hsm⟩
  simp only at hi hnone hsm ⊢
  (repeat' first|refine kW ?_|refine kU fun bk=>?_|refine kV fun hc=>?_|refine kZ (fun hc=>?_) fun hc=>?_|fail)
  ·have hlt:i < ls.length:=by omega
   obtain ⟨b,off,cap,cc,T,fr,hve,hfn,hcell⟩:=yV h (wT hlt)
   injection hve with q1 q2 q3
   subst q1 q3
   clear q2
   have hat:=(zdg hoL i).2.2
   rw [←hll] at hat
   rw [←hat] at hcell
   obtain ⟨b2,cap2,rest2,hve,rfl,hword⟩:=znI ho (k:=i) hlt
   injection hve with q1 q2 q3
   subst q1 q3
   clear q2
   rw [hcg i hlt] at hword
   have hcdl:=zqu hk h15 i
   obtain ⟨x,hx⟩:∃x,x=l.getD i 0:=⟨_,rfl⟩
   obtain ⟨y,hy⟩:∃y,y=cd l i:=⟨_,rfl⟩
   have hx15:=hgd i
   rw [←hx] at hcell hx15
   rw [←hy] at hword hcdl
   have hhit:hit l n v i=(x == n&&decide (0 < n)&&y == v):=by unfold hit;rw [←hx,←hy]
   have hfar:far l n v i=(decide (n < x)&&y / 2 ^ (x - n) == v):=by unfold far;rw [←hx,←hy]
   have hsm1:(List.range (i+1)).any (far l n v)=(sm||far l n v i):=by rw [any_succ,←hsm]
   have hnext:hit l n v i=false→∀j,j < i+1→hit l n v j=false:=fun hh j hj=>by
    rcases Nat.lt_or_ge j i with h'|h'
    ·exact hnone j h'
    ·rw [show j=i from by omega];exact hh
   refine ze (zi (j:=i) rfl rfl rfl hlt) rfl ?_
   refine kW ?_
   refine ze (zq rfl hfn.there.there hcell) rfl ?_
   (repeat' first|refine kW ?_|refine kU fun bk=>?_|refine kV fun hc=>?_|refine kZ (fun hc=>?_) fun hc=>?_|fail)
   ·refine ze (zh (j:=i) (len:=ls.length) rfl rfl rfl hlt) rfl ?_
    refine kW ?_
    refine ze (zq rfl Fnd.here hword) rfl ?_
    (repeat' first|refine kW ?_|refine kU fun bk=>?_|refine kV fun hc=>?_|refine kZ (fun hc=>?_) fun hc=>?_|fail)
    ·have hh:hit l n v i=true:=by rw [hhit];simp;omega
     have hsy:Zk l n v=some i:=find_range (by omega) hh hnone
     rw [hsy] at hrd
     exact hfin i 0 n D1 _ _ hB1 hrd rfl rfl (fun w h=>iH h)
    ·have hh:hit l n v i=false:=by rw [hhit];simp;omega
     cases hsb:sm with
     |true=>
      refine zk [] mixed ?_
      (refine za 0 ?_;refine za 1 ?_)
      (refine zD 2 ?_;refine zD 3 ?_;refine zD 4 ?_;refine zD 5 ?_;refine zD 6 ?_;refine zD 7 ?_;refine zD 8 ?_)
      (refine qG 9 ?_;refine qG 10 ?_;refine qG 11 ?_;refine qG 12 ?_;refine qG 13 ?_;refine qG 14 ?_;refine qG 15 ?_;refine qG 16 ?_;refine qG 17 ?_;refine qG 18 ?_;refine qG 19 ?_;refine qG 20 ?_;refine qG 21 ?_)
      (refine zD 22 ?_)
      (refine za 23 ?_;refine za 24 ?_)
      refine cD ?_
      refine kW ?_
      refine zf (X:=Nat × Bool) (μ:=fun x=>ls.length - x.1) (x:=(i,true)) (i+1,true) (by simp only;omega) ⟨by simp only;omega,hnext hh,by simp only;rw [hsm1,hsb];rfl⟩ iS (fun w h=>iH h)
     |false=>
      by_cases hxn:n < x
      ·refine zk [] mixed ?_
       (refine za 0 ?_;refine za 1 ?_)
       (refine zN 2 ?_;refine zN 3 ?_)
       refine cO 4 rfl rfl rfl (zi (j:=i) rfl rfl rfl hlt) ?_
       refine cO 5 rfl rfl rfl (zq rfl hfn.there.there hcell) ?_
       (refine zN 6 ?_;refine zN 7 ?_)
       rw [show decide ((x:Int) > (n:Int))=true from by simp;omega]
       (refine zN 8 ?_;refine zN 9 ?_;refine zN 10 ?_)
       refine cO 11 rfl rfl rfl (zh (j:=i) (len:=ls.length) rfl rfl rfl hlt) ?_
       refine cO 12 rfl rfl rfl (zq rfl Fnd.here hword) ?_
       (refine zN 13 ?_;refine zN 14 ?_)
       refine cO 15 rfl rfl rfl (zi (j:=i) rfl rfl rfl hlt) ?_
       refine cO 16 rfl rfl rfl (zq rfl hfn.there.there hcell) ?_
       (refine zN 17 ?_;refine zN 18 ?_)
       rw [show (x:Int) - (n:Int)=((x - n:Nat):Int) from by omega]
       refine cO 19 rfl rfl rfl (Zo y (x - n) rfl rfl rfl rfl (by simp only [IntKind.bits];omega)) ?_
       (refine zN 20 ?_;refine zN 21 ?_;refine zN 22 ?_)
       (refine za 23 ?_;refine za 24 ?_)
       refine cD ?_
       refine kW ?_
       refine zf (X:=Nat × Bool) (μ:=fun x=>ls.length - x.1) (x:=(i,false)) (i+1,((y / 2 ^ (x - n):Nat):Int) == (v:Int)) (by simp only;omega) ⟨by simp only;omega,hnext hh,by simp only;rw [hsm1,hsb,hfar,decide_eq_true hxn,Bool.false_or,Bool.true_and,zcL]⟩ iS (fun w h=>iH h)
      ·refine zk [] mixed ?_
       (refine za 0 ?_;refine za 1 ?_)
       (refine zN 2 ?_;refine zN 3 ?_)
       refine cO 4 rfl rfl rfl (zi (j:=i) rfl rfl rfl hlt) ?_
       refine cO 5 rfl rfl rfl (zq rfl hfn.there.there hcell) ?_
       (refine zN 6 ?_;refine zN 7 ?_)
       rw [show decide ((x:Int) > (n:Int))=false from by simp;omega]
       (refine zN 8 ?_)
       (refine zD 9 ?_;refine zD 10 ?_;refine zD 11 ?_;refine zD 12 ?_;refine zD 13 ?_;refine zD 14 ?_;refine zD 15 ?_;refine zD 16 ?_;refine zD 17 ?_;refine zD 18 ?_;refine zD 19 ?_;refine zD 20 ?_;refine zD 21 ?_)
       (refine zN 22 ?_)
       (refine za 23 ?_;refine za 24 ?_)
       refine cD ?_
       refine kW ?_
       refine zf (X:=Nat × Bool) (μ:=fun x=>ls.length - x.1) (x:=(i,false)) (i+1,false) (by simp only;omega) ⟨by simp only;omega,hnext hh,by simp only;rw [hsm1,hsb,hfar,decide_eq_false hxn];rfl⟩ iS (fun w h=>iH h)
   ·have hh:hit l n v i=false:=by rw [hhit];simp;omega
    cases hsb:sm with
    |true=>
     refine zk [] mixed ?_
     (refine za 0 ?_;refine za 1 ?_)
     (refine zD 2 ?_;refine zD 3 ?_;refine zD 4 ?_;refine zD 5 ?_;refine zD 6 ?_;refine zD 7 ?_;refine zD 8 ?_)
     (refine qG 9 ?_;refine qG 10 ?_;refine qG 11 ?_;refine qG 12 ?_;refine qG 13 ?_;refine qG 14 ?_;refine qG 15 ?_;refine qG 16 ?_;refine qG 17 ?_;refine qG 18 ?_;refine qG 19 ?_;refine qG 20 ?_;refine qG 21 ?_)
     (refine zD 22 ?_)
     (refine za 23 ?_;refine za 24 ?_)
     refine cD ?_
     refine kW ?_
     refine zf (X:=Nat × Bool) (μ:=fun x=>ls.length - x.1) (x:=(i,true)) (i+1,true) (by simp only;omega) ⟨by simp only;omega,hnext hh,by simp only;rw [hsm1,hsb];rfl⟩ iS (fun w h=>iH h)
    |false=>
     by_cases hxn:n < x
     ·refine zk [] mixed ?_
      (refine za 0 ?_;refine za 1 ?_)
      (refine zN 2 ?_;refine zN 3 ?_)
      refine cO 4 rfl rfl rfl (zi (j:=i) rfl rfl rfl hlt) ?_
      refine cO 5 rfl rfl rfl (zq rfl hfn.there.there hcell) ?_
      (refine zN 6 ?_;refine zN 7 ?_)
      rw [show decide ((x:Int) > (n:Int))=true from by simp;omega]
      (refine zN 8 ?_;refine zN 9 ?_;refine zN 10 ?_)
      refine cO 11 rfl rfl rfl (zh (j:=i) (len:=ls.length) rfl rfl rfl hlt) ?_
      refine cO 12 rfl rfl rfl (zq rfl Fnd.here hword) ?_
      (refine zN 13 ?_;refine zN 14 ?_)
      refine cO 15 rfl rfl rfl (zi (j:=i) rfl rfl rfl hlt) ?_
      refine cO 16 rfl rfl rfl (zq rfl hfn.there.there hcell) ?_
      (refine zN 17 ?_;refine zN 18 ?_)
      rw [show (x:Int) - (n:Int)=((x - n:Nat):Int) from by omega]
      refine cO 19 rfl rfl rfl (Zo y (x - n) rfl rfl rfl rfl (by simp only [IntKind.bits];omega)) ?_
      (refine zN 20 ?_;refine zN 21 ?_;refine zN 22 ?_)
      (refine za 23 ?_;refine za 24 ?_)
      refine cD ?_
      refine kW ?_
      refine zf (X:=Nat × Bool) (μ:=fun x=>ls.length - x.1) (x:=(i,false)) (i+1,((y / 2 ^ (x - n):Nat):Int) == (v:Int)) (by simp only;omega) ⟨by simp only;omega,hnext hh,by simp only;rw [hsm1,hsb,hfar,decide_eq_true hxn,Bool.false_or,Bool.true_and,zcL]⟩ iS (fun w h=>iH h)
     ·refine zk [] mixed ?_
      (refine za 0 ?_;refine za 1 ?_)
      (refine zN 2 ?_;refine zN 3 ?_)
      refine cO 4 rfl rfl rfl (zi (j:=i) rfl rfl rfl hlt) ?_
      refine cO 5 rfl rfl rfl (zq rfl hfn.there.there hcell) ?_
      (refine zN 6 ?_;refine zN 7 ?_)
      rw [show decide ((x:Int) > (n:Int))=false from by simp;omega]
      (refine zN 8 ?_)
      (refine zD 9 ?_;refine zD 10 ?_;refine zD 11 ?_;refine zD 12 ?_;refine zD 13 ?_;refine zD 14 ?_;refine zD 15 ?_;refine zD 16 ?_;refine zD 17 ?_;refine zD 18 ?_;refine zD 19 ?_;refine zD 20 ?_;refine zD 21 ?_)
      (refine zN 22 ?_)
      (refine za 23 ?_;refine za 24 ?_)
      refine cD ?_
      refine kW ?_
      refine zf (X:=Nat × Bool) (μ:=fun x=>ls.length - x.1) (x:=(i,false)) (i+1,false) (by simp only;omega) ⟨by simp only;omega,hnext hh,by simp only;rw [hsm1,hsb,hfar,decide_eq_false hxn];rfl⟩ iS (fun w h=>iH h)
   ·have hh:hit l n v i=false:=by rw [hhit];simp;omega
    cases hsb:sm with
    |true=>
     refine zk [] mixed ?_
     (refine za 0 ?_;refine za 1 ?_)
     (refine zD 2 ?_;refine zD 3 ?_;refine zD 4 ?_;refine zD 5 ?_;refine zD 6 ?_;refine zD 7 ?_;refine zD 8 ?_)
     (refine qG 9 ?_;refine qG 10 ?_;refine qG 11 ?_;refine qG 12 ?_;refine qG 13 ?_;refine qG 14 ?_;refine qG 15 ?_;refine qG 16 ?_;refine qG 17 ?_;refine qG 18 ?_;refine qG 19 ?_;refine qG 20 ?_;refine qG 21 ?_)
     (refine zD 22 ?_)
     (refine za 23 ?_;refine za 24 ?_)
     refine cD ?_
     refine kW ?_
     refine zf (X:=Nat × Bool) (μ:=fun x=>ls.length - x.1) (x:=(i,true)) (i+1,true) (by simp only;omega) ⟨by simp only;omega,hnext hh,by simp only;rw [hsm1,hsb];rfl⟩ iS (fun w h=>iH h)
    |false=>
     by_cases hxn:n < x
     ·refine zk [] mixed ?_
      (refine za 0 ?_;refine za 1 ?_)
      (refine zN 2 ?_;refine zN 3 ?_)
      refine cO 4 rfl rfl rfl (zi (j:=i) rfl rfl rfl hlt) ?_
      refine cO 5 rfl rfl rfl (zq rfl hfn.there.there hcell) ?_
      (refine zN 6 ?_;refine zN 7 ?_)
      rw [show decide ((x:Int) > (n:Int))=true from by simp;omega]
      (refine zN 8 ?_;refine zN 9 ?_;refine zN 10 ?_)
      refine cO 11 rfl rfl rfl (zh (j:=i) (len:=ls.length) rfl rfl rfl hlt) ?_
      refine cO 12 rfl rfl rfl (zq rfl Fnd.here hword) ?_
      (refine zN 13 ?_;refine zN 14 ?_)
      refine cO 15 rfl rfl rfl (zi (j:=i) rfl rfl rfl hlt) ?_
      refine cO 16 rfl rfl rfl (zq rfl hfn.there.there hcell) ?_
      (refine zN 17 ?_;refine zN 18 ?_)
      rw [show (x:Int) - (n:Int)=((x - n:Nat):Int) from by omega]
      refine cO 19 rfl rfl rfl (Zo y (x - n) rfl rfl rfl rfl (by simp only [IntKind.bits];omega)) ?_
      (refine zN 20 ?_;refine zN 21 ?_;refine zN 22 ?_)
      (refine za 23 ?_;refine za 24 ?_)
      refine cD ?_
      refine kW ?_
      refine zf (X:=Nat × Bool) (μ:=fun x=>ls.length - x.1) (x:=(i,false)) (i+1,((y / 2 ^ (x - n):Nat):Int) == (v:Int)) (by simp only;omega) ⟨by simp only;omega,hnext hh,by simp only;rw [hsm1,hsb,hfar,decide_eq_true hxn,Bool.false_or,Bool.true_and,zcL]⟩ iS (fun w h=>iH h)
     ·refine zk [] mixed ?_
      (refine za 0 ?_;refine za 1 ?_)
      (refine zN 2 ?_;refine zN 3 ?_)
      refine cO 4 rfl rfl rfl (zi (j:=i) rfl rfl rfl hlt) ?_
      refine cO 5 rfl rfl rfl (zq rfl hfn.there.there hcell) ?_
      (refine zN 6 ?_;refine zN 7 ?_)
      rw [show decide ((x:Int) > (n:Int))=false from by simp;omega]
      (refine zN 8 ?_)
      (refine zD 9 ?_;refine zD 10 ?_;refine zD 11 ?_;refine zD 12 ?_;refine zD 13 ?_;refine zD 14 ?_;refine zD 15 ?_;refine zD 16 ?_;refine zD 17 ?_;refine zD 18 ?_;refine zD 19 ?_;refine zD 20 ?_;refine zD 21 ?_)
      (refine zN 22 ?_)
      (refine za 23 ?_;refine za 24 ?_)
      refine cD ?_
      refine kW ?_
      refine zf (X:=Nat × Bool) (μ:=fun x=>ls.length - x.1) (x:=(i,false)) (i+1,false) (by simp only;omega) ⟨by simp only;omega,hnext hh,by simp only;rw [hsm1,hsb,hfar,decide_eq_false hxn];rfl⟩ iS (fun w h=>iH h)
  ·have hil:i=l.length:=by omega
   have hsy:Zk l n v=none:=Y0 (by rw [←hil];exact hnone)
   have hex:XU l n v=false:=by unfold XU;rw [←hil,←hsm];simpa using hc
   rw [hsy] at hrd
   simp only at hrd
   rw [if_pos hex] at hrd
   exact hfin 0 3 n D1 _ _ hB1 hrd rfl rfl (fun w h=>iH h)
  ·have hil:i=l.length:=by omega
   have hsy:Zk l n v=none:=Y0 (by rw [←hil];exact hnone)
   have hex:¬XU l n v=false:=by unfold XU;rw [←hil,←hsm];simpa using hc
   rw [hsy] at hrd
   simp only at hrd
   rw [if_neg hex] at hrd
   have hB2:=hB1
   obtain ⟨ht,rfl,hob⟩:=hB2
   refine cP rfl rfl (zgu q d.length (t+n) fa fc _ _ (by repeat (first|assumption|exact Fnd.here|refine Fnd.there ?_)) hl ht) ?_
   (repeat' first|refine kW ?_|refine kU fun bk=>?_|refine kV fun hc=>?_|refine kZ (fun hc=>?_) fun hc=>?_|fail)
   ·rw [if_pos (by omega)] at hrd
    exact hfin 0 4 n _ _ _ hB1 hrd rfl rfl (fun w h=>iH h)
   ·rw [if_neg (by omega)] at hrd
    refine ze (vH v 1 rfl rfl rfl rfl rfl (by simp only [IntKind.bits];omega)) rfl ?_
    refine kW ?_
    refine cC rfl rfl (Gv.take (zgv q (t+n) _ d (C::L) (zm hob) hl (by omega)) (by repeat (first|exact Take.here|apply Take.there))) (fun r L' hp=>?_)
    obtain ⟨rfl,rfl⟩:=hp
    have hB3:BiS q d fa fc (t+n+1) [(q,cl [.slice fa d.length fc,.int .i64 ((t+n+1:Nat):Int)] 151)] L:=⟨by omega,rfl,hob⟩
    have hbt:val d / 2 ^ (t+n) % 2 < 2:=Nat.mod_lt _ (by decide)
    refine kW ?_
    refine ze (YT (val d / 2 ^ (t+n) % 2) v 1 rfl rfl rfl rfl rfl (by simpa using hbt) (by simp only [IntKind.bits];omega)) rfl ?_
    rw [show val d / 2 ^ (t+n) % 2+v * 2 ^ 1=hv (val d) t (n+1) from by simp only [hv];rw [←hv0];omega]
    refine kW ?_
    refine zf (X:=Nat × Chunk) (μ:=fun x=>16 - x.1) (x:=(n,D)) (n+1,_) (by simp only;omega) ⟨by simp only;omega,hB3,hrd⟩ iS (fun w h=>iH h)
 ·have hn16:n=16:=by omega
  subst hn16
  exact hfin 0 3 16 D1 _ _ hB1 hrd rfl rfl (fun w h=>iH h)
end Go.Proofs.YtfbfcapoobmdpaaGreatDoor
namespace Go.Hf
open Go.Vx Go.Pm
set_option linter.all false
theorem zkc (w t:Nat):∀n,hv w t n=mir (w / 2 ^ t) n
 |0=>rfl
 |n+1=>by
  rw [hv,mir,zkc w t n,Nat.div_div_eq_div_mul,←Nat.pow_add]
theorem zg6 (v:Nat) {m:Nat}:∀{n:Nat},n≤m→mir (v % 2 ^ m) n=mir v n
 |0,_=>rfl
 |n+1,h=>by
  rw [mir,mir,zg6 v (show n≤m by omega)]
  congr 1
  obtain ⟨k,rfl⟩:∃k,m=n+(k+1):=⟨m - n - 1,by omega⟩
  rw [Nat.pow_add,Nat.mod_mul_right_div_self]
  exact Nat.mod_mod_of_dvd _ (by rw [Nat.pow_succ];exact Nat.dvd_mul_left 2 (2 ^ k))
theorem zg5 (v:Nat):∀(n j:Nat),j < n→mir v n / 2 ^ j % 2=v / 2 ^ (n - 1 - j) % 2
 |0,j,h=>by omega
 |n+1,0,_=>by
  rw [mir,Nat.pow_zero,Nat.div_one,show n+1 - 1 - 0=n from by omega]
  omega
 |n+1,j+1,h=>by
  have ih:=zg5 v n j (by omega)
  rw [mir,Nat.pow_succ,Nat.mul_comm (2 ^ j),←Nat.div_div_eq_div_mul,show (2 * mir v n+v / 2 ^ n % 2) / 2=mir v n from by omega,ih]
  congr 2
  congr 1
  omega
theorem zer (v n:Nat):∀i,i≤n→mir (mir v n) i=v % 2 ^ n / 2 ^ (n - i)
 |0,_=>by
  rw [mir,Nat.sub_zero,Nat.div_eq_of_lt (Nat.mod_lt _ (Nat.pow_pos (by decide)))]
 |i+1,h=>by
  rw [mir,zer v n i (by omega),zg5 v n i (by omega)]
  have e:v % 2 ^ n / 2 ^ (n - (i+1))=v / 2 ^ (n - (i+1)) % 2 ^ (i+1):=by
   obtain ⟨k,rfl⟩:∃k,n=k+(i+1):=⟨n - (i+1),by omega⟩
   rw [show k+(i+1) - (i+1)=k from by omega,Nat.pow_add 2 k,Nat.mod_mul_right_div_self]
  have e2:v % 2 ^ n / 2 ^ (n - i)=v / 2 ^ (n - (i+1)) / 2 % 2 ^ i:=by
   obtain ⟨k,rfl⟩:∃k,n=k+(i+1):=⟨n - (i+1),by omega⟩
   rw [show k+(i+1) - (i+1)=k from by omega,show k+(i+1) - i=k+1 from by omega,Nat.div_div_eq_div_mul,←Nat.pow_succ,
    show k+(i+1)=(k+1)+i from by omega,Nat.pow_add 2 (k+1) i,Nat.mod_mul_right_div_self]
  rw [e,e2,show n - 1 - i=n - (i+1) from by omega,Nat.pow_succ,Nat.mul_comm (2 ^ i) 2,Nat.mod_mul]
  omega
theorem znw (v n:Nat):mir (mir v n) n=v % 2 ^ n:=by
 rw [zer v n n (Nat.le_refl _),Nat.sub_self,Nat.pow_zero,Nat.div_one]
theorem zkd (w t:Nat):∀(k m:Nat),hv w t m=hv w t (m+k) / 2 ^ k
 |0,m=>by simp
 |k+1,m=>by
  rw [zkd w t k m,←Nat.add_assoc,hv,Nat.pow_succ,Nat.mul_comm (2 ^ k),←Nat.div_div_eq_div_mul]
  congr 1
  omega
theorem zao {l:List Nat} {n v i:Nat}:hit l n v i=true↔l.getD i 0=n∧0 < n∧cd l i=v:=by
 simp [hit,and_assoc]
theorem getD_some {l:List Nat} {i n:Nat} (h:l.getD i 0=n) (h0:0 < n):l[i]? =some n:=by
 have hi:=getD_lt (l:=l) (i:=i) (by omega)
 rw [←h]
 simp [List.getD,hi]
theorem zbv {l:List Nat} {i n:Nat} (hi:l[i]? =some n) (h0:0 < n):Zk l n (cd l i)=some i:=by
 have hg:l.getD i 0=n:=by simp [List.getD,hi]
 have hl:=getD_lt (l:=l) (i:=i) (by omega)
 refine find_range hl (zao.2 ⟨hg,h0,rfl⟩) fun j hj=>?_
 cases hh:hit l n (cd l i) j with
 |false=>rfl
 |true=>
  obtain ⟨h1,h2,h3⟩:=zao.1 hh
  have:=zpd (getD_some h1 h2) hi (by omega) h3
  omega
theorem zbu {l:List Nat} {n v:Nat} (h:v < fs l n∨fs l n+cn l n≤v):Zk l n v=none:=by
 refine Y0 fun j hj=>?_
 cases hh:hit l n v j with
 |false=>rfl
 |true=>
  obtain ⟨h1,h2,h3⟩:=zao.1 hh
  have:=zd2 (getD_some h1 h2) (by omega)
  omega
theorem QZ {l:List Nat} {v:Nat}:Zk l 0 v=none:=by
 refine Y0 fun j hj=>?_
 simp [hit]
theorem zaV {l:List Nat} {n v:Nat}:XU l n v=true↔ext l n v:=by
 unfold XU ext
 rw [List.any_eq_true]
 constructor
 ·rintro ⟨i,hi,hf⟩
  simp only [far,Bool.and_eq_true,decide_eq_true_eq,beq_iff_eq] at hf
  exact ⟨i,l.getD i 0,getD_some rfl (by omega),hf.1,hf.2⟩
 ·rintro ⟨i,m,hi,hm,he⟩
  have hg:l.getD i 0=m:=by simp [List.getD,hi]
  refine ⟨i,List.mem_range.2 (getD_lt (by omega)),?_⟩
  simp only [far,hg,Bool.and_eq_true,decide_eq_true_eq,beq_iff_eq]
  exact ⟨hm,he⟩
theorem zp0 {l:List Nat} {i n w t z:Nat} (hi:l[i]? =some n) (h0:0 < n) (h15:n≤15) (hb:hv w t n=cd l i) (hz:t+n≤z):rdS l w t z 16 0=(i,0,n):=by
 have key:∀m,m≤n→rdS l w t z 16 0=rdS l w t z (16 - m) m:=by
  intro m
  induction m with
  |zero=>intro _;rfl
  |succ m ih=>
   intro hm
   rw [ih (by omega),show 16 - m=(16 - (m+1))+1 from by omega,rdS]
   have hp:hv w t m=cd l i / 2 ^ (n - m):=by
    rw [←hb,zkd w t (n - m) m,show m+(n - m)=n from by omega]
   have hs:Zk l m (hv w t m)=none:=by
    rcases Nat.eq_zero_or_pos m with h|h
    ·subst h;exact QZ
    ·exact zbu (.inr (by rw [hp];exact zbX hi h (by omega)))
   have he:¬XU l m (hv w t m)=false:=by
    have:XU l m (hv w t m)=true:=zaV.2 ⟨i,n,hi,by omega,hp.symm⟩
    rw [this];simp
   rw [hs]
   simp only
   rw [if_neg he,if_neg (by omega)]
 rw [key n (Nat.le_refl _),show 16 - n=(15 - n)+1 from by omega,rdS,hb,zbv hi h0]
theorem zki (l:List Nat):kS l=(((List.range l.length).filter fun i=>decide (0 < l.getD i 0)).map fun i=>2 ^ (15 - l.getD i 0)).sum:=by
 have key:∀n,n≤l.length→kS (l.take n)=(((List.range n).filter fun i=>decide (0 < l.getD i 0)).map fun i=>2 ^ (15 - l.getD i 0)).sum:=by
  intro n
  induction n with
  |zero=>intro _;rfl
  |succ n ih=>
   intro hn
   have hlt:n < l.length:=by omega
   have hg:l.getD n 0=l[n]:=by simp [List.getD,hlt]
   rw [List.take_add_one,List.getElem?_eq_getElem hlt,zfz,ih (by omega),List.range_succ,List.filter_append,List.map_append,List.sum_append]
   congr 1
   simp only [Option.toList,kS,←hg]
   generalize hq:(fun i=>decide (0 < l.getD i 0))=q
   have hqn:q n=decide (0 < l.getD n 0):=by rw [←hq]
   by_cases h:0 < l.getD n 0
   ·rw [if_pos h,List.filter_cons,hqn,if_pos (by simpa using h)]
    rfl
   ·rw [if_neg h,List.filter_cons,hqn,if_neg (by simpa using h)]
    rfl
 have:=key l.length (Nat.le_refl _)
 rwa [List.take_length] at this
theorem zgS {l is:List Nat} (h:is.Perm ((List.range l.length).filter fun i=>decide (0 < l.getD i 0))):kS l=(is.map fun i=>2 ^ (15 - l.getD i 0)).sum:=by
 rw [zki]
 exact ((h.map _).sum_nat).symm
theorem zir (f:Nat→Nat) (is:List Nat):sumTo (fun r=>f (is.getD r 0)) is.length=(is.map f).sum:=by
 have key:∀n,n≤is.length→sumTo (fun r=>f (is.getD r 0)) n=((is.take n).map f).sum:=by
  intro n
  induction n with
  |zero=>intro _;rfl
  |succ n ih=>
   intro hn
   have hlt:n < is.length:=by omega
   rw [sumTo,ih (by omega),List.take_add_one,List.getElem?_eq_getElem hlt,List.map_append,List.sum_append]
   simp [List.getD,hlt]
 have:=key is.length (Nat.le_refl _)
 rwa [List.take_length] at this
theorem zcq (c:Nat) (f:Nat→Nat):∀n,sumTo (fun r=>c * f r) n=c * sumTo f n
 |0=>rfl
 |n+1=>by simp only [sumTo,zcq c f n,Nat.mul_add]
theorem zkj {l is:List Nat} {L:Nat} {g:Nat→Nat} (h:is.Perm ((List.range l.length).filter fun i=>decide (0 < l.getD i 0))) (hL:L≤15) (hg:∀r,r < is.length→l.getD (is.getD r 0) 0=g r) (hb:∀r,r < is.length→g r≤L)
 (hw:sumTo (fun r=>2 ^ (L - g r)) is.length=2 ^ L):kS l=32768:=by
 rw [zgS h,←zir]
 have e:sumTo (fun r=>2 ^ (15 - l.getD (is.getD r 0) 0)) is.length=2 ^ (15 - L) * sumTo (fun r=>2 ^ (L - g r)) is.length:=by
  rw [←zcq]
  refine sumTo_congr fun r hr=>?_
  rw [hg r hr,←Nat.pow_add]
  have:=hb r hr
  congr 1
  omega
 rw [e,hw,←Nat.pow_add,show 15 - L+L=15 from by omega]
end Go.Hf
